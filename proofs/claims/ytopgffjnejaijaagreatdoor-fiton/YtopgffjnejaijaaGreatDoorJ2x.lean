import Derived.Test.YtopgffjnejaijaaGreatDoorD16x
import Derived.Test.YtopgffjnejaijaaGreatDoorD21x
import Derived.Deep.Cut
import Derived.Deep.RegionHeld3
import Derived.Deep.RegionWith
import Derived.Deep.CutRange
import Derived.Test.YtopgffjnejaijaaGreatDoorW24x
import Derived.BigQuiet
import Derived.Test.YtopgffjnejaijaaGreatDoorBIeeex
import Derived.Test.YtopgffjnejaijaaGreatDoorS11ax
import Derived.Laws.Bits64
import Derived.Laws.Bits64b
import Derived.Test.YtopgffjnejaijaaGreatDoorD14x
set_option linter.unusedVariables false
set_option linter.unusedSimpArgs false
set_option maxHeartbeats 16000000
set_option maxRecDepth 20000
namespace Go.Proofs.YtopgffjnejaijaaGreatDoor
namespace J
end J
namespace J
open Ieee B
structure NEf (f:Format) (R V S:Nat):Prop where
 up:2*V≤(B.val f R+B.val f (R+1))*S
 upe:2*V=(B.val f R+B.val f (R+1))*S→R%2=0
 dn:0<R→(B.val f (R-1)+B.val f R)*S≤2*V
 dne:0<R→(B.val f (R-1)+B.val f R)*S=2*V→R%2=0
abbrev NE (R V S:Nat):Prop:=NEf double R V S
theorem dB:double.binade=4503599627370496:=by decide
theorem vmono {R Q:Nat}(h:R≤Q):B.val double R≤B.val double Q:=by
 rcases Nat.lt_or_eq_of_le h with h|h
 · exact Nat.le_of_lt (B.val_lt _ h)
 · rw [h];exact Nat.le_refl _
theorem NEf.lt_no {R Q V S:Nat}(h:NE R V S) (k:NE Q V S) (hS:0<S) (hl:R<Q):False:=by
 have h1:=h.up;have h2:=k.dn (by omega)
 have m1:B.val double R≤B.val double (Q-1):=vmono (by omega)
 have m2:B.val double (R+1)≤B.val double Q:=vmono (by omega)
 have m3:=Nat.mul_le_mul_right S (Nat.add_le_add m1 m2);have e1:=h.upe (by omega)
 have e2:=k.dne (by omega) (by omega)
 have e3:(B.val double R+B.val double (R+1))*S=(B.val double (Q-1)+B.val double Q)*S:=by omega
 have e4:=Nat.eq_of_mul_eq_mul_right hS e3
 have:R+1=Q:=by
  apply Nat.le_antisymm (by omega)
  apply Nat.le_of_not_lt;intro hh
  have:=B.val_lt double (show R<Q-1 by omega)
  omega
 omega
theorem NEf.one {R Q V S:Nat}(h:NE R V S) (k:NE Q V S) (hS:0<S):R=Q:=by
 rcases Nat.lt_trichotomy R Q with c|c|c
 · exact (h.lt_no k hS c).elim
 · exact c
 · exact (k.lt_no h hS c).elim
theorem NEf.own {K V S:Nat}(hS:0<S) (h:V=B.val double K*S):NE K V S:=by
 have h1:=Nat.mul_lt_mul_of_pos_right (B.val_lt_succ double K) hS;refine ⟨?_,?_,?_,?_⟩
 · rw [Nat.add_mul];omega
 · rw [Nat.add_mul];omega
 · intro h0
   have h2:=Nat.mul_lt_mul_of_pos_right (B.val_lt double (show K-1<K by omega)) hS
   rw [Nat.add_mul];omega
 · intro h0
   have h2:=Nat.mul_lt_mul_of_pos_right (B.val_lt double (show K-1<K by omega)) hS
   rw [Nat.add_mul];omega
theorem nearest_nef (f:Format) (hB2:f.binade%2=0) (neg:Bool) (mag k a:Nat) (hm:mag≠0) :
 ∃ R,f.nearest neg mag (f.leastPlace+(k:Int)-(a:Int))=f.word neg (min R f.infRung)∧NEf f R (mag*2^k) (2^a):=by
 unfold Format.nearest;rw [if_neg hm];simp only [cut_even,Nat.shiftLeft_eq];have hl:=(Nat.log2_eq_iff hm (k:=mag.log2)).1 rfl;generalize mag.log2=L at *;have hB:f.binade=2^f.fractionBits:=rfl;have hb:=binade_pos f
 obtain ⟨j,hj⟩:∃ j:Nat,max (f.leastPlace+(k:Int)-(a:Int)+(L:Int)-(f.fractionBits:Int)) f.leastPlace=f.leastPlace+j :=
  ⟨(max (f.leastPlace+(k:Int)-(a:Int)+(L:Int)-(f.fractionBits:Int)) f.leastPlace-f.leastPlace).toNat,by omega⟩
 have hj1:k+L≤a+f.fractionBits+j:=by omega
 have hj2:j=0∨k+L=a+f.fractionBits+j:=by omega
 rw [hj];have e3:(f.leastPlace+(j:Int)-f.leastPlace).toNat=j:=by omega
 have e1:(f.leastPlace+(k:Int)-(a:Int)-(f.leastPlace+(j:Int))).toNat=k-(a+j):=by omega
 have e2:(f.leastPlace+(j:Int)-(f.leastPlace+(k:Int)-(a:Int))).toNat=a+j-k:=by omega
 rw [e1,e2,e3];have hg:0<2^(a+j-k):=Nat.two_pow_pos _
 have hV:mag*2^k*2^(a+j-k)=mag*2^(k-(a+j))*2^(a+j):=by
  rw [Nat.mul_assoc,Nat.mul_assoc,←Nat.pow_add,←Nat.pow_add]
  congr 2;omega
 have up:mag*2^(k-(a+j))<2*f.binade*2^(a+j-k):=by
  have:2*f.binade=2^(f.fractionBits+1):=by rw [hB,Nat.pow_succ,Nat.mul_comm]
  rw [this,←Nat.pow_add];refine Nat.lt_of_lt_of_le (Nat.mul_lt_mul_of_pos_right hl.2 (Nat.two_pow_pos _)) ?_;rw [←Nat.pow_add];exact Nat.pow_le_pow_right (by omega) (by omega)
 have dn:j=0∨f.binade*2^(a+j-k)≤mag*2^(k-(a+j)):=by
  rcases hj2 with h|h
  · exact Or.inl h
  · right
    refine Nat.le_trans ?_ (Nat.mul_le_mul_right _ hl.1);rw [hB,←Nat.pow_add,←Nat.pow_add];exact Nat.pow_le_pow_right (by omega) (by omega)
 generalize hm':mag*2^(k-(a+j))=m' at *;generalize 2^(a+j-k)=g at *;generalize mag*2^k=V at *;have hdm:=Nat.div_add_mod m' g;have hmod:=Nat.mod_lt m' hg;have hlow:m'/g<2*f.binade:=(Nat.div_lt_iff_lt_mul hg).2 up
 have hlow2:j=0∨f.binade≤m'/g:=by
  rcases dn with h|h
  · exact Or.inl h
  · exact Or.inr ((Nat.le_div_iff_mul_le hg).2 h)
 have hp2:0<2^(a+j):=Nat.two_pow_pos _;have hS:0<2^a:=Nat.two_pow_pos _
 have v0:B.val f (j*f.binade+m'/g)*2^a=m'/g*2^(a+j):=by
  rw [val_at f j _ hlow2 (by omega),Nat.mul_assoc,←Nat.pow_add,Nat.add_comm j a]
 have v1:B.val f (j*f.binade+(m'/g+1))*2^a=(m'/g+1)*2^(a+j):=by
  rw [val_at f j _ (by omega) (by omega),Nat.mul_assoc,←Nat.pow_add,Nat.add_comm j a]
 have par:∀ n,(j*f.binade+n)%2=n%2:=by intro n;rw [Nat.add_mod,Nat.mul_mod,hB2,Nat.mul_zero,Nat.zero_mod,Nat.zero_add,Nat.mod_mod]
 generalize 2^(a+j)=p at *;generalize 2^a=S at *;clear hj hj1 hj2 e1 e2 e3 up dn hm' hl hm hlow hlow2
 show ∃ R,f.word neg (min (j*f.binade+rte m' g) f.infRung)=f.word neg (min R f.infRung)∧NEf f R V S
 refine ⟨j*f.binade+rte m' g,rfl,?_⟩;unfold rte;generalize m'/g=q at *;generalize m'%g=r at *;have hVg:V*g=q*p*g+r*p:=by rw [hV,←hdm,Nat.add_mul,Nat.mul_comm g q,Nat.mul_right_comm]
 have hV0:q*p≤V:=by
  apply Nat.le_of_mul_le_mul_right _ hg
  omega
 have hV1:V<(q+1)*p:=by
  apply Nat.lt_of_mul_lt_mul_right (a:=g)
  have:=Nat.mul_lt_mul_of_pos_right hmod hp2;rw [hVg,Nat.succ_mul,Nat.add_mul,Nat.mul_comm p g];omega
 have eM:(q*p+(q+1)*p)*g=2*(q*p*g)+g*p:=by rw [Nat.succ_mul,Nat.add_mul,Nat.add_mul,Nat.mul_comm p g];omega
 have e2V:2*V*g=2*(q*p*g)+2*r*p:=by rw [Nat.mul_assoc,hVg,Nat.mul_add,Nat.mul_assoc 2 r p]
 have cle:∀ x y:Nat,x≤y→x*p≤y*p:=fun x y h=>Nat.mul_le_mul_right _ h
 cases hc:(decide (g<2*r) || (g==2*r&&q%2==1))
 · simp only [Bool.toNat_false,Nat.add_zero]
   simp only [Bool.or_eq_false_iff,decide_eq_false_iff_not,Bool.and_eq_false_iff,beq_eq_false_iff_ne] at hc;refine ⟨?_,?_,?_,?_⟩
   · rw [Nat.add_mul,v0,Nat.add_assoc,v1]
     apply Nat.le_of_mul_le_mul_right _ hg
     have:=cle (2*r) g (by omega)
     omega
   · rw [Nat.add_mul,v0,Nat.add_assoc,v1,par]
     intro h;have h2:2*V*g=(q*p+(q+1)*p)*g:=by rw [h]
     have h3:2*r*p=g*p:=by omega
     have h4:=Nat.eq_of_mul_eq_mul_right hp2 h3;omega
   · intro h0
     have:=Nat.mul_lt_mul_of_pos_right (B.val_lt f (show j*f.binade+q-1<j*f.binade+q by omega)) hS
     rw [Nat.add_mul];omega
   · intro h0
     have:=Nat.mul_lt_mul_of_pos_right (B.val_lt f (show j*f.binade+q-1<j*f.binade+q by omega)) hS
     rw [Nat.add_mul];omega
 · simp only [Bool.toNat_true]
   simp only [Bool.or_eq_true,decide_eq_true_eq,Bool.and_eq_true,beq_iff_eq] at hc;have lt2:=Nat.mul_lt_mul_of_pos_right (B.val_lt_succ f (j*f.binade+(q+1))) hS;refine ⟨?_,?_,?_,?_⟩
   · rw [Nat.add_mul];omega
   · rw [Nat.add_mul];omega
   · intro _
     rw [show j*f.binade+(q+1)-1=j*f.binade+q from rfl,Nat.add_mul,v0,v1]
     apply Nat.le_of_mul_le_mul_right _ hg
     have:=cle g (2*r) (by omega)
     omega
   · intro _
     rw [show j*f.binade+(q+1)-1=j*f.binade+q from rfl,Nat.add_mul,v0,v1,par]
     intro h;have h2:2*V*g=(q*p+(q+1)*p)*g:=by rw [h]
     have h3:2*r*p=g*p:=by omega
     have h4:=Nat.eq_of_mul_eq_mul_right hp2 h3;omega
theorem nearest_ne (neg:Bool) (mag k a:Nat) (hm:mag≠0) :
 ∃ R,double.nearest neg mag (double.leastPlace+(k:Int)-(a:Int))=double.word neg (min R double.infRung)∧NE R (mag*2^k) (2^a):=nearest_nef double (by rw [dB]) neg mag k a hm
end J
section
open Go.RowKit
theorem mul_res (W:World) (g:Nat) (n:Bool) (v:Value) (e k:Int) (tmps:Array Value) (ht:tmps[4]?.getD undef=.pointer (some ⟨g,0,none⟩)) (hk:tmps[5]?.getD undef=.int .i64 k) (D:Dk W g n v e) :
 (results Tryz.f17 tmps).run Tryz.prog W=.ok (.tuple #[.agg #[.bool n,v,.int .i64 e],.int .i64 k]) W:=by
 obtain ⟨x0,x1,x2,xf0,xf1,xf2⟩:=D.facts;simp [results,Tryz.results17,ht,hk,go_sem,x0,x1,x2]
theorem mul_bad {w:World}{a b:Option Addr}{l c k d:Nat}(n m:Bool) (e f:Int) (HFM:Hid (∀ u,Below w.heap.size w u→Calls Tryz.prog 36 #[.agg #[.bool n,.slice a l c,.int .i64 e],.agg #[.bool m,.slice b k d,.int .i64 f]] u fun r w'=>r=.returned (.tuple #[.agg #[.bool false,.slice none 0 0,.int .i64 0],.agg #[.bool false,.slice none 0 0,.int .i64 0],.int .i64 2])∧Below u.heap.size u w')):Calls Tryz.prog 17 #[.agg #[.bool n,.slice a l c,.int .i64 e],.agg #[.bool m,.slice b k d,.int .i64 f]] w fun r w'=>r=.returned (.tuple #[.agg #[.bool false,.slice none 0 0,.int .i64 0],.int .i64 2])∧Below w.heap.size w w':=by
 obtain ⟨W1,hW1⟩:∃ W,W=((w.alloc (.cells #[.bool n,.slice a l c,.int .i64 e] 42)).alloc (.cells #[.bool m,.slice b k d,.int .i64 f] 42)).alloc (.cells #[.bool false,.slice none 0 0,.int .i64 0] 42):=⟨_,rfl⟩;obtain ⟨hB,hz1,DA,DB,DR⟩:=add_begin w n m (.slice a l c) (.slice b k d) e f W1 hW1;have H1:=hid (HFM.out W1 hB);have SB:=(qsd (ai hB (ai hz1 (ai DA (ai DB DR)))));clear hB hz1 DA DB DR HFM;go_enter Tryz.func17,Tryz.ntmps17
 go_wp2_with fail
 rw [←hW1];clear hW1;refine H1.out.mono ?_;rintro r u1 ⟨rfl,hb⟩;obtain ⟨hB,hz1,DA,DB,DR⟩:=SB.out;have EA:=DA.below hb;have EB:=DB.below hb;have ER:=DR.below hb;obtain ⟨x0,x1,x2,xf0,xf1,xf2⟩:=EA.facts;obtain ⟨y0,y1,y2,yf0,yf1,yf2⟩:=EB.facts;obtain ⟨r0,r1,r2,rf0,rf1,rf2⟩:=ER.facts;have F1:=qsd (show Fin w.heap.size (w.heap.size+3) w u1 (.slice none 0 0) 0 from ⟨Nt.nil _ _,hB.trans (hb.mono (by omega)),by have:=hb.size;omega⟩)
 have SE:=qsd ER;clear hb H1 hB hz1 DA DB DR EA EB ER SB;go_wp2;refine bodyPost_ret (mul_res _ (w.heap.size+1+1) false (.slice none 0 0) 0 2 _ rfl rfl (((SE.out.other _ (by omega) _ _ _).other _ (by omega) _ _ _).set _ _ _)) rfl ⟨rfl,?_⟩
 refine Fin.bel (m:=w.heap.size+3) (v:=.slice none 0 0) (X:=0) ?_
 repeat (with_reducible first | exact F1.out | refine Fin.drew ?_ | refine Fin.alloc ?_ _ | refine Fin.set ?_ _ _ _ (by omega) (by omega))
theorem mul_long {w:World}{a b:Option Addr}{l c k d:Nat}(n m:Bool) (e f:Int) (n1 m1:Bool) (X Y:Nat) (e1 f1:Int) (lX:(ws X).length≤8192) (lY:(ws Y).length≤8192) (be0:-1048576≤e1) (be1:e1≤1048576) (bf0:-1048576≤f1) (bf1:f1≤1048576)
 (HFM:Hid (∀ u,Below w.heap.size w u→Calls Tryz.prog 36 #[.agg #[.bool n,.slice a l c,.int .i64 e],.agg #[.bool m,.slice b k d,.int .i64 f]] u fun r w'=>∃ v v',r=.returned (.tuple #[.agg #[.bool n1,v,.int .i64 e1],.agg #[.bool m1,v',.int .i64 f1],.int .i64 0])∧Nt u.heap.size w' v X∧Nt u.heap.size w' v' Y∧Below u.heap.size u w'))
 (HSH:Hid (∀ (u:World) (p:Option Addr) (q:Nat) (p2:Option Addr) (q2:Nat),Below w.heap.size w u→Arg u p (ws X).length q (ws X)→Arg u p2 (ws Y).length q2 (ws Y)→Calls Tryz.prog 37 #[.slice p (ws X).length q,.slice p2 (ws Y).length q2] u fun r w'=>∃ v,r=.returned (.tuple #[v,.int .i64 2])∧Nt u.heap.size w' v 0∧Below u.heap.size u w')):Calls Tryz.prog 17 #[.agg #[.bool n,.slice a l c,.int .i64 e],.agg #[.bool m,.slice b k d,.int .i64 f]] w fun r w'=>r=.returned (.tuple #[.agg #[.bool false,.slice none 0 0,.int .i64 0],.int .i64 2])∧Below w.heap.size w w':=by
 have l0:(ws 0).length=0:=by rw [ws_zero];rfl
 obtain ⟨W1,hW1⟩:∃ W,W=((w.alloc (.cells #[.bool n,.slice a l c,.int .i64 e] 42)).alloc (.cells #[.bool m,.slice b k d,.int .i64 f] 42)).alloc (.cells #[.bool false,.slice none 0 0,.int .i64 0] 42):=⟨_,rfl⟩;obtain ⟨hB,hz1,DA,DB,DR⟩:=add_begin w n m (.slice a l c) (.slice b k d) e f W1 hW1;have H1:=hid (HFM.out W1 hB);have SB:=(qsd (ai hB (ai hz1 (ai DA (ai DB DR)))));clear hB hz1 DA DB DR HFM;go_enter Tryz.func17,Tryz.ntmps17
 go_wp2_with fail
 rw [←hW1];clear hW1;refine H1.out.mono ?_;rintro r u1 ⟨v,v',rfl,hN,hM,hb⟩;obtain ⟨a1,c1,rfl,_⟩:=hN.arg (by omega)
 obtain ⟨a2,c2,rfl,_⟩:=hM.arg (by omega)
 obtain ⟨hB,hz1,DA,DB,DR⟩:=SB.out;have EA:=DA.below hb;have EB:=DB.below hb;have ER:=DR.below hb;obtain ⟨x0,x1,x2,xf0,xf1,xf2⟩:=EA.facts;obtain ⟨y0,y1,y2,yf0,yf1,yf2⟩:=EB.facts;obtain ⟨r0,r1,r2,rf0,rf1,rf2⟩:=ER.facts;have FX:=qsd (show Fin w.heap.size (w.heap.size+3) w u1 (.slice a1 (ws X).length c1) X from ⟨by rw [←hz1];exact hN,hB.trans (hb.mono (by omega)),by have:=hb.size;omega⟩)
 have FY:=qsd (show Fin w.heap.size (w.heap.size+3) w u1 (.slice a2 (ws Y).length c2) Y from ⟨by rw [←hz1];exact hM,hB.trans (hb.mono (by omega)),by have:=hb.size;omega⟩)
 have SE:=(qsd (ai EA (ai EB ER)));clear hN hM hb H1 hB hz1 DA DB DR EA EB ER SB;obtain ⟨EA,EB,ER⟩:=SE.out;obtain ⟨U1,hU1⟩:∃ U,U=st3 (st3 u1 w.heap.size (.bool n1) (.slice a1 (ws X).length c1) (.int .i64 e1)) (w.heap.size+1) (.bool m1) (.slice a2 (ws Y).length c2) (.int .i64 f1):=⟨_,rfl⟩;have IA:Dk U1 w.heap.size n1 (.slice a1 (ws X).length c1) e1:=by rw [hU1];exact ((EA.set _ _ _).other _ (by omega) _ _ _)
 have IB:Dk U1 (w.heap.size+1) m1 (.slice a2 (ws Y).length c2) f1:=by rw [hU1];exact ((EB.other _ (by omega) _ _ _).set _ _ _)
 have IR:Dk U1 (w.heap.size+1+1) false (.slice none 0 0) 0:=by rw [hU1];exact ((ER.other _ (by omega) _ _ _).other _ (by omega) _ _ _)
 have GX:Fin w.heap.size (w.heap.size+3) w U1 (.slice a1 (ws X).length c1) X:=by rw [hU1];exact (Fin.st3 (Fin.st3 FX.out _ _ _ _ (by omega) (by omega)) _ _ _ _ (by omega) (by omega))
 have GY:Fin w.heap.size (w.heap.size+3) w U1 (.slice a2 (ws Y).length c2) Y:=by rw [hU1];exact (Fin.st3 (Fin.st3 FY.out _ _ _ _ (by omega) (by omega)) _ _ _ _ (by omega) (by omega))
 have H2:=hid (HSH.out U1 a1 c1 a2 c2 GX.bel (GX.nt.arg' (by omega)).2 (GY.nt.arg' (by omega)).2)
 have S1:=(qsd (ai IA (ai IB (ai IR (ai GX GY)))));have hzU:w.heap.size+3≤U1.heap.size:=by have:=IR.lt;omega
 clear EA EB ER IA IB IR GX GY SE HSH;unfold st3 at hU1
 go_wp2_with fail
 rw [←hU1];clear hU1 x0 x1 x2 xf0 xf1 xf2 y0 y1 y2 yf0 yf1 yf2 r0 r1 r2 rf0 rf1 rf2;refine H2.out.mono ?_;rintro r u2 ⟨v,rfl,hN,hb⟩;obtain ⟨a3,c3,rfl,_⟩:=hN.arg (by omega)
 obtain ⟨IA,IB,IR,GX,GY⟩:=S1.out;obtain ⟨x0,x1,x2,xf0,xf1,xf2⟩:=(IA.below hb).facts;obtain ⟨y0,y1,y2,yf0,yf1,yf2⟩:=(IB.below hb).facts;obtain ⟨r0,r1,r2,rf0,rf1,rf2⟩:=(IR.below hb).facts;have S2:=(qsd (ai (IR.below hb) ((GX.below hb))));clear hN hb H2 S1 IA IB IR GX GY;go_wp2;refine bodyPost_ret (mul_res _ (w.heap.size+1+1) false (.slice none 0 0) 0 2 _ rfl rfl (S2.out.1.set _ _ _)) rfl ⟨rfl,?_⟩;refine Fin.bel (m:=w.heap.size+3) (v:=.slice a1 (ws X).length c1) (X:=X) ?_
 repeat (with_reducible first | exact S2.out.2 | refine Fin.drew ?_ | refine Fin.alloc ?_ _ | refine Fin.set ?_ _ _ _ (by omega) (by omega))
theorem mul_ok {w:World}{a b:Option Addr}{l c k d:Nat}(n m:Bool) (e f:Int) (n1 m1:Bool) (X Y:Nat) (e1 f1:Int) (lX:(ws X).length≤8192) (lY:(ws Y).length≤8192) (be0:-1048576≤e1) (be1:e1≤1048576) (bf0:-1048576≤f1) (bf1:f1≤1048576)
 (HFM:Hid (∀ u,Below w.heap.size w u→Calls Tryz.prog 36 #[.agg #[.bool n,.slice a l c,.int .i64 e],.agg #[.bool m,.slice b k d,.int .i64 f]] u fun r w'=>∃ v v',r=.returned (.tuple #[.agg #[.bool n1,v,.int .i64 e1],.agg #[.bool m1,v',.int .i64 f1],.int .i64 0])∧Nt u.heap.size w' v X∧Nt u.heap.size w' v' Y∧Below u.heap.size u w')) (L:Nat) (lL:(ws L).length≤8192) (dn:Bool) (V:Nat) (de er:Int) (lV:(ws V).length≤8192)
 (HSH:Hid (∀ (u:World) (p:Option Addr) (q:Nat) (p2:Option Addr) (q2:Nat),Below w.heap.size w u→Arg u p (ws X).length q (ws X)→Arg u p2 (ws Y).length q2 (ws Y)→Calls Tryz.prog 37 #[.slice p (ws X).length q,.slice p2 (ws Y).length q2] u fun r w'=>∃ v,r=.returned (.tuple #[v,.int .i64 0])∧Nt u.heap.size w' v L∧Below u.heap.size u w'))
 (HT:Hid (∀ (u:World) (p:Option Addr) (s:Nat),Below w.heap.size w u→Arg u p (ws L).length s (ws L)→Calls Tryz.prog 34 #[.bool (n1 != m1),.slice p (ws L).length s,.int .i64 (e1+f1)] u fun r w'=>(∃ v,r=.returned (.tuple #[.agg #[.bool dn,v,.int .i64 de],.int .i64 er])∧Nt u.heap.size w' v V)∧Below u.heap.size u w')):Calls Tryz.prog 17 #[.agg #[.bool n,.slice a l c,.int .i64 e],.agg #[.bool m,.slice b k d,.int .i64 f]] w fun r w'=>(∃ v,r=.returned (.tuple #[.agg #[.bool dn,v,.int .i64 de],.int .i64 er])∧Nt w.heap.size w' v V)∧Below w.heap.size w w':=by
 obtain ⟨W1,hW1⟩:∃ W,W=((w.alloc (.cells #[.bool n,.slice a l c,.int .i64 e] 42)).alloc (.cells #[.bool m,.slice b k d,.int .i64 f] 42)).alloc (.cells #[.bool false,.slice none 0 0,.int .i64 0] 42):=⟨_,rfl⟩;obtain ⟨hB,hz1,DA,DB,DR⟩:=add_begin w n m (.slice a l c) (.slice b k d) e f W1 hW1;have H1:=hid (HFM.out W1 hB);have SB:=(qsd (ai hB (ai hz1 (ai DA (ai DB DR)))));clear hB hz1 DA DB DR HFM;go_enter Tryz.func17,Tryz.ntmps17
 go_wp2_with fail
 rw [←hW1];clear hW1;refine H1.out.mono ?_;rintro r u1 ⟨v,v',rfl,hN,hM,hb⟩;obtain ⟨a1,c1,rfl,_⟩:=hN.arg (by omega)
 obtain ⟨a2,c2,rfl,_⟩:=hM.arg (by omega)
 obtain ⟨hB,hz1,DA,DB,DR⟩:=SB.out;have EA:=DA.below hb;have EB:=DB.below hb;have ER:=DR.below hb;obtain ⟨x0,x1,x2,xf0,xf1,xf2⟩:=EA.facts;obtain ⟨y0,y1,y2,yf0,yf1,yf2⟩:=EB.facts;obtain ⟨r0,r1,r2,rf0,rf1,rf2⟩:=ER.facts;have FX:=qsd (show Fin w.heap.size (w.heap.size+3) w u1 (.slice a1 (ws X).length c1) X from ⟨by rw [←hz1];exact hN,hB.trans (hb.mono (by omega)),by have:=hb.size;omega⟩)
 have FY:=qsd (show Fin w.heap.size (w.heap.size+3) w u1 (.slice a2 (ws Y).length c2) Y from ⟨by rw [←hz1];exact hM,hB.trans (hb.mono (by omega)),by have:=hb.size;omega⟩)
 have SE:=(qsd (ai EA (ai EB ER)));clear hN hM hb H1 hB hz1 DA DB DR EA EB ER SB;obtain ⟨EA,EB,ER⟩:=SE.out;obtain ⟨U1,hU1⟩:∃ U,U=st3 (st3 u1 w.heap.size (.bool n1) (.slice a1 (ws X).length c1) (.int .i64 e1)) (w.heap.size+1) (.bool m1) (.slice a2 (ws Y).length c2) (.int .i64 f1):=⟨_,rfl⟩;have IA:Dk U1 w.heap.size n1 (.slice a1 (ws X).length c1) e1:=by rw [hU1];exact ((EA.set _ _ _).other _ (by omega) _ _ _)
 have IB:Dk U1 (w.heap.size+1) m1 (.slice a2 (ws Y).length c2) f1:=by rw [hU1];exact ((EB.other _ (by omega) _ _ _).set _ _ _)
 have IR:Dk U1 (w.heap.size+1+1) false (.slice none 0 0) 0:=by rw [hU1];exact ((ER.other _ (by omega) _ _ _).other _ (by omega) _ _ _)
 have GX:Fin w.heap.size (w.heap.size+3) w U1 (.slice a1 (ws X).length c1) X:=by rw [hU1];exact (Fin.st3 (Fin.st3 FX.out _ _ _ _ (by omega) (by omega)) _ _ _ _ (by omega) (by omega))
 have GY:Fin w.heap.size (w.heap.size+3) w U1 (.slice a2 (ws Y).length c2) Y:=by rw [hU1];exact (Fin.st3 (Fin.st3 FY.out _ _ _ _ (by omega) (by omega)) _ _ _ _ (by omega) (by omega))
 have H2:=hid (HSH.out U1 a1 c1 a2 c2 GX.bel (GX.nt.arg' (by omega)).2 (GY.nt.arg' (by omega)).2)
 have S1:=(qsd (ai IA (ai IB (ai IR (ai GX GY)))));have hzU:w.heap.size+3≤U1.heap.size:=by have:=IR.lt;omega
 clear EA EB ER IA IB IR GX GY SE HSH;unfold st3 at hU1
 go_wp2_with fail
 rw [←hU1];clear hU1 x0 x1 x2 xf0 xf1 xf2 y0 y1 y2 yf0 yf1 yf2 r0 r1 r2 rf0 rf1 rf2;refine H2.out.mono ?_;rintro r u2 ⟨v,rfl,hN,hb⟩;obtain ⟨a3,c3,rfl,_⟩:=hN.arg (by omega)
 obtain ⟨IA,IB,IR,GX,GY⟩:=S1.out;obtain ⟨x0,x1,x2,xf0,xf1,xf2⟩:=(IA.below hb).facts;obtain ⟨y0,y1,y2,yf0,yf1,yf2⟩:=(IB.below hb).facts;obtain ⟨r0,r1,r2,rf0,rf1,rf2⟩:=(IR.below hb).facts;have H3:=hid (HT.out u2 a3 c3 (GX.below hb).bel (hN.arg' (by omega)).2)
 have S2:=(qsd (ai (IR.below hb) ((GX.below hb))));have hz2:w.heap.size+3≤u2.heap.size:=by have:=hb.size;omega
 clear hN hb H2 S1 IA IB IR GX GY HT
 go_wp2_with fail
 refine H3.out.mono ?_;rintro r u3 ⟨⟨v,rfl,hN⟩,hb⟩;obtain ⟨a4,c4,rfl,_⟩:=hN.arg (by omega)
 have IR:=S2.out.1.below hb;obtain ⟨s0,s1,s2,sf0,sf1,sf2⟩:=IR.facts;have FV:=qsd (show Fin w.heap.size (w.heap.size+3) w u3 (.slice a4 (ws V).length c4) V from ⟨hN.mono hz2,(S2.out.2.below hb).bel,by have:=hb.size;omega⟩)
 have S3:=qsd IR;clear hN hb IR H3 S2;go_wp2;refine bodyPost_ret (mul_res _ (w.heap.size+1+1) dn (.slice a4 (ws V).length c4) de er _ rfl rfl (S3.out.set _ _ _)) rfl ?_;refine Fin.dans (m:=w.heap.size+3) ?_ (by omega)
 repeat (with_reducible first | exact FV.out | refine Fin.drew ?_ | refine Fin.alloc ?_ _ | refine Fin.set ?_ _ _ _ (by omega) (by omega))
def mulF (x y:Bool×Nat×Int):Option (Bool×Nat×Int):=mkS (x.1 != y.1) (x.2.1*y.2.1) (x.2.2+y.2.2)
def mulD (o p:Option (Bool×Nat×Int)):Option (Bool×Nat×Int) :=
 match o,p with
 | some x,some y=>mulF x y
 | _,_=>none
theorem Mul_one {w:World}{p q:Option Addr}{s t X Y:Nat}(L:Nat) (er:Int) (hA:Arg w p (ws X).length s (ws X)) (hB:Arg w q (ws Y).length t (ws Y)) (h:mulS X Y=(L,er)) :
 Calls Tryz.prog 37 #[.slice p (ws X).length s,.slice q (ws Y).length t] w fun r w'=>∃ v,r=.returned (.tuple #[v,.int .i64 er])∧Nt w.heap.size w' v L∧Below w.heap.size w w':=by
 have:=Mul_any (ws X) (ws Y) p q (ws X).length s (ws Y).length t w.heap.size w hA.len hB.len hA.cap hB.cap (by have:=hA.big;omega) (by have:=hB.big;omega) hA.wf hB.wf hA.rd hB.rd (Nat.le_refl _)
 rw [val_ws,val_ws,h] at this;exact this.mono fun r w' ⟨⟨v,h1,h2⟩,h3⟩=>⟨v,h1,h2,h3⟩
theorem lo_odd1 {X:Nat}(h:X%2=1):lo X=0:=by
 have:=lo_eq 0 (X/2);rw [show 2^0*(2*(X/2)+1)=X by omega] at this
 exact this
theorem Mul_any3 {w:World}{a b:Option Addr}{l c k d:Nat}{xs ys:List Nat}(h1:Arg w a l c xs) (h2:Arg w b k d ys) (hT:Tab w) (n m:Bool) (e f:Int) (he0:-9223372036854775808≤e) (he1:e≤9223372036854775807) (hf0:-9223372036854775808≤f) (hf1:f≤9223372036854775807) :
 Calls Tryz.prog 17 #[.agg #[.bool n,.slice a l c,.int .i64 e],.agg #[.bool m,.slice b k d,.int .i64 f]] w fun r w'=>DAns w.heap.size w' r (mulD (mkS n (val xs) e) (mkS m (val ys) f))∧Below w.heap.size w w':=by
 have zero:∀ {r:Ending} {w':World},(r=.returned (.tuple #[.agg #[.bool false,.slice none 0 0,.int .i64 0],.int .i64 2])∧Below w.heap.size w w')→DAns w.heap.size w' r none∧Below w.heap.size w w':=fun ⟨h1,h2⟩=>⟨⟨_,h1,Nt.nil _ _⟩,h2⟩
 cases hx:mkS n (val xs) e with
 | none =>
   exact (mul_bad n m e f (hid fun u hu=>forms_bad1 (h1.below hu) (h2.below hu) (hT.belows hu) n m e f he0 he1 hf0 hf1 hx)).mono fun r w' h=>zero h
 | some x =>
   obtain ⟨n1,X,e1⟩:=x
   cases hy:mkS m (val ys) f with
   | none =>
     exact (mul_bad n m e f (hid fun u hu=>forms_bad2 (h1.below hu) (h2.below hu) (hT.belows hu) n m e f he0 he1 hf0 hf1 n1 X e1 hx hy)).mono fun r w' h=>zero h
   | some y =>
     obtain ⟨m1,Y,f1⟩:=y;have HFM:=hid fun u (hu:Below w.heap.size w u)=>forms_ok (h1.below hu) (h2.below hu) (hT.belows hu) n m e f he0 he1 hf0 hf1 n1 m1 X Y e1 f1 hx hy
     have FX:=mkS_frm hx;have FY:=mkS_frm hy;have lX:=frm_len FX;have lY:=frm_len FY;have:=FX.up;have:=FX.down;have:=FY.up;have:=FY.down
     show Calls _ _ _ _ fun r w'=>DAns w.heap.size w' r (mkS (n1 != m1) (X*Y) (e1+f1))∧_
     by_cases hL:LG (X*Y)
     · have hs:mulS X Y=(0,2):=by unfold mulS;rw [if_neg (by intro h;rcases h with h | h;exact notLG FX.size h;exact notLG FY.size h),if_pos hL]
       have hno:mkS (n1 != m1) (X*Y) (e1+f1)=none:=by
        have hb:=(LG_bl _).1 hL;have h0:X*Y≠0:=by intro h;rw [h,bl_zero] at hb;omega
        have oX:X%2=1:=by rcases FX.odd with h | h;exact h;rw [h.1,Nat.zero_mul] at h0;exact absurd rfl h0
        have oY:Y%2=1:=by rcases FY.odd with h | h;exact h;rw [h.1,Nat.mul_zero] at h0;exact absurd rfl h0
        have hlo:lo (X*Y)=0:=lo_odd1 (by rw [Nat.mul_mod,oX,oY])
        unfold mkS;rw [if_neg h0,if_pos (.inl (by rw [hlo];omega))]
       rw [hno];exact (mul_long n m e f n1 m1 X Y e1 f1 lX lY (by omega) (by omega) (by omega) (by omega) HFM (hid fun u p q p2 q2 hu hA hB=>Mul_one 0 2 hA hB hs)).mono fun r w' h=>zero h
     · have hs:mulS X Y=(X*Y,0):=by unfold mulS;rw [if_neg (by intro h;rcases h with h | h;exact notLG FX.size h;exact notLG FY.size h),if_neg hL]
       obtain ⟨L,hLe⟩:∃ L,X*Y=L:=⟨_,rfl⟩;rw [hLe] at hs hL ⊢;have lL:(ws L).length≤8192:=by unfold LG at hL;omega
       exact mul_ok n m e f n1 m1 X Y e1 f1 lX lY (by omega) (by omega) (by omega) (by omega) HFM L lL _ _ _ _ (mkS_len (n1 != m1) L (e1+f1)) (hid fun u p q p2 q2 hu hA hB=>Mul_one L 0 hA hB hs)
        (hid fun u p s hu hA=>by have:=Make_any hA (hT.belows hu) (n1 != m1) (e1+f1) (by omega) (by omega);rw [val_ws] at this;exact this)
end
section
open Go.RowKit
theorem sub_res (W:World) (g:Nat) (n:Bool) (v:Value) (e k:Int) (tmps:Array Value) (ht:tmps[4]?.getD undef=.pointer (some ⟨g,0,none⟩)) (hk:tmps[5]?.getD undef=.int .i64 k) (D:Dk W g n v e) :
 (results Tryz.f18 tmps).run Tryz.prog W=.ok (.tuple #[.agg #[.bool n,v,.int .i64 e],.int .i64 k]) W:=by
 obtain ⟨x0,x1,x2,xf0,xf1,xf2⟩:=D.facts;simp [results,Tryz.results18,ht,hk,go_sem,x0,x1,x2]
theorem sub_core {w:World}{a b:Option Addr}{l c k d:Nat}(n m:Bool) (e f:Int) (dn:Bool) (V:Nat) (de er:Int) (lV:(ws V).length≤8192)
 (HT:Hid (∀ u,Calls Tryz.prog 38 #[.agg #[.bool m,.slice b k d,.int .i64 f]] u fun r w'=>r=.returned (.agg #[.bool (!m),.slice b k d,.int .i64 f])∧Below u.heap.size u w'))
 (HA:Hid (∀ u,Below w.heap.size w u→Calls Tryz.prog 19 #[.agg #[.bool n,.slice a l c,.int .i64 e],.agg #[.bool (!m),.slice b k d,.int .i64 f]] u fun r w'=>(∃ v,r=.returned (.tuple #[.agg #[.bool dn,v,.int .i64 de],.int .i64 er])∧Nt u.heap.size w' v V)∧Below u.heap.size u w')) :
 Calls Tryz.prog 18 #[.agg #[.bool n,.slice a l c,.int .i64 e],.agg #[.bool m,.slice b k d,.int .i64 f]] w fun r w'=>(∃ v,r=.returned (.tuple #[.agg #[.bool dn,v,.int .i64 de],.int .i64 er])∧Nt w.heap.size w' v V)∧Below w.heap.size w w':=by
 obtain ⟨W1,hW1⟩:∃ W,W=((w.alloc (.cells #[.bool n,.slice a l c,.int .i64 e] 42)).alloc (.cells #[.bool m,.slice b k d,.int .i64 f] 42)).alloc (.cells #[.bool false,.slice none 0 0,.int .i64 0] 42):=⟨_,rfl⟩;obtain ⟨hB,hz1,DA,DB,DR⟩:=add_begin w n m (.slice a l c) (.slice b k d) e f W1 hW1;have T1:=hid (HT.out W1);have T2:=hid (HT.out W1.drew);obtain ⟨x0,x1,x2,xf0,xf1,xf2⟩:=DA.facts;obtain ⟨y0,y1,y2,yf0,yf1,yf2⟩:=DB.facts;obtain ⟨r0,r1,r2,rf0,rf1,rf2⟩:=DR.facts;have hs1:w.heap.size+3≤W1.heap.size:=by omega
 have SB:=(qsd (ai hB (ai DA (ai DB DR))));clear hB hz1 DA DB DR;go_enter Tryz.func18,Tryz.ntmps18
 go_wp2_with fail
 rw [←hW1];clear hW1;have ne1:w.heap.size≠w.heap.size+1+1:=by omega
 have ne2:w.heap.size+1≠w.heap.size+1+1:=by omega
 have ne3:w.heap.size+1+1≠w.heap.size:=by omega
 have ne4:w.heap.size+1+1≠w.heap.size+1:=by omega
 go_region_held3 (fun w'=>w'.cell? ⟨w.heap.size,0,none⟩=some (.bool n)∧w'.cell? ⟨w.heap.size,1,none⟩=some (.slice a l c)∧w'.cell? ⟨w.heap.size,2,none⟩=some (.int .i64 e)∧w'.cell? ⟨w.heap.size+1,0,none⟩=some (.bool m)∧w'.cell? ⟨w.heap.size+1,1,none⟩=some (.slice b k d)∧w'.cell? ⟨w.heap.size+1,2,none⟩=some (.int .i64 f)) (go_keep) (first
  | (go_at_call 38
     first | with_reducible refine T1.out.mono ?_ | with_reducible refine T2.out.mono ?_
     rintro r u1 ⟨rfl,hb⟩;have hb1:Below W1.heap.size W1 u1:=by first | exact hb | exact ((Below.refl _ W1).drew).trans (hb.mono (Nat.le_refl _))
     have hs2:W1.heap.size≤u1.heap.size:=hb1.size;have BW:Below w.heap.size w u1:=SB.out.1.trans (hb1.mono (by omega))
     have HA1:=hid (HA.out u1 BW);have KR:=SB.out.2.2.2.below hb1;obtain ⟨p0,p1,p2,pf0,pf1,pf2⟩:=KR.facts;obtain ⟨q0,q1,q2,qf0,qf1,qf2⟩:=(SB.out.2.1.below hb1).facts;obtain ⟨s0,s1,s2,sf0,sf1,sf2⟩:=(SB.out.2.2.1.below hb1).facts;have S1:=(qsd (ai BW (ai KR (ai (SB.out.2.1.below hb1) (SB.out.2.2.1.below hb1)))));clear hb hb1 KR BW)
  | (go_at_call 19
     with_reducible refine HA1.out.mono ?_
     rintro r u2 ⟨⟨v,rfl,hN⟩,hb⟩;obtain ⟨a4,c4,rfl,_⟩:=hN.arg (by omega)
     have LR:=S1.out.2.1.below hb;obtain ⟨t0,t1,t2,tf0,tf1,tf2⟩:=LR.facts;obtain ⟨i0,i1,i2,if0,if1,if2⟩:=(S1.out.2.2.1.below hb).facts;obtain ⟨j0,j1,j2,jf0,jf1,jf2⟩:=(S1.out.2.2.2.below hb).facts;have FV:=qsd (show Fin w.heap.size (w.heap.size+3) w u2 (.slice a4 (ws V).length c4) V from ⟨hN.mono (by omega),S1.out.1.trans (hb.mono (by omega)),by have:=hb.size;omega⟩)
     have S10:=qsd LR;clear hN hb LR))
 all_goals (
  go_wp2;refine bodyPost_ret (sub_res _ (w.heap.size+1+1) dn (.slice a4 (ws V).length c4) de er _ rfl rfl (S10.out.set _ _ _)) rfl ?_;refine Fin.dans (m:=w.heap.size+3) ?_ (by omega)
  repeat (with_reducible first | exact FV.out | refine Fin.drew ?_ | refine Fin.alloc ?_ _ | refine Fin.set ?_ _ _ _ (by omega) (by omega)))
theorem addUp_len (n:Bool) (X:Nat) (e:Int) (m:Bool) (Y:Nat) (f:Int):(ws (dX (addUp n X e m Y f))).length≤8192:=by
 unfold addUp
 split
 · show (ws 0).length≤8192;rw [ws_zero];exact Nat.zero_le _
 · split
   · exact mkS_len _ _ _
   · split <;> exact mkS_len _ _ _
theorem addD_len (n:Bool) (X:Nat) (e:Int) (m:Bool) (Y:Nat) (f:Int):(ws (dX (addD (mkS n X e) (mkS m Y f)))).length≤8192:=by
 have z0:(ws 0).length≤8192:=by rw [ws_zero];exact Nat.zero_le _
 cases hx:mkS n X e with
 | none=>exact z0
 | some x =>
   cases hy:mkS m Y f with
   | none=>exact z0
   | some y =>
     obtain ⟨n1,X1,e1⟩:=x;obtain ⟨m1,Y1,f1⟩:=y
     show (ws (dX (addF _ _))).length≤8192
     unfold addF
     split
     · exact frm_len (mkS_frm hy)
     · split
       · exact frm_len (mkS_frm hx)
       · split <;> exact addUp_len _ _ _ _ _ _
theorem Sub_any3 {w:World}{a b:Option Addr}{l c k d:Nat}{xs ys:List Nat}(h1:Arg w a l c xs) (h2:Arg w b k d ys) (hT:Tab w) (n m:Bool) (e f:Int) (he0:-9223372036854775808≤e) (he1:e≤9223372036854775807) (hf0:-9223372036854775808≤f) (hf1:f≤9223372036854775807) :
 Calls Tryz.prog 18 #[.agg #[.bool n,.slice a l c,.int .i64 e],.agg #[.bool m,.slice b k d,.int .i64 f]] w fun r w'=>DAns w.heap.size w' r (addD (mkS n (val xs) e) (mkS (!m) (val ys) f))∧Below w.heap.size w w' :=
 sub_core n m e f _ _ _ _ (addD_len n (val xs) e (!m) (val ys) f) (hid fun u=>turned_any b k d m f u) (hid fun u hu=>Add_any3 (h1.below hu) (h2.below hu) (hT.belows hu) n (!m) e f he0 he1 hf0 hf1)
end
section
open Go.RowKit
def sgn (n:Bool) (X:Nat):Int:=if X=0 then 0 else if n then -1 else 1
end
section
open Go.RowKit
theorem Sign_any3 {w:World}{a:Option Addr}{n c:Nat}{xs:List Nat}(h1:Arg w a n c xs) (ng:Bool) (e:Int) :
 Calls Tryz.prog 28 #[.agg #[.bool ng,.slice a n c,.int .i64 e]] w fun r w'=>r=.returned (.int .i64 (sgn ng (val xs)))∧Below w.heap.size w w':=by
 have hB:Below w.heap.size w (w.alloc (.cells #[.bool ng,.slice a n c,.int .i64 e] 42)):=below_alloc w _;have A1:=h1.below hB;have hbig:=h1.big;have H1:=hid (len_any xs a n c _ _ A1.len A1.cap (by omega) A1.wf A1.rd)
 obtain ⟨X,hX⟩:∃ X,val xs=X:=⟨_,rfl⟩;rw [hX] at H1 ⊢;have SB:=qsd hB;clear hB A1 h1 hX hbig;unfold sgn
 by_cases h0:X=0
 · rw [if_pos h0]
   have hb:bl X=0:=by rw [h0,bl_zero]
   rw [hb] at H1;clear h0 hb;go_enter Tryz.func28,Tryz.ntmps28
   go_wp2_with fail
   refine H1.out.mono ?_;rintro r w1 ⟨rfl,rfl⟩;go_wp2;go_ret;exact ⟨rfl,SB.out⟩
 · rw [if_neg h0]
   obtain ⟨b,hb⟩:∃ b,bl X=b:=⟨_,rfl⟩;have hb0:((b:Int)==0)=false:=by have:=bl_pos X h0;simp;omega
   rw [hb] at H1;clear h0 hb
   cases ng
   · simp only [Bool.false_eq_true,if_false]
     go_enter Tryz.func28,Tryz.ntmps28
     go_wp2_with fail
     refine H1.out.mono ?_;rintro r w1 ⟨rfl,rfl⟩;go_wp2;go_ret;exact ⟨rfl,SB.out⟩
   · simp only [if_true]
     go_enter Tryz.func28,Tryz.ntmps28
     go_wp2_with fail
     refine H1.out.mono ?_;rintro r w1 ⟨rfl,rfl⟩;go_wp2;go_ret;exact ⟨rfl,SB.out⟩
end
section
open Go.RowKit
theorem sgn_zero3 {n:Bool}{X:Nat}:sgn n X=0↔X=0:=by
 unfold sgn
 by_cases h:X=0
 · simp [h]
 · rw [if_neg h];cases n <;> simp [h]
end
section
open Go.RowKit
def sg1 (n:Bool):Int:=if n then -1 else 1
def zv (B:Int) (x:Bool×Nat×Int):Int:=sg1 x.1*((x.2.1*2^(x.2.2-B).toNat:Nat):Int)
theorem pow_split (e l B:Int) (h:B≤e) (hl:0≤l):(2:Nat)^(e+l-B).toNat=2^l.toNat*2^(e-B).toNat:=by
 rw [←Nat.pow_add];congr 1;omega
theorem zv_mkS {n:Bool}{X:Nat}{e:Int}{x:Bool×Nat×Int}(h:mkS n X e=some x) (B:Int) (hB:X=0∨B≤e):zv B x=sg1 n*((X*2^(e-B).toNat:Nat):Int):=by
 unfold mkS at h
 by_cases h0:X=0
 · rw [if_pos h0] at h
   cases h
   subst h0;simp [zv]
 · rw [if_neg h0] at h
   split at h
   · cases h
   · cases h
     have hB':B≤e:=by rcases hB with h | h;exact absurd h h0;exact h
     obtain ⟨m,hm,hd,_⟩:=odd_part X h0
     show sg1 n*((X/2^lo X*2^(e+(lo X:Int)-B).toNat:Nat):Int)=_
     rw [pow_split e (lo X) B hB' (by omega),Int.toNat_natCast,←Nat.mul_assoc]
     have hx:X/2^lo X*2^lo X=X:=by rw [hd];rw [Nat.mul_comm];exact hm.symm
     rw [hx]
theorem sg1_ne {n m:Bool}(h:¬ n=m):sg1 m=-sg1 n:=by cases n <;> cases m <;> first | exact absurd rfl h | rfl
theorem sg1_not (n:Bool):sg1 (!n)=-sg1 n:=by cases n <;> rfl
theorem sg1_bne (n m:Bool):sg1 (n != m)=sg1 n*sg1 m:=by cases n <;> cases m <;> rfl
theorem zv_addUp {n m:Bool}{X Y:Nat}{e f:Int}{z:Bool×Nat×Int}(h:addUp n X e m Y f=some z) (hfe:f≤e) (B:Int) (hB:B≤f):zv B z=zv B (n,X,e)+zv B (m,Y,f):=by
 unfold addUp at h
 split at h
 · cases h
 · have key:X*2^(e-f).toNat*2^(f-B).toNat=X*2^(e-B).toNat:=by
    rw [Nat.mul_assoc,←Nat.pow_add,show (e-f).toNat+(f-B).toNat=(e-B).toNat by omega]
   show zv B z=sg1 n*((X*2^(e-B).toNat:Nat):Int)+sg1 m*((Y*2^(f-B).toNat:Nat):Int)
   generalize 2^(e-f).toNat=P at h key
   split at h
   · rename_i hnm
     rw [zv_mkS h B (.inr hB),hnm,←Int.mul_add,Nat.add_mul,key,Int.natCast_add]
   · rename_i hnm
     split at h
     · rename_i hle
       rw [zv_mkS h B (.inr hB),sg1_ne hnm,Nat.sub_mul,key,Int.ofNat_sub (by rw [←key];exact Nat.mul_le_mul_right _ hle),Int.mul_sub,Int.neg_mul]
       omega
     · rename_i hle
       rw [zv_mkS h B (.inr hB),sg1_not,sg1_ne hnm,Nat.sub_mul,key,Int.ofNat_sub (by rw [←key];exact Nat.mul_le_mul_right _ (by omega)),Int.mul_sub,Int.neg_mul,Int.neg_mul]
       omega
theorem zv_zero {x:Bool×Nat×Int}(B:Int) (h:x.2.1=0):zv B x=0:=by unfold zv;rw [h];simp
theorem zv_addF {x y z:Bool×Nat×Int}(h:addF x y=some z) (B:Int) (hx:x.2.1=0∨B≤x.2.2) (hy:y.2.1=0∨B≤y.2.2):zv B z=zv B x+zv B y:=by
 obtain ⟨n,X,e⟩:=x;obtain ⟨m,Y,f⟩:=y;unfold addF at h;simp only at h hx hy
 by_cases h0:X=0
 · rw [if_pos h0] at h
   cases h
   rw [zv_zero (x:=(n,X,e)) B h0,Int.zero_add]
 · rw [if_neg h0] at h
   by_cases h1:Y=0
   · rw [if_pos h1] at h
     cases h
     rw [zv_zero (x:=(m,Y,f)) B h1,Int.add_zero]
   · rw [if_neg h1] at h
     have hx':B≤e:=by rcases hx with k | k;exact absurd k h0;exact k
     have hy':B≤f:=by rcases hy with k | k;exact absurd k h1;exact k
     by_cases h2:e<f
     · rw [if_pos h2] at h
       rw [zv_addUp h (by omega) B hx',Int.add_comm]
     · rw [if_neg h2] at h
       exact zv_addUp h (by omega) B hy'
theorem zv_mulF {x y z:Bool×Nat×Int}(h:mulF x y=some z) (B C:Int) (hx:x.2.1=0∨B≤x.2.2) (hy:y.2.1=0∨C≤y.2.2):zv (B+C) z=zv B x*zv C y:=by
 obtain ⟨n,X,e⟩:=x;obtain ⟨m,Y,f⟩:=y;unfold mulF at h;simp only at h hx hy
 by_cases h0:X=0
 · subst h0
   rw [Nat.zero_mul] at h;rw [zv_mkS h _ (.inl rfl),zv_zero (x:=(n,0,e)) B rfl];simp
 · by_cases h1:Y=0
   · subst h1
     rw [Nat.mul_zero] at h;rw [zv_mkS h _ (.inl rfl),zv_zero (x:=(m,0,f)) C rfl];simp
   · have hx':B≤e:=by rcases hx with k | k;exact absurd k h0;exact k
     have hy':C≤f:=by rcases hy with k | k;exact absurd k h1;exact k
     rw [zv_mkS h _ (.inr (by omega)),sg1_bne]
     unfold zv;simp only;rw [show (e+f-(B+C)).toNat=(e-B).toNat+(f-C).toNat by omega,Nat.pow_add]
     rw [show X*Y*(2^(e-B).toNat*2^(f-C).toNat)=(X*2^(e-B).toNat)*(Y*2^(f-C).toNat) by rw [Nat.mul_mul_mul_comm]]
     rw [Int.natCast_mul,Int.mul_assoc,Int.mul_assoc]
     congr 1
     rw [←Int.mul_assoc,←Int.mul_assoc]
     congr 1
     exact Int.mul_comm _ _
theorem odd_pow {X Y:Nat}(a b:Nat) (hX:X%2=1) (hY:Y%2=1) (h:X*2^a=Y*2^b):X=Y∧a=b:=by
 have key:∀ (a b X Y:Nat),X%2=1→Y%2=1→X*2^a=Y*2^b→a≤b:=by
  intro a b X Y hX hY h
  rcases Nat.lt_or_ge b a with k|k
  · exfalso
    obtain ⟨d,rfl⟩:∃ d,a=b+(d+1):=⟨a-b-1,by omega⟩
    rw [Nat.pow_add,Nat.mul_comm (2^b),←Nat.mul_assoc] at h;have:=Nat.eq_of_mul_eq_mul_right (Nat.two_pow_pos b) h;rw [Nat.pow_succ,←Nat.mul_assoc] at this;omega
  · exact k
 have h1:=key a b X Y hX hY h;have h2:=key b a Y X hY hX h.symm;have e:a=b:=by omega
 subst e;exact ⟨Nat.eq_of_mul_eq_mul_right (Nat.two_pow_pos a) h,rfl⟩
theorem zv_inj {n m:Bool}{X Y:Nat}{e f:Int}(FX:Frm n X e) (FY:Frm m Y f) (B:Int) (hB:B≤-1048576) (h:zv B (n,X,e)=zv B (m,Y,f)):n=m∧X=Y∧e=f:=by
 have hx:=FX.down;have hy:=FY.down;unfold zv at h;simp only at h;have hpX:0<2^(e-B).toNat:=Nat.two_pow_pos _;have hpY:0<2^(f-B).toNat:=Nat.two_pow_pos _
 rcases FX.odd with oX|⟨rfl,rfl,rfl⟩
 · rcases FY.odd with oY | ⟨rfl,rfl,rfl⟩
   · have pX:0<X*2^(e-B).toNat:=Nat.mul_pos (by omega) hpX
     have pY:0<Y*2^(f-B).toNat:=Nat.mul_pos (by omega) hpY
     have hn:n=m:=by
      generalize X*2^(e-B).toNat=P at h pX;generalize Y*2^(f-B).toNat=Q at h pY
      cases n <;> cases m <;> first | rfl | (simp only [sg1,Bool.false_eq_true,if_true,if_false] at h;omega)
     subst hn
     have hPQ:X*2^(e-B).toNat=Y*2^(f-B).toNat:=by
      generalize X*2^(e-B).toNat=P at h;generalize Y*2^(f-B).toNat=Q at h
      cases n <;> (simp only [sg1,Bool.false_eq_true,if_true,if_false] at h;omega)
     obtain ⟨h1,h2⟩:=odd_pow _ _ oX oY hPQ;exact ⟨rfl,h1,by omega⟩
   · exfalso
     have pX:0<X*2^(e-B).toNat:=Nat.mul_pos (by omega) hpX
     generalize X*2^(e-B).toNat=P at h pX;rw [Nat.zero_mul] at h
     cases n <;> (simp only [sg1,Bool.false_eq_true,if_true,if_false] at h;omega)
 · rcases FY.odd with oY | ⟨rfl,rfl,rfl⟩
   · exfalso
     have pY:0<Y*2^(f-B).toNat:=Nat.mul_pos (by omega) hpY
     generalize Y*2^(f-B).toNat=Q at h pY;rw [Nat.zero_mul] at h
     cases m <;> (simp only [sg1,Bool.false_eq_true,if_true,if_false] at h;omega)
   · exact ⟨rfl,rfl,rfl⟩
end
section
open Go.RowKit
theorem mkS_idem {n:Bool}{X:Nat}{e:Int}(F:Frm n X e):mkS n X e=some (n,X,e):=by
 unfold mkS
 rcases F.odd with h|⟨rfl,rfl,rfl⟩
 · have h1:=F.size;have h2:=F.up;have h3:=F.down
   rw [if_neg (by omega),lo_odd1 h,if_neg (by omega),Nat.pow_zero,Nat.div_one]
   simp
 · rw [if_pos rfl]
theorem addUp_frm {n m:Bool}{X Y:Nat}{e f:Int}{n':Bool}{Z:Nat}{g:Int}(h:addUp n X e m Y f=some (n',Z,g)):Frm n' Z g:=by
 unfold addUp at h
 split at h
 · cases h
 · split at h
   · exact mkS_frm h
   · split at h
     · exact mkS_frm h
     · exact mkS_frm h
theorem addF_frm {n m:Bool}{X Y:Nat}{e f:Int}(FX:Frm n X e) (FY:Frm m Y f) {n':Bool}{Z:Nat}{g:Int}(h:addF (n,X,e) (m,Y,f)=some (n',Z,g)):Frm n' Z g:=by
 unfold addF at h;simp only at h
 split at h
 · cases h;exact FY
 · split at h
   · cases h;exact FX
   · split at h
     · exact addUp_frm h
     · exact addUp_frm h
theorem addD_some {o p:Option (Bool×Nat×Int)}(h:(addD o p).isSome=true):∃ x y z,o=some x∧p=some y∧addF x y=some z∧addD o p=some z:=by
 cases o with
 | none=>cases h
 | some x =>
   cases p with
   | none=>cases h
   | some y =>
     obtain ⟨z,hz⟩:=Option.isSome_iff_exists.1 h;exact ⟨x,y,z,rfl,rfl,hz,hz⟩
theorem mulD_some {o p:Option (Bool×Nat×Int)}(h:(mulD o p).isSome=true):∃ x y z,o=some x∧p=some y∧mulF x y=some z∧mulD o p=some z:=by
 cases o with
 | none=>cases h
 | some x =>
   cases p with
   | none=>cases h
   | some y =>
     obtain ⟨z,hz⟩:=Option.isSome_iff_exists.1 h;exact ⟨x,y,z,rfl,rfl,hz,hz⟩
structure Fv (B:Int) (o:Option (Bool×Nat×Int)) (z:Int):Prop where
 ex:∃ n X e,o=some (n,X,e)∧Frm n X e∧zv B (n,X,e)=z
theorem Frm.base {n:Bool}{X:Nat}{e:Int}(F:Frm n X e) {B:Int}(hB:B≤-1048576):X=0∨B≤e:=.inr (by have:=F.down;omega)
theorem Fv.add {B:Int}(hB:B≤-1048576) {o p:Option (Bool×Nat×Int)}{x y:Int}(h1:Fv B o x) (h2:Fv B p y) (h:(addD o p).isSome=true):Fv B (addD o p) (x+y):=by
 obtain ⟨n,X,e,rfl,F,rfl⟩:=h1.ex;obtain ⟨m,Y,f,rfl,G,rfl⟩:=h2.ex;obtain ⟨_,_,z,e1,e2,hz,hd⟩:=addD_some h
 cases e1;cases e2
 obtain ⟨n',Z,g⟩:=z;exact ⟨n',Z,g,hd,addF_frm F G hz,zv_addF hz B (F.base hB) (G.base hB)⟩
theorem Fv.mul {B C:Int}(hB:B≤-1048576) (hC:C≤-1048576) {o p:Option (Bool×Nat×Int)}{x y:Int}(h1:Fv B o x) (h2:Fv C p y) (h:(mulD o p).isSome=true):Fv (B+C) (mulD o p) (x*y):=by
 obtain ⟨n,X,e,rfl,F,rfl⟩:=h1.ex;obtain ⟨m,Y,f,rfl,G,rfl⟩:=h2.ex;obtain ⟨_,_,z,e1,e2,hz,hd⟩:=mulD_some h
 cases e1;cases e2
 obtain ⟨n',Z,g⟩:=z;exact ⟨n',Z,g,hd,mkS_frm hz,zv_mulF hz B C (F.base hB) (G.base hC)⟩
theorem Fv.same {B:Int}(hB:B≤-1048576) {o p:Option (Bool×Nat×Int)}{x y:Int}(h1:Fv B o x) (h2:Fv B p y) (h:x=y):dN o=dN p∧dX o=dX p∧dE o=dE p:=by
 obtain ⟨n,X,e,rfl,F,rfl⟩:=h1.ex;obtain ⟨m,Y,f,rfl,G,rfl⟩:=h2.ex;exact zv_inj F G B hB h
end
section
open Go.RowKit
theorem plc_floor (dg:Nat) (least top:Int) (X:Nat) (e:Int) (ho:X%2=1) (Bs:Int) (h1:Bs≤e) (h2:Bs≤least) (hin:¬ top<e+(bl X:Int)) :
 Bs≤(plc dg least top X e).2.1 ∧
 (((plc dg least top X e).2.2.1=true∧X*2^(e-Bs).toNat=(plc dg least top X e).1*2^((plc dg least top X e).2.1-Bs).toNat) ∨
  ((plc dg least top X e).2.2.1=false∧(plc dg least top X e).1*2^((plc dg least top X e).2.1-Bs).toNat<X*2^(e-Bs).toNat∧X*2^(e-Bs).toNat<((plc dg least top X e).1+1)*2^((plc dg least top X e).2.1-Bs).toNat ∧
   ((plc dg least top X e).2.2.2=-1∧2*(X*2^(e-Bs).toNat)<(2*(plc dg least top X e).1+1)*2^((plc dg least top X e).2.1-Bs).toNat ∨
    (plc dg least top X e).2.2.2=0∧2*(X*2^(e-Bs).toNat)=(2*(plc dg least top X e).1+1)*2^((plc dg least top X e).2.1-Bs).toNat ∨
    (plc dg least top X e).2.2.2=1∧(2*(plc dg least top X e).1+1)*2^((plc dg least top X e).2.1-Bs).toNat<2*(X*2^(e-Bs).toNat)))):=by
 unfold plc;rw [if_neg hin];simp only;obtain ⟨ex,hex⟩:∃ ex,max (e+(bl X:Int)-(dg:Int)) least=ex:=⟨_,rfl⟩;rw [hex];have hle:least≤ex:=by omega
 by_cases hoff:ex-e≤0
 · rw [if_pos hoff]
   simp only;refine ⟨by omega,.inl ⟨trivial,?_⟩⟩
   rw [Nat.mul_assoc,←Nat.pow_add,show (-(ex-e)).toNat+(ex-Bs).toNat=(e-Bs).toNat by omega]
 · rw [if_neg hoff]
   simp only;obtain ⟨k,hk⟩:∃ k:Nat,(ex-e).toNat=k:=⟨_,rfl⟩;have hk0:0<k:=by omega
   have hexB:(ex-Bs).toNat=k+(e-Bs).toNat:=by omega
   have hk1:(ex-e-1).toNat=k-1:=by omega
   rw [hk,hexB,hk1,Nat.pow_add];obtain ⟨Q,hQ⟩:∃ Q,2^(e-Bs).toNat=Q:=⟨_,rfl⟩;have hQ0:0<Q:=by rw [←hQ];exact Nat.two_pow_pos _
   rw [hQ];have hdm:=Nat.div_add_mod X (2^k);have hmod:=Nat.mod_lt X (Nat.two_pow_pos k);obtain ⟨F,hF⟩:∃ F,X/2^k=F:=⟨_,rfl⟩;obtain ⟨R,hR⟩:∃ R,X%2^k=R:=⟨_,rfl⟩;have hhalf:2^k=2*2^(k-1):=by rw [show k=k-1+1 by omega,Nat.pow_succ,Nat.mul_comm];rfl
   have hbit:X/2^(k-1)%2=R/2^(k-1):=by
    rw [←hR,hhalf];rw [Nat.mul_comm 2,Nat.mod_mul_right_div_self]
   obtain ⟨Hf,hHf⟩:∃ Hf,2^(k-1)=Hf:=⟨_,rfl⟩;have hHf0:0<Hf:=by rw [←hHf];exact Nat.two_pow_pos _
   rw [hHf] at hhalf hbit ⊢;rw [hbit];rw [hhalf] at hdm hmod hF hR ⊢;rw [hF,hR] at hdm;rw [hR] at hmod;rw [hF]
   have hR0:R≠0:=by
    intro h;rw [h,Nat.add_zero,Nat.mul_assoc] at hdm;omega
   have e1:F*(2*Hf*Q)=(F*(2*Hf))*Q:=(Nat.mul_assoc _ _ _).symm;have e2:(F+1)*(2*Hf*Q)=((F+1)*(2*Hf))*Q:=(Nat.mul_assoc _ _ _).symm
   have e3:(2*F+1)*(2*Hf*Q)=(2*(F*(2*Hf))+2*Hf)*Q:=by
    rw [Nat.add_mul,Nat.add_mul,Nat.one_mul,Nat.mul_assoc 2 F,←Nat.mul_assoc F,Nat.mul_assoc 2 (F*(2*Hf)) Q]
   have e4:2*(X*Q)=(2*X)*Q:=by rw [Nat.mul_assoc]
   have e5:2*Hf*F=F*(2*Hf):=Nat.mul_comm _ _;rw [e5] at hdm;have e6:(F+1)*(2*Hf)=F*(2*Hf)+2*Hf:=by rw [Nat.add_mul,Nat.one_mul]
   rw [e1,e2,e3,e4,e6];generalize F*(2*Hf)=G at hdm ⊢;refine ⟨by omega,.inr ⟨trivial,Nat.mul_lt_mul_of_pos_right (by omega) hQ0,Nat.mul_lt_mul_of_pos_right (by omega) hQ0,?_⟩⟩
   by_cases hone:ex-e=1
   · rw [if_pos hone]
     have hk1':k=1:=by omega
     have hHf1:Hf=1:=by rw [←hHf,hk1']
     refine .inr (.inl ⟨rfl,?_⟩)
     congr 1
     omega
   · rw [if_neg hone]
     have hHf2:Hf%2=0:=by
      rw [←hHf,show k-1=k-2+1 by omega,Nat.pow_succ];omega
     have hRodd:R%2=1:=by
      have:G%2=0∨True:=.inr trivial;rw [←hR];rw [Nat.mod_mul_right_mod];exact ho
     by_cases hge:Hf≤R
     · have hd1:R/Hf=1:=by
        rw [Nat.div_eq_iff hHf0];omega
       rw [hd1,if_pos rfl];refine .inr (.inr ⟨rfl,Nat.mul_lt_mul_of_pos_right ?_ hQ0⟩);have:R≠Hf:=by intro h;rw [h] at hRodd;omega
       omega
     · have hd0:R/Hf=0:=Nat.div_eq_of_lt (by omega)
       rw [hd0,if_neg (by omega)]
       exact .inl ⟨rfl,Nat.mul_lt_mul_of_pos_right (by omega) hQ0⟩
def flK (X:Nat) (e:Int):Nat:=((plc 53 (-1074) 1024 X e).2.1+1074).toNat*4503599627370496+(plc 53 (-1074) 1024 X e).1
abbrev vK (K:Nat):Nat:=B.val Ieee.double K
theorem vK_lt {K L:Nat}:vK K<vK L↔K<L:=B.val_lt_iff Ieee.double
theorem vK_word (j F:Nat) (h:j=0∨4503599627370496≤F) (hF:F≤9007199254740992):vK (j*4503599627370496+F)=F*2^j:=by
 have:=B.val_at Ieee.double j F (by rw [B.dBin];exact h) (by rw [B.dBin];omega)
 rw [B.dBin] at this;exact this
structure Lies (K:Nat) (at':Bool) (mid:Int) (V S:Nat):Prop where
 fin:K<9218868437227405312
 pos:0<S
 one:at'=true→V=vK K*S
 low:at'=false→vK K*S<V
 mids:at'=false→V<vK (K+1)*S→(mid=-1∧2*V<vK K*S+vK (K+1)*S∨mid=0∧2*V=vK K*S+vK (K+1)*S∨mid=1∧vK K*S+vK (K+1)*S<2*V)
 high:at'=false→V<vK (K+1)*S∨(K=9218868437227405311∧mid=1)
theorem lies (X:Nat) (e:Int) (hX:X%2=1) (he0:-1048576≤e) (he1:e≤1048576) (Bs:Int) (h1:Bs≤e) (h2:Bs≤-1074) :
 Lies (flK X e) (plc 53 (-1074) 1024 X e).2.2.1 (plc 53 (-1074) 1024 X e).2.2.2 (X*2^(e-Bs).toNat) (2^(-1074-Bs).toNat):=by
 have hX0:X≠0:=by omega
 obtain ⟨f1,f2,f3,f4⟩:=plc_facts X e hX0 he0 he1;obtain ⟨j,hj⟩:∃ j:Nat,((plc 53 (-1074) 1024 X e).2.1+1074).toNat=j:=⟨_,rfl⟩;have hS:0<2^(-1074-Bs).toNat:=Nat.two_pow_pos _
 have hw:∀ F,F≤9007199254740992→(j=0∨4503599627370496≤F)→vK (j*4503599627370496+F)*2^(-1074-Bs).toNat=F*2^((plc 53 (-1074) 1024 X e).2.1-Bs).toNat:=by
  intro F hF hn;rw [vK_word j F hn hF,Nat.mul_assoc,←Nat.pow_add]
  congr 2
  omega
 have hn1:j=0∨4503599627370496≤(plc 53 (-1074) 1024 X e).1:=by
  rcases f4 with h|h
  · left;omega
  · exact .inr h
 have w1:=hw (plc 53 (-1074) 1024 X e).1 (by omega) hn1
 have w2:=hw ((plc 53 (-1074) 1024 X e).1+1) (by omega) (by rcases hn1 with h | h;exact .inl h;exact .inr (by omega))
 have hflK:flK X e=j*4503599627370496+(plc 53 (-1074) 1024 X e).1:=by unfold flK;rw [hj]
 have hflK1:flK X e+1=j*4503599627370496+((plc 53 (-1074) 1024 X e).1+1):=by rw [hflK];omega
 have hfin:flK X e<9218868437227405312:=by rw [hflK];omega
 rw [←hflK] at w1;rw [←hflK1] at w2
 by_cases hin:1024<e+(bl X:Int)
 · have hp:plc 53 (-1074) 1024 X e=((2^53-1:Nat),((1024:Int)-((53:Nat):Int)),false,(1:Int)):=by unfold plc;rw [if_pos hin]
   have hK:flK X e=9218868437227405311:=by unfold flK;rw [hp];rfl
   refine ⟨hfin,hS,fun h=>(by rw [hp] at h;cases h),fun _=>?_,fun _ hlt=>?_,fun _=>.inr ⟨hK,(by rw [hp])⟩⟩
   · rw [w1]
     have hlow:(2^53-1)*2^(971-Bs).toNat<2^53*2^(971-Bs).toNat:=Nat.mul_lt_mul_of_pos_right (by decide) (Nat.two_pow_pos _)
     have hup:2^53*2^(971-Bs).toNat≤X*2^(e-Bs).toNat:=by
      have hb:=bl_ge X hX0;have hbp:=bl_pos X hX0;refine Nat.le_trans ?_ (Nat.mul_le_mul_right _ hb);rw [←Nat.pow_add,←Nat.pow_add];exact Nat.pow_le_pow_right (by omega) (by omega)
     rw [hp];exact Nat.lt_of_lt_of_le hlow hup
   · exfalso
     rw [w2,hp] at hlt
     have hup:2^53*2^(971-Bs).toNat≤X*2^(e-Bs).toNat:=by
      have hb:=bl_ge X hX0;have hbp:=bl_pos X hX0;refine Nat.le_trans ?_ (Nat.mul_le_mul_right _ hb);rw [←Nat.pow_add,←Nat.pow_add];exact Nat.pow_le_pow_right (by omega) (by omega)
     exact absurd hlt (Nat.not_lt.2 hup)
 · obtain ⟨_,hfl⟩:=plc_floor 53 (-1074) 1024 X e hX Bs h1 h2 hin
   have hmid:vK (flK X e)*2^(-1074-Bs).toNat+vK (flK X e+1)*2^(-1074-Bs).toNat=(2*(plc 53 (-1074) 1024 X e).1+1)*2^((plc 53 (-1074) 1024 X e).2.1-Bs).toNat:=by
    rw [w1,w2,←Nat.add_mul];congr 1;omega
   rcases hfl with ⟨ht,hv⟩|⟨hf,hlo,hhi,hm⟩
   · exact ⟨hfin,hS,fun _=>(by rw [w1];exact hv),fun h=>(by rw [ht] at h;cases h),fun h=>(by rw [ht] at h;cases h),fun h=>(by rw [ht] at h;cases h)⟩
   · refine ⟨hfin,hS,fun h=>(by rw [hf] at h;cases h),fun _=>(by rw [w1];exact hlo),fun _ _=>(by rw [hmid];exact hm),fun _=>.inl (by rw [w2];exact hhi)⟩
end
section
open Go.RowKit
def rK (mode:Int) (n:Bool) (K:Nat) (t:Bool) (m:Int):Nat:=if t then K else if outS mode K m n then K+1 else K
theorem outS_par (mode:Int) (j F:Nat) (m:Int) (n:Bool):outS mode (j*4503599627370496+F) m n=outS mode F m n:=by
 unfold outS;rw [show (j*4503599627370496+F)%2=F%2 by omega]
theorem rndK_eq (mode:Int) (n:Bool) (X:Nat) (e:Int):rndK mode n X e=rK mode n (flK X e) (plc 53 (-1074) 1024 X e).2.2.1 (plc 53 (-1074) 1024 X e).2.2.2:=by
 unfold rndK rK flK;simp only;rw [outS_par]
 split
 · rfl
 · split <;> omega
end
section
open Go.RowKit
def wd64 (s:Bool) (K:Nat):Nat:=K+(if s then 9223372036854775808 else 0)
def sK (s:Bool) (K:Nat):Int:=if s then -(K:Int) else K
theorem wd64_bw (s:Bool) (K:Nat) (h:K≤9218868437227405312):wd64 s K=B.bw s (K/4503599627370496) (K%4503599627370496)∧K/4503599627370496<2048∧K%4503599627370496<4503599627370496∧B.odd (K/4503599627370496) (K%4503599627370496)=false∧B.pl s (K/4503599627370496) (K%4503599627370496)=sK s K:=by
 refine ⟨?_,by omega,by omega,?_,?_⟩
 · unfold wd64 B.bw
   cases s
   · simp;omega
   · simp;omega
 · unfold B.odd
   simp;omega
 · unfold B.pl B.sg sK
   rw [show K/4503599627370496*4503599627370496+K%4503599627370496=K by omega]
theorem eq64 (s t:Bool) (K L:Nat) (hK:K≤9218868437227405312) (hL:L≤9218868437227405312):(FloatKind.f64.format.order (wd64 s K) (wd64 t L)==some .eq)=decide (sK s K=sK t L):=by
 obtain ⟨a1,a2,a3,a4,a5⟩:=wd64_bw s K hK;obtain ⟨b1,b2,b3,b4,b5⟩:=wd64_bw t L hL;rw [a1,b1,B.eq_f64 s t _ _ _ _ a2 a3 b2 b3,a4,b4,a5,b5];simp
def rS (n:Bool) (X:Nat):Bool:=if X=0 then false else n
def rW (mode:Int) (n:Bool) (X:Nat) (e:Int):Nat:=if X=0 then 0 else rndK mode n X e
theorem rndS_form (mode:Int) (n:Bool) (X:Nat) (e:Int) (h0:0≤mode) (h4:mode≤4):rndS (some (n,X,e)) mode=(wd64 (rS n X) (rW mode n X e),0):=by
 unfold rndS;rw [if_neg (by omega)]
 simp only;unfold rS rW wd64
 by_cases h:X=0
 · rw [if_pos h,if_pos h,if_pos h];rfl
 · rw [if_neg h,if_neg h,if_neg h]
theorem frm_odd {n:Bool}{X:Nat}{e:Int}(F:Frm n X e) (h:X≠0):X%2=1:=by rcases F.odd with k | k;exact k;exact absurd k.1 h
end
section
open Go.RowKit
attribute [local go_sem] B.f64bits B.f64frombits
def magW (x:Nat):Nat:=x%9223372036854775808
def negW (x:Nat):Bool:=decide (9223372036854775808≤x)
end
section
open Go.RowKit
def ofK (s:Bool) (K:Nat):Option (Bool×Nat×Int):=ofR s (K/4503599627370496) (K%4503599627370496)
theorem ofK_val (s:Bool) (K:Nat) (hK:K<9218868437227405312):∃ n X e,ofK s K=some (n,X,e)∧Frm n X e∧(X≠0→n=s)∧(X=0↔K=0)∧∀ Bs:Int,Bs≤-1074→zv Bs (n,X,e)=sg1 s*((vK K*2^(-1074-Bs).toNat:Nat):Int):=by
 obtain ⟨x,hx⟩:∃ x,K/4503599627370496=x:=⟨_,rfl⟩;obtain ⟨f,hf⟩:∃ f,K%4503599627370496=f:=⟨_,rfl⟩;have hxl:x<2047:=by omega
 have hfl:f<4503599627370496:=by omega
 obtain ⟨M,hM⟩:∃ M,(if x=0 then f else f+4503599627370496)=M:=⟨_,rfl⟩
 obtain ⟨E,hE⟩:∃ E:Int,(if x=0 then (-1074:Int) else (x:Int)-1075)=E:=⟨_,rfl⟩
 have hME:(x=0∧M=f∧E=-1074)∨(x≠0∧M=f+4503599627370496∧E=(x:Int)-1075):=by
  by_cases h:x=0
  · rw [if_pos h] at hM hE;exact .inl ⟨h,hM.symm,hE.symm⟩
  · rw [if_neg h] at hM hE;exact .inr ⟨h,hM.symm,hE.symm⟩
 have hMl:M<9007199254740992:=by omega
 have hO:ofK s K=mkS s M E:=by unfold ofK ofR;rw [hx,hf,if_neg (by omega),hM,hE]
 have hsome:(mkS s M E).isSome=true:=by
  unfold mkS
  split
  · rfl
  · rename_i h0
    have hb:=bl_le53 M hMl;obtain ⟨_,_,_,hbb⟩:=odd_part M h0;rw [if_neg (by omega)]
    rfl
 obtain ⟨⟨n,X,e⟩,hz⟩:=Option.isSome_iff_exists.1 hsome;have hKw:K=(E+1074).toNat*4503599627370496+M:=by rcases hME with h | h <;> omega
 have hv:vK K=M*2^(E+1074).toNat:=by
  rw [hKw];exact vK_word _ _ (by rcases hME with h | h;left;omega;right;omega) (by omega)
 have hM0:M=0↔K=0:=by rcases hME with h | h <;> omega
 refine ⟨n,X,e,by rw [hO,hz],mkS_frm hz,?_,?_,?_⟩
 · intro hX
   unfold mkS at hz
   split at hz
   · cases hz;exact absurd rfl hX
   · split at hz
     · cases hz
     · cases hz;rfl
 · rw [←hM0]
   constructor
   · intro hX
     unfold mkS at hz
     split at hz
     · assumption
     · rename_i h0
       split at hz
       · cases hz
       · obtain ⟨m,_,hd,_⟩:=odd_part M h0
         cases hz
         omega
   · intro h0
     unfold mkS at hz;rw [if_pos h0] at hz
     cases hz;rfl
 · intro Bs hBs
   rw [zv_mkS hz Bs (.inr (by omega)),hv,Nat.mul_assoc,←Nat.pow_add,show (E+1074).toNat+(-1074-Bs).toNat=(E-Bs).toNat by omega]
end
section
open Go.RowKit J
theorem wd_word (s:Bool) (K:Nat):wd64 s K=Ieee.double.word s K:=by
 unfold wd64;have e:Ieee.double.word s K=(if s then 9223372036854775808+K else K):=rfl
 rw [e]
 cases s <;> simp;omega
theorem wd_of (x:Nat) (h:x<18446744073709551616):x=wd64 (negW x) (magW x):=by
 unfold wd64 negW magW
 by_cases hx:9223372036854775808≤x
 · rw [decide_eq_true hx,if_pos rfl];omega
 · rw [decide_eq_false hx,if_neg (by simp)];omega
theorem magW_wd (s:Bool) (K:Nat) (h:K<9223372036854775808):magW (wd64 s K)=K∧negW (wd64 s K)=s∧wd64 s K<18446744073709551616:=by
 unfold magW negW wd64
 cases s <;> simp <;> omega
end
section
open Go.RowKit J
theorem exU (a:Nat):∃ u:Nat,u=2^a:=⟨_,rfl⟩
def EU:Nat:=1074
def ES:Nat:=2095004
noncomputable def UU:Nat:=Classical.choose (exU EU)
noncomputable def SS:Nat:=Classical.choose (exU ES)
theorem U_eq:UU=2^EU:=Classical.choose_spec (exU EU)
theorem S_eq:SS=2^ES:=Classical.choose_spec (exU ES)
theorem EUS:EU+ES=2096078:=by unfold EU ES;rfl
theorem US (a:Nat) (h:a=2096078):2^a=UU*SS:=by
 rw [U_eq,S_eq,←Nat.pow_add,EUS,h]
structure Fo (o:Option (Bool×Nat×Int)) (z:Int) (L H:Int):Prop where
 ex:∃ n X e,o=some (n,X,e)∧Frm n X e∧zv (-2097152) (n,X,e)=z*(SS:Int)∧(X=0∨L≤e∧e+(bl X:Int)≤H)
theorem mkS_sz (n:Bool) (Z:Nat) (f L H:Int) (hZ:Z≠0) (h1:L≤f) (h2:f+(bl Z:Int)≤H) (hL:-1000000≤L) (hH:H≤1000000) (hd:H-L≤262144) :
 ∃ X e,mkS n Z f=some (n,X,e)∧X≠0∧L≤e∧e+(bl X:Int)≤H:=by
 obtain ⟨m,e0,e1,e2⟩:=odd_part Z hZ;unfold mkS;rw [if_neg hZ,if_neg (by omega)]
 exact ⟨_,_,rfl,by omega,by omega,by omega⟩
theorem blLe {X m:Nat}(h:X<2^m):bl X≤m:=by
 apply Nat.le_of_not_lt;intro hh
 have:=(bl_gt X m).1 hh;omega
end
section
open Go.RowKit J
theorem sg1_sg (s:Bool) (v:Nat):sg1 s*(v:Int)=B.sg s v:=by unfold sg1 B.sg;cases s <;> simp
theorem top_v (K:Nat) (hK:K<9218868437227405312) (a:Nat) (ha:a=2045):vK K<9007199254740992*2^a:=by
 have h:=vK_word a 9007199254740992 (.inr (by omega)) (by omega)
 have h2:a*4503599627370496+9007199254740992=9218868437227405312:=by rw [ha]
 rw [←h,h2];exact vK_lt.2 hK
theorem of_fo (s:Bool) (K:Nat) (hK:K<9218868437227405312):∃ n X e,ofK s K=some (n,X,e)∧Fo (some (n,X,e)) (B.sg s (vK K)*(UU:Int)) (-1074) 1024∧(X=0↔K=0):=by
 obtain ⟨n,X,e,h1,F,h2,h3,h4⟩:=ofK_val s K hK;refine ⟨n,X,e,h1,⟨n,X,e,rfl,F,?_,?_⟩,h3⟩
 · obtain ⟨a,ha⟩:∃ a:Nat,(-1074 - -2097152:Int).toNat=a:=⟨_,rfl⟩
   have h5:=h4 (-2097152) (by omega)
   rw [ha] at h5;rw [h5,US a (by omega),Int.natCast_mul,Int.natCast_mul,←Int.mul_assoc,←Int.mul_assoc,sg1_sg]
 · by_cases hX:X=0
   · exact .inl hX
   · right
     have ho:=frm_odd F hX;have hd:=F.down
     -- in units of the form's own place
     have h5:=h4 (min e (-1074)) (by omega)
     unfold zv at h5;simp only at h5;rw [h2 hX] at h5
     have h6:X*2^(e-min e (-1074)).toNat=vK K*2^(-1074-min e (-1074)).toNat:=by
      unfold sg1 at h5
      cases s
      · simp only [Bool.false_eq_true,if_false,Int.one_mul] at h5;exact_mod_cast h5
      · simp only [if_true] at h5;have:=Int.eq_of_mul_eq_mul_left (by decide) h5;exact_mod_cast this
     have he:-1074≤e:=by
      apply Int.le_of_not_gt;intro hlt
      rw [show (e-min e (-1074)).toNat=0 by omega,Nat.pow_zero,Nat.mul_one] at h6
      obtain ⟨q,hq⟩:∃ q,(-1074-min e (-1074)).toNat=q+1:=⟨(-1074-min e (-1074)).toNat-1,by omega⟩
      rw [hq,Nat.pow_succ,←Nat.mul_assoc] at h6;omega
     refine ⟨he,?_⟩;rw [show (-1074-min e (-1074)).toNat=0 by omega,Nat.pow_zero,Nat.mul_one] at h6
     obtain ⟨q,hq⟩:∃ q,(e-min e (-1074)).toNat=q:=⟨_,rfl⟩;rw [hq] at h6;obtain ⟨c,hc⟩:∃ c:Nat,c=2045:=⟨_,rfl⟩;have h7:=top_v K hK c hc;have h8:=bl_ge X hX;have h9:=bl_pos X hX;obtain ⟨b,hb⟩:∃ b,bl X=b+1:=⟨bl X-1,by omega⟩
     rw [hb,Nat.add_sub_cancel] at h8;have h10:2^b*2^q<9007199254740992*2^c:=Nat.lt_of_le_of_lt (Nat.mul_le_mul_right _ h8) (by rw [h6];exact h7)
     rw [←Nat.pow_add,show (9007199254740992:Nat)=2^53 from rfl,←Nat.pow_add] at h10
     have h11:=(Nat.pow_lt_pow_iff_right (by decide:1<2)).1 h10
     omega
end
section
open Go.RowKit J
theorem absSg (s:Bool) (v:Nat):(B.sg s v).natAbs=v:=by unfold B.sg;cases s <;> simp
end
section
open Go.RowKit J
abbrev Wd (x:Nat):Prop:=x<18446744073709551616
end
section
open Go.RowKit J
abbrev finW (x:Nat):Prop:=magW x<9218868437227405312
def fvW (x:Nat):Int:=B.sg (negW x) (vK (magW x))
def EQ:Nat:=2096
theorem exQ:∃ q:Nat,q=2^EQ:=⟨_,rfl⟩
noncomputable def QQ:Nat:=Classical.choose exQ
theorem Q_eq:QQ=2^EQ:=Classical.choose_spec exQ
theorem sg_abs (s:Bool) (v:Nat):(B.sg s v).natAbs=v:=absSg s v
theorem vK_F (K:Nat):∃ m k:Nat,vK K=m*2^k∧m≤9007199254740992:=by
 show ∃ m k,B.val Ieee.double K=m*2^k∧m≤9007199254740992
 unfold B.val;rw [B.dBin]
 split
 · exact ⟨K,0,by simp,by omega⟩
 · exact ⟨_,_,rfl,by omega⟩
theorem F_vK {f:Int}(h:IsF f):∃ L,vK L=f.natAbs:=by
 by_cases hs:f.natAbs≤9007199254740992
 · refine ⟨f.natAbs,?_⟩
   have:=vK_word 0 f.natAbs (.inl rfl) hs;simpa using this
 · obtain ⟨k,h1,h2,h3⟩:=h.placed
   have h2':2^(52+k)≤f.natAbs:=by
    rcases h2 with rfl|h2
    · omega
    · exact h2
   obtain ⟨q,hq⟩:=h3;have hf:f.natAbs=q.natAbs*2^k:=by rw [hq,Int.natAbs_mul,natAbs_p2,Nat.mul_comm]
   rw [hf] at h1 h2' ⊢;rw [Nat.pow_add] at h1 h2';have a1:=Nat.lt_of_mul_lt_mul_right h1;have a2:=Nat.le_of_mul_le_mul_right h2' (Nat.two_pow_pos _);exact ⟨_,vK_word k q.natAbs (.inr (by omega)) (by omega)⟩
theorem ne_near {R V L:Nat}(h:NE R V 1):((vK R:Int)-V).natAbs≤((vK L:Int)-V).natAbs:=by
 have u:2*V≤vK R+vK (R+1):=by have:=h.up;rw [Nat.mul_one] at this;exact this
 rcases Nat.lt_trichotomy L R with c|c|c
 · have d:vK (R-1)+vK R≤2*V:=by have:=h.dn (by omega);rw [Nat.mul_one] at this;exact this
   have m1:vK L≤vK (R-1):=vmono (by omega)
   have m2:vK (R-1)<vK R:=vK_lt.2 (by omega)
   omega
 · rw [c];omega
 · have m1:vK (R+1)≤vK L:=vmono (by omega)
   have m2:vK R<vK (R+1):=vK_lt.2 (by omega)
   omega
theorem ne_rn {R:Nat}{T:Int}(h:NE R T.natAbs 1) {s:Bool}(hs:T≠0→s=decide (T<0)):IsRn T (B.sg s (vK R)):=by
 have hF:IsF (B.sg s (vK R)):=by
  obtain ⟨m,k,h1,h2⟩:=vK_F R;unfold B.sg;rw [h1]
  cases s
  · exact ⟨(m:Int),k,by simp,by omega,by omega⟩
  · exact ⟨-(m:Int),k,by simp [Int.neg_mul],by omega,by omega⟩
 refine ⟨hF,fun f hf=>?_⟩
 obtain ⟨L,hL⟩:=F_vK hf;have n:=ne_near (L:=L) h
 by_cases hT:T=0
 · subst hT
   have:NE 0 (0:Int).natAbs 1:=NEf.own (by decide) (by rw [B.val_zero];rfl)
   rw [h.one this (by decide),show vK 0=0 from B.val_zero _]
   unfold B.sg
   cases s <;> simp
 · have e:=hs hT
   unfold B.sg
   by_cases hn:T<0
   · rw [decide_eq_true hn] at e;subst e
     simp only [if_true];omega
   · rw [decide_eq_false hn] at e;subst e
     simp only [Bool.false_eq_true,if_false];omega
theorem top_half (K:Nat) (h:9218868437227405311≤K):2*QQ<vK K:=by
 obtain ⟨c,hc⟩:∃ c:Nat,c=2045:=⟨_,rfl⟩;have h1:=vK_word c 4503599627370496 (.inr (by omega)) (by omega)
 have h2:c*4503599627370496+4503599627370496<K:=by rw [hc];omega
 have h3:=vK_lt.2 h2;rw [h1] at h3
 have h4:2*QQ=4503599627370496*2^c:=by
  have a1:EQ+1=52+c:=by rw [hc];unfold EQ;rfl
  have a2:2*2^EQ=2^(EQ+1):=by rw [Nat.pow_succ,Nat.mul_comm]
  rw [Q_eq,a2,a1,Nat.pow_add]
 omega
theorem ne_fin {R V:Nat}(h:NE R V 1) (hV:V≤3*QQ):R<9218868437227405312:=by
 apply Nat.lt_of_not_le;intro hh
 have d:vK (R-1)+vK R≤2*V:=by have:=h.dn (by omega);rw [Nat.mul_one] at this;exact this
 have a1:=top_half (R-1) (by omega)
 obtain ⟨c,hc⟩:∃ c:Nat,c=2045:=⟨_,rfl⟩;have h1:=vK_word c 9007199254740992 (.inr (by omega)) (by omega)
 have h2:c*4503599627370496+9007199254740992≤R:=by rw [hc];omega
 have h3:vK (c*4503599627370496+9007199254740992)≤vK R:=vmono h2;rw [h1] at h3
 have h4:4*QQ=9007199254740992*2^c:=by
  have a1:EQ+2=53+c:=by rw [hc];unfold EQ;rfl
  have a2:4*2^EQ=2^(EQ+2):=by rw [Nat.pow_add,Nat.mul_comm]
  rw [Q_eq,a2,a1,Nat.pow_add]
 omega
theorem fv_wd (s:Bool) (K:Nat) (h:K<9218868437227405312):finW (wd64 s K)∧fvW (wd64 s K)=B.sg s (vK K):=by
 obtain ⟨h1,h2,_⟩:=magW_wd s K (by omega)
 unfold fvW;rw [h1,h2];exact ⟨by unfold finW;rw [h1];exact h,rfl⟩
end
section
open Go.RowKit J
theorem fin_parts {x:Nat}(hx:x<18446744073709551616) (fx:finW x):ngW x=negW x∧vK (magW x)=frW x*2^(xpW x+1074).toNat∧-1074≤xpW x∧((clW x=0∧frW x=0)∨((clW x=1∨clW x=2)∧frW x≠0)):=by
 have hm:magW x=eW x*4503599627370496+fW x:=by unfold magW eW fW;omega
 have he:eW x<2047:=by have h:magW x<9218868437227405312:=fx;omega
 have hf:fW x<4503599627370496:=Nat.mod_lt _ (by decide)
 refine ⟨by unfold ngW B.ng;rw [if_neg (by omega)];rfl,?_⟩
 by_cases h0:eW x=0
 · have hfr:frW x=fW x:=by unfold frW B.fr;rw [if_neg (by omega),if_pos h0];simp
   have hxp:xpW x=-1074:=by unfold xpW B.xp;rw [if_neg (by omega),if_pos h0]
   have hv:vK (magW x)=fW x:=by
    have:=vK_word 0 (fW x) (.inl rfl) (by omega)
    rw [hm,h0];simpa using this
   refine ⟨by rw [hv,hfr,hxp];simp,by omega,?_⟩
   by_cases hz:fW x=0
   · exact .inl ⟨by unfold clW B.cls;rw [if_neg (by omega),if_pos h0,if_pos hz],by omega⟩
   · exact .inr ⟨.inl (by unfold clW B.cls;rw [if_neg (by omega),if_pos h0,if_neg hz]),by omega⟩
 · have hfr:frW x=fW x+4503599627370496:=by unfold frW B.fr;rw [if_neg (by omega),if_neg h0];omega
   have hxp:xpW x=(eW x:Int)-1075:=by unfold xpW B.xp;rw [if_neg (by omega),if_neg h0]
   have hv:vK (magW x)=(fW x+4503599627370496)*2^(eW x-1):=by
    have:=vK_word (eW x-1) (fW x+4503599627370496) (.inr (by omega)) (by omega)
    rw [←this,hm,show eW x*4503599627370496+fW x=(eW x-1)*4503599627370496+(fW x+4503599627370496) by omega]
   refine ⟨by rw [hv,hfr,hxp,show ((eW x:Int)-1075+1074).toNat=eW x-1 by omega],by omega,.inr ⟨.inr (by unfold clW B.cls;rw [if_neg (by omega),if_neg h0]),by omega⟩⟩
theorem sg_prod (a b:Bool) (f g i j:Nat):sgn7 (!(a==b)) (f*g*2^(i+j))=B.sg a (f*2^i)*B.sg b (g*2^j):=by
 have e:f*g*2^(i+j)=(f*2^i)*(g*2^j):=by
  rw [Nat.pow_add,Nat.mul_mul_mul_comm]
 rw [e];generalize f*2^i=P;generalize g*2^j=Q;unfold sgn7 B.sg
 cases a <;> cases b <;> simp [Int.neg_mul,Int.mul_neg]
theorem pT_mul {x y:Nat}(hx:x<18446744073709551616) (hy:y<18446744073709551616) (fx:finW x) (fy:finW y):pT x y=fvW x*fvW y∧(pK x y=0∨pK x y=4∨pK x y=5):=by
 obtain ⟨n1,v1,x1,c1⟩:=fin_parts hx fx;obtain ⟨n2,v2,x2,c2⟩:=fin_parts hy fy;unfold pT pK fvW;rw [n1,n2,v1,v2]
 by_cases hz:clW x=0∨clW y=0
 · have hmin:min (clW x) (clW y)=0:=by omega
   have hmax:max (clW x) (clW y)≤2:=by omega
   have hpk:pk (max (clW x) (clW y)) (min (clW x) (clW y)) (!negW x==negW y)=4∨pk (max (clW x) (clW y)) (min (clW x) (clW y)) (!negW x==negW y)=5:=by
    unfold pk;rw [hmin,if_neg (by omega),if_neg (by omega),if_pos rfl]
    split
    · exact .inl rfl
    · exact .inr rfl
   refine ⟨?_,.inr hpk⟩;rw [pv7_no (by omega)]
   rcases c1 with ⟨_,f1⟩|⟨k1,_⟩
   · rw [f1];simp [B.sg]
   · rcases c2 with ⟨_,f2⟩ | ⟨k2,_⟩
     · rw [f2];simp [B.sg]
     · omega
 · have hpk:pk (max (clW x) (clW y)) (min (clW x) (clW y)) (!negW x==negW y)=0:=by
    unfold pk;rw [if_neg (by omega),if_neg (by omega),if_neg (by omega)]
   refine ⟨?_,.inl hpk⟩;rw [pv7_yes hpk,show (xpW x+xpW y+2148).toNat=(xpW x+1074).toNat+(xpW y+1074).toNat by omega]
   have e:(!negW x==negW y)=!(negW x==negW y):=by cases negW x <;> cases negW y <;> rfl
   rw [e];exact sg_prod _ _ _ _ _ _
end
end Go.Proofs.YtopgffjnejaijaaGreatDoor
