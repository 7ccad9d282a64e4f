import Derived.Test.YtjppdacikihpdaaGreatDoorS10x
import Derived.Deep.RegionWith
import Derived.Test.YtjppdacikihpdaaGreatDoorD19x
import Derived.Test.YtjppdacikihpdaaGreatDoorM1x
import Derived.Test.YtjppdacikihpdaaGreatDoorD15x
import Ieee.Arith
import Derived.Test.YtjppdacikihpdaaGreatDoorBIeeex
import Derived.Test.YtjppdacikihpdaaGreatDoorW50x
import Derived.Deep.Cut
import Derived.Deep.RegionHeld3
set_option linter.unusedVariables false
set_option linter.unusedSimpArgs false
set_option maxHeartbeats 16000000
set_option maxRecDepth 20000
namespace Go.Proofs.YtjppdacikihpdaaGreatDoor
section
open Go.RowKit
def QB:Nat:=HB/4398046511104
theorem Qau{P:Prop}(h:P:=by
 unfold QB;rw[xO k hk,show k=42+j by omega,aI];have e:(2:Nat)^42=4398046511104:=by decide
 rw[e,uK _ (by decide)]):P:=h
theorem Kt:HB=4398046511104*QB:=by
 obtain⟨k,hk⟩:∃ k,k=4238:=⟨_,rfl⟩;obtain⟨j,hj⟩:∃ j,j=4196:=⟨_,rfl⟩;exact Qau
theorem Cm:0<QB:=by have:=Kt;have:=sV;omega
theorem yl(x y:Nat)(hx:x<18446744073709551616)(hy:y<18446744073709551616):-(QB:Int)<=pT x y/\pT x y<=(QB:Int):=by
 have hp:=Cm
 have e2:∃ j,j=4196/\QB=2^j:=by
  obtain⟨k,hk⟩:∃ k,k=4238:=⟨_,rfl⟩;obtain⟨j,hj⟩:∃ j,j=4196:=⟨_,rfl⟩;refine⟨j,hj,?_⟩;exact Qau
 obtain⟨j,hj,hq⟩:=e2;unfold pT XB
 split
 · have f1:=mg (eW x) (fW x) (gZ x hx).2.2;have f2:=mg (eW y) (fW y) (gZ y hy).2.2;have x1:=mf (eW x) (gZ x hx).2.1;have x2:=mf (eW y) (gZ y hy).2.1
   have h1:vw x*vw y<2^106:=by
    exact Qao
   have h3:vw x*vw y*2^(Dl x+Dl y+2148).toNat<QB:=by
    rw[hq];exact Qbn
   have:=zV (!Ke x==Ke y) _ _ h3;omega
 · constructor <;> omega
def Sp.pos(s:Sp):Prop:=0<=s.n/\0<=s.u/\0<=s.d/\0<=s.m/\0<=s.p/\s.n+s.u+s.d+s.m+s.p<=s.a
theorem Sp.pos.cnt{s:Sp}(h:s.pos)(k:Nat)(hk:k<=5):(s.cnt k 1).pos:=by
 obtain⟨h0,h1,h2,h3,h4,h5⟩:=h;have hc:k=0\/k=1\/k=2\/k=3\/k=4\/k=5:=by omega
 rcases hc with rfl|rfl|rfl|rfl|rfl|rfl <;> (unfold Sp.pos Sp.cnt;simp;omega)
theorem Sp.pos.ok{s:Sp}(h:s.pos)(ha:s.a<=4398046511104):s.ok:=by
 obtain⟨h0,h1,h2,h3,h4,h5⟩:=h;unfold Sp.ok;omega
theorem cnt_a(s:Sp)(k:Nat)(c:Int):(s.cnt k c).a=s.a+c:=rfl
theorem YN(V:Int)(s:Sp)(k:Nat)(T:Int)(h0:-(HB:Int)<V+T)(h1:V+T<(HB:Int))(ha:s.a<1099511627776):zb V s k T=(0,V+T,s.cnt k 1):=by
 unfold zb zU;rw[if_neg (by omega),if_pos ⟨h0,h1⟩]
def vS(l:List Nat):Int:=l.foldl (fun v x=>v+pT x 4607182418800017408) 0
def sS(l:List Nat):Sp:=l.foldl (fun s x=>s.cnt (pK x 4607182418800017408) 1) ⟨0,0,0,0,0,0⟩
theorem oF(l:List Nat)(k:Nat)(h:k<l.length):l.take (k+1)=l.take k++[l.getD k 0]:=by
 rw[wK h,bG,dx h];rfl
theorem Cn(l:List Nat)(k:Nat)(h:k<l.length):vS (l.take (k+1))=vS (l.take k)+pT (l.getD k 0) 4607182418800017408:=by
 rw[oF l k h];simp[vS,List.foldl_append]
theorem Co(l:List Nat)(k:Nat)(h:k<l.length):sS (l.take (k+1))=(sS (l.take k)).cnt (pK (l.getD k 0) 4607182418800017408) 1:=by
 rw[oF l k h];simp[sS,List.foldl_append]
theorem oG(l:List Nat)(hl:ja l):∀ k,k<=l.length->-((k*QB:Nat):Int)<=vS (l.take k)/\vS (l.take k)<=((k*QB:Nat):Int)
 | 0,_=>by simp[vS]
 | k+1,h=>by
   obtain⟨h1,h2⟩:=oG l hl k (by omega);have h3:=yl (l.getD k 0) 4607182418800017408 (hl.get k) (by decide);rw[Cn l k h];have e:((k+1)*QB:Nat)=k*QB+QB:=by rw[fC,gI]
   omega
theorem IK(l:List Nat):∀ k,k<=l.length->(sS (l.take k)).pos/\(sS (l.take k)).a=k
 | 0,_=>⟨by rw[List.take_zero];unfold Sp.pos sS;decide,rfl⟩
 | k+1,h=>by
   obtain⟨h1,h2⟩:=IK l k (by omega);rw[Co l k h];refine⟨h1.cnt _ (XD _ _ _),?_⟩;rw[cnt_a,h2];omega
attribute [local go_sem] B.aM B.aF
theorem bR{P:Program}{w:World}(a:Addr)(k:FloatKind)(n:Nat)(m:Mode):(store a (.float k n) m).run P w=stored P w a (.float k n) m:=run_store P w a _ m rfl
def oddW:Nat:=9221120237041090560
def rO(z:Nat):Bool:=decide (9218868437227405312<z%9223372036854775808)
theorem bwz(z:Nat)(h:z<18446744073709551616):∃ s e f,e<2048/\f<4503599627370496/\z=B.bw s e f/\B.odd e f=rO z:=by
 refine⟨decide (9223372036854775808<=z),z%9223372036854775808/4503599627370496,z%4503599627370496,by omega,by omega,?_,?_⟩
 · unfold B.bw
   by_cases h1:9223372036854775808<=z
   · simp only[h1,decide_true,fH];omega
   · simp only[h1,decide_false,fI];omega
 · unfold B.odd rO;rw[wE];simp only[wV,beq_iff_eq,bne_iff_ne,ne_eq,decide_eq_true_eq];omega
theorem Vn(z:Nat)(h:z<18446744073709551616)(w:World):Calls Tryz.prog 27 #[.float .f64 z] w fun r w'=>r=.returned (.bool (rO z))/\w'=w:=by
 obtain⟨s,e,f,he,hf,h1,h2⟩:=bwz z h;rw[<-h2,h1];exact B.bO s e f he hf w
end
section
open Go.RowKit
theorem Cq(W:World)(g:Nat)(n:Bool)(v:Value)(e k:Int)(tmps:Array Value)(ht:tmps[4]?.getD undef=.pointer (some ⟨g,0,none⟩))(hk:tmps[5]?.getD undef=.int .i64 k)(D:Dk W g n v e) :
 (results Tryz.f79 tmps).run Tryz.prog W=.ok (.tuple #[.agg #[.bool n,v,.int .i64 e],.int .i64 k]) W:=by
 obtain⟨x0,x1,x2,dW,dY,dZ⟩:=D.facts;simp[results,Tryz.results79,ht,hk,go_sem,x0,x1,x2]
theorem Kv{w:World}{a b:Option Addr}{l c k d:Nat}(n m:Bool)(e f:Int)(kE:Hid (∀ u,Below w.heap.size w u->Calls Tryz.prog 80 #[.agg #[.bool n,.slice a l c,.int .i64 e],.agg #[.bool m,.slice b k d,.int .i64 f]] u fun r w'=>r=.returned (.tuple #[.agg #[.bool false,.slice none 0 0,.int .i64 0],.agg #[.bool false,.slice none 0 0,.int .i64 0],.int .i64 2])/\Below u.heap.size u w')):Calls Tryz.prog 79 #[.agg #[.bool n,.slice a l c,.int .i64 e],.agg #[.bool m,.slice b k d,.int .i64 f]] w fun r w'=>r=.returned (.tuple #[.agg #[.bool false,.slice none 0 0,.int .i64 0],.int .i64 2])/\Below w.heap.size w w':=by
 obtain⟨W1,hW1⟩:=af (((w.alloc (.cells #[.bool n,.slice a l c,.int .i64 e] 79)).alloc (.cells #[.bool m,.slice b k d,.int .i64 f] 79)).alloc (.cells #[.bool false,.slice none 0 0,.int .i64 0] 79));obtain⟨hB,hz1,DA,DB,DR⟩:=aN w n m (.slice a l c) (.slice b k d) e f W1 hW1;have H1:=hid (kE.o W1 hB);have SB:=(fM hB hz1 DA DB DR);clear hB hz1 DA DB DR kE;go_enter Tryz.func79,Tryz.ntmps79;go_wp2_with fail;rw[<-hW1];clear hW1;refine H1.o.mono ?_;rintro r u1 ⟨rfl,hb⟩;obtain⟨hB,hz1,DA,DB,DR⟩:=SB.o;have EA:=DA.below hb;have EB:=DB.below hb;have ER:=DR.below hb;obtain⟨x0,x1,x2,dW,dY,dZ⟩:=EA.facts;obtain⟨y0,y1,y2,dH,dI,dJ⟩:=EB.facts;obtain⟨r0,r1,r2,fQ,fT,fU⟩:=ER.facts;have F1:=ah (show Fin w.heap.size (w.heap.size+3) w u1 (.slice none 0 0) 0 from⟨Nt.nil _ _,hB.trans (hb.mono (by omega)),by have:=hb.size;omega⟩);have SE:=ah ER;clear hb H1 hB hz1 DA DB DR EA EB ER SB;go_wp2;refine aB (Cq _ (w.heap.size+1+1) false (.slice none 0 0) 0 2 _ rfl rfl (((SE.o.other _ (by omega) _ _ _).other _ (by omega) _ _ _).set _ _ _)) rfl ⟨rfl,?_⟩;exact js
theorem Rc {w:World}{a b:Option Addr}{l c k d:Nat}(n m:Bool) (e f:Int) (n1 m1:Bool) (X Y:Nat) (e1 f1:Int) (lX:(ws X).length<=8192) (lY:(ws Y).length<=8192) (MN:-1048576<=e1) (MO:e1<=1048576) (MR:-1048576<=f1) (MU:f1<=1048576)
 (kE:Hid (∀ u,Below w.heap.size w u->Calls Tryz.prog 80 #[.agg #[.bool n,.slice a l c,.int .i64 e],.agg #[.bool m,.slice b k d,.int .i64 f]] u fun r w'=>∃ v v',r=.returned (.tuple #[.agg #[.bool n1,v,.int .i64 e1],.agg #[.bool m1,v',.int .i64 f1],.int .i64 0])/\Nt u.heap.size w' v X/\Nt u.heap.size w' v' Y/\Below u.heap.size u w'))
 (x8:Hid (∀ (u:World) (p:Option Addr) (q:Nat) (p2:Option Addr) (q2:Nat),Below w.heap.size w u->Arg u p (ws X).length q (ws X)->Arg u p2 (ws Y).length q2 (ws Y)->Calls Tryz.prog 127 #[.slice p (ws X).length q,.slice p2 (ws Y).length q2] u fun r w'=>∃ v,r=.returned (.tuple #[v,.int .i64 2])/\Nt u.heap.size w' v 0/\Below u.heap.size u w')):Calls Tryz.prog 79 #[.agg #[.bool n,.slice a l c,.int .i64 e],.agg #[.bool m,.slice b k d,.int .i64 f]] w fun r w'=>r=.returned (.tuple #[.agg #[.bool false,.slice none 0 0,.int .i64 0],.int .i64 2])/\Below w.heap.size w w':=by
 have l0:(ws 0).length=0:=by rw[bI];rfl
 obtain⟨W1,hW1⟩:=af (((w.alloc (.cells #[.bool n,.slice a l c,.int .i64 e] 79)).alloc (.cells #[.bool m,.slice b k d,.int .i64 f] 79)).alloc (.cells #[.bool false,.slice none 0 0,.int .i64 0] 79));obtain⟨hB,hz1,DA,DB,DR⟩:=aN w n m (.slice a l c) (.slice b k d) e f W1 hW1;have H1:=hid (kE.o W1 hB);have SB:=(fM hB hz1 DA DB DR);clear hB hz1 DA DB DR kE;go_enter Tryz.func79,Tryz.ntmps79;go_wp2_with fail;rw[<-hW1];clear hW1;refine H1.o.mono ?_;rintro r u1 ⟨v,v',rfl,hN,hM,hb⟩;obtain⟨a1,c1,rfl,_⟩:=hN.arg (by omega);obtain⟨a2,c2,rfl,_⟩:=hM.arg (by omega);obtain⟨hB,hz1,DA,DB,DR⟩:=SB.o;have EA:=DA.below hb;have EB:=DB.below hb;have ER:=DR.below hb;obtain⟨x0,x1,x2,dW,dY,dZ⟩:=EA.facts;obtain⟨y0,y1,y2,dH,dI,dJ⟩:=EB.facts;obtain⟨r0,r1,r2,fQ,fT,fU⟩:=ER.facts;have FX:=ah (show Fin w.heap.size (w.heap.size+3) w u1 (.slice a1 (ws X).length c1) X from⟨by rw[<-hz1];exact hN,hB.trans (hb.mono (by omega)),by have:=hb.size;omega⟩);have FY:=ah (show Fin w.heap.size (w.heap.size+3) w u1 (.slice a2 (ws Y).length c2) Y from⟨by rw[<-hz1];exact hM,hB.trans (hb.mono (by omega)),by have:=hb.size;omega⟩);have SE:=(fG EA EB ER);clear hN hM hb H1 hB hz1 DA DB DR EA EB ER SB;obtain⟨EA,EB,ER⟩:=SE.o;obtain⟨U1,aP⟩:=af (dG (dG u1 w.heap.size (.bool n1) (.slice a1 (ws X).length c1) (.int .i64 e1)) (w.heap.size+1) (.bool m1) (.slice a2 (ws Y).length c2) (.int .i64 f1));have IA:Dk U1 w.heap.size n1 (.slice a1 (ws X).length c1) e1:=by rw[aP];exact((EA.set _ _ _).other _ (by omega) _ _ _)
 have IB:Dk U1 (w.heap.size+1) m1 (.slice a2 (ws Y).length c2) f1:=by rw[aP];exact((EB.other _ (by omega) _ _ _).set _ _ _)
 have IR:Dk U1 (w.heap.size+1+1) false (.slice none 0 0) 0:=by rw[aP];exact((ER.other _ (by omega) _ _ _).other _ (by omega) _ _ _)
 have GX:Fin w.heap.size (w.heap.size+3) w U1 (.slice a1 (ws X).length c1) X:=by rw[aP];exact(Fin.dG (Fin.dG FX.o _ _ _ _ (by omega) (by omega)) _ _ _ _ (by omega) (by omega))
 have GY:Fin w.heap.size (w.heap.size+3) w U1 (.slice a2 (ws Y).length c2) Y:=by rw[aP];exact(Fin.dG (Fin.dG FY.o _ _ _ _ (by omega) (by omega)) _ _ _ _ (by omega) (by omega))
 have H2:=hid (x8.o U1 a1 c1 a2 c2 GX.aC (GX.nt.bC (by omega)).2 (GY.nt.bC (by omega)).2);have S1:=(fM IA IB IR GX GY);have YI:w.heap.size+3<=U1.heap.size:=by have:=IR.lt;omega
 clear EA EB ER IA IB IR GX GY SE x8;unfold dG at aP;go_wp2_with fail;rw[<-aP];clear aP x0 x1 x2 dW dY dZ y0 y1 y2 dH dI dJ r0 r1 r2 fQ fT fU;refine H2.o.mono ?_;rintro r u2 ⟨v,rfl,hN,hb⟩;obtain⟨a3,c3,rfl,_⟩:=hN.arg (by omega);obtain⟨IA,IB,IR,GX,GY⟩:=S1.o;obtain⟨x0,x1,x2,dW,dY,dZ⟩:=(IA.below hb).facts;obtain⟨y0,y1,y2,dH,dI,dJ⟩:=(IB.below hb).facts;obtain⟨r0,r1,r2,fQ,fT,fU⟩:=(IR.below hb).facts;have S2:=(aZ (IR.below hb) ((GX.below hb)));clear hN hb H2 S1 IA IB IR GX GY;go_wp2;refine aB (Cq _ (w.heap.size+1+1) false (.slice none 0 0) 0 2 _ rfl rfl (S2.o.1.set _ _ _)) rfl ⟨rfl,?_⟩;refine Fin.aC (m:=w.heap.size+3) (v:=.slice a1 (ws X).length c1) (X:=X) ?_
 repeat (with_reducible first | exact S2.o.2 | refine Fin.drew ?_ | refine Fin.alloc ?_ _ | refine Fin.set ?_ _ _ _ (by omega) (by omega))
theorem YO {w:World}{a b:Option Addr}{l c k d:Nat}(n m:Bool) (e f:Int) (n1 m1:Bool) (X Y:Nat) (e1 f1:Int) (lX:(ws X).length<=8192) (lY:(ws Y).length<=8192) (MN:-1048576<=e1) (MO:e1<=1048576) (MR:-1048576<=f1) (MU:f1<=1048576)
 (kE:Hid (∀ u,Below w.heap.size w u->Calls Tryz.prog 80 #[.agg #[.bool n,.slice a l c,.int .i64 e],.agg #[.bool m,.slice b k d,.int .i64 f]] u fun r w'=>∃ v v',r=.returned (.tuple #[.agg #[.bool n1,v,.int .i64 e1],.agg #[.bool m1,v',.int .i64 f1],.int .i64 0])/\Nt u.heap.size w' v X/\Nt u.heap.size w' v' Y/\Below u.heap.size u w')) (L:Nat) (lL:(ws L).length<=8192) (dn:Bool) (V:Nat) (de er:Int) (lV:(ws V).length<=8192)
 (x8:Hid (∀ (u:World) (p:Option Addr) (q:Nat) (p2:Option Addr) (q2:Nat),Below w.heap.size w u->Arg u p (ws X).length q (ws X)->Arg u p2 (ws Y).length q2 (ws Y)->Calls Tryz.prog 127 #[.slice p (ws X).length q,.slice p2 (ws Y).length q2] u fun r w'=>∃ v,r=.returned (.tuple #[v,.int .i64 0])/\Nt u.heap.size w' v L/\Below u.heap.size u w'))
 (HT:Hid (∀ (u:World) (p:Option Addr) (s:Nat),Below w.heap.size w u->Arg u p (ws L).length s (ws L)->Calls Tryz.prog 94 #[.bool (n1 != m1),.slice p (ws L).length s,.int .i64 (e1+f1)] u fun r w'=>(∃ v,r=.returned (.tuple #[.agg #[.bool dn,v,.int .i64 de],.int .i64 er])/\Nt u.heap.size w' v V)/\Below u.heap.size u w')):Calls Tryz.prog 79 #[.agg #[.bool n,.slice a l c,.int .i64 e],.agg #[.bool m,.slice b k d,.int .i64 f]] w fun r w'=>(∃ v,r=.returned (.tuple #[.agg #[.bool dn,v,.int .i64 de],.int .i64 er])/\Nt w.heap.size w' v V)/\Below w.heap.size w w':=by
 obtain⟨W1,hW1⟩:=af (((w.alloc (.cells #[.bool n,.slice a l c,.int .i64 e] 79)).alloc (.cells #[.bool m,.slice b k d,.int .i64 f] 79)).alloc (.cells #[.bool false,.slice none 0 0,.int .i64 0] 79));obtain⟨hB,hz1,DA,DB,DR⟩:=aN w n m (.slice a l c) (.slice b k d) e f W1 hW1;have H1:=hid (kE.o W1 hB);have SB:=(fM hB hz1 DA DB DR);clear hB hz1 DA DB DR kE;go_enter Tryz.func79,Tryz.ntmps79;go_wp2_with fail;rw[<-hW1];clear hW1;refine H1.o.mono ?_;rintro r u1 ⟨v,v',rfl,hN,hM,hb⟩;obtain⟨a1,c1,rfl,_⟩:=hN.arg (by omega);obtain⟨a2,c2,rfl,_⟩:=hM.arg (by omega);obtain⟨hB,hz1,DA,DB,DR⟩:=SB.o;have EA:=DA.below hb;have EB:=DB.below hb;have ER:=DR.below hb;obtain⟨x0,x1,x2,dW,dY,dZ⟩:=EA.facts;obtain⟨y0,y1,y2,dH,dI,dJ⟩:=EB.facts;obtain⟨r0,r1,r2,fQ,fT,fU⟩:=ER.facts;have FX:=ah (show Fin w.heap.size (w.heap.size+3) w u1 (.slice a1 (ws X).length c1) X from⟨by rw[<-hz1];exact hN,hB.trans (hb.mono (by omega)),by have:=hb.size;omega⟩);have FY:=ah (show Fin w.heap.size (w.heap.size+3) w u1 (.slice a2 (ws Y).length c2) Y from⟨by rw[<-hz1];exact hM,hB.trans (hb.mono (by omega)),by have:=hb.size;omega⟩);have SE:=(fG EA EB ER);clear hN hM hb H1 hB hz1 DA DB DR EA EB ER SB;obtain⟨EA,EB,ER⟩:=SE.o;obtain⟨U1,aP⟩:=af (dG (dG u1 w.heap.size (.bool n1) (.slice a1 (ws X).length c1) (.int .i64 e1)) (w.heap.size+1) (.bool m1) (.slice a2 (ws Y).length c2) (.int .i64 f1));have IA:Dk U1 w.heap.size n1 (.slice a1 (ws X).length c1) e1:=by rw[aP];exact((EA.set _ _ _).other _ (by omega) _ _ _)
 have IB:Dk U1 (w.heap.size+1) m1 (.slice a2 (ws Y).length c2) f1:=by rw[aP];exact((EB.other _ (by omega) _ _ _).set _ _ _)
 have IR:Dk U1 (w.heap.size+1+1) false (.slice none 0 0) 0:=by rw[aP];exact((ER.other _ (by omega) _ _ _).other _ (by omega) _ _ _)
 have GX:Fin w.heap.size (w.heap.size+3) w U1 (.slice a1 (ws X).length c1) X:=by rw[aP];exact(Fin.dG (Fin.dG FX.o _ _ _ _ (by omega) (by omega)) _ _ _ _ (by omega) (by omega))
 have GY:Fin w.heap.size (w.heap.size+3) w U1 (.slice a2 (ws Y).length c2) Y:=by rw[aP];exact(Fin.dG (Fin.dG FY.o _ _ _ _ (by omega) (by omega)) _ _ _ _ (by omega) (by omega))
 have H2:=hid (x8.o U1 a1 c1 a2 c2 GX.aC (GX.nt.bC (by omega)).2 (GY.nt.bC (by omega)).2);have S1:=(fM IA IB IR GX GY);have YI:w.heap.size+3<=U1.heap.size:=by have:=IR.lt;omega
 clear EA EB ER IA IB IR GX GY SE x8;unfold dG at aP;go_wp2_with fail;rw[<-aP];clear aP x0 x1 x2 dW dY dZ y0 y1 y2 dH dI dJ r0 r1 r2 fQ fT fU;refine H2.o.mono ?_;rintro r u2 ⟨v,rfl,hN,hb⟩;obtain⟨a3,c3,rfl,_⟩:=hN.arg (by omega);obtain⟨IA,IB,IR,GX,GY⟩:=S1.o;obtain⟨x0,x1,x2,dW,dY,dZ⟩:=(IA.below hb).facts;obtain⟨y0,y1,y2,dH,dI,dJ⟩:=(IB.below hb).facts;obtain⟨r0,r1,r2,fQ,fT,fU⟩:=(IR.below hb).facts;have H3:=hid (HT.o u2 a3 c3 (GX.below hb).aC (hN.bC (by omega)).2);have S2:=(aZ (IR.below hb) ((GX.below hb)));have hz2:w.heap.size+3<=u2.heap.size:=by have:=hb.size;omega
 clear hN hb H2 S1 IA IB IR GX GY HT;go_wp2_with fail;refine H3.o.mono ?_;rintro r u3 ⟨⟨v,rfl,hN⟩,hb⟩;obtain⟨a4,c4,rfl,_⟩:=hN.arg (by omega);have IR:=S2.o.1.below hb;obtain⟨s0,s1,s2,zZ,z8,Aa⟩:=IR.facts;have FV:=ah (show Fin w.heap.size (w.heap.size+3) w u3 (.slice a4 (ws V).length c4) V from⟨hN.mono hz2,(S2.o.2.below hb).aC,by have:=hb.size;omega⟩);have S3:=ah IR;clear hN hb IR H3 S2;go_wp2;refine aB (Cq _ (w.heap.size+1+1) dn (.slice a4 (ws V).length c4) de er _ rfl rfl (S3.o.set _ _ _)) rfl ?_;refine Fin.jw (m:=w.heap.size+3) ?_ (by omega)
 repeat (with_reducible first | exact FV.o | refine Fin.drew ?_ | refine Fin.alloc ?_ _ | refine Fin.set ?_ _ _ _ (by omega) (by omega))
def Vo(x y:Bool×Nat×Int):Option (Bool×Nat×Int):=mkS (x.1 != y.1) (x.2.1*y.2.1) (x.2.2+y.2.2)
def vI(o p:Option (Bool×Nat×Int)):Option (Bool×Nat×Int) :=
 match o,p with
 | some x,some y=>Vo x y
 | _,_=>none
theorem Kw{w:World}{p q:Option Addr}{s t X Y:Nat}(L:Nat)(er:Int)(hA:Arg w p (ws X).length s (ws X))(hB:Arg w q (ws Y).length t (ws Y))(h:iV X Y=(L,er)) :
 Calls Tryz.prog 127 #[.slice p (ws X).length s,.slice q (ws Y).length t] w fun r w'=>∃ v,r=.returned (.tuple #[v,.int .i64 er])/\Nt w.heap.size w' v L/\Below w.heap.size w w':=by
 have:=JV (ws X) (ws Y) p q (ws X).length s (ws Y).length t w.heap.size w hA.len hB.len hA.cap hB.cap (by have:=hA.big;omega) (by have:=hB.big;omega) hA.wf hB.wf hA.rd hB.rd (ak _);rw[au,au,h] at this;exact this.mono fun r w' ⟨⟨v,h1,h2⟩,h3⟩=>⟨v,h1,h2,h3⟩
theorem Ky{X:Nat}(h:X%2=1):lo X=0:=by
 have:=JO 0 (X/2);rw[show 2^0*(2*(X/2)+1)=X by omega] at this;exact this
theorem Re{w:World}{a b:Option Addr}{l c k d:Nat}{xs ys:List Nat}(h1:Arg w a l c xs)(h2:Arg w b k d ys)(hT:gF w)(n m:Bool)(e f:Int)(he0:-9223372036854775808<=e)(he1:e<=9223372036854775807)(hf0:-9223372036854775808<=f)(hf1:f<=9223372036854775807) :
 Calls Tryz.prog 79 #[.agg #[.bool n,.slice a l c,.int .i64 e],.agg #[.bool m,.slice b k d,.int .i64 f]] w fun r w'=>bS w.heap.size w' r (vI (mkS n (val xs) e) (mkS m (val ys) f))/\Below w.heap.size w w':=by
 have zero:∀ {r:Ending} {w':World},(r=.returned (.tuple #[.agg #[.bool false,.slice none 0 0,.int .i64 0],.int .i64 2])/\Below w.heap.size w w')->bS w.heap.size w' r none/\Below w.heap.size w w':=fun⟨h1,h2⟩=>⟨⟨_,h1,Nt.nil _ _⟩,h2⟩
 cases hx:mkS n (val xs) e with
 | none =>
   exact(Kv n m e f (hid fun u hu=>xY (h1.below hu) (h2.below hu) (hT.belows hu) n m e f he0 he1 hf0 hf1 hx)).mono fun r w' h=>zero h
 | some x =>
   obtain⟨n1,X,e1⟩:=x
   cases hy:mkS m (val ys) f with
   | none =>
     exact(Kv n m e f (hid fun u hu=>xZ (h1.below hu) (h2.below hu) (hT.belows hu) n m e f he0 he1 hf0 hf1 n1 X e1 hx hy)).mono fun r w' h=>zero h
   | some y =>
     obtain⟨m1,Y,f1⟩:=y;have kE:=hid fun u (hu:Below w.heap.size w u)=>ED (h1.below hu) (h2.below hu) (hT.belows hu) n m e f he0 he1 hf0 hf1 n1 m1 X Y e1 f1 hx hy;have FX:=bK hx;have FY:=bK hy;have lX:=dV FX;have lY:=dV FY;have:=FX.up;have:=FX.down;have:=FY.up;have:=FY.down;show Calls _ _ _ _ fun r w'=>bS w.heap.size w' r (mkS (n1 != m1) (X*Y) (e1+f1))/\_
     by_cases hL:LG (X*Y)
     · have hs:iV X Y=(0,2):=by unfold iV;rw[if_neg (by intro h;rcases h with h | h;exact lg FX.size h;exact lg FY.size h),if_pos hL]
       have hno:mkS (n1 != m1) (X*Y) (e1+f1)=none:=by
        have hb:=(oo _).1 hL;have h0:X*Y≠0:=by intro h;rw[h,df] at hb;omega
        have oX:X%2=1:=by rcases FX.odd with h | h;exact h;rw[h.1,dS] at h0;exact absurd rfl h0
        have oY:Y%2=1:=by rcases FY.odd with h | h;exact h;rw[h.1,nP] at h0;exact absurd rfl h0
        have hlo:lo (X*Y)=0:=Ky (by rw[Nat.mul_mod,oX,oY]);unfold mkS;rw[if_neg h0,if_pos (.inl (by rw[hlo];omega))]
       rw[hno];exact(Rc n m e f n1 m1 X Y e1 f1 lX lY (by omega) (by omega) (by omega) (by omega) kE (hid fun u p q p2 q2 hu hA hB=>Kw 0 2 hA hB hs)).mono fun r w' h=>zero h
     · have hs:iV X Y=(X*Y,0):=by unfold iV;rw[if_neg (by intro h;rcases h with h | h;exact lg FX.size h;exact lg FY.size h),if_neg hL]
       obtain⟨L,XH⟩:∃ L,X*Y=L:=⟨_,rfl⟩;rw[XH] at hs hL |-;have lL:(ws L).length<=8192:=by unfold LG at hL;omega
       exact YO n m e f n1 m1 X Y e1 f1 lX lY (by omega) (by omega) (by omega) (by omega) kE L lL _ _ _ _ (aK (n1 != m1) L (e1+f1)) (hid fun u p q p2 q2 hu hA hB=>Kw L 0 hA hB hs)
        (hid fun u p s hu hA=>by have:=fF hA (hT.belows hu) (n1 != m1) (e1+f1) (by omega) (by omega);rw[au] at this;exact this)
theorem wrap64(x:Int)(h0:-9223372036854775808<=x)(h1:x<=9223372036854775807):IntKind.i64.wrap x=x:=by rw[Pg];omega
theorem rP(W:World)(g:Nat)(n:Bool)(v:Value)(e k:Int)(tmps:Array Value)(ht:tmps[4]?.getD undef=.pointer (some ⟨g,0,none⟩))(hk:tmps[5]?.getD undef=.int .i64 k)(D:Dk W g n v e) :
 (results Tryz.f68 tmps).run Tryz.prog W=.ok (.tuple #[.agg #[.bool n,v,.int .i64 e],.int .i64 k]) W:=by
 obtain⟨x0,x1,x2,dW,dY,dZ⟩:=D.facts;simp[results,Tryz.results68,ht,hk,go_sem,x0,x1,x2]
theorem Vp {w:World}{a b:Option Addr}{l c k d:Nat}(n m:Bool) (e f:Int) (n1 m1:Bool) (X Y:Nat) (e1 f1:Int) (lX:(ws X).length<=8192) (lY:(ws Y).length<=8192)
 (iZ:Hid (∀ u,Below w.heap.size w u->Calls Tryz.prog 108 #[.agg #[.bool n,.slice a l c,.int .i64 e]] u fun r w'=>(∃ v,r=.returned (.tuple #[.agg #[.bool n1,v,.int .i64 e1],.bool false])/\Nt u.heap.size w' v X)/\Below u.heap.size u w'))
 (jL:Hid (∀ u,Below w.heap.size w u->Calls Tryz.prog 108 #[.agg #[.bool m,.slice b k d,.int .i64 f]] u fun r w'=>(∃ v,r=.returned (.tuple #[.agg #[.bool m1,v,.int .i64 f1],.bool false])/\Nt u.heap.size w' v Y)/\Below u.heap.size u w')):Calls Tryz.prog 68 #[.agg #[.bool n,.slice a l c,.int .i64 e],.agg #[.bool m,.slice b k d,.int .i64 f]] w fun r w'=>r=.returned (.tuple #[.agg #[.bool false,.slice none 0 0,.int .i64 0],.int .i64 2])/\Below w.heap.size w w':=by
 obtain⟨W1,hW1⟩:=af (((w.alloc (.cells #[.bool n,.slice a l c,.int .i64 e] 79)).alloc (.cells #[.bool m,.slice b k d,.int .i64 f] 79)).alloc (.cells #[.bool false,.slice none 0 0,.int .i64 0] 79));obtain⟨hB,hz1,DA,DB,DR⟩:=aN w n m (.slice a l c) (.slice b k d) e f W1 hW1;have H1:=hid (iZ.o W1 hB);have SB:=(fM hB hz1 DA DB DR);clear hB hz1 DA DB DR iZ;go_enter Tryz.func68,Tryz.ntmps68;go_wp2_with fail;rw[<-hW1];clear hW1;refine H1.o.mono ?_;rintro r u1 ⟨⟨v,rfl,hN⟩,hb⟩;obtain⟨a1,c1,rfl,_⟩:=hN.arg (by omega);obtain⟨hB,hz1,DA,DB,DR⟩:=SB.o;obtain⟨U1,aP⟩:=af (u1.alloc (.cells #[.bool n1,.slice a1 (ws X).length c1,.int .i64 e1] 79));have hA:Below u1.heap.size u1 U1:=by rw[aP];exact ae _ _
 have hs1:w.heap.size+3<=u1.heap.size:=by have:=hb.size;omega
 have hs2:u1.heap.size<U1.heap.size:=by rw[aP];simp
 have FB:=(DB.below hb).below hA;have FR:=(DR.below hb).below hA;have DX:Dk U1 u1.heap.size n1 (.slice a1 (ws X).length c1) e1:=by rw[aP];exact Dk.new _ _ _ _
 have NX:Nt (w.heap.size+3) U1 (.slice a1 (ws X).length c1) X:=(hN.mono (by omega)).below hA;have BU:Below w.heap.size w U1:=(hB.trans (hb.mono (by omega))).trans (hA.mono (by omega));have H2:=hid (jL.o U1 BU);obtain⟨y0,y1,y2,dH,dI,dJ⟩:=FB.facts;have S1:=(iw BU FR DX NX);clear hN hb H1 hB hz1 hA DA DB DR FB FR DX NX BU SB jL
 go_upto_region 2 with fail
 rw[<-aP];clear aP;go_wp2_with fail;clear y0 y1 y2 dH dI dJ;refine H2.o.mono ?_;rintro r u2 ⟨⟨v,rfl,hM⟩,hb⟩;obtain⟨a2,c2,rfl,_⟩:=hM.arg (by omega);obtain⟨BU,FR,DX,NX⟩:=S1.o;obtain⟨U2,dA⟩:=af (u2.alloc (.cells #[.bool m1,.slice a2 (ws Y).length c2,.int .i64 f1] 79));have hA:Below u2.heap.size u2 U2:=by rw[dA];exact ae _ _
 have hs3:U1.heap.size<=u2.heap.size:=hb.size;have hs4:u2.heap.size<U2.heap.size:=by rw[dA];simp
 have GR:=(FR.below hb).below hA;have GX:=(DX.below hb).below hA;have GY:Dk U2 u2.heap.size m1 (.slice a2 (ws Y).length c2) f1:=by rw[dA];exact Dk.new _ _ _ _
 have MX:=(NX.below hb).below hA;have MY:Nt (w.heap.size+3) U2 (.slice a2 (ws Y).length c2) Y:=(hM.mono (by omega)).below hA;have BV:Below w.heap.size w U2:=(BU.trans (hb.mono (by omega))).trans (hA.mono (by omega));have S2:=(jD BV GR GX GY MX MY);clear hM hb H2 hA FR DX NX BU GR GX GY MX MY BV S1
 go_upto_region 3 with fail
 rw[<-dA];clear dA;obtain⟨r0,r1,r2,fQ,fT,fU⟩:=S2.o.2.1.facts;obtain⟨x0,x1,x2,dW,dY,dZ⟩:=S2.o.r2.1.facts;obtain⟨y0,y1,y2,dH,dI,dJ⟩:=S2.o.r3.1.facts;go_wp2;refine aB (rP _ (w.heap.size+1+1) false (.slice none 0 0) 0 2 _ rfl rfl (S2.o.2.1.set _ _ _)) rfl ⟨rfl,?_⟩;refine Fin.aC (m:=w.heap.size+3) (v:=.slice a1 (ws X).length c1) (X:=X) ?_;have FE:Fin w.heap.size (w.heap.size+3) w U2 (.slice a1 (ws X).length c1) X:=⟨S2.o.r4.1,S2.o.1,by omega⟩
 repeat (with_reducible first | exact FE | refine Fin.drew ?_ | refine Fin.alloc ?_ _ | refine Fin.set ?_ _ _ _ (by omega) (by omega))
theorem Vq {w:World}{a b:Option Addr}{l c k d:Nat}(n m:Bool) (e f:Int) (n1 m1:Bool) (X Y:Nat) (e1 f1:Int) (lX:(ws X).length<=8192) (lY:(ws Y).length<=8192)
 (iZ:Hid (∀ u,Below w.heap.size w u->Calls Tryz.prog 108 #[.agg #[.bool n,.slice a l c,.int .i64 e]] u fun r w'=>(∃ v,r=.returned (.tuple #[.agg #[.bool n1,v,.int .i64 e1],.bool false])/\Nt u.heap.size w' v X)/\Below u.heap.size u w'))
 (jL:Hid (∀ u,Below w.heap.size w u->Calls Tryz.prog 108 #[.agg #[.bool m,.slice b k d,.int .i64 f]] u fun r w'=>(∃ v,r=.returned (.tuple #[.agg #[.bool m1,v,.int .i64 f1],.bool true])/\Nt u.heap.size w' v Y)/\Below u.heap.size u w')):Calls Tryz.prog 68 #[.agg #[.bool n,.slice a l c,.int .i64 e],.agg #[.bool m,.slice b k d,.int .i64 f]] w fun r w'=>r=.returned (.tuple #[.agg #[.bool false,.slice none 0 0,.int .i64 0],.int .i64 2])/\Below w.heap.size w w':=by
 obtain⟨W1,hW1⟩:=af (((w.alloc (.cells #[.bool n,.slice a l c,.int .i64 e] 79)).alloc (.cells #[.bool m,.slice b k d,.int .i64 f] 79)).alloc (.cells #[.bool false,.slice none 0 0,.int .i64 0] 79));obtain⟨hB,hz1,DA,DB,DR⟩:=aN w n m (.slice a l c) (.slice b k d) e f W1 hW1;have H1:=hid (iZ.o W1 hB);have SB:=(fM hB hz1 DA DB DR);clear hB hz1 DA DB DR iZ;go_enter Tryz.func68,Tryz.ntmps68;go_wp2_with fail;rw[<-hW1];clear hW1;refine H1.o.mono ?_;rintro r u1 ⟨⟨v,rfl,hN⟩,hb⟩;obtain⟨a1,c1,rfl,_⟩:=hN.arg (by omega);obtain⟨hB,hz1,DA,DB,DR⟩:=SB.o;obtain⟨U1,aP⟩:=af (u1.alloc (.cells #[.bool n1,.slice a1 (ws X).length c1,.int .i64 e1] 79));have hA:Below u1.heap.size u1 U1:=by rw[aP];exact ae _ _
 have hs1:w.heap.size+3<=u1.heap.size:=by have:=hb.size;omega
 have hs2:u1.heap.size<U1.heap.size:=by rw[aP];simp
 have FB:=(DB.below hb).below hA;have FR:=(DR.below hb).below hA;have DX:Dk U1 u1.heap.size n1 (.slice a1 (ws X).length c1) e1:=by rw[aP];exact Dk.new _ _ _ _
 have NX:Nt (w.heap.size+3) U1 (.slice a1 (ws X).length c1) X:=(hN.mono (by omega)).below hA;have BU:Below w.heap.size w U1:=(hB.trans (hb.mono (by omega))).trans (hA.mono (by omega));have H2:=hid (jL.o U1 BU);obtain⟨y0,y1,y2,dH,dI,dJ⟩:=FB.facts;have S1:=(iw BU FR DX NX);clear hN hb H1 hB hz1 hA DA DB DR FB FR DX NX BU SB jL
 go_upto_region 2 with fail
 rw[<-aP];clear aP;go_wp2_with fail;clear y0 y1 y2 dH dI dJ;refine H2.o.mono ?_;rintro r u2 ⟨⟨v,rfl,hM⟩,hb⟩;obtain⟨a2,c2,rfl,_⟩:=hM.arg (by omega);obtain⟨BU,FR,DX,NX⟩:=S1.o;obtain⟨U2,dA⟩:=af (u2.alloc (.cells #[.bool m1,.slice a2 (ws Y).length c2,.int .i64 f1] 79));have hA:Below u2.heap.size u2 U2:=by rw[dA];exact ae _ _
 have hs3:U1.heap.size<=u2.heap.size:=hb.size;have hs4:u2.heap.size<U2.heap.size:=by rw[dA];simp
 have GR:=(FR.below hb).below hA;have GX:=(DX.below hb).below hA;have GY:Dk U2 u2.heap.size m1 (.slice a2 (ws Y).length c2) f1:=by rw[dA];exact Dk.new _ _ _ _
 have MX:=(NX.below hb).below hA;have MY:Nt (w.heap.size+3) U2 (.slice a2 (ws Y).length c2) Y:=(hM.mono (by omega)).below hA;have BV:Below w.heap.size w U2:=(BU.trans (hb.mono (by omega))).trans (hA.mono (by omega));have S2:=(jD BV GR GX GY MX MY);clear hM hb H2 hA FR DX NX BU GR GX GY MX MY BV S1
 go_upto_region 3 with fail
 rw[<-dA];clear dA;obtain⟨r0,r1,r2,fQ,fT,fU⟩:=S2.o.2.1.facts;obtain⟨x0,x1,x2,dW,dY,dZ⟩:=S2.o.r2.1.facts;obtain⟨y0,y1,y2,dH,dI,dJ⟩:=S2.o.r3.1.facts;go_wp2;refine aB (rP _ (w.heap.size+1+1) false (.slice none 0 0) 0 2 _ rfl rfl (S2.o.2.1.set _ _ _)) rfl ⟨rfl,?_⟩;refine Fin.aC (m:=w.heap.size+3) (v:=.slice a1 (ws X).length c1) (X:=X) ?_;have FE:Fin w.heap.size (w.heap.size+3) w U2 (.slice a1 (ws X).length c1) X:=⟨S2.o.r4.1,S2.o.1,by omega⟩
 repeat (with_reducible first | exact FE | refine Fin.drew ?_ | refine Fin.alloc ?_ _ | refine Fin.set ?_ _ _ _ (by omega) (by omega))
theorem Vr {w:World}{a b:Option Addr}{l c k d:Nat}(n m:Bool) (e f:Int) (n1 m1:Bool) (X Y:Nat) (e1 f1:Int) (lX:(ws X).length<=8192) (lY:(ws Y).length<=8192)
 (iZ:Hid (∀ u,Below w.heap.size w u->Calls Tryz.prog 108 #[.agg #[.bool n,.slice a l c,.int .i64 e]] u fun r w'=>(∃ v,r=.returned (.tuple #[.agg #[.bool n1,v,.int .i64 e1],.bool true])/\Nt u.heap.size w' v X)/\Below u.heap.size u w'))
 (jL:Hid (∀ u,Below w.heap.size w u->Calls Tryz.prog 108 #[.agg #[.bool m,.slice b k d,.int .i64 f]] u fun r w'=>(∃ v,r=.returned (.tuple #[.agg #[.bool m1,v,.int .i64 f1],.bool false])/\Nt u.heap.size w' v Y)/\Below u.heap.size u w')):Calls Tryz.prog 68 #[.agg #[.bool n,.slice a l c,.int .i64 e],.agg #[.bool m,.slice b k d,.int .i64 f]] w fun r w'=>r=.returned (.tuple #[.agg #[.bool false,.slice none 0 0,.int .i64 0],.int .i64 2])/\Below w.heap.size w w':=by
 obtain⟨W1,hW1⟩:=af (((w.alloc (.cells #[.bool n,.slice a l c,.int .i64 e] 79)).alloc (.cells #[.bool m,.slice b k d,.int .i64 f] 79)).alloc (.cells #[.bool false,.slice none 0 0,.int .i64 0] 79));obtain⟨hB,hz1,DA,DB,DR⟩:=aN w n m (.slice a l c) (.slice b k d) e f W1 hW1;have H1:=hid (iZ.o W1 hB);have SB:=(fM hB hz1 DA DB DR);clear hB hz1 DA DB DR iZ;go_enter Tryz.func68,Tryz.ntmps68;go_wp2_with fail;rw[<-hW1];clear hW1;refine H1.o.mono ?_;rintro r u1 ⟨⟨v,rfl,hN⟩,hb⟩;obtain⟨a1,c1,rfl,_⟩:=hN.arg (by omega);obtain⟨hB,hz1,DA,DB,DR⟩:=SB.o;obtain⟨U1,aP⟩:=af (u1.alloc (.cells #[.bool n1,.slice a1 (ws X).length c1,.int .i64 e1] 79));have hA:Below u1.heap.size u1 U1:=by rw[aP];exact ae _ _
 have hs1:w.heap.size+3<=u1.heap.size:=by have:=hb.size;omega
 have hs2:u1.heap.size<U1.heap.size:=by rw[aP];simp
 have FB:=(DB.below hb).below hA;have FR:=(DR.below hb).below hA;have DX:Dk U1 u1.heap.size n1 (.slice a1 (ws X).length c1) e1:=by rw[aP];exact Dk.new _ _ _ _
 have NX:Nt (w.heap.size+3) U1 (.slice a1 (ws X).length c1) X:=(hN.mono (by omega)).below hA;have BU:Below w.heap.size w U1:=(hB.trans (hb.mono (by omega))).trans (hA.mono (by omega));have H2:=hid (jL.o U1 BU);obtain⟨y0,y1,y2,dH,dI,dJ⟩:=FB.facts;have S1:=(iw BU FR DX NX);clear hN hb H1 hB hz1 hA DA DB DR FB FR DX NX BU SB jL
 go_upto_region 2 with fail
 rw[<-aP];clear aP;go_wp2_with fail;clear y0 y1 y2 dH dI dJ;refine H2.o.mono ?_;rintro r u2 ⟨⟨v,rfl,hM⟩,hb⟩;obtain⟨a2,c2,rfl,_⟩:=hM.arg (by omega);obtain⟨BU,FR,DX,NX⟩:=S1.o;obtain⟨U2,dA⟩:=af (u2.alloc (.cells #[.bool m1,.slice a2 (ws Y).length c2,.int .i64 f1] 79));have hA:Below u2.heap.size u2 U2:=by rw[dA];exact ae _ _
 have hs3:U1.heap.size<=u2.heap.size:=hb.size;have hs4:u2.heap.size<U2.heap.size:=by rw[dA];simp
 have GR:=(FR.below hb).below hA;have GX:=(DX.below hb).below hA;have GY:Dk U2 u2.heap.size m1 (.slice a2 (ws Y).length c2) f1:=by rw[dA];exact Dk.new _ _ _ _
 have MX:=(NX.below hb).below hA;have MY:Nt (w.heap.size+3) U2 (.slice a2 (ws Y).length c2) Y:=(hM.mono (by omega)).below hA;have BV:Below w.heap.size w U2:=(BU.trans (hb.mono (by omega))).trans (hA.mono (by omega));have S2:=(jD BV GR GX GY MX MY);clear hM hb H2 hA FR DX NX BU GR GX GY MX MY BV S1
 go_upto_region 3 with fail
 rw[<-dA];clear dA;obtain⟨r0,r1,r2,fQ,fT,fU⟩:=S2.o.2.1.facts;obtain⟨x0,x1,x2,dW,dY,dZ⟩:=S2.o.r2.1.facts;obtain⟨y0,y1,y2,dH,dI,dJ⟩:=S2.o.r3.1.facts;go_wp2;refine aB (rP _ (w.heap.size+1+1) false (.slice none 0 0) 0 2 _ rfl rfl (S2.o.2.1.set _ _ _)) rfl ⟨rfl,?_⟩;refine Fin.aC (m:=w.heap.size+3) (v:=.slice a1 (ws X).length c1) (X:=X) ?_;have FE:Fin w.heap.size (w.heap.size+3) w U2 (.slice a1 (ws X).length c1) X:=⟨S2.o.r4.1,S2.o.1,by omega⟩
 repeat (with_reducible first | exact FE | refine Fin.drew ?_ | refine Fin.alloc ?_ _ | refine Fin.set ?_ _ _ _ (by omega) (by omega))
theorem Vs {w:World}{a b:Option Addr}{l c k d:Nat}(n m:Bool) (e f:Int) (n1 m1:Bool) (X Y:Nat) (e1 f1:Int) (lX:(ws X).length<=8192) (lY:(ws Y).length<=8192) (MN:-1048576<=e1) (MO:e1<=1048576) (MR:-1048576<=f1) (MU:f1<=1048576) (L:Nat) (lL:(ws L).length<=1000000) (dn:Bool) (V:Nat) (de er:Int) (lV:(ws V).length<=8192)
 (iZ:Hid (∀ u,Below w.heap.size w u->Calls Tryz.prog 108 #[.agg #[.bool n,.slice a l c,.int .i64 e]] u fun r w'=>(∃ v,r=.returned (.tuple #[.agg #[.bool n1,v,.int .i64 e1],.bool true])/\Nt u.heap.size w' v X)/\Below u.heap.size u w'))
 (jL:Hid (∀ u,Below w.heap.size w u->Calls Tryz.prog 108 #[.agg #[.bool m,.slice b k d,.int .i64 f]] u fun r w'=>(∃ v,r=.returned (.tuple #[.agg #[.bool m1,v,.int .i64 f1],.bool true])/\Nt u.heap.size w' v Y)/\Below u.heap.size u w'))
 (HT:Hid (∀ (u:World) (p q:Option Addr) (s t:Nat),Below w.heap.size w u->Arg u p (ws X).length s (ws X)->Arg u q (ws Y).length t (ws Y)->Calls Tryz.prog 110 #[.slice p (ws X).length s,.slice q (ws Y).length t] u fun r w'=>∃ v,r=.returned v/\Nt u.heap.size w' v L/\Below u.heap.size u w'))
 (HL:Hid (∀ (u:World) (p:Option Addr) (s:Nat),Below w.heap.size w u->Arg u p (ws L).length s (ws L)->Calls Tryz.prog 109 #[.bool (!(n1==m1)),.slice p (ws L).length s,.int .i64 (IntKind.i64.wrap (e1+f1))] u fun r w'=>(∃ v,r=.returned (.tuple #[.agg #[.bool dn,v,.int .i64 de],.int .i64 er])/\Nt u.heap.size w' v V)/\Below u.heap.size u w')):Calls Tryz.prog 68 #[.agg #[.bool n,.slice a l c,.int .i64 e],.agg #[.bool m,.slice b k d,.int .i64 f]] w fun r w'=>(∃ v,r=.returned (.tuple #[.agg #[.bool dn,v,.int .i64 de],.int .i64 er])/\Nt w.heap.size w' v V)/\Below w.heap.size w w':=by
 obtain⟨W1,hW1⟩:=af (((w.alloc (.cells #[.bool n,.slice a l c,.int .i64 e] 79)).alloc (.cells #[.bool m,.slice b k d,.int .i64 f] 79)).alloc (.cells #[.bool false,.slice none 0 0,.int .i64 0] 79));obtain⟨hB,hz1,DA,DB,DR⟩:=aN w n m (.slice a l c) (.slice b k d) e f W1 hW1;have H1:=hid (iZ.o W1 hB);have SB:=(fM hB hz1 DA DB DR);clear hB hz1 DA DB DR iZ;go_enter Tryz.func68,Tryz.ntmps68;go_wp2_with fail;rw[<-hW1];clear hW1;refine H1.o.mono ?_;rintro r u1 ⟨⟨v,rfl,hN⟩,hb⟩;obtain⟨a1,c1,rfl,_⟩:=hN.arg (by omega);obtain⟨hB,hz1,DA,DB,DR⟩:=SB.o;obtain⟨U1,aP⟩:=af (u1.alloc (.cells #[.bool n1,.slice a1 (ws X).length c1,.int .i64 e1] 79));have hA:Below u1.heap.size u1 U1:=by rw[aP];exact ae _ _
 have hs1:w.heap.size+3<=u1.heap.size:=by have:=hb.size;omega
 have hs2:u1.heap.size<U1.heap.size:=by rw[aP];simp
 have FB:=(DB.below hb).below hA;have FR:=(DR.below hb).below hA;have DX:Dk U1 u1.heap.size n1 (.slice a1 (ws X).length c1) e1:=by rw[aP];exact Dk.new _ _ _ _
 have NX:Nt (w.heap.size+3) U1 (.slice a1 (ws X).length c1) X:=(hN.mono (by omega)).below hA;have BU:Below w.heap.size w U1:=(hB.trans (hb.mono (by omega))).trans (hA.mono (by omega));have H2:=hid (jL.o U1 BU);obtain⟨y0,y1,y2,dH,dI,dJ⟩:=FB.facts;have S1:=(iw BU FR DX NX);clear hN hb H1 hB hz1 hA DA DB DR FB FR DX NX BU SB jL
 go_upto_region 2 with fail
 rw[<-aP];clear aP;go_wp2_with fail;clear y0 y1 y2 dH dI dJ;refine H2.o.mono ?_;rintro r u2 ⟨⟨v,rfl,hM⟩,hb⟩;obtain⟨a2,c2,rfl,_⟩:=hM.arg (by omega);obtain⟨BU,FR,DX,NX⟩:=S1.o;obtain⟨U2,dA⟩:=af (u2.alloc (.cells #[.bool m1,.slice a2 (ws Y).length c2,.int .i64 f1] 79));have hA:Below u2.heap.size u2 U2:=by rw[dA];exact ae _ _
 have hs3:U1.heap.size<=u2.heap.size:=hb.size;have hs4:u2.heap.size<U2.heap.size:=by rw[dA];simp
 have GR:=(FR.below hb).below hA;have GX:=(DX.below hb).below hA;have GY:Dk U2 u2.heap.size m1 (.slice a2 (ws Y).length c2) f1:=by rw[dA];exact Dk.new _ _ _ _
 have MX:=(NX.below hb).below hA;have MY:Nt (w.heap.size+3) U2 (.slice a2 (ws Y).length c2) Y:=(hM.mono (by omega)).below hA;have BV:Below w.heap.size w U2:=(BU.trans (hb.mono (by omega))).trans (hA.mono (by omega));have S2:=(jD BV GR GX GY MX MY);clear hM hb H2 hA FR DX NX BU GR GX GY MX MY BV S1
 go_upto_region 5 with fail
 rw[<-dA];clear dA;obtain⟨r0,r1,r2,fQ,fT,fU⟩:=S2.o.2.1.facts;obtain⟨x0,x1,x2,dW,dY,dZ⟩:=S2.o.r2.1.facts;obtain⟨y0,y1,y2,dH,dI,dJ⟩:=S2.o.r3.1.facts;have ne1:u1.heap.size≠w.heap.size+1+1:=by omega
 have ne2:u2.heap.size≠w.heap.size+1+1:=by omega
 have ne3:w.heap.size+1+1≠u1.heap.size:=by omega
 have ne4:w.heap.size+1+1≠u2.heap.size:=by omega
 have T1:=hid (HT.o U2 a1 a2 c1 c2 S2.o.1 (S2.o.r4.1.bC (by omega)).2 (S2.o.r5.bC (by omega)).2);have T2:=hid (HT.o U2.drew a1 a2 c1 c2 (gW S2.o.1) (Arg.drew' (S2.o.r4.1.bC (by omega)).2) (Arg.drew' (S2.o.r5.bC (by omega)).2))
 go_region_held3 (fun w'=>w'.cell? ⟨u1.heap.size,0,none⟩=some (.bool n1)/\w'.cell? ⟨u1.heap.size,1,none⟩=some (.slice a1 (ws X).length c1)/\w'.cell? ⟨u1.heap.size,2,none⟩=some (.int .i64 e1)/\w'.cell? ⟨u2.heap.size,0,none⟩=some (.bool m1)/\w'.cell? ⟨u2.heap.size,1,none⟩=some (.slice a2 (ws Y).length c2)/\w'.cell? ⟨u2.heap.size,2,none⟩=some (.int .i64 f1)) (go_keep) (first
  | (go_at_call 110
     first | with_reducible refine T1.o.mono ?_ | with_reducible refine T2.o.mono ?_
     rintro r u3 ⟨v,rfl,hN,hb⟩;obtain⟨a3,c3,rfl,_⟩:=hN.arg (by omega);have hb3:Below U2.heap.size U2 u3:=by first | exact hb | exact((ay _ U2).drew).trans (hb.mono (ak _))
     have YP:=hid (HL.o u3 a3 c3 (S2.o.1.trans (hb3.mono (by omega))) (hN.bC (by omega)).2);have KR:=S2.o.2.1.below hb3;have KX:=S2.o.r2.1.below hb3;have KY:=S2.o.r3.1.below hb3;obtain⟨p0,p1,p2,QN,QO,QP⟩:=KR.facts;obtain⟨q0,q1,q2,EF,EG,EH⟩:=KX.facts;obtain⟨s0,s1,s2,zZ,z8,Aa⟩:=KY.facts;have hs9:U2.heap.size<=u3.heap.size:=hb3.size;have S9:=(iw (S2.o.1.trans (hb3.mono (by omega))) KR KX KY)
     clear hN hb hb3 KR KX KY)
  | (go_at_call 109
     with_reducible refine YP.o.mono ?_
     rintro r u4 ⟨⟨v,rfl,hN⟩,hb⟩;obtain⟨a4,c4,rfl,_⟩:=hN.arg (by omega);have LR:=S9.o.2.1.below hb;obtain⟨t0,t1,t2,tf0,tf1,tf2⟩:=LR.facts;obtain⟨i0,i1,i2,if0,if1,if2⟩:=(S9.o.r2.1.below hb).facts;obtain⟨j0,j1,j2,jf0,jf1,jf2⟩:=(S9.o.r3.below hb).facts;have FV:=ah (show Fin w.heap.size (w.heap.size+3) w u4 (.slice a4 (ws V).length c4) V from⟨hN.mono (by omega),S9.o.1.trans (hb.mono (by omega)),by have:=hb.size;omega⟩);have O9:=ah LR
     clear hN hb LR))
 all_goals (
  go_wp2;refine aB (rP _ (w.heap.size+1+1) dn (.slice a4 (ws V).length c4) de er _ rfl rfl (O9.o.set _ _ _)) rfl ?_;refine Fin.jw (m:=w.heap.size+3) ?_ (by omega)
  repeat (with_reducible first | exact FV.o | refine Fin.drew ?_ | refine Fin.alloc ?_ _ | refine Fin.set ?_ _ _ _ (by omega) (by omega)))
theorem Nu{w:World}{a b:Option Addr}{l c k d:Nat}{xs ys:List Nat}(h1:Arg w a l c xs)(h2:Arg w b k d ys)(hl:l<=2000000)(hk:k<=2000000)(n m:Bool)(e f:Int)(he0:-9223372036854775808<=e)(he1:e<=9223372036854775807)(hf0:-9223372036854775808<=f)(hf1:f<=9223372036854775807) :
 Calls Tryz.prog 68 #[.agg #[.bool n,.slice a l c,.int .i64 e],.agg #[.bool m,.slice b k d,.int .i64 f]] w fun r w'=>bS w.heap.size w' r (vI (mkS n (val xs) e) (mkS m (val ys) f))/\Below w.heap.size w w':=by
 have zero:∀ {r:Ending} {w':World},(r=.returned (.tuple #[.agg #[.bool false,.slice none 0 0,.int .i64 0],.int .i64 2])/\Below w.heap.size w w')->bS w.heap.size w' r none/\Below w.heap.size w w':=fun⟨h1,h2⟩=>⟨⟨_,h1,Nt.nil _ _⟩,h2⟩;have M1:=hid fun u (hu:Below w.heap.size w u)=>mh (h1.below hu) hl n e he0 he1;have M2:=hid fun u (hu:Below w.heap.size w u)=>mh (h2.below hu) hk m f hf0 hf1;have z0:(ws 0).length<=8192:=by rw[bI];exact kg _
 cases hx:mkS n (val xs) e with
 | none =>
   cases hy:mkS m (val ys) f with
   | none =>
     rw[hx] at M1;rw[hy] at M2;exact(Vp n m e f false false 0 0 0 0 z0 z0 M1 M2).mono fun r w' h=>zero h
   | some y =>
     obtain⟨m1,Y,f1⟩:=y;rw[hx] at M1;rw[hy] at M2;exact(Vq n m e f false m1 0 Y 0 f1 z0 (dV (bK hy)) M1 M2).mono fun r w' h=>zero h
 | some x =>
   obtain⟨n1,X,e1⟩:=x
   cases hy:mkS m (val ys) f with
   | none =>
     rw[hx] at M1;rw[hy] at M2;exact(Vr n m e f n1 false X 0 e1 0 (dV (bK hx)) z0 M1 M2).mono fun r w' h=>zero h
   | some y =>
     obtain⟨m1,Y,f1⟩:=y;rw[hx] at M1;rw[hy] at M2;have FX:=bK hx;have FY:=bK hy;have lX:=dV FX;have lY:=dV FY;have:=FX.up;have:=FX.down;have:=FY.up;have:=FY.down;show Calls _ _ _ _ fun r w'=>bS w.heap.size w' r (mkS (n1 != m1) (X*Y) (e1+f1))/\_
     have lL:(ws (X*Y)).length<=16384:=by
      have h1:=gz X;have h2:=gz Y
      have h3:X*Y<pw ((ws X).length+(ws Y).length):=by
       rw[sG];exact wS h1 h2
      have:=(aL _ _).2 h3;omega
     obtain⟨L,XH⟩:∃ L,X*Y=L:=⟨_,rfl⟩;rw[XH] at lL |-
     exact Vs n m e f n1 m1 X Y e1 f1 lX lY (by omega) (by omega) (by omega) (by omega) L (by omega) _ _ _ _ (aK (n1 != m1) L (e1+f1)) M1 M2
      (hid fun u p q s t hu hA hB=>kD hA hB (by omega) (by rw[au,au];exact XH))
      (hid fun u p s hu hA=>by have:=pM hA (by omega) (n1 != m1) (e1+f1) (by omega) (by omega);rw[au] at this;rw[wrap64 (e1+f1) (by omega) (by omega)];exact this)
theorem iC(W:World)(g:Nat)(n:Bool)(v:Value)(e k:Int)(tmps:Array Value)(ht:tmps[4]?.getD undef=.pointer (some ⟨g,0,none⟩))(hk:tmps[5]?.getD undef=.int .i64 k)(D:Dk W g n v e) :
 (results Tryz.f70 tmps).run Tryz.prog W=.ok (.tuple #[.agg #[.bool n,v,.int .i64 e],.int .i64 k]) W:=by
 obtain⟨x0,x1,x2,dW,dY,dZ⟩:=D.facts;simp[results,Tryz.results70,ht,hk,go_sem,x0,x1,x2]
theorem Vt {w:World}{a b:Option Addr}{l c k d:Nat}(n m:Bool) (e f:Int) (n1 m1:Bool) (X Y:Nat) (e1 f1:Int) (lX:(ws X).length<=8192) (lY:(ws Y).length<=8192)
 (iZ:Hid (∀ u,Below w.heap.size w u->Calls Tryz.prog 108 #[.agg #[.bool n,.slice a l c,.int .i64 e]] u fun r w'=>(∃ v,r=.returned (.tuple #[.agg #[.bool n1,v,.int .i64 e1],.bool false])/\Nt u.heap.size w' v X)/\Below u.heap.size u w'))
 (jL:Hid (∀ u,Below w.heap.size w u->Calls Tryz.prog 108 #[.agg #[.bool m,.slice b k d,.int .i64 f]] u fun r w'=>(∃ v,r=.returned (.tuple #[.agg #[.bool m1,v,.int .i64 f1],.bool false])/\Nt u.heap.size w' v Y)/\Below u.heap.size u w')):Calls Tryz.prog 70 #[.agg #[.bool n,.slice a l c,.int .i64 e],.agg #[.bool m,.slice b k d,.int .i64 f]] w fun r w'=>r=.returned (.tuple #[.agg #[.bool false,.slice none 0 0,.int .i64 0],.int .i64 2])/\Below w.heap.size w w':=by
 obtain⟨W1,hW1⟩:=af (((w.alloc (.cells #[.bool n,.slice a l c,.int .i64 e] 79)).alloc (.cells #[.bool m,.slice b k d,.int .i64 f] 79)).alloc (.cells #[.bool false,.slice none 0 0,.int .i64 0] 79));obtain⟨hB,hz1,DA,DB,DR⟩:=aN w n m (.slice a l c) (.slice b k d) e f W1 hW1;have H1:=hid (iZ.o W1 hB);have SB:=(fM hB hz1 DA DB DR);clear hB hz1 DA DB DR iZ;go_enter Tryz.func70,Tryz.ntmps70;go_wp2_with fail;rw[<-hW1];clear hW1;refine H1.o.mono ?_;rintro r u1 ⟨⟨v,rfl,hN⟩,hb⟩;obtain⟨a1,c1,rfl,_⟩:=hN.arg (by omega);obtain⟨hB,hz1,DA,DB,DR⟩:=SB.o;obtain⟨U1,aP⟩:=af (u1.alloc (.cells #[.bool n1,.slice a1 (ws X).length c1,.int .i64 e1] 79));have hA:Below u1.heap.size u1 U1:=by rw[aP];exact ae _ _
 have hs1:w.heap.size+3<=u1.heap.size:=by have:=hb.size;omega
 have hs2:u1.heap.size<U1.heap.size:=by rw[aP];simp
 have FB:=(DB.below hb).below hA;have FR:=(DR.below hb).below hA;have DX:Dk U1 u1.heap.size n1 (.slice a1 (ws X).length c1) e1:=by rw[aP];exact Dk.new _ _ _ _
 have NX:Nt (w.heap.size+3) U1 (.slice a1 (ws X).length c1) X:=(hN.mono (by omega)).below hA;have BU:Below w.heap.size w U1:=(hB.trans (hb.mono (by omega))).trans (hA.mono (by omega));have H2:=hid (jL.o U1 BU);obtain⟨y0,y1,y2,dH,dI,dJ⟩:=FB.facts;have S1:=(iw BU FR DX NX);clear hN hb H1 hB hz1 hA DA DB DR FB FR DX NX BU SB jL
 go_upto_region 2 with fail
 rw[<-aP];clear aP;go_wp2_with fail;clear y0 y1 y2 dH dI dJ;refine H2.o.mono ?_;rintro r u2 ⟨⟨v,rfl,hM⟩,hb⟩;obtain⟨a2,c2,rfl,_⟩:=hM.arg (by omega);obtain⟨BU,FR,DX,NX⟩:=S1.o;obtain⟨U2,dA⟩:=af (u2.alloc (.cells #[.bool m1,.slice a2 (ws Y).length c2,.int .i64 f1] 79));have hA:Below u2.heap.size u2 U2:=by rw[dA];exact ae _ _
 have hs3:U1.heap.size<=u2.heap.size:=hb.size;have hs4:u2.heap.size<U2.heap.size:=by rw[dA];simp
 have GR:=(FR.below hb).below hA;have GX:=(DX.below hb).below hA;have GY:Dk U2 u2.heap.size m1 (.slice a2 (ws Y).length c2) f1:=by rw[dA];exact Dk.new _ _ _ _
 have MX:=(NX.below hb).below hA;have MY:Nt (w.heap.size+3) U2 (.slice a2 (ws Y).length c2) Y:=(hM.mono (by omega)).below hA;have BV:Below w.heap.size w U2:=(BU.trans (hb.mono (by omega))).trans (hA.mono (by omega));have S2:=(jD BV GR GX GY MX MY);clear hM hb H2 hA FR DX NX BU GR GX GY MX MY BV S1
 go_upto_region 3 with fail
 rw[<-dA];clear dA;obtain⟨r0,r1,r2,fQ,fT,fU⟩:=S2.o.2.1.facts;obtain⟨x0,x1,x2,dW,dY,dZ⟩:=S2.o.r2.1.facts;obtain⟨y0,y1,y2,dH,dI,dJ⟩:=S2.o.r3.1.facts;go_wp2;refine aB (iC _ (w.heap.size+1+1) false (.slice none 0 0) 0 2 _ rfl rfl (S2.o.2.1.set _ _ _)) rfl ⟨rfl,?_⟩;refine Fin.aC (m:=w.heap.size+3) (v:=.slice a1 (ws X).length c1) (X:=X) ?_;have FE:Fin w.heap.size (w.heap.size+3) w U2 (.slice a1 (ws X).length c1) X:=⟨S2.o.r4.1,S2.o.1,by omega⟩
 repeat (with_reducible first | exact FE | refine Fin.drew ?_ | refine Fin.alloc ?_ _ | refine Fin.set ?_ _ _ _ (by omega) (by omega))
theorem Vu {w:World}{a b:Option Addr}{l c k d:Nat}(n m:Bool) (e f:Int) (n1 m1:Bool) (X Y:Nat) (e1 f1:Int) (lX:(ws X).length<=8192) (lY:(ws Y).length<=8192)
 (iZ:Hid (∀ u,Below w.heap.size w u->Calls Tryz.prog 108 #[.agg #[.bool n,.slice a l c,.int .i64 e]] u fun r w'=>(∃ v,r=.returned (.tuple #[.agg #[.bool n1,v,.int .i64 e1],.bool false])/\Nt u.heap.size w' v X)/\Below u.heap.size u w'))
 (jL:Hid (∀ u,Below w.heap.size w u->Calls Tryz.prog 108 #[.agg #[.bool m,.slice b k d,.int .i64 f]] u fun r w'=>(∃ v,r=.returned (.tuple #[.agg #[.bool m1,v,.int .i64 f1],.bool true])/\Nt u.heap.size w' v Y)/\Below u.heap.size u w')):Calls Tryz.prog 70 #[.agg #[.bool n,.slice a l c,.int .i64 e],.agg #[.bool m,.slice b k d,.int .i64 f]] w fun r w'=>r=.returned (.tuple #[.agg #[.bool false,.slice none 0 0,.int .i64 0],.int .i64 2])/\Below w.heap.size w w':=by
 obtain⟨W1,hW1⟩:=af (((w.alloc (.cells #[.bool n,.slice a l c,.int .i64 e] 79)).alloc (.cells #[.bool m,.slice b k d,.int .i64 f] 79)).alloc (.cells #[.bool false,.slice none 0 0,.int .i64 0] 79));obtain⟨hB,hz1,DA,DB,DR⟩:=aN w n m (.slice a l c) (.slice b k d) e f W1 hW1;have H1:=hid (iZ.o W1 hB);have SB:=(fM hB hz1 DA DB DR);clear hB hz1 DA DB DR iZ;go_enter Tryz.func70,Tryz.ntmps70;go_wp2_with fail;rw[<-hW1];clear hW1;refine H1.o.mono ?_;rintro r u1 ⟨⟨v,rfl,hN⟩,hb⟩;obtain⟨a1,c1,rfl,_⟩:=hN.arg (by omega);obtain⟨hB,hz1,DA,DB,DR⟩:=SB.o;obtain⟨U1,aP⟩:=af (u1.alloc (.cells #[.bool n1,.slice a1 (ws X).length c1,.int .i64 e1] 79));have hA:Below u1.heap.size u1 U1:=by rw[aP];exact ae _ _
 have hs1:w.heap.size+3<=u1.heap.size:=by have:=hb.size;omega
 have hs2:u1.heap.size<U1.heap.size:=by rw[aP];simp
 have FB:=(DB.below hb).below hA;have FR:=(DR.below hb).below hA;have DX:Dk U1 u1.heap.size n1 (.slice a1 (ws X).length c1) e1:=by rw[aP];exact Dk.new _ _ _ _
 have NX:Nt (w.heap.size+3) U1 (.slice a1 (ws X).length c1) X:=(hN.mono (by omega)).below hA;have BU:Below w.heap.size w U1:=(hB.trans (hb.mono (by omega))).trans (hA.mono (by omega));have H2:=hid (jL.o U1 BU);obtain⟨y0,y1,y2,dH,dI,dJ⟩:=FB.facts;have S1:=(iw BU FR DX NX);clear hN hb H1 hB hz1 hA DA DB DR FB FR DX NX BU SB jL
 go_upto_region 2 with fail
 rw[<-aP];clear aP;go_wp2_with fail;clear y0 y1 y2 dH dI dJ;refine H2.o.mono ?_;rintro r u2 ⟨⟨v,rfl,hM⟩,hb⟩;obtain⟨a2,c2,rfl,_⟩:=hM.arg (by omega);obtain⟨BU,FR,DX,NX⟩:=S1.o;obtain⟨U2,dA⟩:=af (u2.alloc (.cells #[.bool m1,.slice a2 (ws Y).length c2,.int .i64 f1] 79));have hA:Below u2.heap.size u2 U2:=by rw[dA];exact ae _ _
 have hs3:U1.heap.size<=u2.heap.size:=hb.size;have hs4:u2.heap.size<U2.heap.size:=by rw[dA];simp
 have GR:=(FR.below hb).below hA;have GX:=(DX.below hb).below hA;have GY:Dk U2 u2.heap.size m1 (.slice a2 (ws Y).length c2) f1:=by rw[dA];exact Dk.new _ _ _ _
 have MX:=(NX.below hb).below hA;have MY:Nt (w.heap.size+3) U2 (.slice a2 (ws Y).length c2) Y:=(hM.mono (by omega)).below hA;have BV:Below w.heap.size w U2:=(BU.trans (hb.mono (by omega))).trans (hA.mono (by omega));have S2:=(jD BV GR GX GY MX MY);clear hM hb H2 hA FR DX NX BU GR GX GY MX MY BV S1
 go_upto_region 3 with fail
 rw[<-dA];clear dA;obtain⟨r0,r1,r2,fQ,fT,fU⟩:=S2.o.2.1.facts;obtain⟨x0,x1,x2,dW,dY,dZ⟩:=S2.o.r2.1.facts;obtain⟨y0,y1,y2,dH,dI,dJ⟩:=S2.o.r3.1.facts;go_wp2;refine aB (iC _ (w.heap.size+1+1) false (.slice none 0 0) 0 2 _ rfl rfl (S2.o.2.1.set _ _ _)) rfl ⟨rfl,?_⟩;refine Fin.aC (m:=w.heap.size+3) (v:=.slice a1 (ws X).length c1) (X:=X) ?_;have FE:Fin w.heap.size (w.heap.size+3) w U2 (.slice a1 (ws X).length c1) X:=⟨S2.o.r4.1,S2.o.1,by omega⟩
 repeat (with_reducible first | exact FE | refine Fin.drew ?_ | refine Fin.alloc ?_ _ | refine Fin.set ?_ _ _ _ (by omega) (by omega))
theorem Vv {w:World}{a b:Option Addr}{l c k d:Nat}(n m:Bool) (e f:Int) (n1 m1:Bool) (X Y:Nat) (e1 f1:Int) (lX:(ws X).length<=8192) (lY:(ws Y).length<=8192)
 (iZ:Hid (∀ u,Below w.heap.size w u->Calls Tryz.prog 108 #[.agg #[.bool n,.slice a l c,.int .i64 e]] u fun r w'=>(∃ v,r=.returned (.tuple #[.agg #[.bool n1,v,.int .i64 e1],.bool true])/\Nt u.heap.size w' v X)/\Below u.heap.size u w'))
 (jL:Hid (∀ u,Below w.heap.size w u->Calls Tryz.prog 108 #[.agg #[.bool m,.slice b k d,.int .i64 f]] u fun r w'=>(∃ v,r=.returned (.tuple #[.agg #[.bool m1,v,.int .i64 f1],.bool false])/\Nt u.heap.size w' v Y)/\Below u.heap.size u w')):Calls Tryz.prog 70 #[.agg #[.bool n,.slice a l c,.int .i64 e],.agg #[.bool m,.slice b k d,.int .i64 f]] w fun r w'=>r=.returned (.tuple #[.agg #[.bool false,.slice none 0 0,.int .i64 0],.int .i64 2])/\Below w.heap.size w w':=by
 obtain⟨W1,hW1⟩:=af (((w.alloc (.cells #[.bool n,.slice a l c,.int .i64 e] 79)).alloc (.cells #[.bool m,.slice b k d,.int .i64 f] 79)).alloc (.cells #[.bool false,.slice none 0 0,.int .i64 0] 79));obtain⟨hB,hz1,DA,DB,DR⟩:=aN w n m (.slice a l c) (.slice b k d) e f W1 hW1;have H1:=hid (iZ.o W1 hB);have SB:=(fM hB hz1 DA DB DR);clear hB hz1 DA DB DR iZ;go_enter Tryz.func70,Tryz.ntmps70;go_wp2_with fail;rw[<-hW1];clear hW1;refine H1.o.mono ?_;rintro r u1 ⟨⟨v,rfl,hN⟩,hb⟩;obtain⟨a1,c1,rfl,_⟩:=hN.arg (by omega);obtain⟨hB,hz1,DA,DB,DR⟩:=SB.o;obtain⟨U1,aP⟩:=af (u1.alloc (.cells #[.bool n1,.slice a1 (ws X).length c1,.int .i64 e1] 79));have hA:Below u1.heap.size u1 U1:=by rw[aP];exact ae _ _
 have hs1:w.heap.size+3<=u1.heap.size:=by have:=hb.size;omega
 have hs2:u1.heap.size<U1.heap.size:=by rw[aP];simp
 have FB:=(DB.below hb).below hA;have FR:=(DR.below hb).below hA;have DX:Dk U1 u1.heap.size n1 (.slice a1 (ws X).length c1) e1:=by rw[aP];exact Dk.new _ _ _ _
 have NX:Nt (w.heap.size+3) U1 (.slice a1 (ws X).length c1) X:=(hN.mono (by omega)).below hA;have BU:Below w.heap.size w U1:=(hB.trans (hb.mono (by omega))).trans (hA.mono (by omega));have H2:=hid (jL.o U1 BU);obtain⟨y0,y1,y2,dH,dI,dJ⟩:=FB.facts;have S1:=(iw BU FR DX NX);clear hN hb H1 hB hz1 hA DA DB DR FB FR DX NX BU SB jL
 go_upto_region 2 with fail
 rw[<-aP];clear aP;go_wp2_with fail;clear y0 y1 y2 dH dI dJ;refine H2.o.mono ?_;rintro r u2 ⟨⟨v,rfl,hM⟩,hb⟩;obtain⟨a2,c2,rfl,_⟩:=hM.arg (by omega);obtain⟨BU,FR,DX,NX⟩:=S1.o;obtain⟨U2,dA⟩:=af (u2.alloc (.cells #[.bool m1,.slice a2 (ws Y).length c2,.int .i64 f1] 79));have hA:Below u2.heap.size u2 U2:=by rw[dA];exact ae _ _
 have hs3:U1.heap.size<=u2.heap.size:=hb.size;have hs4:u2.heap.size<U2.heap.size:=by rw[dA];simp
 have GR:=(FR.below hb).below hA;have GX:=(DX.below hb).below hA;have GY:Dk U2 u2.heap.size m1 (.slice a2 (ws Y).length c2) f1:=by rw[dA];exact Dk.new _ _ _ _
 have MX:=(NX.below hb).below hA;have MY:Nt (w.heap.size+3) U2 (.slice a2 (ws Y).length c2) Y:=(hM.mono (by omega)).below hA;have BV:Below w.heap.size w U2:=(BU.trans (hb.mono (by omega))).trans (hA.mono (by omega));have S2:=(jD BV GR GX GY MX MY);clear hM hb H2 hA FR DX NX BU GR GX GY MX MY BV S1
 go_upto_region 3 with fail
 rw[<-dA];clear dA;obtain⟨r0,r1,r2,fQ,fT,fU⟩:=S2.o.2.1.facts;obtain⟨x0,x1,x2,dW,dY,dZ⟩:=S2.o.r2.1.facts;obtain⟨y0,y1,y2,dH,dI,dJ⟩:=S2.o.r3.1.facts;go_wp2;refine aB (iC _ (w.heap.size+1+1) false (.slice none 0 0) 0 2 _ rfl rfl (S2.o.2.1.set _ _ _)) rfl ⟨rfl,?_⟩;refine Fin.aC (m:=w.heap.size+3) (v:=.slice a1 (ws X).length c1) (X:=X) ?_;have FE:Fin w.heap.size (w.heap.size+3) w U2 (.slice a1 (ws X).length c1) X:=⟨S2.o.r4.1,S2.o.1,by omega⟩
 repeat (with_reducible first | exact FE | refine Fin.drew ?_ | refine Fin.alloc ?_ _ | refine Fin.set ?_ _ _ _ (by omega) (by omega))
theorem Nv {w:World}{a b:Option Addr}{l c k d:Nat}(n m:Bool) (e f:Int) (n1 m1:Bool) (X Y:Nat) (e1 f1:Int) (lX:(ws X).length<=8192) (lY:(ws Y).length<=8192) (hX:(ws X).length=0)
 (iZ:Hid (∀ u,Below w.heap.size w u->Calls Tryz.prog 108 #[.agg #[.bool n,.slice a l c,.int .i64 e]] u fun r w'=>(∃ v,r=.returned (.tuple #[.agg #[.bool n1,v,.int .i64 e1],.bool true])/\Nt u.heap.size w' v X)/\Below u.heap.size u w'))
 (jL:Hid (∀ u,Below w.heap.size w u->Calls Tryz.prog 108 #[.agg #[.bool m,.slice b k d,.int .i64 f]] u fun r w'=>(∃ v,r=.returned (.tuple #[.agg #[.bool m1,v,.int .i64 f1],.bool true])/\Nt u.heap.size w' v Y)/\Below u.heap.size u w')):Calls Tryz.prog 70 #[.agg #[.bool n,.slice a l c,.int .i64 e],.agg #[.bool m,.slice b k d,.int .i64 f]] w fun r w'=>bS w.heap.size w' r (some (m1,Y,f1))/\Below w.heap.size w w':=by
 have HH:=ah hX;clear hX;obtain⟨W1,hW1⟩:=af (((w.alloc (.cells #[.bool n,.slice a l c,.int .i64 e] 79)).alloc (.cells #[.bool m,.slice b k d,.int .i64 f] 79)).alloc (.cells #[.bool false,.slice none 0 0,.int .i64 0] 79));obtain⟨hB,hz1,DA,DB,DR⟩:=aN w n m (.slice a l c) (.slice b k d) e f W1 hW1;have H1:=hid (iZ.o W1 hB);have SB:=(fM hB hz1 DA DB DR);clear hB hz1 DA DB DR iZ;go_enter Tryz.func70,Tryz.ntmps70;go_wp2_with fail;rw[<-hW1];clear hW1;refine H1.o.mono ?_;rintro r u1 ⟨⟨v,rfl,hN⟩,hb⟩;obtain⟨a1,c1,rfl,_⟩:=hN.arg (by omega);obtain⟨hB,hz1,DA,DB,DR⟩:=SB.o;obtain⟨U1,aP⟩:=af (u1.alloc (.cells #[.bool n1,.slice a1 (ws X).length c1,.int .i64 e1] 79));have hA:Below u1.heap.size u1 U1:=by rw[aP];exact ae _ _
 have hs1:w.heap.size+3<=u1.heap.size:=by have:=hb.size;omega
 have hs2:u1.heap.size<U1.heap.size:=by rw[aP];simp
 have FB:=(DB.below hb).below hA;have FR:=(DR.below hb).below hA;have DX:Dk U1 u1.heap.size n1 (.slice a1 (ws X).length c1) e1:=by rw[aP];exact Dk.new _ _ _ _
 have NX:Nt (w.heap.size+3) U1 (.slice a1 (ws X).length c1) X:=(hN.mono (by omega)).below hA;have BU:Below w.heap.size w U1:=(hB.trans (hb.mono (by omega))).trans (hA.mono (by omega));have H2:=hid (jL.o U1 BU);obtain⟨y0,y1,y2,dH,dI,dJ⟩:=FB.facts;have S1:=(iw BU FR DX NX);clear hN hb H1 hB hz1 hA DA DB DR FB FR DX NX BU SB jL
 go_upto_region 2 with fail
 rw[<-aP];clear aP;go_wp2_with fail;clear y0 y1 y2 dH dI dJ;refine H2.o.mono ?_;rintro r u2 ⟨⟨v,rfl,hM⟩,hb⟩;obtain⟨a2,c2,rfl,_⟩:=hM.arg (by omega);obtain⟨BU,FR,DX,NX⟩:=S1.o;obtain⟨U2,dA⟩:=af (u2.alloc (.cells #[.bool m1,.slice a2 (ws Y).length c2,.int .i64 f1] 79));have hA:Below u2.heap.size u2 U2:=by rw[dA];exact ae _ _
 have hs3:U1.heap.size<=u2.heap.size:=hb.size;have hs4:u2.heap.size<U2.heap.size:=by rw[dA];simp
 have GR:=(FR.below hb).below hA;have GX:=(DX.below hb).below hA;have GY:Dk U2 u2.heap.size m1 (.slice a2 (ws Y).length c2) f1:=by rw[dA];exact Dk.new _ _ _ _
 have MX:=(NX.below hb).below hA;have MY:Nt (w.heap.size+3) U2 (.slice a2 (ws Y).length c2) Y:=(hM.mono (by omega)).below hA;have BV:Below w.heap.size w U2:=(BU.trans (hb.mono (by omega))).trans (hA.mono (by omega));have S2:=(jD BV GR GX GY MX MY);clear hM hb H2 hA FR DX NX BU GR GX GY MX MY BV S1
 go_upto_region 5 with fail
 rw[<-dA];clear dA;obtain⟨r0,r1,r2,fQ,fT,fU⟩:=S2.o.2.1.facts;obtain⟨x0,x1,x2,dW,dY,dZ⟩:=S2.o.r2.1.facts;obtain⟨y0,y1,y2,dH,dI,dJ⟩:=S2.o.r3.1.facts;have hX:=HH.o;go_wp2;refine aB (iC _ (w.heap.size+1+1) m1 (.slice a2 (ws Y).length c2) f1 0 _ rfl rfl (S2.o.2.1.set _ _ _)) rfl ?_;refine Fin.jw (m:=w.heap.size+3) ?_ (by omega);have FE:Fin w.heap.size (w.heap.size+3) w U2 _ _:=⟨S2.o.r5,S2.o.1,by omega⟩
 repeat (with_reducible first | exact FE | refine Fin.drew ?_ | refine Fin.alloc ?_ _ | refine Fin.set ?_ _ _ _ (by omega) (by omega))
 exact FE
theorem IL {w:World}{a b:Option Addr}{l c k d:Nat}(n m:Bool) (e f:Int) (n1 m1:Bool) (X Y:Nat) (e1 f1:Int) (lX:(ws X).length<=8192) (lY:(ws Y).length<=8192) (hX:((((ws X).length:Nat):Int)==0)=false) (hY:(ws Y).length=0)
 (iZ:Hid (∀ u,Below w.heap.size w u->Calls Tryz.prog 108 #[.agg #[.bool n,.slice a l c,.int .i64 e]] u fun r w'=>(∃ v,r=.returned (.tuple #[.agg #[.bool n1,v,.int .i64 e1],.bool true])/\Nt u.heap.size w' v X)/\Below u.heap.size u w'))
 (jL:Hid (∀ u,Below w.heap.size w u->Calls Tryz.prog 108 #[.agg #[.bool m,.slice b k d,.int .i64 f]] u fun r w'=>(∃ v,r=.returned (.tuple #[.agg #[.bool m1,v,.int .i64 f1],.bool true])/\Nt u.heap.size w' v Y)/\Below u.heap.size u w')):Calls Tryz.prog 70 #[.agg #[.bool n,.slice a l c,.int .i64 e],.agg #[.bool m,.slice b k d,.int .i64 f]] w fun r w'=>bS w.heap.size w' r (some (n1,X,e1))/\Below w.heap.size w w':=by
 have HH:=ah hY;clear hY;obtain⟨W1,hW1⟩:=af (((w.alloc (.cells #[.bool n,.slice a l c,.int .i64 e] 79)).alloc (.cells #[.bool m,.slice b k d,.int .i64 f] 79)).alloc (.cells #[.bool false,.slice none 0 0,.int .i64 0] 79));obtain⟨hB,hz1,DA,DB,DR⟩:=aN w n m (.slice a l c) (.slice b k d) e f W1 hW1;have H1:=hid (iZ.o W1 hB);have SB:=(fM hB hz1 DA DB DR);clear hB hz1 DA DB DR iZ;go_enter Tryz.func70,Tryz.ntmps70;go_wp2_with fail;rw[<-hW1];clear hW1;refine H1.o.mono ?_;rintro r u1 ⟨⟨v,rfl,hN⟩,hb⟩;obtain⟨a1,c1,rfl,_⟩:=hN.arg (by omega);obtain⟨hB,hz1,DA,DB,DR⟩:=SB.o;obtain⟨U1,aP⟩:=af (u1.alloc (.cells #[.bool n1,.slice a1 (ws X).length c1,.int .i64 e1] 79));have hA:Below u1.heap.size u1 U1:=by rw[aP];exact ae _ _
 have hs1:w.heap.size+3<=u1.heap.size:=by have:=hb.size;omega
 have hs2:u1.heap.size<U1.heap.size:=by rw[aP];simp
 have FB:=(DB.below hb).below hA;have FR:=(DR.below hb).below hA;have DX:Dk U1 u1.heap.size n1 (.slice a1 (ws X).length c1) e1:=by rw[aP];exact Dk.new _ _ _ _
 have NX:Nt (w.heap.size+3) U1 (.slice a1 (ws X).length c1) X:=(hN.mono (by omega)).below hA;have BU:Below w.heap.size w U1:=(hB.trans (hb.mono (by omega))).trans (hA.mono (by omega));have H2:=hid (jL.o U1 BU);obtain⟨y0,y1,y2,dH,dI,dJ⟩:=FB.facts;have S1:=(iw BU FR DX NX);clear hN hb H1 hB hz1 hA DA DB DR FB FR DX NX BU SB jL
 go_upto_region 2 with fail
 rw[<-aP];clear aP;go_wp2_with fail;clear y0 y1 y2 dH dI dJ;refine H2.o.mono ?_;rintro r u2 ⟨⟨v,rfl,hM⟩,hb⟩;obtain⟨a2,c2,rfl,_⟩:=hM.arg (by omega);obtain⟨BU,FR,DX,NX⟩:=S1.o;obtain⟨U2,dA⟩:=af (u2.alloc (.cells #[.bool m1,.slice a2 (ws Y).length c2,.int .i64 f1] 79));have hA:Below u2.heap.size u2 U2:=by rw[dA];exact ae _ _
 have hs3:U1.heap.size<=u2.heap.size:=hb.size;have hs4:u2.heap.size<U2.heap.size:=by rw[dA];simp
 have GR:=(FR.below hb).below hA;have GX:=(DX.below hb).below hA;have GY:Dk U2 u2.heap.size m1 (.slice a2 (ws Y).length c2) f1:=by rw[dA];exact Dk.new _ _ _ _
 have MX:=(NX.below hb).below hA;have MY:Nt (w.heap.size+3) U2 (.slice a2 (ws Y).length c2) Y:=(hM.mono (by omega)).below hA;have BV:Below w.heap.size w U2:=(BU.trans (hb.mono (by omega))).trans (hA.mono (by omega));have S2:=(jD BV GR GX GY MX MY);clear hM hb H2 hA FR DX NX BU GR GX GY MX MY BV S1
 go_upto_region 5 with fail
 rw[<-dA];clear dA;obtain⟨r0,r1,r2,fQ,fT,fU⟩:=S2.o.2.1.facts;obtain⟨x0,x1,x2,dW,dY,dZ⟩:=S2.o.r2.1.facts;obtain⟨y0,y1,y2,dH,dI,dJ⟩:=S2.o.r3.1.facts;have hY:=HH.o;go_wp2;refine aB (iC _ (w.heap.size+1+1) n1 (.slice a1 (ws X).length c1) e1 0 _ rfl rfl (S2.o.2.1.set _ _ _)) rfl ?_;refine Fin.jw (m:=w.heap.size+3) ?_ (by omega);have FE:Fin w.heap.size (w.heap.size+3) w U2 _ _:=⟨S2.o.r4.1,S2.o.1,by omega⟩
 repeat (with_reducible first | exact FE | refine Fin.drew ?_ | refine Fin.alloc ?_ _ | refine Fin.set ?_ _ _ _ (by omega) (by omega))
 exact FE
theorem Vw {w:World}{a b:Option Addr}{l c k d:Nat}(n m:Bool) (e f:Int) (n1 m1:Bool) (X Y:Nat) (e1 f1:Int) (lX:(ws X).length<=8192) (lY:(ws Y).length<=8192) (hX:((((ws X).length:Nat):Int)==0)=false) (hY:((((ws Y).length:Nat):Int)==0)=false) (MN:-1048576<=e1) (MO:e1<=1048576) (MR:-1048576<=f1) (MU:f1<=1048576) (g:Int) (hg:min e1 f1=g) (bg0:-1048576<=g) (bg1:g<=1048576) (P Q:Nat) (lP:(ws P).length<=1000000) (lQ:(ws Q).length<=1000000) (h5:8192<(ws P).length)
 (iZ:Hid (∀ u,Below w.heap.size w u->Calls Tryz.prog 108 #[.agg #[.bool n,.slice a l c,.int .i64 e]] u fun r w'=>(∃ v,r=.returned (.tuple #[.agg #[.bool n1,v,.int .i64 e1],.bool true])/\Nt u.heap.size w' v X)/\Below u.heap.size u w'))
 (jL:Hid (∀ u,Below w.heap.size w u->Calls Tryz.prog 108 #[.agg #[.bool m,.slice b k d,.int .i64 f]] u fun r w'=>(∃ v,r=.returned (.tuple #[.agg #[.bool m1,v,.int .i64 f1],.bool true])/\Nt u.heap.size w' v Y)/\Below u.heap.size u w'))
 (HP:Hid (∀ (u:World) (v:Value),Below w.heap.size w u->Nt (w.heap.size+3) u v X->Calls Tryz.prog 113 #[v,.int .i64 (e1-g)] u fun r w'=>∃ v,r=.returned v/\Nt u.heap.size w' v P/\Below u.heap.size u w'))
 (HQ:Hid (∀ (u:World) (v:Value),Below w.heap.size w u->Nt (w.heap.size+3) u v Y->Calls Tryz.prog 113 #[v,.int .i64 (f1-g)] u fun r w'=>∃ v,r=.returned v/\Nt u.heap.size w' v Q/\Below u.heap.size u w')):Calls Tryz.prog 70 #[.agg #[.bool n,.slice a l c,.int .i64 e],.agg #[.bool m,.slice b k d,.int .i64 f]] w fun r w'=>r=.returned (.tuple #[.agg #[.bool false,.slice none 0 0,.int .i64 0],.int .i64 2])/\Below w.heap.size w w':=by
 obtain⟨W1,hW1⟩:=af (((w.alloc (.cells #[.bool n,.slice a l c,.int .i64 e] 79)).alloc (.cells #[.bool m,.slice b k d,.int .i64 f] 79)).alloc (.cells #[.bool false,.slice none 0 0,.int .i64 0] 79));obtain⟨hB,hz1,DA,DB,DR⟩:=aN w n m (.slice a l c) (.slice b k d) e f W1 hW1;have H1:=hid (iZ.o W1 hB);have SB:=(fM hB hz1 DA DB DR);clear hB hz1 DA DB DR iZ;go_enter Tryz.func70,Tryz.ntmps70;go_wp2_with fail;rw[<-hW1];clear hW1;refine H1.o.mono ?_;rintro r u1 ⟨⟨v,rfl,hN⟩,hb⟩;obtain⟨a1,c1,rfl,_⟩:=hN.arg (by omega);obtain⟨hB,hz1,DA,DB,DR⟩:=SB.o;obtain⟨U1,aP⟩:=af (u1.alloc (.cells #[.bool n1,.slice a1 (ws X).length c1,.int .i64 e1] 79));have hA:Below u1.heap.size u1 U1:=by rw[aP];exact ae _ _
 have hs1:w.heap.size+3<=u1.heap.size:=by have:=hb.size;omega
 have hs2:u1.heap.size<U1.heap.size:=by rw[aP];simp
 have FB:=(DB.below hb).below hA;have FR:=(DR.below hb).below hA;have DX:Dk U1 u1.heap.size n1 (.slice a1 (ws X).length c1) e1:=by rw[aP];exact Dk.new _ _ _ _
 have NX:Nt (w.heap.size+3) U1 (.slice a1 (ws X).length c1) X:=(hN.mono (by omega)).below hA;have BU:Below w.heap.size w U1:=(hB.trans (hb.mono (by omega))).trans (hA.mono (by omega));have H2:=hid (jL.o U1 BU);obtain⟨y0,y1,y2,dH,dI,dJ⟩:=FB.facts;have S1:=(iw BU FR DX NX);clear hN hb H1 hB hz1 hA DA DB DR FB FR DX NX BU SB jL
 go_upto_region 2 with fail
 rw[<-aP];clear aP;go_wp2_with fail;clear y0 y1 y2 dH dI dJ;refine H2.o.mono ?_;rintro r u2 ⟨⟨v,rfl,hM⟩,hb⟩;obtain⟨a2,c2,rfl,_⟩:=hM.arg (by omega);obtain⟨BU,FR,DX,NX⟩:=S1.o;obtain⟨U2,dA⟩:=af (u2.alloc (.cells #[.bool m1,.slice a2 (ws Y).length c2,.int .i64 f1] 79));have hA:Below u2.heap.size u2 U2:=by rw[dA];exact ae _ _
 have hs3:U1.heap.size<=u2.heap.size:=hb.size;have hs4:u2.heap.size<U2.heap.size:=by rw[dA];simp
 have GR:=(FR.below hb).below hA;have GX:=(DX.below hb).below hA;have GY:Dk U2 u2.heap.size m1 (.slice a2 (ws Y).length c2) f1:=by rw[dA];exact Dk.new _ _ _ _
 have MX:=(NX.below hb).below hA;have MY:Nt (w.heap.size+3) U2 (.slice a2 (ws Y).length c2) Y:=(hM.mono (by omega)).below hA;have BV:Below w.heap.size w U2:=(BU.trans (hb.mono (by omega))).trans (hA.mono (by omega));have S2:=(jD BV GR GX GY MX MY);clear hM hb H2 hA FR DX NX BU GR GX GY MX MY BV S1
 go_upto_region 5 with fail
 rw[<-dA];clear dA;obtain⟨r0,r1,r2,fQ,fT,fU⟩:=S2.o.2.1.facts;obtain⟨x0,x1,x2,dW,dY,dZ⟩:=S2.o.r2.1.facts;obtain⟨y0,y1,y2,dH,dI,dJ⟩:=S2.o.r3.1.facts;have H3:=hid (HP.o U2 _ S2.o.1 S2.o.r4.1);clear HP;go_wp2_with fail;clear r0 r1 r2 fQ fT fU x0 x1 x2 dW dY dZ y0 y1 y2 dH dI dJ;refine H3.o.mono ?_;rintro r u5 ⟨v,rfl,hP,hb⟩;obtain⟨a5,c5,rfl,_⟩:=hP.arg (by omega);obtain⟨BV,GR,GX,GY,MX,MY⟩:=S2.o;have hs5:U2.heap.size<=u5.heap.size:=hb.size;have Cr:Below w.heap.size w u5:=BV.trans (hb.mono (by omega));have H4:=hid (HQ.o u5 _ Cr (MY.below hb));have S5:=(jD Cr (GR.below hb) (GX.below hb) (GY.below hb) (MX.below hb) (hP.mono (lo':=w.heap.size+3) (by omega)));clear BV GR GX GY MX MY Cr hP hb H3 S2 HQ;obtain⟨r0,r1,r2,fQ,fT,fU⟩:=S5.o.2.1.facts;obtain⟨x0,x1,x2,dW,dY,dZ⟩:=S5.o.r2.1.facts;obtain⟨y0,y1,y2,dH,dI,dJ⟩:=S5.o.r3.1.facts;go_wp2_with fail;clear r0 r1 r2 fQ fT fU x0 x1 x2 dW dY dZ y0 y1 y2 dH dI dJ;refine H4.o.mono ?_;rintro r u6 ⟨v,rfl,hQ,hb⟩;obtain⟨a6,c6,rfl,_⟩:=hQ.arg (by omega);obtain⟨BV,GR,GX,GY,MX,MP⟩:=S5.o;have hs6:u5.heap.size<=u6.heap.size:=hb.size;have S2:=(jD (BV.trans (hb.mono (by omega))) (GR.below hb) (GX.below hb) (GY.below hb) (MP.below hb) (hQ.mono (lo':=w.heap.size+3) (by omega)));clear BV GR GX GY MX MP hQ hb H4 S5;obtain⟨r0,r1,r2,fQ,fT,fU⟩:=S2.o.2.1.facts;obtain⟨x0,x1,x2,dW,dY,dZ⟩:=S2.o.r2.1.facts;obtain⟨y0,y1,y2,dH,dI,dJ⟩:=S2.o.r3.1.facts;go_wp2;refine aB (iC _ (w.heap.size+1+1) false (.slice none 0 0) 0 2 _ rfl rfl (S2.o.2.1.set _ _ _)) rfl ⟨rfl,?_⟩;refine Fin.aC (m:=w.heap.size+3) (v:=.slice a5 (ws P).length c5) (X:=P) ?_;have FE:Fin w.heap.size (w.heap.size+3) w u6 (.slice a5 (ws P).length c5) P:=⟨S2.o.r4.1,S2.o.1,by omega⟩
 repeat (with_reducible first | exact FE | refine Fin.drew ?_ | refine Fin.alloc ?_ _ | refine Fin.set ?_ _ _ _ (by omega) (by omega))
theorem Vx {w:World}{a b:Option Addr}{l c k d:Nat}(n m:Bool) (e f:Int) (n1 m1:Bool) (X Y:Nat) (e1 f1:Int) (lX:(ws X).length<=8192) (lY:(ws Y).length<=8192) (hX:((((ws X).length:Nat):Int)==0)=false) (hY:((((ws Y).length:Nat):Int)==0)=false) (MN:-1048576<=e1) (MO:e1<=1048576) (MR:-1048576<=f1) (MU:f1<=1048576) (g:Int) (hg:min e1 f1=g) (bg0:-1048576<=g) (bg1:g<=1048576) (P Q:Nat) (lP:(ws P).length<=1000000) (lQ:(ws Q).length<=1000000) (h5:(ws P).length<=8192) (h6:8192<(ws Q).length)
 (iZ:Hid (∀ u,Below w.heap.size w u->Calls Tryz.prog 108 #[.agg #[.bool n,.slice a l c,.int .i64 e]] u fun r w'=>(∃ v,r=.returned (.tuple #[.agg #[.bool n1,v,.int .i64 e1],.bool true])/\Nt u.heap.size w' v X)/\Below u.heap.size u w'))
 (jL:Hid (∀ u,Below w.heap.size w u->Calls Tryz.prog 108 #[.agg #[.bool m,.slice b k d,.int .i64 f]] u fun r w'=>(∃ v,r=.returned (.tuple #[.agg #[.bool m1,v,.int .i64 f1],.bool true])/\Nt u.heap.size w' v Y)/\Below u.heap.size u w'))
 (HP:Hid (∀ (u:World) (v:Value),Below w.heap.size w u->Nt (w.heap.size+3) u v X->Calls Tryz.prog 113 #[v,.int .i64 (e1-g)] u fun r w'=>∃ v,r=.returned v/\Nt u.heap.size w' v P/\Below u.heap.size u w'))
 (HQ:Hid (∀ (u:World) (v:Value),Below w.heap.size w u->Nt (w.heap.size+3) u v Y->Calls Tryz.prog 113 #[v,.int .i64 (f1-g)] u fun r w'=>∃ v,r=.returned v/\Nt u.heap.size w' v Q/\Below u.heap.size u w')):Calls Tryz.prog 70 #[.agg #[.bool n,.slice a l c,.int .i64 e],.agg #[.bool m,.slice b k d,.int .i64 f]] w fun r w'=>r=.returned (.tuple #[.agg #[.bool false,.slice none 0 0,.int .i64 0],.int .i64 2])/\Below w.heap.size w w':=by
 obtain⟨W1,hW1⟩:=af (((w.alloc (.cells #[.bool n,.slice a l c,.int .i64 e] 79)).alloc (.cells #[.bool m,.slice b k d,.int .i64 f] 79)).alloc (.cells #[.bool false,.slice none 0 0,.int .i64 0] 79));obtain⟨hB,hz1,DA,DB,DR⟩:=aN w n m (.slice a l c) (.slice b k d) e f W1 hW1;have H1:=hid (iZ.o W1 hB);have SB:=(fM hB hz1 DA DB DR);clear hB hz1 DA DB DR iZ;go_enter Tryz.func70,Tryz.ntmps70;go_wp2_with fail;rw[<-hW1];clear hW1;refine H1.o.mono ?_;rintro r u1 ⟨⟨v,rfl,hN⟩,hb⟩;obtain⟨a1,c1,rfl,_⟩:=hN.arg (by omega);obtain⟨hB,hz1,DA,DB,DR⟩:=SB.o;obtain⟨U1,aP⟩:=af (u1.alloc (.cells #[.bool n1,.slice a1 (ws X).length c1,.int .i64 e1] 79));have hA:Below u1.heap.size u1 U1:=by rw[aP];exact ae _ _
 have hs1:w.heap.size+3<=u1.heap.size:=by have:=hb.size;omega
 have hs2:u1.heap.size<U1.heap.size:=by rw[aP];simp
 have FB:=(DB.below hb).below hA;have FR:=(DR.below hb).below hA;have DX:Dk U1 u1.heap.size n1 (.slice a1 (ws X).length c1) e1:=by rw[aP];exact Dk.new _ _ _ _
 have NX:Nt (w.heap.size+3) U1 (.slice a1 (ws X).length c1) X:=(hN.mono (by omega)).below hA;have BU:Below w.heap.size w U1:=(hB.trans (hb.mono (by omega))).trans (hA.mono (by omega));have H2:=hid (jL.o U1 BU);obtain⟨y0,y1,y2,dH,dI,dJ⟩:=FB.facts;have S1:=(iw BU FR DX NX);clear hN hb H1 hB hz1 hA DA DB DR FB FR DX NX BU SB jL
 go_upto_region 2 with fail
 rw[<-aP];clear aP;go_wp2_with fail;clear y0 y1 y2 dH dI dJ;refine H2.o.mono ?_;rintro r u2 ⟨⟨v,rfl,hM⟩,hb⟩;obtain⟨a2,c2,rfl,_⟩:=hM.arg (by omega);obtain⟨BU,FR,DX,NX⟩:=S1.o;obtain⟨U2,dA⟩:=af (u2.alloc (.cells #[.bool m1,.slice a2 (ws Y).length c2,.int .i64 f1] 79));have hA:Below u2.heap.size u2 U2:=by rw[dA];exact ae _ _
 have hs3:U1.heap.size<=u2.heap.size:=hb.size;have hs4:u2.heap.size<U2.heap.size:=by rw[dA];simp
 have GR:=(FR.below hb).below hA;have GX:=(DX.below hb).below hA;have GY:Dk U2 u2.heap.size m1 (.slice a2 (ws Y).length c2) f1:=by rw[dA];exact Dk.new _ _ _ _
 have MX:=(NX.below hb).below hA;have MY:Nt (w.heap.size+3) U2 (.slice a2 (ws Y).length c2) Y:=(hM.mono (by omega)).below hA;have BV:Below w.heap.size w U2:=(BU.trans (hb.mono (by omega))).trans (hA.mono (by omega));have S2:=(jD BV GR GX GY MX MY);clear hM hb H2 hA FR DX NX BU GR GX GY MX MY BV S1
 go_upto_region 5 with fail
 rw[<-dA];clear dA;obtain⟨r0,r1,r2,fQ,fT,fU⟩:=S2.o.2.1.facts;obtain⟨x0,x1,x2,dW,dY,dZ⟩:=S2.o.r2.1.facts;obtain⟨y0,y1,y2,dH,dI,dJ⟩:=S2.o.r3.1.facts;have H3:=hid (HP.o U2 _ S2.o.1 S2.o.r4.1);clear HP;go_wp2_with fail;clear r0 r1 r2 fQ fT fU x0 x1 x2 dW dY dZ y0 y1 y2 dH dI dJ;refine H3.o.mono ?_;rintro r u5 ⟨v,rfl,hP,hb⟩;obtain⟨a5,c5,rfl,_⟩:=hP.arg (by omega);obtain⟨BV,GR,GX,GY,MX,MY⟩:=S2.o;have hs5:U2.heap.size<=u5.heap.size:=hb.size;have Cr:Below w.heap.size w u5:=BV.trans (hb.mono (by omega));have H4:=hid (HQ.o u5 _ Cr (MY.below hb));have S5:=(jD Cr (GR.below hb) (GX.below hb) (GY.below hb) (MX.below hb) (hP.mono (lo':=w.heap.size+3) (by omega)));clear BV GR GX GY MX MY Cr hP hb H3 S2 HQ;obtain⟨r0,r1,r2,fQ,fT,fU⟩:=S5.o.2.1.facts;obtain⟨x0,x1,x2,dW,dY,dZ⟩:=S5.o.r2.1.facts;obtain⟨y0,y1,y2,dH,dI,dJ⟩:=S5.o.r3.1.facts;go_wp2_with fail;clear r0 r1 r2 fQ fT fU x0 x1 x2 dW dY dZ y0 y1 y2 dH dI dJ;refine H4.o.mono ?_;rintro r u6 ⟨v,rfl,hQ,hb⟩;obtain⟨a6,c6,rfl,_⟩:=hQ.arg (by omega);obtain⟨BV,GR,GX,GY,MX,MP⟩:=S5.o;have hs6:u5.heap.size<=u6.heap.size:=hb.size;have S2:=(jD (BV.trans (hb.mono (by omega))) (GR.below hb) (GX.below hb) (GY.below hb) (MP.below hb) (hQ.mono (lo':=w.heap.size+3) (by omega)));clear BV GR GX GY MX MP hQ hb H4 S5;obtain⟨r0,r1,r2,fQ,fT,fU⟩:=S2.o.2.1.facts;obtain⟨x0,x1,x2,dW,dY,dZ⟩:=S2.o.r2.1.facts;obtain⟨y0,y1,y2,dH,dI,dJ⟩:=S2.o.r3.1.facts;go_wp2;refine aB (iC _ (w.heap.size+1+1) false (.slice none 0 0) 0 2 _ rfl rfl (S2.o.2.1.set _ _ _)) rfl ⟨rfl,?_⟩;refine Fin.aC (m:=w.heap.size+3) (v:=.slice a5 (ws P).length c5) (X:=P) ?_;have FE:Fin w.heap.size (w.heap.size+3) w u6 (.slice a5 (ws P).length c5) P:=⟨S2.o.r4.1,S2.o.1,by omega⟩
 repeat (with_reducible first | exact FE | refine Fin.drew ?_ | refine Fin.alloc ?_ _ | refine Fin.set ?_ _ _ _ (by omega) (by omega))
end
end Go.Proofs.YtjppdacikihpdaaGreatDoor
