import Derived.Test.YtjppdacikihpdaaGreatDoorS10x
import Derived.Deep.RegionWith
import Derived.Test.YtjppdacikihpdaaGreatDoorD19x
import Derived.Test.YtjppdacikihpdaaGreatDoorM1x
import Derived.Test.YtjppdacikihpdaaGreatDoorD15x
import Ieee.Arith
import Derived.Test.YtjppdacikihpdaaGreatDoorBIeeex
import Derived.Test.YtjppdacikihpdaaGreatDoorW50x
import Derived.Deep.Cut
import Derived.Deep.RegionHeld3
set_option linter.unusedVariables false
set_option linter.unusedSimpArgs false
set_option maxHeartbeats 16000000
set_option maxRecDepth 20000
namespace Go.Proofs.YtjppdacikihpdaaGreatDoor
section
open Go.RowKit
def QB:Nat:=HB/4398046511104
theorem Qbi{P:Prop}(h:P:=by
 unfold QB;rw[yU k hk,show k=42+j by omega,aP];have e:(2:Nat)^42=4398046511104:=aM
 rw[e,wB _ aM]):P:=h
theorem L8:HB=4398046511104*QB:=by
 obtain⟨k,hk⟩:∃k,k=4238:=⟨_,rfl⟩;obtain⟨j,hj⟩:∃j,j=4196:=⟨_,rfl⟩;exact Qbi
theorem DC:0<QB:=by have:=L8;have:=uW;omega
theorem zn(x y:Nat)(hx:x<18446744073709551616)(hy:y<18446744073709551616):-(QB:Int)<=pT x y/\pT x y<=(QB:Int):=by
 have hp:=DC
 have e2:∃j,j=4196/\QB=2^j:=by
  obtain⟨k,hk⟩:∃k,k=4238:=⟨_,rfl⟩;obtain⟨j,hj⟩:∃j,j=4196:=⟨_,rfl⟩;refine⟨j,hj,?_⟩;exact Qbi
 obtain⟨j,hj,hq⟩:=e2;unfold pT Y2
 split
 . have f1:=nD (eW x) (fW x) (iJ x hx).2.2;have f2:=nD (eW y) (fW y) (iJ y hy).2.2;have x1:=nC (eW x) (iJ x hx).2.1;have x2:=nC (eW y) (iJ y hy).2.1
   have h1:wT x*wT y<2^106:=by
    exact Qa2
   have h3:wT x*wT y*2^(Ez x+Ez y+2148).toNat<QB:=by
    rw[hq];exact Qb3
   have:=Bo (!LF x==LF y) _ _ h3;omega
 . constructor <;> omega
def Sp.pos(s:Sp):Prop:=0<=s.n/\0<=s.u/\0<=s.d/\0<=s.m/\0<=s.p/\s.n+s.u+s.d+s.m+s.p<=s.a
theorem Sp.pos.cnt{s:Sp}(h:s.pos)(k:Nat)(hk:k<=5):(s.cnt k 1).pos:=by
 obtain⟨h0,h1,h2,h3,h4,h5⟩:=h;have hc:k=0\/k=1\/k=2\/k=3\/k=4\/k=5:=ae
 rcases hc with rfl|rfl|rfl|rfl|rfl|rfl <;> (unfold Sp.pos Sp.cnt;simp;omega)
theorem Sp.pos.ok{s:Sp}(h:s.pos)(ha:s.a<=4398046511104):s.ok:=by
 obtain⟨h0,h1,h2,h3,h4,h5⟩:=h;unfold Sp.ok;omega
theorem cnt_a(s:Sp)(k:Nat)(c:Int):(s.cnt k c).a=s.a+c:=rfl
theorem put_ok(V:Int)(s:Sp)(k:Nat)(T:Int)(h0:-(HB:Int)<V+T)(h1:V+T<(HB:Int))(ha:s.a<1099511627776):Ab V s k T=(0,V+T,s.cnt k 1):=by
 unfold Ab Bn;rw[if_neg ae,if_pos ⟨h0,h1⟩]
def vS(l:List Nat):Int:=l.foldl (λv x=>v+pT x 4607182418800017408) 0
def sS(l:List Nat):Sp:=l.foldl (λs x=>s.cnt (pK x 4607182418800017408) 1) ⟨0,0,0,0,0,0⟩
theorem qc(l:List Nat)(k:Nat)(h:k<l.length):l.take (k+1)=l.take k++[l.getD k 0]:=by
 rw[xU h,bF,aY h];rfl
theorem DF(l:List Nat)(k:Nat)(h:k<l.length):vS (l.take (k+1))=vS (l.take k)+pT (l.getD k 0) 4607182418800017408:=by
 rw[qc l k h];simp[vS,List.foldl_append]
theorem DI(l:List Nat)(k:Nat)(h:k<l.length):sS (l.take (k+1))=(sS (l.take k)).cnt (pK (l.getD k 0) 4607182418800017408) 1:=by
 rw[qc l k h];simp[sS,List.foldl_append]
theorem qd(l:List Nat)(hl:jH l):∀k,k<=l.length->-((k*QB:Nat):Int)<=vS (l.take k)/\vS (l.take k)<=((k*QB:Nat):Int)
 | 0,_=>by simp[vS]
 | k+1,h=>by
   obtain⟨h1,h2⟩:=qd l hl k ae;have h3:=zn (l.getD k 0) 4607182418800017408 (hl.get k) aM;rw[DF l k h];have e:((k+1)*QB:Nat)=k*QB+QB:=by rw[fT,ik]
   omega
theorem JI(l:List Nat):∀k,k<=l.length->(sS (l.take k)).pos/\(sS (l.take k)).a=k
 | 0,_=>⟨by rw[List.take_zero];unfold Sp.pos sS;decide,rfl⟩
 | k+1,h=>by
   obtain⟨h1,h2⟩:=JI l k ae;rw[DI l k h];refine⟨h1.cnt _ (Y4 _ _ _),?_⟩;rw[cnt_a,h2];omega
attribute [local go_sem] B.aW B.aJ
theorem cZ{P:Program}{w:World}(a:Addr)(k:FloatKind)(n:Nat)(m:Mode):(store a (.float k n) m).run P w=stored P w a (.float k n) m:=run_store P w a _ m rfl
def oddW:Nat:=9221120237041090560
def ug(z:Nat):Bool:=decide (9218868437227405312<z%9223372036854775808)
theorem bwz(z:Nat)(h:z<18446744073709551616):∃s e f,e<2048/\f<4503599627370496/\z=B.bw s e f/\B.odd e f=ug z:=by
 refine⟨decide (9223372036854775808<=z),z%9223372036854775808/4503599627370496,z%4503599627370496,ae,ae,?_,?_⟩
 . unfold B.bw
   by_cases h1:9223372036854775808<=z
   . simp only[h1,decide_true,gD];omega
   . simp only[h1,decide_false,gF];omega
 . unfold B.odd ug;rw[xO];simp only[yh,beq_iff_eq,bne_iff_ne,ne_eq,decide_eq_true_eq];omega
theorem WR(z:Nat)(h:z<18446744073709551616)(w:World):Ax 27 #[.float .f64 z] w (.bool (ug z)):=by
 obtain⟨s,e,f,he,hf,h1,h2⟩:=bwz z h;rw[<-h2,h1];exact B.di s e f he hf w
end
section
open Go.RowKit
theorem DJ(W:World)(g:Nat)(n:Bool)(v:Value)(e k:Int)(tmps:Array Value)(ht:tmps[4]?.getD undef=.pointer (some ⟨g,0,none⟩))(hk:tmps[5]?.getD undef=.int .i64 k)(D:Dk W g n v e) :
 (results Tryz.f79 tmps).run Tryz.prog W=.ok (.tuple #[.agg #[.bool n,v,.int .i64 e],.int .i64 k]) W:=by
 obtain⟨x0,x1,x2,fA,fB,fC⟩:=D.facts;simp[results,Tryz.results79,ht,hk,go_sem,x0,x1,x2]
theorem L9{w:World}{a b:Option Addr}{l c k d:Nat}(n m:Bool)(e f:Int)(lT:Hid (∀u,An w u->At 80 #[.agg #[.bool n,.slice a l c,.int .i64 e],.agg #[.bool m,.slice b k d,.int .i64 f]] u (.tuple #[.agg zD3,.agg zD3,.int .i64 2]))):At 79 #[.agg #[.bool n,.slice a l c,.int .i64 e],.agg #[.bool m,.slice b k d,.int .i64 f]] w (.tuple #[.agg zD3,.int .i64 2]):=by
 obtain⟨W1,hW1⟩:=ah (((w.alloc (.cells #[.bool n,.slice a l c,.int .i64 e] 79)).alloc (.cells #[.bool m,.slice b k d,.int .i64 f] 79)).alloc (.cells zD3 79));obtain⟨hB,hz1,DA,DB,DR⟩:=aZ w n m (.slice a l c) (.slice b k d) e f W1 hW1;have H1:=hid (lT.o W1 hB);have SB:=(gy hB hz1 DA DB DR);clear hB hz1 DA DB DR lT;go_enter Tryz.func79,Tryz.ntmps79;go_wp2_with fail;rw[<-hW1];clear hW1;refine H1.o.mono ?_;rintro r u1 ⟨rfl,hb⟩;obtain⟨hB,hz1,DA,DB,DR⟩:=SB.o;have EA:=DA.below hb;have EB:=DB.below hb;have ER:=DR.below hb;obtain⟨x0,x1,x2,fA,fB,fC⟩:=EA.facts;obtain⟨y0,y1,y2,dY,dZ,eB⟩:=EB.facts;obtain⟨r0,r1,r2,gK,gL,gM⟩:=ER.facts;have F1:=ak (show Fin w.heap.size (w.heap.size+3) w u1 (.slice none 0 0) 0 from⟨Nt.nil _ _,hB.trans (hb.mono ae),by have:=hb.size;omega⟩);have SE:=ak ER;clear hb H1 hB hz1 DA DB DR EA EB ER SB;go_wp2;refine aH (DJ _ (w.heap.size+1+1) false (.slice none 0 0) 0 2 _ rfl rfl (((SE.o.other _ ae _ _ _).other _ ae _ _ _).set _ _ _)) rfl ⟨rfl,?_⟩;exact xf
theorem Ta {w:World}{a b:Option Addr}{l c k d:Nat}(n m:Bool) (e f:Int) (n1 m1:Bool) (X Y:Nat) (e1 f1:Int) (lX:(ws X).length<=8192) (lY:(ws Y).length<=8192) (Ot:-1048576<=e1) (Ou:e1<=1048576) (Ov:-1048576<=f1) (Ow:f1<=1048576)
 (lT:Hid (∀u,An w u->As 80 #[.agg #[.bool n,.slice a l c,.int .i64 e],.agg #[.bool m,.slice b k d,.int .i64 f]] u λr w'=>∃v v',r=.returned (.tuple #[.agg #[.bool n1,v,.int .i64 e1],.agg #[.bool m1,v',.int .i64 f1],.int .i64 0])/\Nt u.heap.size w' v X/\Nt u.heap.size w' v' Y/\An u w'))
 (wU:Hid (∀(u:World) (p:Option Addr) (q:Nat) (p2:Option Addr) (q2:Nat),An w u->Arg u p (ws X).length q (ws X)->Arg u p2 (ws Y).length q2 (ws Y)->As 127 #[.slice p (ws X).length q,.slice p2 (ws Y).length q2] u λr w'=>∃v,r=.returned (.tuple #[v,.int .i64 2])/\Nt u.heap.size w' v 0/\An u w')):At 79 #[.agg #[.bool n,.slice a l c,.int .i64 e],.agg #[.bool m,.slice b k d,.int .i64 f]] w (.tuple #[.agg zD3,.int .i64 2]):=by
 have l0:(ws 0).length=0:=by rw[cB];rfl
 obtain⟨W1,hW1⟩:=ah (((w.alloc (.cells #[.bool n,.slice a l c,.int .i64 e] 79)).alloc (.cells #[.bool m,.slice b k d,.int .i64 f] 79)).alloc (.cells zD3 79));obtain⟨hB,hz1,DA,DB,DR⟩:=aZ w n m (.slice a l c) (.slice b k d) e f W1 hW1;have H1:=hid (lT.o W1 hB);have SB:=(gy hB hz1 DA DB DR);clear hB hz1 DA DB DR lT;go_enter Tryz.func79,Tryz.ntmps79;go_wp2_with fail;rw[<-hW1];clear hW1;refine H1.o.mono ?_;rintro r u1 ⟨v,v',rfl,hN,hM,hb⟩;obtain⟨a1,c1,rfl,_⟩:=hN.arg ae;obtain⟨a2,c2,rfl,_⟩:=hM.arg ae;obtain⟨hB,hz1,DA,DB,DR⟩:=SB.o;have EA:=DA.below hb;have EB:=DB.below hb;have ER:=DR.below hb;obtain⟨x0,x1,x2,fA,fB,fC⟩:=EA.facts;obtain⟨y0,y1,y2,dY,dZ,eB⟩:=EB.facts;obtain⟨r0,r1,r2,gK,gL,gM⟩:=ER.facts;have FX:=ak (show Fin w.heap.size (w.heap.size+3) w u1 (.slice a1 (ws X).length c1) X from⟨by rw[<-hz1];exact hN,hB.trans (hb.mono ae),by have:=hb.size;omega⟩);have FY:=ak (show Fin w.heap.size (w.heap.size+3) w u1 (.slice a2 (ws Y).length c2) Y from⟨by rw[<-hz1];exact hM,hB.trans (hb.mono ae),by have:=hb.size;omega⟩);have SE:=(gp EA EB ER);clear hN hM hb H1 hB hz1 DA DB DR EA EB ER SB;obtain⟨EA,EB,ER⟩:=SE.o;obtain⟨U1,aX⟩:=ah (dW (dW u1 w.heap.size (.bool n1) (.slice a1 (ws X).length c1) (.int .i64 e1)) (w.heap.size+1) (.bool m1) (.slice a2 (ws Y).length c2) (.int .i64 f1));have IA:Dk U1 w.heap.size n1 (.slice a1 (ws X).length c1) e1:=by rw[aX];exact((EA.set _ _ _).other _ ae _ _ _)
 have IB:Dk U1 (w.heap.size+1) m1 (.slice a2 (ws Y).length c2) f1:=by rw[aX];exact((EB.other _ ae _ _ _).set _ _ _)
 have IR:Dk U1 (w.heap.size+1+1) false (.slice none 0 0) 0:=by rw[aX];exact((ER.other _ ae _ _ _).other _ ae _ _ _)
 have GX:Fin w.heap.size (w.heap.size+3) w U1 (.slice a1 (ws X).length c1) X:=by rw[aX];exact(Fin.dW (Fin.dW FX.o _ _ _ _ ae ae) _ _ _ _ ae ae)
 have GY:Fin w.heap.size (w.heap.size+3) w U1 (.slice a2 (ws Y).length c2) Y:=by rw[aX];exact(Fin.dW (Fin.dW FY.o _ _ _ _ ae ae) _ _ _ _ ae ae)
 have H2:=hid (wU.o U1 a1 c1 a2 c2 GX.aF (GX.nt.bS ae).2 (GY.nt.bS ae).2);have S1:=(gy IA IB IR GX GY);have hzU:w.heap.size+3<=U1.heap.size:=by have:=IR.lt;omega
 clear EA EB ER IA IB IR GX GY SE wU;unfold dW at aX;go_wp2_with fail;rw[<-aX];clear aX x0 x1 x2 fA fB fC y0 y1 y2 dY dZ eB r0 r1 r2 gK gL gM;refine H2.o.mono ?_;rintro r u2 ⟨v,rfl,hN,hb⟩;obtain⟨a3,c3,rfl,_⟩:=hN.arg ae;obtain⟨IA,IB,IR,GX,GY⟩:=S1.o;obtain⟨x0,x1,x2,fA,fB,fC⟩:=(IA.below hb).facts;obtain⟨y0,y1,y2,dY,dZ,eB⟩:=(IB.below hb).facts;obtain⟨r0,r1,r2,gK,gL,gM⟩:=(IR.below hb).facts;have S2:=(bA (IR.below hb) ((GX.below hb)));clear hN hb H2 S1 IA IB IR GX GY;go_wp2;refine aH (DJ _ (w.heap.size+1+1) false (.slice none 0 0) 0 2 _ rfl rfl (S2.o.1.set _ _ _)) rfl ⟨rfl,?_⟩;refine Fin.aF (m:=w.heap.size+3) (v:=.slice a1 (ws X).length c1) (X:=X) ?_
 repeat (with_reducible first | exact S2.o.2 | refine Fin.drew ?_ | refine Fin.alloc ?_ _ | refine Fin.set ?_ _ _ _ ae ae)
theorem mul_ok {w:World}{a b:Option Addr}{l c k d:Nat}(n m:Bool) (e f:Int) (n1 m1:Bool) (X Y:Nat) (e1 f1:Int) (lX:(ws X).length<=8192) (lY:(ws Y).length<=8192) (Ot:-1048576<=e1) (Ou:e1<=1048576) (Ov:-1048576<=f1) (Ow:f1<=1048576)
 (lT:Hid (∀u,An w u->As 80 #[.agg #[.bool n,.slice a l c,.int .i64 e],.agg #[.bool m,.slice b k d,.int .i64 f]] u λr w'=>∃v v',r=.returned (.tuple #[.agg #[.bool n1,v,.int .i64 e1],.agg #[.bool m1,v',.int .i64 f1],.int .i64 0])/\Nt u.heap.size w' v X/\Nt u.heap.size w' v' Y/\An u w')) (L:Nat) (lL:(ws L).length<=8192) (dn:Bool) (V:Nat) (de er:Int) (lV:(ws V).length<=8192)
 (wU:Hid (∀(u:World) (p:Option Addr) (q:Nat) (p2:Option Addr) (q2:Nat),An w u->Arg u p (ws X).length q (ws X)->Arg u p2 (ws Y).length q2 (ws Y)->As 127 #[.slice p (ws X).length q,.slice p2 (ws Y).length q2] u λr w'=>∃v,r=.returned (.tuple #[v,.int .i64 0])/\Nt u.heap.size w' v L/\An u w'))
 (HT:Hid (∀(u:World) (p:Option Addr) (s:Nat),An w u->Arg u p (ws L).length s (ws L)->As 94 #[.bool (n1 != m1),.slice p (ws L).length s,.int .i64 (e1+f1)] u λr w'=>(∃v,r=.returned (.tuple #[.agg #[.bool dn,v,.int .i64 de],.int .i64 er])/\Nt u.heap.size w' v V)/\An u w')):As 79 #[.agg #[.bool n,.slice a l c,.int .i64 e],.agg #[.bool m,.slice b k d,.int .i64 f]] w λr w'=>(∃v,r=.returned (.tuple #[.agg #[.bool dn,v,.int .i64 de],.int .i64 er])/\Nt w.heap.size w' v V)/\An w w':=by
 obtain⟨W1,hW1⟩:=ah (((w.alloc (.cells #[.bool n,.slice a l c,.int .i64 e] 79)).alloc (.cells #[.bool m,.slice b k d,.int .i64 f] 79)).alloc (.cells zD3 79));obtain⟨hB,hz1,DA,DB,DR⟩:=aZ w n m (.slice a l c) (.slice b k d) e f W1 hW1;have H1:=hid (lT.o W1 hB);have SB:=(gy hB hz1 DA DB DR);clear hB hz1 DA DB DR lT;go_enter Tryz.func79,Tryz.ntmps79;go_wp2_with fail;rw[<-hW1];clear hW1;refine H1.o.mono ?_;rintro r u1 ⟨v,v',rfl,hN,hM,hb⟩;obtain⟨a1,c1,rfl,_⟩:=hN.arg ae;obtain⟨a2,c2,rfl,_⟩:=hM.arg ae;obtain⟨hB,hz1,DA,DB,DR⟩:=SB.o;have EA:=DA.below hb;have EB:=DB.below hb;have ER:=DR.below hb;obtain⟨x0,x1,x2,fA,fB,fC⟩:=EA.facts;obtain⟨y0,y1,y2,dY,dZ,eB⟩:=EB.facts;obtain⟨r0,r1,r2,gK,gL,gM⟩:=ER.facts;have FX:=ak (show Fin w.heap.size (w.heap.size+3) w u1 (.slice a1 (ws X).length c1) X from⟨by rw[<-hz1];exact hN,hB.trans (hb.mono ae),by have:=hb.size;omega⟩);have FY:=ak (show Fin w.heap.size (w.heap.size+3) w u1 (.slice a2 (ws Y).length c2) Y from⟨by rw[<-hz1];exact hM,hB.trans (hb.mono ae),by have:=hb.size;omega⟩);have SE:=(gp EA EB ER);clear hN hM hb H1 hB hz1 DA DB DR EA EB ER SB;obtain⟨EA,EB,ER⟩:=SE.o;obtain⟨U1,aX⟩:=ah (dW (dW u1 w.heap.size (.bool n1) (.slice a1 (ws X).length c1) (.int .i64 e1)) (w.heap.size+1) (.bool m1) (.slice a2 (ws Y).length c2) (.int .i64 f1));have IA:Dk U1 w.heap.size n1 (.slice a1 (ws X).length c1) e1:=by rw[aX];exact((EA.set _ _ _).other _ ae _ _ _)
 have IB:Dk U1 (w.heap.size+1) m1 (.slice a2 (ws Y).length c2) f1:=by rw[aX];exact((EB.other _ ae _ _ _).set _ _ _)
 have IR:Dk U1 (w.heap.size+1+1) false (.slice none 0 0) 0:=by rw[aX];exact((ER.other _ ae _ _ _).other _ ae _ _ _)
 have GX:Fin w.heap.size (w.heap.size+3) w U1 (.slice a1 (ws X).length c1) X:=by rw[aX];exact(Fin.dW (Fin.dW FX.o _ _ _ _ ae ae) _ _ _ _ ae ae)
 have GY:Fin w.heap.size (w.heap.size+3) w U1 (.slice a2 (ws Y).length c2) Y:=by rw[aX];exact(Fin.dW (Fin.dW FY.o _ _ _ _ ae ae) _ _ _ _ ae ae)
 have H2:=hid (wU.o U1 a1 c1 a2 c2 GX.aF (GX.nt.bS ae).2 (GY.nt.bS ae).2);have S1:=(gy IA IB IR GX GY);have hzU:w.heap.size+3<=U1.heap.size:=by have:=IR.lt;omega
 clear EA EB ER IA IB IR GX GY SE wU;unfold dW at aX;go_wp2_with fail;rw[<-aX];clear aX x0 x1 x2 fA fB fC y0 y1 y2 dY dZ eB r0 r1 r2 gK gL gM;refine H2.o.mono ?_;rintro r u2 ⟨v,rfl,hN,hb⟩;obtain⟨a3,c3,rfl,_⟩:=hN.arg ae;obtain⟨IA,IB,IR,GX,GY⟩:=S1.o;obtain⟨x0,x1,x2,fA,fB,fC⟩:=(IA.below hb).facts;obtain⟨y0,y1,y2,dY,dZ,eB⟩:=(IB.below hb).facts;obtain⟨r0,r1,r2,gK,gL,gM⟩:=(IR.below hb).facts;have H3:=hid (HT.o u2 a3 c3 (GX.below hb).aF (hN.bS ae).2);have S2:=(bA (IR.below hb) ((GX.below hb)));have hz2:w.heap.size+3<=u2.heap.size:=by have:=hb.size;omega
 clear hN hb H2 S1 IA IB IR GX GY HT;go_wp2_with fail;refine H3.o.mono ?_;rintro r u3 ⟨⟨v,rfl,hN⟩,hb⟩;obtain⟨a4,c4,rfl,_⟩:=hN.arg ae;have IR:=S2.o.1.below hb;obtain⟨s0,s1,s2,Bt,Bu,Bw⟩:=IR.facts;have FV:=ak (show Fin w.heap.size (w.heap.size+3) w u3 (.slice a4 (ws V).length c4) V from⟨hN.mono hz2,(S2.o.2.below hb).aF,by have:=hb.size;omega⟩);have S3:=ak IR;clear hN hb IR H3 S2;go_wp2;refine aH (DJ _ (w.heap.size+1+1) dn (.slice a4 (ws V).length c4) de er _ rfl rfl (S3.o.set _ _ _)) rfl ?_;refine Fin.j4 (m:=w.heap.size+3) ?_ ae
 repeat (with_reducible first | exact FV.o | refine Fin.drew ?_ | refine Fin.alloc ?_ _ | refine Fin.set ?_ _ _ _ ae ae)
def WS(x y:Bool×Nat×Int):Option (Bool×Nat×Int):=mkS (x.1 != y.1) (x.2.1*y.2.1) (x.2.2+y.2.2)
def xm(o p:Option (Bool×Nat×Int)):Option (Bool×Nat×Int) :=
 match o,p with
 | some x,some y=>WS x y
 | _,_=>none
theorem Mc{w:World}{p q:Option Addr}{s t X Y:Nat}(L:Nat)(er:Int)(hA:Arg w p (ws X).length s (ws X))(hB:Arg w q (ws Y).length t (ws Y))(h:jI X Y=(L,er)) :
 As 127 #[.slice p (ws X).length s,.slice q (ws Y).length t] w λr w'=>∃v,r=.returned (.tuple #[v,.int .i64 er])/\Nt w.heap.size w' v L/\An w w':=by
 have:=Lj (ws X) (ws Y) p q (ws X).length s (ws Y).length t w.heap.size w hA.len hB.len hA.cap hB.cap (by have:=hA.big;omega) (by have:=hB.big;omega) hA.wf hB.wf hA.rd hB.rd (aA _);rw[aB,aB,h] at this;exact this.mono λr w' ⟨⟨v,h1,h2⟩,h3⟩=>⟨v,h1,h2,h3⟩
theorem Md{X:Nat}(h:X%2=1):lo X=0:=by
 have:=Lc 0 (X/2);rw[show 2^0*(2*(X/2)+1)=X by omega] at this;exact this
theorem Tc{w:World}{a b:Option Addr}{l c k d:Nat}{xs ys:List Nat}(h1:Arg w a l c xs)(h2:Arg w b k d ys)(hT:gP w)(n m:Bool)(e f:Int)(he0:-9223372036854775808<=e)(he1:e<=9223372036854775807)(hf0:-9223372036854775808<=f)(hf1:f<=9223372036854775807) :
 As 79 #[.agg #[.bool n,.slice a l c,.int .i64 e],.agg #[.bool m,.slice b k d,.int .i64 f]] w λr w'=>dm w.heap.size w' r (xm (mkS n (val xs) e) (mkS m (val ys) f))/\An w w':=by
 have zero:∀{r:Ending} {w':World},(r=.returned (.tuple #[.agg zD3,.int .i64 2])/\An w w')->dm w.heap.size w' r none/\An w w':=λ⟨h1,h2⟩=>⟨⟨_,h1,Nt.nil _ _⟩,h2⟩
 cases hx:mkS n (val xs) e with
 | none =>
   exact(L9 n m e f (hid λu hu=>zg (h1.below hu) (h2.below hu) (hT.belows hu) n m e f he0 he1 hf0 hf1 hx)).mono λr w' h=>zero h
 | some x =>
   obtain⟨n1,X,e1⟩:=x
   cases hy:mkS m (val ys) f with
   | none =>
     exact(L9 n m e f (hid λu hu=>zh (h1.below hu) (h2.below hu) (hT.belows hu) n m e f he0 he1 hf0 hf1 n1 X e1 hx hy)).mono λr w' h=>zero h
   | some y =>
     obtain⟨m1,Y,f1⟩:=y;have lT:=hid λu (hu:An w u)=>Gb (h1.below hu) (h2.below hu) (hT.belows hu) n m e f he0 he1 hf0 hf1 n1 m1 X Y e1 f1 hx hy;have FX:=cO hx;have FY:=cO hy;have lX:=fw FX;have lY:=fw FY;have:=FX.up;have:=FX.down;have:=FY.up;have:=FY.down;show Calls _ _ _ _ λr w'=>dm w.heap.size w' r (mkS (n1 != m1) (X*Y) (e1+f1))/\_
     by_cases hL:LG (X*Y)
     . have hs:jI X Y=(0,2):=by unfold jI;rw[if_neg (by intro h;rcases h with h | h;exact mH FX.size h;exact mH FY.size h),if_pos hL]
       have hno:mkS (n1 != m1) (X*Y) (e1+f1)=none:=by
        have hb:=(pV _).1 hL;have h0:X*Y≠0:=by intro h;rw[h,dI] at hb;omega
        have oX:X%2=1:=by rcases FX.odd with h | h;exact h;rw[h.1,fe] at h0;exact absurd rfl h0
        have oY:Y%2=1:=by rcases FY.odd with h | h;exact h;rw[h.1,o9] at h0;exact absurd rfl h0
        have hlo:lo (X*Y)=0:=Md (by rw[Nat.mul_mod,oX,oY]);unfold mkS;rw[if_neg h0,if_pos (.inl (by rw[hlo];omega))]
       rw[hno];exact(Ta n m e f n1 m1 X Y e1 f1 lX lY ae ae ae ae lT (hid λu p q p2 q2 hu hA hB=>Mc 0 2 hA hB hs)).mono λr w' h=>zero h
     . have hs:jI X Y=(X*Y,0):=by unfold jI;rw[if_neg (by intro h;rcases h with h | h;exact mH FX.size h;exact mH FY.size h),if_neg hL]
       obtain⟨L,Y8⟩:∃L,X*Y=L:=⟨_,rfl⟩;rw[Y8] at hs hL |-;have lL:(ws L).length<=8192:=by unfold LG at hL;omega
       exact mul_ok n m e f n1 m1 X Y e1 f1 lX lY ae ae ae ae lT L lL _ _ _ _ (aR (n1 != m1) L (e1+f1)) (hid λu p q p2 q2 hu hA hB=>Mc L 0 hA hB hs)
        (hid λu p s hu hA=>by have:=fZ hA (hT.belows hu) (n1 != m1) (e1+f1) ae ae;rw[aB] at this;exact this)
theorem wrap64(x:Int)(h0:-9223372036854775808<=x)(h1:x<=9223372036854775807):IntKind.i64.wrap x=x:=by rw[QD];omega
theorem uh(W:World)(g:Nat)(n:Bool)(v:Value)(e k:Int)(tmps:Array Value)(ht:tmps[4]?.getD undef=.pointer (some ⟨g,0,none⟩))(hk:tmps[5]?.getD undef=.int .i64 k)(D:Dk W g n v e) :
 (results Tryz.f68 tmps).run Tryz.prog W=.ok (.tuple #[.agg #[.bool n,v,.int .i64 e],.int .i64 k]) W:=by
 obtain⟨x0,x1,x2,fA,fB,fC⟩:=D.facts;simp[results,Tryz.results68,ht,hk,go_sem,x0,x1,x2]
theorem WT {w:World}{a b:Option Addr}{l c k d:Nat}(n m:Bool) (e f:Int) (n1 m1:Bool) (X Y:Nat) (e1 f1:Int) (lX:(ws X).length<=8192) (lY:(ws Y).length<=8192)
 (jN:Hid (∀u,An w u->As 108 #[.agg #[.bool n,.slice a l c,.int .i64 e]] u λr w'=>(∃v,r=.returned (.tuple #[.agg #[.bool n1,v,.int .i64 e1],.bool false])/\Nt u.heap.size w' v X)/\An u w'))
 (kr:Hid (∀u,An w u->As 108 #[.agg #[.bool m,.slice b k d,.int .i64 f]] u λr w'=>(∃v,r=.returned (.tuple #[.agg #[.bool m1,v,.int .i64 f1],.bool false])/\Nt u.heap.size w' v Y)/\An u w')):At 68 #[.agg #[.bool n,.slice a l c,.int .i64 e],.agg #[.bool m,.slice b k d,.int .i64 f]] w (.tuple #[.agg zD3,.int .i64 2]):=by
 obtain⟨W1,hW1⟩:=ah (((w.alloc (.cells #[.bool n,.slice a l c,.int .i64 e] 79)).alloc (.cells #[.bool m,.slice b k d,.int .i64 f] 79)).alloc (.cells zD3 79));obtain⟨hB,hz1,DA,DB,DR⟩:=aZ w n m (.slice a l c) (.slice b k d) e f W1 hW1;have H1:=hid (jN.o W1 hB);have SB:=(gy hB hz1 DA DB DR);clear hB hz1 DA DB DR jN;go_enter Tryz.func68,Tryz.ntmps68;go_wp2_with fail;rw[<-hW1];clear hW1;refine H1.o.mono ?_;rintro r u1 ⟨⟨v,rfl,hN⟩,hb⟩;obtain⟨a1,c1,rfl,_⟩:=hN.arg ae;obtain⟨hB,hz1,DA,DB,DR⟩:=SB.o;obtain⟨U1,aX⟩:=ah (u1.alloc (.cells #[.bool n1,.slice a1 (ws X).length c1,.int .i64 e1] 79));have hA:An u1 U1:=by rw[aX];exact af _ _
 have hs1:w.heap.size+3<=u1.heap.size:=by have:=hb.size;omega
 have hs2:u1.heap.size<U1.heap.size:=by rw[aX];simp
 have FB:=(DB.below hb).below hA;have FR:=(DR.below hb).below hA;have DX:Dk U1 u1.heap.size n1 (.slice a1 (ws X).length c1) e1:=by rw[aX];exact Dk.new _ _ _ _
 have NX:Nt (w.heap.size+3) U1 (.slice a1 (ws X).length c1) X:=(hN.mono ae).below hA;have BU:An w U1:=(hB.trans (hb.mono ae)).trans (hA.mono ae);have H2:=hid (kr.o U1 BU);obtain⟨y0,y1,y2,dY,dZ,eB⟩:=FB.facts;have S1:=(iN BU FR DX NX);clear hN hb H1 hB hz1 hA DA DB DR FB FR DX NX BU SB kr
 go_upto_region 2 with fail
 rw[<-aX];clear aX;go_wp2_with fail;clear y0 y1 y2 dY dZ eB;refine H2.o.mono ?_;rintro r u2 ⟨⟨v,rfl,hM⟩,hb⟩;obtain⟨a2,c2,rfl,_⟩:=hM.arg ae;obtain⟨BU,FR,DX,NX⟩:=S1.o;obtain⟨U2,dK⟩:=ah (u2.alloc (.cells #[.bool m1,.slice a2 (ws Y).length c2,.int .i64 f1] 79));have hA:An u2 U2:=by rw[dK];exact af _ _
 have hs3:U1.heap.size<=u2.heap.size:=hb.size;have hs4:u2.heap.size<U2.heap.size:=by rw[dK];simp
 have GR:=(FR.below hb).below hA;have GX:=(DX.below hb).below hA;have GY:Dk U2 u2.heap.size m1 (.slice a2 (ws Y).length c2) f1:=by rw[dK];exact Dk.new _ _ _ _
 have MX:=(NX.below hb).below hA;have MY:Nt (w.heap.size+3) U2 (.slice a2 (ws Y).length c2) Y:=(hM.mono ae).below hA;have BV:An w U2:=(BU.trans (hb.mono ae)).trans (hA.mono ae);have S2:=(kz BV GR GX GY MX MY);clear hM hb H2 hA FR DX NX BU GR GX GY MX MY BV S1
 go_upto_region 3 with fail
 rw[<-dK];clear dK;obtain⟨r0,r1,r2,gK,gL,gM⟩:=S2.o.2.1.facts;obtain⟨x0,x1,x2,fA,fB,fC⟩:=S2.o.r2.1.facts;obtain⟨y0,y1,y2,dY,dZ,eB⟩:=S2.o.r3.1.facts;go_wp2;refine aH (uh _ (w.heap.size+1+1) false (.slice none 0 0) 0 2 _ rfl rfl (S2.o.2.1.set _ _ _)) rfl ⟨rfl,?_⟩;refine Fin.aF (m:=w.heap.size+3) (v:=.slice a1 (ws X).length c1) (X:=X) ?_;have FE:Fin w.heap.size (w.heap.size+3) w U2 (.slice a1 (ws X).length c1) X:=⟨S2.o.r4.1,S2.o.1,ae⟩
 repeat (with_reducible first | exact FE | refine Fin.drew ?_ | refine Fin.alloc ?_ _ | refine Fin.set ?_ _ _ _ ae ae)
theorem WU {w:World}{a b:Option Addr}{l c k d:Nat}(n m:Bool) (e f:Int) (n1 m1:Bool) (X Y:Nat) (e1 f1:Int) (lX:(ws X).length<=8192) (lY:(ws Y).length<=8192)
 (jN:Hid (∀u,An w u->As 108 #[.agg #[.bool n,.slice a l c,.int .i64 e]] u λr w'=>(∃v,r=.returned (.tuple #[.agg #[.bool n1,v,.int .i64 e1],.bool false])/\Nt u.heap.size w' v X)/\An u w'))
 (kr:Hid (∀u,An w u->As 108 #[.agg #[.bool m,.slice b k d,.int .i64 f]] u λr w'=>(∃v,r=.returned (.tuple #[.agg #[.bool m1,v,.int .i64 f1],.bool true])/\Nt u.heap.size w' v Y)/\An u w')):At 68 #[.agg #[.bool n,.slice a l c,.int .i64 e],.agg #[.bool m,.slice b k d,.int .i64 f]] w (.tuple #[.agg zD3,.int .i64 2]):=by
 obtain⟨W1,hW1⟩:=ah (((w.alloc (.cells #[.bool n,.slice a l c,.int .i64 e] 79)).alloc (.cells #[.bool m,.slice b k d,.int .i64 f] 79)).alloc (.cells zD3 79));obtain⟨hB,hz1,DA,DB,DR⟩:=aZ w n m (.slice a l c) (.slice b k d) e f W1 hW1;have H1:=hid (jN.o W1 hB);have SB:=(gy hB hz1 DA DB DR);clear hB hz1 DA DB DR jN;go_enter Tryz.func68,Tryz.ntmps68;go_wp2_with fail;rw[<-hW1];clear hW1;refine H1.o.mono ?_;rintro r u1 ⟨⟨v,rfl,hN⟩,hb⟩;obtain⟨a1,c1,rfl,_⟩:=hN.arg ae;obtain⟨hB,hz1,DA,DB,DR⟩:=SB.o;obtain⟨U1,aX⟩:=ah (u1.alloc (.cells #[.bool n1,.slice a1 (ws X).length c1,.int .i64 e1] 79));have hA:An u1 U1:=by rw[aX];exact af _ _
 have hs1:w.heap.size+3<=u1.heap.size:=by have:=hb.size;omega
 have hs2:u1.heap.size<U1.heap.size:=by rw[aX];simp
 have FB:=(DB.below hb).below hA;have FR:=(DR.below hb).below hA;have DX:Dk U1 u1.heap.size n1 (.slice a1 (ws X).length c1) e1:=by rw[aX];exact Dk.new _ _ _ _
 have NX:Nt (w.heap.size+3) U1 (.slice a1 (ws X).length c1) X:=(hN.mono ae).below hA;have BU:An w U1:=(hB.trans (hb.mono ae)).trans (hA.mono ae);have H2:=hid (kr.o U1 BU);obtain⟨y0,y1,y2,dY,dZ,eB⟩:=FB.facts;have S1:=(iN BU FR DX NX);clear hN hb H1 hB hz1 hA DA DB DR FB FR DX NX BU SB kr
 go_upto_region 2 with fail
 rw[<-aX];clear aX;go_wp2_with fail;clear y0 y1 y2 dY dZ eB;refine H2.o.mono ?_;rintro r u2 ⟨⟨v,rfl,hM⟩,hb⟩;obtain⟨a2,c2,rfl,_⟩:=hM.arg ae;obtain⟨BU,FR,DX,NX⟩:=S1.o;obtain⟨U2,dK⟩:=ah (u2.alloc (.cells #[.bool m1,.slice a2 (ws Y).length c2,.int .i64 f1] 79));have hA:An u2 U2:=by rw[dK];exact af _ _
 have hs3:U1.heap.size<=u2.heap.size:=hb.size;have hs4:u2.heap.size<U2.heap.size:=by rw[dK];simp
 have GR:=(FR.below hb).below hA;have GX:=(DX.below hb).below hA;have GY:Dk U2 u2.heap.size m1 (.slice a2 (ws Y).length c2) f1:=by rw[dK];exact Dk.new _ _ _ _
 have MX:=(NX.below hb).below hA;have MY:Nt (w.heap.size+3) U2 (.slice a2 (ws Y).length c2) Y:=(hM.mono ae).below hA;have BV:An w U2:=(BU.trans (hb.mono ae)).trans (hA.mono ae);have S2:=(kz BV GR GX GY MX MY);clear hM hb H2 hA FR DX NX BU GR GX GY MX MY BV S1
 go_upto_region 3 with fail
 rw[<-dK];clear dK;obtain⟨r0,r1,r2,gK,gL,gM⟩:=S2.o.2.1.facts;obtain⟨x0,x1,x2,fA,fB,fC⟩:=S2.o.r2.1.facts;obtain⟨y0,y1,y2,dY,dZ,eB⟩:=S2.o.r3.1.facts;go_wp2;refine aH (uh _ (w.heap.size+1+1) false (.slice none 0 0) 0 2 _ rfl rfl (S2.o.2.1.set _ _ _)) rfl ⟨rfl,?_⟩;refine Fin.aF (m:=w.heap.size+3) (v:=.slice a1 (ws X).length c1) (X:=X) ?_;have FE:Fin w.heap.size (w.heap.size+3) w U2 (.slice a1 (ws X).length c1) X:=⟨S2.o.r4.1,S2.o.1,ae⟩
 repeat (with_reducible first | exact FE | refine Fin.drew ?_ | refine Fin.alloc ?_ _ | refine Fin.set ?_ _ _ _ ae ae)
theorem WV {w:World}{a b:Option Addr}{l c k d:Nat}(n m:Bool) (e f:Int) (n1 m1:Bool) (X Y:Nat) (e1 f1:Int) (lX:(ws X).length<=8192) (lY:(ws Y).length<=8192)
 (jN:Hid (∀u,An w u->As 108 #[.agg #[.bool n,.slice a l c,.int .i64 e]] u λr w'=>(∃v,r=.returned (.tuple #[.agg #[.bool n1,v,.int .i64 e1],.bool true])/\Nt u.heap.size w' v X)/\An u w'))
 (kr:Hid (∀u,An w u->As 108 #[.agg #[.bool m,.slice b k d,.int .i64 f]] u λr w'=>(∃v,r=.returned (.tuple #[.agg #[.bool m1,v,.int .i64 f1],.bool false])/\Nt u.heap.size w' v Y)/\An u w')):At 68 #[.agg #[.bool n,.slice a l c,.int .i64 e],.agg #[.bool m,.slice b k d,.int .i64 f]] w (.tuple #[.agg zD3,.int .i64 2]):=by
 obtain⟨W1,hW1⟩:=ah (((w.alloc (.cells #[.bool n,.slice a l c,.int .i64 e] 79)).alloc (.cells #[.bool m,.slice b k d,.int .i64 f] 79)).alloc (.cells zD3 79));obtain⟨hB,hz1,DA,DB,DR⟩:=aZ w n m (.slice a l c) (.slice b k d) e f W1 hW1;have H1:=hid (jN.o W1 hB);have SB:=(gy hB hz1 DA DB DR);clear hB hz1 DA DB DR jN;go_enter Tryz.func68,Tryz.ntmps68;go_wp2_with fail;rw[<-hW1];clear hW1;refine H1.o.mono ?_;rintro r u1 ⟨⟨v,rfl,hN⟩,hb⟩;obtain⟨a1,c1,rfl,_⟩:=hN.arg ae;obtain⟨hB,hz1,DA,DB,DR⟩:=SB.o;obtain⟨U1,aX⟩:=ah (u1.alloc (.cells #[.bool n1,.slice a1 (ws X).length c1,.int .i64 e1] 79));have hA:An u1 U1:=by rw[aX];exact af _ _
 have hs1:w.heap.size+3<=u1.heap.size:=by have:=hb.size;omega
 have hs2:u1.heap.size<U1.heap.size:=by rw[aX];simp
 have FB:=(DB.below hb).below hA;have FR:=(DR.below hb).below hA;have DX:Dk U1 u1.heap.size n1 (.slice a1 (ws X).length c1) e1:=by rw[aX];exact Dk.new _ _ _ _
 have NX:Nt (w.heap.size+3) U1 (.slice a1 (ws X).length c1) X:=(hN.mono ae).below hA;have BU:An w U1:=(hB.trans (hb.mono ae)).trans (hA.mono ae);have H2:=hid (kr.o U1 BU);obtain⟨y0,y1,y2,dY,dZ,eB⟩:=FB.facts;have S1:=(iN BU FR DX NX);clear hN hb H1 hB hz1 hA DA DB DR FB FR DX NX BU SB kr
 go_upto_region 2 with fail
 rw[<-aX];clear aX;go_wp2_with fail;clear y0 y1 y2 dY dZ eB;refine H2.o.mono ?_;rintro r u2 ⟨⟨v,rfl,hM⟩,hb⟩;obtain⟨a2,c2,rfl,_⟩:=hM.arg ae;obtain⟨BU,FR,DX,NX⟩:=S1.o;obtain⟨U2,dK⟩:=ah (u2.alloc (.cells #[.bool m1,.slice a2 (ws Y).length c2,.int .i64 f1] 79));have hA:An u2 U2:=by rw[dK];exact af _ _
 have hs3:U1.heap.size<=u2.heap.size:=hb.size;have hs4:u2.heap.size<U2.heap.size:=by rw[dK];simp
 have GR:=(FR.below hb).below hA;have GX:=(DX.below hb).below hA;have GY:Dk U2 u2.heap.size m1 (.slice a2 (ws Y).length c2) f1:=by rw[dK];exact Dk.new _ _ _ _
 have MX:=(NX.below hb).below hA;have MY:Nt (w.heap.size+3) U2 (.slice a2 (ws Y).length c2) Y:=(hM.mono ae).below hA;have BV:An w U2:=(BU.trans (hb.mono ae)).trans (hA.mono ae);have S2:=(kz BV GR GX GY MX MY);clear hM hb H2 hA FR DX NX BU GR GX GY MX MY BV S1
 go_upto_region 3 with fail
 rw[<-dK];clear dK;obtain⟨r0,r1,r2,gK,gL,gM⟩:=S2.o.2.1.facts;obtain⟨x0,x1,x2,fA,fB,fC⟩:=S2.o.r2.1.facts;obtain⟨y0,y1,y2,dY,dZ,eB⟩:=S2.o.r3.1.facts;go_wp2;refine aH (uh _ (w.heap.size+1+1) false (.slice none 0 0) 0 2 _ rfl rfl (S2.o.2.1.set _ _ _)) rfl ⟨rfl,?_⟩;refine Fin.aF (m:=w.heap.size+3) (v:=.slice a1 (ws X).length c1) (X:=X) ?_;have FE:Fin w.heap.size (w.heap.size+3) w U2 (.slice a1 (ws X).length c1) X:=⟨S2.o.r4.1,S2.o.1,ae⟩
 repeat (with_reducible first | exact FE | refine Fin.drew ?_ | refine Fin.alloc ?_ _ | refine Fin.set ?_ _ _ _ ae ae)
theorem WW {w:World}{a b:Option Addr}{l c k d:Nat}(n m:Bool) (e f:Int) (n1 m1:Bool) (X Y:Nat) (e1 f1:Int) (lX:(ws X).length<=8192) (lY:(ws Y).length<=8192) (Ot:-1048576<=e1) (Ou:e1<=1048576) (Ov:-1048576<=f1) (Ow:f1<=1048576) (L:Nat) (lL:(ws L).length<=1000000) (dn:Bool) (V:Nat) (de er:Int) (lV:(ws V).length<=8192)
 (jN:Hid (∀u,An w u->As 108 #[.agg #[.bool n,.slice a l c,.int .i64 e]] u λr w'=>(∃v,r=.returned (.tuple #[.agg #[.bool n1,v,.int .i64 e1],.bool true])/\Nt u.heap.size w' v X)/\An u w'))
 (kr:Hid (∀u,An w u->As 108 #[.agg #[.bool m,.slice b k d,.int .i64 f]] u λr w'=>(∃v,r=.returned (.tuple #[.agg #[.bool m1,v,.int .i64 f1],.bool true])/\Nt u.heap.size w' v Y)/\An u w'))
 (HT:Hid (∀(u:World) (p q:Option Addr) (s t:Nat),An w u->Arg u p (ws X).length s (ws X)->Arg u q (ws Y).length t (ws Y)->As 110 #[.slice p (ws X).length s,.slice q (ws Y).length t] u λr w'=>∃v,r=.returned v/\Nt u.heap.size w' v L/\An u w'))
 (HL:Hid (∀(u:World) (p:Option Addr) (s:Nat),An w u->Arg u p (ws L).length s (ws L)->As 109 #[.bool (!(n1==m1)),.slice p (ws L).length s,.int .i64 (IntKind.i64.wrap (e1+f1))] u λr w'=>(∃v,r=.returned (.tuple #[.agg #[.bool dn,v,.int .i64 de],.int .i64 er])/\Nt u.heap.size w' v V)/\An u w')):As 68 #[.agg #[.bool n,.slice a l c,.int .i64 e],.agg #[.bool m,.slice b k d,.int .i64 f]] w λr w'=>(∃v,r=.returned (.tuple #[.agg #[.bool dn,v,.int .i64 de],.int .i64 er])/\Nt w.heap.size w' v V)/\An w w':=by
 obtain⟨W1,hW1⟩:=ah (((w.alloc (.cells #[.bool n,.slice a l c,.int .i64 e] 79)).alloc (.cells #[.bool m,.slice b k d,.int .i64 f] 79)).alloc (.cells zD3 79));obtain⟨hB,hz1,DA,DB,DR⟩:=aZ w n m (.slice a l c) (.slice b k d) e f W1 hW1;have H1:=hid (jN.o W1 hB);have SB:=(gy hB hz1 DA DB DR);clear hB hz1 DA DB DR jN;go_enter Tryz.func68,Tryz.ntmps68;go_wp2_with fail;rw[<-hW1];clear hW1;refine H1.o.mono ?_;rintro r u1 ⟨⟨v,rfl,hN⟩,hb⟩;obtain⟨a1,c1,rfl,_⟩:=hN.arg ae;obtain⟨hB,hz1,DA,DB,DR⟩:=SB.o;obtain⟨U1,aX⟩:=ah (u1.alloc (.cells #[.bool n1,.slice a1 (ws X).length c1,.int .i64 e1] 79));have hA:An u1 U1:=by rw[aX];exact af _ _
 have hs1:w.heap.size+3<=u1.heap.size:=by have:=hb.size;omega
 have hs2:u1.heap.size<U1.heap.size:=by rw[aX];simp
 have FB:=(DB.below hb).below hA;have FR:=(DR.below hb).below hA;have DX:Dk U1 u1.heap.size n1 (.slice a1 (ws X).length c1) e1:=by rw[aX];exact Dk.new _ _ _ _
 have NX:Nt (w.heap.size+3) U1 (.slice a1 (ws X).length c1) X:=(hN.mono ae).below hA;have BU:An w U1:=(hB.trans (hb.mono ae)).trans (hA.mono ae);have H2:=hid (kr.o U1 BU);obtain⟨y0,y1,y2,dY,dZ,eB⟩:=FB.facts;have S1:=(iN BU FR DX NX);clear hN hb H1 hB hz1 hA DA DB DR FB FR DX NX BU SB kr
 go_upto_region 2 with fail
 rw[<-aX];clear aX;go_wp2_with fail;clear y0 y1 y2 dY dZ eB;refine H2.o.mono ?_;rintro r u2 ⟨⟨v,rfl,hM⟩,hb⟩;obtain⟨a2,c2,rfl,_⟩:=hM.arg ae;obtain⟨BU,FR,DX,NX⟩:=S1.o;obtain⟨U2,dK⟩:=ah (u2.alloc (.cells #[.bool m1,.slice a2 (ws Y).length c2,.int .i64 f1] 79));have hA:An u2 U2:=by rw[dK];exact af _ _
 have hs3:U1.heap.size<=u2.heap.size:=hb.size;have hs4:u2.heap.size<U2.heap.size:=by rw[dK];simp
 have GR:=(FR.below hb).below hA;have GX:=(DX.below hb).below hA;have GY:Dk U2 u2.heap.size m1 (.slice a2 (ws Y).length c2) f1:=by rw[dK];exact Dk.new _ _ _ _
 have MX:=(NX.below hb).below hA;have MY:Nt (w.heap.size+3) U2 (.slice a2 (ws Y).length c2) Y:=(hM.mono ae).below hA;have BV:An w U2:=(BU.trans (hb.mono ae)).trans (hA.mono ae);have S2:=(kz BV GR GX GY MX MY);clear hM hb H2 hA FR DX NX BU GR GX GY MX MY BV S1
 go_upto_region 5 with fail
 rw[<-dK];clear dK;obtain⟨r0,r1,r2,gK,gL,gM⟩:=S2.o.2.1.facts;obtain⟨x0,x1,x2,fA,fB,fC⟩:=S2.o.r2.1.facts;obtain⟨y0,y1,y2,dY,dZ,eB⟩:=S2.o.r3.1.facts;have ne1:u1.heap.size≠w.heap.size+1+1:=ae
 have ne2:u2.heap.size≠w.heap.size+1+1:=ae
 have ne3:w.heap.size+1+1≠u1.heap.size:=ae
 have ne4:w.heap.size+1+1≠u2.heap.size:=ae
 have T1:=hid (HT.o U2 a1 a2 c1 c2 S2.o.1 (S2.o.r4.1.bS ae).2 (S2.o.r5.bS ae).2);have T2:=hid (HT.o U2.drew a1 a2 c1 c2 (iG S2.o.1) (Arg.drew' (S2.o.r4.1.bS ae).2) (Arg.drew' (S2.o.r5.bS ae).2))
 go_region_held3 (λw'=>w'.cell? ⟨u1.heap.size,0,none⟩=some (.bool n1)/\w'.cell? ⟨u1.heap.size,1,none⟩=some (.slice a1 (ws X).length c1)/\w'.cell? ⟨u1.heap.size,2,none⟩=some (.int .i64 e1)/\w'.cell? ⟨u2.heap.size,0,none⟩=some (.bool m1)/\w'.cell? ⟨u2.heap.size,1,none⟩=some (.slice a2 (ws Y).length c2)/\w'.cell? ⟨u2.heap.size,2,none⟩=some (.int .i64 f1)) (go_keep) (first
  | (go_at_call 110
     first | with_reducible refine T1.o.mono ?_ | with_reducible refine T2.o.mono ?_
     rintro r u3 ⟨v,rfl,hN,hb⟩;obtain⟨a3,c3,rfl,_⟩:=hN.arg ae;have hb3:An U2 u3:=by first | exact hb | exact((aD _ U2).drew).trans (hb.mono (aA _))
     have HL3:=hid (HL.o u3 a3 c3 (S2.o.1.trans (hb3.mono ae)) (hN.bS ae).2);have KR:=S2.o.2.1.below hb3;have KX:=S2.o.r2.1.below hb3;have KY:=S2.o.r3.1.below hb3;obtain⟨p0,p1,p2,Sj,Sk,Sl⟩:=KR.facts;obtain⟨q0,q1,q2,Gc,Gd,Gf⟩:=KX.facts;obtain⟨s0,s1,s2,Bt,Bu,Bw⟩:=KY.facts;have hs9:U2.heap.size<=u3.heap.size:=hb3.size;have S9:=(iN (S2.o.1.trans (hb3.mono ae)) KR KX KY)
     clear hN hb hb3 KR KX KY)
  | (go_at_call 109
     with_reducible refine HL3.o.mono ?_
     rintro r u4 ⟨⟨v,rfl,hN⟩,hb⟩;obtain⟨a4,c4,rfl,_⟩:=hN.arg ae;have LR:=S9.o.2.1.below hb;obtain⟨t0,t1,t2,tf0,tf1,tf2⟩:=LR.facts;obtain⟨i0,i1,i2,if0,if1,if2⟩:=(S9.o.r2.1.below hb).facts;obtain⟨j0,j1,j2,jf0,jf1,jf2⟩:=(S9.o.r3.below hb).facts;have FV:=ak (show Fin w.heap.size (w.heap.size+3) w u4 (.slice a4 (ws V).length c4) V from⟨hN.mono ae,S9.o.1.trans (hb.mono ae),by have:=hb.size;omega⟩);have Qx:=ak LR
     clear hN hb LR))
 all_goals (
  go_wp2;refine aH (uh _ (w.heap.size+1+1) dn (.slice a4 (ws V).length c4) de er _ rfl rfl (Qx.o.set _ _ _)) rfl ?_;refine Fin.j4 (m:=w.heap.size+3) ?_ ae
  repeat (with_reducible first | exact FV.o | refine Fin.drew ?_ | refine Fin.alloc ?_ _ | refine Fin.set ?_ _ _ _ ae ae))
theorem OZ{w:World}{a b:Option Addr}{l c k d:Nat}{xs ys:List Nat}(h1:Arg w a l c xs)(h2:Arg w b k d ys)(hl:l<=2000000)(hk:k<=2000000)(n m:Bool)(e f:Int)(he0:-9223372036854775808<=e)(he1:e<=9223372036854775807)(hf0:-9223372036854775808<=f)(hf1:f<=9223372036854775807) :
 As 68 #[.agg #[.bool n,.slice a l c,.int .i64 e],.agg #[.bool m,.slice b k d,.int .i64 f]] w λr w'=>dm w.heap.size w' r (xm (mkS n (val xs) e) (mkS m (val ys) f))/\An w w':=by
 have zero:∀{r:Ending} {w':World},(r=.returned (.tuple #[.agg zD3,.int .i64 2])/\An w w')->dm w.heap.size w' r none/\An w w':=λ⟨h1,h2⟩=>⟨⟨_,h1,Nt.nil _ _⟩,h2⟩;have M1:=hid λu (hu:An w u)=>nE (h1.below hu) hl n e he0 he1;have M2:=hid λu (hu:An w u)=>nE (h2.below hu) hk m f hf0 hf1;have z0:(ws 0).length<=8192:=by rw[cB];exact lD _
 cases hx:mkS n (val xs) e with
 | none =>
   cases hy:mkS m (val ys) f with
   | none =>
     rw[hx] at M1;rw[hy] at M2;exact(WT n m e f false false 0 0 0 0 z0 z0 M1 M2).mono λr w' h=>zero h
   | some y =>
     obtain⟨m1,Y,f1⟩:=y;rw[hx] at M1;rw[hy] at M2;exact(WU n m e f false m1 0 Y 0 f1 z0 (fw (cO hy)) M1 M2).mono λr w' h=>zero h
 | some x =>
   obtain⟨n1,X,e1⟩:=x
   cases hy:mkS m (val ys) f with
   | none =>
     rw[hx] at M1;rw[hy] at M2;exact(WV n m e f n1 false X 0 e1 0 (fw (cO hx)) z0 M1 M2).mono λr w' h=>zero h
   | some y =>
     obtain⟨m1,Y,f1⟩:=y;rw[hx] at M1;rw[hy] at M2;have FX:=cO hx;have FY:=cO hy;have lX:=fw FX;have lY:=fw FY;have:=FX.up;have:=FX.down;have:=FY.up;have:=FY.down;show Calls _ _ _ _ λr w'=>dm w.heap.size w' r (mkS (n1 != m1) (X*Y) (e1+f1))/\_
     have lL:(ws (X*Y)).length<=16384:=by
      have h1:=gZ X;have h2:=gZ Y
      have h3:X*Y<pw ((ws X).length+(ws Y).length):=by
       rw[uM];exact x8 h1 h2
      have:=(aS _ _).2 h3;omega
     obtain⟨L,Y8⟩:∃L,X*Y=L:=⟨_,rfl⟩;rw[Y8] at lL |-
     exact WW n m e f n1 m1 X Y e1 f1 lX lY ae ae ae ae L ae _ _ _ _ (aR (n1 != m1) L (e1+f1)) M1 M2
      (hid λu p q s t hu hA hB=>lN hA hB ae (by rw[aB,aB];exact Y8))
      (hid λu p s hu hA=>by have:=qJ hA ae (n1 != m1) (e1+f1) ae ae;rw[aB] at this;rw[wrap64 (e1+f1) ae ae];exact this)
theorem iW(W:World)(g:Nat)(n:Bool)(v:Value)(e k:Int)(tmps:Array Value)(ht:tmps[4]?.getD undef=.pointer (some ⟨g,0,none⟩))(hk:tmps[5]?.getD undef=.int .i64 k)(D:Dk W g n v e) :
 (results Tryz.f70 tmps).run Tryz.prog W=.ok (.tuple #[.agg #[.bool n,v,.int .i64 e],.int .i64 k]) W:=by
 obtain⟨x0,x1,x2,fA,fB,fC⟩:=D.facts;simp[results,Tryz.results70,ht,hk,go_sem,x0,x1,x2]
theorem WX {w:World}{a b:Option Addr}{l c k d:Nat}(n m:Bool) (e f:Int) (n1 m1:Bool) (X Y:Nat) (e1 f1:Int) (lX:(ws X).length<=8192) (lY:(ws Y).length<=8192)
 (jN:Hid (∀u,An w u->As 108 #[.agg #[.bool n,.slice a l c,.int .i64 e]] u λr w'=>(∃v,r=.returned (.tuple #[.agg #[.bool n1,v,.int .i64 e1],.bool false])/\Nt u.heap.size w' v X)/\An u w'))
 (kr:Hid (∀u,An w u->As 108 #[.agg #[.bool m,.slice b k d,.int .i64 f]] u λr w'=>(∃v,r=.returned (.tuple #[.agg #[.bool m1,v,.int .i64 f1],.bool false])/\Nt u.heap.size w' v Y)/\An u w')):At 70 #[.agg #[.bool n,.slice a l c,.int .i64 e],.agg #[.bool m,.slice b k d,.int .i64 f]] w (.tuple #[.agg zD3,.int .i64 2]):=by
 obtain⟨W1,hW1⟩:=ah (((w.alloc (.cells #[.bool n,.slice a l c,.int .i64 e] 79)).alloc (.cells #[.bool m,.slice b k d,.int .i64 f] 79)).alloc (.cells zD3 79));obtain⟨hB,hz1,DA,DB,DR⟩:=aZ w n m (.slice a l c) (.slice b k d) e f W1 hW1;have H1:=hid (jN.o W1 hB);have SB:=(gy hB hz1 DA DB DR);clear hB hz1 DA DB DR jN;go_enter Tryz.func70,Tryz.ntmps70;go_wp2_with fail;rw[<-hW1];clear hW1;refine H1.o.mono ?_;rintro r u1 ⟨⟨v,rfl,hN⟩,hb⟩;obtain⟨a1,c1,rfl,_⟩:=hN.arg ae;obtain⟨hB,hz1,DA,DB,DR⟩:=SB.o;obtain⟨U1,aX⟩:=ah (u1.alloc (.cells #[.bool n1,.slice a1 (ws X).length c1,.int .i64 e1] 79));have hA:An u1 U1:=by rw[aX];exact af _ _
 have hs1:w.heap.size+3<=u1.heap.size:=by have:=hb.size;omega
 have hs2:u1.heap.size<U1.heap.size:=by rw[aX];simp
 have FB:=(DB.below hb).below hA;have FR:=(DR.below hb).below hA;have DX:Dk U1 u1.heap.size n1 (.slice a1 (ws X).length c1) e1:=by rw[aX];exact Dk.new _ _ _ _
 have NX:Nt (w.heap.size+3) U1 (.slice a1 (ws X).length c1) X:=(hN.mono ae).below hA;have BU:An w U1:=(hB.trans (hb.mono ae)).trans (hA.mono ae);have H2:=hid (kr.o U1 BU);obtain⟨y0,y1,y2,dY,dZ,eB⟩:=FB.facts;have S1:=(iN BU FR DX NX);clear hN hb H1 hB hz1 hA DA DB DR FB FR DX NX BU SB kr
 go_upto_region 2 with fail
 rw[<-aX];clear aX;go_wp2_with fail;clear y0 y1 y2 dY dZ eB;refine H2.o.mono ?_;rintro r u2 ⟨⟨v,rfl,hM⟩,hb⟩;obtain⟨a2,c2,rfl,_⟩:=hM.arg ae;obtain⟨BU,FR,DX,NX⟩:=S1.o;obtain⟨U2,dK⟩:=ah (u2.alloc (.cells #[.bool m1,.slice a2 (ws Y).length c2,.int .i64 f1] 79));have hA:An u2 U2:=by rw[dK];exact af _ _
 have hs3:U1.heap.size<=u2.heap.size:=hb.size;have hs4:u2.heap.size<U2.heap.size:=by rw[dK];simp
 have GR:=(FR.below hb).below hA;have GX:=(DX.below hb).below hA;have GY:Dk U2 u2.heap.size m1 (.slice a2 (ws Y).length c2) f1:=by rw[dK];exact Dk.new _ _ _ _
 have MX:=(NX.below hb).below hA;have MY:Nt (w.heap.size+3) U2 (.slice a2 (ws Y).length c2) Y:=(hM.mono ae).below hA;have BV:An w U2:=(BU.trans (hb.mono ae)).trans (hA.mono ae);have S2:=(kz BV GR GX GY MX MY);clear hM hb H2 hA FR DX NX BU GR GX GY MX MY BV S1
 go_upto_region 3 with fail
 rw[<-dK];clear dK;obtain⟨r0,r1,r2,gK,gL,gM⟩:=S2.o.2.1.facts;obtain⟨x0,x1,x2,fA,fB,fC⟩:=S2.o.r2.1.facts;obtain⟨y0,y1,y2,dY,dZ,eB⟩:=S2.o.r3.1.facts;go_wp2;refine aH (iW _ (w.heap.size+1+1) false (.slice none 0 0) 0 2 _ rfl rfl (S2.o.2.1.set _ _ _)) rfl ⟨rfl,?_⟩;refine Fin.aF (m:=w.heap.size+3) (v:=.slice a1 (ws X).length c1) (X:=X) ?_;have FE:Fin w.heap.size (w.heap.size+3) w U2 (.slice a1 (ws X).length c1) X:=⟨S2.o.r4.1,S2.o.1,ae⟩
 repeat (with_reducible first | exact FE | refine Fin.drew ?_ | refine Fin.alloc ?_ _ | refine Fin.set ?_ _ _ _ ae ae)
theorem WY {w:World}{a b:Option Addr}{l c k d:Nat}(n m:Bool) (e f:Int) (n1 m1:Bool) (X Y:Nat) (e1 f1:Int) (lX:(ws X).length<=8192) (lY:(ws Y).length<=8192)
 (jN:Hid (∀u,An w u->As 108 #[.agg #[.bool n,.slice a l c,.int .i64 e]] u λr w'=>(∃v,r=.returned (.tuple #[.agg #[.bool n1,v,.int .i64 e1],.bool false])/\Nt u.heap.size w' v X)/\An u w'))
 (kr:Hid (∀u,An w u->As 108 #[.agg #[.bool m,.slice b k d,.int .i64 f]] u λr w'=>(∃v,r=.returned (.tuple #[.agg #[.bool m1,v,.int .i64 f1],.bool true])/\Nt u.heap.size w' v Y)/\An u w')):At 70 #[.agg #[.bool n,.slice a l c,.int .i64 e],.agg #[.bool m,.slice b k d,.int .i64 f]] w (.tuple #[.agg zD3,.int .i64 2]):=by
 obtain⟨W1,hW1⟩:=ah (((w.alloc (.cells #[.bool n,.slice a l c,.int .i64 e] 79)).alloc (.cells #[.bool m,.slice b k d,.int .i64 f] 79)).alloc (.cells zD3 79));obtain⟨hB,hz1,DA,DB,DR⟩:=aZ w n m (.slice a l c) (.slice b k d) e f W1 hW1;have H1:=hid (jN.o W1 hB);have SB:=(gy hB hz1 DA DB DR);clear hB hz1 DA DB DR jN;go_enter Tryz.func70,Tryz.ntmps70;go_wp2_with fail;rw[<-hW1];clear hW1;refine H1.o.mono ?_;rintro r u1 ⟨⟨v,rfl,hN⟩,hb⟩;obtain⟨a1,c1,rfl,_⟩:=hN.arg ae;obtain⟨hB,hz1,DA,DB,DR⟩:=SB.o;obtain⟨U1,aX⟩:=ah (u1.alloc (.cells #[.bool n1,.slice a1 (ws X).length c1,.int .i64 e1] 79));have hA:An u1 U1:=by rw[aX];exact af _ _
 have hs1:w.heap.size+3<=u1.heap.size:=by have:=hb.size;omega
 have hs2:u1.heap.size<U1.heap.size:=by rw[aX];simp
 have FB:=(DB.below hb).below hA;have FR:=(DR.below hb).below hA;have DX:Dk U1 u1.heap.size n1 (.slice a1 (ws X).length c1) e1:=by rw[aX];exact Dk.new _ _ _ _
 have NX:Nt (w.heap.size+3) U1 (.slice a1 (ws X).length c1) X:=(hN.mono ae).below hA;have BU:An w U1:=(hB.trans (hb.mono ae)).trans (hA.mono ae);have H2:=hid (kr.o U1 BU);obtain⟨y0,y1,y2,dY,dZ,eB⟩:=FB.facts;have S1:=(iN BU FR DX NX);clear hN hb H1 hB hz1 hA DA DB DR FB FR DX NX BU SB kr
 go_upto_region 2 with fail
 rw[<-aX];clear aX;go_wp2_with fail;clear y0 y1 y2 dY dZ eB;refine H2.o.mono ?_;rintro r u2 ⟨⟨v,rfl,hM⟩,hb⟩;obtain⟨a2,c2,rfl,_⟩:=hM.arg ae;obtain⟨BU,FR,DX,NX⟩:=S1.o;obtain⟨U2,dK⟩:=ah (u2.alloc (.cells #[.bool m1,.slice a2 (ws Y).length c2,.int .i64 f1] 79));have hA:An u2 U2:=by rw[dK];exact af _ _
 have hs3:U1.heap.size<=u2.heap.size:=hb.size;have hs4:u2.heap.size<U2.heap.size:=by rw[dK];simp
 have GR:=(FR.below hb).below hA;have GX:=(DX.below hb).below hA;have GY:Dk U2 u2.heap.size m1 (.slice a2 (ws Y).length c2) f1:=by rw[dK];exact Dk.new _ _ _ _
 have MX:=(NX.below hb).below hA;have MY:Nt (w.heap.size+3) U2 (.slice a2 (ws Y).length c2) Y:=(hM.mono ae).below hA;have BV:An w U2:=(BU.trans (hb.mono ae)).trans (hA.mono ae);have S2:=(kz BV GR GX GY MX MY);clear hM hb H2 hA FR DX NX BU GR GX GY MX MY BV S1
 go_upto_region 3 with fail
 rw[<-dK];clear dK;obtain⟨r0,r1,r2,gK,gL,gM⟩:=S2.o.2.1.facts;obtain⟨x0,x1,x2,fA,fB,fC⟩:=S2.o.r2.1.facts;obtain⟨y0,y1,y2,dY,dZ,eB⟩:=S2.o.r3.1.facts;go_wp2;refine aH (iW _ (w.heap.size+1+1) false (.slice none 0 0) 0 2 _ rfl rfl (S2.o.2.1.set _ _ _)) rfl ⟨rfl,?_⟩;refine Fin.aF (m:=w.heap.size+3) (v:=.slice a1 (ws X).length c1) (X:=X) ?_;have FE:Fin w.heap.size (w.heap.size+3) w U2 (.slice a1 (ws X).length c1) X:=⟨S2.o.r4.1,S2.o.1,ae⟩
 repeat (with_reducible first | exact FE | refine Fin.drew ?_ | refine Fin.alloc ?_ _ | refine Fin.set ?_ _ _ _ ae ae)
theorem WZ {w:World}{a b:Option Addr}{l c k d:Nat}(n m:Bool) (e f:Int) (n1 m1:Bool) (X Y:Nat) (e1 f1:Int) (lX:(ws X).length<=8192) (lY:(ws Y).length<=8192)
 (jN:Hid (∀u,An w u->As 108 #[.agg #[.bool n,.slice a l c,.int .i64 e]] u λr w'=>(∃v,r=.returned (.tuple #[.agg #[.bool n1,v,.int .i64 e1],.bool true])/\Nt u.heap.size w' v X)/\An u w'))
 (kr:Hid (∀u,An w u->As 108 #[.agg #[.bool m,.slice b k d,.int .i64 f]] u λr w'=>(∃v,r=.returned (.tuple #[.agg #[.bool m1,v,.int .i64 f1],.bool false])/\Nt u.heap.size w' v Y)/\An u w')):At 70 #[.agg #[.bool n,.slice a l c,.int .i64 e],.agg #[.bool m,.slice b k d,.int .i64 f]] w (.tuple #[.agg zD3,.int .i64 2]):=by
 obtain⟨W1,hW1⟩:=ah (((w.alloc (.cells #[.bool n,.slice a l c,.int .i64 e] 79)).alloc (.cells #[.bool m,.slice b k d,.int .i64 f] 79)).alloc (.cells zD3 79));obtain⟨hB,hz1,DA,DB,DR⟩:=aZ w n m (.slice a l c) (.slice b k d) e f W1 hW1;have H1:=hid (jN.o W1 hB);have SB:=(gy hB hz1 DA DB DR);clear hB hz1 DA DB DR jN;go_enter Tryz.func70,Tryz.ntmps70;go_wp2_with fail;rw[<-hW1];clear hW1;refine H1.o.mono ?_;rintro r u1 ⟨⟨v,rfl,hN⟩,hb⟩;obtain⟨a1,c1,rfl,_⟩:=hN.arg ae;obtain⟨hB,hz1,DA,DB,DR⟩:=SB.o;obtain⟨U1,aX⟩:=ah (u1.alloc (.cells #[.bool n1,.slice a1 (ws X).length c1,.int .i64 e1] 79));have hA:An u1 U1:=by rw[aX];exact af _ _
 have hs1:w.heap.size+3<=u1.heap.size:=by have:=hb.size;omega
 have hs2:u1.heap.size<U1.heap.size:=by rw[aX];simp
 have FB:=(DB.below hb).below hA;have FR:=(DR.below hb).below hA;have DX:Dk U1 u1.heap.size n1 (.slice a1 (ws X).length c1) e1:=by rw[aX];exact Dk.new _ _ _ _
 have NX:Nt (w.heap.size+3) U1 (.slice a1 (ws X).length c1) X:=(hN.mono ae).below hA;have BU:An w U1:=(hB.trans (hb.mono ae)).trans (hA.mono ae);have H2:=hid (kr.o U1 BU);obtain⟨y0,y1,y2,dY,dZ,eB⟩:=FB.facts;have S1:=(iN BU FR DX NX);clear hN hb H1 hB hz1 hA DA DB DR FB FR DX NX BU SB kr
 go_upto_region 2 with fail
 rw[<-aX];clear aX;go_wp2_with fail;clear y0 y1 y2 dY dZ eB;refine H2.o.mono ?_;rintro r u2 ⟨⟨v,rfl,hM⟩,hb⟩;obtain⟨a2,c2,rfl,_⟩:=hM.arg ae;obtain⟨BU,FR,DX,NX⟩:=S1.o;obtain⟨U2,dK⟩:=ah (u2.alloc (.cells #[.bool m1,.slice a2 (ws Y).length c2,.int .i64 f1] 79));have hA:An u2 U2:=by rw[dK];exact af _ _
 have hs3:U1.heap.size<=u2.heap.size:=hb.size;have hs4:u2.heap.size<U2.heap.size:=by rw[dK];simp
 have GR:=(FR.below hb).below hA;have GX:=(DX.below hb).below hA;have GY:Dk U2 u2.heap.size m1 (.slice a2 (ws Y).length c2) f1:=by rw[dK];exact Dk.new _ _ _ _
 have MX:=(NX.below hb).below hA;have MY:Nt (w.heap.size+3) U2 (.slice a2 (ws Y).length c2) Y:=(hM.mono ae).below hA;have BV:An w U2:=(BU.trans (hb.mono ae)).trans (hA.mono ae);have S2:=(kz BV GR GX GY MX MY);clear hM hb H2 hA FR DX NX BU GR GX GY MX MY BV S1
 go_upto_region 3 with fail
 rw[<-dK];clear dK;obtain⟨r0,r1,r2,gK,gL,gM⟩:=S2.o.2.1.facts;obtain⟨x0,x1,x2,fA,fB,fC⟩:=S2.o.r2.1.facts;obtain⟨y0,y1,y2,dY,dZ,eB⟩:=S2.o.r3.1.facts;go_wp2;refine aH (iW _ (w.heap.size+1+1) false (.slice none 0 0) 0 2 _ rfl rfl (S2.o.2.1.set _ _ _)) rfl ⟨rfl,?_⟩;refine Fin.aF (m:=w.heap.size+3) (v:=.slice a1 (ws X).length c1) (X:=X) ?_;have FE:Fin w.heap.size (w.heap.size+3) w U2 (.slice a1 (ws X).length c1) X:=⟨S2.o.r4.1,S2.o.1,ae⟩
 repeat (with_reducible first | exact FE | refine Fin.drew ?_ | refine Fin.alloc ?_ _ | refine Fin.set ?_ _ _ _ ae ae)
theorem O0 {w:World}{a b:Option Addr}{l c k d:Nat}(n m:Bool) (e f:Int) (n1 m1:Bool) (X Y:Nat) (e1 f1:Int) (lX:(ws X).length<=8192) (lY:(ws Y).length<=8192) (hX:(ws X).length=0)
 (jN:Hid (∀u,An w u->As 108 #[.agg #[.bool n,.slice a l c,.int .i64 e]] u λr w'=>(∃v,r=.returned (.tuple #[.agg #[.bool n1,v,.int .i64 e1],.bool true])/\Nt u.heap.size w' v X)/\An u w'))
 (kr:Hid (∀u,An w u->As 108 #[.agg #[.bool m,.slice b k d,.int .i64 f]] u λr w'=>(∃v,r=.returned (.tuple #[.agg #[.bool m1,v,.int .i64 f1],.bool true])/\Nt u.heap.size w' v Y)/\An u w')):As 70 #[.agg #[.bool n,.slice a l c,.int .i64 e],.agg #[.bool m,.slice b k d,.int .i64 f]] w λr w'=>dm w.heap.size w' r (some (m1,Y,f1))/\An w w':=by
 have HH:=ak hX;clear hX;obtain⟨W1,hW1⟩:=ah (((w.alloc (.cells #[.bool n,.slice a l c,.int .i64 e] 79)).alloc (.cells #[.bool m,.slice b k d,.int .i64 f] 79)).alloc (.cells zD3 79));obtain⟨hB,hz1,DA,DB,DR⟩:=aZ w n m (.slice a l c) (.slice b k d) e f W1 hW1;have H1:=hid (jN.o W1 hB);have SB:=(gy hB hz1 DA DB DR);clear hB hz1 DA DB DR jN;go_enter Tryz.func70,Tryz.ntmps70;go_wp2_with fail;rw[<-hW1];clear hW1;refine H1.o.mono ?_;rintro r u1 ⟨⟨v,rfl,hN⟩,hb⟩;obtain⟨a1,c1,rfl,_⟩:=hN.arg ae;obtain⟨hB,hz1,DA,DB,DR⟩:=SB.o;obtain⟨U1,aX⟩:=ah (u1.alloc (.cells #[.bool n1,.slice a1 (ws X).length c1,.int .i64 e1] 79));have hA:An u1 U1:=by rw[aX];exact af _ _
 have hs1:w.heap.size+3<=u1.heap.size:=by have:=hb.size;omega
 have hs2:u1.heap.size<U1.heap.size:=by rw[aX];simp
 have FB:=(DB.below hb).below hA;have FR:=(DR.below hb).below hA;have DX:Dk U1 u1.heap.size n1 (.slice a1 (ws X).length c1) e1:=by rw[aX];exact Dk.new _ _ _ _
 have NX:Nt (w.heap.size+3) U1 (.slice a1 (ws X).length c1) X:=(hN.mono ae).below hA;have BU:An w U1:=(hB.trans (hb.mono ae)).trans (hA.mono ae);have H2:=hid (kr.o U1 BU);obtain⟨y0,y1,y2,dY,dZ,eB⟩:=FB.facts;have S1:=(iN BU FR DX NX);clear hN hb H1 hB hz1 hA DA DB DR FB FR DX NX BU SB kr
 go_upto_region 2 with fail
 rw[<-aX];clear aX;go_wp2_with fail;clear y0 y1 y2 dY dZ eB;refine H2.o.mono ?_;rintro r u2 ⟨⟨v,rfl,hM⟩,hb⟩;obtain⟨a2,c2,rfl,_⟩:=hM.arg ae;obtain⟨BU,FR,DX,NX⟩:=S1.o;obtain⟨U2,dK⟩:=ah (u2.alloc (.cells #[.bool m1,.slice a2 (ws Y).length c2,.int .i64 f1] 79));have hA:An u2 U2:=by rw[dK];exact af _ _
 have hs3:U1.heap.size<=u2.heap.size:=hb.size;have hs4:u2.heap.size<U2.heap.size:=by rw[dK];simp
 have GR:=(FR.below hb).below hA;have GX:=(DX.below hb).below hA;have GY:Dk U2 u2.heap.size m1 (.slice a2 (ws Y).length c2) f1:=by rw[dK];exact Dk.new _ _ _ _
 have MX:=(NX.below hb).below hA;have MY:Nt (w.heap.size+3) U2 (.slice a2 (ws Y).length c2) Y:=(hM.mono ae).below hA;have BV:An w U2:=(BU.trans (hb.mono ae)).trans (hA.mono ae);have S2:=(kz BV GR GX GY MX MY);clear hM hb H2 hA FR DX NX BU GR GX GY MX MY BV S1
 go_upto_region 5 with fail
 rw[<-dK];clear dK;obtain⟨r0,r1,r2,gK,gL,gM⟩:=S2.o.2.1.facts;obtain⟨x0,x1,x2,fA,fB,fC⟩:=S2.o.r2.1.facts;obtain⟨y0,y1,y2,dY,dZ,eB⟩:=S2.o.r3.1.facts;have hX:=HH.o;go_wp2;refine aH (iW _ (w.heap.size+1+1) m1 (.slice a2 (ws Y).length c2) f1 0 _ rfl rfl (S2.o.2.1.set _ _ _)) rfl ?_;refine Fin.j4 (m:=w.heap.size+3) ?_ ae;have FE:Fin w.heap.size (w.heap.size+3) w U2 _ _:=⟨S2.o.r5,S2.o.1,ae⟩
 repeat (with_reducible first | exact FE | refine Fin.drew ?_ | refine Fin.alloc ?_ _ | refine Fin.set ?_ _ _ _ ae ae)
 exact FE
theorem JJ {w:World}{a b:Option Addr}{l c k d:Nat}(n m:Bool) (e f:Int) (n1 m1:Bool) (X Y:Nat) (e1 f1:Int) (lX:(ws X).length<=8192) (lY:(ws Y).length<=8192) (hX:((((ws X).length:Nat):Int)==0)=false) (hY:(ws Y).length=0)
 (jN:Hid (∀u,An w u->As 108 #[.agg #[.bool n,.slice a l c,.int .i64 e]] u λr w'=>(∃v,r=.returned (.tuple #[.agg #[.bool n1,v,.int .i64 e1],.bool true])/\Nt u.heap.size w' v X)/\An u w'))
 (kr:Hid (∀u,An w u->As 108 #[.agg #[.bool m,.slice b k d,.int .i64 f]] u λr w'=>(∃v,r=.returned (.tuple #[.agg #[.bool m1,v,.int .i64 f1],.bool true])/\Nt u.heap.size w' v Y)/\An u w')):As 70 #[.agg #[.bool n,.slice a l c,.int .i64 e],.agg #[.bool m,.slice b k d,.int .i64 f]] w λr w'=>dm w.heap.size w' r (some (n1,X,e1))/\An w w':=by
 have HH:=ak hY;clear hY;obtain⟨W1,hW1⟩:=ah (((w.alloc (.cells #[.bool n,.slice a l c,.int .i64 e] 79)).alloc (.cells #[.bool m,.slice b k d,.int .i64 f] 79)).alloc (.cells zD3 79));obtain⟨hB,hz1,DA,DB,DR⟩:=aZ w n m (.slice a l c) (.slice b k d) e f W1 hW1;have H1:=hid (jN.o W1 hB);have SB:=(gy hB hz1 DA DB DR);clear hB hz1 DA DB DR jN;go_enter Tryz.func70,Tryz.ntmps70;go_wp2_with fail;rw[<-hW1];clear hW1;refine H1.o.mono ?_;rintro r u1 ⟨⟨v,rfl,hN⟩,hb⟩;obtain⟨a1,c1,rfl,_⟩:=hN.arg ae;obtain⟨hB,hz1,DA,DB,DR⟩:=SB.o;obtain⟨U1,aX⟩:=ah (u1.alloc (.cells #[.bool n1,.slice a1 (ws X).length c1,.int .i64 e1] 79));have hA:An u1 U1:=by rw[aX];exact af _ _
 have hs1:w.heap.size+3<=u1.heap.size:=by have:=hb.size;omega
 have hs2:u1.heap.size<U1.heap.size:=by rw[aX];simp
 have FB:=(DB.below hb).below hA;have FR:=(DR.below hb).below hA;have DX:Dk U1 u1.heap.size n1 (.slice a1 (ws X).length c1) e1:=by rw[aX];exact Dk.new _ _ _ _
 have NX:Nt (w.heap.size+3) U1 (.slice a1 (ws X).length c1) X:=(hN.mono ae).below hA;have BU:An w U1:=(hB.trans (hb.mono ae)).trans (hA.mono ae);have H2:=hid (kr.o U1 BU);obtain⟨y0,y1,y2,dY,dZ,eB⟩:=FB.facts;have S1:=(iN BU FR DX NX);clear hN hb H1 hB hz1 hA DA DB DR FB FR DX NX BU SB kr
 go_upto_region 2 with fail
 rw[<-aX];clear aX;go_wp2_with fail;clear y0 y1 y2 dY dZ eB;refine H2.o.mono ?_;rintro r u2 ⟨⟨v,rfl,hM⟩,hb⟩;obtain⟨a2,c2,rfl,_⟩:=hM.arg ae;obtain⟨BU,FR,DX,NX⟩:=S1.o;obtain⟨U2,dK⟩:=ah (u2.alloc (.cells #[.bool m1,.slice a2 (ws Y).length c2,.int .i64 f1] 79));have hA:An u2 U2:=by rw[dK];exact af _ _
 have hs3:U1.heap.size<=u2.heap.size:=hb.size;have hs4:u2.heap.size<U2.heap.size:=by rw[dK];simp
 have GR:=(FR.below hb).below hA;have GX:=(DX.below hb).below hA;have GY:Dk U2 u2.heap.size m1 (.slice a2 (ws Y).length c2) f1:=by rw[dK];exact Dk.new _ _ _ _
 have MX:=(NX.below hb).below hA;have MY:Nt (w.heap.size+3) U2 (.slice a2 (ws Y).length c2) Y:=(hM.mono ae).below hA;have BV:An w U2:=(BU.trans (hb.mono ae)).trans (hA.mono ae);have S2:=(kz BV GR GX GY MX MY);clear hM hb H2 hA FR DX NX BU GR GX GY MX MY BV S1
 go_upto_region 5 with fail
 rw[<-dK];clear dK;obtain⟨r0,r1,r2,gK,gL,gM⟩:=S2.o.2.1.facts;obtain⟨x0,x1,x2,fA,fB,fC⟩:=S2.o.r2.1.facts;obtain⟨y0,y1,y2,dY,dZ,eB⟩:=S2.o.r3.1.facts;have hY:=HH.o;go_wp2;refine aH (iW _ (w.heap.size+1+1) n1 (.slice a1 (ws X).length c1) e1 0 _ rfl rfl (S2.o.2.1.set _ _ _)) rfl ?_;refine Fin.j4 (m:=w.heap.size+3) ?_ ae;have FE:Fin w.heap.size (w.heap.size+3) w U2 _ _:=⟨S2.o.r4.1,S2.o.1,ae⟩
 repeat (with_reducible first | exact FE | refine Fin.drew ?_ | refine Fin.alloc ?_ _ | refine Fin.set ?_ _ _ _ ae ae)
 exact FE
theorem Xa {w:World}{a b:Option Addr}{l c k d:Nat}(n m:Bool) (e f:Int) (n1 m1:Bool) (X Y:Nat) (e1 f1:Int) (lX:(ws X).length<=8192) (lY:(ws Y).length<=8192) (hX:((((ws X).length:Nat):Int)==0)=false) (hY:((((ws Y).length:Nat):Int)==0)=false) (Ot:-1048576<=e1) (Ou:e1<=1048576) (Ov:-1048576<=f1) (Ow:f1<=1048576) (g:Int) (hg:min e1 f1=g) (bg0:-1048576<=g) (bg1:g<=1048576) (P Q:Nat) (lP:(ws P).length<=1000000) (lQ:(ws Q).length<=1000000) (h5:8192<(ws P).length)
 (jN:Hid (∀u,An w u->As 108 #[.agg #[.bool n,.slice a l c,.int .i64 e]] u λr w'=>(∃v,r=.returned (.tuple #[.agg #[.bool n1,v,.int .i64 e1],.bool true])/\Nt u.heap.size w' v X)/\An u w'))
 (kr:Hid (∀u,An w u->As 108 #[.agg #[.bool m,.slice b k d,.int .i64 f]] u λr w'=>(∃v,r=.returned (.tuple #[.agg #[.bool m1,v,.int .i64 f1],.bool true])/\Nt u.heap.size w' v Y)/\An u w'))
 (HP:Hid (∀(u:World) (v:Value),An w u->Nt (w.heap.size+3) u v X->As 113 #[v,.int .i64 (e1-g)] u λr w'=>∃v,r=.returned v/\Nt u.heap.size w' v P/\An u w'))
 (HQ:Hid (∀(u:World) (v:Value),An w u->Nt (w.heap.size+3) u v Y->As 113 #[v,.int .i64 (f1-g)] u λr w'=>∃v,r=.returned v/\Nt u.heap.size w' v Q/\An u w')):At 70 #[.agg #[.bool n,.slice a l c,.int .i64 e],.agg #[.bool m,.slice b k d,.int .i64 f]] w (.tuple #[.agg zD3,.int .i64 2]):=by
 obtain⟨W1,hW1⟩:=ah (((w.alloc (.cells #[.bool n,.slice a l c,.int .i64 e] 79)).alloc (.cells #[.bool m,.slice b k d,.int .i64 f] 79)).alloc (.cells zD3 79));obtain⟨hB,hz1,DA,DB,DR⟩:=aZ w n m (.slice a l c) (.slice b k d) e f W1 hW1;have H1:=hid (jN.o W1 hB);have SB:=(gy hB hz1 DA DB DR);clear hB hz1 DA DB DR jN;go_enter Tryz.func70,Tryz.ntmps70;go_wp2_with fail;rw[<-hW1];clear hW1;refine H1.o.mono ?_;rintro r u1 ⟨⟨v,rfl,hN⟩,hb⟩;obtain⟨a1,c1,rfl,_⟩:=hN.arg ae;obtain⟨hB,hz1,DA,DB,DR⟩:=SB.o;obtain⟨U1,aX⟩:=ah (u1.alloc (.cells #[.bool n1,.slice a1 (ws X).length c1,.int .i64 e1] 79));have hA:An u1 U1:=by rw[aX];exact af _ _
 have hs1:w.heap.size+3<=u1.heap.size:=by have:=hb.size;omega
 have hs2:u1.heap.size<U1.heap.size:=by rw[aX];simp
 have FB:=(DB.below hb).below hA;have FR:=(DR.below hb).below hA;have DX:Dk U1 u1.heap.size n1 (.slice a1 (ws X).length c1) e1:=by rw[aX];exact Dk.new _ _ _ _
 have NX:Nt (w.heap.size+3) U1 (.slice a1 (ws X).length c1) X:=(hN.mono ae).below hA;have BU:An w U1:=(hB.trans (hb.mono ae)).trans (hA.mono ae);have H2:=hid (kr.o U1 BU);obtain⟨y0,y1,y2,dY,dZ,eB⟩:=FB.facts;have S1:=(iN BU FR DX NX);clear hN hb H1 hB hz1 hA DA DB DR FB FR DX NX BU SB kr
 go_upto_region 2 with fail
 rw[<-aX];clear aX;go_wp2_with fail;clear y0 y1 y2 dY dZ eB;refine H2.o.mono ?_;rintro r u2 ⟨⟨v,rfl,hM⟩,hb⟩;obtain⟨a2,c2,rfl,_⟩:=hM.arg ae;obtain⟨BU,FR,DX,NX⟩:=S1.o;obtain⟨U2,dK⟩:=ah (u2.alloc (.cells #[.bool m1,.slice a2 (ws Y).length c2,.int .i64 f1] 79));have hA:An u2 U2:=by rw[dK];exact af _ _
 have hs3:U1.heap.size<=u2.heap.size:=hb.size;have hs4:u2.heap.size<U2.heap.size:=by rw[dK];simp
 have GR:=(FR.below hb).below hA;have GX:=(DX.below hb).below hA;have GY:Dk U2 u2.heap.size m1 (.slice a2 (ws Y).length c2) f1:=by rw[dK];exact Dk.new _ _ _ _
 have MX:=(NX.below hb).below hA;have MY:Nt (w.heap.size+3) U2 (.slice a2 (ws Y).length c2) Y:=(hM.mono ae).below hA;have BV:An w U2:=(BU.trans (hb.mono ae)).trans (hA.mono ae);have S2:=(kz BV GR GX GY MX MY);clear hM hb H2 hA FR DX NX BU GR GX GY MX MY BV S1
 go_upto_region 5 with fail
 rw[<-dK];clear dK;obtain⟨r0,r1,r2,gK,gL,gM⟩:=S2.o.2.1.facts;obtain⟨x0,x1,x2,fA,fB,fC⟩:=S2.o.r2.1.facts;obtain⟨y0,y1,y2,dY,dZ,eB⟩:=S2.o.r3.1.facts;have H3:=hid (HP.o U2 _ S2.o.1 S2.o.r4.1);clear HP;go_wp2_with fail;clear r0 r1 r2 gK gL gM x0 x1 x2 fA fB fC y0 y1 y2 dY dZ eB;refine H3.o.mono ?_;rintro r u5 ⟨v,rfl,hP,hb⟩;obtain⟨a5,c5,rfl,_⟩:=hP.arg ae;obtain⟨BV,GR,GX,GY,MX,MY⟩:=S2.o;have hs5:U2.heap.size<=u5.heap.size:=hb.size;have DN:An w u5:=BV.trans (hb.mono ae);have H4:=hid (HQ.o u5 _ DN (MY.below hb));have S5:=(kz DN (GR.below hb) (GX.below hb) (GY.below hb) (MX.below hb) (hP.mono (lo':=w.heap.size+3) ae));clear BV GR GX GY MX MY DN hP hb H3 S2 HQ;obtain⟨r0,r1,r2,gK,gL,gM⟩:=S5.o.2.1.facts;obtain⟨x0,x1,x2,fA,fB,fC⟩:=S5.o.r2.1.facts;obtain⟨y0,y1,y2,dY,dZ,eB⟩:=S5.o.r3.1.facts;go_wp2_with fail;clear r0 r1 r2 gK gL gM x0 x1 x2 fA fB fC y0 y1 y2 dY dZ eB;refine H4.o.mono ?_;rintro r u6 ⟨v,rfl,hQ,hb⟩;obtain⟨a6,c6,rfl,_⟩:=hQ.arg ae;obtain⟨BV,GR,GX,GY,MX,MP⟩:=S5.o;have hs6:u5.heap.size<=u6.heap.size:=hb.size;have S2:=(kz (BV.trans (hb.mono ae)) (GR.below hb) (GX.below hb) (GY.below hb) (MP.below hb) (hQ.mono (lo':=w.heap.size+3) ae));clear BV GR GX GY MX MP hQ hb H4 S5;obtain⟨r0,r1,r2,gK,gL,gM⟩:=S2.o.2.1.facts;obtain⟨x0,x1,x2,fA,fB,fC⟩:=S2.o.r2.1.facts;obtain⟨y0,y1,y2,dY,dZ,eB⟩:=S2.o.r3.1.facts;go_wp2;refine aH (iW _ (w.heap.size+1+1) false (.slice none 0 0) 0 2 _ rfl rfl (S2.o.2.1.set _ _ _)) rfl ⟨rfl,?_⟩;refine Fin.aF (m:=w.heap.size+3) (v:=.slice a5 (ws P).length c5) (X:=P) ?_;have FE:Fin w.heap.size (w.heap.size+3) w u6 (.slice a5 (ws P).length c5) P:=⟨S2.o.r4.1,S2.o.1,ae⟩
 repeat (with_reducible first | exact FE | refine Fin.drew ?_ | refine Fin.alloc ?_ _ | refine Fin.set ?_ _ _ _ ae ae)
theorem Xb {w:World}{a b:Option Addr}{l c k d:Nat}(n m:Bool) (e f:Int) (n1 m1:Bool) (X Y:Nat) (e1 f1:Int) (lX:(ws X).length<=8192) (lY:(ws Y).length<=8192) (hX:((((ws X).length:Nat):Int)==0)=false) (hY:((((ws Y).length:Nat):Int)==0)=false) (Ot:-1048576<=e1) (Ou:e1<=1048576) (Ov:-1048576<=f1) (Ow:f1<=1048576) (g:Int) (hg:min e1 f1=g) (bg0:-1048576<=g) (bg1:g<=1048576) (P Q:Nat) (lP:(ws P).length<=1000000) (lQ:(ws Q).length<=1000000) (h5:(ws P).length<=8192) (h6:8192<(ws Q).length)
 (jN:Hid (∀u,An w u->As 108 #[.agg #[.bool n,.slice a l c,.int .i64 e]] u λr w'=>(∃v,r=.returned (.tuple #[.agg #[.bool n1,v,.int .i64 e1],.bool true])/\Nt u.heap.size w' v X)/\An u w'))
 (kr:Hid (∀u,An w u->As 108 #[.agg #[.bool m,.slice b k d,.int .i64 f]] u λr w'=>(∃v,r=.returned (.tuple #[.agg #[.bool m1,v,.int .i64 f1],.bool true])/\Nt u.heap.size w' v Y)/\An u w'))
 (HP:Hid (∀(u:World) (v:Value),An w u->Nt (w.heap.size+3) u v X->As 113 #[v,.int .i64 (e1-g)] u λr w'=>∃v,r=.returned v/\Nt u.heap.size w' v P/\An u w'))
 (HQ:Hid (∀(u:World) (v:Value),An w u->Nt (w.heap.size+3) u v Y->As 113 #[v,.int .i64 (f1-g)] u λr w'=>∃v,r=.returned v/\Nt u.heap.size w' v Q/\An u w')):At 70 #[.agg #[.bool n,.slice a l c,.int .i64 e],.agg #[.bool m,.slice b k d,.int .i64 f]] w (.tuple #[.agg zD3,.int .i64 2]):=by
 obtain⟨W1,hW1⟩:=ah (((w.alloc (.cells #[.bool n,.slice a l c,.int .i64 e] 79)).alloc (.cells #[.bool m,.slice b k d,.int .i64 f] 79)).alloc (.cells zD3 79));obtain⟨hB,hz1,DA,DB,DR⟩:=aZ w n m (.slice a l c) (.slice b k d) e f W1 hW1;have H1:=hid (jN.o W1 hB);have SB:=(gy hB hz1 DA DB DR);clear hB hz1 DA DB DR jN;go_enter Tryz.func70,Tryz.ntmps70;go_wp2_with fail;rw[<-hW1];clear hW1;refine H1.o.mono ?_;rintro r u1 ⟨⟨v,rfl,hN⟩,hb⟩;obtain⟨a1,c1,rfl,_⟩:=hN.arg ae;obtain⟨hB,hz1,DA,DB,DR⟩:=SB.o;obtain⟨U1,aX⟩:=ah (u1.alloc (.cells #[.bool n1,.slice a1 (ws X).length c1,.int .i64 e1] 79));have hA:An u1 U1:=by rw[aX];exact af _ _
 have hs1:w.heap.size+3<=u1.heap.size:=by have:=hb.size;omega
 have hs2:u1.heap.size<U1.heap.size:=by rw[aX];simp
 have FB:=(DB.below hb).below hA;have FR:=(DR.below hb).below hA;have DX:Dk U1 u1.heap.size n1 (.slice a1 (ws X).length c1) e1:=by rw[aX];exact Dk.new _ _ _ _
 have NX:Nt (w.heap.size+3) U1 (.slice a1 (ws X).length c1) X:=(hN.mono ae).below hA;have BU:An w U1:=(hB.trans (hb.mono ae)).trans (hA.mono ae);have H2:=hid (kr.o U1 BU);obtain⟨y0,y1,y2,dY,dZ,eB⟩:=FB.facts;have S1:=(iN BU FR DX NX);clear hN hb H1 hB hz1 hA DA DB DR FB FR DX NX BU SB kr
 go_upto_region 2 with fail
 rw[<-aX];clear aX;go_wp2_with fail;clear y0 y1 y2 dY dZ eB;refine H2.o.mono ?_;rintro r u2 ⟨⟨v,rfl,hM⟩,hb⟩;obtain⟨a2,c2,rfl,_⟩:=hM.arg ae;obtain⟨BU,FR,DX,NX⟩:=S1.o;obtain⟨U2,dK⟩:=ah (u2.alloc (.cells #[.bool m1,.slice a2 (ws Y).length c2,.int .i64 f1] 79));have hA:An u2 U2:=by rw[dK];exact af _ _
 have hs3:U1.heap.size<=u2.heap.size:=hb.size;have hs4:u2.heap.size<U2.heap.size:=by rw[dK];simp
 have GR:=(FR.below hb).below hA;have GX:=(DX.below hb).below hA;have GY:Dk U2 u2.heap.size m1 (.slice a2 (ws Y).length c2) f1:=by rw[dK];exact Dk.new _ _ _ _
 have MX:=(NX.below hb).below hA;have MY:Nt (w.heap.size+3) U2 (.slice a2 (ws Y).length c2) Y:=(hM.mono ae).below hA;have BV:An w U2:=(BU.trans (hb.mono ae)).trans (hA.mono ae);have S2:=(kz BV GR GX GY MX MY);clear hM hb H2 hA FR DX NX BU GR GX GY MX MY BV S1
 go_upto_region 5 with fail
 rw[<-dK];clear dK;obtain⟨r0,r1,r2,gK,gL,gM⟩:=S2.o.2.1.facts;obtain⟨x0,x1,x2,fA,fB,fC⟩:=S2.o.r2.1.facts;obtain⟨y0,y1,y2,dY,dZ,eB⟩:=S2.o.r3.1.facts;have H3:=hid (HP.o U2 _ S2.o.1 S2.o.r4.1);clear HP;go_wp2_with fail;clear r0 r1 r2 gK gL gM x0 x1 x2 fA fB fC y0 y1 y2 dY dZ eB;refine H3.o.mono ?_;rintro r u5 ⟨v,rfl,hP,hb⟩;obtain⟨a5,c5,rfl,_⟩:=hP.arg ae;obtain⟨BV,GR,GX,GY,MX,MY⟩:=S2.o;have hs5:U2.heap.size<=u5.heap.size:=hb.size;have DN:An w u5:=BV.trans (hb.mono ae);have H4:=hid (HQ.o u5 _ DN (MY.below hb));have S5:=(kz DN (GR.below hb) (GX.below hb) (GY.below hb) (MX.below hb) (hP.mono (lo':=w.heap.size+3) ae));clear BV GR GX GY MX MY DN hP hb H3 S2 HQ;obtain⟨r0,r1,r2,gK,gL,gM⟩:=S5.o.2.1.facts;obtain⟨x0,x1,x2,fA,fB,fC⟩:=S5.o.r2.1.facts;obtain⟨y0,y1,y2,dY,dZ,eB⟩:=S5.o.r3.1.facts;go_wp2_with fail;clear r0 r1 r2 gK gL gM x0 x1 x2 fA fB fC y0 y1 y2 dY dZ eB;refine H4.o.mono ?_;rintro r u6 ⟨v,rfl,hQ,hb⟩;obtain⟨a6,c6,rfl,_⟩:=hQ.arg ae;obtain⟨BV,GR,GX,GY,MX,MP⟩:=S5.o;have hs6:u5.heap.size<=u6.heap.size:=hb.size;have S2:=(kz (BV.trans (hb.mono ae)) (GR.below hb) (GX.below hb) (GY.below hb) (MP.below hb) (hQ.mono (lo':=w.heap.size+3) ae));clear BV GR GX GY MX MP hQ hb H4 S5;obtain⟨r0,r1,r2,gK,gL,gM⟩:=S2.o.2.1.facts;obtain⟨x0,x1,x2,fA,fB,fC⟩:=S2.o.r2.1.facts;obtain⟨y0,y1,y2,dY,dZ,eB⟩:=S2.o.r3.1.facts;go_wp2;refine aH (iW _ (w.heap.size+1+1) false (.slice none 0 0) 0 2 _ rfl rfl (S2.o.2.1.set _ _ _)) rfl ⟨rfl,?_⟩;refine Fin.aF (m:=w.heap.size+3) (v:=.slice a5 (ws P).length c5) (X:=P) ?_;have FE:Fin w.heap.size (w.heap.size+3) w u6 (.slice a5 (ws P).length c5) P:=⟨S2.o.r4.1,S2.o.1,ae⟩
 repeat (with_reducible first | exact FE | refine Fin.drew ?_ | refine Fin.alloc ?_ _ | refine Fin.set ?_ _ _ _ ae ae)
end
end Go.Proofs.YtjppdacikihpdaaGreatDoor
