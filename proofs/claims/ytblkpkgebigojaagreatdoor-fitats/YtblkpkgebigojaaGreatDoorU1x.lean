import Derived.Test.YtblkpkgebigojaaGreatDoorS9x
import Derived.Deep.RegionWith
import Derived.Test.YtblkpkgebigojaaGreatDoorD19x
import Derived.Test.YtblkpkgebigojaaGreatDoorM1x
import Derived.Test.YtblkpkgebigojaaGreatDoorD15x
import Ieee.Arith
import Derived.Test.YtblkpkgebigojaaGreatDoorS7x
import Derived.Test.YtblkpkgebigojaaGreatDoorW45x
import Derived.Deep.Cut
import Derived.Deep.RegionHeld3
set_option linter.unusedVariables false
set_option linter.unusedSimpArgs false
set_option maxHeartbeats 16000000
set_option maxRecDepth 20000
namespace Go.Proofs.YtblkpkgebigojaaGreatDoor
section
open Go.RowKit
def QB:Nat:=HB/4398046511104
theorem Zj7:HB=4398046511104*QB:=by
 obtain ⟨k,hk⟩:∃ k,k=4238:=⟨_,rfl⟩;obtain ⟨j,hj⟩:∃ j,j=4196:=⟨_,rfl⟩;unfold QB;rw [Ze7 k hk,show k=42+j by omega,Nat.pow_add]
 have e:(2:Nat)^42=4398046511104:=by decide
 rw [e,Nat.mul_div_cancel_left _ (by decide)]
theorem Ze8:0<QB:=by have:=Zj7;have:=Zbi;omega
theorem Jm (x y:Nat) (hx:x<18446744073709551616) (hy:y<18446744073709551616):-(QB:Int)≤pT x y∧pT x y≤(QB:Int):=by
 have hp:=Ze8
 have e2:∃ j,j=4196∧QB=2^j:=by
  obtain ⟨k,hk⟩:∃ k,k=4238:=⟨_,rfl⟩;obtain ⟨j,hj⟩:∃ j,j=4196:=⟨_,rfl⟩;refine ⟨j,hj,?_⟩;unfold QB;rw [Ze7 k hk,show k=42+j by omega,Nat.pow_add]
  have e:(2:Nat)^42=4398046511104:=by decide
  rw [e,Nat.mul_div_cancel_left _ (by decide)]
 obtain ⟨j,hj,hq⟩:=e2;unfold pT pv7
 split
 · have f1:=Yy (eW x) (fW x) (Ql x hx).2.2
   have f2:=Yy (eW y) (fW y) (Ql y hy).2.2;have x1:=Yx (eW x) (Ql x hx).2.1;have x2:=Yx (eW y) (Ql y hy).2.1
   have h1:frW x*frW y<2^106:=by
    have:frW x*frW y≤9007199254740991*9007199254740991:=Nat.mul_le_mul (by unfold frW;omega) (by unfold frW;omega)
    exact Nat.lt_of_le_of_lt this (by decide)
   have h3:frW x*frW y*2^(xpW x+xpW y+2148).toNat<QB:=by
    rw [hq];refine Nat.lt_of_lt_of_le (Nat.mul_lt_mul_of_pos_right h1 (Nat.two_pow_pos _)) ?_;rw [←Nat.pow_add];exact Nat.pow_le_pow_right (by decide) (by unfold xpW;omega)
   have:=Zdw (!ngW x==ngW y) _ _ h3;omega
 · constructor <;> omega
def Sp.pos (s:Sp):Prop:=0≤s.n∧0≤s.u∧0≤s.d∧0≤s.m∧0≤s.p∧s.n+s.u+s.d+s.m+s.p≤s.a
theorem Sp.pos.cnt {s:Sp}(h:s.pos) (k:Nat) (hk:k≤5):(s.cnt k 1).pos:=by
 obtain ⟨h0,h1,h2,h3,h4,h5⟩:=h;have hc:k=0∨k=1∨k=2∨k=3∨k=4∨k=5:=by omega
 rcases hc with rfl|rfl|rfl|rfl|rfl|rfl <;> (unfold Sp.pos Sp.cnt;simp;omega)
theorem Sp.pos.ok {s:Sp}(h:s.pos) (ha:s.a≤4398046511104):s.ok:=by
 obtain ⟨h0,h1,h2,h3,h4,h5⟩:=h;unfold Sp.ok;omega
theorem Zsd (s:Sp) (k:Nat) (c:Int):(s.cnt k c).a=s.a+c:=rfl
theorem Zo2 (V:Int) (s:Sp) (k:Nat) (T:Int) (h0:-(HB:Int)<V+T) (h1:V+T<(HB:Int)) (ha:s.a<1099511627776):putS V s k T=(0,V+T,s.cnt k 1):=by
 unfold putS Zeb;rw [if_neg (by omega),if_pos ⟨h0,h1⟩]
def vS (l:List Nat):Int:=l.foldl (fun v x=>v+pT x 4607182418800017408) 0
def sS (l:List Nat):Sp:=l.foldl (fun s x=>s.cnt (pK x 4607182418800017408) 1) ⟨0,0,0,0,0,0⟩
theorem Ji (l:List Nat) (k:Nat) (h:k<l.length):l.take (k+1)=l.take k++[l.getD k 0]:=by
 rw [List.take_succ_eq_append_getElem h,List.getD_eq_getElem?_getD,List.getElem?_eq_getElem h];rfl
theorem Zjh (l:List Nat) (k:Nat) (h:k<l.length):vS (l.take (k+1))=vS (l.take k)+pT (l.getD k 0) 4607182418800017408:=by
 rw [Ji l k h];simp [vS,List.foldl_append]
theorem Zji (l:List Nat) (k:Nat) (h:k<l.length):sS (l.take (k+1))=(sS (l.take k)).cnt (pK (l.getD k 0) 4607182418800017408) 1:=by
 rw [Ji l k h];simp [sS,List.foldl_append]
theorem Zc0 (l:List Nat) (hl:W64 l):∀ k,k≤l.length→-((k*QB:Nat):Int)≤vS (l.take k)∧vS (l.take k)≤((k*QB:Nat):Int)
 | 0,_=>by simp [vS]
 | k+1,h=>by
   obtain ⟨h1,h2⟩:=Zc0 l hl k (by omega)
   have h3:=Jm (l.getD k 0) 4607182418800017408 (hl.get k) (by decide)
   rw [Zjh l k h];have e:((k+1)*QB:Nat)=k*QB+QB:=by rw [Nat.add_mul,Nat.one_mul]
   omega
theorem Zo3 (l:List Nat):∀ k,k≤l.length→(sS (l.take k)).pos∧(sS (l.take k)).a=k
 | 0,_=>⟨by rw [List.take_zero];unfold Sp.pos sS;decide,rfl⟩
 | k+1,h=>by
   obtain ⟨h1,h2⟩:=Zo3 l k (by omega)
   rw [Zji l k h];refine ⟨h1.cnt _ (Zj6 _ _ _),?_⟩;rw [Zsd,h2];omega
def vI (I:List (Nat×Int)):Int:=I.foldl (fun v p=>v+p.2) 0
def sI (I:List (Nat×Int)):Sp:=I.foldl (fun s p=>s.cnt p.1 1) ⟨0,0,0,0,0,0⟩
theorem Zqr (I:List (Nat×Int)) (p:Nat×Int):vI (I++[p])=vI I+p.2:=by simp [vI,List.foldl_append]
theorem Zqs (I:List (Nat×Int)) (p:Nat×Int):sI (I++[p])=(sI I).cnt p.1 1:=by simp [sI,List.foldl_append]
def Ip (p:Nat×Int):Prop:=p.1≤5∧-(QB:Int)≤p.2∧p.2≤(QB:Int)
theorem Zqt {x y:Nat}(hx:x<18446744073709551616) (hy:y<18446744073709551616):Ip (pK x y,pT x y):=⟨Zj6 _ _ _,(Jm x y hx hy).1,(Jm x y hx hy).2⟩
theorem Zjj:∀ (I:List (Nat×Int)) (v:Int),(∀ p ∈ I,Ip p)→v-((I.length*QB:Nat):Int)≤I.foldl (fun v p=>v+p.2) v∧I.foldl (fun v p=>v+p.2) v≤v+((I.length*QB:Nat):Int)
 | [],v,_=>by simp
 | p::I,v,h=>by
   obtain ⟨h1,h2⟩:=Zjj I (v+p.2) (fun q hq=>h q (List.mem_cons_of_mem _ hq))
   obtain ⟨_,h3,h4⟩:=h p List.mem_cons_self;rw [List.foldl_cons,List.length_cons,Nat.add_mul,Nat.one_mul];omega
theorem Zue (I:List (Nat×Int)) (h:∀ p ∈ I,Ip p):-((I.length*QB:Nat):Int)≤vI I∧vI I≤((I.length*QB:Nat):Int):=by
 have:=Zjj I 0 h;unfold vI;omega
theorem Zjk:∀ (I:List (Nat×Int)) (s:Sp),(∀ p ∈ I,Ip p)→s.pos→(I.foldl (fun s p=>s.cnt p.1 1) s).pos∧(I.foldl (fun s p=>s.cnt p.1 1) s).a=s.a+I.length
 | [],s,_,hs=>⟨hs,by simp⟩
 | p::I,s,h,hs=>by
   obtain ⟨h1,h2⟩:=Zjk I (s.cnt p.1 1) (fun q hq=>h q (List.mem_cons_of_mem _ hq)) (hs.cnt _ (h p List.mem_cons_self).1)
   refine ⟨h1,?_⟩;rw [List.foldl_cons,h2,Zsd,List.length_cons];omega
theorem Zo4 (I:List (Nat×Int)) (h:∀ p ∈ I,Ip p):(sI I).pos∧(sI I).a=I.length:=by
 have:=Zjk I ⟨0,0,0,0,0,0⟩ h (by unfold Sp.pos;decide)
 unfold sI;refine ⟨this.1,?_⟩;rw [this.2];simp
def At12 (w:World) (g:Nat) (I:List (Nat×Int)):Prop:=Acc7 w g (vI I) (sI I)∧(∀ p ∈ I,Ip p)
theorem At12.ok {w:World}{g:Nat}{I:List (Nat×Int)}(h:At12 w g I) (hl:I.length≤1000000):(sI I).ok:=by
 obtain ⟨p1,p2⟩:=Zo4 I h.2;exact p1.ok (by rw [p2];omega)
theorem Zs8 (g:Nat) (I:List (Nat×Int)) (x y:Nat) (w:World) (hA:At12 w g I) (hl:I.length<1000000) (hx:x<18446744073709551616) (hy:y<18446744073709551616) :
 Calls Tryz.prog 95 #[.pointer (some ⟨g,0,none⟩),.float .f64 x,.float .f64 y] w fun r w'=>r=.returned (.int .i64 0)∧At12 w' g (I++[(pK x y,pT x y)])∧But g w w':=by
 have C:=Zfz g (vI I) (sI I) x y w hA.1 (hA.ok (by omega)) hx hy
 obtain ⟨p1,p2⟩:=Zo4 I hA.2;obtain ⟨v1,v2⟩:=Zue I hA.2;have hsm:=Jm x y hx hy;have hkq:I.length*QB≤1000000*QB:=Nat.mul_le_mul_right _ (by omega)
 have hQ:=Zj7;have hqp:=Ze8;rw [Zo2 _ _ _ _ (by omega) (by omega) (by omega)] at C
 refine C.mono ?_;rintro r w' ⟨rfl,h2,h3⟩;refine ⟨rfl,⟨?_,fun p hp=>?_⟩,h3⟩
 · rw [Zqr,Zqs];exact h2
 · rcases List.mem_append.1 hp with h | h
   · exact hA.2 p h
   · rw [List.mem_singleton] at h;subst h;exact Zqt hx hy
attribute [local go_sem] B.f64bits B.f64frombits
theorem Zas {P:Program}{w:World}(a:Addr) (k:FloatKind) (n:Nat) (m:Mode):(store a (.float k n) m).run P w=stored P w a (.float k n) m:=run_store P w a _ m rfl
end
section
open Go.RowKit
theorem Zex (W:World) (g:Nat) (n:Bool) (v:Value) (e k:Int) (tmps:Array Value) (ht:tmps[4]?.getD undef=.pointer (some ⟨g,0,none⟩)) (hk:tmps[5]?.getD undef=.int .i64 k) (D:Dk W g n v e) :
 (results Tryz.f89 tmps).run Tryz.prog W=.ok (.tuple #[.agg #[.bool n,v,.int .i64 e],.int .i64 k]) W:=by
 obtain ⟨x0,x1,x2,xf0,xf1,xf2⟩:=D.facts;simp [results,Tryz.results89,ht,hk,go_sem,x0,x1,x2]
theorem Zjl {w:World}{a b:Option Addr}{l c k d:Nat}(n m:Bool) (e f:Int) (HFM:Hid (∀ u,Below w.heap.size w u→Calls Tryz.prog 128 #[.agg #[.bool n,.slice a l c,.int .i64 e],.agg #[.bool m,.slice b k d,.int .i64 f]] u fun r w'=>r=.returned (.tuple #[.agg #[.bool false,.slice none 0 0,.int .i64 0],.agg #[.bool false,.slice none 0 0,.int .i64 0],.int .i64 2])∧Below u.heap.size u w')):Calls Tryz.prog 89 #[.agg #[.bool n,.slice a l c,.int .i64 e],.agg #[.bool m,.slice b k d,.int .i64 f]] w fun r w'=>r=.returned (.tuple #[.agg #[.bool false,.slice none 0 0,.int .i64 0],.int .i64 2])∧Below w.heap.size w w':=by
 obtain ⟨W1,hW1⟩:∃ W,W=((w.alloc (.cells #[.bool n,.slice a l c,.int .i64 e] 62)).alloc (.cells #[.bool m,.slice b k d,.int .i64 f] 62)).alloc (.cells #[.bool false,.slice none 0 0,.int .i64 0] 62):=⟨_,rfl⟩;obtain ⟨hB,hz1,DA,DB,DR⟩:=Zg w n m (.slice a l c) (.slice b k d) e f W1 hW1;have H1:=hid (HFM.out W1 hB);have SB:=(qsd (ai hB (ai hz1 (ai DA (ai DB DR)))));clear hB hz1 DA DB DR HFM;go_enter Tryz.func89,Tryz.ntmps89
 go_wp2_with fail
 rw [←hW1];clear hW1;refine H1.out.mono ?_;rintro r u1 ⟨rfl,hb⟩;obtain ⟨hB,hz1,DA,DB,DR⟩:=SB.out;have EA:=DA.below hb;have EB:=DB.below hb;have ER:=DR.below hb;obtain ⟨x0,x1,x2,xf0,xf1,xf2⟩:=EA.facts;obtain ⟨y0,y1,y2,yf0,yf1,yf2⟩:=EB.facts;obtain ⟨r0,r1,r2,rf0,rf1,rf2⟩:=ER.facts;have F1:=qsd (show Fin w.heap.size (w.heap.size+3) w u1 (.slice none 0 0) 0 from ⟨Nt.nil _ _,hB.trans (hb.mono (by omega)),by have:=hb.size;omega⟩)
 have SE:=qsd ER;clear hb H1 hB hz1 DA DB DR EA EB ER SB;go_wp2;refine bodyPost_ret (Zex _ (w.heap.size+1+1) false (.slice none 0 0) 0 2 _ rfl rfl (((SE.out.other _ (by omega) _ _ _).other _ (by omega) _ _ _).set _ _ _)) rfl ⟨rfl,?_⟩
 refine Fin.bel (m:=w.heap.size+3) (v:=.slice none 0 0) (X:=0) ?_
 repeat (with_reducible first | exact F1.out | refine Fin.drew ?_ | refine Fin.alloc ?_ _ | refine Fin.set ?_ _ _ _ (by omega) (by omega))
theorem Zn0 {w:World}{a b:Option Addr}{l c k d:Nat}(n m:Bool) (e f:Int) (n1 m1:Bool) (X Y:Nat) (e1 f1:Int) (lX:(ws X).length≤8192) (lY:(ws Y).length≤8192) (be0:-1048576≤e1) (be1:e1≤1048576) (bf0:-1048576≤f1) (bf1:f1≤1048576)
 (HFM:Hid (∀ u,Below w.heap.size w u→Calls Tryz.prog 128 #[.agg #[.bool n,.slice a l c,.int .i64 e],.agg #[.bool m,.slice b k d,.int .i64 f]] u fun r w'=>∃ v v',r=.returned (.tuple #[.agg #[.bool n1,v,.int .i64 e1],.agg #[.bool m1,v',.int .i64 f1],.int .i64 0])∧Nt u.heap.size w' v X∧Nt u.heap.size w' v' Y∧Below u.heap.size u w'))
 (HSH:Hid (∀ (u:World) (p:Option Addr) (q:Nat) (p2:Option Addr) (q2:Nat),Below w.heap.size w u→Arg u p (ws X).length q (ws X)→Arg u p2 (ws Y).length q2 (ws Y)→Calls Tryz.prog 132 #[.slice p (ws X).length q,.slice p2 (ws Y).length q2] u fun r w'=>∃ v,r=.returned (.tuple #[v,.int .i64 2])∧Nt u.heap.size w' v 0∧Below u.heap.size u w')):Calls Tryz.prog 89 #[.agg #[.bool n,.slice a l c,.int .i64 e],.agg #[.bool m,.slice b k d,.int .i64 f]] w fun r w'=>r=.returned (.tuple #[.agg #[.bool false,.slice none 0 0,.int .i64 0],.int .i64 2])∧Below w.heap.size w w':=by
 have l0:(ws 0).length=0:=by rw [Zj];rfl
 obtain ⟨W1,hW1⟩:∃ W,W=((w.alloc (.cells #[.bool n,.slice a l c,.int .i64 e] 62)).alloc (.cells #[.bool m,.slice b k d,.int .i64 f] 62)).alloc (.cells #[.bool false,.slice none 0 0,.int .i64 0] 62):=⟨_,rfl⟩;obtain ⟨hB,hz1,DA,DB,DR⟩:=Zg w n m (.slice a l c) (.slice b k d) e f W1 hW1;have H1:=hid (HFM.out W1 hB);have SB:=(qsd (ai hB (ai hz1 (ai DA (ai DB DR)))));clear hB hz1 DA DB DR HFM;go_enter Tryz.func89,Tryz.ntmps89
 go_wp2_with fail
 rw [←hW1];clear hW1;refine H1.out.mono ?_;rintro r u1 ⟨v,v',rfl,hN,hM,hb⟩;obtain ⟨a1,c1,rfl,_⟩:=hN.arg (by omega)
 obtain ⟨a2,c2,rfl,_⟩:=hM.arg (by omega)
 obtain ⟨hB,hz1,DA,DB,DR⟩:=SB.out;have EA:=DA.below hb;have EB:=DB.below hb;have ER:=DR.below hb;obtain ⟨x0,x1,x2,xf0,xf1,xf2⟩:=EA.facts;obtain ⟨y0,y1,y2,yf0,yf1,yf2⟩:=EB.facts;obtain ⟨r0,r1,r2,rf0,rf1,rf2⟩:=ER.facts;have FX:=qsd (show Fin w.heap.size (w.heap.size+3) w u1 (.slice a1 (ws X).length c1) X from ⟨by rw [←hz1];exact hN,hB.trans (hb.mono (by omega)),by have:=hb.size;omega⟩)
 have FY:=qsd (show Fin w.heap.size (w.heap.size+3) w u1 (.slice a2 (ws Y).length c2) Y from ⟨by rw [←hz1];exact hM,hB.trans (hb.mono (by omega)),by have:=hb.size;omega⟩)
 have SE:=(qsd (ai EA (ai EB ER)));clear hN hM hb H1 hB hz1 DA DB DR EA EB ER SB;obtain ⟨EA,EB,ER⟩:=SE.out;obtain ⟨U1,hU1⟩:∃ U,U=st3 (st3 u1 w.heap.size (.bool n1) (.slice a1 (ws X).length c1) (.int .i64 e1)) (w.heap.size+1) (.bool m1) (.slice a2 (ws Y).length c2) (.int .i64 f1):=⟨_,rfl⟩;have IA:Dk U1 w.heap.size n1 (.slice a1 (ws X).length c1) e1:=by rw [hU1];exact ((EA.set _ _ _).other _ (by omega) _ _ _)
 have IB:Dk U1 (w.heap.size+1) m1 (.slice a2 (ws Y).length c2) f1:=by rw [hU1];exact ((EB.other _ (by omega) _ _ _).set _ _ _)
 have IR:Dk U1 (w.heap.size+1+1) false (.slice none 0 0) 0:=by rw [hU1];exact ((ER.other _ (by omega) _ _ _).other _ (by omega) _ _ _)
 have GX:Fin w.heap.size (w.heap.size+3) w U1 (.slice a1 (ws X).length c1) X:=by rw [hU1];exact (Fin.st3 (Fin.st3 FX.out _ _ _ _ (by omega) (by omega)) _ _ _ _ (by omega) (by omega))
 have GY:Fin w.heap.size (w.heap.size+3) w U1 (.slice a2 (ws Y).length c2) Y:=by rw [hU1];exact (Fin.st3 (Fin.st3 FY.out _ _ _ _ (by omega) (by omega)) _ _ _ _ (by omega) (by omega))
 have H2:=hid (HSH.out U1 a1 c1 a2 c2 GX.bel (GX.nt.arg' (by omega)).2 (GY.nt.arg' (by omega)).2)
 have S1:=(qsd (ai IA (ai IB (ai IR (ai GX GY)))));have hzU:w.heap.size+3≤U1.heap.size:=by have:=IR.lt;omega
 clear EA EB ER IA IB IR GX GY SE HSH;unfold st3 at hU1
 go_wp2_with fail
 rw [←hU1];clear hU1 x0 x1 x2 xf0 xf1 xf2 y0 y1 y2 yf0 yf1 yf2 r0 r1 r2 rf0 rf1 rf2;refine H2.out.mono ?_;rintro r u2 ⟨v,rfl,hN,hb⟩;obtain ⟨a3,c3,rfl,_⟩:=hN.arg (by omega)
 obtain ⟨IA,IB,IR,GX,GY⟩:=S1.out;obtain ⟨x0,x1,x2,xf0,xf1,xf2⟩:=(IA.below hb).facts;obtain ⟨y0,y1,y2,yf0,yf1,yf2⟩:=(IB.below hb).facts;obtain ⟨r0,r1,r2,rf0,rf1,rf2⟩:=(IR.below hb).facts;have S2:=(qsd (ai (IR.below hb) ((GX.below hb))));clear hN hb H2 S1 IA IB IR GX GY;go_wp2;refine bodyPost_ret (Zex _ (w.heap.size+1+1) false (.slice none 0 0) 0 2 _ rfl rfl (S2.out.1.set _ _ _)) rfl ⟨rfl,?_⟩;refine Fin.bel (m:=w.heap.size+3) (v:=.slice a1 (ws X).length c1) (X:=X) ?_
 repeat (with_reducible first | exact S2.out.2 | refine Fin.drew ?_ | refine Fin.alloc ?_ _ | refine Fin.set ?_ _ _ _ (by omega) (by omega))
theorem Zs9 {w:World}{a b:Option Addr}{l c k d:Nat}(n m:Bool) (e f:Int) (n1 m1:Bool) (X Y:Nat) (e1 f1:Int) (lX:(ws X).length≤8192) (lY:(ws Y).length≤8192) (be0:-1048576≤e1) (be1:e1≤1048576) (bf0:-1048576≤f1) (bf1:f1≤1048576)
 (HFM:Hid (∀ u,Below w.heap.size w u→Calls Tryz.prog 128 #[.agg #[.bool n,.slice a l c,.int .i64 e],.agg #[.bool m,.slice b k d,.int .i64 f]] u fun r w'=>∃ v v',r=.returned (.tuple #[.agg #[.bool n1,v,.int .i64 e1],.agg #[.bool m1,v',.int .i64 f1],.int .i64 0])∧Nt u.heap.size w' v X∧Nt u.heap.size w' v' Y∧Below u.heap.size u w')) (L:Nat) (lL:(ws L).length≤8192) (dn:Bool) (V:Nat) (de er:Int) (lV:(ws V).length≤8192)
 (HSH:Hid (∀ (u:World) (p:Option Addr) (q:Nat) (p2:Option Addr) (q2:Nat),Below w.heap.size w u→Arg u p (ws X).length q (ws X)→Arg u p2 (ws Y).length q2 (ws Y)→Calls Tryz.prog 132 #[.slice p (ws X).length q,.slice p2 (ws Y).length q2] u fun r w'=>∃ v,r=.returned (.tuple #[v,.int .i64 0])∧Nt u.heap.size w' v L∧Below u.heap.size u w'))
 (HT:Hid (∀ (u:World) (p:Option Addr) (s:Nat),Below w.heap.size w u→Arg u p (ws L).length s (ws L)→Calls Tryz.prog 86 #[.bool (n1 != m1),.slice p (ws L).length s,.int .i64 (e1+f1)] u fun r w'=>(∃ v,r=.returned (.tuple #[.agg #[.bool dn,v,.int .i64 de],.int .i64 er])∧Nt u.heap.size w' v V)∧Below u.heap.size u w')):Calls Tryz.prog 89 #[.agg #[.bool n,.slice a l c,.int .i64 e],.agg #[.bool m,.slice b k d,.int .i64 f]] w fun r w'=>(∃ v,r=.returned (.tuple #[.agg #[.bool dn,v,.int .i64 de],.int .i64 er])∧Nt w.heap.size w' v V)∧Below w.heap.size w w':=by
 obtain ⟨W1,hW1⟩:∃ W,W=((w.alloc (.cells #[.bool n,.slice a l c,.int .i64 e] 62)).alloc (.cells #[.bool m,.slice b k d,.int .i64 f] 62)).alloc (.cells #[.bool false,.slice none 0 0,.int .i64 0] 62):=⟨_,rfl⟩;obtain ⟨hB,hz1,DA,DB,DR⟩:=Zg w n m (.slice a l c) (.slice b k d) e f W1 hW1;have H1:=hid (HFM.out W1 hB);have SB:=(qsd (ai hB (ai hz1 (ai DA (ai DB DR)))));clear hB hz1 DA DB DR HFM;go_enter Tryz.func89,Tryz.ntmps89
 go_wp2_with fail
 rw [←hW1];clear hW1;refine H1.out.mono ?_;rintro r u1 ⟨v,v',rfl,hN,hM,hb⟩;obtain ⟨a1,c1,rfl,_⟩:=hN.arg (by omega)
 obtain ⟨a2,c2,rfl,_⟩:=hM.arg (by omega)
 obtain ⟨hB,hz1,DA,DB,DR⟩:=SB.out;have EA:=DA.below hb;have EB:=DB.below hb;have ER:=DR.below hb;obtain ⟨x0,x1,x2,xf0,xf1,xf2⟩:=EA.facts;obtain ⟨y0,y1,y2,yf0,yf1,yf2⟩:=EB.facts;obtain ⟨r0,r1,r2,rf0,rf1,rf2⟩:=ER.facts;have FX:=qsd (show Fin w.heap.size (w.heap.size+3) w u1 (.slice a1 (ws X).length c1) X from ⟨by rw [←hz1];exact hN,hB.trans (hb.mono (by omega)),by have:=hb.size;omega⟩)
 have FY:=qsd (show Fin w.heap.size (w.heap.size+3) w u1 (.slice a2 (ws Y).length c2) Y from ⟨by rw [←hz1];exact hM,hB.trans (hb.mono (by omega)),by have:=hb.size;omega⟩)
 have SE:=(qsd (ai EA (ai EB ER)));clear hN hM hb H1 hB hz1 DA DB DR EA EB ER SB;obtain ⟨EA,EB,ER⟩:=SE.out;obtain ⟨U1,hU1⟩:∃ U,U=st3 (st3 u1 w.heap.size (.bool n1) (.slice a1 (ws X).length c1) (.int .i64 e1)) (w.heap.size+1) (.bool m1) (.slice a2 (ws Y).length c2) (.int .i64 f1):=⟨_,rfl⟩;have IA:Dk U1 w.heap.size n1 (.slice a1 (ws X).length c1) e1:=by rw [hU1];exact ((EA.set _ _ _).other _ (by omega) _ _ _)
 have IB:Dk U1 (w.heap.size+1) m1 (.slice a2 (ws Y).length c2) f1:=by rw [hU1];exact ((EB.other _ (by omega) _ _ _).set _ _ _)
 have IR:Dk U1 (w.heap.size+1+1) false (.slice none 0 0) 0:=by rw [hU1];exact ((ER.other _ (by omega) _ _ _).other _ (by omega) _ _ _)
 have GX:Fin w.heap.size (w.heap.size+3) w U1 (.slice a1 (ws X).length c1) X:=by rw [hU1];exact (Fin.st3 (Fin.st3 FX.out _ _ _ _ (by omega) (by omega)) _ _ _ _ (by omega) (by omega))
 have GY:Fin w.heap.size (w.heap.size+3) w U1 (.slice a2 (ws Y).length c2) Y:=by rw [hU1];exact (Fin.st3 (Fin.st3 FY.out _ _ _ _ (by omega) (by omega)) _ _ _ _ (by omega) (by omega))
 have H2:=hid (HSH.out U1 a1 c1 a2 c2 GX.bel (GX.nt.arg' (by omega)).2 (GY.nt.arg' (by omega)).2)
 have S1:=(qsd (ai IA (ai IB (ai IR (ai GX GY)))));have hzU:w.heap.size+3≤U1.heap.size:=by have:=IR.lt;omega
 clear EA EB ER IA IB IR GX GY SE HSH;unfold st3 at hU1
 go_wp2_with fail
 rw [←hU1];clear hU1 x0 x1 x2 xf0 xf1 xf2 y0 y1 y2 yf0 yf1 yf2 r0 r1 r2 rf0 rf1 rf2;refine H2.out.mono ?_;rintro r u2 ⟨v,rfl,hN,hb⟩;obtain ⟨a3,c3,rfl,_⟩:=hN.arg (by omega)
 obtain ⟨IA,IB,IR,GX,GY⟩:=S1.out;obtain ⟨x0,x1,x2,xf0,xf1,xf2⟩:=(IA.below hb).facts;obtain ⟨y0,y1,y2,yf0,yf1,yf2⟩:=(IB.below hb).facts;obtain ⟨r0,r1,r2,rf0,rf1,rf2⟩:=(IR.below hb).facts;have H3:=hid (HT.out u2 a3 c3 (GX.below hb).bel (hN.arg' (by omega)).2)
 have S2:=(qsd (ai (IR.below hb) ((GX.below hb))));have hz2:w.heap.size+3≤u2.heap.size:=by have:=hb.size;omega
 clear hN hb H2 S1 IA IB IR GX GY HT
 go_wp2_with fail
 refine H3.out.mono ?_;rintro r u3 ⟨⟨v,rfl,hN⟩,hb⟩;obtain ⟨a4,c4,rfl,_⟩:=hN.arg (by omega)
 have IR:=S2.out.1.below hb;obtain ⟨s0,s1,s2,sf0,sf1,sf2⟩:=IR.facts;have FV:=qsd (show Fin w.heap.size (w.heap.size+3) w u3 (.slice a4 (ws V).length c4) V from ⟨hN.mono hz2,(S2.out.2.below hb).bel,by have:=hb.size;omega⟩)
 have S3:=qsd IR;clear hN hb IR H3 S2;go_wp2;refine bodyPost_ret (Zex _ (w.heap.size+1+1) dn (.slice a4 (ws V).length c4) de er _ rfl rfl (S3.out.set _ _ _)) rfl ?_;refine Fin.dans (m:=w.heap.size+3) ?_ (by omega)
 repeat (with_reducible first | exact FV.out | refine Fin.drew ?_ | refine Fin.alloc ?_ _ | refine Fin.set ?_ _ _ _ (by omega) (by omega))
def mulF (x y:Bool×Nat×Int):Option (Bool×Nat×Int):=mkS (x.1 != y.1) (x.2.1*y.2.1) (x.2.2+y.2.2)
def mulD (o p:Option (Bool×Nat×Int)):Option (Bool×Nat×Int) :=
 match o,p with
 | some x,some y=>mulF x y
 | _,_=>none
theorem Zjm {w:World}{p q:Option Addr}{s t X Y:Nat}(L:Nat) (er:Int) (hA:Arg w p (ws X).length s (ws X)) (hB:Arg w q (ws Y).length t (ws Y)) (h:mulS X Y=(L,er)) :
 Calls Tryz.prog 132 #[.slice p (ws X).length s,.slice q (ws Y).length t] w fun r w'=>∃ v,r=.returned (.tuple #[v,.int .i64 er])∧Nt w.heap.size w' v L∧Below w.heap.size w w':=by
 have:=Zjs (ws X) (ws Y) p q (ws X).length s (ws Y).length t w.heap.size w hA.len hB.len hA.cap hB.cap (by have:=hA.big;omega) (by have:=hB.big;omega) hA.wf hB.wf hA.rd hB.rd (Nat.le_refl _)
 rw [Zc,Zc,h] at this;exact this.mono fun r w' ⟨⟨v,h1,h2⟩,h3⟩=>⟨v,h1,h2,h3⟩
theorem Zjn {X:Nat}(h:X%2=1):lo X=0:=by
 have:=Zj8 0 (X/2);rw [show 2^0*(2*(X/2)+1)=X by omega] at this
 exact this
theorem Zn1 {w:World}{a b:Option Addr}{l c k d:Nat}{xs ys:List Nat}(h1:Arg w a l c xs) (h2:Arg w b k d ys) (hT:Tab w) (n m:Bool) (e f:Int) (he0:-9223372036854775808≤e) (he1:e≤9223372036854775807) (hf0:-9223372036854775808≤f) (hf1:f≤9223372036854775807) :
 Calls Tryz.prog 89 #[.agg #[.bool n,.slice a l c,.int .i64 e],.agg #[.bool m,.slice b k d,.int .i64 f]] w fun r w'=>DAns w.heap.size w' r (mulD (mkS n (val xs) e) (mkS m (val ys) f))∧Below w.heap.size w w':=by
 have zero:∀ {r:Ending} {w':World},(r=.returned (.tuple #[.agg #[.bool false,.slice none 0 0,.int .i64 0],.int .i64 2])∧Below w.heap.size w w')→DAns w.heap.size w' r none∧Below w.heap.size w w':=fun ⟨h1,h2⟩=>⟨⟨_,h1,Nt.nil _ _⟩,h2⟩
 cases hx:mkS n (val xs) e with
 | none =>
   exact (Zjl n m e f (hid fun u hu=>Zcd (h1.below hu) (h2.below hu) (hT.belows hu) n m e f he0 he1 hf0 hf1 hx)).mono fun r w' h=>zero h
 | some x =>
   obtain ⟨n1,X,e1⟩:=x
   cases hy:mkS m (val ys) f with
   | none =>
     exact (Zjl n m e f (hid fun u hu=>Zce (h1.below hu) (h2.below hu) (hT.belows hu) n m e f he0 he1 hf0 hf1 n1 X e1 hx hy)).mono fun r w' h=>zero h
   | some y =>
     obtain ⟨m1,Y,f1⟩:=y;have HFM:=hid fun u (hu:Below w.heap.size w u)=>Zgc (h1.below hu) (h2.below hu) (hT.belows hu) n m e f he0 he1 hf0 hf1 n1 m1 X Y e1 f1 hx hy
     have FX:=Zo hx;have FY:=Zo hy;have lX:=Z0 FX;have lY:=Z0 FY;have:=FX.up;have:=FX.down;have:=FY.up;have:=FY.down
     show Calls _ _ _ _ fun r w'=>DAns w.heap.size w' r (mkS (n1 != m1) (X*Y) (e1+f1))∧_
     by_cases hL:LG (X*Y)
     · have hs:mulS X Y=(0,2):=by unfold mulS;rw [if_neg (by intro h;rcases h with h | h;exact notLG FX.size h;exact notLG FY.size h),if_pos hL]
       have hno:mkS (n1 != m1) (X*Y) (e1+f1)=none:=by
        have hb:=(Js _).1 hL;have h0:X*Y≠0:=by intro h;rw [h,Zu] at hb;omega
        have oX:X%2=1:=by rcases FX.odd with h | h;exact h;rw [h.1,Nat.zero_mul] at h0;exact absurd rfl h0
        have oY:Y%2=1:=by rcases FY.odd with h | h;exact h;rw [h.1,Nat.mul_zero] at h0;exact absurd rfl h0
        have hlo:lo (X*Y)=0:=Zjn (by rw [Nat.mul_mod,oX,oY])
        unfold mkS;rw [if_neg h0,if_pos (.inl (by rw [hlo];omega))]
       rw [hno];exact (Zn0 n m e f n1 m1 X Y e1 f1 lX lY (by omega) (by omega) (by omega) (by omega) HFM (hid fun u p q p2 q2 hu hA hB=>Zjm 0 2 hA hB hs)).mono fun r w' h=>zero h
     · have hs:mulS X Y=(X*Y,0):=by unfold mulS;rw [if_neg (by intro h;rcases h with h | h;exact notLG FX.size h;exact notLG FY.size h),if_neg hL]
       obtain ⟨L,hLe⟩:∃ L,X*Y=L:=⟨_,rfl⟩;rw [hLe] at hs hL ⊢;have lL:(ws L).length≤8192:=by unfold LG at hL;omega
       exact Zs9 n m e f n1 m1 X Y e1 f1 lX lY (by omega) (by omega) (by omega) (by omega) HFM L lL _ _ _ _ (Ze (n1 != m1) L (e1+f1)) (hid fun u p q p2 q2 hu hA hB=>Zjm L 0 hA hB hs)
        (hid fun u p s hu hA=>by have:=Z6 hA (hT.belows hu) (n1 != m1) (e1+f1) (by omega) (by omega);rw [Zc] at this;exact this)
theorem wrap64 (x:Int) (h0:-9223372036854775808≤x) (h1:x≤9223372036854775807):IntKind.i64.wrap x=x:=by rw [IntKind.wrap_i64];omega
theorem Zat (W:World) (g:Nat) (n:Bool) (v:Value) (e k:Int) (tmps:Array Value) (ht:tmps[4]?.getD undef=.pointer (some ⟨g,0,none⟩)) (hk:tmps[5]?.getD undef=.int .i64 k) (D:Dk W g n v e) :
 (results Tryz.f80 tmps).run Tryz.prog W=.ok (.tuple #[.agg #[.bool n,v,.int .i64 e],.int .i64 k]) W:=by
 obtain ⟨x0,x1,x2,xf0,xf1,xf2⟩:=D.facts;simp [results,Tryz.results80,ht,hk,go_sem,x0,x1,x2]
theorem Zqu {w:World}{a b:Option Addr}{l c k d:Nat}(n m:Bool) (e f:Int) (n1 m1:Bool) (X Y:Nat) (e1 f1:Int) (lX:(ws X).length≤8192) (lY:(ws Y).length≤8192)
 (HF1:Hid (∀ u,Below w.heap.size w u→Calls Tryz.prog 117 #[.agg #[.bool n,.slice a l c,.int .i64 e]] u fun r w'=>(∃ v,r=.returned (.tuple #[.agg #[.bool n1,v,.int .i64 e1],.bool false])∧Nt u.heap.size w' v X)∧Below u.heap.size u w'))
 (HF2:Hid (∀ u,Below w.heap.size w u→Calls Tryz.prog 117 #[.agg #[.bool m,.slice b k d,.int .i64 f]] u fun r w'=>(∃ v,r=.returned (.tuple #[.agg #[.bool m1,v,.int .i64 f1],.bool false])∧Nt u.heap.size w' v Y)∧Below u.heap.size u w')):Calls Tryz.prog 80 #[.agg #[.bool n,.slice a l c,.int .i64 e],.agg #[.bool m,.slice b k d,.int .i64 f]] w fun r w'=>r=.returned (.tuple #[.agg #[.bool false,.slice none 0 0,.int .i64 0],.int .i64 2])∧Below w.heap.size w w':=by
 obtain ⟨W1,hW1⟩:∃ W,W=((w.alloc (.cells #[.bool n,.slice a l c,.int .i64 e] 62)).alloc (.cells #[.bool m,.slice b k d,.int .i64 f] 62)).alloc (.cells #[.bool false,.slice none 0 0,.int .i64 0] 62):=⟨_,rfl⟩;obtain ⟨hB,hz1,DA,DB,DR⟩:=Zg w n m (.slice a l c) (.slice b k d) e f W1 hW1;have H1:=hid (HF1.out W1 hB);have SB:=(qsd (ai hB (ai hz1 (ai DA (ai DB DR)))));clear hB hz1 DA DB DR HF1;go_enter Tryz.func80,Tryz.ntmps80
 go_wp2_with fail
 rw [←hW1];clear hW1;refine H1.out.mono ?_;rintro r u1 ⟨⟨v,rfl,hN⟩,hb⟩;obtain ⟨a1,c1,rfl,_⟩:=hN.arg (by omega)
 obtain ⟨hB,hz1,DA,DB,DR⟩:=SB.out;obtain ⟨U1,hU1⟩:∃ U,U=u1.alloc (.cells #[.bool n1,.slice a1 (ws X).length c1,.int .i64 e1] 62):=⟨_,rfl⟩;have hA:Below u1.heap.size u1 U1:=by rw [hU1];exact Za _ _
 have hs1:w.heap.size+3≤u1.heap.size:=by have:=hb.size;omega
 have hs2:u1.heap.size<U1.heap.size:=by rw [hU1];simp
 have FB:=(DB.below hb).below hA;have FR:=(DR.below hb).below hA;have DX:Dk U1 u1.heap.size n1 (.slice a1 (ws X).length c1) e1:=by rw [hU1];exact Dk.new _ _ _ _
 have NX:Nt (w.heap.size+3) U1 (.slice a1 (ws X).length c1) X:=(hN.mono (by omega)).below hA
 have BU:Below w.heap.size w U1:=(hB.trans (hb.mono (by omega))).trans (hA.mono (by omega))
 have H2:=hid (HF2.out U1 BU);obtain ⟨y0,y1,y2,yf0,yf1,yf2⟩:=FB.facts;have S1:=(qsd (ai BU (ai FR (ai DX NX))));clear hN hb H1 hB hz1 hA DA DB DR FB FR DX NX BU SB HF2
 go_upto_region 2 with fail
 rw [←hU1];clear hU1
 go_wp2_with fail
 clear y0 y1 y2 yf0 yf1 yf2;refine H2.out.mono ?_;rintro r u2 ⟨⟨v,rfl,hM⟩,hb⟩;obtain ⟨a2,c2,rfl,_⟩:=hM.arg (by omega)
 obtain ⟨BU,FR,DX,NX⟩:=S1.out;obtain ⟨U2,hU2⟩:∃ U,U=u2.alloc (.cells #[.bool m1,.slice a2 (ws Y).length c2,.int .i64 f1] 62):=⟨_,rfl⟩;have hA:Below u2.heap.size u2 U2:=by rw [hU2];exact Za _ _
 have hs3:U1.heap.size≤u2.heap.size:=hb.size;have hs4:u2.heap.size<U2.heap.size:=by rw [hU2];simp
 have GR:=(FR.below hb).below hA;have GX:=(DX.below hb).below hA;have GY:Dk U2 u2.heap.size m1 (.slice a2 (ws Y).length c2) f1:=by rw [hU2];exact Dk.new _ _ _ _
 have MX:=(NX.below hb).below hA;have MY:Nt (w.heap.size+3) U2 (.slice a2 (ws Y).length c2) Y:=(hM.mono (by omega)).below hA
 have BV:Below w.heap.size w U2:=(BU.trans (hb.mono (by omega))).trans (hA.mono (by omega))
 have S2:=(qsd (ai BV (ai GR (ai GX (ai GY (ai MX MY))))));clear hM hb H2 hA FR DX NX BU GR GX GY MX MY BV S1
 go_upto_region 3 with fail
 rw [←hU2];clear hU2;obtain ⟨r0,r1,r2,rf0,rf1,rf2⟩:=S2.out.2.1.facts;obtain ⟨x0,x1,x2,xf0,xf1,xf2⟩:=S2.out.2.2.1.facts;obtain ⟨y0,y1,y2,yf0,yf1,yf2⟩:=S2.out.2.2.2.1.facts;go_wp2;refine bodyPost_ret (Zat _ (w.heap.size+1+1) false (.slice none 0 0) 0 2 _ rfl rfl (S2.out.2.1.set _ _ _)) rfl ⟨rfl,?_⟩;refine Fin.bel (m:=w.heap.size+3) (v:=.slice a1 (ws X).length c1) (X:=X) ?_;have FE:Fin w.heap.size (w.heap.size+3) w U2 (.slice a1 (ws X).length c1) X:=⟨S2.out.2.2.2.2.1,S2.out.1,by omega⟩
 repeat (with_reducible first | exact FE | refine Fin.drew ?_ | refine Fin.alloc ?_ _ | refine Fin.set ?_ _ _ _ (by omega) (by omega))
theorem Zqv {w:World}{a b:Option Addr}{l c k d:Nat}(n m:Bool) (e f:Int) (n1 m1:Bool) (X Y:Nat) (e1 f1:Int) (lX:(ws X).length≤8192) (lY:(ws Y).length≤8192)
 (HF1:Hid (∀ u,Below w.heap.size w u→Calls Tryz.prog 117 #[.agg #[.bool n,.slice a l c,.int .i64 e]] u fun r w'=>(∃ v,r=.returned (.tuple #[.agg #[.bool n1,v,.int .i64 e1],.bool false])∧Nt u.heap.size w' v X)∧Below u.heap.size u w'))
 (HF2:Hid (∀ u,Below w.heap.size w u→Calls Tryz.prog 117 #[.agg #[.bool m,.slice b k d,.int .i64 f]] u fun r w'=>(∃ v,r=.returned (.tuple #[.agg #[.bool m1,v,.int .i64 f1],.bool true])∧Nt u.heap.size w' v Y)∧Below u.heap.size u w')):Calls Tryz.prog 80 #[.agg #[.bool n,.slice a l c,.int .i64 e],.agg #[.bool m,.slice b k d,.int .i64 f]] w fun r w'=>r=.returned (.tuple #[.agg #[.bool false,.slice none 0 0,.int .i64 0],.int .i64 2])∧Below w.heap.size w w':=by
 obtain ⟨W1,hW1⟩:∃ W,W=((w.alloc (.cells #[.bool n,.slice a l c,.int .i64 e] 62)).alloc (.cells #[.bool m,.slice b k d,.int .i64 f] 62)).alloc (.cells #[.bool false,.slice none 0 0,.int .i64 0] 62):=⟨_,rfl⟩;obtain ⟨hB,hz1,DA,DB,DR⟩:=Zg w n m (.slice a l c) (.slice b k d) e f W1 hW1;have H1:=hid (HF1.out W1 hB);have SB:=(qsd (ai hB (ai hz1 (ai DA (ai DB DR)))));clear hB hz1 DA DB DR HF1;go_enter Tryz.func80,Tryz.ntmps80
 go_wp2_with fail
 rw [←hW1];clear hW1;refine H1.out.mono ?_;rintro r u1 ⟨⟨v,rfl,hN⟩,hb⟩;obtain ⟨a1,c1,rfl,_⟩:=hN.arg (by omega)
 obtain ⟨hB,hz1,DA,DB,DR⟩:=SB.out;obtain ⟨U1,hU1⟩:∃ U,U=u1.alloc (.cells #[.bool n1,.slice a1 (ws X).length c1,.int .i64 e1] 62):=⟨_,rfl⟩;have hA:Below u1.heap.size u1 U1:=by rw [hU1];exact Za _ _
 have hs1:w.heap.size+3≤u1.heap.size:=by have:=hb.size;omega
 have hs2:u1.heap.size<U1.heap.size:=by rw [hU1];simp
 have FB:=(DB.below hb).below hA;have FR:=(DR.below hb).below hA;have DX:Dk U1 u1.heap.size n1 (.slice a1 (ws X).length c1) e1:=by rw [hU1];exact Dk.new _ _ _ _
 have NX:Nt (w.heap.size+3) U1 (.slice a1 (ws X).length c1) X:=(hN.mono (by omega)).below hA
 have BU:Below w.heap.size w U1:=(hB.trans (hb.mono (by omega))).trans (hA.mono (by omega))
 have H2:=hid (HF2.out U1 BU);obtain ⟨y0,y1,y2,yf0,yf1,yf2⟩:=FB.facts;have S1:=(qsd (ai BU (ai FR (ai DX NX))));clear hN hb H1 hB hz1 hA DA DB DR FB FR DX NX BU SB HF2
 go_upto_region 2 with fail
 rw [←hU1];clear hU1
 go_wp2_with fail
 clear y0 y1 y2 yf0 yf1 yf2;refine H2.out.mono ?_;rintro r u2 ⟨⟨v,rfl,hM⟩,hb⟩;obtain ⟨a2,c2,rfl,_⟩:=hM.arg (by omega)
 obtain ⟨BU,FR,DX,NX⟩:=S1.out;obtain ⟨U2,hU2⟩:∃ U,U=u2.alloc (.cells #[.bool m1,.slice a2 (ws Y).length c2,.int .i64 f1] 62):=⟨_,rfl⟩;have hA:Below u2.heap.size u2 U2:=by rw [hU2];exact Za _ _
 have hs3:U1.heap.size≤u2.heap.size:=hb.size;have hs4:u2.heap.size<U2.heap.size:=by rw [hU2];simp
 have GR:=(FR.below hb).below hA;have GX:=(DX.below hb).below hA;have GY:Dk U2 u2.heap.size m1 (.slice a2 (ws Y).length c2) f1:=by rw [hU2];exact Dk.new _ _ _ _
 have MX:=(NX.below hb).below hA;have MY:Nt (w.heap.size+3) U2 (.slice a2 (ws Y).length c2) Y:=(hM.mono (by omega)).below hA
 have BV:Below w.heap.size w U2:=(BU.trans (hb.mono (by omega))).trans (hA.mono (by omega))
 have S2:=(qsd (ai BV (ai GR (ai GX (ai GY (ai MX MY))))));clear hM hb H2 hA FR DX NX BU GR GX GY MX MY BV S1
 go_upto_region 3 with fail
 rw [←hU2];clear hU2;obtain ⟨r0,r1,r2,rf0,rf1,rf2⟩:=S2.out.2.1.facts;obtain ⟨x0,x1,x2,xf0,xf1,xf2⟩:=S2.out.2.2.1.facts;obtain ⟨y0,y1,y2,yf0,yf1,yf2⟩:=S2.out.2.2.2.1.facts;go_wp2;refine bodyPost_ret (Zat _ (w.heap.size+1+1) false (.slice none 0 0) 0 2 _ rfl rfl (S2.out.2.1.set _ _ _)) rfl ⟨rfl,?_⟩;refine Fin.bel (m:=w.heap.size+3) (v:=.slice a1 (ws X).length c1) (X:=X) ?_;have FE:Fin w.heap.size (w.heap.size+3) w U2 (.slice a1 (ws X).length c1) X:=⟨S2.out.2.2.2.2.1,S2.out.1,by omega⟩
 repeat (with_reducible first | exact FE | refine Fin.drew ?_ | refine Fin.alloc ?_ _ | refine Fin.set ?_ _ _ _ (by omega) (by omega))
theorem Zqw {w:World}{a b:Option Addr}{l c k d:Nat}(n m:Bool) (e f:Int) (n1 m1:Bool) (X Y:Nat) (e1 f1:Int) (lX:(ws X).length≤8192) (lY:(ws Y).length≤8192)
 (HF1:Hid (∀ u,Below w.heap.size w u→Calls Tryz.prog 117 #[.agg #[.bool n,.slice a l c,.int .i64 e]] u fun r w'=>(∃ v,r=.returned (.tuple #[.agg #[.bool n1,v,.int .i64 e1],.bool true])∧Nt u.heap.size w' v X)∧Below u.heap.size u w'))
 (HF2:Hid (∀ u,Below w.heap.size w u→Calls Tryz.prog 117 #[.agg #[.bool m,.slice b k d,.int .i64 f]] u fun r w'=>(∃ v,r=.returned (.tuple #[.agg #[.bool m1,v,.int .i64 f1],.bool false])∧Nt u.heap.size w' v Y)∧Below u.heap.size u w')):Calls Tryz.prog 80 #[.agg #[.bool n,.slice a l c,.int .i64 e],.agg #[.bool m,.slice b k d,.int .i64 f]] w fun r w'=>r=.returned (.tuple #[.agg #[.bool false,.slice none 0 0,.int .i64 0],.int .i64 2])∧Below w.heap.size w w':=by
 obtain ⟨W1,hW1⟩:∃ W,W=((w.alloc (.cells #[.bool n,.slice a l c,.int .i64 e] 62)).alloc (.cells #[.bool m,.slice b k d,.int .i64 f] 62)).alloc (.cells #[.bool false,.slice none 0 0,.int .i64 0] 62):=⟨_,rfl⟩;obtain ⟨hB,hz1,DA,DB,DR⟩:=Zg w n m (.slice a l c) (.slice b k d) e f W1 hW1;have H1:=hid (HF1.out W1 hB);have SB:=(qsd (ai hB (ai hz1 (ai DA (ai DB DR)))));clear hB hz1 DA DB DR HF1;go_enter Tryz.func80,Tryz.ntmps80
 go_wp2_with fail
 rw [←hW1];clear hW1;refine H1.out.mono ?_;rintro r u1 ⟨⟨v,rfl,hN⟩,hb⟩;obtain ⟨a1,c1,rfl,_⟩:=hN.arg (by omega)
 obtain ⟨hB,hz1,DA,DB,DR⟩:=SB.out;obtain ⟨U1,hU1⟩:∃ U,U=u1.alloc (.cells #[.bool n1,.slice a1 (ws X).length c1,.int .i64 e1] 62):=⟨_,rfl⟩;have hA:Below u1.heap.size u1 U1:=by rw [hU1];exact Za _ _
 have hs1:w.heap.size+3≤u1.heap.size:=by have:=hb.size;omega
 have hs2:u1.heap.size<U1.heap.size:=by rw [hU1];simp
 have FB:=(DB.below hb).below hA;have FR:=(DR.below hb).below hA;have DX:Dk U1 u1.heap.size n1 (.slice a1 (ws X).length c1) e1:=by rw [hU1];exact Dk.new _ _ _ _
 have NX:Nt (w.heap.size+3) U1 (.slice a1 (ws X).length c1) X:=(hN.mono (by omega)).below hA
 have BU:Below w.heap.size w U1:=(hB.trans (hb.mono (by omega))).trans (hA.mono (by omega))
 have H2:=hid (HF2.out U1 BU);obtain ⟨y0,y1,y2,yf0,yf1,yf2⟩:=FB.facts;have S1:=(qsd (ai BU (ai FR (ai DX NX))));clear hN hb H1 hB hz1 hA DA DB DR FB FR DX NX BU SB HF2
 go_upto_region 2 with fail
 rw [←hU1];clear hU1
 go_wp2_with fail
 clear y0 y1 y2 yf0 yf1 yf2;refine H2.out.mono ?_;rintro r u2 ⟨⟨v,rfl,hM⟩,hb⟩;obtain ⟨a2,c2,rfl,_⟩:=hM.arg (by omega)
 obtain ⟨BU,FR,DX,NX⟩:=S1.out;obtain ⟨U2,hU2⟩:∃ U,U=u2.alloc (.cells #[.bool m1,.slice a2 (ws Y).length c2,.int .i64 f1] 62):=⟨_,rfl⟩;have hA:Below u2.heap.size u2 U2:=by rw [hU2];exact Za _ _
 have hs3:U1.heap.size≤u2.heap.size:=hb.size;have hs4:u2.heap.size<U2.heap.size:=by rw [hU2];simp
 have GR:=(FR.below hb).below hA;have GX:=(DX.below hb).below hA;have GY:Dk U2 u2.heap.size m1 (.slice a2 (ws Y).length c2) f1:=by rw [hU2];exact Dk.new _ _ _ _
 have MX:=(NX.below hb).below hA;have MY:Nt (w.heap.size+3) U2 (.slice a2 (ws Y).length c2) Y:=(hM.mono (by omega)).below hA
 have BV:Below w.heap.size w U2:=(BU.trans (hb.mono (by omega))).trans (hA.mono (by omega))
 have S2:=(qsd (ai BV (ai GR (ai GX (ai GY (ai MX MY))))));clear hM hb H2 hA FR DX NX BU GR GX GY MX MY BV S1
 go_upto_region 3 with fail
 rw [←hU2];clear hU2;obtain ⟨r0,r1,r2,rf0,rf1,rf2⟩:=S2.out.2.1.facts;obtain ⟨x0,x1,x2,xf0,xf1,xf2⟩:=S2.out.2.2.1.facts;obtain ⟨y0,y1,y2,yf0,yf1,yf2⟩:=S2.out.2.2.2.1.facts;go_wp2;refine bodyPost_ret (Zat _ (w.heap.size+1+1) false (.slice none 0 0) 0 2 _ rfl rfl (S2.out.2.1.set _ _ _)) rfl ⟨rfl,?_⟩;refine Fin.bel (m:=w.heap.size+3) (v:=.slice a1 (ws X).length c1) (X:=X) ?_;have FE:Fin w.heap.size (w.heap.size+3) w U2 (.slice a1 (ws X).length c1) X:=⟨S2.out.2.2.2.2.1,S2.out.1,by omega⟩
 repeat (with_reducible first | exact FE | refine Fin.drew ?_ | refine Fin.alloc ?_ _ | refine Fin.set ?_ _ _ _ (by omega) (by omega))
theorem Zqx {w:World}{a b:Option Addr}{l c k d:Nat}(n m:Bool) (e f:Int) (n1 m1:Bool) (X Y:Nat) (e1 f1:Int) (lX:(ws X).length≤8192) (lY:(ws Y).length≤8192) (be0:-1048576≤e1) (be1:e1≤1048576) (bf0:-1048576≤f1) (bf1:f1≤1048576) (L:Nat) (lL:(ws L).length≤1000000) (dn:Bool) (V:Nat) (de er:Int) (lV:(ws V).length≤8192)
 (HF1:Hid (∀ u,Below w.heap.size w u→Calls Tryz.prog 117 #[.agg #[.bool n,.slice a l c,.int .i64 e]] u fun r w'=>(∃ v,r=.returned (.tuple #[.agg #[.bool n1,v,.int .i64 e1],.bool true])∧Nt u.heap.size w' v X)∧Below u.heap.size u w'))
 (HF2:Hid (∀ u,Below w.heap.size w u→Calls Tryz.prog 117 #[.agg #[.bool m,.slice b k d,.int .i64 f]] u fun r w'=>(∃ v,r=.returned (.tuple #[.agg #[.bool m1,v,.int .i64 f1],.bool true])∧Nt u.heap.size w' v Y)∧Below u.heap.size u w'))
 (HT:Hid (∀ (u:World) (p q:Option Addr) (s t:Nat),Below w.heap.size w u→Arg u p (ws X).length s (ws X)→Arg u q (ws Y).length t (ws Y)→Calls Tryz.prog 119 #[.slice p (ws X).length s,.slice q (ws Y).length t] u fun r w'=>∃ v,r=.returned v∧Nt u.heap.size w' v L∧Below u.heap.size u w'))
 (HL:Hid (∀ (u:World) (p:Option Addr) (s:Nat),Below w.heap.size w u→Arg u p (ws L).length s (ws L)→Calls Tryz.prog 118 #[.bool (!(n1==m1)),.slice p (ws L).length s,.int .i64 (IntKind.i64.wrap (e1+f1))] u fun r w'=>(∃ v,r=.returned (.tuple #[.agg #[.bool dn,v,.int .i64 de],.int .i64 er])∧Nt u.heap.size w' v V)∧Below u.heap.size u w')):Calls Tryz.prog 80 #[.agg #[.bool n,.slice a l c,.int .i64 e],.agg #[.bool m,.slice b k d,.int .i64 f]] w fun r w'=>(∃ v,r=.returned (.tuple #[.agg #[.bool dn,v,.int .i64 de],.int .i64 er])∧Nt w.heap.size w' v V)∧Below w.heap.size w w':=by
 obtain ⟨W1,hW1⟩:∃ W,W=((w.alloc (.cells #[.bool n,.slice a l c,.int .i64 e] 62)).alloc (.cells #[.bool m,.slice b k d,.int .i64 f] 62)).alloc (.cells #[.bool false,.slice none 0 0,.int .i64 0] 62):=⟨_,rfl⟩;obtain ⟨hB,hz1,DA,DB,DR⟩:=Zg w n m (.slice a l c) (.slice b k d) e f W1 hW1;have H1:=hid (HF1.out W1 hB);have SB:=(qsd (ai hB (ai hz1 (ai DA (ai DB DR)))));clear hB hz1 DA DB DR HF1;go_enter Tryz.func80,Tryz.ntmps80
 go_wp2_with fail
 rw [←hW1];clear hW1;refine H1.out.mono ?_;rintro r u1 ⟨⟨v,rfl,hN⟩,hb⟩;obtain ⟨a1,c1,rfl,_⟩:=hN.arg (by omega)
 obtain ⟨hB,hz1,DA,DB,DR⟩:=SB.out;obtain ⟨U1,hU1⟩:∃ U,U=u1.alloc (.cells #[.bool n1,.slice a1 (ws X).length c1,.int .i64 e1] 62):=⟨_,rfl⟩;have hA:Below u1.heap.size u1 U1:=by rw [hU1];exact Za _ _
 have hs1:w.heap.size+3≤u1.heap.size:=by have:=hb.size;omega
 have hs2:u1.heap.size<U1.heap.size:=by rw [hU1];simp
 have FB:=(DB.below hb).below hA;have FR:=(DR.below hb).below hA;have DX:Dk U1 u1.heap.size n1 (.slice a1 (ws X).length c1) e1:=by rw [hU1];exact Dk.new _ _ _ _
 have NX:Nt (w.heap.size+3) U1 (.slice a1 (ws X).length c1) X:=(hN.mono (by omega)).below hA
 have BU:Below w.heap.size w U1:=(hB.trans (hb.mono (by omega))).trans (hA.mono (by omega))
 have H2:=hid (HF2.out U1 BU);obtain ⟨y0,y1,y2,yf0,yf1,yf2⟩:=FB.facts;have S1:=(qsd (ai BU (ai FR (ai DX NX))));clear hN hb H1 hB hz1 hA DA DB DR FB FR DX NX BU SB HF2
 go_upto_region 2 with fail
 rw [←hU1];clear hU1
 go_wp2_with fail
 clear y0 y1 y2 yf0 yf1 yf2;refine H2.out.mono ?_;rintro r u2 ⟨⟨v,rfl,hM⟩,hb⟩;obtain ⟨a2,c2,rfl,_⟩:=hM.arg (by omega)
 obtain ⟨BU,FR,DX,NX⟩:=S1.out;obtain ⟨U2,hU2⟩:∃ U,U=u2.alloc (.cells #[.bool m1,.slice a2 (ws Y).length c2,.int .i64 f1] 62):=⟨_,rfl⟩;have hA:Below u2.heap.size u2 U2:=by rw [hU2];exact Za _ _
 have hs3:U1.heap.size≤u2.heap.size:=hb.size;have hs4:u2.heap.size<U2.heap.size:=by rw [hU2];simp
 have GR:=(FR.below hb).below hA;have GX:=(DX.below hb).below hA;have GY:Dk U2 u2.heap.size m1 (.slice a2 (ws Y).length c2) f1:=by rw [hU2];exact Dk.new _ _ _ _
 have MX:=(NX.below hb).below hA;have MY:Nt (w.heap.size+3) U2 (.slice a2 (ws Y).length c2) Y:=(hM.mono (by omega)).below hA
 have BV:Below w.heap.size w U2:=(BU.trans (hb.mono (by omega))).trans (hA.mono (by omega))
 have S2:=(qsd (ai BV (ai GR (ai GX (ai GY (ai MX MY))))));clear hM hb H2 hA FR DX NX BU GR GX GY MX MY BV S1
 go_upto_region 5 with fail
 rw [←hU2];clear hU2;obtain ⟨r0,r1,r2,rf0,rf1,rf2⟩:=S2.out.2.1.facts;obtain ⟨x0,x1,x2,xf0,xf1,xf2⟩:=S2.out.2.2.1.facts;obtain ⟨y0,y1,y2,yf0,yf1,yf2⟩:=S2.out.2.2.2.1.facts;have ne1:u1.heap.size≠w.heap.size+1+1:=by omega
 have ne2:u2.heap.size≠w.heap.size+1+1:=by omega
 have ne3:w.heap.size+1+1≠u1.heap.size:=by omega
 have ne4:w.heap.size+1+1≠u2.heap.size:=by omega
 have T1:=hid (HT.out U2 a1 a2 c1 c2 S2.out.1 (S2.out.2.2.2.2.1.arg' (by omega)).2 (S2.out.2.2.2.2.2.arg' (by omega)).2)
 have T2:=hid (HT.out U2.drew a1 a2 c1 c2 (Below.drew S2.out.1) (Arg.drew' (S2.out.2.2.2.2.1.arg' (by omega)).2) (Arg.drew' (S2.out.2.2.2.2.2.arg' (by omega)).2))
 go_region_held3 (fun w'=>w'.cell? ⟨u1.heap.size,0,none⟩=some (.bool n1)∧w'.cell? ⟨u1.heap.size,1,none⟩=some (.slice a1 (ws X).length c1)∧w'.cell? ⟨u1.heap.size,2,none⟩=some (.int .i64 e1)∧w'.cell? ⟨u2.heap.size,0,none⟩=some (.bool m1)∧w'.cell? ⟨u2.heap.size,1,none⟩=some (.slice a2 (ws Y).length c2)∧w'.cell? ⟨u2.heap.size,2,none⟩=some (.int .i64 f1)) (go_keep) (first
  | (go_at_call 119
     first | with_reducible refine T1.out.mono ?_ | with_reducible refine T2.out.mono ?_
     rintro r u3 ⟨v,rfl,hN,hb⟩;obtain ⟨a3,c3,rfl,_⟩:=hN.arg (by omega)
     have hb3:Below U2.heap.size U2 u3:=by first | exact hb | exact ((Below.refl _ U2).drew).trans (hb.mono (Nat.le_refl _))
     have HL3:=hid (HL.out u3 a3 c3 (S2.out.1.trans (hb3.mono (by omega))) (hN.arg' (by omega)).2)
     have KR:=S2.out.2.1.below hb3;have KX:=S2.out.2.2.1.below hb3;have KY:=S2.out.2.2.2.1.below hb3;obtain ⟨p0,p1,p2,pf0,pf1,pf2⟩:=KR.facts;obtain ⟨q0,q1,q2,qf0,qf1,qf2⟩:=KX.facts;obtain ⟨s0,s1,s2,sf0,sf1,sf2⟩:=KY.facts;have hs9:U2.heap.size≤u3.heap.size:=hb3.size;have S9:=(qsd (ai (S2.out.1.trans (hb3.mono (by omega))) (ai KR (ai KX KY))))
     clear hN hb hb3 KR KX KY)
  | (go_at_call 118
     with_reducible refine HL3.out.mono ?_
     rintro r u4 ⟨⟨v,rfl,hN⟩,hb⟩;obtain ⟨a4,c4,rfl,_⟩:=hN.arg (by omega)
     have LR:=S9.out.2.1.below hb;obtain ⟨t0,t1,t2,tf0,tf1,tf2⟩:=LR.facts;obtain ⟨i0,i1,i2,if0,if1,if2⟩:=(S9.out.2.2.1.below hb).facts;obtain ⟨j0,j1,j2,jf0,jf1,jf2⟩:=(S9.out.2.2.2.below hb).facts;have FV:=qsd (show Fin w.heap.size (w.heap.size+3) w u4 (.slice a4 (ws V).length c4) V from ⟨hN.mono (by omega),S9.out.1.trans (hb.mono (by omega)),by have:=hb.size;omega⟩)
     have S10:=qsd LR;clear hN hb LR))
 all_goals (
  go_wp2;refine bodyPost_ret (Zat _ (w.heap.size+1+1) dn (.slice a4 (ws V).length c4) de er _ rfl rfl (S10.out.set _ _ _)) rfl ?_;refine Fin.dans (m:=w.heap.size+3) ?_ (by omega)
  repeat (with_reducible first | exact FV.out | refine Fin.drew ?_ | refine Fin.alloc ?_ _ | refine Fin.set ?_ _ _ _ (by omega) (by omega)))
theorem Zlz {w:World}{a b:Option Addr}{l c k d:Nat}{xs ys:List Nat}(h1:Arg w a l c xs) (h2:Arg w b k d ys) (hl:l≤2000000) (hk:k≤2000000) (n m:Bool) (e f:Int) (he0:-9223372036854775808≤e) (he1:e≤9223372036854775807) (hf0:-9223372036854775808≤f) (hf1:f≤9223372036854775807) :
 Calls Tryz.prog 80 #[.agg #[.bool n,.slice a l c,.int .i64 e],.agg #[.bool m,.slice b k d,.int .i64 f]] w fun r w'=>DAns w.heap.size w' r (mulD (mkS n (val xs) e) (mkS m (val ys) f))∧Below w.heap.size w w':=by
 have zero:∀ {r:Ending} {w':World},(r=.returned (.tuple #[.agg #[.bool false,.slice none 0 0,.int .i64 0],.int .i64 2])∧Below w.heap.size w w')→DAns w.heap.size w' r none∧Below w.heap.size w w':=fun ⟨h1,h2⟩=>⟨⟨_,h1,Nt.nil _ _⟩,h2⟩
 have M1:=hid fun u (hu:Below w.heap.size w u)=>Yw (h1.below hu) hl n e he0 he1
 have M2:=hid fun u (hu:Below w.heap.size w u)=>Yw (h2.below hu) hk m f hf0 hf1
 have z0:(ws 0).length≤8192:=by rw [Zj];exact Nat.zero_le _
 cases hx:mkS n (val xs) e with
 | none =>
   cases hy:mkS m (val ys) f with
   | none =>
     rw [hx] at M1;rw [hy] at M2;exact (Zqu n m e f false false 0 0 0 0 z0 z0 M1 M2).mono fun r w' h=>zero h
   | some y =>
     obtain ⟨m1,Y,f1⟩:=y;rw [hx] at M1;rw [hy] at M2;exact (Zqv n m e f false m1 0 Y 0 f1 z0 (Z0 (Zo hy)) M1 M2).mono fun r w' h=>zero h
 | some x =>
   obtain ⟨n1,X,e1⟩:=x
   cases hy:mkS m (val ys) f with
   | none =>
     rw [hx] at M1;rw [hy] at M2;exact (Zqw n m e f n1 false X 0 e1 0 (Z0 (Zo hx)) z0 M1 M2).mono fun r w' h=>zero h
   | some y =>
     obtain ⟨m1,Y,f1⟩:=y;rw [hx] at M1;rw [hy] at M2;have FX:=Zo hx;have FY:=Zo hy;have lX:=Z0 FX;have lY:=Z0 FY;have:=FX.up;have:=FX.down;have:=FY.up;have:=FY.down
     show Calls _ _ _ _ fun r w'=>DAns w.heap.size w' r (mkS (n1 != m1) (X*Y) (e1+f1))∧_
     have lL:(ws (X*Y)).length≤16384:=by
      have h1:=Qc X;have h2:=Qc Y
      have h3:X*Y<pw ((ws X).length+(ws Y).length):=by
       rw [Zbh];exact Nat.mul_lt_mul'' h1 h2
      have:=(Zf _ _).2 h3;omega
     obtain ⟨L,hLe⟩:∃ L,X*Y=L:=⟨_,rfl⟩;rw [hLe] at lL ⊢
     exact Zqx n m e f n1 m1 X Y e1 f1 lX lY (by omega) (by omega) (by omega) (by omega) L (by omega) _ _ _ _ (Ze (n1 != m1) L (e1+f1)) M1 M2
      (hid fun u p q s t hu hA hB=>Yi hA hB (by omega) (by rw [Zc,Zc];exact hLe))
      (hid fun u p s hu hA=>by have:=J5 hA (by omega) (n1 != m1) (e1+f1) (by omega) (by omega);rw [Zc] at this;rw [wrap64 (e1+f1) (by omega) (by omega)];exact this)
theorem Qm (W:World) (g:Nat) (n:Bool) (v:Value) (e k:Int) (tmps:Array Value) (ht:tmps[4]?.getD undef=.pointer (some ⟨g,0,none⟩)) (hk:tmps[5]?.getD undef=.int .i64 k) (D:Dk W g n v e) :
 (results Tryz.f93 tmps).run Tryz.prog W=.ok (.tuple #[.agg #[.bool n,v,.int .i64 e],.int .i64 k]) W:=by
 obtain ⟨x0,x1,x2,xf0,xf1,xf2⟩:=D.facts;simp [results,Tryz.results93,ht,hk,go_sem,x0,x1,x2]
theorem Zqy {w:World}{a b:Option Addr}{l c k d:Nat}(n m:Bool) (e f:Int) (n1 m1:Bool) (X Y:Nat) (e1 f1:Int) (lX:(ws X).length≤8192) (lY:(ws Y).length≤8192)
 (HF1:Hid (∀ u,Below w.heap.size w u→Calls Tryz.prog 117 #[.agg #[.bool n,.slice a l c,.int .i64 e]] u fun r w'=>(∃ v,r=.returned (.tuple #[.agg #[.bool n1,v,.int .i64 e1],.bool false])∧Nt u.heap.size w' v X)∧Below u.heap.size u w'))
 (HF2:Hid (∀ u,Below w.heap.size w u→Calls Tryz.prog 117 #[.agg #[.bool m,.slice b k d,.int .i64 f]] u fun r w'=>(∃ v,r=.returned (.tuple #[.agg #[.bool m1,v,.int .i64 f1],.bool false])∧Nt u.heap.size w' v Y)∧Below u.heap.size u w')):Calls Tryz.prog 93 #[.agg #[.bool n,.slice a l c,.int .i64 e],.agg #[.bool m,.slice b k d,.int .i64 f]] w fun r w'=>r=.returned (.tuple #[.agg #[.bool false,.slice none 0 0,.int .i64 0],.int .i64 2])∧Below w.heap.size w w':=by
 obtain ⟨W1,hW1⟩:∃ W,W=((w.alloc (.cells #[.bool n,.slice a l c,.int .i64 e] 62)).alloc (.cells #[.bool m,.slice b k d,.int .i64 f] 62)).alloc (.cells #[.bool false,.slice none 0 0,.int .i64 0] 62):=⟨_,rfl⟩;obtain ⟨hB,hz1,DA,DB,DR⟩:=Zg w n m (.slice a l c) (.slice b k d) e f W1 hW1;have H1:=hid (HF1.out W1 hB);have SB:=(qsd (ai hB (ai hz1 (ai DA (ai DB DR)))));clear hB hz1 DA DB DR HF1;go_enter Tryz.func93,Tryz.ntmps93
 go_wp2_with fail
 rw [←hW1];clear hW1;refine H1.out.mono ?_;rintro r u1 ⟨⟨v,rfl,hN⟩,hb⟩;obtain ⟨a1,c1,rfl,_⟩:=hN.arg (by omega)
 obtain ⟨hB,hz1,DA,DB,DR⟩:=SB.out;obtain ⟨U1,hU1⟩:∃ U,U=u1.alloc (.cells #[.bool n1,.slice a1 (ws X).length c1,.int .i64 e1] 62):=⟨_,rfl⟩;have hA:Below u1.heap.size u1 U1:=by rw [hU1];exact Za _ _
 have hs1:w.heap.size+3≤u1.heap.size:=by have:=hb.size;omega
 have hs2:u1.heap.size<U1.heap.size:=by rw [hU1];simp
 have FB:=(DB.below hb).below hA;have FR:=(DR.below hb).below hA;have DX:Dk U1 u1.heap.size n1 (.slice a1 (ws X).length c1) e1:=by rw [hU1];exact Dk.new _ _ _ _
 have NX:Nt (w.heap.size+3) U1 (.slice a1 (ws X).length c1) X:=(hN.mono (by omega)).below hA
 have BU:Below w.heap.size w U1:=(hB.trans (hb.mono (by omega))).trans (hA.mono (by omega))
 have H2:=hid (HF2.out U1 BU);obtain ⟨y0,y1,y2,yf0,yf1,yf2⟩:=FB.facts;have S1:=(qsd (ai BU (ai FR (ai DX NX))));clear hN hb H1 hB hz1 hA DA DB DR FB FR DX NX BU SB HF2
 go_upto_region 2 with fail
 rw [←hU1];clear hU1
 go_wp2_with fail
 clear y0 y1 y2 yf0 yf1 yf2;refine H2.out.mono ?_;rintro r u2 ⟨⟨v,rfl,hM⟩,hb⟩;obtain ⟨a2,c2,rfl,_⟩:=hM.arg (by omega)
 obtain ⟨BU,FR,DX,NX⟩:=S1.out;obtain ⟨U2,hU2⟩:∃ U,U=u2.alloc (.cells #[.bool m1,.slice a2 (ws Y).length c2,.int .i64 f1] 62):=⟨_,rfl⟩;have hA:Below u2.heap.size u2 U2:=by rw [hU2];exact Za _ _
 have hs3:U1.heap.size≤u2.heap.size:=hb.size;have hs4:u2.heap.size<U2.heap.size:=by rw [hU2];simp
 have GR:=(FR.below hb).below hA;have GX:=(DX.below hb).below hA;have GY:Dk U2 u2.heap.size m1 (.slice a2 (ws Y).length c2) f1:=by rw [hU2];exact Dk.new _ _ _ _
 have MX:=(NX.below hb).below hA;have MY:Nt (w.heap.size+3) U2 (.slice a2 (ws Y).length c2) Y:=(hM.mono (by omega)).below hA
 have BV:Below w.heap.size w U2:=(BU.trans (hb.mono (by omega))).trans (hA.mono (by omega))
 have S2:=(qsd (ai BV (ai GR (ai GX (ai GY (ai MX MY))))));clear hM hb H2 hA FR DX NX BU GR GX GY MX MY BV S1
 go_upto_region 3 with fail
 rw [←hU2];clear hU2;obtain ⟨r0,r1,r2,rf0,rf1,rf2⟩:=S2.out.2.1.facts;obtain ⟨x0,x1,x2,xf0,xf1,xf2⟩:=S2.out.2.2.1.facts;obtain ⟨y0,y1,y2,yf0,yf1,yf2⟩:=S2.out.2.2.2.1.facts;go_wp2;refine bodyPost_ret (Qm _ (w.heap.size+1+1) false (.slice none 0 0) 0 2 _ rfl rfl (S2.out.2.1.set _ _ _)) rfl ⟨rfl,?_⟩;refine Fin.bel (m:=w.heap.size+3) (v:=.slice a1 (ws X).length c1) (X:=X) ?_;have FE:Fin w.heap.size (w.heap.size+3) w U2 (.slice a1 (ws X).length c1) X:=⟨S2.out.2.2.2.2.1,S2.out.1,by omega⟩
 repeat (with_reducible first | exact FE | refine Fin.drew ?_ | refine Fin.alloc ?_ _ | refine Fin.set ?_ _ _ _ (by omega) (by omega))
theorem Zqz {w:World}{a b:Option Addr}{l c k d:Nat}(n m:Bool) (e f:Int) (n1 m1:Bool) (X Y:Nat) (e1 f1:Int) (lX:(ws X).length≤8192) (lY:(ws Y).length≤8192)
 (HF1:Hid (∀ u,Below w.heap.size w u→Calls Tryz.prog 117 #[.agg #[.bool n,.slice a l c,.int .i64 e]] u fun r w'=>(∃ v,r=.returned (.tuple #[.agg #[.bool n1,v,.int .i64 e1],.bool false])∧Nt u.heap.size w' v X)∧Below u.heap.size u w'))
 (HF2:Hid (∀ u,Below w.heap.size w u→Calls Tryz.prog 117 #[.agg #[.bool m,.slice b k d,.int .i64 f]] u fun r w'=>(∃ v,r=.returned (.tuple #[.agg #[.bool m1,v,.int .i64 f1],.bool true])∧Nt u.heap.size w' v Y)∧Below u.heap.size u w')):Calls Tryz.prog 93 #[.agg #[.bool n,.slice a l c,.int .i64 e],.agg #[.bool m,.slice b k d,.int .i64 f]] w fun r w'=>r=.returned (.tuple #[.agg #[.bool false,.slice none 0 0,.int .i64 0],.int .i64 2])∧Below w.heap.size w w':=by
 obtain ⟨W1,hW1⟩:∃ W,W=((w.alloc (.cells #[.bool n,.slice a l c,.int .i64 e] 62)).alloc (.cells #[.bool m,.slice b k d,.int .i64 f] 62)).alloc (.cells #[.bool false,.slice none 0 0,.int .i64 0] 62):=⟨_,rfl⟩;obtain ⟨hB,hz1,DA,DB,DR⟩:=Zg w n m (.slice a l c) (.slice b k d) e f W1 hW1;have H1:=hid (HF1.out W1 hB);have SB:=(qsd (ai hB (ai hz1 (ai DA (ai DB DR)))));clear hB hz1 DA DB DR HF1;go_enter Tryz.func93,Tryz.ntmps93
 go_wp2_with fail
 rw [←hW1];clear hW1;refine H1.out.mono ?_;rintro r u1 ⟨⟨v,rfl,hN⟩,hb⟩;obtain ⟨a1,c1,rfl,_⟩:=hN.arg (by omega)
 obtain ⟨hB,hz1,DA,DB,DR⟩:=SB.out;obtain ⟨U1,hU1⟩:∃ U,U=u1.alloc (.cells #[.bool n1,.slice a1 (ws X).length c1,.int .i64 e1] 62):=⟨_,rfl⟩;have hA:Below u1.heap.size u1 U1:=by rw [hU1];exact Za _ _
 have hs1:w.heap.size+3≤u1.heap.size:=by have:=hb.size;omega
 have hs2:u1.heap.size<U1.heap.size:=by rw [hU1];simp
 have FB:=(DB.below hb).below hA;have FR:=(DR.below hb).below hA;have DX:Dk U1 u1.heap.size n1 (.slice a1 (ws X).length c1) e1:=by rw [hU1];exact Dk.new _ _ _ _
 have NX:Nt (w.heap.size+3) U1 (.slice a1 (ws X).length c1) X:=(hN.mono (by omega)).below hA
 have BU:Below w.heap.size w U1:=(hB.trans (hb.mono (by omega))).trans (hA.mono (by omega))
 have H2:=hid (HF2.out U1 BU);obtain ⟨y0,y1,y2,yf0,yf1,yf2⟩:=FB.facts;have S1:=(qsd (ai BU (ai FR (ai DX NX))));clear hN hb H1 hB hz1 hA DA DB DR FB FR DX NX BU SB HF2
 go_upto_region 2 with fail
 rw [←hU1];clear hU1
 go_wp2_with fail
 clear y0 y1 y2 yf0 yf1 yf2;refine H2.out.mono ?_;rintro r u2 ⟨⟨v,rfl,hM⟩,hb⟩;obtain ⟨a2,c2,rfl,_⟩:=hM.arg (by omega)
 obtain ⟨BU,FR,DX,NX⟩:=S1.out;obtain ⟨U2,hU2⟩:∃ U,U=u2.alloc (.cells #[.bool m1,.slice a2 (ws Y).length c2,.int .i64 f1] 62):=⟨_,rfl⟩;have hA:Below u2.heap.size u2 U2:=by rw [hU2];exact Za _ _
 have hs3:U1.heap.size≤u2.heap.size:=hb.size;have hs4:u2.heap.size<U2.heap.size:=by rw [hU2];simp
 have GR:=(FR.below hb).below hA;have GX:=(DX.below hb).below hA;have GY:Dk U2 u2.heap.size m1 (.slice a2 (ws Y).length c2) f1:=by rw [hU2];exact Dk.new _ _ _ _
 have MX:=(NX.below hb).below hA;have MY:Nt (w.heap.size+3) U2 (.slice a2 (ws Y).length c2) Y:=(hM.mono (by omega)).below hA
 have BV:Below w.heap.size w U2:=(BU.trans (hb.mono (by omega))).trans (hA.mono (by omega))
 have S2:=(qsd (ai BV (ai GR (ai GX (ai GY (ai MX MY))))));clear hM hb H2 hA FR DX NX BU GR GX GY MX MY BV S1
 go_upto_region 3 with fail
 rw [←hU2];clear hU2;obtain ⟨r0,r1,r2,rf0,rf1,rf2⟩:=S2.out.2.1.facts;obtain ⟨x0,x1,x2,xf0,xf1,xf2⟩:=S2.out.2.2.1.facts;obtain ⟨y0,y1,y2,yf0,yf1,yf2⟩:=S2.out.2.2.2.1.facts;go_wp2;refine bodyPost_ret (Qm _ (w.heap.size+1+1) false (.slice none 0 0) 0 2 _ rfl rfl (S2.out.2.1.set _ _ _)) rfl ⟨rfl,?_⟩;refine Fin.bel (m:=w.heap.size+3) (v:=.slice a1 (ws X).length c1) (X:=X) ?_;have FE:Fin w.heap.size (w.heap.size+3) w U2 (.slice a1 (ws X).length c1) X:=⟨S2.out.2.2.2.2.1,S2.out.1,by omega⟩
 repeat (with_reducible first | exact FE | refine Fin.drew ?_ | refine Fin.alloc ?_ _ | refine Fin.set ?_ _ _ _ (by omega) (by omega))
theorem Zq0 {w:World}{a b:Option Addr}{l c k d:Nat}(n m:Bool) (e f:Int) (n1 m1:Bool) (X Y:Nat) (e1 f1:Int) (lX:(ws X).length≤8192) (lY:(ws Y).length≤8192)
 (HF1:Hid (∀ u,Below w.heap.size w u→Calls Tryz.prog 117 #[.agg #[.bool n,.slice a l c,.int .i64 e]] u fun r w'=>(∃ v,r=.returned (.tuple #[.agg #[.bool n1,v,.int .i64 e1],.bool true])∧Nt u.heap.size w' v X)∧Below u.heap.size u w'))
 (HF2:Hid (∀ u,Below w.heap.size w u→Calls Tryz.prog 117 #[.agg #[.bool m,.slice b k d,.int .i64 f]] u fun r w'=>(∃ v,r=.returned (.tuple #[.agg #[.bool m1,v,.int .i64 f1],.bool false])∧Nt u.heap.size w' v Y)∧Below u.heap.size u w')):Calls Tryz.prog 93 #[.agg #[.bool n,.slice a l c,.int .i64 e],.agg #[.bool m,.slice b k d,.int .i64 f]] w fun r w'=>r=.returned (.tuple #[.agg #[.bool false,.slice none 0 0,.int .i64 0],.int .i64 2])∧Below w.heap.size w w':=by
 obtain ⟨W1,hW1⟩:∃ W,W=((w.alloc (.cells #[.bool n,.slice a l c,.int .i64 e] 62)).alloc (.cells #[.bool m,.slice b k d,.int .i64 f] 62)).alloc (.cells #[.bool false,.slice none 0 0,.int .i64 0] 62):=⟨_,rfl⟩;obtain ⟨hB,hz1,DA,DB,DR⟩:=Zg w n m (.slice a l c) (.slice b k d) e f W1 hW1;have H1:=hid (HF1.out W1 hB);have SB:=(qsd (ai hB (ai hz1 (ai DA (ai DB DR)))));clear hB hz1 DA DB DR HF1;go_enter Tryz.func93,Tryz.ntmps93
 go_wp2_with fail
 rw [←hW1];clear hW1;refine H1.out.mono ?_;rintro r u1 ⟨⟨v,rfl,hN⟩,hb⟩;obtain ⟨a1,c1,rfl,_⟩:=hN.arg (by omega)
 obtain ⟨hB,hz1,DA,DB,DR⟩:=SB.out;obtain ⟨U1,hU1⟩:∃ U,U=u1.alloc (.cells #[.bool n1,.slice a1 (ws X).length c1,.int .i64 e1] 62):=⟨_,rfl⟩;have hA:Below u1.heap.size u1 U1:=by rw [hU1];exact Za _ _
 have hs1:w.heap.size+3≤u1.heap.size:=by have:=hb.size;omega
 have hs2:u1.heap.size<U1.heap.size:=by rw [hU1];simp
 have FB:=(DB.below hb).below hA;have FR:=(DR.below hb).below hA;have DX:Dk U1 u1.heap.size n1 (.slice a1 (ws X).length c1) e1:=by rw [hU1];exact Dk.new _ _ _ _
 have NX:Nt (w.heap.size+3) U1 (.slice a1 (ws X).length c1) X:=(hN.mono (by omega)).below hA
 have BU:Below w.heap.size w U1:=(hB.trans (hb.mono (by omega))).trans (hA.mono (by omega))
 have H2:=hid (HF2.out U1 BU);obtain ⟨y0,y1,y2,yf0,yf1,yf2⟩:=FB.facts;have S1:=(qsd (ai BU (ai FR (ai DX NX))));clear hN hb H1 hB hz1 hA DA DB DR FB FR DX NX BU SB HF2
 go_upto_region 2 with fail
 rw [←hU1];clear hU1
 go_wp2_with fail
 clear y0 y1 y2 yf0 yf1 yf2;refine H2.out.mono ?_;rintro r u2 ⟨⟨v,rfl,hM⟩,hb⟩;obtain ⟨a2,c2,rfl,_⟩:=hM.arg (by omega)
 obtain ⟨BU,FR,DX,NX⟩:=S1.out;obtain ⟨U2,hU2⟩:∃ U,U=u2.alloc (.cells #[.bool m1,.slice a2 (ws Y).length c2,.int .i64 f1] 62):=⟨_,rfl⟩;have hA:Below u2.heap.size u2 U2:=by rw [hU2];exact Za _ _
 have hs3:U1.heap.size≤u2.heap.size:=hb.size;have hs4:u2.heap.size<U2.heap.size:=by rw [hU2];simp
 have GR:=(FR.below hb).below hA;have GX:=(DX.below hb).below hA;have GY:Dk U2 u2.heap.size m1 (.slice a2 (ws Y).length c2) f1:=by rw [hU2];exact Dk.new _ _ _ _
 have MX:=(NX.below hb).below hA;have MY:Nt (w.heap.size+3) U2 (.slice a2 (ws Y).length c2) Y:=(hM.mono (by omega)).below hA
 have BV:Below w.heap.size w U2:=(BU.trans (hb.mono (by omega))).trans (hA.mono (by omega))
 have S2:=(qsd (ai BV (ai GR (ai GX (ai GY (ai MX MY))))));clear hM hb H2 hA FR DX NX BU GR GX GY MX MY BV S1
 go_upto_region 3 with fail
 rw [←hU2];clear hU2;obtain ⟨r0,r1,r2,rf0,rf1,rf2⟩:=S2.out.2.1.facts;obtain ⟨x0,x1,x2,xf0,xf1,xf2⟩:=S2.out.2.2.1.facts;obtain ⟨y0,y1,y2,yf0,yf1,yf2⟩:=S2.out.2.2.2.1.facts;go_wp2;refine bodyPost_ret (Qm _ (w.heap.size+1+1) false (.slice none 0 0) 0 2 _ rfl rfl (S2.out.2.1.set _ _ _)) rfl ⟨rfl,?_⟩;refine Fin.bel (m:=w.heap.size+3) (v:=.slice a1 (ws X).length c1) (X:=X) ?_;have FE:Fin w.heap.size (w.heap.size+3) w U2 (.slice a1 (ws X).length c1) X:=⟨S2.out.2.2.2.2.1,S2.out.1,by omega⟩
 repeat (with_reducible first | exact FE | refine Fin.drew ?_ | refine Fin.alloc ?_ _ | refine Fin.set ?_ _ _ _ (by omega) (by omega))
theorem Zl0 {w:World}{a b:Option Addr}{l c k d:Nat}(n m:Bool) (e f:Int) (n1 m1:Bool) (X Y:Nat) (e1 f1:Int) (lX:(ws X).length≤8192) (lY:(ws Y).length≤8192) (hX:(ws X).length=0)
 (HF1:Hid (∀ u,Below w.heap.size w u→Calls Tryz.prog 117 #[.agg #[.bool n,.slice a l c,.int .i64 e]] u fun r w'=>(∃ v,r=.returned (.tuple #[.agg #[.bool n1,v,.int .i64 e1],.bool true])∧Nt u.heap.size w' v X)∧Below u.heap.size u w'))
 (HF2:Hid (∀ u,Below w.heap.size w u→Calls Tryz.prog 117 #[.agg #[.bool m,.slice b k d,.int .i64 f]] u fun r w'=>(∃ v,r=.returned (.tuple #[.agg #[.bool m1,v,.int .i64 f1],.bool true])∧Nt u.heap.size w' v Y)∧Below u.heap.size u w')):Calls Tryz.prog 93 #[.agg #[.bool n,.slice a l c,.int .i64 e],.agg #[.bool m,.slice b k d,.int .i64 f]] w fun r w'=>DAns w.heap.size w' r (some (m1,Y,f1))∧Below w.heap.size w w':=by
 have HH:=qsd hX;clear hX;obtain ⟨W1,hW1⟩:∃ W,W=((w.alloc (.cells #[.bool n,.slice a l c,.int .i64 e] 62)).alloc (.cells #[.bool m,.slice b k d,.int .i64 f] 62)).alloc (.cells #[.bool false,.slice none 0 0,.int .i64 0] 62):=⟨_,rfl⟩;obtain ⟨hB,hz1,DA,DB,DR⟩:=Zg w n m (.slice a l c) (.slice b k d) e f W1 hW1;have H1:=hid (HF1.out W1 hB);have SB:=(qsd (ai hB (ai hz1 (ai DA (ai DB DR)))));clear hB hz1 DA DB DR HF1;go_enter Tryz.func93,Tryz.ntmps93
 go_wp2_with fail
 rw [←hW1];clear hW1;refine H1.out.mono ?_;rintro r u1 ⟨⟨v,rfl,hN⟩,hb⟩;obtain ⟨a1,c1,rfl,_⟩:=hN.arg (by omega)
 obtain ⟨hB,hz1,DA,DB,DR⟩:=SB.out;obtain ⟨U1,hU1⟩:∃ U,U=u1.alloc (.cells #[.bool n1,.slice a1 (ws X).length c1,.int .i64 e1] 62):=⟨_,rfl⟩;have hA:Below u1.heap.size u1 U1:=by rw [hU1];exact Za _ _
 have hs1:w.heap.size+3≤u1.heap.size:=by have:=hb.size;omega
 have hs2:u1.heap.size<U1.heap.size:=by rw [hU1];simp
 have FB:=(DB.below hb).below hA;have FR:=(DR.below hb).below hA;have DX:Dk U1 u1.heap.size n1 (.slice a1 (ws X).length c1) e1:=by rw [hU1];exact Dk.new _ _ _ _
 have NX:Nt (w.heap.size+3) U1 (.slice a1 (ws X).length c1) X:=(hN.mono (by omega)).below hA
 have BU:Below w.heap.size w U1:=(hB.trans (hb.mono (by omega))).trans (hA.mono (by omega))
 have H2:=hid (HF2.out U1 BU);obtain ⟨y0,y1,y2,yf0,yf1,yf2⟩:=FB.facts;have S1:=(qsd (ai BU (ai FR (ai DX NX))));clear hN hb H1 hB hz1 hA DA DB DR FB FR DX NX BU SB HF2
 go_upto_region 2 with fail
 rw [←hU1];clear hU1
 go_wp2_with fail
 clear y0 y1 y2 yf0 yf1 yf2;refine H2.out.mono ?_;rintro r u2 ⟨⟨v,rfl,hM⟩,hb⟩;obtain ⟨a2,c2,rfl,_⟩:=hM.arg (by omega)
 obtain ⟨BU,FR,DX,NX⟩:=S1.out;obtain ⟨U2,hU2⟩:∃ U,U=u2.alloc (.cells #[.bool m1,.slice a2 (ws Y).length c2,.int .i64 f1] 62):=⟨_,rfl⟩;have hA:Below u2.heap.size u2 U2:=by rw [hU2];exact Za _ _
 have hs3:U1.heap.size≤u2.heap.size:=hb.size;have hs4:u2.heap.size<U2.heap.size:=by rw [hU2];simp
 have GR:=(FR.below hb).below hA;have GX:=(DX.below hb).below hA;have GY:Dk U2 u2.heap.size m1 (.slice a2 (ws Y).length c2) f1:=by rw [hU2];exact Dk.new _ _ _ _
 have MX:=(NX.below hb).below hA;have MY:Nt (w.heap.size+3) U2 (.slice a2 (ws Y).length c2) Y:=(hM.mono (by omega)).below hA
 have BV:Below w.heap.size w U2:=(BU.trans (hb.mono (by omega))).trans (hA.mono (by omega))
 have S2:=(qsd (ai BV (ai GR (ai GX (ai GY (ai MX MY))))));clear hM hb H2 hA FR DX NX BU GR GX GY MX MY BV S1
 go_upto_region 5 with fail
 rw [←hU2];clear hU2;obtain ⟨r0,r1,r2,rf0,rf1,rf2⟩:=S2.out.2.1.facts;obtain ⟨x0,x1,x2,xf0,xf1,xf2⟩:=S2.out.2.2.1.facts;obtain ⟨y0,y1,y2,yf0,yf1,yf2⟩:=S2.out.2.2.2.1.facts;have hX:=HH.out;go_wp2;refine bodyPost_ret (Qm _ (w.heap.size+1+1) m1 (.slice a2 (ws Y).length c2) f1 0 _ rfl rfl (S2.out.2.1.set _ _ _)) rfl ?_;refine Fin.dans (m:=w.heap.size+3) ?_ (by omega)
 have FE:Fin w.heap.size (w.heap.size+3) w U2 _ _:=⟨S2.out.2.2.2.2.2,S2.out.1,by omega⟩
 repeat (with_reducible first | exact FE | refine Fin.drew ?_ | refine Fin.alloc ?_ _ | refine Fin.set ?_ _ _ _ (by omega) (by omega))
 exact FE
theorem Zib {w:World}{a b:Option Addr}{l c k d:Nat}(n m:Bool) (e f:Int) (n1 m1:Bool) (X Y:Nat) (e1 f1:Int) (lX:(ws X).length≤8192) (lY:(ws Y).length≤8192) (hX:((((ws X).length:Nat):Int)==0)=false) (hY:(ws Y).length=0)
 (HF1:Hid (∀ u,Below w.heap.size w u→Calls Tryz.prog 117 #[.agg #[.bool n,.slice a l c,.int .i64 e]] u fun r w'=>(∃ v,r=.returned (.tuple #[.agg #[.bool n1,v,.int .i64 e1],.bool true])∧Nt u.heap.size w' v X)∧Below u.heap.size u w'))
 (HF2:Hid (∀ u,Below w.heap.size w u→Calls Tryz.prog 117 #[.agg #[.bool m,.slice b k d,.int .i64 f]] u fun r w'=>(∃ v,r=.returned (.tuple #[.agg #[.bool m1,v,.int .i64 f1],.bool true])∧Nt u.heap.size w' v Y)∧Below u.heap.size u w')):Calls Tryz.prog 93 #[.agg #[.bool n,.slice a l c,.int .i64 e],.agg #[.bool m,.slice b k d,.int .i64 f]] w fun r w'=>DAns w.heap.size w' r (some (n1,X,e1))∧Below w.heap.size w w':=by
 have HH:=qsd hY;clear hY;obtain ⟨W1,hW1⟩:∃ W,W=((w.alloc (.cells #[.bool n,.slice a l c,.int .i64 e] 62)).alloc (.cells #[.bool m,.slice b k d,.int .i64 f] 62)).alloc (.cells #[.bool false,.slice none 0 0,.int .i64 0] 62):=⟨_,rfl⟩;obtain ⟨hB,hz1,DA,DB,DR⟩:=Zg w n m (.slice a l c) (.slice b k d) e f W1 hW1;have H1:=hid (HF1.out W1 hB);have SB:=(qsd (ai hB (ai hz1 (ai DA (ai DB DR)))));clear hB hz1 DA DB DR HF1;go_enter Tryz.func93,Tryz.ntmps93
 go_wp2_with fail
 rw [←hW1];clear hW1;refine H1.out.mono ?_;rintro r u1 ⟨⟨v,rfl,hN⟩,hb⟩;obtain ⟨a1,c1,rfl,_⟩:=hN.arg (by omega)
 obtain ⟨hB,hz1,DA,DB,DR⟩:=SB.out;obtain ⟨U1,hU1⟩:∃ U,U=u1.alloc (.cells #[.bool n1,.slice a1 (ws X).length c1,.int .i64 e1] 62):=⟨_,rfl⟩;have hA:Below u1.heap.size u1 U1:=by rw [hU1];exact Za _ _
 have hs1:w.heap.size+3≤u1.heap.size:=by have:=hb.size;omega
 have hs2:u1.heap.size<U1.heap.size:=by rw [hU1];simp
 have FB:=(DB.below hb).below hA;have FR:=(DR.below hb).below hA;have DX:Dk U1 u1.heap.size n1 (.slice a1 (ws X).length c1) e1:=by rw [hU1];exact Dk.new _ _ _ _
 have NX:Nt (w.heap.size+3) U1 (.slice a1 (ws X).length c1) X:=(hN.mono (by omega)).below hA
 have BU:Below w.heap.size w U1:=(hB.trans (hb.mono (by omega))).trans (hA.mono (by omega))
 have H2:=hid (HF2.out U1 BU);obtain ⟨y0,y1,y2,yf0,yf1,yf2⟩:=FB.facts;have S1:=(qsd (ai BU (ai FR (ai DX NX))));clear hN hb H1 hB hz1 hA DA DB DR FB FR DX NX BU SB HF2
 go_upto_region 2 with fail
 rw [←hU1];clear hU1
 go_wp2_with fail
 clear y0 y1 y2 yf0 yf1 yf2;refine H2.out.mono ?_;rintro r u2 ⟨⟨v,rfl,hM⟩,hb⟩;obtain ⟨a2,c2,rfl,_⟩:=hM.arg (by omega)
 obtain ⟨BU,FR,DX,NX⟩:=S1.out;obtain ⟨U2,hU2⟩:∃ U,U=u2.alloc (.cells #[.bool m1,.slice a2 (ws Y).length c2,.int .i64 f1] 62):=⟨_,rfl⟩;have hA:Below u2.heap.size u2 U2:=by rw [hU2];exact Za _ _
 have hs3:U1.heap.size≤u2.heap.size:=hb.size;have hs4:u2.heap.size<U2.heap.size:=by rw [hU2];simp
 have GR:=(FR.below hb).below hA;have GX:=(DX.below hb).below hA;have GY:Dk U2 u2.heap.size m1 (.slice a2 (ws Y).length c2) f1:=by rw [hU2];exact Dk.new _ _ _ _
 have MX:=(NX.below hb).below hA;have MY:Nt (w.heap.size+3) U2 (.slice a2 (ws Y).length c2) Y:=(hM.mono (by omega)).below hA
 have BV:Below w.heap.size w U2:=(BU.trans (hb.mono (by omega))).trans (hA.mono (by omega))
 have S2:=(qsd (ai BV (ai GR (ai GX (ai GY (ai MX MY))))));clear hM hb H2 hA FR DX NX BU GR GX GY MX MY BV S1
 go_upto_region 5 with fail
 rw [←hU2];clear hU2;obtain ⟨r0,r1,r2,rf0,rf1,rf2⟩:=S2.out.2.1.facts;obtain ⟨x0,x1,x2,xf0,xf1,xf2⟩:=S2.out.2.2.1.facts;obtain ⟨y0,y1,y2,yf0,yf1,yf2⟩:=S2.out.2.2.2.1.facts;have hY:=HH.out;go_wp2;refine bodyPost_ret (Qm _ (w.heap.size+1+1) n1 (.slice a1 (ws X).length c1) e1 0 _ rfl rfl (S2.out.2.1.set _ _ _)) rfl ?_;refine Fin.dans (m:=w.heap.size+3) ?_ (by omega)
 have FE:Fin w.heap.size (w.heap.size+3) w U2 _ _:=⟨S2.out.2.2.2.2.1,S2.out.1,by omega⟩
 repeat (with_reducible first | exact FE | refine Fin.drew ?_ | refine Fin.alloc ?_ _ | refine Fin.set ?_ _ _ _ (by omega) (by omega))
 exact FE
theorem Zq1 {w:World}{a b:Option Addr}{l c k d:Nat}(n m:Bool) (e f:Int) (n1 m1:Bool) (X Y:Nat) (e1 f1:Int) (lX:(ws X).length≤8192) (lY:(ws Y).length≤8192) (hX:((((ws X).length:Nat):Int)==0)=false) (hY:((((ws Y).length:Nat):Int)==0)=false) (be0:-1048576≤e1) (be1:e1≤1048576) (bf0:-1048576≤f1) (bf1:f1≤1048576) (g:Int) (hg:min e1 f1=g) (bg0:-1048576≤g) (bg1:g≤1048576) (P Q:Nat) (lP:(ws P).length≤1000000) (lQ:(ws Q).length≤1000000) (h5:8192<(ws P).length)
 (HF1:Hid (∀ u,Below w.heap.size w u→Calls Tryz.prog 117 #[.agg #[.bool n,.slice a l c,.int .i64 e]] u fun r w'=>(∃ v,r=.returned (.tuple #[.agg #[.bool n1,v,.int .i64 e1],.bool true])∧Nt u.heap.size w' v X)∧Below u.heap.size u w'))
 (HF2:Hid (∀ u,Below w.heap.size w u→Calls Tryz.prog 117 #[.agg #[.bool m,.slice b k d,.int .i64 f]] u fun r w'=>(∃ v,r=.returned (.tuple #[.agg #[.bool m1,v,.int .i64 f1],.bool true])∧Nt u.heap.size w' v Y)∧Below u.heap.size u w'))
 (HP:Hid (∀ (u:World) (v:Value),Below w.heap.size w u→Nt (w.heap.size+3) u v X→Calls Tryz.prog 123 #[v,.int .i64 (e1-g)] u fun r w'=>∃ v,r=.returned v∧Nt u.heap.size w' v P∧Below u.heap.size u w'))
 (HQ:Hid (∀ (u:World) (v:Value),Below w.heap.size w u→Nt (w.heap.size+3) u v Y→Calls Tryz.prog 123 #[v,.int .i64 (f1-g)] u fun r w'=>∃ v,r=.returned v∧Nt u.heap.size w' v Q∧Below u.heap.size u w')):Calls Tryz.prog 93 #[.agg #[.bool n,.slice a l c,.int .i64 e],.agg #[.bool m,.slice b k d,.int .i64 f]] w fun r w'=>r=.returned (.tuple #[.agg #[.bool false,.slice none 0 0,.int .i64 0],.int .i64 2])∧Below w.heap.size w w':=by
 obtain ⟨W1,hW1⟩:∃ W,W=((w.alloc (.cells #[.bool n,.slice a l c,.int .i64 e] 62)).alloc (.cells #[.bool m,.slice b k d,.int .i64 f] 62)).alloc (.cells #[.bool false,.slice none 0 0,.int .i64 0] 62):=⟨_,rfl⟩;obtain ⟨hB,hz1,DA,DB,DR⟩:=Zg w n m (.slice a l c) (.slice b k d) e f W1 hW1;have H1:=hid (HF1.out W1 hB);have SB:=(qsd (ai hB (ai hz1 (ai DA (ai DB DR)))));clear hB hz1 DA DB DR HF1;go_enter Tryz.func93,Tryz.ntmps93
 go_wp2_with fail
 rw [←hW1];clear hW1;refine H1.out.mono ?_;rintro r u1 ⟨⟨v,rfl,hN⟩,hb⟩;obtain ⟨a1,c1,rfl,_⟩:=hN.arg (by omega)
 obtain ⟨hB,hz1,DA,DB,DR⟩:=SB.out;obtain ⟨U1,hU1⟩:∃ U,U=u1.alloc (.cells #[.bool n1,.slice a1 (ws X).length c1,.int .i64 e1] 62):=⟨_,rfl⟩;have hA:Below u1.heap.size u1 U1:=by rw [hU1];exact Za _ _
 have hs1:w.heap.size+3≤u1.heap.size:=by have:=hb.size;omega
 have hs2:u1.heap.size<U1.heap.size:=by rw [hU1];simp
 have FB:=(DB.below hb).below hA;have FR:=(DR.below hb).below hA;have DX:Dk U1 u1.heap.size n1 (.slice a1 (ws X).length c1) e1:=by rw [hU1];exact Dk.new _ _ _ _
 have NX:Nt (w.heap.size+3) U1 (.slice a1 (ws X).length c1) X:=(hN.mono (by omega)).below hA
 have BU:Below w.heap.size w U1:=(hB.trans (hb.mono (by omega))).trans (hA.mono (by omega))
 have H2:=hid (HF2.out U1 BU);obtain ⟨y0,y1,y2,yf0,yf1,yf2⟩:=FB.facts;have S1:=(qsd (ai BU (ai FR (ai DX NX))));clear hN hb H1 hB hz1 hA DA DB DR FB FR DX NX BU SB HF2
 go_upto_region 2 with fail
 rw [←hU1];clear hU1
 go_wp2_with fail
 clear y0 y1 y2 yf0 yf1 yf2;refine H2.out.mono ?_;rintro r u2 ⟨⟨v,rfl,hM⟩,hb⟩;obtain ⟨a2,c2,rfl,_⟩:=hM.arg (by omega)
 obtain ⟨BU,FR,DX,NX⟩:=S1.out;obtain ⟨U2,hU2⟩:∃ U,U=u2.alloc (.cells #[.bool m1,.slice a2 (ws Y).length c2,.int .i64 f1] 62):=⟨_,rfl⟩;have hA:Below u2.heap.size u2 U2:=by rw [hU2];exact Za _ _
 have hs3:U1.heap.size≤u2.heap.size:=hb.size;have hs4:u2.heap.size<U2.heap.size:=by rw [hU2];simp
 have GR:=(FR.below hb).below hA;have GX:=(DX.below hb).below hA;have GY:Dk U2 u2.heap.size m1 (.slice a2 (ws Y).length c2) f1:=by rw [hU2];exact Dk.new _ _ _ _
 have MX:=(NX.below hb).below hA;have MY:Nt (w.heap.size+3) U2 (.slice a2 (ws Y).length c2) Y:=(hM.mono (by omega)).below hA
 have BV:Below w.heap.size w U2:=(BU.trans (hb.mono (by omega))).trans (hA.mono (by omega))
 have S2:=(qsd (ai BV (ai GR (ai GX (ai GY (ai MX MY))))));clear hM hb H2 hA FR DX NX BU GR GX GY MX MY BV S1
 go_upto_region 5 with fail
 rw [←hU2];clear hU2;obtain ⟨r0,r1,r2,rf0,rf1,rf2⟩:=S2.out.2.1.facts;obtain ⟨x0,x1,x2,xf0,xf1,xf2⟩:=S2.out.2.2.1.facts;obtain ⟨y0,y1,y2,yf0,yf1,yf2⟩:=S2.out.2.2.2.1.facts;have H3:=hid (HP.out U2 _ S2.out.1 S2.out.2.2.2.2.1);clear HP
 go_wp2_with fail
 clear r0 r1 r2 rf0 rf1 rf2 x0 x1 x2 xf0 xf1 xf2 y0 y1 y2 yf0 yf1 yf2;refine H3.out.mono ?_;rintro r u5 ⟨v,rfl,hP,hb⟩;obtain ⟨a5,c5,rfl,_⟩:=hP.arg (by omega)
 obtain ⟨BV,GR,GX,GY,MX,MY⟩:=S2.out;have hs5:U2.heap.size≤u5.heap.size:=hb.size;have BV5:Below w.heap.size w u5:=BV.trans (hb.mono (by omega))
 have H4:=hid (HQ.out u5 _ BV5 (MY.below hb));have S5:=(qsd (ai BV5 (ai (GR.below hb) (ai (GX.below hb) (ai (GY.below hb) (ai (MX.below hb) (hP.mono (lo':=w.heap.size+3) (by omega))))))))
 clear BV GR GX GY MX MY BV5 hP hb H3 S2 HQ;obtain ⟨r0,r1,r2,rf0,rf1,rf2⟩:=S5.out.2.1.facts;obtain ⟨x0,x1,x2,xf0,xf1,xf2⟩:=S5.out.2.2.1.facts;obtain ⟨y0,y1,y2,yf0,yf1,yf2⟩:=S5.out.2.2.2.1.facts
 go_wp2_with fail
 clear r0 r1 r2 rf0 rf1 rf2 x0 x1 x2 xf0 xf1 xf2 y0 y1 y2 yf0 yf1 yf2;refine H4.out.mono ?_;rintro r u6 ⟨v,rfl,hQ,hb⟩;obtain ⟨a6,c6,rfl,_⟩:=hQ.arg (by omega)
 obtain ⟨BV,GR,GX,GY,MX,MP⟩:=S5.out;have hs6:u5.heap.size≤u6.heap.size:=hb.size;have S2:=(qsd (ai (BV.trans (hb.mono (by omega))) (ai (GR.below hb) (ai (GX.below hb) (ai (GY.below hb) (ai (MP.below hb) (hQ.mono (lo':=w.heap.size+3) (by omega))))))))
 clear BV GR GX GY MX MP hQ hb H4 S5;obtain ⟨r0,r1,r2,rf0,rf1,rf2⟩:=S2.out.2.1.facts;obtain ⟨x0,x1,x2,xf0,xf1,xf2⟩:=S2.out.2.2.1.facts;obtain ⟨y0,y1,y2,yf0,yf1,yf2⟩:=S2.out.2.2.2.1.facts;go_wp2;refine bodyPost_ret (Qm _ (w.heap.size+1+1) false (.slice none 0 0) 0 2 _ rfl rfl (S2.out.2.1.set _ _ _)) rfl ⟨rfl,?_⟩;refine Fin.bel (m:=w.heap.size+3) (v:=.slice a5 (ws P).length c5) (X:=P) ?_;have FE:Fin w.heap.size (w.heap.size+3) w u6 (.slice a5 (ws P).length c5) P:=⟨S2.out.2.2.2.2.1,S2.out.1,by omega⟩
 repeat (with_reducible first | exact FE | refine Fin.drew ?_ | refine Fin.alloc ?_ _ | refine Fin.set ?_ _ _ _ (by omega) (by omega))
theorem Zq2 {w:World}{a b:Option Addr}{l c k d:Nat}(n m:Bool) (e f:Int) (n1 m1:Bool) (X Y:Nat) (e1 f1:Int) (lX:(ws X).length≤8192) (lY:(ws Y).length≤8192) (hX:((((ws X).length:Nat):Int)==0)=false) (hY:((((ws Y).length:Nat):Int)==0)=false) (be0:-1048576≤e1) (be1:e1≤1048576) (bf0:-1048576≤f1) (bf1:f1≤1048576) (g:Int) (hg:min e1 f1=g) (bg0:-1048576≤g) (bg1:g≤1048576) (P Q:Nat) (lP:(ws P).length≤1000000) (lQ:(ws Q).length≤1000000) (h5:(ws P).length≤8192) (h6:8192<(ws Q).length)
 (HF1:Hid (∀ u,Below w.heap.size w u→Calls Tryz.prog 117 #[.agg #[.bool n,.slice a l c,.int .i64 e]] u fun r w'=>(∃ v,r=.returned (.tuple #[.agg #[.bool n1,v,.int .i64 e1],.bool true])∧Nt u.heap.size w' v X)∧Below u.heap.size u w'))
 (HF2:Hid (∀ u,Below w.heap.size w u→Calls Tryz.prog 117 #[.agg #[.bool m,.slice b k d,.int .i64 f]] u fun r w'=>(∃ v,r=.returned (.tuple #[.agg #[.bool m1,v,.int .i64 f1],.bool true])∧Nt u.heap.size w' v Y)∧Below u.heap.size u w'))
 (HP:Hid (∀ (u:World) (v:Value),Below w.heap.size w u→Nt (w.heap.size+3) u v X→Calls Tryz.prog 123 #[v,.int .i64 (e1-g)] u fun r w'=>∃ v,r=.returned v∧Nt u.heap.size w' v P∧Below u.heap.size u w'))
 (HQ:Hid (∀ (u:World) (v:Value),Below w.heap.size w u→Nt (w.heap.size+3) u v Y→Calls Tryz.prog 123 #[v,.int .i64 (f1-g)] u fun r w'=>∃ v,r=.returned v∧Nt u.heap.size w' v Q∧Below u.heap.size u w')):Calls Tryz.prog 93 #[.agg #[.bool n,.slice a l c,.int .i64 e],.agg #[.bool m,.slice b k d,.int .i64 f]] w fun r w'=>r=.returned (.tuple #[.agg #[.bool false,.slice none 0 0,.int .i64 0],.int .i64 2])∧Below w.heap.size w w':=by
 obtain ⟨W1,hW1⟩:∃ W,W=((w.alloc (.cells #[.bool n,.slice a l c,.int .i64 e] 62)).alloc (.cells #[.bool m,.slice b k d,.int .i64 f] 62)).alloc (.cells #[.bool false,.slice none 0 0,.int .i64 0] 62):=⟨_,rfl⟩;obtain ⟨hB,hz1,DA,DB,DR⟩:=Zg w n m (.slice a l c) (.slice b k d) e f W1 hW1;have H1:=hid (HF1.out W1 hB);have SB:=(qsd (ai hB (ai hz1 (ai DA (ai DB DR)))));clear hB hz1 DA DB DR HF1;go_enter Tryz.func93,Tryz.ntmps93
 go_wp2_with fail
 rw [←hW1];clear hW1;refine H1.out.mono ?_;rintro r u1 ⟨⟨v,rfl,hN⟩,hb⟩;obtain ⟨a1,c1,rfl,_⟩:=hN.arg (by omega)
 obtain ⟨hB,hz1,DA,DB,DR⟩:=SB.out;obtain ⟨U1,hU1⟩:∃ U,U=u1.alloc (.cells #[.bool n1,.slice a1 (ws X).length c1,.int .i64 e1] 62):=⟨_,rfl⟩;have hA:Below u1.heap.size u1 U1:=by rw [hU1];exact Za _ _
 have hs1:w.heap.size+3≤u1.heap.size:=by have:=hb.size;omega
 have hs2:u1.heap.size<U1.heap.size:=by rw [hU1];simp
 have FB:=(DB.below hb).below hA;have FR:=(DR.below hb).below hA;have DX:Dk U1 u1.heap.size n1 (.slice a1 (ws X).length c1) e1:=by rw [hU1];exact Dk.new _ _ _ _
 have NX:Nt (w.heap.size+3) U1 (.slice a1 (ws X).length c1) X:=(hN.mono (by omega)).below hA
 have BU:Below w.heap.size w U1:=(hB.trans (hb.mono (by omega))).trans (hA.mono (by omega))
 have H2:=hid (HF2.out U1 BU);obtain ⟨y0,y1,y2,yf0,yf1,yf2⟩:=FB.facts;have S1:=(qsd (ai BU (ai FR (ai DX NX))));clear hN hb H1 hB hz1 hA DA DB DR FB FR DX NX BU SB HF2
 go_upto_region 2 with fail
 rw [←hU1];clear hU1
 go_wp2_with fail
 clear y0 y1 y2 yf0 yf1 yf2;refine H2.out.mono ?_;rintro r u2 ⟨⟨v,rfl,hM⟩,hb⟩;obtain ⟨a2,c2,rfl,_⟩:=hM.arg (by omega)
 obtain ⟨BU,FR,DX,NX⟩:=S1.out;obtain ⟨U2,hU2⟩:∃ U,U=u2.alloc (.cells #[.bool m1,.slice a2 (ws Y).length c2,.int .i64 f1] 62):=⟨_,rfl⟩;have hA:Below u2.heap.size u2 U2:=by rw [hU2];exact Za _ _
 have hs3:U1.heap.size≤u2.heap.size:=hb.size;have hs4:u2.heap.size<U2.heap.size:=by rw [hU2];simp
 have GR:=(FR.below hb).below hA;have GX:=(DX.below hb).below hA;have GY:Dk U2 u2.heap.size m1 (.slice a2 (ws Y).length c2) f1:=by rw [hU2];exact Dk.new _ _ _ _
 have MX:=(NX.below hb).below hA;have MY:Nt (w.heap.size+3) U2 (.slice a2 (ws Y).length c2) Y:=(hM.mono (by omega)).below hA
 have BV:Below w.heap.size w U2:=(BU.trans (hb.mono (by omega))).trans (hA.mono (by omega))
 have S2:=(qsd (ai BV (ai GR (ai GX (ai GY (ai MX MY))))));clear hM hb H2 hA FR DX NX BU GR GX GY MX MY BV S1
 go_upto_region 5 with fail
 rw [←hU2];clear hU2;obtain ⟨r0,r1,r2,rf0,rf1,rf2⟩:=S2.out.2.1.facts;obtain ⟨x0,x1,x2,xf0,xf1,xf2⟩:=S2.out.2.2.1.facts;obtain ⟨y0,y1,y2,yf0,yf1,yf2⟩:=S2.out.2.2.2.1.facts;have H3:=hid (HP.out U2 _ S2.out.1 S2.out.2.2.2.2.1);clear HP
 go_wp2_with fail
 clear r0 r1 r2 rf0 rf1 rf2 x0 x1 x2 xf0 xf1 xf2 y0 y1 y2 yf0 yf1 yf2;refine H3.out.mono ?_;rintro r u5 ⟨v,rfl,hP,hb⟩;obtain ⟨a5,c5,rfl,_⟩:=hP.arg (by omega)
 obtain ⟨BV,GR,GX,GY,MX,MY⟩:=S2.out;have hs5:U2.heap.size≤u5.heap.size:=hb.size;have BV5:Below w.heap.size w u5:=BV.trans (hb.mono (by omega))
 have H4:=hid (HQ.out u5 _ BV5 (MY.below hb));have S5:=(qsd (ai BV5 (ai (GR.below hb) (ai (GX.below hb) (ai (GY.below hb) (ai (MX.below hb) (hP.mono (lo':=w.heap.size+3) (by omega))))))))
 clear BV GR GX GY MX MY BV5 hP hb H3 S2 HQ;obtain ⟨r0,r1,r2,rf0,rf1,rf2⟩:=S5.out.2.1.facts;obtain ⟨x0,x1,x2,xf0,xf1,xf2⟩:=S5.out.2.2.1.facts;obtain ⟨y0,y1,y2,yf0,yf1,yf2⟩:=S5.out.2.2.2.1.facts
 go_wp2_with fail
 clear r0 r1 r2 rf0 rf1 rf2 x0 x1 x2 xf0 xf1 xf2 y0 y1 y2 yf0 yf1 yf2;refine H4.out.mono ?_;rintro r u6 ⟨v,rfl,hQ,hb⟩;obtain ⟨a6,c6,rfl,_⟩:=hQ.arg (by omega)
 obtain ⟨BV,GR,GX,GY,MX,MP⟩:=S5.out;have hs6:u5.heap.size≤u6.heap.size:=hb.size;have S2:=(qsd (ai (BV.trans (hb.mono (by omega))) (ai (GR.below hb) (ai (GX.below hb) (ai (GY.below hb) (ai (MP.below hb) (hQ.mono (lo':=w.heap.size+3) (by omega))))))))
 clear BV GR GX GY MX MP hQ hb H4 S5;obtain ⟨r0,r1,r2,rf0,rf1,rf2⟩:=S2.out.2.1.facts;obtain ⟨x0,x1,x2,xf0,xf1,xf2⟩:=S2.out.2.2.1.facts;obtain ⟨y0,y1,y2,yf0,yf1,yf2⟩:=S2.out.2.2.2.1.facts;go_wp2;refine bodyPost_ret (Qm _ (w.heap.size+1+1) false (.slice none 0 0) 0 2 _ rfl rfl (S2.out.2.1.set _ _ _)) rfl ⟨rfl,?_⟩;refine Fin.bel (m:=w.heap.size+3) (v:=.slice a5 (ws P).length c5) (X:=P) ?_;have FE:Fin w.heap.size (w.heap.size+3) w u6 (.slice a5 (ws P).length c5) P:=⟨S2.out.2.2.2.2.1,S2.out.1,by omega⟩
 repeat (with_reducible first | exact FE | refine Fin.drew ?_ | refine Fin.alloc ?_ _ | refine Fin.set ?_ _ _ _ (by omega) (by omega))
end
end Go.Proofs.YtblkpkgebigojaaGreatDoor
