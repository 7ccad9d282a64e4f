import Derived.Test.YtaejmlkaefnbhaaGreatDoorMO7nx
import Derived.Test.YtaejmlkaefnbhaaGreatDoorX2x
import Derived.Test.YtaejmlkaefnbhaaGreatDoorD21x
import Derived.Test.YtaejmlkaefnbhaaGreatDoorZ7x
import Derived.Test.YtaejmlkaefnbhaaGreatDoorSE4x
import Derived.Test.YtaejmlkaefnbhaaGreatDoorD30x
import Derived.Deep.RegionHeld3
import Derived.Test.YtaejmlkaefnbhaaGreatDoorBW6x
import Derived.Test.YtaejmlkaefnbhaaGreatDoorS11ax
import Derived.Test.YtaejmlkaefnbhaaGreatDoorBIeeex
import Derived.Deep.CutRange
set_option linter.unusedVariables false
set_option linter.unusedSimpArgs false
set_option maxHeartbeats 16000000
set_option maxRecDepth 20000
namespace Go.Proofs.YtaejmlkaefnbhaaGreatDoor
namespace J
end J
namespace Ps
open Go.RowKit
open Go.Proofs.YtaejmlkaefnbhaaGreatDoor.B (bu aM bw aU)
attribute [local go_sem] bu aM
theorem TU(xs:List Nat)(ao:Option Addr)(n cap:Nat)(a b:Int)(w:World)(hm:may a b=false) :
 Calls Tryz.prog 66 #[.slice ao n cap,.agg #[.int .i64 a,.int .i64 b]] w (iU w a b xs):=by
 have H:=hid (jR a b);rw[hm] at H;have HE:Aside (dZ a b xs=1):=by unfold dZ;rw[hm];rfl
 clear hm;go_enter Tryz.func66,Tryz.ntmps66;go_wp2_with fail;refine(H.o _).mono ?_;rintro r w1 ⟨rfl,hb⟩;have hsz:=hb.size;simp at hsz;obtain⟨hc,hf⟩:=aU hb;have HB:=au hb;clear hb;go_wp2;refine aJ (v:=.tuple #[.slice none 0 0,.agg #[.int .i64 0,.int .i64 0,.int .i64 0,.int .i64 0,.int .i64 0,.int .i64 0],.int .i64 1]) (by simp[results,Tryz.results66,go_sem,MJ,hc]) rfl (iU.no 1 HE.o aA ?_);exact But.below ((((aG _ w).alloc (aB _) _).alloc aL _).trans (HB.o.mono (by simp;omega))) (But.Xj (But.refl (w.heap.size+1) _) _ _ _ _ _ _) af af
theorem PS(xs:List Nat)(ao:Option Addr)(n cap:Nat)(a b:Int)(w:World)(hn:n=xs.length)(hm:may a b=true)(hl:65536<n)(hn2:n<=35184372088832) :
 Calls Tryz.prog 66 #[.slice ao n cap,.agg #[.int .i64 a,.int .i64 b]] w (iU w a b xs):=by
 have H:=hid (jR a b);rw[hm] at H;have HE:Aside (dZ a b xs=2):=by unfold dZ;rw[if_neg (by rw[hm];decide),if_pos af,Aside]
 clear hm hn;go_enter Tryz.func66,Tryz.ntmps66;go_wp2_with fail;refine(H.o _).mono ?_;rintro r w1 ⟨rfl,hb⟩;have hsz:=hb.size;simp at hsz;obtain⟨hc,hf⟩:=aU hb;have HB:=au hb;clear hb;go_wp2;refine aJ (v:=.tuple #[.slice none 0 0,.agg #[.int .i64 0,.int .i64 0,.int .i64 0,.int .i64 0,.int .i64 0,.int .i64 0],.int .i64 2]) (by simp[results,Tryz.results66,go_sem,MJ,hc]) rfl (iU.no 2 HE.o aA ?_);exact But.below ((((aG _ w).alloc (aB _) _).alloc aL _).trans (HB.o.mono (by simp;omega))) (But.Xj (But.refl (w.heap.size+1) _) _ _ _ _ _ _) af af
theorem Qa2{P:Prop}(h:P:=by
 go_roundg (n-(i+1))
 case measure=>omega
 case rel=>exact⟨i+1,af,by first | go_num | (congr 1;omega),HI⟩):P:=h
set_option maxRecDepth 100000 in
theorem PT(xs:List Nat)(ao:Option Addr)(n cap B:Nat)(a b:Int)(w:World)(hn:n=xs.length)(hm:may a b=true)(hl:n<=65536)(hx:Wf xs)(hR:Rd B w ao xs)(hB:B<=w.heap.size) :
 Calls Tryz.prog 66 #[.slice ao n cap,.agg #[.int .i64 a,.int .i64 b]] w (iU w a b xs):=by
 have H:=hid (jR a b);rw[hm] at H;have HE:Aside (dZ a b xs=rf (cn 5 xs:Nat) (cn 3 xs:Nat) (cn 4 xs:Nat) a b):=by unfold dZ;rw[if_neg (by rw[hm];decide),if_neg af,Aside]
 have hmk:=PR n hl;have HX:=(mh hn hx hR hB);clear hm hn hx hR hB;go_enter Tryz.func66,Tryz.ntmps66;go_wp2_with fail;refine(H.o _).mono ?_;rintro r w1 ⟨rfl,hb⟩;have hsz:=hb.size;simp at hsz;obtain⟨hc,hf⟩:=aU hb;have HB:=au hb
 have HZ:Aside (kQ w1 (w.heap.size+1) 0 0 0 0 0 0):=by
  have h1:=kQ.made (w.alloc (.cells #[.int .i64 a,.int .i64 b] 34)) 0 0 0 0 0 0;simp only[dL] at h1;exact h1.below hb aL
 clear hb;go_wp2
 go_loopg [7,28] n (fun gk lv cv wr=>∃ (i:Nat),gk+i=n/\cv=.int .i64 (i:Nat)/\Aside (SI w1.heap.size (w1.heap.size+1) w1 xs i (n:Nat) lv wr))
 case atStart =>
  refine⟨0,af,rfl,?_⟩;have h1:=(TT w1.heap.size w1 n hl (aB _)).alloc (.cells #[.int .i64 0,.int .i64 0,.int .i64 0,.int .i64 0,.int .i64 0,.int .i64 (n:Nat)] 73);have h2:=kQ.made (w1.alloc (.cells (madeCells #[.float .f64 0] n) 31)) 0 0 0 0 0 (n:Nat);simp only[dL] at h2;exact⟨h1,h2,((aG _ _).alloc (aB _) _).alloc aL _,by simp;omega⟩
 case round =>
  obtain⟨i,hi,rfl,HA⟩:=hrel
  by_cases hin:i=n
  · obtain rfl:gk=0:=af
    obtain⟨hn,hx,hR,hB⟩:=HX.o;have hS:=HA.o;have e:xs.take i=xs:=jc af;have hT:=hS.sp;unfold Xi at hT;rw[e] at hT;have hc0:=hT.c0;have hc1:=hT.c1;have hc2:=hT.c2;have hc3:=hT.c3;have hc4:=hT.c4;have hc5:=hT.c5;have hlt:=hT.lt;have hcb:∀ b o,b<w1.heap.size->wr.cell? ⟨b,o,none⟩=w1.cell? ⟨b,o,none⟩:=fun b o h=>hS.aD.cell (p:=⟨b,o,none⟩) h;have hp0:wr.cell? ⟨w.heap.size,0,none⟩=some (.int .i64 a):=by rw[hcb _ _ af,hc _ _ (by simp;omega)];simp[go_sem]
    have hp1:wr.cell? ⟨w.heap.size,1,none⟩=some (.int .i64 b):=by rw[hcb _ _ af,hc _ _ (by simp;omega)];simp[go_sem]
    have hZ:kQ wr (w.heap.size+1) 0 0 0 0 0 0:=HZ.o.below hS.aD af;have hbd:=fun k=>YR k xs n af hl;have HRF:=hid (fun w=>GU (cn 5 xs:Nat) (cn 3 xs:Nat) (cn 4 xs:Nat) (cn 1 xs:Nat) (cn 2 xs:Nat) (n:Nat) a b w (hbd 3) (hbd 4));obtain⟨ee,hee⟩:∃ ee,rf (cn 5 xs:Nat) (cn 3 xs:Nat) (cn 4 xs:Nat) a b=ee:=⟨_,rfl⟩;have HEE:Aside (dZ a b xs=ee):=by rw[Aside,HE.o,hee]
    rw[hee] at HRF;obtain⟨c5,e5⟩:∃ c,cn 5 xs=c:=⟨_,rfl⟩;obtain⟨c3,e3⟩:∃ c,cn 3 xs=c:=⟨_,rfl⟩;obtain⟨c4,e4⟩:∃ c,cn 4 xs=c:=⟨_,rfl⟩;obtain⟨c1,e1⟩:∃ c,cn 1 xs=c:=⟨_,rfl⟩;obtain⟨c2,e2⟩:∃ c,cn 2 xs=c:=⟨_,rfl⟩;rw[e5,e3,e4,e1,e2] at hT HRF;rw[e5] at hc0;rw[e3] at hc1;rw[e4] at hc2;rw[e1] at hc3;rw[e2] at hc4;have HY:=(EG hZ hT e e1 e2 e3 e4 e5);have Wx:=hS.size;clear hn hx hR hB hS hT e hcb hbd hee e1 e2 e3 e4 e5 hZ;subst hin;go_wp2_with fail;refine(HRF.o _).mono ?_;rintro r w5 ⟨rfl,hb5⟩;obtain⟨hZ,hT,e,e1,e2,e3,e4,e5⟩:=HY.o;have QG:=hZ.below hb5 hZ.lt;have Xl:=hT.below hb5 hT.lt;have hr5:=HA.o.row.below hb5;have hZf:=QG.frozen;have hz0:=QG.c0;have hz1:=QG.c1;have hz2:=QG.c2;have hz3:=QG.c3;have Ol:=QG.c4;have Om:=QG.c5;have ht0:=Xl.c0;have ht1:=Xl.c1;have ht2:=Xl.c2;have ht3:=Xl.c3;have ht4:=Xl.c4;have ht5:=Xl.c5;have hzl:=QG.lt;have ML:Below w.heap.size w w5:=((((aG _ w).alloc (aB _) _).alloc aL _).trans (HB.o.mono (by simp;omega))).trans ((HA.o.aD.mono af).trans (hb5.mono af));have HV:=(Vh ML hr5 QG Xl e e1 e2 e3 e4 e5);clear hZ hT e e1 e2 e3 e4 e5 hb5 QG Xl hr5 ML hc0 hc1 hc2 hc3 hc4 hc5 hp0 hp1 HY
    by_cases h0:ee=0
    · subst h0;go_wp2
      go_region
      all_goals
       go_wp2;refine aJ (v:=.tuple #[u7,.agg #[.int .i64 (c5:Nat),.int .i64 (c3:Nat),.int .i64 (c4:Nat),.int .i64 (c1:Nat),.int .i64 (c2:Nat),.int .i64 (i:Nat)],.int .i64 0]) (by simp[results,Tryz.results66,go_sem,MJ,hz0,hz1,hz2,hz3,Ol,Om]) rfl ?_;obtain⟨ML,hr5,QG,Xl,e,e1,e2,e3,e4,e5⟩:=HV.o;have aF:But (w.heap.size+1) w5 _:=(But.Xj (But.refl (w.heap.size+1) w5) (.int .i64 (c5:Nat)) (.int .i64 (c3:Nat)) (.int .i64 (c4:Nat)) (.int .i64 (c1:Nat)) (.int .i64 (c2:Nat)) (.int .i64 (i:Nat))).drew;have hR6:=Rw.mono (Rw.but hr5 aF aA QG) (show w.heap.size<=w1.heap.size by omega);rw[e] at hR6;have hans:=iU.yes HEE.o hR6 (But.below ML aF af af);rw[<-HX.o.1,e1,e2,e3,e4,e5] at hans;exact hans
    · have h0':(ee==0)=false:=by rw[beq_eq_false_iff_ne];exact h0
      go_wp2;refine aJ (v:=.tuple #[.slice none 0 0,.agg #[.int .i64 0,.int .i64 0,.int .i64 0,.int .i64 0,.int .i64 0,.int .i64 0],.int .i64 ee]) (by simp[results,Tryz.results66,go_sem,MJ,hz0,hz1,hz2,hz3,Ol,Om]) rfl (iU.no ee HEE.o h0 ?_);exact But.below HV.o.1 (But.Xj (But.refl (w.heap.size+1) _) _ _ _ _ _ _) af af
  · have hil:i<n:=af
    obtain⟨hn,hx,hR,hB⟩:=HX.o;have hS:=HA.o;have hbw:Below w.heap.size w wr:=((((aG _ w).alloc (aB _) _).alloc aL _).trans (HB.o.mono (by simp;omega))).trans (hS.aD.mono af);have hRw:Rd w.heap.size wr ao xs:=(hR.mono hB).below hbw;obtain⟨bb,off,hlt2,rfl,hcell⟩:=hRw (by intro e;rw[e] at hn;simp at hn;omega);have hxc:=hcell i af;have hxw:=hx.get i;obtain⟨x,jl⟩:∃ x,xs.getD i 0=x:=⟨_,rfl⟩;rw[jl] at hxc hxw;have HK:=hid (Tv x hxw);have hk5:=kp_le x;have hk3:=kp_ge x;obtain⟨kk,hkk⟩:∃ kk,kp (kd x)=kk:=⟨_,rfl⟩;rw[hkk] at HK hk5 hk3;have l1:(xs.take i).length<=65536:=by rw[gm];omega
    have hbd:=fun k=>YR k (xs.take i) 65536 l1 (aB _);have hwl:=hS.size;have HY:=(rG jl hkk hk3 hbd hn hlt2);clear hn hx hR hB hS hbw hRw hcell jl hkk hk3 hbd l1 hin;go_wp2_with fail;refine(HK.o _).mono ?_;rintro r w2 ⟨rfl,hb2⟩;have HS2:=au (SI.kind HA.o hb2 hwl);have hxc2:w2.cell? ⟨bb,off+i,none⟩=some (.float .f64 x):=by rw[hb2.cell (p:=⟨bb,off+i,none⟩) (by have:=HY.o.r5;simp;omega)];exact hxc
    have hsz2:=hb2.size;have HC:=hid (PQ kk (w1.heap.size+1) _ _ _ _ _ _ w2 hk5 HS2.o.sp (HY.o.r3.1 5) (HY.o.r3.1 3) (HY.o.r3.1 4) (HY.o.r3.1 1) (HY.o.r3.1 2));clear hb2 hxc;go_wp2_with fail;refine dI HC.o ?_;rintro r w3 ⟨rfl,hs3,yV⟩;obtain⟨jl,hkk,hk3,hbd,hn,hlt2⟩:=HY.o;have Xm:Xi w3 (w1.heap.size+1) (xs.take (i+1)) (n:Nat):=Xi.counted (w:=w2) af (by rw[jl,hkk];exact hs3);have hsz3:=yV.size
    have hxc3:w3.cell? ⟨bb,off+i,none⟩=some (.float .f64 x):=by
     have h9:=(But.below (aG w1.heap.size w2) yV af af).cell (p:=⟨bb,off+i,none⟩) (by simp;omega);rw[h9];exact hxc2
    by_cases hk2:kd x<=2
    · have hge:(3:Int)<=(kk:Int):=by have:=hk3.2 hk2;omega
      obtain⟨v',w4,hap,hrow4,hb4,TV,hsz4⟩:=push w1.heap.size w3 u7 (fin (xs.take i)) x (SI.row2 HS2.o yV) (by have h1:=TS (xs.take i);rw[gm] at h1;omega) af;have HI:=au (SI.into (v':=v') HS2.o af Xm yV af af (by rw[jl];exact hk2) (by rw[jl];exact hrow4) hb4 TV hsz4);have HAP:=hid hap;clear hap hrow4 hb4 TV hsz4 hs3 Xm yV jl hkk hk3 hbd hn hlt2 hk2 hxc2
      go_wp2_with (at_builtin;refine ry rfl (.tmp 40) (.tmp 45) 32 rfl _ _ rfl rfl _ _ HAP.o ?_)
      exact Qa2
    · have hge:decide ((3:Int)<=(kk:Int))=false:=decide_eq_false (fun h=>hk2 (hk3.1 af));have HI:=au (SI.o HS2.o af Xm yV af af (by rw[jl];exact hk2));clear hs3 Xm yV jl hkk hk3 hbd hn hlt2 hk2 hxc2;go_wp2;exact Qa2
theorem G5(xs:List Nat)(ao:Option Addr)(n cap B:Nat)(a b:Int)(w:World)(hn:n=xs.length)(hm:n<=35184372088832)(hx:Wf xs)(hR:Rd B w ao xs)(hB:B<=w.heap.size) :
 Calls Tryz.prog 66 #[.slice ao n cap,.agg #[.int .i64 a,.int .i64 b]] w (iU w a b xs):=by
 rcases h:may a b with _|_
 · exact TU xs ao n cap a b w h
 · by_cases hl:65536<n
   · exact PS xs ao n cap a b w hn h hl hm
   · exact PT xs ao n cap B a b w hn h af hx hR hB
end Ps
section
open Go.RowKit J
def kO13(k:Nat):Nat:=if k=5 then 1 else if k=3 then 2 else if k=4 then 3 else if k=1 then 4 else if k=2 then 5 else 0
theorem m42:max (4:Int) 2=4:=aA
theorem m32:max (3:Int) 2=3:=aA
theorem m02:max (0:Int) 2=2:=aA
theorem n42:min (4:Int) 2=2:=aA
theorem n32:min (3:Int) 2=2:=aA
theorem n02:min (0:Int) 2=0:=aA
theorem Qbj{P:Prop}(h:P:=by
 exact⟨by unfold pk;simp[m42,m32,m02,n42,n32,n02],fun _=>fx,fun _=>by omega⟩):P:=h
theorem Qa6{P:Prop}(h:P:=by
 refine⟨by unfold pk;simp[m42,m32,m02,n42,n32,n02],?_⟩;exact⟨fun q=>by omega,fun q=>absurd q hf⟩):P:=h
theorem mR{x:Nat}(hx:x<18446744073709551616):pK x 4607182418800017408=kO13 (kd x)/\(kd x<=2↔iY x):=by
 have c1:lJ 4607182418800017408=2:=by decide +kernel
 have n1:RD 4607182418800017408=false:=by decide +kernel
 have em:aP x=x%9223372036854775808:=rfl;have en:fM x=decide (9223372036854775808<=x):=rfl;unfold pK kO13;rw[c1,n1];rcases Nat.lt_trichotomy 9218868437227405312 (aP x) with h|h|h
 · have hk:kd x=5:=by unfold kd;rw[if_pos af]
   rw[Te h,hk];refine⟨by unfold pk;simp[m42,m32,m02,n42,n32,n02],?_⟩;constructor
   · intro q;omega
   · intro q;exact absurd (show aP x<9218868437227405312 from q) af
 · obtain⟨h1,h2⟩:=Tf h.symm;rw[h1,h2];have hf:¬ iY x:=fun q=>absurd (show aP x<9218868437227405312 from q) af
   by_cases hs:9223372036854775808<=x
   · have hk:kd x=4:=by unfold kd;rw[if_neg af,if_pos af,if_pos af]
     rw[hk,en,decide_eq_true hs];exact Qa6
   · have hk:kd x=3:=by unfold kd;rw[if_neg af,if_pos af,if_neg af]
     rw[hk,en,decide_eq_false hs];exact Qa6
 · have fx:iY x:=h;obtain⟨p1,p2,p3,p4⟩:=uq hx fx;rw[p1]
   by_cases h0:aP x=0
   · rw[h0,DT] at p2
     have hfr:wm x=0:=by
      rcases Nat.mul_eq_zero.1 p2.symm with q|q
      · exact q
      · have:=bK (FN x+1074).toNat;omega
     have hc:lJ x=0:=by
      rcases p4 with q|q
      · exact q.1
      · exact absurd hfr q.2
     rw[hc]
     by_cases hs:9223372036854775808<=x
     · have hk:kd x=1:=by unfold kd;rw[if_neg af,if_neg af,if_pos af,if_pos af]
       rw[hk,en,decide_eq_true hs];exact Qbj
     · have hk:kd x=2:=by unfold kd;rw[if_neg af,if_neg af,if_pos af,if_neg af]
       rw[hk,en,decide_eq_false hs];exact Qbj
   · have hk:kd x=0:=by unfold kd;rw[if_neg af,if_neg af,if_neg af]
     have hfr:wm x≠0:=by
      intro q;rw[q,gT] at p2;have:=Z6.mono (show 0<aP x by omega);omega
     have hc:lJ x=1\/lJ x=2:=by
      rcases p4 with q|q
      · exact absurd q.2 hfr
      · exact q.1
     rw[hk];refine⟨?_,fun _=>fx,fun _=>by omega⟩;rcases hc with q|q
     · rw[q,show max (1:Int) 2=2 by decide,show min (1:Int) 2=1 by decide];unfold pk;simp
     · rw[q,show max (2:Int) 2=2 by decide,show min (2:Int) 2=2 by decide];unfold pk;simp
theorem kd5(x:Nat):kd x<=5:=by unfold kd;(repeat' split) <;> omega
theorem yX:∀ (xs:List Nat) (s:Sp),eD xs->xs.foldl (fun s x=>s.cnt (pK x 4607182418800017408) 1) s=⟨s.n+Ps.cn 5 xs,s.u+Ps.cn 3 xs,s.d+Ps.cn 4 xs,s.m+Ps.cn 1 xs,s.p+Ps.cn 2 xs,s.a+xs.length⟩
 | [],s,_=>by simp[Ps.cn]
 | x::xs,s,h=>by
   rw[Af,yX xs _ (fun z hz=>h z (nY _ hz)),(mR (h x qD)).1];have hk:=kd5 x;unfold Sp.cnt kO13 Ps.cn;simp only[nZ,kU];obtain q|q|q|q|q|q:kd x=0\/kd x=1\/kd x=2\/kd x=3\/kd x=4\/kd x=5:=af
   all_goals (rw[q];simp;(repeat' constructor) <;> omega)
theorem eu{xs:List Nat}(h:eD xs):sS xs=⟨(Ps.cn 5 xs:Nat),(Ps.cn 3 xs:Nat),(Ps.cn 4 xs:Nat),(Ps.cn 1 xs:Nat),(Ps.cn 2 xs:Nat),(xs.length:Nat)⟩:=by
 unfold sS;rw[yX xs _ h];simp
theorem uH:∀ (xs:List Nat) (v:Int),xs.foldl (fun v x=>v+pT x 4607182418800017408) v=v+vS xs
 | [],v=>by simp[vS]
 | x::xs,v=>by
   unfold vS;rw[Af,Af,uH xs (v+_),uH xs (0+_)];omega
theorem Ei(x:Nat)(xs:List Nat):vS (x::xs)=pT x 4607182418800017408+vS xs:=by
 have:=uH xs (0+pT x 4607182418800017408);unfold vS at this |-;rw[Af,this];omega
theorem Ej:∀ {xs:List Nat},eD xs->vS (Ps.fin xs)=vS xs
 | [],_=>rfl
 | x::xs,h=>by
   have ih:=Ej (xs:=xs) (fun z hz=>h z (nY _ hz));have hx:=h x qD;unfold Ps.fin at ih |-
   by_cases hk:kd x<=2
   · rw[List.filter_cons_of_pos (by simpa using hk),Ei,Ei,ih]
   · rw[List.filter_cons_of_neg (by simpa using hk),Ei,ih,(ZW (x:=x) (y:=4607182418800017408) (fun q=>hk ((mR hx).2.2 q.1))).1];omega
theorem wP{xs:List Nat}(h:eD xs):eD (Ps.fin xs):=fun x hx=>h x (Ag.1 hx).1
theorem wQ{xs:List Nat}(h:eD xs):∀ x ∈ Ps.fin xs,iY x:=fun x hx=>(mR (h x (Ag.1 hx).1)).2.1 (by simpa using (Ag.1 hx).2)
theorem qi:∀ {xs:List Nat},((Ps.fin xs).length:Int)=(xs.length:Int)-(Ps.cn 5 xs:Nat)-(Ps.cn 3 xs:Nat)-(Ps.cn 4 xs:Nat)
 | []=>rfl
 | x::xs=>by
   have ih:=qi (xs:=xs);have hk:=kd5 x;unfold Ps.fin Ps.cn at ih |-;simp only[nZ,kU,List.filter_cons];obtain q|q|q|q|q|q:kd x=0\/kd x=1\/kd x=2\/kd x=3\/kd x=4\/kd x=5:=af
   all_goals (rw[q];simp;omega)
def G6(pa pb:Int)(xs:List Nat):Int:=if may pa pb=false then 1 else if 65536<xs.length then 2 else Ps.rf (sS xs).n (sS xs).u (sS xs).d pa pb
def agg0:Value:=.agg #[.int .i64 0,.int .i64 0,.int .i64 0,.int .i64 0,.int .i64 0,.int .i64 0]
theorem ps_rd{B:Nat}{w:World}{a:Option Addr}{xs:List Nat}(h:Fs B w a xs):Ps.Rd B w a xs:=h
theorem xj{P:Prop}(h:P:=by
 have h1:=h.cells (g:=g) (by simp[Value.ownBlock]) i (.float .f64 (xs.getD i 0)) (by simp[Ps.U,hi]);have e:(⟨g,0,none⟩:Addr).add i=⟨g,0+i,none⟩:=by unfold Addr.add;split <;> simp_all
 rw[e] at h1;exact h1):P:=h
theorem YS{lo:Nat}{w:World}{v:Value}{xs:List Nat}(h:Ps.Lt lo w v xs):∃ a c,v=.slice a xs.length c/\Fs w.heap.size w a xs/\∀ b o p,a=some ⟨b,o,p⟩->lo<=b:=by
 have h2:=h.2;unfold Ps.Lt at h;rcases h2 with ⟨rfl,h0⟩|⟨g,cap,cur,rfl,hlo,hg,rest⟩
 · refine⟨none,0,by rw[h0],fun hne=>absurd (xg h0) hne,fun b o p h=>by cases h⟩
 · refine⟨_,cap,rfl,fun _=>⟨g,0,(fG.1 hg).1,rfl,fun i hi=>?_⟩,fun b o p h=>by cases h;exact hlo⟩;exact xj
theorem TW(xs:List Nat)(a:Option Addr)(n c:Nat)(pa pb:Int)(w:World)(hn:n=xs.length)(hm:n<=35184372088832)(hF:Fs w.heap.size w a xs)(hW:eD xs) :
 Calls Tryz.prog 66 #[.slice a n c,.agg #[.int .i64 pa,.int .i64 pb]] w fun r w' =>
  ((G6 pa pb xs≠0/\∃ a' c',r=.returned (.tuple #[.slice a' 0 c',agg0,.int .i64 (G6 pa pb xs)])) \/
   (G6 pa pb xs=0/\∃ a' c',r=.returned (.tuple #[.slice a' (Ps.fin xs).length c',(sS xs).agg,.int .i64 0])/\Fs w'.heap.size w' a' (Ps.fin xs)/\∀ b o p,a'=some ⟨b,o,p⟩->w.heap.size<=b))/\Below w.heap.size w w':=by
 have e1:Ps.dZ pa pb xs=G6 pa pb xs:=by unfold Ps.dZ G6;rw[eu hW]
 refine(Ps.G5 xs a n c w.heap.size pa pb w hn hm hW (ps_rd hF) (aB _)).mono ?_;rintro r w' ⟨v,rfl,hL,hb⟩;refine⟨?_,hb⟩;unfold Ps.GZ;unfold Ps.GV at hL;rw[e1] at hL |-
 by_cases h0:G6 pa pb xs=0
 · rw[if_pos h0] at hL |-;obtain⟨a',c',rfl,hF',hlo⟩:=YS hL;exact .inr ⟨h0,a',c',by rw[h0,eu hW];rfl,hF',hlo⟩
 · rw[if_neg h0] at hL |-;obtain⟨a',c',rfl,_⟩:=YS hL;exact .inl ⟨h0,a',c',rfl⟩
theorem Xo{pa pb:Int}{xs:List Nat}(h:G6 pa pb xs=0):xs.length<=65536/\may pa pb=true:=by
 unfold G6 at h
 cases hm:may pa pb with
 | false=>rw[hm] at h;simp at h
 | true =>
   rw[hm,if_neg aA] at h
   by_cases hl:65536<xs.length
   · rw[if_pos hl] at h;exact absurd h aA
   · exact⟨af,rfl⟩
theorem Fs.but'{B:Nat}{w w':World}{ao:Option Addr}{xs:List Nat}{g:Nat}(h:Fs B w ao xs)(hb:But g w w')(hg:∀ b o p,ao=some ⟨b,o,p⟩->b≠g):Fs B w' ao xs:=by
 intro hne;obtain⟨b,off,h1,h2,h3⟩:=h hne;have hbg:b≠g:=hg _ _ _ h2;refine⟨b,off,h1,h2,fun i hi=>?_⟩;have hc:=h3 i hi
 have hlt:b<w.heap.size:=by
  rcases iJ b w.heap.size with q|q
  · exact q
  · unfold World.cell? at hc;simp[xE q] at hc
 rw[rR (a:=⟨b,off+i,none⟩) (hb.block b hlt hbg)];exact hc
end
section
open Go Go.RowKit J
attribute [local go_sem] gZ
def f21(x:Nat):Int:=if aP x<9218868437227405312 then qW x else 0
theorem lD{x:Nat}(hx:x<18446744073709551616):Bd 2098 (f21 x):=by
 unfold f21
 by_cases h:aP x<9218868437227405312
 · rw[if_pos h];exact Mq hx h
 · rw[if_neg h];exact Bd.zero _
theorem Ke{x:Nat}(hx:x<18446744073709551616):Fm (gV 1074 (f21 x)):=cu (m:=2098) aA aA (lD hx)
theorem TY{x:Nat}(hx:x<18446744073709551616):Fm (gV 2148 (f21 x*f21 x)):=cu (m:=4196) aA aA ((lD hx).mul (lD hx))
theorem Xp{x:Nat}(hx:x<18446744073709551616):dM (gV 1074 (f21 x)) (gV 1074 (f21 x))=gV 2148 (f21 x*f21 x):=sI (u:=1074) (v:=1074) (a:=2098) (b:=2098) aA aA aA aA (lD hx) (lD hx)
def e21(x:Nat):Nat:=if bN x=true then 0 else x
theorem of21(x:Nat)(hx:x<18446744073709551616)(w:World)(hT:bO w) :
 Calls Tryz.prog 137 #[.float .f64 x] w fun r w'=>(∃ a c e,r=.returned (.tuple #[.agg #[.bool (dN (gV 1074 (f21 x))),.slice a (ws (dX (gV 1074 (f21 x)))).length c,.int .i64 (dE (gV 1074 (f21 x)))],.int .i64 e])/\Nt 0 w' (.slice a (ws (dX (gV 1074 (f21 x)))).length c) (dX (gV 1074 (f21 x))))/\Below w.heap.size w w':=by
 have F:=Ke hx
 by_cases h:aP x<9218868437227405312
 · have e:f21 x=qW x:=by unfold f21;rw[if_pos h]
   rw[e] at F |-;refine(of14 x hx h w hT).mono ?_;rintro r w' ⟨⟨v,rfl,hN⟩,hb⟩;obtain⟨a,c,rfl,hN0⟩:=Lo.shape F hN;exact⟨⟨a,c,0,rfl,hN0⟩,hb⟩
 · have e:f21 x=0:=by unfold f21;rw[if_neg h]
   rw[e,yJ,Bt];refine(GN x hx h w hT).mono ?_;rintro r w' ⟨⟨a,c,rfl,hN⟩,hb⟩;exact⟨⟨a,c,30,rfl,hN.mono (jd _)⟩,hb⟩
theorem yY{x:Nat}(hx:x<18446744073709551616):kd x=5↔bN x=true:=by
 show kd x=5↔decide (9218868437227405312<aP x)=true;have hm:aP x=x%9223372036854775808:=rfl;rw[decide_eq_true_eq,hm];unfold kd
 by_cases h:9218868437227405312<x%9223372036854775808
 · simp[h]
 · simp only[h,if_false,iff_false]
   (repeat' split) <;> omega
theorem El{x:Nat}(hx:x<18446744073709551616):(sS [x]).sm/\decide ((sS [x]).n<(sS [x]).a)=!bN x/\(sS [x]).a=1:=by
 have hW:eD [x]:=fun y hy=>by simp at hy;subst hy;exact hx
 have hc:=qi (xs:=[x]);have h:=eu hW;have k:=yY hx;have e:∀ j,Ps.cn j [x]=if kd x=j then 1 else 0:=fun j=>by simp[Ps.cn,nZ]
 rw[h];simp only[e,Cm];refine⟨⟨?_,?_,?_,?_,?_,?_,?_⟩,?_,rfl⟩ <;> try simp only
 any_goals (split <;> decide)
 · generalize kd x=q
   (repeat' split) <;> (subst_vars;first | omega | simp_all)
 · decide
 · by_cases q:bN x=true
   · rw[if_pos (k.2 q),q];rfl
   · rw[if_neg (fun c=>q (k.1 c))];simp only[Bool.not_eq_true] at q;rw[q];rfl
theorem T9(w:World)(x:Nat):Fs (w.alloc (Obj.cells #[.float .f64 x] 31)).heap.size (w.alloc (Obj.cells #[.float .f64 x] 31)) (some ⟨w.heap.size,0,none⟩) [x]:=by
 intro _;refine⟨w.heap.size,0,aL,rfl,fun i hi=>?_⟩;obtain rfl:i=0:=by simpa using hi
 exact(Bl.new w 31 [.float .f64 x]).cell 0 _ rfl
theorem Xq(w:World):Calls Tryz.prog 136 #[] w fun r w'=>r=.returned (.agg #[.int .i64 0,.int .i64 0])/\Below w.heap.size w w':=by
 go_enter Tryz.func136,Tryz.ntmps136;go_wp2;exact aJ (v:=.agg #[.int .i64 0,.int .i64 0]) (by simp[results,Tryz.results136,go_sem]) rfl ⟨rfl,ak _ _⟩
theorem Ua(x:Nat):G6 0 0 [x]=0:=by
 unfold G6;rw[if_neg (show ¬ (may 0 0=false) by decide),if_neg (show ¬ 65536<[x].length by simp)];unfold Ps.rf;rw[if_neg aL,if_neg aL]
theorem Uc(x:Nat)(hx:x<18446744073709551616)(w:World)(hT:bO w) :
 Calls Tryz.prog 75 #[.float .f64 x] w fun r w'=>∃ g,r=.returned (.pointer (some ⟨g,0,none⟩))/\w.heap.size<=g/\fe w' g (sS [x]) (gV 1074 (f21 x)) (gV 2148 (f21 x*f21 x)) (e21 x) (e21 x)/\Below w.heap.size w w':=by
 have hW:eD [x]:=fun y hy=>by simp at hy;subst hy;exact hx
 have HOF:=hid (fun(u:World) (hu:Below w.heap.size w u)=>of21 x hx u (hT.belows hu));have F1:=Ke hx;have F2:=TY hx;have F3:=Xp hx;obtain⟨o,ho⟩:=ah (gV 1074 (f21 x));obtain⟨q,hq⟩:=ah (gV 2148 (f21 x*f21 x));rw[<-ho] at HOF F1 F3 |-;rw[<-hq] at F2 F3 |-;obtain⟨E,hE⟩:=ah (e21 x);rw[<-hE];obtain⟨k1,k2,k3⟩:=El hx;have FF:=(EF F1 F2 F3 hT hE k1 k2);clear F1 F2 F3 ho hq hE k1 k2 k3;obtain⟨W,nS⟩:=ah (w.alloc (Obj.cells #[.float .f64 x] 31));have hb0:Below w.heap.size w W:=by rw[nS];exact ak _ _
 have hF:Fs W.heap.size W (some ⟨w.heap.size,0,none⟩) [x]:=by rw[nS];exact T9 w x
 have zJ:=hid (fun u:World=>Xq u);have HSF:=hid (fun(u:World) (hu:Below W.heap.size W u)=>TW [x] (some ⟨w.heap.size,0,none⟩) 1 1 0 0 u rfl aA ((hF.below hu).mono hu.size) hW);have HW:=au nS;have HB:=au hb0;clear nS hb0 hF hW;go_enter Tryz.func75,Tryz.ntmps75
 go_upto_region 1 with fail
 go_wp2_with fail;rw[<-HW.o];refine(zJ.o _).mono ?_;rintro r u ⟨rfl,hb⟩;have C:=hid (HSF.o u hb);go_wp2_with fail;refine C.o.mono ?_;rintro r u2 ⟨hr,hb2⟩;rcases hr with ⟨h0,_⟩|⟨_,a',c',rfl,_,_⟩
 · exact absurd (Ua x) h0
 obtain⟨⟨sn,su,sd,sm,sp,sa⟩,hs⟩:∃ s,s=sS [x]:=⟨_,rfl⟩;rw[<-hs];unfold Sp.agg;simp only;have B2:=au ((HB.o.trans (hb.mono HB.o.size)).trans (hb2.mono (aV HB.o.size hb.size)));clear hb hb2 C HSF zJ HW HB;rw[<-hs] at FF;have HSS:=au hs
 go_upto_region 3 with fail
 obtain⟨V,hV⟩:=ah ((u2.alloc (Obj.cells #[.int .i64 sn,.int .i64 su,.int .i64 sd,.int .i64 sm,.int .i64 sp,.int .i64 sa] 73)).alloc (Obj.cells #[.int .i64 sn,.int .i64 su,.int .i64 sd,.int .i64 sm,.int .i64 sp,.int .i64 sa,.bool false,.slice none 0 0,.int .i64 0,.bool false,.slice none 0 0,.int .i64 0,.float .f64 0,.float .f64 0] 79));rw[<-hV];obtain⟨g,hg⟩:=ah (u2.heap.size+1)
 have H1:Aside (Bl V g 79 [.int .i64 sn,.int .i64 su,.int .i64 sd,.int .i64 sm,.int .i64 sp,.int .i64 sa,.bool false,.slice none 0 0,.int .i64 0,.bool false,.slice none 0 0,.int .i64 0,.float .f64 0,.float .f64 0]/\Below w.heap.size w V/\w.heap.size<=g):=by
  rw[hV,hg];have:=B2.o.size;exact⟨Bl.new' (u2.alloc _) _ _ [_,_,_,_,_,_,_,_,_,_,_,_,_,_] aL,(B2.o.trans ((ak _ _).mono this)).trans ((ak _ _).mono (by simp;omega)),af⟩
 rw[<-hg];clear hV hg B2;have C:=hid (HOF.o V H1.o.2.1);go_wp2_with fail;refine C.o.mono ?_;rintro r u3 ⟨⟨oa,oc,oe,rfl,hN⟩,hb⟩;have H2:Aside (Bl u3 g 79 [.int .i64 sn,.int .i64 su,.int .i64 sd,.int .i64 sm,.int .i64 sp,.int .i64 sa,.bool false,.slice none 0 0,.int .i64 0,.bool false,.slice none 0 0,.int .i64 0,.float .f64 0,.float .f64 0]/\Below w.heap.size w u3/\w.heap.size<=g/\Nt 0 u3 (.slice oa (ws (dX o)).length oc) (dX o)):=au ⟨H1.o.1.below hb H1.o.1.lt,H1.o.2.1.trans (hb.mono H1.o.2.1.size),H1.o.r2,hN⟩;clear hb hN C HOF H1;have z6:=H2.o.1.cell 6 _ rfl;have z7:=H2.o.1.cell 7 _ rfl;have z8:=H2.o.1.cell 8 _ rfl;have f6:=H2.o.1.frozen 6;have f7:=H2.o.1.frozen 7;have f8:=H2.o.1.frozen 8
 go_upto_region 4 with fail
 obtain⟨V3,G7⟩:=ah (((u3.setCell ⟨g,6,none⟩ (.bool (dN o))).setCell ⟨g,7,none⟩ (.slice oa (ws (dX o)).length oc)).setCell ⟨g,8,none⟩ (.int .i64 (dE o)));rw[<-G7];have aF:But g u3 V3:=by rw[G7];exact(((But.refl g u3).set 6 _).set 7 _).set 8 _
 have hB3:Bl V3 g 79 [.int .i64 sn,.int .i64 su,.int .i64 sd,.int .i64 sm,.int .i64 sp,.int .i64 sa,.bool (dN o),.slice oa (ws (dX o)).length oc,.int .i64 (dE o),.bool false,.slice none 0 0,.int .i64 0,.float .f64 0,.float .f64 0]:=by rw[G7];exact((H2.o.1.set 6 _).set 7 _).set 8 _
 have Ud:Bl V3.drew g 79 [.int .i64 sn,.int .i64 su,.int .i64 sd,.int .i64 sm,.int .i64 sp,.int .i64 sa,.bool (dN o),.slice oa (ws (dX o)).length oc,.int .i64 (dE o),.bool false,.slice none 0 0,.int .i64 0,.float .f64 0,.float .f64 0]:=hB3;have BD:Aside (Nt 0 V3.drew (.slice oa (ws (dX o)).length oc) (dX o)/\Bl V3.drew g 79 [.int .i64 sn,.int .i64 su,.int .i64 sd,.int .i64 sm,.int .i64 sp,.int .i64 sa,.bool (dN o),.slice oa (ws (dX o)).length oc,.int .i64 (dE o),.bool false,.slice none 0 0,.int .i64 0,.float .f64 0,.float .f64 0]/\Below w.heap.size w V3.drew):=au ⟨bZ H2.o.r3 H2.o.1 aA aF.drew,Ud,(But.below H2.o.2.1 aF H2.o.2.1.size H2.o.r2.1).drew⟩;have HGE:=au H2.o.r2.1;have kS:Aside (V3.drew.cell? ⟨g,6,none⟩=some (.bool (dN o))/\V3.drew.cell? ⟨g,7,none⟩=some (.slice oa (ws (dX o)).length oc)/\V3.drew.cell? ⟨g,8,none⟩=some (.int .i64 (dE o))):=au ⟨Ud.cell 6 _ rfl,Ud.cell 7 _ rfl,Ud.cell 8 _ rfl⟩;clear G7 aF hB3 Ud H2 z6 z7 z8 f6 f7 f8;refine eZ (fun w'=>w'.cell? ⟨g,6,none⟩=some (.bool (dN o))/\w'.cell? ⟨g,7,none⟩=some (.slice oa (ws (dX o)).length oc)/\w'.cell? ⟨g,8,none⟩=some (.int .i64 (dE o))) 12 gD ?_;obtain⟨Wd,hWd⟩:=ah (V3.drew);rw[<-hWd] at BD kS |-;clear hWd
 refine tk 0 [10,11] rfl kS.o ?_;try simp only[Act.put,sa,sb,sc]
 refine tk 1 [2,3,4,9] rfl kS.o ?_;try simp only[Act.put,sa,sb,sc]
 refine tk 2 [3,4,9] rfl kS.o ?_;try simp only[Act.put,sa,sb,sc]
 refine tk 3 [4,9] rfl kS.o ?_;try simp only[Act.put,sa,sb,sc]
 refine tk 4 [9] rfl kS.o ?_;try simp only[Act.put,sa,sb,sc]
 refine tk 5 [6,7,8,9] rfl kS.o ?_;try simp only[Act.put,sa,sb,sc]
 refine tk 6 [7,8,9] rfl kS.o ?_;try simp only[Act.put,sa,sb,sc]
 refine tk 7 [8,9] rfl kS.o ?_;try simp only[Act.put,sa,sb,sc]
 refine tk 8 [9] rfl kS.o ?_;try simp only[Act.put,sa,sb,sc]
 refine aO (i:=9) gD rfl (fun K' hK=>?_);have C:=hid (DX FF.o.1 FF.o.1 FF.o.2.1 BD.o.1 BD.o.1 (FF.o.r3.1.belows BD.o.r2) FF.o.r2.1);go_simp;refine C.o.mono ?_;rintro r Xh ⟨hd,hb⟩;obtain⟨Ve,Vf,rfl,hN⟩:=hd.dR;clear hd;have yT:=mh (BD.o.1.below hb) (BD.o.2.1.below hb BD.o.2.1.lt) (BD.o.r2.trans (hb.mono BD.o.r2.size)) hN;have vE:=au (ck3 hb kS.o);clear hb hN C BD kS;have BD:=yT;have kS:=vE;clear yT vE
 try dsimp only
 refine hK.out _ _ (fun _=>kS.o) ?_;clear hK K'
 try simp only[Act.put,sa,sb,sc]
 refine aO (i:=10) gD rfl (fun K' hK=>?_);go_simp;refine hK.out _ _ (fun _=>kS.o) ?_;clear hK K'
 try simp only[Act.put,sa,sb,sc]
 refine aO (i:=11) gD rfl (fun K' hK=>?_);go_simp;refine hK.out _ _ (fun _=>kS.o) ?_;clear hK K'
 try simp only[Act.put,sa,sb,sc]
 have ic:=BD.o.2.1;have f9:=ic.frozen 9;have z9:=ic.cell 9 _ rfl;have f10:=ic.frozen 10;have z10:=ic.cell 10 _ rfl;have f11:=ic.frozen 11;have z11:=ic.cell 11 _ rfl;clear ic kS;refine aO (i:=12) gD rfl (fun K' hK=>?_);go_simp;refine hK.out _ _ (fun h=>absurd h aA) ?_;clear hK K' f9 f10 f11 z9 z10 z11;refine gY gD ?_ _;obtain⟨V5,YT⟩:=ah (((Xh.setCell ⟨g,9,none⟩ (.bool (dN q))).setCell ⟨g,10,none⟩ (.slice Ve (ws (dX q)).length Vf)).setCell ⟨g,11,none⟩ (.int .i64 (dE q)));rw[<-YT];have aF:But g Xh V5:=by rw[YT];exact(((But.refl g _).set 9 _).set 10 _).set 11 _
 have H5:Aside (Bl V5 g 79 (uE ⟨sn,su,sd,sm,sp,sa⟩ o q oa oc Ve Vf 0 0)/\Nt 0 V5 (.slice oa (ws (dX o)).length oc) (dX o)/\Nt 0 V5 (.slice Ve (ws (dX q)).length Vf) (dX q)/\Below w.heap.size w V5):=by
  refine au ⟨?_,bZ BD.o.1 BD.o.2.1 aA aF,bZ BD.o.r3 BD.o.2.1 aA aF,But.below BD.o.r2.1 aF BD.o.r2.1.size HGE.o⟩;rw[YT];exact((BD.o.2.1.set 9 _).set 10 _).set 11 _
 clear YT aF BD;have CR:=hid (ll (w:=V5) (g:=g) (s:=⟨sn,su,sd,sm,sp,sa⟩) (o:=o) (q:=q) (lo:=0) (hi:=0) ⟨oa,oc,Ve,Vf,H5.o.1,H5.o.2.1,H5.o.r2.1⟩);rw[FF.o.r6] at CR;go_wp2_with fail;refine CR.o.mono ?_;rintro r v ⟨rfl,hb⟩;have H6:Aside (Bl v g 79 (uE ⟨sn,su,sd,sm,sp,sa⟩ o q oa oc Ve Vf 0 0)/\Nt 0 v (.slice oa (ws (dX o)).length oc) (dX o)/\Nt 0 v (.slice Ve (ws (dX q)).length Vf) (dX q)/\Below w.heap.size w v):=au ⟨H5.o.1.below hb H5.o.1.lt,H5.o.2.1.below hb,H5.o.r2.1.below hb,H5.o.r3.trans (hb.mono H5.o.r3.size)⟩;clear hb CR H5;have hE:=FF.o.r4.1;unfold e21 at hE
 cases hn:bN x
 case true =>
  rw[hn,if_pos rfl] at hE;subst hE;go_wp2;refine aJ (v:=.pointer (some ⟨g,0,none⟩)) (by simp[results,Tryz.results75,go_sem]) rfl ?_;exact⟨g,rfl,HGE.o,⟨oa,oc,Ve,Vf,by rw[<-HSS.o];exact H6.o.1,H6.o.2.1,H6.o.r2.1⟩,H6.o.r3⟩
 case false =>
  rw[hn,if_neg aA] at hE;subst hE;have z12:=H6.o.1.cell 12 _ rfl;have z13:=H6.o.1.cell 13 _ rfl;have f12:=H6.o.1.frozen 12;have f13:=H6.o.1.frozen 13;go_wp2;have aF:But g v ((v.setCell ⟨g,12,none⟩ (.float .f64 E)).setCell ⟨g,13,none⟩ (.float .f64 E)):=((But.refl g v).set 12 _).set 13 _;refine aJ (v:=.pointer (some ⟨g,0,none⟩)) (by simp[results,Tryz.results75,go_sem]) rfl ?_;exact⟨g,rfl,HGE.o,⟨oa,oc,Ve,Vf,by rw[<-HSS.o];exact(H6.o.1.set 12 _).set 13 _,bZ H6.o.2.1 H6.o.1 aA aF,bZ H6.o.r2.1 H6.o.1 aA aF⟩,But.below H6.o.r3 aF H6.o.r3.size HGE.o⟩
theorem Add21{w:World}{g:Nat}{s:Sp}{o q oo qq:Option (Bool×Nat×Int)}{lo hi:Nat}(x:Nat)(hx:x<18446744073709551616)(H1:fe w g s o q lo hi)(hs:s.sm)(hc:s.a+1<=1099511627776)(F1:Fm o)(F3:Fm oo)(G1:Fm q)(G3:Fm qq)(ha:iO o (gV 1074 (f21 x))=oo)(hq:iO q (gV 2148 (f21 x*f21 x))=qq)(hT:bO w)(l1:lo<18446744073709551616)(l2:hi<18446744073709551616) :
 Calls Tryz.prog 27 #[.pointer (some ⟨g,0,none⟩),.float .f64 x] w fun r w'=>r=.returned (.int .i64 0)/\fe w' g (s.pl (sS [x])) oo qq (loM (decide (s.n<s.a)) (!bN x) lo (e21 x)) (hiM (decide (s.n<s.a)) (!bN x) hi (e21 x))/\But g w w':=by
 obtain⟨k1,k2,k3⟩:=El hx;have HS:=hid (Uc x hx w hT);have he:e21 x<18446744073709551616:=by unfold e21;split <;> omega
 have HX:=au H1;have HM:=hid (fun(u:World) (h:Nat) (hb:Below w.heap.size w u) (hh:fe u h (sS [x]) (gV 1074 (f21 x)) (gV 2148 (f21 x*f21 x)) (e21 x) (e21 x))=>MI (H1.aD hb) hh hs k1 (by rw[k3];exact hc) F1 (Ke hx) F3 G1 (TY hx) G3 ha hq (hT.belows hb) l1 l2 he he);rw[k2] at HM;clear k1 k2 k3 he H1 hs hc F1 F3 G1 G3 ha hq hT;go_enter Tryz.func27,Tryz.ntmps27;go_wp2_with fail;refine HS.o.mono ?_;rintro r u ⟨h,rfl,h1,h2,h3⟩;have C:=hid (HM.o u h h3 h2);have HB:=au h3;clear h1 h2 h3 HM HS;go_wp2_with fail;refine C.o.mono ?_;rintro r v ⟨rfl,k1,k2⟩;have HK:=(aT k1 k2);clear k1 k2 C;go_wp2;go_ret;exact⟨rfl,HK.o.1,((But.refl g w).of_below HB.o).trans HK.o.2⟩
end
section
open Go Go.RowKit J
attribute [local go_sem] B.bu
theorem Tryz.mU:Tryz.prog.underlying 80=some (.array 6 3):=by kernel_rfl
theorem jx{P:Prop}(h:P:=by
 simp[Instr.index,run_underlying Tryz.mU,asIntOf,go_sem]):P:=h
theorem Xr(x0 x1 x2 x3 x4 x5:Value)(w:World):(Instr.index 80 (.agg #[x0,x1,x2,x3,x4,x5]) (.int .i64 0)).run Tryz.prog w=.ok x0 w:=by
 exact jx
theorem Xt(x0 x1 x2 x3 x4 x5:Value)(w:World):(Instr.index 80 (.agg #[x0,x1,x2,x3,x4,x5]) (.int .i64 1)).run Tryz.prog w=.ok x1 w:=by
 exact jx
theorem Xu(x0 x1 x2 x3 x4 x5:Value)(w:World):(Instr.index 80 (.agg #[x0,x1,x2,x3,x4,x5]) (.int .i64 2)).run Tryz.prog w=.ok x2 w:=by
 exact jx
theorem Xv(x0 x1 x2 x3 x4 x5:Value)(w:World):(Instr.index 80 (.agg #[x0,x1,x2,x3,x4,x5]) (.int .i64 3)).run Tryz.prog w=.ok x3 w:=by
 exact jx
theorem Xw(x0 x1 x2 x3 x4 x5:Value)(w:World):(Instr.index 80 (.agg #[x0,x1,x2,x3,x4,x5]) (.int .i64 4)).run Tryz.prog w=.ok x4 w:=by
 exact jx
theorem Xx(x0 x1 x2 x3 x4 x5:Value)(w:World):(Instr.index 80 (.agg #[x0,x1,x2,x3,x4,x5]) (.int .i64 5)).run Tryz.prog w=.ok x5 w:=by
 exact jx
attribute [local go_sem] Xr Xt Xu Xv Xw Xx
theorem vT {w:World}{o:Oper}{a:Act}{K:Act->World->Prop}{Q:Exit->Act->World->Prop}(s x:Operand)
 (ho:o.op=.call { callee:=.builtin .append,args:=#[s,x],argTypes:=#[26,26] }) (v u:Value) (hs:a.eval s=v) (hx:a.eval x=u) (v':Value) (w':World)
 (hrun:(Builtin.append_ #[26,26] o.type #[v,u]).run Tryz.prog w=.ok v' w') (h:K (a.put o.dst v') w'):Oper.wp Tryz.prog o a w K Q:=by
 unfold Oper.wp;simp[execOp,ho,resolve,invoke,builtin,hs,hx,hrun,Result.andThen];exact h
theorem YU{W:World}{g1 g2 n1 n2:Nat}{L1 L2:List Nat}(h1:By W g1 L1)(h2:By W g2 L2)(e1:n1=L1.length)(e2:n2=L2.length) :
 ∀ i,i<([L1,L2]:List (List Nat)).length->∃ g,([.slice (some ⟨g1,0,none⟩) n1 n1,.slice (some ⟨g2,0,none⟩) n2 n2]:List Value)[i]?=some (.slice (some ⟨g,0,none⟩) (([L1,L2]:List (List Nat)).getD i []).length (([L1,L2]:List (List Nat)).getD i []).length)/\By W g (([L1,L2]:List (List Nat)).getD i []):=by
 intro i hi;subst e1 e2
 match i,hi with
 | 0,_=>exact⟨g1,rfl,h1⟩
 | 1,_=>exact⟨g2,rfl,h2⟩
theorem BA{W:World}{g1 n1:Nat}{L1:List Nat}(h1:By W g1 L1)(e1:n1=L1.length) :
 ∀ i,i<([L1]:List (List Nat)).length->∃ g,([.slice (some ⟨g1,0,none⟩) n1 n1]:List Value)[i]?=some (.slice (some ⟨g,0,none⟩) (([L1]:List (List Nat)).getD i []).length (([L1]:List (List Nat)).getD i []).length)/\By W g (([L1]:List (List Nat)).getD i []):=by
 intro i hi;subst e1
 match i,hi with
 | 0,_=>exact⟨g1,rfl,h1⟩
def QH(n u d m p a:Nat):List (List Nat):=[n,u,d,m,p,a].map fun x=>aR x 8
def IK(n u d m p a:Nat)(o q:Option (Bool×Nat×Int))(lo hi:Nat):List (List Nat) :=
 (QH n u d m p a++[qJ (dN o) (dX o) (dE o+4096).toNat,qJ (dN q) (dX q) (dE q+4096).toNat])++(if n<a then[aR lo 8,aR hi 8] else[])
def Ue(n u d m p a:Nat)(o q:Option (Bool×Nat×Int))(lo hi:Nat):List Nat:=(IK n u d m p a o q lo hi).flatten
theorem Uf{n u d m p a:Nat}{o q:Option (Bool×Nat×Int)}{lo hi:Nat}:∀ k,k<(IK n u d m p a o q lo hi).length->0<((IK n u d m p a o q lo hi).getD k []).length:=by
 intro k hk
 have h:∀ L ∈ IK n u d m p a o q lo hi,0<L.length:=by
  intro L hL;unfold IK at hL;rcases fA.1 hL with h|h
  · rcases fA.1 h with h | h
    · obtain⟨x,_,rfl⟩:=kW.1 h;rw[aN];decide
    · simp at h;rcases h with rfl | rfl <;> (rw[nE];omega)
  · split at h
    · simp at h;rcases h with rfl | rfl <;> (rw[aN];decide)
    · simp at h
 exact Qbe
theorem MN(n u d m p a:Nat)(o q:Option (Bool×Nat×Int))(lo hi:Nat):(IK n u d m p a o q lo hi).length<=10:=by
 unfold IK QH;split <;> simp
theorem MO{n u d m p a:Nat}{o q:Option (Bool×Nat×Int)}{lo hi:Nat}(h1:(ws (dX o)).length<=65535)(h2:(ws (dX q)).length<=65535):(Ue n u d m p a o q lo hi).length<=1000000:=by
 have a1:=nE (dN o) (dX o) (dE o+4096).toNat;have a2:=nE (dN q) (dX q) (dE q+4096).toNat;unfold Ue IK QH
 split <;> simp[aN,a1,a2] <;> omega
theorem BH(n u d m p a:Nat)(k x:Nat)(hk:[n,u,d,m,p,a][k]?=some x):(([n,u,d,m,p,a].take (k+1)).map fun x=>aR x 8)=(([n,u,d,m,p,a].take k).map fun x=>aR x 8)++[aR x 8]:=by
 rw[vo,hk,uV];rfl
set_option maxRecDepth 20000 in
theorem zU (w:World) (g n u d m p a:Nat) (o q:Option (Bool×Nat×Int)) (lo hi E1 E2 N1 N2:Nat) (a1 a2:Option Addr) (c1 c2:Nat)
 (HG:Bl w g 79 [.int .i64 (n:Int),.int .i64 (u:Int),.int .i64 (d:Int),.int .i64 (m:Int),.int .i64 (p:Int),.int .i64 (a:Int),.bool (dN o),.slice a1 (ws (dX o)).length c1,.int .i64 (dE o),.bool (dN q),.slice a2 (ws (dX q)).length c2,.int .i64 (dE q),.float .f64 lo,.float .f64 hi]) (M1:Nt 0 w (.slice a1 (ws (dX o)).length c1) (dX o)) (M2:Nt 0 w (.slice a2 (ws (dX q)).length c2) (dX q))
 (hw1:IntKind.u64.wrap (n:Int)=n) (hw2:IntKind.u64.wrap (u:Int)=u) (hw3:IntKind.u64.wrap (d:Int)=d) (hw4:IntKind.u64.wrap (m:Int)=m) (mF:IntKind.u64.wrap (p:Int)=p) (hw6:IntKind.u64.wrap (a:Int)=a)
 (HQ:Aside ((n<18446744073709551616/\u<18446744073709551616/\d<18446744073709551616/\m<18446744073709551616/\p<18446744073709551616/\a<18446744073709551616/\lo<18446744073709551616/\hi<18446744073709551616)/\(dE o+4096=(E1:Int)/\E1<=65535/\dE q+4096=(E2:Int)/\E2<=65535/\(ws (dX o)).length<=65535/\(ws (dX q)).length<=65535)/\N1=5+4*(ws (dX o)).length/\N2=5+4*(ws (dX q)).length)) :
 Calls Tryz.prog 10 #[.pointer (some ⟨g,0,none⟩)] w fun r w'=>∃ gb,r=.returned (.slice (some ⟨gb,0,none⟩) (Ue n u d m p a o q lo hi).length (Ue n u d m p a o q lo hi).length)/\w.heap.size<=gb/\By w' gb (Ue n u d m p a o q lo hi)/\Below w.heap.size w w':=by
 have HX:=(bM HG M1 M2);have x0:=HG.cell 0 _ rfl;have x1:=HG.cell 1 _ rfl;have x2:=HG.cell 2 _ rfl;have x3:=HG.cell 3 _ rfl;have x4:=HG.cell 4 _ rfl;have x5:=HG.cell 5 _ rfl;obtain⟨W,hW⟩:=ah (w.alloc (Obj.cells #[.int .i64 (n:Int),.int .i64 (u:Int),.int .i64 (d:Int),.int .i64 (m:Int),.int .i64 (p:Int),.int .i64 (a:Int)] 73));have HB0:Aside (Below w.heap.size w W):=by rw[hW];exact ak _ _
 have Wx:Bl W w.heap.size 73 [.int .i64 (n:Int),.int .i64 (u:Int),.int .i64 (d:Int),.int .i64 (m:Int),.int .i64 (p:Int),.int .i64 (a:Int)]:=by rw[hW];exact Bl.new _ _ [_,_,_,_,_,_]
 have y0:=Wx.cell 0 _ rfl;have y1:=Wx.cell 1 _ rfl;have y2:=Wx.cell 2 _ rfl;have y3:=Wx.cell 3 _ rfl;have y4:=Wx.cell 4 _ rfl;have y5:=Wx.cell 5 _ rfl;have HW:=au hW;have hg:g≠w.heap.size:=kz HG.lt;clear HG M1 M2 hW Wx;go_enter Tryz.func10,Tryz.ntmps10
 go_upto_region 2 with fail
 rw[<-HW.o];clear HW x0 x1 x2 x3 x4 x5
 go_upto_region 3 with fail
 go_wp2
 go_loopg [4,24] 6 (fun gk sv iv wr=>∃ (k:Nat) (v:Value),gk+k=6/\sv=v/\iv=.int .i64 (k:Nat)/\Aside (gB w.heap.size wr v (([n,u,d,m,p,a].take k).map fun x=>aR x 8)/\Below w.heap.size w wr))
 case atStart=>exact⟨0,_,af,rfl,aL,gB.nil _ _,HB0.o⟩
 case round =>
  obtain⟨k,v,iL,rfl,rfl,HK⟩:=hrel
  by_cases hk:k<6
  · have hd:decide ((k:Int)<6)=true:=by simp;omega
    obtain hk0|hk0|hk0|hk0|hk0|hk0:k=0\/k=1\/k=2\/k=3\/k=4\/k=5:=af
    · subst hk0;have L8:=hid (lZ n HQ.o.1.1 wr);go_wp2_with fail;refine L8.o.mono ?_;rintro r v1 ⟨rfl,hy1,hb⟩;have hbw:Below w.heap.size w v1:=HK.o.2.trans (hb.mono HK.o.2.size);have hB:=Bl.new v1 35 [.slice (some ⟨wr.heap.size,0,none⟩) 8 8];have hz:=ak v1 (Obj.cells #[.slice (some ⟨wr.heap.size,0,none⟩) 8 8] 35);obtain⟨v',w',hrun,hP,hbl,_,_⟩:=gB.more (gw:=v1.heap.size) (cnt:=1) (NN:=[aR n 8]) ((HK.o.1.below hb).below hz) hB rfl rfl aL (by have:=hbw.size;simp;omega) aL (BA (hy1.below hz hy1.lt) (by simp[aN]));have jN:=au hrun;have rF:=(aT hP ((hbw.trans (hz.mono hbw.size)).trans hbl));clear hy1 hb hbw hB hz hP hbl L8 hrun
      go_wp2_with (at_builtin;refine cZ rfl (.tmp 27) (.tmp 31) rfl _ _ rfl rfl _ _ jN.o ?_)
      go_wp2;go_roundg (gk-1)
      case measure=>omega
      case rel=>exact⟨0+1,v',af,rfl,aL,au ⟨by rw[BH n u d m p a 0 n rfl];exact rF.o.1,rF.o.2⟩⟩
    · subst hk0;have L8:=hid (lZ u HQ.o.1.2.1 wr);go_wp2_with fail;refine L8.o.mono ?_;rintro r v1 ⟨rfl,hy1,hb⟩;have hbw:Below w.heap.size w v1:=HK.o.2.trans (hb.mono HK.o.2.size);have hB:=Bl.new v1 35 [.slice (some ⟨wr.heap.size,0,none⟩) 8 8];have hz:=ak v1 (Obj.cells #[.slice (some ⟨wr.heap.size,0,none⟩) 8 8] 35);obtain⟨v',w',hrun,hP,hbl,_,_⟩:=gB.more (gw:=v1.heap.size) (cnt:=1) (NN:=[aR u 8]) ((HK.o.1.below hb).below hz) hB rfl rfl aL (by have:=hbw.size;simp;omega) aL (BA (hy1.below hz hy1.lt) (by simp[aN]));have jN:=au hrun;have rF:=(aT hP ((hbw.trans (hz.mono hbw.size)).trans hbl));clear hy1 hb hbw hB hz hP hbl L8 hrun
      go_wp2_with (at_builtin;refine cZ rfl (.tmp 27) (.tmp 31) rfl _ _ rfl rfl _ _ jN.o ?_)
      go_wp2;go_roundg (gk-1)
      case measure=>omega
      case rel=>exact⟨1+1,v',af,rfl,aL,au ⟨by rw[BH n u d m p a 1 u rfl];exact rF.o.1,rF.o.2⟩⟩
    · subst hk0;have L8:=hid (lZ d HQ.o.1.2.2.1 wr);go_wp2_with fail;refine L8.o.mono ?_;rintro r v1 ⟨rfl,hy1,hb⟩;have hbw:Below w.heap.size w v1:=HK.o.2.trans (hb.mono HK.o.2.size);have hB:=Bl.new v1 35 [.slice (some ⟨wr.heap.size,0,none⟩) 8 8];have hz:=ak v1 (Obj.cells #[.slice (some ⟨wr.heap.size,0,none⟩) 8 8] 35);obtain⟨v',w',hrun,hP,hbl,_,_⟩:=gB.more (gw:=v1.heap.size) (cnt:=1) (NN:=[aR d 8]) ((HK.o.1.below hb).below hz) hB rfl rfl aL (by have:=hbw.size;simp;omega) aL (BA (hy1.below hz hy1.lt) (by simp[aN]));have jN:=au hrun;have rF:=(aT hP ((hbw.trans (hz.mono hbw.size)).trans hbl));clear hy1 hb hbw hB hz hP hbl L8 hrun
      go_wp2_with (at_builtin;refine cZ rfl (.tmp 27) (.tmp 31) rfl _ _ rfl rfl _ _ jN.o ?_)
      go_wp2;go_roundg (gk-1)
      case measure=>omega
      case rel=>exact⟨2+1,v',af,rfl,aL,au ⟨by rw[BH n u d m p a 2 d rfl];exact rF.o.1,rF.o.2⟩⟩
    · subst hk0;have L8:=hid (lZ m HQ.o.1.2.2.2.1 wr);go_wp2_with fail;refine L8.o.mono ?_;rintro r v1 ⟨rfl,hy1,hb⟩;have hbw:Below w.heap.size w v1:=HK.o.2.trans (hb.mono HK.o.2.size);have hB:=Bl.new v1 35 [.slice (some ⟨wr.heap.size,0,none⟩) 8 8];have hz:=ak v1 (Obj.cells #[.slice (some ⟨wr.heap.size,0,none⟩) 8 8] 35);obtain⟨v',w',hrun,hP,hbl,_,_⟩:=gB.more (gw:=v1.heap.size) (cnt:=1) (NN:=[aR m 8]) ((HK.o.1.below hb).below hz) hB rfl rfl aL (by have:=hbw.size;simp;omega) aL (BA (hy1.below hz hy1.lt) (by simp[aN]));have jN:=au hrun;have rF:=(aT hP ((hbw.trans (hz.mono hbw.size)).trans hbl));clear hy1 hb hbw hB hz hP hbl L8 hrun
      go_wp2_with (at_builtin;refine cZ rfl (.tmp 27) (.tmp 31) rfl _ _ rfl rfl _ _ jN.o ?_)
      go_wp2;go_roundg (gk-1)
      case measure=>omega
      case rel=>exact⟨3+1,v',af,rfl,aL,au ⟨by rw[BH n u d m p a 3 m rfl];exact rF.o.1,rF.o.2⟩⟩
    · subst hk0;have L8:=hid (lZ p HQ.o.1.2.2.2.2.1 wr);go_wp2_with fail;refine L8.o.mono ?_;rintro r v1 ⟨rfl,hy1,hb⟩;have hbw:Below w.heap.size w v1:=HK.o.2.trans (hb.mono HK.o.2.size);have hB:=Bl.new v1 35 [.slice (some ⟨wr.heap.size,0,none⟩) 8 8];have hz:=ak v1 (Obj.cells #[.slice (some ⟨wr.heap.size,0,none⟩) 8 8] 35);obtain⟨v',w',hrun,hP,hbl,_,_⟩:=gB.more (gw:=v1.heap.size) (cnt:=1) (NN:=[aR p 8]) ((HK.o.1.below hb).below hz) hB rfl rfl aL (by have:=hbw.size;simp;omega) aL (BA (hy1.below hz hy1.lt) (by simp[aN]));have jN:=au hrun;have rF:=(aT hP ((hbw.trans (hz.mono hbw.size)).trans hbl));clear hy1 hb hbw hB hz hP hbl L8 hrun
      go_wp2_with (at_builtin;refine cZ rfl (.tmp 27) (.tmp 31) rfl _ _ rfl rfl _ _ jN.o ?_)
      go_wp2;go_roundg (gk-1)
      case measure=>omega
      case rel=>exact⟨4+1,v',af,rfl,aL,au ⟨by rw[BH n u d m p a 4 p rfl];exact rF.o.1,rF.o.2⟩⟩
    · subst hk0;have L8:=hid (lZ a HQ.o.1.2.2.2.2.2.1 wr);go_wp2_with fail;refine L8.o.mono ?_;rintro r v1 ⟨rfl,hy1,hb⟩;have hbw:Below w.heap.size w v1:=HK.o.2.trans (hb.mono HK.o.2.size);have hB:=Bl.new v1 35 [.slice (some ⟨wr.heap.size,0,none⟩) 8 8];have hz:=ak v1 (Obj.cells #[.slice (some ⟨wr.heap.size,0,none⟩) 8 8] 35);obtain⟨v',w',hrun,hP,hbl,_,_⟩:=gB.more (gw:=v1.heap.size) (cnt:=1) (NN:=[aR a 8]) ((HK.o.1.below hb).below hz) hB rfl rfl aL (by have:=hbw.size;simp;omega) aL (BA (hy1.below hz hy1.lt) (by simp[aN]));have jN:=au hrun;have rF:=(aT hP ((hbw.trans (hz.mono hbw.size)).trans hbl));clear hy1 hb hbw hB hz hP hbl L8 hrun
      go_wp2_with (at_builtin;refine cZ rfl (.tmp 27) (.tmp 31) rfl _ _ rfl rfl _ _ jN.o ?_)
      go_wp2;go_roundg (gk-1)
      case measure=>omega
      case rel=>exact⟨5+1,v',af,rfl,aL,au ⟨by rw[BH n u d m p a 5 a rfl];exact rF.o.1,rF.o.2⟩⟩
  · obtain rfl:k=6:=af
    have hd:decide (((6:Nat):Int)<6)=false:=aA
    have HC:Aside (gB w.heap.size wr _ (QH n u d m p a)/\Below w.heap.size w wr):=HK;clear HK iL hk y0 y1 y2 y3 y4 y5
    go_upto_region 8 with fail
    go_cut [4] from 34 to 46 (fun pv wx=>∃ v:Value,pv=v/\Aside (gB w.heap.size wx v (QH n u d m p a++[qJ (dN o) (dX o) E1,qJ (dN q) (dX q) E2])/\Below w.heap.size w wx/\Bl wx g 79 [.int .i64 (n:Int),.int .i64 (u:Int),.int .i64 (d:Int),.int .i64 (m:Int),.int .i64 (p:Int),.int .i64 (a:Int),.bool (dN o),.slice a1 (ws (dX o)).length c1,.int .i64 (dE o),.bool (dN q),.slice a2 (ws (dX q)).length c2,.int .i64 (dE q),.float .f64 lo,.float .f64 hi]))
    case first =>
     have hbd:Below w.heap.size w wr.drew:=HC.o.2.drew;have PU:=HX.o.1.below hbd HX.o.1.lt;have BD:Aside (gB w.heap.size wr.drew _ (QH n u d m p a)/\Bl wr.drew g 79 [.int .i64 (n:Int),.int .i64 (u:Int),.int .i64 (d:Int),.int .i64 (m:Int),.int .i64 (p:Int),.int .i64 (a:Int),.bool (dN o),.slice a1 (ws (dX o)).length c1,.int .i64 (dE o),.bool (dN q),.slice a2 (ws (dX q)).length c2,.int .i64 (dE q),.float .f64 lo,.float .f64 hi]/\Below w.heap.size w wr.drew/\Nt 0 wr.drew (.slice a1 (ws (dX o)).length c1) (dX o)/\Nt 0 wr.drew (.slice a2 (ws (dX q)).length c2) (dX q)):=au ⟨HC.o.1.below (aG _ _).drew,PU,hbd,HX.o.2.1.below hbd,HX.o.r2.below hbd⟩;have kS:Aside (wr.drew.cell? ⟨g,6,none⟩=some (.bool (dN o))/\wr.drew.cell? ⟨g,7,none⟩=some (.slice a1 (ws (dX o)).length c1)/\wr.drew.cell? ⟨g,8,none⟩=some (.int .i64 (dE o))/\wr.drew.cell? ⟨g,9,none⟩=some (.bool (dN q))/\wr.drew.cell? ⟨g,10,none⟩=some (.slice a2 (ws (dX q)).length c2)/\wr.drew.cell? ⟨g,11,none⟩=some (.int .i64 (dE q))):=au ⟨PU.cell 6 _ rfl,PU.cell 7 _ rfl,PU.cell 8 _ rfl,PU.cell 9 _ rfl,PU.cell 10 _ rfl,PU.cell 11 _ rfl⟩;clear hbd PU HC;refine eZ (fun w'=>w'.cell? ⟨g,6,none⟩=some (.bool (dN o))/\w'.cell? ⟨g,7,none⟩=some (.slice a1 (ws (dX o)).length c1)/\w'.cell? ⟨g,8,none⟩=some (.int .i64 (dE o))/\w'.cell? ⟨g,9,none⟩=some (.bool (dN q))/\w'.cell? ⟨g,10,none⟩=some (.slice a2 (ws (dX q)).length c2)/\w'.cell? ⟨g,11,none⟩=some (.int .i64 (dE q))) 12 gD ?_;obtain⟨Wd,hWd⟩:=ah (wr.drew);rw[<-hWd] at BD kS |-;clear hWd
     refine tk 0 [] rfl kS.o ?_;try simp only[Act.put,sa,sb,sc]
     refine tk 1 [2,3,4,5,10,11] rfl kS.o ?_;try simp only[Act.put,sa,sb,sc]
     refine tk 2 [3,4,5,10,11] rfl kS.o ?_;try simp only[Act.put,sa,sb,sc]
     refine tk 3 [4,5,10,11] rfl kS.o ?_;try simp only[Act.put,sa,sb,sc]
     refine tk 4 [5,10,11] rfl kS.o ?_;try simp only[Act.put,sa,sb,sc]
     refine tk 6 [7,8,9,10,11] rfl kS.o ?_;try simp only[Act.put,sa,sb,sc]
     refine tk 7 [8,9,10,11] rfl kS.o ?_;try simp only[Act.put,sa,sb,sc]
     refine tk 8 [9,10,11] rfl kS.o ?_;try simp only[Act.put,sa,sb,sc]
     refine tk 9 [10,11] rfl kS.o ?_;try simp only[Act.put,sa,sb,sc]
     refine aO (i:=5) gD rfl (fun K' hK=>?_);have C:=hid (Bw (dN o) (dX o) E1 (dE o) a1 c1 (ws (dX o)).length Wd BD.o.r3.1 rfl HQ.o.2.1.2.2.2.2.1 HQ.o.2.1.1 HQ.o.2.1.2.1 N1 HQ.o.r2.1);go_simp;refine C.o.mono ?_;rintro r Xh ⟨gy1,rfl,hlo,hy,hb⟩;have yT:=EF (BD.o.1.below hb) (BD.o.2.1.below hb BD.o.2.1.lt) (BD.o.r2.1.trans (hb.mono BD.o.r2.1.size)) (BD.o.r3.1.below hb) (BD.o.r4.below hb) hy hlo;have vE:=au (ck hb kS.o fun h=>ck2 hb h);clear hb hy hlo C BD kS;have BD:=yT;have kS:=vE;clear yT vE
     try dsimp only
     refine hK.out _ _ (fun _=>kS.o) ?_;clear hK K'
     try simp only[Act.put,sa,sb,sc]
     refine aO (i:=10) gD rfl (fun K' hK=>?_);have C:=hid (Bw (dN q) (dX q) E2 (dE q) a2 c2 (ws (dX q)).length Xh BD.o.r4.1 rfl HQ.o.2.1.2.2.2.2.2 HQ.o.2.1.2.2.1 HQ.o.2.1.2.2.2.1 N2 HQ.o.r3);go_simp;refine C.o.mono ?_;rintro r YQ ⟨gy2,rfl,hlo,hy,hb⟩;have yT:=Yr (BD.o.1.below hb) (BD.o.2.1.below hb BD.o.2.1.lt) (BD.o.r2.1.trans (hb.mono BD.o.r2.1.size)) (BD.o.r3.1.below hb) (BD.o.r4.1.below hb) (BD.o.r5.1.below hb BD.o.r5.1.lt) BD.o.r6 hy hlo;have vE:=au (ck hb kS.o fun h=>ck2 hb h);clear hb hy hlo C BD kS;have BD:=yT;have kS:=vE;clear yT vE
     try dsimp only
     refine hK.out _ _ (fun _=>kS.o) ?_;clear hK K'
     try simp only[Act.put,sa,sb,sc]
     have hB:=Bl.new YQ 35 [.slice (some ⟨gy1,0,none⟩) N1 N1,.slice (some ⟨gy2,0,none⟩) N2 N2];have hz:=ak YQ (Obj.cells #[.slice (some ⟨gy1,0,none⟩) N1 N1,.slice (some ⟨gy2,0,none⟩) N2 N2] 35);obtain⟨v',w',hrun,hP,hbl,hgr,_⟩:=gB.more (gw:=YQ.heap.size) (cnt:=2) (NN:=[qJ (dN o) (dX o) E1,qJ (dN q) (dX q) E2]) (BD.o.1.below hz) hB rfl rfl aL (by have:=BD.o.r2.1.size;simp;omega) (by unfold QH;simp) (YU (BD.o.r5.1.below hz BD.o.r5.1.lt) (BD.o.r7.1.below hz BD.o.r7.1.lt) (by rw[nE];exact HQ.o.r2.1) (by rw[nE];exact HQ.o.r3));have jN:=au hrun;have rF:=(aT hP ((BD.o.r2.1.trans (hz.mono BD.o.r2.1.size)).trans hbl));have kA:=rG (jX kS.o.1 hz) (jX kS.o.2.1 hz) (jX kS.o.r2.1 hz) (jX kS.o.r3.1 hz) (jX kS.o.r4.1 hz) (jX kS.o.r5 hz);have HV:=au (BD.o.2.1.below hz BD.o.2.1.lt);have HG2:=au (show Bl w' g 79 [.int .i64 (n:Int),.int .i64 (u:Int),.int .i64 (d:Int),.int .i64 (m:Int),.int .i64 (p:Int),.int .i64 (a:Int),.bool (dN o),.slice a1 (ws (dX o)).length c1,.int .i64 (dE o),.bool (dN q),.slice a2 (ws (dX q)).length c2,.int .i64 (dE q),.float .f64 lo,.float .f64 hi] from(HX.o.1.below rF.o.2 HX.o.1.lt));clear hB hz hP hbl hrun hgr;refine aO (i:=11) gD rfl (fun K' hK=>?_);go_simp;refine hK.out _ _ (fun _=>kA.o) ?_;clear hK K'
     try simp only[Act.put,sa,sb,sc]
     refine aO (i:=12) gD rfl (fun K' hK=>?_);rw[if_pos (by rfl)];refine vT (.tmp 34) (.tmp 45) rfl _ _ rfl rfl _ _ jN.o ?_;refine hK.out _ _ (fun h=>absurd h aA) ?_;clear hK K'
     try simp only[Act.put,sa,sb,sc]
     refine aO (i:=13) gD rfl (fun K' hK=>?_);go_simp;refine hK.out _ _ (fun h=>absurd h aA) ?_;clear hK K'
     try simp only[Act.put,sa,sb,sc]
     refine gY gD ?_ _;go_wp2
     go_meet
     case rel=>exact⟨v',rfl,au ⟨rF.o.1,rF.o.2,HG2.o⟩⟩
    obtain⟨v,rfl,HC⟩:=hcut;have HR:=hid (ll (w:=_) (g:=g) (s:=⟨n,u,d,m,p,a⟩) (o:=o) (q:=q) (lo:=lo) (hi:=hi) ⟨a1,c1,a2,c2,HC.o.r2,HX.o.2.1.below HC.o.2.1,HX.o.r2.below HC.o.2.1⟩);simp only at HR;have hE1:(dE o+4096).toNat=E1:=by have:=HQ.o.2.1.1;omega
    have hE2:(dE q+4096).toNat=E2:=by have:=HQ.o.2.1.2.2.1;omega
    have HEN:=au (show IK n u d m p a o q lo hi=(QH n u d m p a++[qJ (dN o) (dX o) E1,qJ (dN q) (dX q) E2])++(if n<a then[aR lo 8,aR hi 8] else[]) by unfold IK;rw[hE1,hE2]);clear hE1 hE2;go_wp2_with fail;refine HR.o.mono ?_;rintro r wd ⟨rfl,hb⟩;have HD:Aside (gB w.heap.size wd _ (QH n u d m p a++[qJ (dN o) (dX o) E1,qJ (dN q) (dX q) E2])/\Below w.heap.size w wd):=au ⟨HC.o.1.below hb,HC.o.2.1.trans (hb.mono HC.o.2.1.size)⟩;clear hb HR HC
    by_cases hna:n<a
    · have t0:decide ((n:Int)<a)=true:=by simp;omega
      rw[if_pos hna] at HEN
      go_upto_region 10 with fail
      have hbd:Below w.heap.size w wd.drew:=HD.o.2.drew;have PU:=HX.o.1.below hbd HX.o.1.lt;have BD:Aside (gB w.heap.size wd.drew _ (QH n u d m p a++[qJ (dN o) (dX o) E1,qJ (dN q) (dX q) E2])/\Bl wd.drew g 79 [.int .i64 (n:Int),.int .i64 (u:Int),.int .i64 (d:Int),.int .i64 (m:Int),.int .i64 (p:Int),.int .i64 (a:Int),.bool (dN o),.slice a1 (ws (dX o)).length c1,.int .i64 (dE o),.bool (dN q),.slice a2 (ws (dX q)).length c2,.int .i64 (dE q),.float .f64 lo,.float .f64 hi]/\Below w.heap.size w wd.drew):=au ⟨HD.o.1.below (aG _ _).drew,PU,hbd⟩;have kS:Aside (wd.drew.cell? ⟨g,12,none⟩=some (.float .f64 lo)/\wd.drew.cell? ⟨g,13,none⟩=some (.float .f64 hi)):=au ⟨PU.cell 12 _ rfl,PU.cell 13 _ rfl⟩;clear hbd PU HD;refine eZ (fun w'=>w'.cell? ⟨g,12,none⟩=some (.float .f64 lo)/\w'.cell? ⟨g,13,none⟩=some (.float .f64 hi)) 14 gD ?_;obtain⟨Wd,hWd⟩:=ah (wd.drew);rw[<-hWd] at BD kS |-;clear hWd
      refine tk 0 [] rfl kS.o ?_;try simp only[Act.put,sa,sb,sc]
      refine tk 1 [2,3,4,5,6,11,12,13] rfl kS.o ?_;try simp only[Act.put,sa,sb,sc]
      refine tk 2 [3,4,5,6,11,12,13] rfl kS.o ?_;try simp only[Act.put,sa,sb,sc]
      refine tk 3 [4,5,6,11,12,13] rfl kS.o ?_;try simp only[Act.put,sa,sb,sc]
      refine tk 4 [5,6,11,12,13] rfl kS.o ?_;try simp only[Act.put,sa,sb,sc]
      refine tk 7 [8,9,10,11,12,13] rfl kS.o ?_;try simp only[Act.put,sa,sb,sc]
      refine tk 8 [9,10,11,12,13] rfl kS.o ?_;try simp only[Act.put,sa,sb,sc]
      refine tk 9 [10,11,12,13] rfl kS.o ?_;try simp only[Act.put,sa,sb,sc]
      refine tk 10 [11,12,13] rfl kS.o ?_;try simp only[Act.put,sa,sb,sc]
      refine aO (i:=5) gD rfl (fun K' hK=>?_);go_simp;refine hK.out _ _ (fun _=>kS.o) ?_;clear hK K'
      try simp only[Act.put,sa,sb,sc]
      refine aO (i:=6) gD rfl (fun K' hK=>?_);have C:=hid (lZ lo HQ.o.1.2.2.2.2.2.2.1 Wd);go_simp;refine C.o.mono ?_;rintro r Xh ⟨rfl,hy,hb⟩;have yT:=mh (BD.o.1.below hb) (BD.o.2.1.below hb BD.o.2.1.lt) (BD.o.r2.trans (hb.mono BD.o.r2.size)) hy;have vE:=au (ck2 hb kS.o);clear hb hy C BD kS;have BD:=yT;have kS:=vE;clear yT vE
      try dsimp only
      refine hK.out _ _ (fun _=>kS.o) ?_;clear hK K'
      try simp only[Act.put,sa,sb,sc]
      refine aO (i:=11) gD rfl (fun K' hK=>?_);go_simp;refine hK.out _ _ (fun _=>kS.o) ?_;clear hK K'
      try simp only[Act.put,sa,sb,sc]
      refine aO (i:=12) gD rfl (fun K' hK=>?_);have C:=hid (lZ hi HQ.o.1.2.2.2.2.2.2.2 Xh);go_simp;refine C.o.mono ?_;rintro r YQ ⟨rfl,hy,hb⟩;have yT:=iq (BD.o.1.below hb) (BD.o.2.1.below hb BD.o.2.1.lt) (BD.o.r2.1.trans (hb.mono BD.o.r2.1.size)) (BD.o.r3.below hb BD.o.r3.lt) hy;have vE:=au (ck2 hb kS.o);clear hb hy C BD kS;have BD:=yT;have kS:=vE;clear yT vE
      try dsimp only
      refine hK.out _ _ (fun _=>kS.o) ?_;clear hK K'
      try simp only[Act.put,sa,sb,sc]
      have hB:=Bl.new YQ 35 [.slice (some ⟨Wd.heap.size,0,none⟩) 8 8,.slice (some ⟨Xh.heap.size,0,none⟩) 8 8];have hz:=ak YQ (Obj.cells #[.slice (some ⟨Wd.heap.size,0,none⟩) 8 8,.slice (some ⟨Xh.heap.size,0,none⟩) 8 8] 35);obtain⟨v',w',hrun,hP,hbl,hgr,_⟩:=gB.more (gw:=YQ.heap.size) (cnt:=2) (NN:=[aR lo 8,aR hi 8]) (BD.o.1.below hz) hB rfl rfl aL (by have:=BD.o.r2.1.size;simp;omega) (by unfold QH;simp) (YU (BD.o.r3.1.below hz BD.o.r3.1.lt) (BD.o.r4.below hz BD.o.r4.lt) (by rw[aN]) (by rw[aN]));have jN:=au hrun;have rF:=(aT hP ((BD.o.r2.1.trans (hz.mono BD.o.r2.1.size)).trans hbl));have kA:=aT (jX kS.o.1 hz) (jX kS.o.2 hz);have HV:=au (BD.o.2.1.below hz BD.o.2.1.lt);clear hB hz hP hbl hrun hgr;refine aO (i:=13) gD rfl (fun K' hK=>?_);go_simp;refine hK.out _ _ (fun _=>kA.o) ?_;clear hK K'
      try simp only[Act.put,sa,sb,sc]
      refine aO (i:=14) gD rfl (fun K' hK=>?_);rw[if_pos (by rfl)];refine vT (.tmp 49) (.tmp 62) rfl _ _ rfl rfl _ _ jN.o ?_;refine hK.out _ _ (fun h=>absurd h aA) ?_;clear hK K'
      try simp only[Act.put,sa,sb,sc]
      refine aO (i:=15) gD rfl (fun K' hK=>?_);go_simp;refine hK.out _ _ (fun h=>absurd h aA) ?_;clear hK K'
      try simp only[Act.put,sa,sb,sc]
      refine gY gD ?_ _;have HPE:Aside (gB w.heap.size w' v' (IK n u d m p a o q lo hi)):=by rw[HEN.o];exact rF.o.1
      have Ug:=HPE.o;obtain⟨pa,pc,rfl,hpt⟩:=Ug.pts;have hjn:=hid (sM (IK n u d m p a o q lo hi) pa (IK n u d m p a o q lo hi).length pc (Ue n u d m p a o q lo hi).length w' rfl hpt Uf rfl (by have:=MO (n:=n) (u:=u) (d:=d) (m:=m) (p:=p) (a:=a) (o:=o) (q:=q) (lo:=lo) (hi:=hi) HQ.o.2.1.2.2.2.2.1 HQ.o.2.1.2.2.2.2.2;omega) (by have:=MN n u d m p a o q lo hi;omega));have Ea:=au rF.o.2;clear Ug hpt;go_wp2_with fail;refine hjn.o.mono ?_;rintro r ue ⟨rfl,hy,hb⟩;have HL:=(bM Ea.o.size hy (Ea.o.trans (hb.mono Ea.o.size)));clear hy hb hjn Ea;go_wp2;go_ret;exact⟨w'.heap.size,rfl,HL.o.1,HL.o.2.1,HL.o.r2⟩
    · have t0:decide ((n:Int)<a)=false:=by simp;omega
      rw[if_neg hna,qB] at HEN;have HPE:=au HD.o.1;rw[<-HEN.o] at HPE;have Ug:=HPE.o;obtain⟨pa,pc,rfl,hpt⟩:=Ug.pts;have hjn:=hid (sM (IK n u d m p a o q lo hi) pa (IK n u d m p a o q lo hi).length pc (Ue n u d m p a o q lo hi).length wd rfl hpt Uf rfl (by have:=MO (n:=n) (u:=u) (d:=d) (m:=m) (p:=p) (a:=a) (o:=o) (q:=q) (lo:=lo) (hi:=hi) HQ.o.2.1.2.2.2.2.1 HQ.o.2.1.2.2.2.2.2;omega) (by have:=MN n u d m p a o q lo hi;omega));have Ea:=au HD.o.2;clear Ug hpt;go_wp2_with fail;refine hjn.o.mono ?_;rintro r ue ⟨rfl,hy,hb⟩;have HL:=(bM Ea.o.size hy (Ea.o.trans (hb.mono Ea.o.size)));clear hy hb hjn Ea;go_wp2;go_ret;exact⟨wd.heap.size,rfl,HL.o.1,HL.o.2.1,HL.o.r2⟩
end
end Go.Proofs.YtaejmlkaefnbhaaGreatDoor
