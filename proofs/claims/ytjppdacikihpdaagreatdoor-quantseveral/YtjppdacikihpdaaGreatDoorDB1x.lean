import Derived.Test.YtjppdacikihpdaaGreatDoorRQ7x
import Derived.Test.YtjppdacikihpdaaGreatDoorZ26x
import Derived.Test.YtjppdacikihpdaaGreatDoorU1x
import Derived.Test.YtjppdacikihpdaaGreatDoorD39x
import Derived.Test.YtjppdacikihpdaaGreatDoorD19x
import Derived.Deep.RegionHeld3
import Derived.Test.YtjppdacikihpdaaGreatDoorD32cx
import Derived.Deep.Cut
import Derived.Deep.CutRange
import Derived.Test.YtjppdacikihpdaaGreatDoorZ5x
import Derived.Test.YtjppdacikihpdaaGreatDoorS10x
import Derived.Deep.RegionWith
import Derived.Test.YtjppdacikihpdaaGreatDoorH5x
import Derived.Deep.LoopGhost
import Derived.Test.YtjppdacikihpdaaGreatDoorD8x
import Derived.Test.YtjppdacikihpdaaGreatDoorBIeeex
import Derived.Test.YtjppdacikihpdaaGreatDoorW50x
import Derived.BigQuiet
import Derived.OwnWalk
import Derived.ArgAppend
import Derived.Maps.AppendAt
import Derived.WalkMore
import Derived.Test.YtjppdacikihpdaaGreatDoorRS6x
import Derived.Test.YtjppdacikihpdaaGreatDoorM1x
set_option linter.unusedVariables false
set_option linter.unusedSimpArgs false
set_option maxHeartbeats 16000000
set_option maxRecDepth 20000
namespace Go.Proofs.YtjppdacikihpdaaGreatDoor
namespace J
end J
section
open Go.RowKit J
theorem Ht(a:Option Addr)(n c:Nat)(neg:Bool)(e:Int)(w:World) :
 At 107 #[.agg #[.bool neg,.slice a n c,.int .i64 e]] w (.agg #[.bool (!neg),.slice a n c,.int .i64 e]):=by
 go_enter Tryz.func107,Tryz.ntmps107;go_wp2;exact aH (v:=.agg #[.bool (!neg),.slice a n c,.int .i64 e]) (by simp[results,Tryz.results107,go_sem]) rfl ⟨rfl,by repeat (first | exact aD _ _ | refine Below.alloc ?_ (by first | omega | simp) _ | refine Below.ru ?_ _ _ _ ae aN)⟩
theorem UW(W:World)(g:Nat)(n:Bool)(v:Value)(e k:Int)(tmps:Array Value)(ht:tmps[4]?.getD undef=.pointer (some ⟨g,0,none⟩))(hk:tmps[5]?.getD undef=.int .i64 k)(D:Dk W g n v e) :
 (results Tryz.f67 tmps).run Tryz.prog W=.ok (.tuple #[.agg #[.bool n,v,.int .i64 e],.int .i64 k]) W:=by
 obtain⟨x0,x1,x2,fA,fB,fC⟩:=D.facts;simp[results,Tryz.results67,ht,hk,go_sem,x0,x1,x2]
theorem Qh {w:World}{a b:Option Addr}{l c k d:Nat}(n m:Bool) (e f:Int) (dn:Bool) (V:Nat) (de er:Int) (lV:(ws V).length<=8192)
 (HT:Hid (∀u,At 107 #[.agg #[.bool m,.slice b k d,.int .i64 f]] u (.agg #[.bool (!m),.slice b k d,.int .i64 f])))
 (HA:Hid (∀u,An w u->As 70 #[.agg #[.bool n,.slice a l c,.int .i64 e],.agg #[.bool (!m),.slice b k d,.int .i64 f]] u λr w'=>(∃v,r=.returned (.tuple #[.agg #[.bool dn,v,.int .i64 de],.int .i64 er])/\Nt u.heap.size w' v V)/\An u w')) :
 As 67 #[.agg #[.bool n,.slice a l c,.int .i64 e],.agg #[.bool m,.slice b k d,.int .i64 f]] w λr w'=>(∃v,r=.returned (.tuple #[.agg #[.bool dn,v,.int .i64 de],.int .i64 er])/\Nt w.heap.size w' v V)/\An w w':=by
 obtain⟨W1,hW1⟩:=ah (((w.alloc (.cells #[.bool n,.slice a l c,.int .i64 e] 79)).alloc (.cells #[.bool m,.slice b k d,.int .i64 f] 79)).alloc (.cells zD3 79));obtain⟨hB,hz1,DA,DB,DR⟩:=aZ w n m (.slice a l c) (.slice b k d) e f W1 hW1;have T1:=hid (HT.o W1);have T2:=hid (HT.o W1.drew);obtain⟨x0,x1,x2,fA,fB,fC⟩:=DA.facts;obtain⟨y0,y1,y2,dY,dZ,eB⟩:=DB.facts;obtain⟨r0,r1,r2,gK,gL,gM⟩:=DR.facts;have hs1:w.heap.size+3<=W1.heap.size:=ae
 have SB:=(iN hB DA DB DR);clear hB hz1 DA DB DR;go_enter Tryz.func67,Tryz.ntmps67;go_wp2_with fail;rw[<-hW1];clear hW1;have ne1:w.heap.size≠w.heap.size+1+1:=ae
 have ne2:w.heap.size+1≠w.heap.size+1+1:=ae
 have ne3:w.heap.size+1+1≠w.heap.size:=ae
 have ne4:w.heap.size+1+1≠w.heap.size+1:=ae
 go_region_held3 (λw'=>w'.cell? ⟨w.heap.size,0,none⟩=some (.bool n)/\w'.cell? ⟨w.heap.size,1,none⟩=some (.slice a l c)/\w'.cell? ⟨w.heap.size,2,none⟩=some (.int .i64 e)/\w'.cell? ⟨w.heap.size+1,0,none⟩=some (.bool m)/\w'.cell? ⟨w.heap.size+1,1,none⟩=some (.slice b k d)/\w'.cell? ⟨w.heap.size+1,2,none⟩=some (.int .i64 f)) (go_keep) (first
  | (go_at_call 107
     first | with_reducible refine T1.o.mono ?_ | with_reducible refine T2.o.mono ?_
     rintro r u1 ⟨rfl,hb⟩;have hb1:An W1 u1:=by first | exact hb | exact((aD _ W1).drew).trans (hb.mono (aA _))
     have hs2:W1.heap.size<=u1.heap.size:=hb1.size;have BW:An w u1:=SB.o.1.trans (hb1.mono ae);have HA1:=hid (HA.o u1 BW);have KR:=SB.o.r3.below hb1;obtain⟨p0,p1,p2,Sj,Sk,Sl⟩:=KR.facts;obtain⟨q0,q1,q2,Gc,Gd,Gf⟩:=(SB.o.2.1.below hb1).facts;obtain⟨s0,s1,s2,Bt,Bu,Bw⟩:=(SB.o.r2.1.below hb1).facts;have S1:=(iN BW KR (SB.o.2.1.below hb1) (SB.o.r2.1.below hb1))
     clear hb hb1 KR BW)
  | (go_at_call 70
     with_reducible refine HA1.o.mono ?_
     rintro r u2 ⟨⟨v,rfl,hN⟩,hb⟩;obtain⟨a4,c4,rfl,_⟩:=hN.arg ae;have LR:=S1.o.2.1.below hb;obtain⟨t0,t1,t2,tf0,tf1,tf2⟩:=LR.facts;obtain⟨i0,i1,i2,if0,if1,if2⟩:=(S1.o.r2.1.below hb).facts;obtain⟨j0,j1,j2,jf0,jf1,jf2⟩:=(S1.o.r3.below hb).facts;have FV:=ak (show Fin w.heap.size (w.heap.size+3) w u2 (.slice a4 (ws V).length c4) V from⟨hN.mono ae,S1.o.1.trans (hb.mono ae),by have:=hb.size;omega⟩);have Qx:=ak LR
     clear hN hb LR))
 all_goals (
  go_wp2;refine aH (UW _ (w.heap.size+1+1) dn (.slice a4 (ws V).length c4) de er _ rfl rfl (Qx.o.set _ _ _)) rfl ?_;refine Fin.j4 (m:=w.heap.size+3) ?_ ae
  repeat (with_reducible first | exact FV.o | refine Fin.drew ?_ | refine Fin.alloc ?_ _ | refine Fin.set ?_ _ _ _ ae ae))
theorem Qi(n:Bool)(X:Nat)(e:Int)(m:Bool)(Y:Nat)(f:Int):(ws (dX (j6 n X e m Y f))).length<=8192:=by
 unfold j6
 split
 . show(ws 0).length<=8192;rw[cB];exact lD _
 . split
   . exact aR _ _ _
   . split <;> exact aR _ _ _
theorem UX(n:Bool)(X:Nat)(e:Int)(m:Bool)(Y:Nat)(f:Int):(ws (dX (qa (mkS n X e) (mkS m Y f)))).length<=8192:=by
 have z0:(ws 0).length<=8192:=by rw[cB];exact lD _
 cases hx:mkS n X e with
 | none=>exact z0
 | some x =>
   cases hy:mkS m Y f with
   | none=>exact z0
   | some y =>
     obtain⟨n1,X1,e1⟩:=x;obtain⟨m1,Y1,f1⟩:=y;show(ws (dX (uf _ _))).length<=8192;unfold uf
     split
     . exact fw (cO hy)
     . split
       . exact fw (cO hx)
       . split <;> exact Qi _ _ _ _ _ _
theorem Qj{w:World}{a b:Option Addr}{l c k d:Nat}{xs ys:List Nat}(h1:Arg w a l c xs)(h2:Arg w b k d ys)(hl:l<=2000000)(hk:k<=2000000)(n m:Bool)(e f:Int)(he0:-9223372036854775808<=e)(he1:e<=9223372036854775807)(hf0:-9223372036854775808<=f)(hf1:f<=9223372036854775807) :
 As 67 #[.agg #[.bool n,.slice a l c,.int .i64 e],.agg #[.bool m,.slice b k d,.int .i64 f]] w λr w'=>dm w.heap.size w' r (qa (mkS n (val xs) e) (mkS (!m) (val ys) f))/\An w w' :=
 Qh n m e f _ _ _ _ (UX n (val xs) e (!m) (val ys) f) (hid λu=>Ht b k d m f u) (hid λu hu=>BC (h1.below hu) (h2.below hu) hl hk n (!m) e f he0 he1 hf0 hf1)
theorem rsub14{U:World}{a b:Option Addr}{c d:Nat}{o p q:Option (Bool×Nat×Int)}(F:Fm o)(G:Fm p)(N1:Nt 0 U (.slice a (ws (dX o)).length c) (dX o))(N2:Nt 0 U (.slice b (ws (dX p)).length d) (dX p))(h:qa o (mkS (!dN p) (dX p) (dE p))=q)(H:Fm q) :
 As 67 #[.agg #[.bool (dN o),.slice a (ws (dX o)).length c,.int .i64 (dE o)],.agg #[.bool (dN p),.slice b (ws (dX p)).length d,.int .i64 (dE p)]] U λr w'=>(∃v,r=.returned (.tuple #[.agg #[.bool (dN q),v,.int .i64 (dE q)],.int .i64 0])/\Nt U.heap.size w' v (dX q))/\An U w':=by
 have:=Qj (F.a12 N1) (G.a12 N2) F.two G.two (dN o) (dN p) (dE o) (dE p) F.sD.1 F.sD.2 G.sD.1 G.sD.2;rw[aB,aB,F.re,h] at this;unfold dm at this;rw[H.er] at this;exact this
def Sp.in12(s:Sp):Prop:=(0<=s.n/\s.n<=17592186044416)/\(0<=s.u/\s.u<=17592186044416)/\(0<=s.d/\s.d<=17592186044416)/\(0<=s.m/\s.m<=17592186044416)/\(0<=s.p/\s.p<=17592186044416)/\(0<=s.a/\s.a<=17592186044416)
theorem UY(x:Nat)(n u d m p a:Int)(w:World)(hx:x<18446744073709551616)(hs:(Sp.mk n u d m p a).in12) :
 As 119 #[.agg #[.int .i64 n,.int .i64 u,.int .i64 d,.int .i64 m,.int .i64 p,.int .i64 a],.float .f64 x] w λr w'=>r=.returned ((Sp.mk n u d m p a).cnt (GI (kd x)) 1).agg/\An w w':=by
 have H:=hid (zF x hx);have hk:=Mj x;obtain⟨k,hkk⟩:∃k,kd x=k:=⟨_,rfl⟩;rw[hkk] at H hk |-;obtain⟨h0,h1,h2,h3,h4,h5⟩:=hs;simp only at h0 h1 h2 h3 h4 h5;have hne:w.heap.size≠w.heap.size+1:=ae
 clear hkk;have hc:k=0\/k=1\/k=2\/k=3\/k=4\/k=5:=ae
 clear hk;have key:∀(b1 b2 b3 b4 b5 b6:Int),(Sp.mk n u d m p a).cnt (GI k) 1=⟨b1,b2,b3,b4,b5,b6⟩->((Sp.mk n u d m p a).cnt (GI k) 1).agg=.agg #[.int .i64 b1,.int .i64 b2,.int .i64 b3,.int .i64 b4,.int .i64 b5,.int .i64 b6]:=λb1 b2 b3 b4 b5 b6 h=>by rw[h];rfl
 rcases hc with rfl|rfl|rfl|rfl|rfl|rfl
 . rw[key n u d m p (a+1) rfl];go_enter Tryz.func119,Tryz.ntmps119;go_wp2_with fail;refine(H.o _).mono ?_;rintro r w1 ⟨rfl,rfl⟩;clear H key;go_wp2;exact aH (v:=.agg #[.int .i64 _,.int .i64 _,.int .i64 _,.int .i64 _,.int .i64 _,.int .i64 _]) (by simp[results,Tryz.results119,go_sem]) rfl ⟨rfl,(by repeat (first | exact aD _ _ | assumption | exact aA _ | (simp;done) | (simp;omega) | refine Below.alloc ?_ ?_ _ | refine Below.setCell ?_ ?_ _ | refine iG ?_))⟩
 . rw[key n u d (m+1) p (a+1) rfl];go_enter Tryz.func119,Tryz.ntmps119;go_wp2_with fail;refine(H.o _).mono ?_;rintro r w1 ⟨rfl,rfl⟩;clear H key;go_wp2;exact aH (v:=.agg #[.int .i64 _,.int .i64 _,.int .i64 _,.int .i64 _,.int .i64 _,.int .i64 _]) (by simp[results,Tryz.results119,go_sem]) rfl ⟨rfl,(by repeat (first | exact aD _ _ | assumption | exact aA _ | (simp;done) | (simp;omega) | refine Below.alloc ?_ ?_ _ | refine Below.setCell ?_ ?_ _ | refine iG ?_))⟩
 . rw[key n u d m (p+1) (a+1) rfl];go_enter Tryz.func119,Tryz.ntmps119;go_wp2_with fail;refine(H.o _).mono ?_;rintro r w1 ⟨rfl,rfl⟩;clear H key;go_wp2;exact aH (v:=.agg #[.int .i64 _,.int .i64 _,.int .i64 _,.int .i64 _,.int .i64 _,.int .i64 _]) (by simp[results,Tryz.results119,go_sem]) rfl ⟨rfl,(by repeat (first | exact aD _ _ | assumption | exact aA _ | (simp;done) | (simp;omega) | refine Below.alloc ?_ ?_ _ | refine Below.setCell ?_ ?_ _ | refine iG ?_))⟩
 . rw[key n (u+1) d m p (a+1) rfl];go_enter Tryz.func119,Tryz.ntmps119;go_wp2_with fail;refine(H.o _).mono ?_;rintro r w1 ⟨rfl,rfl⟩;clear H key;go_wp2;exact aH (v:=.agg #[.int .i64 _,.int .i64 _,.int .i64 _,.int .i64 _,.int .i64 _,.int .i64 _]) (by simp[results,Tryz.results119,go_sem]) rfl ⟨rfl,(by repeat (first | exact aD _ _ | assumption | exact aA _ | (simp;done) | (simp;omega) | refine Below.alloc ?_ ?_ _ | refine Below.setCell ?_ ?_ _ | refine iG ?_))⟩
 . rw[key n u (d+1) m p (a+1) rfl];go_enter Tryz.func119,Tryz.ntmps119;go_wp2_with fail;refine(H.o _).mono ?_;rintro r w1 ⟨rfl,rfl⟩;clear H key;go_wp2;exact aH (v:=.agg #[.int .i64 _,.int .i64 _,.int .i64 _,.int .i64 _,.int .i64 _,.int .i64 _]) (by simp[results,Tryz.results119,go_sem]) rfl ⟨rfl,(by repeat (first | exact aD _ _ | assumption | exact aA _ | (simp;done) | (simp;omega) | refine Below.alloc ?_ ?_ _ | refine Below.setCell ?_ ?_ _ | refine iG ?_))⟩
 . rw[key (n+1) u d m p (a+1) rfl];go_enter Tryz.func119,Tryz.ntmps119;go_wp2_with fail;refine(H.o _).mono ?_;rintro r w1 ⟨rfl,rfl⟩;clear H key;go_wp2;exact aH (v:=.agg #[.int .i64 _,.int .i64 _,.int .i64 _,.int .i64 _,.int .i64 _,.int .i64 _]) (by simp[results,Tryz.results119,go_sem]) rfl ⟨rfl,(by repeat (first | exact aD _ _ | assumption | exact aA _ | (simp;done) | (simp;omega) | refine Below.alloc ?_ ?_ _ | refine Below.setCell ?_ ?_ _ | refine iG ?_))⟩
theorem MB(l:List Nat)(k:Nat)(h:k<l.length):s6 (l.take (k+1))=(s6 (l.take k)).cnt (GI (kd (l.getD k 0))) 1:=by
 rw[qc l k h];simp[s6,List.foldl_append]
theorem cnt_in{s:Sp}{k:Nat}(b:Int)(h:(0<=s.n/\s.n<=b)/\(0<=s.u/\s.u<=b)/\(0<=s.d/\s.d<=b)/\(0<=s.m/\s.m<=b)/\(0<=s.p/\s.p<=b)/\s.a=b):(0<=(s.cnt k 1).n/\(s.cnt k 1).n<=b+1)/\(0<=(s.cnt k 1).u/\(s.cnt k 1).u<=b+1)/\(0<=(s.cnt k 1).d/\(s.cnt k 1).d<=b+1)/\(0<=(s.cnt k 1).m/\(s.cnt k 1).m<=b+1)/\(0<=(s.cnt k 1).p/\(s.cnt k 1).p<=b+1)/\(s.cnt k 1).a=b+1:=by
 obtain⟨h1,h2,h3,h4,h5,h6⟩:=h;unfold Sp.cnt;simp only;refine⟨?_,?_,?_,?_,?_,ae⟩ <;> split <;> omega
theorem Zo(l:List Nat):∀k,k<=l.length->(0<=(s6 (l.take k)).n/\(s6 (l.take k)).n<=k)/\(0<=(s6 (l.take k)).u/\(s6 (l.take k)).u<=k)/\(0<=(s6 (l.take k)).d/\(s6 (l.take k)).d<=k)/\(0<=(s6 (l.take k)).m/\(s6 (l.take k)).m<=k)/\(0<=(s6 (l.take k)).p/\(s6 (l.take k)).p<=k)/\(s6 (l.take k)).a=k
 | 0,_=>by simp[s6]
 | k+1,h=>by
   have:=cnt_in (k:=GI (kd (l.getD k 0))) (k:Int) (Zo l k ae);rw[MB l k h];simpa using this
def spc(s:Sp):List Value:=[.int .i64 s.n,.int .i64 s.u,.int .i64 s.d,.int .i64 s.m,.int .i64 s.p,.int .i64 s.a]
theorem Hw(xs:List Nat)(a:Option Addr)(n c:Nat)(w:World)(hn:n=xs.length)(hF:Fs w.heap.size w a xs)(hW:jH xs)(hm:n<=17592186043904) :
 As 72 #[.slice a n c] w λr w'=>r=.returned (s6 xs).agg/\An w w':=by
 obtain⟨W,zL⟩:=ah ((w.alloc (.cells #[.int .i64 0,.int .i64 0,.int .i64 0,.int .i64 0,.int .i64 0,.int .i64 0] 72)).alloc (.cells #[.int .i64 0,.int .i64 0,.int .i64 0,.int .i64 0,.int .i64 0,.int .i64 0] 72))
 have H0:Aside (Bl W w.heap.size 72 (spc ⟨0,0,0,0,0,0⟩)/\Bl W (w.heap.size+1) 72 (spc ⟨0,0,0,0,0,0⟩)/\An w W):=by
  rw[zL];exact⟨(Bl.new w 72 [_,_,_,_,_,_]).alloc _,Bl.new' (w.alloc _) 72 _ [_,_,_,_,_,_] aN,(aC _ _).trans ((aC _ _).mono aN)⟩
 have HX:=iN hn hF hW hm;have hne:w.heap.size≠w.heap.size+1:=ae
 clear hn hF hW;go_enter Tryz.func72,Tryz.ntmps72;go_wp2;rw[<-zL];clear zL
 go_loopg [4] n (λgk iv wr=>∃i:Nat,gk+i=n/\iv=.int .i64 (i:Nat)/\Aside (Bl wr w.heap.size 72 (spc ⟨0,0,0,0,0,0⟩)/\Bl wr (w.heap.size+1) 72 (spc (s6 (xs.take i)))/\An w wr))
 case atStart=>exact⟨0,ae,aN,H0.o.1,by simpa [s6] using H0.o.2.1,H0.o.r2⟩
 case round =>
  clear H0;obtain⟨i,hgi,rfl,HA⟩:=hrel
  by_cases hi:i<n
  . obtain⟨b,off,rfl,hcx⟩:=HX.o.2.1.at HA.o.r2 i (by rw[<-HX.o.1];exact hi);obtain⟨x,hx⟩:=ah (xs.getD i 0);rw[<-hx] at hcx;obtain⟨⟨n0,u0,d0,m0,p0,a0⟩,hs⟩:∃s,s=s6 (xs.take i):=⟨_,rfl⟩;have hin:=Zo xs i (by rw[<-HX.o.1];omega);have HN:=ak (MB xs i (by rw[<-HX.o.1];exact hi));rw[<-hs] at hin HN;rw[<-hx] at HN;have hbl:=HA.o.2.1;rw[<-hs] at hbl;have HC:=hid (λu:World=>UY x n0 u0 d0 m0 p0 a0 u (by rw[hx];exact HX.o.r2.1.get i) (by unfold Sp.in12;simp only at hin |-;omega));obtain⟨⟨n1,u1,d1,m1,p1,a1⟩,hs1⟩:∃s,s=(Sp.mk n0 u0 d0 m0 p0 a0).cnt (GI (kd x)) 1:=⟨_,rfl⟩;rw[<-hs1] at HC HN;unfold Sp.agg at HC;simp only at HC;unfold spc at hbl;simp only at hbl;have HB:=hid hbl;have c0:=hbl.cell 0 _ rfl;have c1:=hbl.cell 1 _ rfl;have c2:=hbl.cell 2 _ rfl;have c3:=hbl.cell 3 _ rfl;have c4:=hbl.cell 4 _ rfl;have c5:=hbl.cell 5 _ rfl;have hlt:=hbl.lt;have hib:i<4611686018427387904:=ae
    clear hx hs hin hs1 hbl;go_wp2
    go_region_with (go_at_call 119;refine(HC.o _).mono ?_;rintro r w3 ⟨rfl,hb3⟩;have HQ:=ak (Bl.below (w:=wr.drew) HB.o hb3 hlt);have q0:=HQ.o.cell 0 _ rfl;have q1:=HQ.o.cell 1 _ rfl;have q2:=HQ.o.cell 2 _ rfl;have q3:=HQ.o.cell 3 _ rfl;have q4:=HQ.o.cell 4 _ rfl;have q5:=HQ.o.cell 5 _ rfl;have f0:=HQ.o.frozen 0;have f1:=HQ.o.frozen 1;have f2:=HQ.o.frozen 2;have f3:=HQ.o.frozen 3;have f4:=HQ.o.frozen 4;have f5:=HQ.o.frozen 5;have HB3:=ak hb3;clear hb3)
    all_goals
     go_wp2;go_roundg (gk-1)
     case measure=>omega
     case rel =>
      have hbd:An wr w3:=(aD _ wr).drew.trans HB3.o;refine⟨i+1,ae,by first | rfl | simp,?_,?_,?_⟩
      . exact Bl.but (HA.o.1.below hbd HA.o.1.lt) (But.vL (But.refl _ _) _ _ _ _ _ _) hne
      . rw[HN.o];exact Bl.vL HQ.o
      . exact But.below (HA.o.r2.trans (hbd.mono HA.o.r2.size)) (But.vL (But.refl (w.heap.size+1) w3) _ _ _ _ _ _) (dB HA.o.r2.size hbd.size) ae
  . obtain rfl:n=i:=ae
    have hd:decide ((n:Int)<n)=false:=by simp
    have e:xs.take n=xs:=eF (by rw[<-HX.o.1];omega);obtain⟨⟨n0,u0,d0,m0,p0,a0⟩,hs⟩:∃s,s=s6 xs:=⟨_,rfl⟩;have hbl:=HA.o.2.1;rw[e,<-hs] at hbl;have HS:=ak hs;have hrl:=HA.o.1;unfold spc at hbl hrl;simp only at hbl hrl;have c0:=hbl.cell 0 _ rfl;have c1:=hbl.cell 1 _ rfl;have c2:=hbl.cell 2 _ rfl;have c3:=hbl.cell 3 _ rfl;have c4:=hbl.cell 4 _ rfl;have c5:=hbl.cell 5 _ rfl;have r0:=hrl.cell 0 _ rfl;have r1:=hrl.cell 1 _ rfl;have r2:=hrl.cell 2 _ rfl;have r3:=hrl.cell 3 _ rfl;have r4:=hrl.cell 4 _ rfl;have r5:=hrl.cell 5 _ rfl;have f0:=hrl.frozen 0;have f1:=hrl.frozen 1;have f2:=hrl.frozen 2;have f3:=hrl.frozen 3;have f4:=hrl.frozen 4;have f5:=hrl.frozen 5
    have HF:Aside (Bl ((((((wr.setCell ⟨w.heap.size,0,none⟩ (.int .i64 n0)).setCell ⟨w.heap.size,1,none⟩ (.int .i64 u0)).setCell ⟨w.heap.size,2,none⟩ (.int .i64 d0)).setCell ⟨w.heap.size,3,none⟩ (.int .i64 m0)).setCell ⟨w.heap.size,4,none⟩ (.int .i64 p0)).setCell ⟨w.heap.size,5,none⟩ (.int .i64 a0)) w.heap.size 72 [.int .i64 n0,.int .i64 u0,.int .i64 d0,.int .i64 m0,.int .i64 p0,.int .i64 a0]/\An w ((((((wr.setCell ⟨w.heap.size,0,none⟩ (.int .i64 n0)).setCell ⟨w.heap.size,1,none⟩ (.int .i64 u0)).setCell ⟨w.heap.size,2,none⟩ (.int .i64 d0)).setCell ⟨w.heap.size,3,none⟩ (.int .i64 m0)).setCell ⟨w.heap.size,4,none⟩ (.int .i64 p0)).setCell ⟨w.heap.size,5,none⟩ (.int .i64 a0))) :=
     ⟨Bl.vL hrl,But.below HA.o.r2 (But.vL (But.refl w.heap.size wr) _ _ _ _ _ _) HA.o.r2.size (aA _)⟩
    clear hbl hrl hs e HA;go_wp2;have g0:=HF.o.1.cell 0 _ rfl;have g1:=HF.o.1.cell 1 _ rfl;have g2:=HF.o.1.cell 2 _ rfl;have g3:=HF.o.1.cell 3 _ rfl;have g4:=HF.o.1.cell 4 _ rfl;have g5:=HF.o.1.cell 5 _ rfl;exact aH (v:=.agg #[.int .i64 n0,.int .i64 u0,.int .i64 d0,.int .i64 m0,.int .i64 p0,.int .i64 a0]) (by simp[results,Tryz.results72,go_sem,g0,g1,g2,g3,g4,g5]) rfl ⟨by rw[<-HS.o];rfl,HF.o.2⟩
theorem f1(k:Nat)(hk:k=1074):vC 4607182418800017408=((1*2^k:Nat):Int):=by subst hk;decide +kernel
noncomputable def oZ (x:Nat):Option (Bool×Nat×Int):=open Classical in if bO x then oW x else GA
theorem Em{x:Nat}(h:bO x):oZ x=oW x:=if_pos h
theorem vX{x:Nat}(h:¬ bO x):oZ x=GA:=if_neg h
theorem oZ_iv(x:Nat)(hx:x<18446744073709551616):Iv (oZ x) (-1074) 1024:=by
 by_cases h:bO x
 . rw[Em h];exact Zf x hx h
 . rw[vX h];exact o00_iv _ _
end
section
open Go.RowKit
theorem Nt.al'{lo:Nat}{w:World}{v:Value}{X:Nat}(h:Nt lo w v X)(hl:(ws X).length<=2000000):Al w v X:=by
 obtain⟨a,c,rfl,hA⟩:=h.arg ae;exact⟨a,_,c,_,rfl,hA,aB _,hl⟩
theorem qw{w:World}{v u:Value}{X Y:Nat}(h1:Al w v X)(h2:Al w u Y):As 110 #[v,u] w λr w'=>∃p,r=.returned p/\Nt w.heap.size w' p (X*Y)/\An w w':=by
 obtain⟨a,l,c,xs,rfl,hA,rfl,hl⟩:=h1;obtain⟨b,k,d,ys,rfl,hB,rfl,hk⟩:=h2;exact lN hA hB ae rfl
theorem zT{w:World}{v u:Value}{X Y:Nat}{e f:Int}(h1:Al w v X)(h2:Al w u Y)(be:-9223372036854775808<=e/\e<=9223372036854775807)(bf:-9223372036854775808<=f/\f<=9223372036854775807) :
 At 216 #[v,.int .i64 e,u,.int .i64 f] w (.int .i64 (Zb X e Y f)):=by
 obtain⟨a,l,c,xs,rfl,hA,rfl,hl⟩:=h1;obtain⟨b,k,d,ys,rfl,hB,rfl,hk⟩:=h2;exact Gq hA hB hl hk e f be.1 be.2 bf.1 bf.2
theorem Hy{w:World}{n m:Bool}{p a b:Option Addr}{lp cp la ca lb cb A X Y:Nat}{g e f:Int}(hA:Al w (.slice p lp cp) A)(hN:Al w (.slice a la ca) X)(hD:Al w (.slice b lb cb) Y)(he:-9223372036854775808<=e/\e<=9223372036854775807)(h g2:Int)(e2:IntKind.i64.wrap (g+f)=h)(hh:-9223372036854775808<=h/\h<=9223372036854775807)(P:Nat)(hP:A*Y=P)(hl:(ws P).length<=2000000) :
 At 198 #[.slice p lp cp,.int .i64 g,.agg #[.bool n,.slice a la ca,.int .i64 e,.bool m,.slice b lb cb,.int .i64 f],.bool false] w (.int .i64 (Zb P h X e)):=by
 obtain⟨W1,hW1⟩:=ah (w.alloc (.cells #[.bool n,.slice a la ca,.int .i64 e,.bool m,.slice b lb cb,.int .i64 f] 93));have hB:An w W1:=by rw[hW1];exact af _ _
 have Yt:Rq W1 w.heap.size n (.slice a la ca) e m (.slice b lb cb) f:=by rw[hW1];exact Rq.new _ _ _ _ _ _ _
 have S0:=(gy hB Yt (hA.below hB) (hN.below hB) (hD.below hB));have BD:=(iN he hh hl hP);clear hB Yt hA hN hD he hh hl hP;go_enter Tryz.func198,Tryz.ntmps198
 go_upto_region 1 with fail
 rw[<-hW1];clear hW1;obtain⟨x0,x1,x2,x3,x4,x5⟩:=S0.o.2.1.facts
 go_upto_region 6 with fail
 have dr:An W1 W1.drew:=(aD _ _).drew;have T1:=hid (qw S0.o.r2.1 S0.o.r4);have T2:=hid (qw (S0.o.r2.1.below dr) (S0.o.r4.below dr));rw[BD.o.r3] at T1 T2;clear dr
 go_region_held3 (λw'=>w'.cell? ⟨w.heap.size,0,none⟩=some (.bool n)/\w'.cell? ⟨w.heap.size,1,none⟩=some (.slice a la ca)/\w'.cell? ⟨w.heap.size,2,none⟩=some (.int .i64 e)/\w'.cell? ⟨w.heap.size,3,none⟩=some (.bool m)/\w'.cell? ⟨w.heap.size,4,none⟩=some (.slice b lb cb)/\w'.cell? ⟨w.heap.size,5,none⟩=some (.int .i64 f)) (go_keep) (first
  | (go_at_call 110
     first | with_reducible refine T1.o.mono ?_ | with_reducible refine T2.o.mono ?_
     rintro r v1 ⟨pv,rfl,hN,hb⟩;obtain⟨q1,d1,rfl,-⟩:=hN.shape;have hb1:An W1 v1:=by first | exact hb | exact((aD _ W1).drew).trans (hb.mono (aA _))
     obtain⟨aF,QR,AX,AN,AD⟩:=S0.o;obtain⟨m0,m1,m2,m3,m4,m5⟩:=(QR.below hb1).facts;have T3:=hid (zT (hN.al' BD.o.r2.1) (AN.below hb1) BD.o.2.1 BD.o.1);have S4:=(bA (aF.trans (hb1.mono aF.size)) (QR.below hb1))
     clear hN hb hb1 aF QR AX AN AD)
  | (go_at_call 216
     with_reducible refine T3.o.mono ?_
     rintro r v2 ⟨rfl,hb⟩;obtain⟨aF,QR⟩:=S4.o;obtain⟨k0,k1,k2,k3,k4,k5⟩:=(QR.below hb).facts;have S5:=ak (aF.trans (hb.mono aF.size))
     clear hb aF QR))
 all_goals (
  go_wp2;go_ret
  exact⟨rfl,S5.o⟩)
theorem Ia{w:World}{n m:Bool}{p a b:Option Addr}{lp cp la ca lb cb A X Y:Nat}{g e f:Int}(hA:Al w (.slice p lp cp) A)(hN:Al w (.slice a la ca) X)(hD:Al w (.slice b lb cb) Y)(he:-9223372036854775808<=e/\e<=9223372036854775807)(h g2:Int)(e1:IntKind.i64.wrap (2*g)=g2)(e2:IntKind.i64.wrap (g2+f)=h)(hh:-9223372036854775808<=h/\h<=9223372036854775807)(P:Nat)(hP:(A*A)*Y=P)(hl:(ws P).length<=2000000)(hl2:(ws (A*A)).length<=2000000) :
 At 198 #[.slice p lp cp,.int .i64 g,.agg #[.bool n,.slice a la ca,.int .i64 e,.bool m,.slice b lb cb,.int .i64 f],.bool true] w (.int .i64 (Zb P h X e)):=by
 obtain⟨W1,hW1⟩:=ah (w.alloc (.cells #[.bool n,.slice a la ca,.int .i64 e,.bool m,.slice b lb cb,.int .i64 f] 93));have hB:An w W1:=by rw[hW1];exact af _ _
 have Yt:Rq W1 w.heap.size n (.slice a la ca) e m (.slice b lb cb) f:=by rw[hW1];exact Rq.new _ _ _ _ _ _ _
 have S0:=(gy hB Yt (hA.below hB) (hN.below hB) (hD.below hB));have BD:=(iN he hh hl hP);clear hB Yt hA hN hD he hh hl hP;go_enter Tryz.func198,Tryz.ntmps198
 go_upto_region 1 with fail
 rw[<-hW1];clear hW1;have HC:=hid (qw S0.o.r2.1 S0.o.r2.1);have HL2:=ak hl2;clear hl2;go_wp2_with fail;refine HC.o.mono ?_;rintro r U ⟨v,rfl,hN,hb⟩;obtain⟨q2,d2,rfl,-⟩:=hN.shape;have S1:=(gy (S0.o.1.trans (hb.mono S0.o.1.size)) (S0.o.2.1.below hb) (hN.al' HL2.o) (S0.o.r3.1.below hb) (S0.o.r4.below hb));clear HC hN hb S0 HL2;obtain⟨x0,x1,x2,x3,x4,x5⟩:=S1.o.2.1.facts
 go_upto_region 6 with fail
 have dr:An U U.drew:=(aD _ _).drew;have T1:=hid (qw S1.o.r2.1 S1.o.r4);have T2:=hid (qw (S1.o.r2.1.below dr) (S1.o.r4.below dr));rw[BD.o.r3] at T1 T2;clear dr
 go_region_held3 (λw'=>w'.cell? ⟨w.heap.size,0,none⟩=some (.bool n)/\w'.cell? ⟨w.heap.size,1,none⟩=some (.slice a la ca)/\w'.cell? ⟨w.heap.size,2,none⟩=some (.int .i64 e)/\w'.cell? ⟨w.heap.size,3,none⟩=some (.bool m)/\w'.cell? ⟨w.heap.size,4,none⟩=some (.slice b lb cb)/\w'.cell? ⟨w.heap.size,5,none⟩=some (.int .i64 f)) (go_keep) (first
  | (go_at_call 110
     first | with_reducible refine T1.o.mono ?_ | with_reducible refine T2.o.mono ?_
     rintro r v1 ⟨pv,rfl,hN,hb⟩;obtain⟨q1,d1,rfl,-⟩:=hN.shape;have hb1:An U v1:=by first | exact hb | exact((aD _ U).drew).trans (hb.mono (aA _))
     obtain⟨aF,QR,AX,AN,AD⟩:=S1.o;obtain⟨m0,m1,m2,m3,m4,m5⟩:=(QR.below hb1).facts;have T3:=hid (zT (hN.al' BD.o.r2.1) (AN.below hb1) BD.o.2.1 BD.o.1);have S4:=(bA (aF.trans (hb1.mono aF.size)) (QR.below hb1))
     clear hN hb hb1 aF QR AX AN AD)
  | (go_at_call 216
     with_reducible refine T3.o.mono ?_
     rintro r v2 ⟨rfl,hb⟩;obtain⟨aF,QR⟩:=S4.o;obtain⟨k0,k1,k2,k3,k4,k5⟩:=(QR.below hb).facts;have S5:=ak (aF.trans (hb.mono aF.size))
     clear hb aF QR))
 all_goals (
  go_wp2;go_ret
  exact⟨rfl,S5.o⟩)
def vY(mode:Int)(n:Bool)(k:Nat)(z hv:Int):Nat:=if z=0 then k else if lU mode k hv n then k+1 else k
theorem Yu{w:World}{v u:Value}{X Y:Nat}(h1:Al w v X)(h2:Al w u Y):As 114 #[v,u] w λr w'=>∃p,r=.returned p/\Nt w.heap.size w' p (X+Y)/\An w w':=by
 obtain⟨a,l,c,xs,rfl,hA,rfl,hl⟩:=h1;obtain⟨b,k,d,ys,rfl,hB,rfl,hk⟩:=h2;exact Bh hA hB ae ae rfl
theorem nN(w:World)(dg ls:Int)(En:Nat)(n:Bool)(v:Value)(e:Int)(m:Bool)(u:Value)(f:Int)(W:World)(hW:W=(w.alloc (.cells #[.int .i64 dg,.int .i64 ls,.int .u64 (En:Nat)] 137)).alloc (.cells #[.bool n,v,.int .i64 e,.bool m,u,.int .i64 f] 93)) :
 An w W/\Zk W w.heap.size dg ls En/\Rq W (w.heap.size+1) n v e m u f:=by
 rw[hW];refine⟨(af w _).alloc aN _,?_,?_⟩
 . have h:Zk (w.alloc (.cells #[.int .i64 dg,.int .i64 ls,.int .u64 (En:Nat)] 137)) w.heap.size dg ls En:=iF _ _;exact h.below (af _ _)
 . have:=Rq.new (w.alloc (.cells #[.int .i64 dg,.int .i64 ls,.int .u64 (En:Nat)] 137)) n v e m u f;rw[uL] at this;exact this
theorem half11 {w:World}{n m:Bool}{a b:Option Addr}{la ca lb cb:Nat}{e f:Int}(dg ls:Int) (En:Nat) (k k1 g h q fm hv:Int) (A Bv SM:Nat) (sq:Bool)
 (hk1:IntKind.u64.wrap (k+1)=k1) (hq:IntKind.i64.wrap (h-g)=q) (hq0:0<=q) (hq1:q<=1) (hfm:IntKind.i64.wrap (g-1)=fm) (hS:A+Bv*2^q.toNat=SM) (hB0:Bv≠0) (lA:(ws A).length<=8192) (lB:(ws Bv).length<=8192) (lM:(ws (Bv*2^q.toNat)).length<=8192) (lS:(ws SM).length<=8192)
 (HN1:Hid (∀u:World,As 163 #[.agg #[.int .i64 dg,.int .i64 ls,.int .u64 (En:Nat)],.int .u64 k] u λr w'=>∃v,r=.returned (.tuple #[v,.int .i64 g])/\Nt u.heap.size w' v A/\An u w'))
 (HN2:Hid (∀u:World,As 163 #[.agg #[.int .i64 dg,.int .i64 ls,.int .u64 (En:Nat)],.int .u64 k1] u λr w'=>∃v,r=.returned (.tuple #[v,.int .i64 h])/\Nt u.heap.size w' v Bv/\An u w'))
 (HA:Hid (∀(u:World) (p:Option Addr) (l c:Nat),An w u->Al u (.slice p l c) SM->At 198 #[.slice p l c,.int .i64 fm,.agg #[.bool n,.slice a la ca,.int .i64 e,.bool m,.slice b lb cb,.int .i64 f],.bool sq] u (.int .i64 hv))) :
 At 199 #[.agg #[.int .i64 dg,.int .i64 ls,.int .u64 (En:Nat)],.int .u64 k,.agg #[.bool n,.slice a la ca,.int .i64 e,.bool m,.slice b lb cb,.int .i64 f],.bool sq] w (.int .i64 hv):=by
 obtain⟨W1,hW1⟩:=ah ((w.alloc (.cells #[.int .i64 dg,.int .i64 ls,.int .u64 (En:Nat)] 137)).alloc (.cells #[.bool n,.slice a la ca,.int .i64 e,.bool m,.slice b lb cb,.int .i64 f] 93));obtain⟨hB,Z,QR⟩:=nN w dg ls En n _ e m _ f W1 hW1;obtain⟨p0,p1,p2⟩:=Z.facts;have S0:=(gp hB Z QR);have LN:=(Ck lA lB lM lS hB0 hS hq0 hq1);have H1:=hid (HN1.o W1);clear hB Z QR lA lB lM lS hB0 hS hq0 hq1 HN1;go_enter Tryz.func199,Tryz.ntmps199
 go_upto_region 1 with fail
 rw[<-hW1];clear hW1;go_wp2_with fail;clear p0 p1 p2;refine H1.o.mono ?_;rintro r u1 ⟨v,rfl,hN,hb⟩;obtain⟨a1,c1,rfl,-⟩:=hN.shape;have S1:=(iN (S0.o.1.trans (hb.mono S0.o.1.size)) (S0.o.2.1.below hb) (S0.o.r2.below hb) (hN.al' (dB LN.o.1 aM)));clear hN hb S0 H1;obtain⟨p0,p1,p2⟩:=S1.o.2.1.facts;have H2:=hid (HN2.o u1);clear HN2;go_wp2_with fail;clear p0 p1 p2;refine H2.o.mono ?_;rintro r u2 ⟨v,rfl,hN,hb⟩;have H3:=hid (qH hN q (by have:=LN.o;omega) (by have:=LN.o;omega) LN.o.r4.1 (dB LN.o.2.1 aM));obtain⟨a2,c2,rfl,-⟩:=hN.shape;have S2:=(gp (S1.o.1.trans (hb.mono S1.o.1.size)) (S1.o.r2.1.below hb) (S1.o.r3.below hb));clear hN hb S1 H2;rw[if_neg (by have:=LN.o;omega)] at H3;go_wp2_with fail;refine H3.o.mono ?_;rintro r u3 ⟨v,rfl,hN,hb⟩;obtain⟨a3,c3,rfl,-⟩:=hN.shape;have S3:=(bA (S2.o.1.trans (hb.mono S2.o.1.size)) (S2.o.2.1.below hb));have H4:=hid (Yu (S2.o.r2.below hb) (hN.al' (dB LN.o.r2.1 aM)));rw[LN.o.r5.1] at H4;clear hN hb S2 H3;go_wp2_with fail;refine H4.o.mono ?_;rintro r u4 ⟨v,rfl,hN,hb⟩;obtain⟨a4,c4,rfl,-⟩:=hN.shape;have S4:=(bA (S3.o.1.trans (hb.mono S3.o.1.size)) (S3.o.2.below hb));obtain⟨x0,x1,x2,x3,x4,x5⟩:=S4.o.2.facts;have H5:=hid (HA.o u4 _ _ _ S4.o.1 (hN.al' (dB LN.o.r3.1 aM)));clear hN hb S3 H4 HA;go_wp2_with fail;clear x0 x1 x2 x3 x4 x5;refine H5.o.mono ?_;rintro r u5 ⟨rfl,hb⟩;have S5:=ak (S4.o.1.trans (hb.mono S4.o.1.size));clear hb S4 H5 LN;go_wp2;go_ret;exact⟨rfl,S5.o⟩
structure zU (w:World) (dg ls:Int) (En:Nat) (ag:Nat->Int) (n:Bool) (v:Value) (e:Int) (m:Bool) (x:Value) (y:Int) (f t:Nat) (u:World):Prop where
 aF:An w u
 sz:Zk u w.heap.size dg ls En
 rq:Rq u (w.heap.size+1) n v e m x y
 ft:f<t
 tE:t<=En
 lo:f=0\/ag f<=0
 hi:t=En\/0<ag t
theorem zU.to{w:World}{dg ls:Int}{En:Nat}{ag:Nat->Int}{n:Bool}{v:Value}{e:Int}{m:Bool}{x:Value}{y:Int}{f t:Nat}{u u':World}(h:zU w dg ls En ag n v e m x y f t u)(hb:An u u'):zU w dg ls En ag n v e m x y f t u' :=
 ⟨h.aF.trans (hb.mono h.aF.size),h.sz.below hb,h.rq.below hb,h.ft,h.tE,h.lo,h.hi⟩
theorem Qbv{P:Prop}(h:P:=by
 go_wp2;go_ret;exact⟨⟨k,by rw[HE.o,<-HR2.o];simp[lU,hp],KK.o⟩,S4.o.aF⟩):P:=h
theorem Qbf{P:Prop}(h:P:=by
 cases n
 all_goals (
  go_wp2;go_ret
  exact⟨⟨k,by rw[HE.o,<-HR2.o];simp[lU],KK.o⟩,S4.o.aF⟩)):P:=h
theorem Qag{P:Prop}(h:P:=by
 go_wp2;go_ret;exact⟨⟨k,by rw[HE.o,<-HR2.o];simp[lU],KK.o⟩,S4.o.aF⟩):P:=h
theorem UZ {w:World}{n m:Bool}{a b:Option Addr}{la ca lb cb:Nat}{e f:Int}(dg ls:Int) (En:Nat) (hE:0<En) (hE2:En<9223372036854775808) (num:Nat->Nat×Int) (ag hf:Nat->Int) (sq:Bool) (mode:Int) (hm0:0<=mode) (qM:mode<=4) (Kr:∀k,(ws (num k).1).length<=8192) (hv3:∀k,hf k=-1\/hf k=0\/hf k=1)
 (HN:Hid (∀(k:Nat) (u:World),k<En->As 163 #[.agg #[.int .i64 dg,.int .i64 ls,.int .u64 (En:Nat)],.int .u64 (k:Nat)] u λr w'=>∃v,r=.returned (.tuple #[v,.int .i64 (num k).2])/\Nt u.heap.size w' v (num k).1/\An u w'))
 (HA:Hid (∀(k:Nat) (u:World) (p:Option Addr) (l c:Nat),k<En->An w u->Al u (.slice p l c) (num k).1->At 198 #[.slice p l c,.int .i64 (num k).2,.agg #[.bool n,.slice a la ca,.int .i64 e,.bool m,.slice b lb cb,.int .i64 f],.bool sq] u (.int .i64 (ag k))))
 (HH:Hid (∀(k:Nat) (u:World),k<En->An w u->At 199 #[.agg #[.int .i64 dg,.int .i64 ls,.int .u64 (En:Nat)],.int .u64 (k:Nat),.agg #[.bool n,.slice a la ca,.int .i64 e,.bool m,.slice b lb cb,.int .i64 f],.bool sq] u (.int .i64 (hf k)))) :
 As 171 #[.agg #[.int .i64 dg,.int .i64 ls,.int .u64 (En:Nat)],.agg #[.bool n,.slice a la ca,.int .i64 e,.bool m,.slice b lb cb,.int .i64 f],.bool sq,.int .i64 mode] w λr w'=>(∃k:Nat,r=.returned (.int .u64 (vY mode n k (ag k) (-(hf k)):Nat))/\k<En/\(k=0\/ag k<=0)/\(k+1=En\/0<ag (k+1)))/\An w w':=by
 obtain⟨W1,hW1⟩:=ah ((w.alloc (.cells #[.int .i64 dg,.int .i64 ls,.int .u64 (En:Nat)] 137)).alloc (.cells #[.bool n,.slice a la ca,.int .i64 e,.bool m,.slice b lb cb,.int .i64 f] 93));obtain⟨hB,Z,QR⟩:=nN w dg ls En n _ e m _ f W1 hW1;obtain⟨p0,p1,p2⟩:=Z.facts;have S0:Aside (zU w dg ls En ag n (.slice a la ca) e m (.slice b lb cb) f 0 En W1):=ak ⟨hB,Z,QR,hE,aA _,.inl rfl,.inl rfl⟩;have LN:=(bA Kr hv3);clear Z hB QR Kr hv3;have hw:∀n:Int,0<=n->n<18446744073709551616->IntKind.u64.wrap n=n:=λn h1 h2=>by simp[IntKind.wrap,IntKind.bits,IntKind.signed];omega
 have HW:=ak hw;clear hw;go_enter Tryz.func171,Tryz.ntmps171
 go_upto_region 1 with fail
 rw[<-hW1];clear hW1;go_wp2_with fail;clear p0 p1 p2
 go_loopg [9,10] En (λgk fv tv wr=>∃f0 t:Nat,gk+f0=t/\fv=.int .u64 (f0:Nat)/\tv=.int .u64 (t:Nat)/\f0<t/\t<=En/\Aside (zU w dg ls En ag n (.slice a la ca) e m (.slice b lb cb) f f0 t wr))
 case atStart=>exact⟨0,En,ae,rfl,rfl,hE,aA _,S0⟩
 case round =>
  obtain⟨f0,t,jo,rfl,rfl,hft,htE,S1⟩:=hrel;have e1:=HW.o ((t:Int)-(f0:Int)) ae ae
  by_cases hone:1<(t:Int)-(f0:Int)
  . obtain⟨mi,hm⟩:∃mi,(f0+t)/2=mi:=⟨_,rfl⟩;have e2:=HW.o ((f0:Int)+(t:Int)) ae ae;have e3:((f0:Int)+(t:Int))/2=(mi:Nat):=ae
    have e4:IntKind.u64.wrap ((mi:Nat):Int)=(mi:Nat):=HW.o _ ae ae;have hmE:mi<En:=ae
    obtain⟨p0,p1,p2⟩:=S1.o.sz.facts;obtain⟨X,hX⟩:∃X,(num mi).1=X:=⟨_,rfl⟩;obtain⟨y,hy⟩:∃y,(num mi).2=y:=⟨_,rfl⟩;have H1:=hid (HN.o mi wr hmE);have H2:=hid λu p l c=>HA.o mi u p l c hmE;have lX:=LN.o.1 mi;rw[hX,hy] at H1 H2;rw[hX] at lX;have LX:=ak lX;clear lX hX hy;go_wp2_with fail;clear p0 p1 p2;refine H1.o.mono ?_;rintro r u1 ⟨v,rfl,hN,hb⟩;obtain⟨b1,c1,rfl,-⟩:=hN.shape;have S2:=ak (S1.o.to hb);have H3:=hid (H2.o u1 b1 _ c1 S2.o.aF (hN.al' (dB LX.o aM)));clear hb hN S1 H1 H2;obtain⟨x0,x1,x2,x3,x4,x5⟩:=S2.o.rq.facts;go_wp2_with fail;clear x0 x1 x2 x3 x4 x5;refine H3.o.mono ?_;rintro r u2 ⟨rfl,hb⟩;have S3:=ak (S2.o.to hb);clear hb H3 S2
    by_cases hag:ag mi<=0
    . go_wp2_with fail;go_roundg (t-mi)
      case measure=>omega
      case rel=>exact⟨mi,t,ae,rfl,rfl,ae,htE,ak ⟨S3.o.aF,S3.o.sz,S3.o.rq,ae,htE,.inr hag,S3.o.hi⟩⟩
    . have hag':decide (ag mi<=0)=false:=decide_eq_false hag;go_wp2_with fail;go_roundg (mi-f0)
      case measure=>omega
      case rel=>exact⟨f0,mi,ae,rfl,rfl,ae,ae,ak ⟨S3.o.aF,S3.o.sz,S3.o.rq,ae,ae,S3.o.lo,.inr ae⟩⟩
  . have hone':decide (1<(t:Int)-(f0:Int))=false:=decide_eq_false hone;obtain⟨k,hk⟩:=ah f0;subst hk;have hkE:k<En:=ae
    have KK:Aside (k<En/\(k=0\/ag k<=0)/\(k+1=En\/0<ag (k+1))):=by
     obtain rfl:t=k+1:=ae
     exact ak ⟨hkE,S1.o.lo,S1.o.hi⟩
    have ek:IntKind.u64.wrap ((k:Int)+1)=(k:Int)+1:=HW.o _ ae ae;obtain⟨p0,p1,p2⟩:=S1.o.sz.facts;obtain⟨X,hX⟩:∃X,(num k).1=X:=⟨_,rfl⟩;obtain⟨y,hy⟩:∃y,(num k).2=y:=⟨_,rfl⟩;obtain⟨z,hz⟩:∃z,ag k=z:=⟨_,rfl⟩;obtain⟨hv,hhv⟩:∃z,hf k=z:=⟨_,rfl⟩;have hv3:=LN.o.2 k;obtain⟨R,hR⟩:∃R,vY mode n k z (-hv)=R:=⟨_,rfl⟩;have H1:=hid (HN.o k wr hkE);have H2:=hid λu p l c=>HA.o k u p l c hkE;have H5:=hid λu=>HH.o k u hkE;have lX:=LN.o.1 k;rw[hX,hy] at H1 H2;rw[hz] at H2;rw[hhv] at H5 hv3;rw[hX] at lX;have LX:=ak lX;have HE:Aside (vY mode n k (ag k) (-(hf k))=R):=ak (by rw[hz,hhv,hR]);clear lX hX hy hz hhv LN HN HA HH S0 HW;go_wp2_with fail;clear p0 p1 p2;refine H1.o.mono ?_;rintro r u1 ⟨v,rfl,hN,hb⟩;obtain⟨b1,c1,rfl,-⟩:=hN.shape;have S2:=ak (S1.o.to hb);have H3:=hid (H2.o u1 b1 _ c1 S2.o.aF (hN.al' (dB LX.o aM)));clear hb hN S1 H1 H2 LX;obtain⟨x0,x1,x2,x3,x4,x5⟩:=S2.o.rq.facts;go_wp2_with fail;clear x0 x1 x2 x3 x4 x5;refine H3.o.mono ?_;rintro r u2 ⟨rfl,hb⟩;have S3:=ak (S2.o.to hb);clear hb H3 S2
    by_cases hz:z=0
    . subst hz;obtain rfl:k=R:=by rw[<-hR];unfold vY;rw[if_pos rfl]
      clear hR;go_wp2_with fail;go_ret;exact⟨⟨k,by rw[HE.o];first | rfl | simp,KK.o⟩,S3.o.aF⟩
    . have hz':(z==0)=false:=by simpa using hz
      have hR2:(if lU mode k (-hv) n then k+1 else k)=R:=by rw[<-hR];unfold vY;rw[if_neg hz]
      have H6:=hid (H5.o u2 S3.o.aF);obtain⟨p0,p1,p2⟩:=S3.o.sz.facts;obtain⟨x0,x1,x2,x3,x4,x5⟩:=S3.o.rq.facts;have HR2:=ak hR2;clear hR hz hR2 H5;go_wp2_with fail;clear p0 p1 p2 x0 x1 x2 x3 x4 x5;refine H6.o.mono ?_;rintro r u4 ⟨rfl,hb⟩;have S4:=ak (S3.o.to hb);obtain⟨x0,x1,x2,x3,x4,x5⟩:=S4.o.rq.facts;clear hb S3 H6 hz';have hc:mode=0\/mode=1\/mode=2\/mode=3\/mode=4:=ae
      clear hm0 qM;rcases hc with rfl|rfl|rfl|rfl|rfl
      . rcases hv3 with rfl | rfl | rfl
        . exact Qag
        . by_cases hp:k%2=1
          . have hp':(k:Int)%2=1:=ae
            exact Qbv
          . have hp':(k:Int)%2=0:=ae
            exact Qbv
        . exact Qag
      . exact Qag
      . exact Qbf
      . exact Qbf
      . rcases hv3 with rfl | rfl | rfl
        all_goals (
         go_wp2;go_ret
         exact⟨⟨k,by rw[HE.o,<-HR2.o];simp[lU],KK.o⟩,S4.o.aF⟩)
theorem mV(x y c:Nat)(hc:0<c):jC ((x*c:Nat):Int) ((y*c:Nat):Int)=jC (x:Int) (y:Int):=by
 rw[eD,eD];exact Ea _ _ _ ae
theorem U4(A v X Y:Nat)(g e f B:Int)(u n:Nat)(hB1:B<=g)(hB2:B<=-((n*u:Nat):Int))(hA:A*2^(g-B).toNat=v*2^(-((n*u:Nat):Int)-B).toNat) :
 Zb (A*Y) (g+f) X e=jC ((v*l9 Y e f u n:Nat):Int) ((l7 X e f u n:Nat):Int):=by
 generalize hU:n*u=U at hB2 hA;obtain⟨D,hD1,hD2⟩:∃D:Int,D<=f/\B+D<=e:=⟨min f (e-B),Int.min_le_left _ _,by have:=Int.min_le_right f (e-B);omega⟩;rw[agV_z (A*Y) (g+f) X e (B+D) ae hD2];obtain⟨c,hc⟩:∃c:Nat,(-(U:Int)-B).toNat+(f-D).toNat=(-(e-f+(U:Int))).toNat+c:=⟨(-(U:Int)-B).toNat+(f-D).toNat-(-(e-f+(U:Int))).toNat,ae⟩;have hd:(e-(B+D)).toNat=(e-f+(U:Int)).toNat+c:=ae
 have e1:A*Y*2^(g+f-(B+D)).toNat=v*l9 Y e f u n*2^c:=by
  rw[show(g+f-(B+D)).toNat=(g-B).toNat+(f-D).toNat by omega,aP,rH,hA,rH,<-aP,hc,aP];unfold l9;rw[hU];simp only[aQ]
 have e2:X*2^(e-(B+D)).toNat=l7 X e f u n*2^c:=by
  rw[hd,aP];unfold l7;rw[hU];simp only[aQ]
 rw[e1,e2];exact mV _ _ _ (bG c)
theorem Kt(v X Y:Nat)(e f:Int)(u n:Nat):jC ((v*l9 Y e f (u+1) n:Nat):Int) ((l7 X e f (u+1) n:Nat):Int)=jC ((v*l9 Y e f u n:Nat):Int) ((2^n*l7 X e f u n:Nat):Int):=by
 generalize hU:n*u=U;have hU':n*(u+1)=U+n:=by rw[oq,eQ,hU]
 rw[<-mV (v*l9 Y e f (u+1) n) (l7 X e f (u+1) n) (2^(-(e-f+(U:Int))).toNat) (bG _),<-mV (v*l9 Y e f u n) (2^n*l7 X e f u n) (2^(-(e-f+((U+n:Nat):Int))).toNat) (bG _)];congr 2
 . unfold l9;rw[hU,hU'];simp only[aQ];rw[cK (2^_) (2^_)]
 . unfold l7;rw[hU,hU',aQ,<-aP,cK (2^n),aQ,aQ,<-aP,<-aP];congr 2;omega
theorem Qk{A v:Nat}{g B:Int}{u n:Nat}(h1:B<=g)(h2:B<=-(u:Int))(hA:A*2^(g-B).toNat=v*2^(-(u:Int)-B).toNat)(hn:n=1\/n=2):A^n*2^((n:Int)*g-(n:Int)*B).toNat=v^n*2^(-((n*u:Nat):Int)-(n:Int)*B).toNat:=by
 rcases hn with rfl|rfl
 . rw[mr,mr,ik];simpa using hA
 . rw[show(((2:Nat):Int)*g-((2:Nat):Int)*B).toNat=(g-B).toNat+(g-B).toNat by omega,show(-((2*u:Nat):Int)-((2:Nat):Int)*B).toNat=(-(u:Int)-B).toNat+(-(u:Int)-B).toNat by omega,aP,aP,Nat.pow_two,Nat.pow_two,rH,hA,rH]
theorem Ql{A Bv v v1 SM:Nat}{g h q B:Int}{u:Nat}(h1:B<=g-1)(h2:B<=-((u+1:Nat):Int))(hq:q=h-g)(hq0:0<=q)(hA:A*2^(g-B).toNat=v*2^(-(u:Int)-B).toNat)(hBv:Bv*2^(h-B).toNat=v1*2^(-(u:Int)-B).toNat)(hS:A+Bv*2^q.toNat=SM) :
 SM*2^(g-1-B).toNat=(v+v1)*2^(-((u+1:Nat):Int)-B).toNat:=by
 have k1:(g-B).toNat=(g-1-B).toNat+1:=ae
 have k2:(-(u:Int)-B).toNat=(-((u+1:Nat):Int)-B).toNat+1:=ae
 have k3:(h-B).toNat=q.toNat+((g-1-B).toNat+1):=ae
 rw[k1,k2,dS,dS,<-aQ,<-aQ] at hA;rw[k3,k2,aP,dS,dS,<-aQ,<-aQ,<-aQ] at hBv;have e1:=pz (by omega:0<2) hA;have e2:=pz (by omega:0<2) hBv;rw[<-hS,fT,fT,e1,e2]
theorem Eo(k:Nat):(gX k).2<=(gX (k+1)).2/\(gX (k+1)).2<=(gX k).2+1/\-1074<=(gX k).2:=by
 unfold gX
 by_cases h:k/4503599627370496=0
 . rw[if_pos h]
   by_cases h':(k+1)/4503599627370496=0
   . rw[if_pos h'];simp only;omega
   . rw[if_neg h'];simp only;omega
 . rw[if_neg h,if_neg ae];simp only;omega
namespace S
end S
structure Wd11 (dg ls:Int) (En:Nat) (v:Nat->Nat) (u:Nat) (num:Nat->Nat×Int):Prop where
 grid:Tx v En
 small:En<9223372036854775808
 ub:u<=2000
 call:∀(k:Nat) (w:World),k<=En->As 163 #[.agg #[.int .i64 dg,.int .i64 ls,.int .u64 (En:Nat)],.int .u64 (k:Nat)] w λr w'=>∃p,r=.returned (.tuple #[p,.int .i64 (num k).2])/\Nt w.heap.size w' p (num k).1/\An w w'
 val:∀(k:Nat) (B:Int),B<=-(u:Int)->(num k).1*2^((num k).2-B).toNat=v k*2^(-(u:Int)-B).toNat/\(num k).1<9007199254740992/\B<=(num k).2/\((num k).1=0↔k=0)
 step:∀k:Nat,(num k).2<=(num (k+1)).2/\(num (k+1)).2<=(num k).2+1/\-(u:Int)<=(num k).2
 top:∀k:Nat,k<=En->(num k).2<=2000
theorem Yv:Wd11 53 (-1074) 9218868437227405312 vK 1074 gX :=
 ⟨D6,ae,ae,λk w hk=>Bq k hk w,λk B hB=>Tu k B hB,Eo,λk hk=>by unfold gX;split <;> simp only <;> omega⟩
theorem Ib{A Y:Nat}(hA:bl A<=200)(hY:bl Y<=262144):(ws (A*Y)).length<=2000000:=by
 have:=vJ A Y;rw[ic];omega
theorem uD(x:Int)(h0:-4611686018427387904<=x)(h1:x<=4611686018427387904):IntKind.i64.wrap x=x:=by rw[QD];omega
theorem Kv(x y:Int):jC x y=-1\/jC x y=0\/jC x y=1:=by unfold jC;(repeat' split) <;> simp
theorem U5{x y:Nat}:jC (x:Int) (y:Int)<=0↔x<=y:=by unfold jC;(repeat' split) <;> omega
theorem U6{x y:Nat}:0<jC (x:Int) (y:Int)↔y<x:=by unfold jC;(repeat' split) <;> omega
theorem Ic{x y:Nat}:jC (x:Int) (y:Int)=0↔x=y:=by unfold jC;(repeat' split) <;> omega
theorem Ie {dg ls:Int}{En:Nat}{v:Nat->Nat}{u:Nat}{num:Nat->Nat×Int}(H:Wd11 dg ls En v u num) {w:World}{s mb:Bool}{p a b:Option Addr}{lp cp la ca lb cb X Y:Nat}{e f:Int}(hN:Al w (.slice a la ca) X) (hD:Al w (.slice b lb cb) Y) (he:-1048576<=e/\e<=1048576) (hf:-1048576<=f/\f<=1048576) (hY:bl Y<=262144)
 (A W n U:Nat) (g B:Int) (hA:Al w (.slice p lp cp) A) (hn:n=1\/n=2) (hAb:bl A<=100) (hg:-4000<=g/\g<=4000) (hU:U<=4000) (h1:B<=g) (h2:B<=-(U:Int)) (hv:A*2^(g-B).toNat=W*2^(-(U:Int)-B).toNat) (sq:Bool) (Zp:sq=decide (n=2)) :
 At 198 #[.slice p lp cp,.int .i64 g,.agg #[.bool s,.slice a la ca,.int .i64 e,.bool mb,.slice b lb cb,.int .i64 f],.bool sq] w (.int .i64 (jC ((W^n*l9 Y e f U n:Nat):Int) ((l7 X e f U n:Nat):Int))):=by
 have P:=Qk h1 h2 hv hn;rcases hn with rfl|rfl
 . have e1:=U4 (A^1) (W^1) X Y (((1:Nat):Int)*g) e f (((1:Nat):Int)*B) U 1 ae ae P;rw[mr,show((1:Nat):Int)*g=g by omega] at e1;subst Zp;rw[<-e1];exact Hy hA hN hD ae (g+f) 0 (uD _ ae ae) ae (A*Y) rfl (Ib ae hY)
 . have e1:=U4 (A^2) (W^2) X Y (((2:Nat):Int)*g) e f (((2:Nat):Int)*B) U 2 ae ae P;rw[Nat.pow_two,show((2:Nat):Int)*g=2*g by omega] at e1;subst Zp;rw[<-e1];have hb:=vJ A A;exact Ia hA hN hD ae (2*g+f) (2*g) (uD _ ae ae) (uD _ ae ae) ae (A*A*Y) rfl (Ib ae hY) (by rw[ic];omega)
theorem Yw {dg ls:Int}{En:Nat}{v:Nat->Nat}{u:Nat}{num:Nat->Nat×Int}(H:Wd11 dg ls En v u num) {w:World}{s mb:Bool}{a b:Option Addr}{la ca lb cb X Y:Nat}{e f:Int}(hN:Al w (.slice a la ca) X) (hD:Al w (.slice b lb cb) Y) (he:-1048576<=e/\e<=1048576) (hf:-1048576<=f/\f<=1048576) (hY:bl Y<=262144)
 {n K:Nat} {t:Bool} {m:Int} (hn:n=1\/n=2) (L:kg v En n K t m (l7 X e f u n) (l9 Y e f u n)) (sq:Bool) (Zp:sq=decide (n=2)) (mode:Int) (hm0:0<=mode) (qM:mode<=4) :
 At 171 #[.agg #[.int .i64 dg,.int .i64 ls,.int .u64 (En:Nat)],.agg #[.bool s,.slice a la ca,.int .i64 e,.bool mb,.slice b lb cb,.int .i64 f],.bool sq,.int .i64 mode] w (.int .u64 ((if t then K else if lU mode K m s then K+1 else K:Nat):Nat)):=by
 have hub:=H.ub;have hone:=H.grid.one;have hsm:=H.small;have Kr:∀k,bl (num k).1<=53:=λk=>qK _ (H.val k _ (Int.le_refl _)).2.1
 have C:=UZ (w:=w) (n:=s) (m:=mb) (a:=a) (b:=b) (la:=la) (ca:=ca) (lb:=lb) (cb:=cb) (e:=e) (f:=f) dg ls En ae hsm num
  (λk=>jC ((v k^n*l9 Y e f u n:Nat):Int) ((l7 X e f u n:Nat):Int)) (λk=>jC (((v k+v (k+1))^n*l9 Y e f u n:Nat):Int) ((2^n*l7 X e f u n:Nat):Int)) sq mode hm0 qM
  (λk=>len8 (by have:=Kr k;omega)) (λk=>Kv _ _) (hid λk w' hk=>H.call k w' ae)
  (hid λk w' p l c hk hb hA=>by
   obtain⟨h1,h2,h3,h4⟩:=H.val k (-(u:Int)) (Int.le_refl _);have h5:=H.top k ae
   exact Ie H (hN.below hb) (hD.below hb) he hf hY (num k).1 (v k) n u (num k).2 (-(u:Int)) hA hn (by have:=Kr k;omega) ae ae h3 (Int.le_refl _) h1 sq Zp)
  (hid λk w' hk hb=>by
   obtain⟨h1,h2,h3,h4⟩:=H.val k (-(u:Int)-1) ae;obtain⟨i1,i2,i3,i4⟩:=H.val (k+1) (-(u:Int)-1) ae;obtain⟨j1,j2,j3⟩:=H.step k;have h5:=H.top k ae;have l1:=Kr k;have l2:=Kr (k+1);obtain⟨q,hq⟩:∃q,(num (k+1)).2-(num k).2=q:=⟨_,rfl⟩;have hq2:q=0\/q=1:=ae
   have hp:(2:Nat)^q.toNat<=2:=by rcases hq2 with h | h <;> subst h <;> decide
   have hM:(num (k+1)).1*2^q.toNat<=(num (k+1)).1*2:=fG _ hp;have M:=Ql (u:=u) (B:=-(u:Int)-1) ae ae hq.symm ae h1 i1 rfl;have lM:bl ((num (k+1)).1*2^q.toNat)<=60:=eY (by rw[show(2:Nat)^60=1152921504606846976 by rfl];omega);have lS:bl ((num k).1+(num (k+1)).1*2^q.toNat)<=60:=eY (by rw[show(2:Nat)^60=1152921504606846976 by rfl];omega);refine half11 dg ls En (k:Int) ((k+1:Nat):Int) (num k).2 (num (k+1)).2 q ((num k).2-1) _ (num k).1 (num (k+1)).1 _ sq (by rw[kC];omega) (by rw[hq];exact uD _ ae ae) ae ae (uD _ ae ae) rfl (λh=>by have:=i4.1 h;omega) (len8 ae) (len8 ae) (len8 ae) (len8 ae) (hid λx=>H.call k x ae) (hid λx=>H.call (k+1) x ae) (hid λx p l c hx hA=>?_);have:=Ie H ((hN.below hb).below hx) ((hD.below hb).below hx) he hf hY ((num k).1+(num (k+1)).1*2^q.toNat) (v k+v (k+1)) n (u+1) ((num k).2-1) (-(u:Int)-1) hA hn ae ae ae ae ae M sq Zp (s:=s) (mb:=mb);rw[Kt] at this
   exact this)
 refine C.mono ?_;rintro r w' ⟨⟨k,rfl,hk,k1,k2⟩,hb⟩;refine⟨?_,hb⟩
 obtain⟨d1,d2,d3⟩:=L.doc H.grid ae k hk (by
  rcases k1 with rfl|h
  . rw[H.grid.zero,Nat.zero_pow ae,fe];exact lD _
  . exact U5.1 h) (by
  rcases k2 with h|h
  . exact .inl h
  . exact .inr (U6.1 h))
 subst d1;congr 3;unfold vY
 by_cases hx:l7 X e f u n=v k^n*l9 Y e f u n
 . rw[if_pos (Ic.2 hx.symm),d2,decide_eq_true hx,if_pos rfl]
 . have ht:t=false:=by rw[d2];exact decide_eq_false hx
   have hm:-jC (((v k+v (k+1))^n*l9 Y e f u n:Nat):Int) ((2^n*l7 X e f u n:Nat):Int)=m:=by
    rw[d3 ht,<-TQ];unfold Xw jC;simp only[Int.ofNat_lt]
   rw[if_neg (λh=>hx (Ic.1 h).symm),hm,ht];rfl
section
attribute [local go_sem] B.aJ
theorem Kw(k:Nat)(hk:k<9223372036854775808)(neg:Bool)(er:Int)(w:World) :
 Ax 121 #[.int .u64 (k:Nat),.bool neg,.int .i64 er] w (.tuple #[.float .f64 (k+(if neg then 9223372036854775808 else 0)),.int .i64 er]):=by
 have e1:IntKind.u64.wrap ((k:Int)+9223372036854775808)=((k+9223372036854775808:Nat):Int):=by rw[kC];omega
 cases neg
 . go_enter Tryz.func121,Tryz.ntmps121;go_wp2;exact aH (v:=.tuple #[.float .f64 k,.int .i64 er]) (by simp[results,Tryz.results121,go_sem]) rfl ⟨aN,rfl⟩
 . go_enter Tryz.func121,Tryz.ntmps121;go_wp2;exact aH (v:=.tuple #[.float .f64 (k+9223372036854775808),.int .i64 er]) (by simp[results,Tryz.results121,go_sem] <;> omega) rfl ⟨aN,rfl⟩
end
theorem Tryz.Ky:Tryz.prog.underlying 166=some (.slice 93):=by kernel_rfl
theorem Tryz.Kz:(Tryz.prog.info? 93).map (λi=>(i.zero,i.size,i.bytes))=some (some (.agg #[.bool false,.slice none 0 0,.int .i64 0,.bool false,.slice none 0 0,.int .i64 0]),6,80):=by kernel_rfl
structure R1 (w:World) (v:Value) (n:Bool) (x:Value) (e:Int) (m:Bool) (y:Value) (f:Int):Prop where
 ex:∃g cap,v=.slice (some ⟨g,0,none⟩) 1 cap/\1<=cap/\g<w.heap.size/\(w.cell? ⟨g,0,none⟩=some (.bool n)/\w.cell? ⟨g,1,none⟩=some x/\w.cell? ⟨g,2,none⟩=some (.int .i64 e)/\w.cell? ⟨g,3,none⟩=some (.bool m)/\w.cell? ⟨g,4,none⟩=some y/\w.cell? ⟨g,5,none⟩=some (.int .i64 f))
theorem U7(w:World)(n:Bool)(a:Option Addr)(l c:Nat)(e:Int)(m:Bool)(b:Option Addr)(k d:Nat)(f:Int) :
 ∃v' w',(Builtin.append_ #[166,166] 166 #[.slice none 0 0,.slice (some ⟨w.heap.size,0,none⟩) 1 1]).run Tryz.prog (w.alloc (.cells #[.bool n,.slice a l c,.int .i64 e,.bool m,.slice b k d,.int .i64 f] 93))=.ok v' w'/\R1 w' v' n (.slice a l c) e m (.slice b k d) f/\An w w':=by
 obtain⟨i0,hi,hz0,hz1,hz2⟩:=info_parts Tryz.Kz;obtain⟨W,hW⟩:=ah (w.alloc (.cells #[.bool n,.slice a l c,.int .i64 e,.bool m,.slice b k d,.int .i64 f] 93));have hq:Rq W w.heap.size n (.slice a l c) e m (.slice b k d) f:=by rw[hW];exact Rq.new _ _ _ _ _ _ _
 obtain⟨x0,x1,x2,x3,x4,x5⟩:=hq.facts;have hWs:w.heap.size<=W.heap.size:=by subst hW;simp
 obtain⟨v',w',r1,r2,r3,r4,r5⟩:=run_append_own_at (P:=Tryz.prog) W w.heap.size 166 166 93 i0 _ 6 80 Tryz.Ky hi hz0 hz1 hz2 rfl aM (.slice none 0 0) 0 [] (yA W w.heap.size 93 6) ⟨w.heap.size,0,none⟩ 1 1 [.bool n,.slice a l c,.int .i64 e,.bool m,.slice b k d,.int .i64 f] rfl (by
  intro j u hj
  match j,hj with
  | 0,hj=>simp at hj;subst hj;simpa [Addr.add] using x0
  | 1,hj=>simp at hj;subst hj;simpa [Addr.add] using x1
  | 2,hj=>simp at hj;subst hj;simpa [Addr.add] using x2
  | 3,hj=>simp at hj;subst hj;simpa [Addr.add] using x3
  | 4,hj=>simp at hj;subst hj;simpa [Addr.add] using x4
  | 5,hj=>simp at hj;subst hj;simpa [Addr.add] using x5
  | j+6,hj=>simp at hj) (by intro u hu;simp at hu;rcases hu with rfl | rfl | rfl | rfl | rfl | rfl <;> rfl) (by unfold maxLen;omega) ae hWs
 rw[<-hW];refine⟨v',w',r1,?_,?_⟩
 . rcases r2.2 with ⟨h1,h2⟩ | ⟨g,cap,cur,rfl,hlo,hg,hn1,hm,hs,ht⟩
   . exact absurd (r4.1 h1).2 aM
   . have C:∀i,i<6->w'.cell? ⟨g,i,none⟩=([.bool n,.slice a l c,.int .i64 e,.bool m,.slice b k d,.int .i64 f]:List Value)[i]?:=by
      intro i hi6;have:=World.ownsRow.cellAt r2 i (by simp;omega);simpa using this
     exact⟨g,cap,rfl,hn1,(dQ.1 hg).1,C 0 ae,C 1 ae,C 2 ae,C 3 ae,C 4 ae,C 5 ae⟩
 . have U8:An w W:=by subst hW;exact af _ _
   refine⟨r3.os.trans U8.os,r3.tape.trans U8.tape,r3.output.trans U8.output,dB U8.size r3.size,λk hkl=>?_⟩;rw[r3.block k ae (λe=>by simp[Value.ownBlock] at e)];exact U8.block k hkl
end
section
open Go.RowKit J
attribute [local go_sem] cZ
theorem gY {w:World}{ops:Array Oper}{rest:List Oper}{o:Oper}{a:Act}{Q:Exit->Act->World->Prop}(hgd:o.guard=none) (s x:Operand) (t:TypeId)
 (ho:o.op=.call { callee:=.builtin .append,args:=#[s,x],argTypes:=#[t,t] }) (v u:Value) (hs:a.eval s=v) (hx:a.eval x=u) (v':Value) (w':World)
 (hrun:(Builtin.append_ #[t,t] o.type #[v,u]).run Tryz.prog w=.ok v' w') (h:wpList Tryz.prog ops Q rest (a.put o.dst v') w'):wpList Tryz.prog ops Q (o::rest) a w:=by
 refine wpList_plain hgd λK hK=>?_;unfold Oper.wp;simp[execOp,ho,resolve,invoke,builtin,hs,hx,hrun,Result.andThen];exact hK _ _ h
theorem uE(lo:Nat)(v:Value)(K:List Nat)(x:Nat)(w:World)(hb:w.ownsRow lo 27 1 v K.length (K.map jD))(hlo:lo<=w.heap.size)(hk:K.length<=1000000) :
 ∃v' w',(Builtin.append_ #[22,22] 22 #[v,.slice (some ⟨w.heap.size,0,none⟩) 1 1]).run Tryz.prog (w.alloc (.cells #[.float .f64 x] 27))=.ok v' w'/\w'.ownsRow lo 27 1 v' (K++[x]).length ((K++[x]).map jD)/\Below lo w w'/\w.heap.size<=w'.heap.size:=by
 obtain⟨i0,hi,hz0,hz1,hz2⟩:=info_parts Tryz.nK;obtain⟨W,hW⟩:=ah (w.alloc (.cells #[.float .f64 x] 27));have hcx:W.cell? ⟨w.heap.size,0,none⟩=some (.float .f64 x):=by subst hW;unfold World.cell?;simp only[iF];rfl
 have hWb:W.ownsRow lo 27 1 v K.length (K.map jD):=by subst hW;exact World.ownsRow.alloc hb _
 have hWs:w.heap.size<=W.heap.size:=by subst hW;simp
 obtain⟨v',w',r1,r2,r3,_,r5⟩:=run_append_own_at (P:=Tryz.prog) W lo 22 22 27 i0 (.float .f64 0) 1 8 Tryz.iL hi hz0 hz1 hz2 rfl aM v K.length (K.map jD) hWb ⟨w.heap.size,0,none⟩ 1 1 [.float .f64 x] rfl (by
  intro j u hj
  match j,hj with
  | 0,hj=>simp at hj;subst hj;simpa [Addr.add] using hcx) (by intro u hu;simp at hu;subst hu;rfl) (by unfold maxLen;omega) ae ae
 rw[<-hW];refine⟨v',w',r1,?_,?_,?_⟩
 . rw[gU,jy];exact r2
 . have U8:Below lo w W:=by subst hW;exact(aD _ _).alloc hlo _
   refine⟨r3.os.trans U8.os,r3.tape.trans U8.tape,r3.output.trans U8.output,dB U8.size r3.size,λk hkl=>?_⟩
   rw[r3.block k ae (λe=>by
    rcases hWb.2 with ⟨e2,_⟩|⟨g,cap,cur,e2,hlo2,_⟩
    . rw[e2] at e;simp[Value.ownBlock] at e
    . rw[e2] at e;simp[Value.ownBlock] at e;omega)]
   exact U8.block k hkl
 . exact dB hWs r3.size
theorem zV{w:World}{lo n:Nat}{v:Value}{xs:List Nat}(h:w.ownsRow lo 27 1 v n (xs.map jD))(hn:n=xs.length):∃a c,v=.slice a n c/\n<=c/\Fs w.heap.size w a xs:=by
 have h':=h;rcases h.2 with ⟨rfl,hn0⟩|⟨g,cap,cur,rfl,hlo,hg,hn1,hm,hs,ht⟩
 . have e:xs=[]:=rF (by rw[<-hn];simpa using hn0);subst e;have:n=0:=by simpa using hn
   subst this;exact⟨none,0,rfl,aA _,Fs.nil _ _ _⟩
 . refine⟨some ⟨g,0,none⟩,cap,rfl,hn1,λ_=>⟨g,0,(dQ.1 hg).1,rfl,λi hi=>?_⟩⟩;have:=World.ownsRow.cellAt h' i ae;rw[dA,this,mY,aY hi,bF,aY hi];rfl
end
section
open Go.RowKit
theorem Yx{w:World}{v:Value}{X:Nat}(h1:Al w v X)(ng:Bool)(e:Int):At 197 #[.agg #[.bool ng,v,.int .i64 e]] w (.int .i64 (qN ng X)):=by
 obtain⟨a,l,c,xs,rfl,hA,rfl,hl⟩:=h1;exact JN hA ng e
theorem MC{w:World}{v:Value}{X:Nat}(h1:Al w v X)(n:Bool)(e:Int)(be:-9223372036854775808<=e/\e<=9223372036854775807)(o:Option (Bool×Nat×Int))(ho:mkS n X e=o)(s:Bool)(hs:o.isSome=s):As 108 #[.agg #[.bool n,v,.int .i64 e]] w λr w'=>(∃p,r=.returned (.tuple #[.agg #[.bool (dN o),p,.int .i64 (dE o)],.bool s])/\Nt w.heap.size w' p (dX o))/\An w w':=by
 obtain⟨a,l,c,xs,rfl,hA,rfl,hl⟩:=h1;subst ho hs;exact nE hA hl n e be.1 be.2
def MayA(lo:Nat)(w:World)(r:Ending)(o p:Option (Bool×Nat×Int))(er:Int):Prop :=
 ∃v,r=.returned (.tuple #[v,.int .i64 er])/\(er=0->∃x y,R1 w v (dN o) x (dE o) (dN p) y (dE p)/\Nt lo w x (dX o)/\Nt lo w y (dX p))
theorem jt{P:Prop}(h:P:=by
 go_upto_region 12 with fail
 rw[<-dK];clear dK hbad;go_wp2;exact aH (v:=.tuple #[.slice none 0 0,.int .i64 2]) (by simp[results,Tryz.results170,go_sem]) rfl ⟨⟨_,by rw[HE.o],λh=>by rw[HE.o] at h;cases h⟩,H5.o⟩):P:=h
theorem may1 {w:World}{g:Nat}{n m:Bool}{a b:Option Addr}{la ca lb cb X Y:Nat}{e f:Int}(hq:Rq w g n (.slice a la ca) e m (.slice b lb cb) f) (hN:Al w (.slice a la ca) X) (hD:Al w (.slice b lb cb) Y) (be:-9223372036854775808<=e/\e<=9223372036854775807) (bf:-9223372036854775808<=f/\f<=9223372036854775807)
 (o p:Option (Bool×Nat×Int)) (ho:mkS n X e=o) (hp:mkS m Y f=p) (er:Int) (her:oI X n e Y m f=er) :
 As 170 #[.slice (some ⟨g,0,none⟩) 1 1] w λr w'=>MayA w.heap.size w' r o p er/\An w w':=by
 have S0:=(bA (aD w.heap.size w) hq);have AA:=(Ew hN hD be bf ho hp her);have LL:Aside ((ws (dX o)).length<=8192/\(ws (dX p)).length<=8192):=ak ⟨by rw[<-ho];exact aR _ _ _,by rw[<-hp];exact aR _ _ _⟩;obtain⟨sg,hsg⟩:∃x,qN m Y=x:=⟨_,rfl⟩;have SG:=ak hsg;clear hq hN hD be bf ho hp her hsg;have one:decide ((1:Int)<1)=false:=aM
 go_enter Tryz.func170,Tryz.ntmps170;go_wp2
 go_loopg [4] 1 (λgk i wr=>∃k:Nat,gk+k=1/\i=.int .i64 (k:Nat)/\Aside (An w wr/\(k=1->¬ qN m Y<0)))
 case atStart=>exact⟨0,ae,aN,ak ⟨S0.o.1,λh=>by cases h⟩⟩
 case round =>
  obtain⟨k,jo,rfl,HA⟩:=hrel
  by_cases hk:k<1
  . obtain rfl:k=0:=ae
    obtain⟨x0,x1,x2,x3,x4,x5⟩:=(S0.o.2.below HA.o.1).facts;have HC:=hid (Yx (AA.o.2.1.below HA.o.1) m f);rw[SG.o] at HC;go_wp2_with fail;clear x0 x1 x2 x3 x4 x5;refine HC.o.mono ?_;rintro r u1 ⟨rfl,hb⟩;have HB:=ak (HA.o.1.trans (hb.mono HA.o.1.size));clear HC hb HA
    by_cases hs:sg<0
    . have hs':decide (sg<0)=true:=decide_eq_true hs;have HE:Aside (er=1):=ak (by rw[<-AA.o.r6];unfold oI;rw[if_pos (by rw[SG.o];exact hs)]);clear hs;go_wp2;exact aH (v:=.tuple #[.slice none 0 0,.int .i64 1]) (by simp[results,Tryz.results170,go_sem]) rfl ⟨⟨_,by rw[HE.o],λh=>by rw[HE.o] at h;cases h⟩,HB.o⟩
    . have hs':decide (sg<0)=false:=decide_eq_false hs;have HS:=ak hs;clear hs;go_wp2_with fail;go_roundg 0
      case measure=>omega
      case rel=>exact⟨1,ae,by first | rfl | simp,ak ⟨HB.o,λ_=>by rw[SG.o];exact HS.o⟩⟩
  . obtain rfl:k=1:=ae
    have HS:=ak (HA.o.2 rfl);have HB:=ak HA.o.1;clear HA;go_wp2
    go_loopg [6,5] 1 (λgk i v wr=>∃(k:Nat) (v0:Value),gk+k=1/\i=.int .i64 (k:Nat)/\v=v0/\Aside (An w wr/\(k=0->v0=.slice none 0 0)/\(k=1->o.isSome=true/\p.isSome=true/\∃x y,R1 wr v0 (dN o) x (dE o) (dN p) y (dE p)/\Nt w.heap.size wr x (dX o)/\Nt w.heap.size wr y (dX p))))
    case atStart=>exact⟨0,_,ae,aN,rfl,ak ⟨HB.o,λ_=>rfl,λh=>by cases h⟩⟩
    case round =>
     obtain⟨j,v,hgj,rfl,hv,HA⟩:=hrel
     by_cases hj:j<1
     . obtain rfl:j=0:=ae
       have hv0:=HA.o.2.1 rfl;subst hv0;subst hv;obtain⟨s1,hs1⟩:∃x,o.isSome=x:=⟨_,rfl⟩;obtain⟨s2,hs2⟩:∃x,p.isSome=x:=⟨_,rfl⟩;have SS:=(bA hs1 hs2);have S1:=(iN HA.o.1 (S0.o.2.below HA.o.1) (AA.o.1.below HA.o.1) (AA.o.2.1.below HA.o.1));clear hs1 hs2 HA;obtain⟨x0,x1,x2,x3,x4,x5⟩:=S1.o.2.1.facts;have HC:=hid (MC S1.o.r2.1 n e AA.o.r2.1 o AA.o.r4.1 s1 SS.o.1);go_wp2_with fail;clear x0 x1 x2 x3 x4 x5;refine HC.o.mono ?_;rintro r u1 ⟨⟨q,rfl,hN⟩,hb⟩;obtain⟨q1,d1,rfl,-⟩:=hN.shape;obtain⟨U1,aX⟩:=ah (u1.alloc (.cells #[.bool (dN o),.slice q1 (ws (dX o)).length d1,.int .i64 (dE o)] 79))
       have S2:Aside (An w U1/\Rq U1 g n (.slice a la ca) e m (.slice b lb cb) f/\Al U1 (.slice b lb cb) Y/\Dk U1 u1.heap.size (dN o) (.slice q1 (ws (dX o)).length d1) (dE o)/\Nt w.heap.size U1 (.slice q1 (ws (dX o)).length d1) (dX o)):=by
        have b0:=S1.o.1;have b1:=b0.trans (hb.mono b0.size);have hA:An u1 U1:=by rw[aX];exact af _ _
        exact ak ⟨b1.trans (hA.mono b1.size),(S1.o.2.1.below hb).below hA,(S1.o.r3.below hb).below hA,by rw[aX];exact Dk.new _ _ _ _,(hN.mono b0.size).below hA⟩
       clear HC hb hN S1;obtain⟨x0,x1,x2,x3,x4,x5⟩:=S2.o.2.1.facts;have HC:=hid (MC S2.o.r2.1 m f AA.o.r3.1 p AA.o.r5.1 s2 SS.o.2)
       go_upto_region 11 with fail
       rw[<-aX];clear aX;go_wp2_with fail;clear x0 x1 x2 x3 x4 x5;refine HC.o.mono ?_;rintro r u2 ⟨⟨q,rfl,hN⟩,hb⟩;obtain⟨q2,d2,rfl,-⟩:=hN.shape;obtain⟨U2,dK⟩:=ah (u2.alloc (.cells #[.bool (dN p),.slice q2 (ws (dX p)).length d2,.int .i64 (dE p)] 79))
       have S3:Aside (An w U2/\Dk U2 u1.heap.size (dN o) (.slice q1 (ws (dX o)).length d1) (dE o)/\Nt w.heap.size U2 (.slice q1 (ws (dX o)).length d1) (dX o)/\Dk U2 u2.heap.size (dN p) (.slice q2 (ws (dX p)).length d2) (dE p)/\Nt w.heap.size U2 (.slice q2 (ws (dX p)).length d2) (dX p)):=by
        have b0:=S2.o.1;have b1:=b0.trans (hb.mono b0.size);have hA:An u2 U2:=by rw[dK];exact af _ _
        exact ak ⟨b1.trans (hA.mono b1.size),(S2.o.r3.1.below hb).below hA,(S2.o.r4.below hb).below hA,by rw[dK];exact Dk.new _ _ _ _,(hN.mono b0.size).below hA⟩
       clear HC hb hN S2
       by_cases hbad:s1=true/\s2=true
       . obtain⟨rfl,rfl⟩:=hbad;obtain⟨x0,x1,x2,x3,x4,x5⟩:=S3.o.2.1.facts;obtain⟨y0,y1,y2,y3,y4,y5⟩:=S3.o.r3.1.facts;obtain⟨v',w',r1,r2,r3⟩:=U7 U2 (dN o) q1 (ws (dX o)).length d1 (dE o) (dN p) q2 (ws (dX p)).length d2 (dE p);have HR:=ak r1;have HN:=(iN r2 (S3.o.1.trans (r3.mono S3.o.1.size)) (S3.o.r2.1.below r3) (S3.o.r4.below r3));clear r1 r2 r3
         go_upto_region 14 with fail
         rw[<-dK];clear dK
         go_wp2_with (at_builtin;refine gY rfl (.tmp 55) (.tmp 59) 166 rfl _ _ rfl rfl _ _ HR.o ?_)
         go_roundg 0
         case measure=>omega
         case rel=>exact⟨1,_,ae,by first | rfl | simp,rfl,ak ⟨HN.o.2.1,(λh=>by cases h),λ_=>⟨SS.o.1,SS.o.2,_,_,HN.o.1,HN.o.r2.1,HN.o.r3⟩⟩⟩
       . have HE:Aside (er=2):=ak (by
          rw[<-AA.o.r6];unfold oI;rw[if_neg (by have:=HS.o;omega),AA.o.r4.1,AA.o.r5.1,SS.o.1,SS.o.2]
          rw[if_neg (by intro h;rw[yh] at h;exact hbad h)])
         have H5:=ak S3.o.1;clear S3
         cases s1
         . exact jt
         . cases s2
           . exact jt
           . exact absurd ⟨rfl,rfl⟩ hbad
     . obtain rfl:j=1:=ae
       obtain⟨i1,i2,x,y,hR,hx,hy⟩:=HA.o.r2 rfl;obtain⟨gg,cap,rfl,hcap,hgg,c0,c1,c2,c3,c4,c5⟩:=hR.ex;subst hv;obtain⟨q1,d1,rfl,-⟩:=hx.shape;obtain⟨q2,d2,rfl,-⟩:=hy.shape;have HX:=(kz HA.o.1 hR hx hy i1 i2);clear HA hR hx hy hgg i1 i2;go_wp2
       go_loopg [11] 1 (λgk i wq=>∃(k:Nat),gk+k=1/\i=.int .i64 (k:Nat)/\wq=wr/\Aside (k=1->dX p≠0))
       case atStart=>exact⟨0,ae,aN,rfl,ak λh=>by cases h⟩
       case round =>
        obtain⟨i,hgi,rfl,rfl,HP⟩:=hrel
        by_cases hi:i<1
        . obtain rfl:i=0:=ae
          by_cases h0:dX p=0
          . have r1:((((ws (dX p)).length:Nat):Int)==0)=true:=by rw[h0,ws0];rfl
            have r2:((ws (dX p)).length==0)=true:=by rw[h0,ws0];rfl
            have HE:Aside (er=21):=ak (by
             rw[<-AA.o.r6];unfold oI
             rw[if_neg (by have:=HS.o;omega),AA.o.r4.1,AA.o.r5.1,HX.o.r4.1,HX.o.r5,if_pos aM,if_pos h0])
            clear h0;go_wp2;exact aH (v:=.tuple #[.slice none 0 0,.int .i64 21]) (by simp[results,Tryz.results170,go_sem]) rfl ⟨⟨_,by rw[HE.o],λh=>by rw[HE.o] at h;cases h⟩,HX.o.1⟩
          . have r1:((((ws (dX p)).length:Nat):Int)==0)=false:=dD h0;have r2:((ws (dX p)).length==0)=false:=beq_eq_false_iff_ne.2 (λh=>h0 ((bT _).1 h));have H0:=ak h0;clear h0;go_wp2_with fail;go_roundg 0
            case measure=>omega
            case rel=>exact⟨1,ae,by first | rfl | simp,rfl,ak λ_=>H0.o⟩
        . obtain rfl:i=1:=ae
          have HE:Aside (er=0):=ak (by
           rw[<-AA.o.r6];unfold oI
           rw[if_neg (by have:=HS.o;omega),AA.o.r4.1,AA.o.r5.1,HX.o.r4.1,HX.o.r5,if_pos aM,if_neg (HP.o rfl)])
          go_wp2;exact aH (v:=.tuple #[.slice (some ⟨gg,0,none⟩) 1 cap,.int .i64 0]) (by simp[results,Tryz.results170,go_sem]) rfl ⟨⟨_,by rw[HE.o],λ_=>⟨_,_,HX.o.2.1,HX.o.r2.1,HX.o.r3.1⟩⟩,HX.o.1⟩
theorem Ep{w:World}{n m:Bool}{a b:Option Addr}{la ca lb cb X Y:Nat}{e f:Int}(dg ls:Int)(En:Nat)(sq:Bool)(mode:Int)(hm:mode<0\/4<mode) :
 At 120 #[.agg #[.int .i64 dg,.int .i64 ls,.int .u64 (En:Nat)],.agg #[.bool n,.slice a la ca,.int .i64 e,.bool m,.slice b lb cb,.int .i64 f],.bool sq,.int .i64 mode] w (.tuple #[.int .u64 0,.bool false,.int .i64 1]):=by
 obtain⟨W1,hW1⟩:=ah ((w.alloc (.cells #[.int .i64 dg,.int .i64 ls,.int .u64 (En:Nat)] 137)).alloc (.cells #[.bool n,.slice a la ca,.int .i64 e,.bool m,.slice b lb cb,.int .i64 f] 93));obtain⟨hB,Z,QR⟩:=nN w dg ls En n _ e m _ f W1 hW1;have S9:=ak hB;clear hB Z QR;have hd:(mode<0)\/(¬ mode<0/\4<mode):=ae
 clear hm;go_enter Tryz.func120,Tryz.ntmps120
 go_upto_region 1 with fail
 rw[<-hW1];clear hW1;rcases hd with hd|⟨hd,hd2⟩
 . have d1:=decide_eq_true hd;clear hd;go_wp2;exact aH (v:=.tuple #[.int .u64 0,.bool false,.int .i64 1]) (by simp[results,Tryz.results120,go_sem]) rfl ⟨rfl,S9.o⟩
 . have d1:=decide_eq_false hd;have d2:=decide_eq_true hd2;clear hd hd2;go_wp2;exact aH (v:=.tuple #[.int .u64 0,.bool false,.int .i64 1]) (by simp[results,Tryz.results120,go_sem]) rfl ⟨rfl,S9.o⟩
theorem Ig {w:World}{n m:Bool}{a b:Option Addr}{la ca lb cb X Y:Nat}{e f:Int}(dg ls:Int) (En:Nat) (sq:Bool) (mode:Int) (hm0:0<=mode) (qM:mode<=4) (hN:Al w (.slice a la ca) X) (hD:Al w (.slice b lb cb) Y) (be:-9223372036854775808<=e/\e<=9223372036854775807) (bf:-9223372036854775808<=f/\f<=9223372036854775807)
 (o p:Option (Bool×Nat×Int)) (ho:mkS n X e=o) (hp:mkS m Y f=p) (er:Int) (her:oI X n e Y m f=er) (hne:er≠0) :
 At 120 #[.agg #[.int .i64 dg,.int .i64 ls,.int .u64 (En:Nat)],.agg #[.bool n,.slice a la ca,.int .i64 e,.bool m,.slice b lb cb,.int .i64 f],.bool sq,.int .i64 mode] w (.tuple #[.int .u64 0,.bool false,.int .i64 er]):=by
 obtain⟨W1,hW1⟩:=ah ((w.alloc (.cells #[.int .i64 dg,.int .i64 ls,.int .u64 (En:Nat)] 137)).alloc (.cells #[.bool n,.slice a la ca,.int .i64 e,.bool m,.slice b lb cb,.int .i64 f] 93));obtain⟨hB,Z,QR⟩:=nN w dg ls En n _ e m _ f W1 hW1;obtain⟨L1,hL1⟩:=ah (W1.alloc (.cells #[.bool n,.slice a la ca,.int .i64 e,.bool m,.slice b lb cb,.int .i64 f] 93));have hB2:An W1 L1:=by rw[hL1];exact af _ _
 have aF:=hB.trans (hB2.mono hB.size);have LQ:Rq L1 W1.heap.size n (.slice a la ca) e m (.slice b lb cb) f:=by rw[hL1];exact Rq.new _ _ _ _ _ _ _
 have HC:=hid (may1 LQ (hN.below aF) (hD.below aF) be bf o p ho hp er her);have LL:Aside ((ws (dX o)).length<=8192/\(ws (dX p)).length<=8192):=ak ⟨by rw[<-ho];exact aR _ _ _,by rw[<-hp];exact aR _ _ _⟩;obtain⟨x0,x1,x2,x3,x4,x5⟩:=QR.facts;have S0:=(bA aF (Z.below hB2));have d1:decide (mode<0)=false:=decide_eq_false ae;have d2:decide (4<mode)=false:=decide_eq_false ae;clear hB hB2 aF LQ Z QR hN hD be bf ho hp her hm0 qM;go_enter Tryz.func120,Tryz.ntmps120
 go_upto_region 1 with fail
 rw[<-hW1];clear hW1;go_wp2_with fail;rw[<-hL1];clear hL1 x0 x1 x2 x3 x4 x5;refine HC.o.mono ?_;rintro r u1 ⟨⟨v,rfl,hR⟩,hb⟩;have S9:=ak (S0.o.1.trans (hb.mono S0.o.1.size));have hne':(er != 0)=true:=by simpa using hne
 have hne2:(er==0)=false:=by simpa using hne
 clear hb hR HC S0 LL;go_wp2;exact aH (v:=.tuple #[.int .u64 0,.bool false,.int .i64 er]) (by simp[results,Tryz.results120,go_sem]) rfl ⟨rfl,S9.o⟩
theorem JT{P:Prop}(h:P:=by
 go_upto_region 8 with fail
 go_region_held3 (λw'=>w'.cell? ⟨gg,0,none⟩=some (.bool false)/\w'.cell? ⟨gg,1,none⟩=some (.slice q1 (ws (dX o)).length e1)/\w'.cell? ⟨gg,2,none⟩=some (.int .i64 (dE o))/\w'.cell? ⟨gg,3,none⟩=some (.bool (dN p))/\w'.cell? ⟨gg,4,none⟩=some (.slice q2 (ws (dX p)).length e2)/\w'.cell? ⟨gg,5,none⟩=some (.int .i64 (dE p))/\w'.cell? ⟨w.heap.size,0,none⟩=some (.int .i64 dg)/\w'.cell? ⟨w.heap.size,1,none⟩=some (.int .i64 ls)/\w'.cell? ⟨w.heap.size,2,none⟩=some (.int .u64 (En:Nat))) (go_keep) (first
  | (go_at_call 171
     first | with_reducible refine T1.o.mono ?_ | with_reducible refine T2.o.mono ?_
     rintro r v1 ⟨rfl,hb⟩;have hw:An u1 v1:=by first | exact hb | exact((aD _ u1).drew).trans (hb.mono (aA _))
     have hcg:∀i,v1.cell? ⟨gg,i,none⟩=u1.cell? ⟨gg,i,none⟩:=λi=>hw.cell (p:=⟨gg,i,none⟩) S1.o.r5;have k0:v1.cell? ⟨gg,0,none⟩=some (.bool false):=by rw[hcg,CC.o.1,NG.o]
     have k1:=(hcg 1).trans CC.o.2.1;have k2:=(hcg 2).trans CC.o.r2.1;have k3:=(hcg 3).trans CC.o.r3.1;have k4:=(hcg 4).trans CC.o.r4.1;have k5:=(hcg 5).trans CC.o.r5.1;obtain⟨j0,j1,j2⟩:=(S1.o.2.1.below hw).facts;have S9:=ak (S1.o.1.trans (hw.mono S1.o.1.size))
     clear hb hw hcg)
  | fail)
 all_goals (
  go_wp2
  exact aH (v:=.tuple #[.int .u64 (K:Nat),.bool false,.int .i64 0]) (by simp[results,Tryz.results120,go_sem]) rfl ⟨by rw[NG.o],S9.o⟩)):P:=h
theorem KA {w:World}{n m:Bool}{a b:Option Addr}{la ca lb cb X Y:Nat}{e f:Int}(dg ls:Int) (En:Nat) (sq:Bool) (mode:Int) (hm0:0<=mode) (qM:mode<=4) (hN:Al w (.slice a la ca) X) (hD:Al w (.slice b lb cb) Y) (be:-9223372036854775808<=e/\e<=9223372036854775807) (bf:-9223372036854775808<=f/\f<=9223372036854775807)
 (o p:Option (Bool×Nat×Int)) (ho:mkS n X e=o) (hp:mkS m Y f=p) (er:Int) (her:oI X n e Y m f=er) (h0:er=0) (Zp:sq=false\/dN o=false) (K:Nat)
 (HNb:Hid (∀(u:World) (x y:Option Addr) (lx cx ly cy:Nat),An w u->Al u (.slice x lx cx) (dX o)->Al u (.slice y ly cy) (dX p)->At 171 #[.agg #[.int .i64 dg,.int .i64 ls,.int .u64 (En:Nat)],.agg #[.bool (dN o),.slice x lx cx,.int .i64 (dE o),.bool (dN p),.slice y ly cy,.int .i64 (dE p)],.bool sq,.int .i64 mode] u (.int .u64 (K:Nat)))) :
 At 120 #[.agg #[.int .i64 dg,.int .i64 ls,.int .u64 (En:Nat)],.agg #[.bool n,.slice a la ca,.int .i64 e,.bool m,.slice b lb cb,.int .i64 f],.bool sq,.int .i64 mode] w (.tuple #[.int .u64 (K:Nat),.bool (dN o),.int .i64 0]):=by
 obtain⟨W1,hW1⟩:=ah ((w.alloc (.cells #[.int .i64 dg,.int .i64 ls,.int .u64 (En:Nat)] 137)).alloc (.cells #[.bool n,.slice a la ca,.int .i64 e,.bool m,.slice b lb cb,.int .i64 f] 93));obtain⟨hB,Z,QR⟩:=nN w dg ls En n _ e m _ f W1 hW1;obtain⟨L1,hL1⟩:=ah (W1.alloc (.cells #[.bool n,.slice a la ca,.int .i64 e,.bool m,.slice b lb cb,.int .i64 f] 93));have hB2:An W1 L1:=by rw[hL1];exact af _ _
 have aF:=hB.trans (hB2.mono hB.size);have LQ:Rq L1 W1.heap.size n (.slice a la ca) e m (.slice b lb cb) f:=by rw[hL1];exact Rq.new _ _ _ _ _ _ _
 have HC:=hid (may1 LQ (hN.below aF) (hD.below aF) be bf o p ho hp er her);have LL:Aside ((ws (dX o)).length<=8192/\(ws (dX p)).length<=8192):=ak ⟨by rw[<-ho];exact aR _ _ _,by rw[<-hp];exact aR _ _ _⟩;obtain⟨x0,x1,x2,x3,x4,x5⟩:=QR.facts;have S0:=(bA aF (Z.below hB2));have d1:decide (mode<0)=false:=decide_eq_false ae;have d2:decide (4<mode)=false:=decide_eq_false ae;clear hB hB2 aF LQ Z QR hN hD be bf ho hp her hm0 qM;go_enter Tryz.func120,Tryz.ntmps120
 go_upto_region 1 with fail
 rw[<-hW1];clear hW1;go_wp2_with fail;rw[<-hL1];clear hL1 x0 x1 x2 x3 x4 x5;refine HC.o.mono ?_;rintro r u1 ⟨⟨v,rfl,hR⟩,hb⟩;obtain⟨x,y,EZ,hx,hy⟩:=hR h0;subst h0;obtain⟨gg,cap,rfl,hcap,hgg,c0,c1,c2,c3,c4,c5⟩:=EZ.ex;obtain⟨q1,e1,rfl,-⟩:=hx.shape;obtain⟨q2,e2,rfl,-⟩:=hy.shape;have S1:=(kz (S0.o.1.trans (hb.mono S0.o.1.size)) (S0.o.2.below hb) (hx.al' (dB LL.o.1 aM)) (hy.al' (dB LL.o.2 aM)) EZ hgg);clear hb hR HC S0 LL hx hy EZ hgg;obtain⟨ng,Iy⟩:∃z,dN o=z:=⟨_,rfl⟩;obtain⟨z0,z1,z2⟩:=S1.o.2.1.facts;have T1:=hid (HNb.o u1 q1 q2 _ e1 _ e2 S1.o.1 S1.o.r2.1 S1.o.r3.1);have dr:An u1 u1.drew:=(aD _ _).drew;have T2:=hid (HNb.o u1.drew q1 q2 _ e1 _ e2 S1.o.1.drew (S1.o.r2.1.below dr) (S1.o.r3.1.below dr));have CC:=(QC c0 c1 c2 c3 c4 c5 z0 z1 z2);rw[Iy] at c0 T1 T2 Zp;have NG:=ak Iy;clear dr HNb Iy;rcases Zp with rfl|rfl
 . go_upto_region 8 with fail
   go_region_held3 (λw'=>w'.cell? ⟨gg,0,none⟩=some (.bool ng)/\w'.cell? ⟨gg,1,none⟩=some (.slice q1 (ws (dX o)).length e1)/\w'.cell? ⟨gg,2,none⟩=some (.int .i64 (dE o))/\w'.cell? ⟨gg,3,none⟩=some (.bool (dN p))/\w'.cell? ⟨gg,4,none⟩=some (.slice q2 (ws (dX p)).length e2)/\w'.cell? ⟨gg,5,none⟩=some (.int .i64 (dE p))/\w'.cell? ⟨w.heap.size,0,none⟩=some (.int .i64 dg)/\w'.cell? ⟨w.heap.size,1,none⟩=some (.int .i64 ls)/\w'.cell? ⟨w.heap.size,2,none⟩=some (.int .u64 (En:Nat))) (go_keep) (first
    | (go_at_call 171
       first | with_reducible refine T1.o.mono ?_ | with_reducible refine T2.o.mono ?_
       rintro r v1 ⟨rfl,hb⟩;have hw:An u1 v1:=by first | exact hb | exact((aD _ u1).drew).trans (hb.mono (aA _))
       have hcg:∀i,v1.cell? ⟨gg,i,none⟩=u1.cell? ⟨gg,i,none⟩:=λi=>hw.cell (p:=⟨gg,i,none⟩) S1.o.r5;have k0:v1.cell? ⟨gg,0,none⟩=some (.bool ng):=by rw[hcg,CC.o.1,NG.o]
       have k1:=(hcg 1).trans CC.o.2.1;have k2:=(hcg 2).trans CC.o.r2.1;have k3:=(hcg 3).trans CC.o.r3.1;have k4:=(hcg 4).trans CC.o.r4.1;have k5:=(hcg 5).trans CC.o.r5.1;obtain⟨j0,j1,j2⟩:=(S1.o.2.1.below hw).facts;have S9:=ak (S1.o.1.trans (hw.mono S1.o.1.size))
       clear hb hw hcg)
    | fail)
   all_goals (
    go_wp2
    exact aH (v:=.tuple #[.int .u64 (K:Nat),.bool ng,.int .i64 0]) (by simp[results,Tryz.results120,go_sem]) rfl ⟨by rw[NG.o],S9.o⟩)
 . cases sq
   . exact JT
   . exact JT
end
end Go.Proofs.YtjppdacikihpdaaGreatDoor
