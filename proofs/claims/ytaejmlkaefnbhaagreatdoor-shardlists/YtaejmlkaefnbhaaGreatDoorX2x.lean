import Derived.Test.YtaejmlkaefnbhaaGreatDoorS11ax
import Derived.Test.YtaejmlkaefnbhaaGreatDoorD30x
import Derived.Test.YtaejmlkaefnbhaaGreatDoorD21x
import Derived.Test.YtaejmlkaefnbhaaGreatDoorM1x
import Derived.Test.YtaejmlkaefnbhaaGreatDoorW24x
import Derived.Laws.IdiomStrings
import Derived.Test.YtaejmlkaefnbhaaGreatDoorBIeeex
import Derived.Test.YtaejmlkaefnbhaaGreatDoorBW6x
import Derived.BigQuiet
import Derived.Deep.Cut
import Derived.Deep.RegionHeld3
set_option linter.unusedVariables false
set_option linter.unusedSimpArgs false
set_option maxHeartbeats 16000000
set_option maxRecDepth 20000
namespace Go.Proofs.YtaejmlkaefnbhaaGreatDoor
namespace J
end J
section
open Go.RowKit J
theorem uq{x:Nat}(hx:x<18446744073709551616)(fx:iY x):RD x=fM x/\vK (aP x)=wm x*2^(FN x+1074).toNat/\-1074<=FN x/\((lJ x=0/\wm x=0)\/((lJ x=1\/lJ x=2)/\wm x≠0)):=by
 have hm:aP x=eW x*4503599627370496+fW x:=by unfold aP eW fW;omega
 have he:eW x<2047:=by have h:aP x<9218868437227405312:=fx;omega
 have hf:fW x<4503599627370496:=iB _ aA;refine⟨by unfold RD B.ng;rw[if_neg af];rfl,?_⟩
 by_cases h0:eW x=0
 · have hfr:wm x=fW x:=by unfold wm B.fr;rw[if_neg af,if_pos h0];simp
   have hxp:FN x=-1074:=by unfold FN B.xp;rw[if_neg af,if_pos h0]
   have hv:vK (aP x)=fW x:=by
    have:=jS 0 (fW x) (.inl rfl) af;rw[hm,h0];simpa using this
   refine⟨by rw[hv,hfr,hxp];simp,af,?_⟩
   by_cases hz:fW x=0
   · exact .inl ⟨by unfold lJ B.cls;rw[if_neg af,if_pos h0,if_pos hz],af⟩
   · exact .inr ⟨.inl (by unfold lJ B.cls;rw[if_neg af,if_pos h0,if_neg hz]),af⟩
 · have hfr:wm x=fW x+4503599627370496:=by unfold wm B.fr;rw[if_neg af,if_neg h0];omega
   have hxp:FN x=(eW x:Int)-1075:=by unfold FN B.xp;rw[if_neg af,if_neg h0]
   have hv:vK (aP x)=(fW x+4503599627370496)*2^(eW x-1):=by
    have:=jS (eW x-1) (fW x+4503599627370496) (.inr af) af;rw[<-this,hm,show eW x*4503599627370496+fW x=(eW x-1)*4503599627370496+(fW x+4503599627370496) by omega]
   refine⟨by rw[hv,hfr,hxp,show((eW x:Int)-1075+1074).toNat=eW x-1 by omega],af,.inr ⟨.inr (by unfold lJ B.cls;rw[if_neg af,if_neg h0]),af⟩⟩
theorem Wy(a b:Bool)(f g i j:Nat):kY (!(a==b)) (f*g*2^(i+j))=B.sg a (f*2^i)*B.sg b (g*2^j):=by
 have e:f*g*2^(i+j)=(f*2^i)*(g*2^j):=by
  rw[aW,Nat.mul_mul_mul_comm]
 rw[e];generalize f*2^i=P;generalize g*2^j=Q;unfold kY B.sg
 cases a <;> cases b <;> simp[Int.neg_mul,Int.mul_neg]
theorem ZV{x y:Nat}(hx:x<18446744073709551616)(hy:y<18446744073709551616)(fx:iY x)(fy:iY y):pT x y=qW x*qW y/\(pK x y=0\/pK x y=4\/pK x y=5):=by
 obtain⟨n1,v1,x1,c1⟩:=uq hx fx;obtain⟨n2,v2,x2,c2⟩:=uq hy fy;unfold pT pK qW;rw[n1,n2,v1,v2]
 by_cases hz:lJ x=0\/lJ y=0
 · have hmin:min (lJ x) (lJ y)=0:=af
   have hmax:max (lJ x) (lJ y)<=2:=af
   have hpk:pk (max (lJ x) (lJ y)) (min (lJ x) (lJ y)) (!fM x==fM y)=4\/pk (max (lJ x) (lJ y)) (min (lJ x) (lJ y)) (!fM x==fM y)=5:=by
    unfold pk;rw[hmin,if_neg af,if_neg af,if_pos rfl]
    split
    · exact .inl rfl
    · exact .inr rfl
   refine⟨?_,.inr hpk⟩;rw[oN af];rcases c1 with ⟨_,f1⟩|⟨k1,_⟩
   · rw[f1];simp[B.sg]
   · rcases c2 with ⟨_,f2⟩ | ⟨k2,_⟩
     · rw[f2];simp[B.sg]
     · omega
 · have hpk:pk (max (lJ x) (lJ y)) (min (lJ x) (lJ y)) (!fM x==fM y)=0:=by
    unfold pk;rw[if_neg af,if_neg af,if_neg af]
   refine⟨?_,.inl hpk⟩;rw[LM hpk,show(FN x+FN y+2148).toNat=(FN x+1074).toNat+(FN y+1074).toNat by omega];have e:(!fM x==fM y)=!(fM x==fM y):=by cases fM x <;> cases fM y <;> rfl
   rw[e];exact Wy _ _ _ _ _ _
theorem Te{x:Nat}(h:9218868437227405312<aP x):lJ x=4:=by
 have hm:aP x=eW x*4503599627370496+fW x:=by unfold aP eW fW;omega
 have hf:fW x<4503599627370496:=iB _ aA;have he:eW x<2048:=by have:aP x<9223372036854775808:=iB _ aA;omega
 unfold lJ B.cls;rw[if_pos af,if_neg af]
theorem Tf{x:Nat}(h:aP x=9218868437227405312):lJ x=3/\RD x=fM x:=by
 have hm:aP x=eW x*4503599627370496+fW x:=by unfold aP eW fW;omega
 have hf:fW x<4503599627370496:=iB _ aA;unfold lJ B.cls RD B.ng;rw[if_pos af,if_pos af,if_neg af];exact KK
theorem Gm(x:Nat):0<=lJ x/\lJ x<=4:=by unfold lJ B.cls;(repeat' split) <;> omega
theorem ZW{x y:Nat}(h:¬ (iY x/\iY y)):pT x y=0/\(pK x y=1\/pK x y=2\/pK x y=3):=by
 have h3:3<=max (lJ x) (lJ y):=by
  have aux:∀ z:Nat,¬ iY z->3<=lJ z:=fun z hz=>by
   rcases iJ 9218868437227405312 (aP z) with q|q
   · rw[Te q];omega
   · have:aP z=9218868437227405312:=by
      have:¬ aP z<9218868437227405312:=hz;omega
     rw[(Tf this).1];omega
  by_cases hx:iY x
  · have:=aux y (fun hy=>h ⟨hx,hy⟩);omega
  · have:=aux x hx;omega
 have h4:=Gm x;have h5:=Gm y
 have hpk:pK x y=1\/pK x y=2\/pK x y=3:=by
  unfold pK pk
  split
  · exact .inl rfl
  · rw[if_pos af]
    split
    · exact .inr (.inr rfl)
    · exact .inr (.inl rfl)
 refine⟨?_,hpk⟩;unfold pT
 exact oN (by have:pK x y≠0:=af;exact this)
end
section
open Go.RowKit
theorem Wz(g:Nat)(V:Int)(s:Sp)(mode a b:Int)(w:World)(hA:kG w g V s)(hs:s.ok)(hm0:0<=mode)(hm1:mode<=4)(hab:may a b=true)(ha:¬ (0<s.n/\a=2))(hb:¬ (0<s.u+s.d/\b=2)) :
 Calls Tryz.prog 122 #[.pointer (some ⟨g,0,none⟩),.int .i64 mode,.agg #[.int .i64 a,.int .i64 b]] w fun r w'=>r=.returned (.tuple #[.float .f64 (RU V s mode a b).1,.bool (RU V s mode a b).2.1,.int .i64 (RU V s mode a b).2.2])/\Below w.heap.size w w':=by
 obtain⟨⟨X,tl,er⟩,hX⟩:∃ X,X=RU V s mode a b:=⟨_,rfl⟩;rw[<-hX];simp only;obtain⟨L,a1,a2,a3,a4,a5,a6⟩:=hA;have hz:=qN L V a1 a2 a3 a4 a5;obtain⟨n,u,d,m,p,l⟩:=s;have HM:=hid (fun u:World=>jR a b u);rw[hab] at HM;have HV:=hid (fun w:World=>lT n u d m p l a b w);have HN:=hid (fun w:World=>nu n u d m p l mode w);obtain⟨⟨vx,vt⟩,hvd⟩:∃ v,v=vd (snd n u d m p l&&may a b) n u d a b:=⟨_,rfl⟩;obtain⟨nx,hnt⟩:=ah (nt (snd n u d m p l) n u d m p l mode);rw[<-hvd] at HV;rw[<-hnt] at HN;simp only at HV;simp only[RU] at hX;rw[<-hvd,<-hnt] at hX;simp only at hX;have HX:=au hX;have HA:=bM a1 a6 hz;have hlt:=a6.lt;have hne:g≠w.heap.size:=kz hlt;have hne1:g≠w.heap.size+1:=af
 have c0:=a6.cell a1 0 _ rfl;have c1:=a6.cell a1 1 _ rfl;have c2:=a6.cell a1 2 _ rfl;have c3:=a6.cell a1 3 _ rfl;have c4:=a6.cell a1 4 _ rfl;have c5:=a6.cell a1 5 _ rfl;obtain⟨h0,h1,h2,h3,h4,h5⟩:=hs;have ha1:¬ (0<n/\a=2):=ha;have hb1:¬ (0<u+d/\b=2):=hb;have b0:decide (mode<0)=false:=by simp;omega
 have b1:decide (4<mode)=false:=by simp;omega
 clear a1 a2 a3 a4 a5 a6 hX hvd hnt hab ha hb hz;go_enter Tryz.func122,Tryz.ntmps122;go_wp2_with fail;refine(HM.o _).mono ?_;rintro r w1 ⟨rfl,hb1⟩;have hz1:w.heap.size+1<w1.heap.size:=by have:=hb1.size;simp at this;omega
 have B1:=au hb1
 have P1:Aside (Bl w1 w.heap.size 34 [.int .i64 a,.int .i64 b]/\Bl w1 (w.heap.size+1) 73 [.int .i64 n,.int .i64 u,.int .i64 d,.int .i64 m,.int .i64 p,.int .i64 l]/\Below w.heap.size w w1/\Ac w1 g L ⟨n,u,d,m,p,l⟩):=by
  have e0:=(ak w (Obj.cells #[.int .i64 a,.int .i64 b] 34)).trans ((ak (w.alloc (Obj.cells #[.int .i64 a,.int .i64 b] 34)) (Obj.cells #[.int .i64 n,.int .i64 u,.int .i64 d,.int .i64 m,.int .i64 p,.int .i64 l] 73)).mono aL);have e1:=e0.trans (hb1.mono e0.size);exact⟨(((Bl.new w 34 [_,_]).alloc _).below hb1 (by simp;omega)),((Bl.new' (w.alloc _) 73 _ [_,_,_,_,_,_] aL).below hb1 aL),e1,HA.o.2.1.below e1 HA.o.2.1.lt⟩
 clear hb1 c0 c1 c2 c3 c4 c5;have q0:=P1.o.1.cell 0 _ rfl;have q1:=P1.o.1.cell 1 _ rfl;have s0:=P1.o.2.1.cell 0 _ rfl;have s1:=P1.o.2.1.cell 1 _ rfl;have s2:=P1.o.2.1.cell 2 _ rfl;have s3:=P1.o.2.1.cell 3 _ rfl;have s4:=P1.o.2.1.cell 4 _ rfl;have s5:=P1.o.2.1.cell 5 _ rfl
 have hca:(0<n/\(a==2)=false)\/n<=0:=by
  by_cases h:0<n
  · exact .inl ⟨h,by simp;intro e;exact ha1 ⟨h,e⟩⟩
  · exact .inr af
 have hcb:(0<u+d/\(b==2)=false)\/u+d<=0:=by
  by_cases h:0<u+d
  · exact .inl ⟨h,by simp;intro e;exact hb1 ⟨h,e⟩⟩
  · exact .inr af
 clear ha1 hb1;rcases hca with ⟨hn,ha'⟩|hn <;> rcases hcb with ⟨hu,hb'⟩|hu
 all_goals (
  go_wp2_with fail;refine(HV.o _).mono ?_;rintro r w2 ⟨rfl,hb2⟩
  have P2:Aside (Bl w2 (w.heap.size+1) 73 [.int .i64 n,.int .i64 u,.int .i64 d,.int .i64 m,.int .i64 p,.int .i64 l]/\Below w.heap.size w w2/\Ac w2 g L ⟨n,u,d,m,p,l⟩) :=
   ⟨P1.o.2.1.below hb2 P1.o.2.1.lt,P1.o.r2.1.trans (hb2.mono P1.o.r2.1.size),P1.o.r3.below hb2 P1.o.r3.lt⟩
  clear hb2 q0 q1 s0 s1 s2 s3 s4 s5 hn hu
  cases vt
  · have s0:=P2.o.1.cell 0 _ rfl;have s1:=P2.o.1.cell 1 _ rfl;have s2:=P2.o.1.cell 2 _ rfl;have s3:=P2.o.1.cell 3 _ rfl;have s4:=P2.o.1.cell 4 _ rfl;have s5:=P2.o.1.cell 5 _ rfl
    go_wp2_with (first | (with_reducible refine wpList_load_mid (P:=Tryz.prog) rfl 150 (.tmp 57) rfl g 0 rfl (L.map U) _ P2.o.r2.range Tryz.iW rfl (by simp[Tryz.iV,HA.o.1]) ?_))
    rw[Tryz.CO,Fu L _ w2 HA.o.1 aL,HA.o.r2];generalize (List.replicate 133 0).map U=zz
    by_cases hV:V=0
    · rw[decide_eq_true hV];simp only[Result.andThen_ok,Oper.upon];have Vd:=au (show(X,tl,er)=(nx,true,0) by rw[HX.o,if_neg aA,if_pos hV]);clear hV;go_wp2_with fail;refine(HN.o _).mono ?_;rintro r w3 ⟨rfl,hb3⟩;have B3:=au hb3;clear hb3;go_wp2;refine aJ (v:=.tuple #[.float .f64 nx,.bool true,.int .i64 0]) (by simp[results,Tryz.results122,go_sem]) rfl ?_;have e:=Vd.o
      cases e
      exact⟨rfl,P2.o.2.1.trans (B3.o.mono P2.o.2.1.size)⟩
    · rw[decide_eq_false hV];simp only[Result.andThen_ok,Oper.upon];have Vd:=au (show(X,tl,er)=(0,false,0) by rw[HX.o,if_neg aA,if_neg hV]);clear hV;go_wp2;refine aJ (v:=.tuple #[.float .f64 0,.bool false,.int .i64 0]) (by simp[results,Tryz.results122,go_sem]) rfl ?_;have e:=Vd.o
      cases e
      exact⟨rfl,P2.o.2.1⟩
  · go_wp2;refine aJ (v:=.tuple #[.float .f64 vx,.bool true,.int .i64 0]) (by simp[results,Tryz.results122,go_sem]) rfl ?_;have e:=HX.o;rw[if_pos trivial] at e
    cases e
    exact⟨rfl,P2.o.2.1⟩)
theorem yk{P:Prop}(h:P:=by
 have e0:=(ak w (Obj.cells #[.int .i64 a,.int .i64 b] 34)).trans ((ak (w.alloc (Obj.cells #[.int .i64 a,.int .i64 b] 34)) (Obj.cells #[.int .i64 n,.int .i64 u,.int .i64 d,.int .i64 m,.int .i64 p,.int .i64 l] 73)).mono aL);have e1:=e0.trans (hb1.mono e0.size);exact⟨(((Bl.new w 34 [_,_]).alloc _).below hb1 (by simp;omega)),((Bl.new' (w.alloc _) 73 _ [_,_,_,_,_,_] aL).below hb1 aL),e1⟩):P:=h
theorem Gn(g:Nat)(V:Int)(s:Sp)(mode a b:Int)(w:World)(hA:kG w g V s)(hs:s.ok)(hm0:0<=mode)(hm1:mode<=4)(hab:may a b=true)(hx:0<s.n/\a=2) :
 Calls Tryz.prog 122 #[.pointer (some ⟨g,0,none⟩),.int .i64 mode,.agg #[.int .i64 a,.int .i64 b]] w fun r w'=>r=.returned (.tuple #[.float .f64 0,.bool false,.int .i64 60])/\Below w.heap.size w w':=by
 obtain⟨L,a1,a2,a3,a4,a5,a6⟩:=hA;obtain⟨n,u,d,m,p,l⟩:=s;have HM:=hid (fun u:World=>jR a b u);rw[hab] at HM;have HA:=aT a1 a6;have hlt:=a6.lt;have hne:g≠w.heap.size:=kz hlt;have hne1:g≠w.heap.size+1:=af
 have c0:=a6.cell a1 0 _ rfl;have c1:=a6.cell a1 1 _ rfl;have c2:=a6.cell a1 2 _ rfl;have c3:=a6.cell a1 3 _ rfl;have c4:=a6.cell a1 4 _ rfl;have c5:=a6.cell a1 5 _ rfl;obtain⟨h0,h1,h2,h3,h4,h5⟩:=hs;have b0:decide (mode<0)=false:=by simp;omega
 have b1:decide (4<mode)=false:=by simp;omega
 have hn:0<n:=hx.1;have ha2:(a==2)=true:=by simpa using hx.2
 clear hx;clear a1 a2 a3 a4 a5 a6 hab;go_enter Tryz.func122,Tryz.ntmps122;go_wp2_with fail;refine(HM.o _).mono ?_;rintro r w1 ⟨rfl,hb1⟩
 have P1:Aside (Bl w1 w.heap.size 34 [.int .i64 a,.int .i64 b]/\Bl w1 (w.heap.size+1) 73 [.int .i64 n,.int .i64 u,.int .i64 d,.int .i64 m,.int .i64 p,.int .i64 l]/\Below w.heap.size w w1):=by
  exact yk
 clear hb1 c0 c1 c2 c3 c4 c5;have q0:=P1.o.1.cell 0 _ rfl;have q1:=P1.o.1.cell 1 _ rfl;have s0:=P1.o.2.1.cell 0 _ rfl;have s1:=P1.o.2.1.cell 1 _ rfl;have s2:=P1.o.2.1.cell 2 _ rfl;have s3:=P1.o.2.1.cell 3 _ rfl;have s4:=P1.o.2.1.cell 4 _ rfl;have s5:=P1.o.2.1.cell 5 _ rfl
 all_goals
  go_wp2;refine aJ (v:=.tuple #[.float .f64 0,.bool false,.int .i64 60]) (by simp[results,Tryz.results122,go_sem]) rfl ?_;exact⟨rfl,P1.o.r2⟩
theorem Gp(g:Nat)(V:Int)(s:Sp)(mode a b:Int)(w:World)(hA:kG w g V s)(hs:s.ok)(hm0:0<=mode)(hm1:mode<=4)(hab:may a b=true)(hn:¬ (0<s.n/\a=2))(hx:0<s.u+s.d/\b=2) :
 Calls Tryz.prog 122 #[.pointer (some ⟨g,0,none⟩),.int .i64 mode,.agg #[.int .i64 a,.int .i64 b]] w fun r w'=>r=.returned (.tuple #[.float .f64 0,.bool false,.int .i64 61])/\Below w.heap.size w w':=by
 obtain⟨L,a1,a2,a3,a4,a5,a6⟩:=hA;obtain⟨n,u,d,m,p,l⟩:=s;have HM:=hid (fun u:World=>jR a b u);rw[hab] at HM;have HA:=aT a1 a6;have hlt:=a6.lt;have hne:g≠w.heap.size:=kz hlt;have hne1:g≠w.heap.size+1:=af
 have c0:=a6.cell a1 0 _ rfl;have c1:=a6.cell a1 1 _ rfl;have c2:=a6.cell a1 2 _ rfl;have c3:=a6.cell a1 3 _ rfl;have c4:=a6.cell a1 4 _ rfl;have c5:=a6.cell a1 5 _ rfl;obtain⟨h0,h1,h2,h3,h4,h5⟩:=hs;have b0:decide (mode<0)=false:=by simp;omega
 have b1:decide (4<mode)=false:=by simp;omega
 have hu:0<u+d:=hx.1;have hb2:(b==2)=true:=by simpa using hx.2
 have hca:(0<n/\(a==2)=false)\/n<=0:=by
  by_cases h:0<n
  · exact .inl ⟨h,by simp;intro e;exact hn ⟨h,e⟩⟩
  · exact .inr af
 clear hx hn;clear a1 a2 a3 a4 a5 a6 hab;go_enter Tryz.func122,Tryz.ntmps122;go_wp2_with fail;refine(HM.o _).mono ?_;rintro r w1 ⟨rfl,hb1⟩
 have P1:Aside (Bl w1 w.heap.size 34 [.int .i64 a,.int .i64 b]/\Bl w1 (w.heap.size+1) 73 [.int .i64 n,.int .i64 u,.int .i64 d,.int .i64 m,.int .i64 p,.int .i64 l]/\Below w.heap.size w w1):=by
  exact yk
 clear hb1 c0 c1 c2 c3 c4 c5;have q0:=P1.o.1.cell 0 _ rfl;have q1:=P1.o.1.cell 1 _ rfl;have s0:=P1.o.2.1.cell 0 _ rfl;have s1:=P1.o.2.1.cell 1 _ rfl;have s2:=P1.o.2.1.cell 2 _ rfl;have s3:=P1.o.2.1.cell 3 _ rfl;have s4:=P1.o.2.1.cell 4 _ rfl;have s5:=P1.o.2.1.cell 5 _ rfl;rcases hca with ⟨hn,ha2⟩|hn
 all_goals
  go_wp2;refine aJ (v:=.tuple #[.float .f64 0,.bool false,.int .i64 61]) (by simp[results,Tryz.results122,go_sem]) rfl ?_;exact⟨rfl,P1.o.r2⟩
def JN(V:Int)(s:Sp)(mode a b:Int):Nat×Int:=if 0<s.n/\a=2 then(0,60) else if 0<s.u+s.d/\b=2 then(0,61) else rd7 V s mode a b
theorem JO(g:Nat)(V:Int)(s:Sp)(mode a b:Int)(w:World)(hA:kG w g V s)(hs:s.ok)(hT:bO w)(hm0:0<=mode)(hm1:mode<=4)(hab:may a b=true)(ha:¬ (0<s.n/\a=2))(hb:¬ (0<s.u+s.d/\b=2)) :
 Calls Tryz.prog 62 #[.pointer (some ⟨g,0,none⟩),.int .i64 mode,.agg #[.int .i64 a,.int .i64 b]] w fun r w'=>r=.returned (.tuple #[.float .f64 (rd7 V s mode a b).1,.int .i64 (rd7 V s mode a b).2])/\Below w.heap.size w w':=by
 obtain⟨⟨X,er⟩,hX⟩:∃ X,X=rd7 V s mode a b:=⟨_,rfl⟩;rw[<-hX];simp only;have hb0:=ak w (Obj.cells #[.int .i64 a,.int .i64 b] 34);have HH:=hid (Wz g V s mode a b _ (hA.aD hb0) hs hm0 hm1 hab ha hb);have her:=ZQ V s mode a b;unfold rd7 at hX;obtain⟨⟨ax,at',ae⟩,hAh⟩:∃ Y,Y=RU V s mode a b:=⟨_,rfl⟩;rw[<-hAh] at HH her hX;simp only at HH her hX;subst her;have HX:=au hX;have HA:=bM hA hT hb0;clear hA hT hb0 hX hAh hs hab ha hb;go_enter Tryz.func62,Tryz.ntmps62;go_wp2_with fail;refine HH.o.mono ?_;rintro r w1 ⟨rfl,hb1⟩;have B1:=au (HA.o.r2.trans (hb1.mono HA.o.r2.size));clear hb1
 cases at'
 · go_wp2_with fail;refine(RI g V s w1 (HA.o.1.aD B1.o) (HA.o.2.1.belows B1.o)).mono ?_;rintro r w2 ⟨v,rfl,hN,hb2⟩;obtain⟨L,_,_,_,h0,h1,_⟩:=HA.o.1;obtain⟨ad,c,rfl,AV⟩:=hN.arg (aV (Sn h0 h1) aA);have HR:=hid (uo AV (HA.o.2.1.belows (B1.o.trans (hb2.mono B1.o.size))) (dN (mi V)) (dE (mi V)) mode (Gf V).1 (Gf V).2);rw[aC] at HR;have Vd:=HX.o;rw[if_neg aA] at Vd;rw[<-Vd] at HR;simp only at HR;have B2:=au (B1.o.trans (hb2.mono B1.o.size));clear hN hb2 AV h0 h1 Vd;go_wp2_with fail;refine HR.o.mono ?_;rintro r w3 ⟨rfl,hb3⟩;have B3:=au hb3;clear hb3;go_wp2;refine aJ (v:=.tuple #[.float .f64 X,.int .i64 er]) (by simp[results,Tryz.results62,go_sem]) rfl ?_;exact⟨rfl,B2.o.trans (B3.o.mono B2.o.size)⟩
 · go_wp2;have Vd:=HX.o;rw[if_pos trivial] at Vd
   cases Vd
   refine aJ (v:=.tuple #[.float .f64 X,.int .i64 0]) (by simp[results,Tryz.results62,go_sem]) rfl ?_;exact⟨rfl,B1.o⟩
theorem Gq (g:Nat) (mode a b:Int) (w:World)
 (HH:Hid (∀ u:World,Below w.heap.size w u->Calls Tryz.prog 122 #[.pointer (some ⟨g,0,none⟩),.int .i64 mode,.agg #[.int .i64 a,.int .i64 b]] u fun r w'=>r=.returned (.tuple #[.float .f64 0,.bool false,.int .i64 60])/\Below u.heap.size u w')) :
 Calls Tryz.prog 62 #[.pointer (some ⟨g,0,none⟩),.int .i64 mode,.agg #[.int .i64 a,.int .i64 b]] w fun r w'=>r=.returned (.tuple #[.float .f64 0,.int .i64 60])/\Below w.heap.size w w':=by
 have hb0:=au (ak w (Obj.cells #[.int .i64 a,.int .i64 b] 34));go_enter Tryz.func62,Tryz.ntmps62;go_wp2_with fail;refine(HH.o _ hb0.o).mono ?_;rintro r w1 ⟨rfl,hb1⟩;have B1:=au (hb0.o.trans (hb1.mono hb0.o.size));clear hb1 HH;go_wp2;refine aJ (v:=.tuple #[.float .f64 0,.int .i64 60]) (by simp[results,Tryz.results62,go_sem]) rfl ?_;exact⟨rfl,B1.o⟩
theorem Gr (g:Nat) (mode a b:Int) (w:World)
 (HH:Hid (∀ u:World,Below w.heap.size w u->Calls Tryz.prog 122 #[.pointer (some ⟨g,0,none⟩),.int .i64 mode,.agg #[.int .i64 a,.int .i64 b]] u fun r w'=>r=.returned (.tuple #[.float .f64 0,.bool false,.int .i64 61])/\Below u.heap.size u w')) :
 Calls Tryz.prog 62 #[.pointer (some ⟨g,0,none⟩),.int .i64 mode,.agg #[.int .i64 a,.int .i64 b]] w fun r w'=>r=.returned (.tuple #[.float .f64 0,.int .i64 61])/\Below w.heap.size w w':=by
 have hb0:=au (ak w (Obj.cells #[.int .i64 a,.int .i64 b] 34));go_enter Tryz.func62,Tryz.ntmps62;go_wp2_with fail;refine(HH.o _ hb0.o).mono ?_;rintro r w1 ⟨rfl,hb1⟩;have B1:=au (hb0.o.trans (hb1.mono hb0.o.size));clear hb1 HH;go_wp2;refine aJ (v:=.tuple #[.float .f64 0,.int .i64 61]) (by simp[results,Tryz.results62,go_sem]) rfl ?_;exact⟨rfl,B1.o⟩
theorem WA(g:Nat)(V:Int)(s:Sp)(mode a b:Int)(w:World)(hA:kG w g V s)(hs:s.ok)(hT:bO w)(hm0:0<=mode)(hm1:mode<=4)(hab:may a b=true) :
 Calls Tryz.prog 62 #[.pointer (some ⟨g,0,none⟩),.int .i64 mode,.agg #[.int .i64 a,.int .i64 b]] w fun r w'=>r=.returned (.tuple #[.float .f64 (JN V s mode a b).1,.int .i64 (JN V s mode a b).2])/\Below w.heap.size w w':=by
 unfold JN
 by_cases h1:0<s.n/\a=2
 · rw[if_pos h1];exact Gq g mode a b w (hid fun u hb=>Gn g V s mode a b u (hA.aD hb) hs hm0 hm1 hab h1)
 · rw[if_neg h1]
   by_cases h2:0<s.u+s.d/\b=2
   · rw[if_pos h2];exact Gr g mode a b w (hid fun u hb=>Gp g V s mode a b u (hA.aD hb) hs hm0 hm1 hab h1 h2)
   · rw[if_neg h2];exact JO g V s mode a b w hA hs hT hm0 hm1 hab h1 h2
theorem Gs(xs:List Nat)(a:Option Addr)(n c:Nat)(mode pa pb:Int)(w:World)(hn:n=xs.length)(hF:Fs w.heap.size w a xs)(hW:eD xs)(hT:bO w)(hm0:0<=mode)(hm1:mode<=4)(hab:may pa pb=true)(hl:n<=65536) :
 Calls Tryz.prog 17 #[.slice a n c,.int .i64 mode,.agg #[.int .i64 pa,.int .i64 pb]] w fun r w'=>r=.returned (.tuple #[.float .f64 (JN (vS xs) (sS xs) mode pa pb).1,.int .i64 (JN (vS xs) (sS xs) mode pa pb).2])/\Below w.heap.size w w' :=
 JJ xs a n c mode pa pb _ _ w hn hF hW hT hm0 hm1 hab hl (hid fun g u hA hs hT=>WA g (vS xs) (sS xs) mode pa pb u hA hs hT hm0 hm1 hab)
theorem Qbp{P:Prop}(h:P:=by
 go_enter Tryz.func17,Tryz.ntmps17;go_wp2
 go_ret2
 exact⟨rfl,ak _ _⟩):P:=h
theorem Gt(a:Option Addr)(n c:Nat)(mode pa pb:Int)(w:World)(h:mode<0\/4<mode\/may pa pb=false) :
 Calls Tryz.prog 17 #[.slice a n c,.int .i64 mode,.agg #[.int .i64 pa,.int .i64 pb]] w fun r w'=>r=.returned (.tuple #[.float .f64 0,.int .i64 1])/\Below w.heap.size w w':=by
 have HM:=hid (fun u:World=>jR pa pb u)
 by_cases h0:mode<0
 · have b0:decide (mode<0)=true:=by simpa using h0
   clear h h0 HM;exact Qbp
 · have b0:decide (mode<0)=false:=by simp;omega
   by_cases h1:4<mode
   · have b1:decide (4<mode)=true:=by simpa using h1
     clear h h0 h1 HM;exact Qbp
   · have b1:decide (4<mode)=false:=by simp;omega
     have hab:may pa pb=false:=by
      rcases h with h|h|h
      · exact absurd h h0
      · exact absurd h h1
      · exact h
     rw[hab] at HM;clear h h0 h1 hab;go_enter Tryz.func17,Tryz.ntmps17;go_wp2_with fail;refine(HM.o _).mono ?_;rintro r w1 ⟨rfl,hb1⟩;have B1:=au ((ak w (Obj.cells #[.int .i64 pa,.int .i64 pb] 34)).trans (hb1.mono aL));clear hb1 HM;go_wp2
     go_ret2
     exact⟨rfl,B1.o⟩
structure Grid (v:Nat->Nat) (top:Nat):Prop where
 one:1<top
 zero:v 0=0
 mono:∀ {k l},k<l->v k<v l
 step:∀ k,k<top->∃ c j,v k=c*2^j/\v (k+1)=(c+1)*2^j/\c<9007199254740992/\j<=2045
def fV(Y size:Nat):Nat:=bl Y+size-262144
def jo(Y size:Nat):Nat:=Y/2^fV Y size
def oW(X Y size:Nat):Int:=(bl (jo Y size):Int)+size-bl X
def sF(X Y size:Nat):Nat:=if oW X Y size<0 then X/2^(-oW X Y size).toNat else X*2^(oW X Y size).toNat
def nR(X Y size:Nat):Nat:=sF X Y size/jo Y size
def sG(X Y size:Nat):Nat:=sF X Y size%jo Y size
def Gu(Y size:Nat):Nat:=Y-jo Y size*2^fV Y size
def uw(X Y size:Nat):Nat:=sG X Y size*2^fV Y size
def qX(X Y size:Nat):Nat:=nR X Y size*Gu Y size
def kJ(X Y size:Nat):Nat:=if uw X Y size<qX X Y size then nR X Y size-1 else nR X Y size
def EH(X Y size:Nat):Bool:=decide (uw X Y size=qX X Y size)&&decide (0<=oW X Y size)
structure DivS (X Y size:Nat):Prop where
 one:EH X Y size=true->X*2^((oW X Y size).toNat+fV Y size)=kJ X Y size*Y*2^(-oW X Y size).toNat
 low:EH X Y size=false->kJ X Y size*Y*2^(-oW X Y size).toNat<X*2^((oW X Y size).toNat+fV Y size)
 high:EH X Y size=false->X*2^((oW X Y size).toNat+fV Y size)<(kJ X Y size+1)*Y*2^(-oW X Y size).toNat
 least:X≠0->2^(size-1)<=kJ X Y size+1
 most:kJ X Y size<2^(size+1)
 less:uw X Y size<qX X Y size->1<=nR X Y size
 hig:jo Y size≠0
 low':jo Y size*2^fV Y size<=Y
 lowlt:Gu Y size<2^fV Y size
 w0:nR X Y size<2^(size+1)
 ZX:bl (jo Y size)=bl Y-fV Y size
 uy:sF X Y size<2^(bl (jo Y size)+size)
 lef:sG X Y size<jo Y size
theorem Ph{X k:Nat}(h1:2^k<=X)(h2:X<2^(k+1)):bl X=k+1:=by
 have h0:X≠0:=by have:=bK k;omega
 have a:=iF X;have b:=iM X h0;have c:=fH X h0;have d1:=(ku (a:=2) aA).1 (iC h1 a);have d2:=(ku (a:=2) aA).1 (iC b h2);omega
theorem qY(X Y size:Nat)(hX:X=0\/X%2=1)(hY:Y≠0)(hs0:1<=size)(hs:size<=1000)(hbX:bl X<=262144)(hbY:bl Y<=262144):DivS X Y size:=by
 obtain⟨cut,zQ⟩:∃ c,fV Y size=c:=⟨_,rfl⟩;obtain⟨H,eH⟩:∃ c,jo Y size=c:=⟨_,rfl⟩;have eH':Y/2^cut=H:=by rw[<-eH,<-zQ];rfl
 have hD:0<2^cut:=bK cut;have hYlt:=iF Y;have hYge:=iM Y hY;have hYpos:=fH Y hY;have hcut:cut<bl Y/\(0<cut->cut=bl Y+size-262144):=by unfold fV at zQ;omega
 have hH1:2^(bl Y-1-cut)<=H:=by
  rw[<-eH',xH hD,<-aW,show bl Y-1-cut+cut=bl Y-1 by omega];exact hYge
 have hH2:H<2^(bl Y-1-cut+1):=by
  rw[<-eH',uR hD,<-aW,show bl Y-1-cut+1+cut=bl Y by omega];exact hYlt
 have hblH:bl H=bl Y-cut:=by rw[Ph hH1 hH2];omega
 have hH0:0<H:=gG (bK _) hH1;have hHD:H*2^cut<=Y:=by rw[<-eH'];exact Nat.div_mul_le_self _ _
 have hYdm:H*2^cut+Y%2^cut=Y:=by rw[<-eH',bR];exact uS Y _
 have hYm:=iB Y hD;obtain⟨Lo,eLo⟩:∃ c,Gu Y size=c:=⟨_,rfl⟩;have eLo':Y-H*2^cut=Lo:=by rw[<-eLo];unfold Gu;rw[eH,zQ]
 have hLo:Lo<2^cut:=af
 have hYs:Y=H*2^cut+Lo:=af
 obtain⟨b,eb⟩:∃ b,oW X Y size=b:=⟨_,rfl⟩;have eb':(bl H:Int)+size-bl X=b:=by rw[<-eb];unfold oW;rw[eH]
 obtain⟨uy,WB⟩:∃ c,sF X Y size=c:=⟨_,rfl⟩;have yD:(if b<0 then X/2^(-b).toNat else X*2^b.toNat)=uy:=by rw[<-WB];unfold sF;rw[eb]
 obtain⟨W0,eW0⟩:∃ c,nR X Y size=c:=⟨_,rfl⟩;have ZY:uy/H=W0:=by rw[<-eW0];unfold nR;rw[WB,eH]
 obtain⟨Lf,eLf⟩:∃ c,sG X Y size=c:=⟨_,rfl⟩;have eLf':uy%H=Lf:=by rw[<-eLf];unfold sG;rw[WB,eH]
 have hdm:H*W0+Lf=uy:=by rw[<-ZY,<-eLf'];exact uS uy H
 have hLf:Lf<H:=by rw[<-eLf'];exact iB _ hH0
 have WG:uw X Y size=Lf*2^cut:=by unfold uw;rw[eLf,zQ]
 have WI:qX X Y size=W0*Lo:=by unfold qX;rw[eW0,eLo]
 have hXlt:=iF X
 have Tg:uy<2^(bl H+size):=by
  rw[<-yD]
  split
  · rename_i hb;rw[uR (bK _),<-aW,show bl H+size+(-b).toNat=bl X by omega];exact hXlt
  · rename_i hb;refine gG (jV hXlt (bK _)) ?_;rw[<-aW];exact gF aA af
 have YD:W0<2^(size+1):=by
  rw[<-ZY,uR hH0];refine gG Tg ?_;have:2^(size+1)*2^(bl Y-1-cut)<=2^(size+1)*H:=gH _ hH1;rw[<-aW,show size+1+(bl Y-1-cut)=bl H+size by omega] at this;exact this
 have hW0ge:X≠0->2^(size-1)<=W0:=by
  intro h0;have hXge:=iM X h0;have hXp:=fH X h0
  have hl:2^(bl H+size-1)<=uy:=by
   rw[<-yD]
   split
   · rename_i hb;rw[xH (bK _),<-aW,show bl H+size-1+(-b).toNat=bl X-1 by omega];exact hXge
   · rename_i hb;refine aV ?_ (dF _ hXge);rw[<-aW];exact gF aA af
  rw[<-ZY,xH hH0];refine aV ?_ hl;have:2^(size-1)*H<=2^(size-1)*2^(bl H):=gH _ (nV (iF H));rw[<-aW,show size-1+bl H=bl H+size-1 by omega] at this;exact this
 -- whole times the low end is below Y
 have hWL:W0*Lo<Y:=by
  by_cases hc:cut=0
  · subst hc;have:Lo=0:=by simpa using hLo
    rw[this,nL];omega
  · have h1:W0*Lo<2^(size+1)*2^cut:=Ch YD hLo;rw[<-aW] at h1;refine gG h1 (aV ?_ hYge);exact gF aA af
 -- what the level is,by whole
 have hsum:uy*2^cut+W0*Lo=W0*Y+Lf*2^cut:=by
  rw[<-hdm,hYs,dV,rJ,bR H W0,dH];omega
 have hLfD:Lf*2^cut<Y:=gG (jV hLf hD) hHD
 have hless:uw X Y size<qX X Y size->1<=W0:=by
  intro h;rw[WG,WI] at h;rcases rO W0 with q|q
  · rw[q,gT] at h;omega
  · exact q
 have ZZ:kJ X Y size=if Lf*2^cut<W0*Lo then W0-1 else W0:=by unfold kJ;rw[WG,WI,eW0]
 have eAt:EH X Y size=(decide (Lf*2^cut=W0*Lo)&&decide (0<=b)):=by unfold EH;rw[WG,WI,eb]
 have key:(EH X Y size=true->X*2^(b.toNat+cut)=kJ X Y size*Y*2^(-b).toNat)/\(EH X Y size=false->kJ X Y size*Y*2^(-b).toNat<X*2^(b.toNat+cut)/\X*2^(b.toNat+cut)<(kJ X Y size+1)*Y*2^(-b).toNat):=by
  rw[eAt,ZZ]
  by_cases hb:b<0
  · have hc0:cut=0:=af
    have hX0:X≠0:=by intro h;rw[h,eY] at eb';omega
    have hXo:X%2=1:=af
    rw[if_pos hb] at yD;subst hc0;have hL0:Lo=0:=by simpa using hLo
    have hb1:b.toNat=0:=af
    rw[hL0,nL,if_neg af,hb1,gU,jr,gI];rw[hL0,jr,gI,gI,nL] at hsum;rw[decide_eq_false (show ¬ 0<=b by omega),Bool.and_false];refine⟨fun h=>(by cases h),fun _=>?_⟩;obtain⟨k,hk⟩:∃ k,(-b).toNat=k:=⟨_,rfl⟩;have hk0:0<k:=af
    rw[hk] at yD |-;have hP:=bK k;have hxm:2^k*uy+X%2^k=X:=by rw[<-yD];exact uS X _
    have hxl:=iB X hP
    have hx0:X%2^k≠0:=by
     intro h;rw[h] at hxm;rw[show k=k-1+1 by omega,fw,bR _ 2,dH] at hxm;omega
    have h1:W0*Y<=uy:=af
    have h2:uy+1<=(W0+1)*Y:=by
     rw[dV,jF];rw[jr,gI] at hLfD;omega
    have h3:=dF (2^k) h1;have h4:=dF (2^k) h2;rw[dV,jF] at h4;rw[bR] at hxm;omega
  · rw[if_neg hb] at yD;have hb1:(-b).toNat=0:=af
    rw[hb1,jr,gI,gI,decide_eq_true (show 0<=b by omega),Bool.and_true];have e1:X*2^(b.toNat+cut)=uy*2^cut:=by rw[aW,<-dH,yD]
    rw[e1];generalize uy*2^cut=L at *;generalize Lf*2^cut=A at *;generalize hT:W0*Lo=T at *
    by_cases hlt:A<T
    · rw[if_pos hlt];have hW1:1<=W0:=hless (by rw[WG,WI];exact hlt);obtain⟨W,rfl⟩:∃ W,W0=W+1:=⟨W0-1,af⟩;rw[nU];rw[dV,jF] at hsum |-;refine⟨fun h=>?_,fun _=>by omega⟩;have:=of_decide_eq_true h;omega
    · rw[if_neg hlt];rw[dV,jF];refine⟨fun h=>?_,fun h=>?_⟩
      · have:=of_decide_eq_true h;omega
      · have:=of_decide_eq_false h;omega
 refine⟨?_,?_,?_,?_,?_,?_,?_,?_,?_,?_,?_,?_,?_⟩
 · rw[eb,zQ];exact key.1
 · rw[eb,zQ];exact fun h=>(key.2 h).1
 · rw[eb,zQ];exact fun h=>(key.2 h).2
 · intro h;have:=hW0ge h;rw[ZZ];split <;> omega
 · rw[ZZ];split <;> omega
 · rw[eW0];exact hless
 · rw[eH];omega
 · rw[eH,zQ];exact hHD
 · rw[eLo,zQ];exact hLo
 · rw[eW0];exact YD
 · rw[eH,zQ];exact hblH
 · rw[WB,eH];exact Tg
 · rw[eLf,eH];exact hLf
def jL(h:Int):Int:=min (max (h-1) (-4096)) 4096
theorem Mk{w:World}{a b:Option Addr}{n c m d:Nat}{xs ys:List Nat}{V U:Nat}{z:Int}(h1:Arg w a n c xs)(h2:Arg w b m d ys)(e:oG (val xs) (val ys)=(V,U,z)) :
 Calls Tryz.prog 255 #[.slice a n c,.slice b m d] w fun r w'=>∃ v u,r=.returned (.tuple #[v,u,.int .i64 z])/\Nt w.heap.size w' v V/\Nt w.heap.size w' u U/\Below w.heap.size w w' :=
 (VA xs ys a b n c m d w.heap.size w h1.len h2.len h1.cap h2.cap (by have:=h1.big;omega) (by have:=h2.big;omega) h1.wf h2.wf h1.rd h2.rd (aB _)).mono
  fun r w' ⟨⟨v,u,h3,h4,h5,h6⟩,hb⟩=>by rw[e] at h3 h4 h5;exact⟨v,u,h3,h4,h5,hb⟩
theorem qg{w:World}{a:Option Addr}{n c:Nat}{xs:List Nat}{k:Nat}(h1:Arg w a n c xs)(e:bl (val xs)=k) :
 Calls Tryz.prog 108 #[.slice a n c] w fun r w'=>r=.returned (.int .i64 (k:Nat))/\Below w.heap.size w w':=by
 subst e;exact(kE xs a n c w.heap.size w h1.len h1.cap (by have:=h1.big;omega) h1.wf h1.rd).mono fun r w' ⟨h,e⟩=>⟨h,by rw[e];exact aG _ _⟩
theorem qh{X V:Nat}{k:Nat}(hX:¬ LG X)(hb:X=0\/bl X+k<=262144)(e:X*2^k=V):aX X (k:Int)=(V,0):=by
 unfold aX;rw[if_neg hX]
 by_cases h0:X=0
 · rw[if_pos h0,<-e,h0,gT]
 · rw[if_neg h0,if_neg af,if_neg af];simp[e]
theorem Bj{X V:Nat}{k:Nat}(hX:¬ LG X)(e:X/2^k=V):aX X (-(k:Int))=(V,0):=by
 unfold aX;rw[if_neg hX]
 by_cases h0:X=0
 · rw[if_pos h0,<-e,h0,Nat.zero_div]
 · rw[if_neg h0]
   by_cases hk:k=0
   · subst hk;rw[if_neg aL,if_neg (by have:=mt (oK X).2 hX;omega)];simp at e;simp[e]
   · rw[if_pos af];simp[e]
theorem WJ{X Y:Nat}(h1:¬ LG X)(h2:¬ LG Y)(h:Y≠0){V U:Nat}(e1:X/Y=V)(e2:X%Y=U):oG X Y=(V,U,0):=by
 unfold oG;rw[if_neg (by simp[h1,h2]),if_neg h,e1,e2]
theorem JP {w:World}{a b q h:Option Addr}{ca cb cq ch:Nat}(W0 Lf Y H cut Bk Lo Tk' Hs:Nat) (z:Int) (AW:Arg w a (ws W0).length ca (ws W0)) (AL:Arg w b (ws Lf).length cb (ws Lf)) (AY:Arg w q (ws Y).length cq (ws Y)) (AH:Arg w h (ws H).length ch (ws H))
 (hc:cut<=4611686018427387904) (e1:aX H (cut:Int)=(Bk,0)) (e2:oF Y Bk=(Lo,0)) (e3:jD W0 Lo=(Tk',0)) (e4:aX Lf (cut:Int)=(Hs,0)) (e5:aZ Hs Tk'=z)
 (l1:(ws Bk).length<=8192) (l2:(ws Lo).length<=8192) (l3:(ws Tk').length<=8192) (l4:(ws Hs).length<=8192) :
 Calls Tryz.prog 256 #[.slice a (ws W0).length ca,.slice b (ws Lf).length cb,.slice q (ws Y).length cq,.slice h (ws H).length ch,.int .i64 (cut:Nat)] w fun r w'=>r=.returned (.int .i64 z)/\Below w.heap.size w w':=by
 rw[<-aC H] at e1;rw[<-aC Y,<-aC Bk] at e2;rw[<-aC W0,<-aC Lo] at e3;rw[<-aC Lf] at e4;rw[<-aC Hs,<-aC Tk'] at e5;have E:=(iq e1 e2 e3 e4 e5);clear e1 e2 e3 e4 e5;have hbel:=aG w.heap.size w;have S0:=(iq hbel AW AL AY AH);clear hbel;clear AW AL AY AH;go_enter Tryz.func256,Tryz.ntmps256;obtain⟨aD,AW,AL,AY,AH⟩:=S0.o;have HC:=hid (fI (cut:Int) AH E.o.1 af af);clear aD AW AL AY AH;go_wp2_with fail;refine HC.o.mono ?_;rintro r u1 ⟨v,rfl,hN,hb⟩;obtain⟨a1,c1,rfl,_⟩:=hN.arg af;clear HC;obtain⟨aD,AW,AL,AY,AH⟩:=S0.o;have hbn:=aD.trans (hb.mono aD.size);have S1:=rG hbn (AW.below hb) (AL.below hb) (AY.below hb) (AH.below hb) (hN.mono aD.size);clear aD AW AL AY AH;clear hb hbn S0;clear hN;obtain⟨aD,AW,AL,AY,AH,NB⟩:=S1.o;have HC:=hid (wJ AY (NB.cB af).2 E.o.2.1);clear aD AW AL AY AH NB;go_wp2_with fail;refine HC.o.mono ?_;rintro r u2 ⟨v,rfl,hN,hb⟩;obtain⟨a2,c2,rfl,_⟩:=hN.arg af;clear HC;obtain⟨aD,AW,AL,AY,AH,NB⟩:=S1.o;have hbn:=aD.trans (hb.mono aD.size);have S2:=EF hbn (AW.below hb) (AL.below hb) (AY.below hb) (AH.below hb) (NB.below hb) (hN.mono aD.size);clear aD AW AL AY AH NB;clear hb hbn S1;clear hN;obtain⟨aD,AW,AL,AY,AH,NB,NL⟩:=S2.o;have HC:=hid (Lp AW (NL.cB af).2 E.o.r2.1);clear aD AW AL AY AH NB NL;go_wp2_with fail;refine HC.o.mono ?_;rintro r u3 ⟨v,rfl,hN,hb⟩;obtain⟨a3,c3,rfl,_⟩:=hN.arg af;clear HC;obtain⟨aD,AW,AL,AY,AH,NB,NL⟩:=S2.o;have hbn:=aD.trans (hb.mono aD.size);have S3:=EG hbn (AW.below hb) (AL.below hb) (AY.below hb) (AH.below hb) (NB.below hb) (NL.below hb) (hN.mono aD.size);clear aD AW AL AY AH NB NL;clear hb hbn S2;clear hN;obtain⟨aD,AW,AL,AY,AH,NB,NL,NT⟩:=S3.o;have HC:=hid (fI (cut:Int) AL E.o.r3.1 af af);clear aD AW AL AY AH NB NL NT;go_wp2_with fail;refine HC.o.mono ?_;rintro r u4 ⟨v,rfl,hN,hb⟩;obtain⟨a4,c4,rfl,_⟩:=hN.arg af;clear HC;obtain⟨aD,AW,AL,AY,AH,NB,NL,NT⟩:=S3.o;have hbn:=aD.trans (hb.mono aD.size);have S4:=Yr hbn (AW.below hb) (AL.below hb) (AY.below hb) (AH.below hb) (NB.below hb) (NL.below hb) (NT.below hb) (hN.mono aD.size);clear aD AW AL AY AH NB NL NT;clear hb hbn S3;clear hN;obtain⟨aD,AW,AL,AY,AH,NB,NL,NT,NS⟩:=S4.o;have HC:=hid (CG (NS.cB af).2 (NT.cB af).2 z E.o.r4);clear aD AW AL AY AH NB NL NT NS;go_wp2_with fail;refine HC.o.mono ?_;rintro r u5 ⟨rfl,hb⟩;clear HC;obtain⟨aD,AW,AL,AY,AH,NB,NL,NT,NS⟩:=S4.o;have hbn:=aD.trans (hb.mono aD.size);have S5:=Yr hbn (AW.below hb) (AL.below hb) (AY.below hb) (AH.below hb) (NB.below hb) (NL.below hb) (NT.below hb) (NS.below hb);clear aD AW AL AY AH NB NL NT NS;clear hb hbn S4;have hbW:=hid S5.o.1;clear S5 E;go_wp2;go_ret;exact⟨rfl,hbW.o⟩
def Tk(w:World)(g T:Nat)(x y z:Value):Prop:=w.heap[g]?=some (.cells #[x,y,z] T (0,0))
theorem Tk.lt{w:World}{g T:Nat}{x y z:Value}(h:Tk w g T x y z):g<w.heap.size:=(fG.1 h).1
theorem Tk.below{w w':World}{g T:Nat}{x y z:Value}(h:Tk w g T x y z)(hb:Below w.heap.size w w'):Tk w' g T x y z:=by
 unfold Tk;rw[hb.block g h.lt];exact h
theorem Tk.alloc{w:World}{g T:Nat}{x y z:Value}(h:Tk w g T x y z)(o:Obj):Tk (w.alloc o) g T x y z:=h.below (ag w o)
theorem Tk.new(w:World)(T:Nat)(x y z:Value):Tk (w.alloc (.cells #[x,y,z] T)) w.heap.size T x y z:=jC _ _
theorem Tk.facts{w:World}{g T:Nat}{x y z:Value}(h:Tk w g T x y z) :
 w.cell? ⟨g,0,none⟩=some x/\w.cell? ⟨g,1,none⟩=some y/\w.cell? ⟨g,2,none⟩=some z/\w.frozen? ⟨g,0,none⟩=false/\w.frozen? ⟨g,1,none⟩=false/\w.frozen? ⟨g,2,none⟩=false:=by
 unfold Tk at h;simp[World.cell?,World.frozen?,h]
theorem Tk.set{w:World}{g T:Nat}{x y z:Value}(h:Tk w g T x y z)(a b c:Value):Tk (dx w g a b c) g T a b c:=by
 unfold Tk at h |-;simp[dx,World.setCell,iA,h]
def Rq(w:World)(g:Nat)(n:Bool)(v:Value)(e:Int)(m:Bool)(u:Value)(f:Int):Prop:=w.heap[g]?=some (.cells #[.bool n,v,.int .i64 e,.bool m,u,.int .i64 f] 137 (0,0))
theorem Rq.lt{w:World}{g:Nat}{n:Bool}{v:Value}{e:Int}{m:Bool}{u:Value}{f:Int}(h:Rq w g n v e m u f):g<w.heap.size:=(fG.1 h).1
theorem Rq.below{w w':World}{g:Nat}{n:Bool}{v:Value}{e:Int}{m:Bool}{u:Value}{f:Int}(h:Rq w g n v e m u f)(hb:Below w.heap.size w w'):Rq w' g n v e m u f:=by
 unfold Rq;rw[hb.block g h.lt];exact h
theorem Rq.alloc{w:World}{g:Nat}{n:Bool}{v:Value}{e:Int}{m:Bool}{u:Value}{f:Int}(h:Rq w g n v e m u f)(o:Obj):Rq (w.alloc o) g n v e m u f:=h.below (ag w o)
theorem Rq.new(w:World)(n:Bool)(v:Value)(e:Int)(m:Bool)(u:Value)(f:Int):Rq (w.alloc (.cells #[.bool n,v,.int .i64 e,.bool m,u,.int .i64 f] 137)) w.heap.size n v e m u f:=jC _ _
theorem Rq.facts{w:World}{g:Nat}{n:Bool}{v:Value}{e:Int}{m:Bool}{u:Value}{f:Int}(h:Rq w g n v e m u f) :
 w.cell? ⟨g,0,none⟩=some (.bool n)/\w.cell? ⟨g,1,none⟩=some v/\w.cell? ⟨g,2,none⟩=some (.int .i64 e)/\w.cell? ⟨g,3,none⟩=some (.bool m)/\w.cell? ⟨g,4,none⟩=some u/\w.cell? ⟨g,5,none⟩=some (.int .i64 f):=by
 unfold Rq at h;simp[World.cell?,h]
theorem Rq.frz{w:World}{g:Nat}{n:Bool}{v:Value}{e:Int}{m:Bool}{u:Value}{f:Int}(h:Rq w g n v e m u f) :
 w.frozen? ⟨g,0,none⟩=false/\w.frozen? ⟨g,1,none⟩=false/\w.frozen? ⟨g,2,none⟩=false/\w.frozen? ⟨g,3,none⟩=false/\w.frozen? ⟨g,4,none⟩=false/\w.frozen? ⟨g,5,none⟩=false:=by
 unfold Rq at h;simp[World.frozen?,h]
abbrev st6(w:World)(g:Nat)(a b c d e f:Value):World:=(((((w.setCell ⟨g,0,none⟩ a).setCell ⟨g,1,none⟩ b).setCell ⟨g,2,none⟩ c).setCell ⟨g,3,none⟩ d).setCell ⟨g,4,none⟩ e).setCell ⟨g,5,none⟩ f
theorem Ml(g:Nat)(w:World)(a b c d e f:Value):But g w (st6 w g a b c d e f):=((((((But.refl g w).set _ _).set _ _).set _ _).set _ _).set _ _).set _ _
theorem Rq.set{w:World}{g:Nat}{n:Bool}{v:Value}{e:Int}{m:Bool}{u:Value}{f:Int}(h:Rq w g n v e m u f)(n':Bool)(v':Value)(e':Int)(m':Bool)(u':Value)(f':Int) :
 Rq (st6 w g (.bool n') v' (.int .i64 e') (.bool m') u' (.int .i64 f')) g n' v' e' m' u' f':=by
 unfold Rq at h |-;simp[st6,World.setCell,iA,h]
theorem Nt.off{lo:Nat}{w w':World}{v:Value}{X g:Nat}(h:Nt lo w v X)(hb:But g w w')(hg:v.ownBlock≠Option.some g):Nt lo w' v X:=by
 refine⟨h.1,?_⟩;rcases h.2 with hn|⟨g',cap,cur,rfl,hlo,hg',rest⟩
 · exact .inl hn
 · refine .inr ⟨g',cap,cur,rfl,hlo,?_,rest⟩;rw[hb.block g' (fG.1 hg').1 (by intro e;subst e;exact hg (by simp[Value.ownBlock]))];exact hg'
theorem Nt.qG{lo:Nat}{w:World}{v:Value}{X g T:Nat}{C:Array Value}{fz:Nat×Nat}(h:Nt lo w v X)(hT:T≠138)(hg:w.heap[g]?=Option.some (.cells C T fz)):v.ownBlock≠Option.some g:=by
 intro e;rcases h.2 with ⟨rfl,_⟩|⟨g',cap,cur,rfl,_,h2,_⟩
 · simp[Value.ownBlock] at e
 · simp[Value.ownBlock] at e;subst e;rw[hg] at h2;simp at h2;exact hT h2.2.1
theorem Nt.Pj{lo:Nat}{w:World}{v:Value}{X g T:Nat}{x y z:Value}(h:Nt lo w v X)(D:Tk w g T x y z)(hT:T≠138)(a b c:Value):Nt lo (dx w g a b c) v X:=h.off (oM g w a b c) (h.qG hT D)
theorem Nt.st6k{lo:Nat}{w:World}{v:Value}{X g:Nat}{n:Bool}{p:Value}{e:Int}{m:Bool}{u:Value}{f:Int}(h:Nt lo w v X)(D:Rq w g n p e m u f)(a b c d q r:Value):Nt lo (st6 w g a b c d q r) v X:=h.off (Ml g w a b c d q r) (h.qG aA D)
theorem kP{B g:Nat}{a w:World}(h:Below B a w)(hB:B<=w.heap.size)(hg:B<=g)(x y z:Value):Below B a (dx w g x y z):=But.below h (oM g w x y z) hB hg
theorem uz{B g:Nat}{a w:World}(h:Below B a w)(hB:B<=w.heap.size)(hg:B<=g)(x y z p q r:Value):Below B a (st6 w g x y z p q r):=But.below h (Ml g w x y z p q r) hB hg
def Ap(v u:Value):Prop:=∀ g,v.ownBlock=some g->u.ownBlock≠some g
theorem Nt.blk{lo:Nat}{w:World}{v:Value}{X g:Nat}(h:Nt lo w v X)(hg:v.ownBlock=Option.some g):lo<=g/\g<w.heap.size:=by
 rcases h.2 with ⟨rfl,_⟩|⟨g',cap,cur,rfl,h1,h2,_⟩
 · simp[Value.ownBlock] at hg
 · simp[Value.ownBlock] at hg;subst hg;exact⟨h1,(fG.1 h2).1⟩
theorem Nt.ap{lo:Nat}{w w':World}{v u:Value}{X Y:Nat}(h:Nt lo w v X)(k:Nt w.heap.size w' u Y):Ap v u:=by
 intro g hg hu;have:=(h.blk hg).2;have:=(k.blk hu).1;omega
theorem ws0:(ws 0).length=0:=by rw[bB];rfl
theorem vN(W:World)(g:Nat)(v:Value)(x:Int)(t:Bool)(tmps:Array Value)(ht:tmps[4]?.getD undef=.pointer (some ⟨g,0,none⟩))(D:Tk W g 231 v (.int .i64 x) (.bool t)) :
 (results Tryz.f210 tmps).run Tryz.prog W=.ok (.agg #[v,.int .i64 x,.bool t]) W:=by
 obtain⟨x0,x1,x2,_,_,_⟩:=D.facts;simp[results,Tryz.results210,ht,go_sem,x0,x1,x2]
theorem Bn(w:World)(n:Bool)(v:Value)(e:Int)(m:Bool)(u:Value)(f:Int)(W:World)(hW:W=(w.alloc (.cells #[.bool n,v,.int .i64 e,.bool m,u,.int .i64 f] 137)).alloc (.cells #[.slice none 0 0,.int .i64 0,.bool false] 231)) :
 Below w.heap.size w W/\W.heap.size=w.heap.size+2/\Rq W w.heap.size n v e m u f/\Tk W (w.heap.size+1) 231 (.slice none 0 0) (.int .i64 0) (.bool false):=by
 rw[hW];refine⟨(ag w _).alloc aL _,aL,(Rq.new _ _ _ _ _ _ _).alloc _,?_⟩;have:=Tk.new (w.alloc (.cells #[.bool n,v,.int .i64 e,.bool m,u,.int .i64 f] 137)) 231 (.slice none 0 0) (.int .i64 0) (.bool false);simpa using this
theorem Gv {w:World}{a b:Option Addr}{ca cb:Nat}(n m:Bool) (X Y:Nat) (e f:Int) (size lX lY lH cut H uy W0 Lf WH:Nat) (t bb z x y1 y2:Int) (tt:Bool)
 (AX:Arg w a (ws X).length ca (ws X)) (AY:Arg w b (ws Y).length cb (ws Y))
 (he0:-1048576<=e) (he1:e<=1048576) (hf0:-1048576<=f) (hf1:f<=1048576) (hs:size<=1000) (hlY:bl Y=lY) (hlX:bl X=lX) (hlH:bl H=lH) (bX:lX<=262144) (bY:lY<=262144) (bH:lH<=262144)
 (ht:(lY:Int)+(size:Int)-262144=t) (hcut:max t 0=(cut:Int)) (bcut:cut<=2000)
 (e1:aX Y (-(cut:Int))=(H,0)) (hbb:(lH:Int)+(size:Int)-(lX:Int)=bb) (e2:aX X bb=(uy,0)) (e3:oG uy H=(W0,Lf,0))
 (HL:Hid (∀ (u:World) (p q r s:Option Addr) (cp cq cr cs:Nat),Arg u p (ws W0).length cp (ws W0)->Arg u q (ws Lf).length cq (ws Lf)->Arg u r (ws Y).length cr (ws Y)->Arg u s (ws H).length cs (ws H)->Calls Tryz.prog 256 #[.slice p (ws W0).length cp,.slice q (ws Lf).length cq,.slice r (ws Y).length cr,.slice s (ws H).length cs,.int .i64 (cut:Nat)] u fun r w'=>r=.returned (.int .i64 z)/\Below u.heap.size u w'))
 (hz:decide (z<0)=false)
 (h1:e-f=y1) (h2:y1-bb=y2) (h3:y2-(cut:Int)=x) (Lu:(decide (z=0)&&decide (0<=bb))=tt)
 (l1:(ws H).length<=8192) (l2:(ws uy).length<=8192) (l3:(ws W0).length<=8192) (l4:(ws Lf).length<=8192) :
 Calls Tryz.prog 210 #[.agg #[.bool n,.slice a (ws X).length ca,.int .i64 e,.bool m,.slice b (ws Y).length cb,.int .i64 f],.int .i64 (size:Nat)] w fun r w'=>(∃ v,r=.returned (.agg #[v,.int .i64 x,.bool tt])/\Nt w.heap.size w' v W0)/\Below w.heap.size w w':=by
 obtain⟨W1,hW1⟩:=ah ((w.alloc (.cells #[.bool n,.slice a (ws X).length ca,.int .i64 e,.bool m,.slice b (ws Y).length cb,.int .i64 f] 137)).alloc (.cells #[.slice none 0 0,.int .i64 0,.bool false] 231));obtain⟨hB,hz1,RQ,SK⟩:=Bn w n _ e m _ f W1 hW1;have Ti:aX (val (ws Y)) (-(cut:Int))=(H,0):=by rw[aC];exact e1
 have e2':aX (val (ws X)) bb=(uy,0):=by rw[aC];exact e2
 have e3':oG (val (ws uy)) (val (ws H))=(W0,Lf,0):=by rw[aC,aC];exact e3
 have lY':bl (val (ws Y))=lY:=by rw[aC];exact hlY
 have lX':bl (val (ws X))=lX:=by rw[aC];exact hlX
 have lH':bl (val (ws H))=lH:=by rw[aC];exact hlH
 have E:=(rG Ti e2' e3' lY' lX' lH');have SZ:=(aT hz1 hB);have hs2:w.heap.size+2<=W1.heap.size:=af
 have hbel:=hB;have S0:=(iq hbel (AX.below hB) (AY.below hB) RQ SK);clear hbel;clear e1 e2 e3 Ti e2' e3' lY' lX' lH' hlY hlX hlH AX AY hB RQ SK hz1;go_enter Tryz.func210,Tryz.ntmps210
 go_upto_region 1 with fail
 rw[<-hW1];clear hW1;obtain⟨x0,x1,x2,x3,x4,x5⟩:=S0.o.r3.1.facts
 go_quiet (fail)
 clear x0 x1 x2 x3 x4 x5;generalize hV:World.drewN W1 _=V1;have hb:Below W1.heap.size W1 V1:=by rw[<-hV];exact Below.drewN' (aG _ _) _
 clear hV;obtain⟨aD,AX,AY,RQ,SK⟩:=S0.o;have hbn:=aD.trans (hb.mono aD.size);have S1:=iq hbn (AX.below hb) (AY.below hb) (RQ.below hb) (SK.below hb);clear aD AX AY RQ SK;clear hb hbn S0;obtain⟨aD,AX,AY,RQ,SK⟩:=S1.o;have HC:=hid (qg AY E.o.r3.1);clear aD AX AY RQ SK;go_wp2_with fail;refine HC.o.mono ?_;rintro r u2 ⟨rfl,hb⟩;clear HC;obtain⟨aD,AX,AY,RQ,SK⟩:=S1.o;have hbn:=aD.trans (hb.mono aD.size);have S2:=iq hbn (AX.below hb) (AY.below hb) (RQ.below hb) (SK.below hb);clear aD AX AY RQ SK;clear hb hbn S1;obtain⟨aD,AX,AY,RQ,SK⟩:=S2.o;have HC:=hid (fI (-(cut:Int)) AY E.o.1 af af);clear aD AX AY RQ SK;go_wp2_with fail;refine HC.o.mono ?_;rintro r u3 ⟨v,rfl,hN,hb⟩;obtain⟨a1,c1,rfl,_⟩:=hN.arg af;clear HC;obtain⟨aD,AX,AY,RQ,SK⟩:=S2.o;have hbn:=aD.trans (hb.mono aD.size);have S3:=rG hbn (AX.below hb) (AY.below hb) (RQ.below hb) (SK.below hb) (hN.mono aD.size);clear aD AX AY RQ SK;clear hb hbn S2;clear hN;obtain⟨aD,AX,AY,RQ,SK,NH⟩:=S3.o;have HC:=hid (qg (NH.cB af).2 E.o.r5);clear aD AX AY RQ SK NH;go_wp2_with fail;refine HC.o.mono ?_;rintro r u4 ⟨rfl,hb⟩;clear HC;obtain⟨aD,AX,AY,RQ,SK,NH⟩:=S3.o;have hbn:=aD.trans (hb.mono aD.size);have S4:=rG hbn (AX.below hb) (AY.below hb) (RQ.below hb) (SK.below hb) (NH.below hb);clear aD AX AY RQ SK NH;clear hb hbn S3;obtain⟨aD,AX,AY,RQ,SK,NH⟩:=S4.o;have HC:=hid (qg AX E.o.r4.1);clear aD AX AY RQ SK NH;go_wp2_with fail;refine HC.o.mono ?_;rintro r u5 ⟨rfl,hb⟩;clear HC;obtain⟨aD,AX,AY,RQ,SK,NH⟩:=S4.o;have hbn:=aD.trans (hb.mono aD.size);have S5:=rG hbn (AX.below hb) (AY.below hb) (RQ.below hb) (SK.below hb) (NH.below hb);clear aD AX AY RQ SK NH;clear hb hbn S4;obtain⟨aD,AX,AY,RQ,SK,NH⟩:=S5.o;have HC:=hid (fI bb AX E.o.2.1 af af);clear aD AX AY RQ SK NH;go_wp2_with fail;refine HC.o.mono ?_;rintro r u6 ⟨v,rfl,hN,hb⟩;obtain⟨a2,c2,rfl,_⟩:=hN.arg af;clear HC;obtain⟨aD,AX,AY,RQ,SK,NH⟩:=S5.o;have hbn:=aD.trans (hb.mono aD.size);have S6:=EF hbn (AX.below hb) (AY.below hb) (RQ.below hb) (SK.below hb) (NH.below hb) (hN.mono aD.size);clear aD AX AY RQ SK NH;clear hb hbn S5;clear hN;obtain⟨aD,AX,AY,RQ,SK,NH,NV⟩:=S6.o;have HC:=hid (Mk (NV.cB af).2 (NH.cB af).2 E.o.r2.1);clear aD AX AY RQ SK NH NV;go_wp2_with fail;refine HC.o.mono ?_;rintro r u7 ⟨v,v2,rfl,hN,hM,hb⟩;obtain⟨a3,c3,rfl,_⟩:=hN.arg af;obtain⟨a4,c4,rfl,_⟩:=hM.arg af;clear HC;obtain⟨aD,AX,AY,RQ,SK,NH,NV⟩:=S6.o;have hbn:=aD.trans (hb.mono aD.size);have S7:=EG hbn (AX.below hb) (AY.below hb) (RQ.below hb) (SK.below hb) (NH.below hb) (hN.mono aD.size) (hM.mono aD.size);clear aD AX AY RQ SK NH NV;clear hb hbn S6;clear hN hM;obtain⟨aD,AX,AY,RQ,SK,NH,NW,NL⟩:=S7.o;have HC:=hid (HL.o u7 _ _ _ _ _ _ _ _ (NW.cB af).2 (NL.cB af).2 AY (NH.cB af).2);clear aD AX AY RQ SK NH NW NL;go_wp2_with fail;refine HC.o.mono ?_;rintro r u8 ⟨rfl,hb⟩;clear HC;obtain⟨aD,AX,AY,RQ,SK,NH,NW,NL⟩:=S7.o;have hbn:=aD.trans (hb.mono aD.size);have S8:=EG hbn (AX.below hb) (AY.below hb) (RQ.below hb) (SK.below hb) (NH.below hb) (NW.below hb) (NL.below hb);clear aD AX AY RQ SK NH NW NL;clear hb hbn S7;obtain⟨aD,AX,AY,RQ,SK,NH,NW,NL⟩:=S8.o;have hlast:=bM aD NW SK;obtain⟨x0,x1,x2,x3,x4,x5⟩:=RQ.facts;obtain⟨s0,s1,s2,IG,II,IJ⟩:=SK.facts;have hsz:=au (SK.lt);clear aD AX AY RQ SK NH NW NL;clear S8 E HL;have htA:=au Lu;clear Lu;go_wp2
 all_goals (
  obtain⟨aD,NZ,SK⟩:=hlast.o;have hsz:=aD.size;refine aJ (vN _ (w.heap.size+1) (.slice a3 (ws W0).length c3) x _ _ rfl (SK.set _ _ _)) rfl ⟨⟨.slice a3 (ws W0).length c3,?_,NZ.Pj SK aA _ _ _⟩,kP aD hsz af _ _ _⟩;rw[<-htA.o]
  first | rfl | simp[*])
theorem Gw {w:World}{a b:Option Addr}{ca cb:Nat}(n m:Bool) (X Y:Nat) (e f:Int) (size lX lY lH cut H uy W0 Lf WH:Nat) (t bb z x y1 y2:Int) (tt:Bool)
 (AX:Arg w a (ws X).length ca (ws X)) (AY:Arg w b (ws Y).length cb (ws Y))
 (he0:-1048576<=e) (he1:e<=1048576) (hf0:-1048576<=f) (hf1:f<=1048576) (hs:size<=1000) (hlY:bl Y=lY) (hlX:bl X=lX) (hlH:bl H=lH) (bX:lX<=262144) (bY:lY<=262144) (bH:lH<=262144)
 (ht:(lY:Int)+(size:Int)-262144=t) (hcut:max t 0=(cut:Int)) (bcut:cut<=2000)
 (e1:aX Y (-(cut:Int))=(H,0)) (hbb:(lH:Int)+(size:Int)-(lX:Int)=bb) (e2:aX X bb=(uy,0)) (e3:oG uy H=(W0,Lf,0))
 (HL:Hid (∀ (u:World) (p q r s:Option Addr) (cp cq cr cs:Nat),Arg u p (ws W0).length cp (ws W0)->Arg u q (ws Lf).length cq (ws Lf)->Arg u r (ws Y).length cr (ws Y)->Arg u s (ws H).length cs (ws H)->Calls Tryz.prog 256 #[.slice p (ws W0).length cp,.slice q (ws Lf).length cq,.slice r (ws Y).length cr,.slice s (ws H).length cs,.int .i64 (cut:Nat)] u fun r w'=>r=.returned (.int .i64 z)/\Below u.heap.size u w'))
 (hz:decide (z<0)=true) (e4:oF W0 1=(WH,0))
 (h1:e-f=y1) (h2:y1-bb=y2) (h3:y2-(cut:Int)=x) (Lu:(decide (z=0)&&decide (0<=bb))=tt)
 (l1:(ws H).length<=8192) (l2:(ws uy).length<=8192) (l3:(ws W0).length<=8192) (l4:(ws Lf).length<=8192) (l5:(ws WH).length<=8192) :
 Calls Tryz.prog 210 #[.agg #[.bool n,.slice a (ws X).length ca,.int .i64 e,.bool m,.slice b (ws Y).length cb,.int .i64 f],.int .i64 (size:Nat)] w fun r w'=>(∃ v,r=.returned (.agg #[v,.int .i64 x,.bool tt])/\Nt w.heap.size w' v WH)/\Below w.heap.size w w':=by
 obtain⟨W1,hW1⟩:=ah ((w.alloc (.cells #[.bool n,.slice a (ws X).length ca,.int .i64 e,.bool m,.slice b (ws Y).length cb,.int .i64 f] 137)).alloc (.cells #[.slice none 0 0,.int .i64 0,.bool false] 231));obtain⟨hB,hz1,RQ,SK⟩:=Bn w n _ e m _ f W1 hW1;have Ti:aX (val (ws Y)) (-(cut:Int))=(H,0):=by rw[aC];exact e1
 have e2':aX (val (ws X)) bb=(uy,0):=by rw[aC];exact e2
 have e3':oG (val (ws uy)) (val (ws H))=(W0,Lf,0):=by rw[aC,aC];exact e3
 have lY':bl (val (ws Y))=lY:=by rw[aC];exact hlY
 have lX':bl (val (ws X))=lX:=by rw[aC];exact hlX
 have lH':bl (val (ws H))=lH:=by rw[aC];exact hlH
 have E:=(rG Ti e2' e3' lY' lX' lH');have SZ:=(aT hz1 hB);have hs2:w.heap.size+2<=W1.heap.size:=af
 have e4':oF (val (ws W0)) (val (ws 1))=(WH,0):=by rw[aC,aC];exact e4
 have E4:=au e4';have l1s:(ws 1).length<=8192:=by rw[Cx];simp
 clear e4 e4';have hbel:=hB;have S0:=(iq hbel (AX.below hB) (AY.below hB) RQ SK);clear hbel;clear e1 e2 e3 Ti e2' e3' lY' lX' lH' hlY hlX hlH AX AY hB RQ SK hz1;go_enter Tryz.func210,Tryz.ntmps210
 go_upto_region 1 with fail
 rw[<-hW1];clear hW1;obtain⟨x0,x1,x2,x3,x4,x5⟩:=S0.o.r3.1.facts
 go_quiet (fail)
 clear x0 x1 x2 x3 x4 x5;generalize hV:World.drewN W1 _=V1;have hb:Below W1.heap.size W1 V1:=by rw[<-hV];exact Below.drewN' (aG _ _) _
 clear hV;obtain⟨aD,AX,AY,RQ,SK⟩:=S0.o;have hbn:=aD.trans (hb.mono aD.size);have S1:=iq hbn (AX.below hb) (AY.below hb) (RQ.below hb) (SK.below hb);clear aD AX AY RQ SK;clear hb hbn S0;obtain⟨aD,AX,AY,RQ,SK⟩:=S1.o;have HC:=hid (qg AY E.o.r3.1);clear aD AX AY RQ SK;go_wp2_with fail;refine HC.o.mono ?_;rintro r u2 ⟨rfl,hb⟩;clear HC;obtain⟨aD,AX,AY,RQ,SK⟩:=S1.o;have hbn:=aD.trans (hb.mono aD.size);have S2:=iq hbn (AX.below hb) (AY.below hb) (RQ.below hb) (SK.below hb);clear aD AX AY RQ SK;clear hb hbn S1;obtain⟨aD,AX,AY,RQ,SK⟩:=S2.o;have HC:=hid (fI (-(cut:Int)) AY E.o.1 af af);clear aD AX AY RQ SK;go_wp2_with fail;refine HC.o.mono ?_;rintro r u3 ⟨v,rfl,hN,hb⟩;obtain⟨a1,c1,rfl,_⟩:=hN.arg af;clear HC;obtain⟨aD,AX,AY,RQ,SK⟩:=S2.o;have hbn:=aD.trans (hb.mono aD.size);have S3:=rG hbn (AX.below hb) (AY.below hb) (RQ.below hb) (SK.below hb) (hN.mono aD.size);clear aD AX AY RQ SK;clear hb hbn S2;clear hN;obtain⟨aD,AX,AY,RQ,SK,NH⟩:=S3.o;have HC:=hid (qg (NH.cB af).2 E.o.r5);clear aD AX AY RQ SK NH;go_wp2_with fail;refine HC.o.mono ?_;rintro r u4 ⟨rfl,hb⟩;clear HC;obtain⟨aD,AX,AY,RQ,SK,NH⟩:=S3.o;have hbn:=aD.trans (hb.mono aD.size);have S4:=rG hbn (AX.below hb) (AY.below hb) (RQ.below hb) (SK.below hb) (NH.below hb);clear aD AX AY RQ SK NH;clear hb hbn S3;obtain⟨aD,AX,AY,RQ,SK,NH⟩:=S4.o;have HC:=hid (qg AX E.o.r4.1);clear aD AX AY RQ SK NH;go_wp2_with fail;refine HC.o.mono ?_;rintro r u5 ⟨rfl,hb⟩;clear HC;obtain⟨aD,AX,AY,RQ,SK,NH⟩:=S4.o;have hbn:=aD.trans (hb.mono aD.size);have S5:=rG hbn (AX.below hb) (AY.below hb) (RQ.below hb) (SK.below hb) (NH.below hb);clear aD AX AY RQ SK NH;clear hb hbn S4;obtain⟨aD,AX,AY,RQ,SK,NH⟩:=S5.o;have HC:=hid (fI bb AX E.o.2.1 af af);clear aD AX AY RQ SK NH;go_wp2_with fail;refine HC.o.mono ?_;rintro r u6 ⟨v,rfl,hN,hb⟩;obtain⟨a2,c2,rfl,_⟩:=hN.arg af;clear HC;obtain⟨aD,AX,AY,RQ,SK,NH⟩:=S5.o;have hbn:=aD.trans (hb.mono aD.size);have S6:=EF hbn (AX.below hb) (AY.below hb) (RQ.below hb) (SK.below hb) (NH.below hb) (hN.mono aD.size);clear aD AX AY RQ SK NH;clear hb hbn S5;clear hN;obtain⟨aD,AX,AY,RQ,SK,NH,NV⟩:=S6.o;have HC:=hid (Mk (NV.cB af).2 (NH.cB af).2 E.o.r2.1);clear aD AX AY RQ SK NH NV;go_wp2_with fail;refine HC.o.mono ?_;rintro r u7 ⟨v,v2,rfl,hN,hM,hb⟩;obtain⟨a3,c3,rfl,_⟩:=hN.arg af;obtain⟨a4,c4,rfl,_⟩:=hM.arg af;clear HC;obtain⟨aD,AX,AY,RQ,SK,NH,NV⟩:=S6.o;have hbn:=aD.trans (hb.mono aD.size);have S7:=EG hbn (AX.below hb) (AY.below hb) (RQ.below hb) (SK.below hb) (NH.below hb) (hN.mono aD.size) (hM.mono aD.size);clear aD AX AY RQ SK NH NV;clear hb hbn S6;clear hN hM;obtain⟨aD,AX,AY,RQ,SK,NH,NW,NL⟩:=S7.o;have HC:=hid (HL.o u7 _ _ _ _ _ _ _ _ (NW.cB af).2 (NL.cB af).2 AY (NH.cB af).2);clear aD AX AY RQ SK NH NW NL;go_wp2_with fail;refine HC.o.mono ?_;rintro r u8 ⟨rfl,hb⟩;clear HC;obtain⟨aD,AX,AY,RQ,SK,NH,NW,NL⟩:=S7.o;have hbn:=aD.trans (hb.mono aD.size);have S8:=EG hbn (AX.below hb) (AY.below hb) (RQ.below hb) (SK.below hb) (NH.below hb) (NW.below hb) (NL.below hb);clear aD AX AY RQ SK NH NW NL;clear hb hbn S7;obtain⟨aD,AX,AY,RQ,SK,NH,NW,NL⟩:=S8.o;have HC:=hid (ni 1 u8 af);clear aD AX AY RQ SK NH NW NL;go_wp2_with fail;refine HC.o.mono ?_;rintro r u9 ⟨v,rfl,hN,hb⟩;obtain⟨a5,c5,rfl,_⟩:=hN.arg af;clear HC;obtain⟨aD,AX,AY,RQ,SK,NH,NW,NL⟩:=S8.o;have hbn:=aD.trans (hb.mono aD.size);have S9:=Yr hbn (AX.below hb) (AY.below hb) (RQ.below hb) (SK.below hb) (NH.below hb) (NW.below hb) (NL.below hb) (hN.mono aD.size);clear aD AX AY RQ SK NH NW NL;clear hb hbn S8;clear hN;obtain⟨aD,AX,AY,RQ,SK,NH,NW,NL,NO⟩:=S9.o;have HC:=hid (wJ (NW.cB af).2 (NO.cB af).2 E4.o);clear aD AX AY RQ SK NH NW NL NO;go_wp2_with fail;refine HC.o.mono ?_;rintro r u10 ⟨v,rfl,hN,hb⟩;obtain⟨a6,c6,rfl,_⟩:=hN.arg af;clear HC;obtain⟨aD,AX,AY,RQ,SK,NH,NW,NL,NO⟩:=S9.o;have hbn:=aD.trans (hb.mono aD.size);have S10:=Vh hbn (AX.below hb) (AY.below hb) (RQ.below hb) (SK.below hb) (NH.below hb) (NW.below hb) (NL.below hb) (NO.below hb) (hN.mono aD.size);clear aD AX AY RQ SK NH NW NL NO;clear hb hbn S9;clear hN;obtain⟨aD,AX,AY,RQ,SK,NH,NW,NL,NO,NR⟩:=S10.o;have hlast:=bM aD NR SK;obtain⟨x0,x1,x2,x3,x4,x5⟩:=RQ.facts;obtain⟨s0,s1,s2,IG,II,IJ⟩:=SK.facts;have hsz:=au (SK.lt);clear aD AX AY RQ SK NH NW NL NO NR;clear S10 E HL;have htA:=au Lu;clear Lu;go_wp2
 all_goals (
  obtain⟨aD,NZ,SK⟩:=hlast.o;have hsz:=aD.size;refine aJ (vN _ (w.heap.size+1) (.slice a6 (ws WH).length c6) x _ _ rfl (SK.set _ _ _)) rfl ⟨⟨.slice a6 (ws WH).length c6,?_,NZ.Pj SK aA _ _ _⟩,kP aD hsz af _ _ _⟩;rw[<-htA.o]
  first | rfl | simp[*])
theorem fZ{X:Nat}(h:bl X<=262144):¬ LG X:=fun k=>by have:=(oK X).1 k;omega
theorem Pn{X Y V:Nat}(h1:¬ LG X)(h2:¬ LG Y)(h3:¬ LG V)(e:X*Y=V):jD X Y=(V,0):=by subst e;unfold jD;rw[if_neg (by simp[h1,h2]),if_neg h3]
theorem gL{X:Nat}(h:bl X<=262144):(ws X).length<=8192:=by have:=fZ h;unfold LG at this;omega
theorem fO{X k:Nat}(h:X<2^k):bl X<=k:=by
 by_cases h0:X=0
 · subst h0;rw[eY];omega
 · have:=(ku (a:=2) aA).1 (iC (iM X h0) h);have:=fH X h0;omega
theorem oZ{X Y:Nat}(h:X<=Y)(k:bl Y<=262144):bl X<=262144:=by
 have:=fO (iC h (iF Y));omega
theorem Gx(x y:Nat):decide (aZ x y<0)=decide (x<y):=by
 unfold aZ
 by_cases h:x<y
 · simp[h]
 · by_cases h2:y<x <;> simp[h,h2]
theorem Tj(x y:Nat):decide (aZ x y=0)=decide (x=y):=by
 unfold aZ
 by_cases h:x<y
 · have:x≠y:=af
   simp[h,this]
 · by_cases h2:y<x
   · have:x≠y:=af
     simp[h,h2,this]
   · have:x=y:=af
     simp[this]
theorem Po {w:World}{a b:Option Addr}{ca cb:Nat}(n m:Bool) (X Y:Nat) (e f:Int) (size:Nat)
 (AX:Arg w a (ws X).length ca (ws X)) (AY:Arg w b (ws Y).length cb (ws Y)) (hX:X=0\/X%2=1) (hY:Y≠0)
 (he0:-1048576<=e) (he1:e<=1048576) (hf0:-1048576<=f) (hf1:f<=1048576) (hs0:1<=size) (hs:size<=1000) (bX:bl X<=262144) (bY:bl Y<=262144) :
 Calls Tryz.prog 210 #[.agg #[.bool n,.slice a (ws X).length ca,.int .i64 e,.bool m,.slice b (ws Y).length cb,.int .i64 f],.int .i64 (size:Nat)] w fun r w'=>(∃ v,r=.returned (.agg #[v,.int .i64 (e-f-oW X Y size-fV Y size),.bool (EH X Y size)])/\Nt w.heap.size w' v (kJ X Y size))/\Below w.heap.size w w':=by
 have D:=qY X Y size hX hY hs0 hs bX bY;have hYp:=fH Y hY;have cutb:fV Y size<=1000/\fV Y size<bl Y:=by unfold fV;omega
 have bH:bl (jo Y size)<=262144:=by have:=D.ZX;omega
 have hHc:bl (jo Y size)+size<=262144\/fV Y size=0:=by have:=D.ZX;unfold fV at *;omega
 have hbyb:-262144<=oW X Y size/\oW X Y size<=264000:=by unfold oW;omega
 have Z0:bl (sF X Y size)<=262144:=by
  have:=fO D.uy;have h2:bl (jo Y size)+size<=262144:=by have:=D.ZX;unfold fV at this;omega
  omega
 have bW0:bl (nR X Y size)<=262144:=by have:=fO D.w0;omega
 have bLf:bl (sG X Y size)<=262144:=oZ (nV D.lef) bH;have e1:aX Y (-((fV Y size:Nat):Int))=(jo Y size,0):=Bj (fZ bY) rfl
 have e2:aX X (oW X Y size)=(sF X Y size,0):=by
  by_cases hb:oW X Y size<0
  · have:=Bj (X:=X) (k:=(-oW X Y size).toNat) (V:=sF X Y size) (fZ bX) (by unfold sF;rw[if_pos hb]);rw[show -(((-oW X Y size).toNat:Nat):Int)=oW X Y size by omega] at this;exact this
  · have:=qh (X:=X) (k:=(oW X Y size).toNat) (V:=sF X Y size) (fZ bX) (by
     by_cases h0:X=0
     · exact .inl h0
     · right
       have h2:bl (jo Y size)+size<=262144:=by have:=D.ZX;unfold fV at this;omega
       unfold oW at *;omega) (by unfold sF;rw[if_neg hb])
    rw[show(((oW X Y size).toNat:Nat):Int)=oW X Y size by omega] at this;exact this
 have e3:oG (sF X Y size) (jo Y size)=(nR X Y size,sG X Y size,0):=WJ (fZ Z0) (fZ bH) D.hig rfl rfl
 -- what cmpLow is asked
 have hYHb:jo Y size*2^fV Y size<=Y:=D.low';have bBk:bl (jo Y size*2^fV Y size)<=262144:=oZ hYHb bY;have bLo:bl (Gu Y size)<=262144:=oZ (Nat.sub_le _ _) bY
 have bTk:bl (qX X Y size)<=262144:=by
  have h1:qX X Y size<2^(size+1+fV Y size):=by
   unfold qX;rw[aW];exact Ch D.w0 D.lowlt
  have:=fO h1;omega
 have bHs:bl (uw X Y size)<=262144:=by
  refine oZ (Y:=Y) (aV ?_ hYHb) bY;exact dF _ (nV D.lef)
 have c1:aX (jo Y size) ((fV Y size:Nat):Int)=(jo Y size*2^fV Y size,0):=qh (fZ bH) (.inr (by have:=D.ZX;omega)) rfl;have c2:oF Y (jo Y size*2^fV Y size)=(Gu Y size,0):=wL (fZ bY) (fZ bBk) (by unfold Gu;omega);have c3:jD (nR X Y size) (Gu Y size)=(qX X Y size,0):=Pn (fZ bW0) (fZ bLo) (fZ bTk) rfl
 have c4:aX (sG X Y size) ((fV Y size:Nat):Int)=(uw X Y size,0):=qh (fZ bLf) (by
  by_cases h0:sG X Y size=0
  · exact .inl h0
  · right
    have hlt:sG X Y size<=jo Y size:=nV D.lef;have:=fO (iC hlt (iF (jo Y size)));have:=D.ZX
    omega) rfl
 have HC:Hid (∀ (u:World) (p q r s:Option Addr) (cp cq cr cs:Nat),Arg u p (ws (nR X Y size)).length cp (ws (nR X Y size))->Arg u q (ws (sG X Y size)).length cq (ws (sG X Y size))->Arg u r (ws Y).length cr (ws Y)->Arg u s (ws (jo Y size)).length cs (ws (jo Y size))->Calls Tryz.prog 256 #[.slice p (ws (nR X Y size)).length cp,.slice q (ws (sG X Y size)).length cq,.slice r (ws Y).length cr,.slice s (ws (jo Y size)).length cs,.int .i64 ((fV Y size:Nat):Int)] u fun r w'=>r=.returned (.int .i64 (aZ (uw X Y size) (qX X Y size)))/\Below u.heap.size u w') :=
  fun u p q r s cp cq cr cs A1 A2 A3 A4=>JP _ _ _ _ (fV Y size) _ _ _ _ _ A1 A2 A3 A4 af c1 c2 c3 c4 rfl (gL bBk) (gL bLo) (gL bTk) (gL bHs)
 have Lu:(decide (aZ (uw X Y size) (qX X Y size)=0)&&decide (0<=oW X Y size))=EH X Y size:=by rw[Tj];rfl
 have hcut:max ((bl Y:Int)+(size:Int)-262144) 0=((fV Y size:Nat):Int):=by unfold fV;omega
 by_cases hlt:uw X Y size<qX X Y size
 · have hz:decide (aZ (uw X Y size) (qX X Y size)<0)=true:=by rw[Gx];exact decide_eq_true hlt
   have e4:oF (nR X Y size) 1=(kJ X Y size,0):=by
    refine wL (fZ bW0) (fZ aA) ?_;have:=D.less hlt;unfold kJ;rw[if_pos hlt];omega
   exact Gw n m X Y e f size (bl X) (bl Y) (bl (jo Y size)) (fV Y size) (jo Y size) (sF X Y size) (nR X Y size) (sG X Y size) (kJ X Y size) _ (oW X Y size) _ _ _ _ (EH X Y size) AX AY he0 he1 hf0 hf1 hs rfl rfl rfl bX bY bH rfl hcut af e1 rfl e2 e3 HC hz e4 rfl rfl rfl Lu (gL bH) (gL Z0) (gL bW0) (gL bLf) (gL (oZ (Y:=nR X Y size) (by unfold kJ;rw[if_pos hlt];omega) bW0))
 · have hz:decide (aZ (uw X Y size) (qX X Y size)<0)=false:=by rw[Gx];exact decide_eq_false hlt
   have eW:kJ X Y size=nR X Y size:=by unfold kJ;rw[if_neg hlt]
   rw[eW];exact Gv n m X Y e f size (bl X) (bl Y) (bl (jo Y size)) (fV Y size) (jo Y size) (sF X Y size) (nR X Y size) (sG X Y size) 0 _ (oW X Y size) _ _ _ _ (EH X Y size) AX AY he0 he1 hf0 hf1 hs rfl rfl rfl bX bY bH rfl hcut af e1 rfl e2 e3 HC hz rfl rfl rfl Lu (gL bH) (gL Z0) (gL bW0) (gL bLf)
theorem yE(W:World)(g:Nat)(n:Bool)(v:Value)(e k:Int)(tmps:Array Value)(ht:tmps[4]?.getD undef=.pointer (some ⟨g,0,none⟩))(hk:tmps[5]?.getD undef=.int .i64 k)(D:Tk W g 77 (.bool n) v (.int .i64 e)) :
 (results Tryz.f209 tmps).run Tryz.prog W=.ok (.tuple #[.agg #[.bool n,v,.int .i64 e],.int .i64 k]) W:=by
 obtain⟨x0,x1,x2,_,_,_⟩:=D.facts;simp[results,Tryz.results209,ht,hk,go_sem,x0,x1,x2]
theorem Bo(w:World)(v:Value)(x:Int)(t:Bool)(W:World)(hW:W=(w.alloc (.cells #[v,.int .i64 x,.bool t] 231)).alloc (.cells #[.bool false,.slice none 0 0,.int .i64 0] 77)) :
 Below w.heap.size w W/\W.heap.size=w.heap.size+2/\Tk W w.heap.size 231 v (.int .i64 x) (.bool t)/\Tk W (w.heap.size+1) 77 (.bool false) (.slice none 0 0) (.int .i64 0):=by
 rw[hW];refine⟨(ag w _).alloc aL _,aL,(Tk.new _ _ _ _ _).alloc _,?_⟩;have:=Tk.new (w.alloc (.cells #[v,.int .i64 x,.bool t] 231)) 77 (.bool false) (.slice none 0 0) (.int .i64 0);simpa using this
theorem JQ {w:World}{a:Option Addr}{ca:Nat}(n:Bool) (W M2 M3:Nat) (x y E:Int) (dn:Bool) (V:Nat) (de er:Int) (AW:Arg w a (ws W).length ca (ws W)) (hx0:-10000000<=x) (hx1:x<=10000000)
 (e1:aX W 1=(M2,0)) (hy:x-1=y) (hE:min (max y (-4096)) 4096=E) (l2:(ws M2).length<=8192) (lV:(ws V).length<=8192)
 (HM:Hid (∀ (u:World) (p:Option Addr) (q:Nat),Below w.heap.size w u->Arg u p (ws M2).length q (ws M2)->Calls Tryz.prog 192 #[.bool n,.slice p (ws M2).length q,.int .i64 E] u fun r w'=>(∃ v,r=.returned (.tuple #[.agg #[.bool dn,v,.int .i64 de],.int .i64 er])/\Nt u.heap.size w' v V)/\Below u.heap.size u w')) :
 Calls Tryz.prog 209 #[.bool n,.agg #[.slice a (ws W).length ca,.int .i64 x,.bool true]] w fun r w'=>(∃ v,r=.returned (.tuple #[.agg #[.bool dn,v,.int .i64 de],.int .i64 er])/\Nt w.heap.size w' v V)/\Below w.heap.size w w':=by
 obtain⟨W1,hW1⟩:=ah ((w.alloc (.cells #[.slice a (ws W).length ca,.int .i64 x,.bool true] 231)).alloc (.cells #[.bool false,.slice none 0 0,.int .i64 0] 77));obtain⟨hB,hz1,SK,DK⟩:=Bo w _ x true W1 hW1;have Ti:aX (val (ws W)) 1=(M2,0):=by rw[aC];exact e1
 have E1:=au Ti;have hs2:w.heap.size+2<=W1.heap.size:=af
 have l1s:(ws 1).length<=8192:=by rw[Cx];simp
 have hbel:=hB;have S0:=(mh hbel (AW.below hB) SK DK);clear hbel;clear e1 Ti AW hB SK DK hz1;go_enter Tryz.func209,Tryz.ntmps209;obtain⟨x0,x1,x2,_,_,_⟩:=S0.o.r2.1.facts;obtain⟨aD,AW,SK,DK⟩:=S0.o;have HC:=hid (fI 1 AW E1.o af af);clear aD AW SK DK
 go_upto_region 1 with fail
 rw[<-hW1];clear hW1;go_wp2_with fail;clear x0 x1 x2;refine HC.o.mono ?_;rintro r u1 ⟨v,rfl,hN,hb⟩;obtain⟨a1,c1,rfl,_⟩:=hN.arg af;clear HC;obtain⟨aD,AW,SK,DK⟩:=S0.o;have hbn:=aD.trans (hb.mono aD.size);have S1:=iq hbn (AW.below hb) (SK.below hb) (DK.below hb) (hN.mono aD.size);clear aD AW SK DK;clear hb hbn S0;clear hN;obtain⟨x0,x1,x2,_,_,_⟩:=S1.o.r2.1.facts;obtain⟨aD,AW,SK,DK,N2⟩:=S1.o;have HC:=hid (HM.o u1 _ _ aD (N2.cB af).2);clear aD AW SK DK N2;go_wp2_with fail;clear x0 x1 x2;refine HC.o.mono ?_;rintro r u2 ⟨⟨v,rfl,hN⟩,hb⟩;obtain⟨a7,c7,rfl,_⟩:=hN.arg af;clear HC;obtain⟨aD,AW,SK,DK,N2⟩:=S1.o;have hbn:=aD.trans (hb.mono aD.size);have S2:=rG hbn (AW.below hb) (SK.below hb) (DK.below hb) (N2.below hb) (hN.mono aD.size);clear aD AW SK DK N2;clear hb hbn S1;clear hN;obtain⟨aD,AW,SK,DK,N2,NV⟩:=S2.o;have hlast:=bM aD NV DK;obtain⟨s0,s1,s2,IG,II,IJ⟩:=DK.facts;clear aD AW SK DK N2 NV;clear S2 HM;go_wp2;obtain⟨aD,NZ,DK⟩:=hlast.o;have hsz:=aD.size;exact aJ (yE _ (w.heap.size+1) dn (.slice a7 (ws V).length c7) de er _ rfl rfl (DK.set _ _ _)) rfl ⟨⟨_,rfl,NZ.Pj DK aA _ _ _⟩,kP aD hsz af _ _ _⟩
theorem Pp {w:World}{a:Option Addr}{ca:Nat}(n:Bool) (W M2 M3:Nat) (x y E:Int) (dn:Bool) (V:Nat) (de er:Int) (AW:Arg w a (ws W).length ca (ws W)) (hx0:-10000000<=x) (hx1:x<=10000000)
 (e1:aX W 1=(M2,0)) (e2:vY M2 1=(M3,0)) (hy:x-1=y) (hE:min (max y (-4096)) 4096=E) (l2:(ws M2).length<=8192) (l3:(ws M3).length<=8192) (lV:(ws V).length<=8192)
 (HM:Hid (∀ (u:World) (p:Option Addr) (q:Nat),Below w.heap.size w u->Arg u p (ws M3).length q (ws M3)->Calls Tryz.prog 192 #[.bool n,.slice p (ws M3).length q,.int .i64 E] u fun r w'=>(∃ v,r=.returned (.tuple #[.agg #[.bool dn,v,.int .i64 de],.int .i64 er])/\Nt u.heap.size w' v V)/\Below u.heap.size u w')) :
 Calls Tryz.prog 209 #[.bool n,.agg #[.slice a (ws W).length ca,.int .i64 x,.bool false]] w fun r w'=>(∃ v,r=.returned (.tuple #[.agg #[.bool dn,v,.int .i64 de],.int .i64 er])/\Nt w.heap.size w' v V)/\Below w.heap.size w w':=by
 obtain⟨W1,hW1⟩:=ah ((w.alloc (.cells #[.slice a (ws W).length ca,.int .i64 x,.bool false] 231)).alloc (.cells #[.bool false,.slice none 0 0,.int .i64 0] 77));obtain⟨hB,hz1,SK,DK⟩:=Bo w _ x false W1 hW1;have Ti:aX (val (ws W)) 1=(M2,0):=by rw[aC];exact e1
 have e2':vY (val (ws M2)) (val (ws 1))=(M3,0):=by rw[aC,aC];exact e2
 have E2:=au e2';clear e2 e2';have E1:=au Ti;have hs2:w.heap.size+2<=W1.heap.size:=af
 have l1s:(ws 1).length<=8192:=by rw[Cx];simp
 have hbel:=hB;have S0:=(mh hbel (AW.below hB) SK DK);clear hbel;clear e1 Ti AW hB SK DK hz1;go_enter Tryz.func209,Tryz.ntmps209;obtain⟨x0,x1,x2,_,_,_⟩:=S0.o.r2.1.facts;obtain⟨aD,AW,SK,DK⟩:=S0.o;have HC:=hid (fI 1 AW E1.o af af);clear aD AW SK DK
 go_upto_region 1 with fail
 rw[<-hW1];clear hW1;go_wp2_with fail;clear x0 x1 x2;refine HC.o.mono ?_;rintro r u1 ⟨v,rfl,hN,hb⟩;obtain⟨a1,c1,rfl,_⟩:=hN.arg af;clear HC;obtain⟨aD,AW,SK,DK⟩:=S0.o;have hbn:=aD.trans (hb.mono aD.size);have S1:=iq hbn (AW.below hb) (SK.below hb) (DK.below hb) (hN.mono aD.size);clear aD AW SK DK;clear hb hbn S0;clear hN;obtain⟨x0,x1,x2,_,_,_⟩:=S1.o.r2.1.facts;obtain⟨aD,AW,SK,DK,N2⟩:=S1.o;have HC:=hid (ni 1 u1 af);clear aD AW SK DK N2;go_wp2_with fail;clear x0 x1 x2;refine HC.o.mono ?_;rintro r u2 ⟨v,rfl,hN,hb⟩;obtain⟨a5,c5,rfl,_⟩:=hN.arg af;clear HC;obtain⟨aD,AW,SK,DK,N2⟩:=S1.o;have hbn:=aD.trans (hb.mono aD.size);have S2:=rG hbn (AW.below hb) (SK.below hb) (DK.below hb) (N2.below hb) (hN.mono aD.size);clear aD AW SK DK N2;clear hb hbn S1;clear hN;obtain⟨aD,AW,SK,DK,N2,NO⟩:=S2.o;have HC:=hid (wI (N2.cB af).2 (NO.cB af).2 E2.o);clear aD AW SK DK N2 NO;go_wp2_with fail;refine HC.o.mono ?_;rintro r u3 ⟨v,rfl,hN,hb⟩;obtain⟨a6,c6,rfl,_⟩:=hN.arg af;clear HC;obtain⟨aD,AW,SK,DK,N2,NO⟩:=S2.o;have hbn:=aD.trans (hb.mono aD.size);have S3:=EF hbn (AW.below hb) (SK.below hb) (DK.below hb) (N2.below hb) (NO.below hb) (hN.mono aD.size);clear aD AW SK DK N2 NO;clear hb hbn S2;clear hN;obtain⟨x0,x1,x2,_,_,_⟩:=S3.o.r2.1.facts;obtain⟨aD,AW,SK,DK,N2,NO,N3⟩:=S3.o;have HC:=hid (HM.o u3 _ _ aD (N3.cB af).2);clear aD AW SK DK N2 NO N3;go_wp2_with fail;clear x0 x1 x2;refine HC.o.mono ?_;rintro r u4 ⟨⟨v,rfl,hN⟩,hb⟩;obtain⟨a7,c7,rfl,_⟩:=hN.arg af;clear HC;obtain⟨aD,AW,SK,DK,N2,NO,N3⟩:=S3.o;have hbn:=aD.trans (hb.mono aD.size);have S4:=EG hbn (AW.below hb) (SK.below hb) (DK.below hb) (N2.below hb) (NO.below hb) (N3.below hb) (hN.mono aD.size);clear aD AW SK DK N2 NO N3;clear hb hbn S3;clear hN;obtain⟨aD,AW,SK,DK,N2,NO,N3,NV⟩:=S4.o;have hlast:=bM aD NV DK;obtain⟨s0,s1,s2,IG,II,IJ⟩:=DK.facts;clear aD AW SK DK N2 NO N3 NV;clear S4 HM;go_wp2;obtain⟨aD,NZ,DK⟩:=hlast.o;have hsz:=aD.size;exact aJ (yE _ (w.heap.size+1) dn (.slice a7 (ws V).length c7) de er _ rfl rfl (DK.set _ _ _)) rfl ⟨⟨_,rfl,NZ.Pj DK aA _ _ _⟩,kP aD hsz af _ _ _⟩
theorem JS{w:World}{a:Option Addr}{ca:Nat}(n:Bool)(W:Nat)(x:Int)(t:Bool)(AW:Arg w a (ws W).length ca (ws W))(hT:bO w)(hx0:-10000000<=x)(hx1:x<=10000000)(hW:bl W<=1000) :
 Calls Tryz.prog 209 #[.bool n,.agg #[.slice a (ws W).length ca,.int .i64 x,.bool t]] w fun r w'=>dh w.heap.size w' r (mkS n (2*W+(if t then 0 else 1)) (jL x))/\Below w.heap.size w w':=by
 have hLW:¬ LG W:=fun k=>by have:=(oK W).1 k;omega
 have e1:aX W 1=(2*W,0):=by
  have:=qh (X:=W) (k:=1) (V:=2*W) hLW (.inr af) af;simpa using this
 have b2:∀ d,d<=1->bl (2*W+d)<=1001:=by
  intro d hd;have h1:=iF W;have h2:2*W+d<2^(bl W+1):=by rw[fw];omega
  by_cases h0:2*W+d=0
  · rw[h0,eY];omega
  · have:=(ku (a:=2) aA).1 (iC (iM _ h0) h2);have:=fH _ h0;omega
 have l8:∀ d,d<=1->(ws (2*W+d)).length<=8192/\¬ LG (2*W+d):=by
  intro d hd;have hb:=b2 d hd;have hn:¬ LG (2*W+d):=fun k=>by have:=(oK (2*W+d)).1 k;omega
  exact⟨by unfold LG at hn;omega,hn⟩
 have cl0:-4096<=jL x/\jL x<=4096:=by unfold jL;omega
 unfold dh;have hl:=bC n (2*W+(if t then 0 else 1)) (jL x)
 cases t with
 | true =>
   simp only[if_true,gU] at hl |-;refine JQ n W (2*W) 0 x _ _ _ _ _ _ AW hx0 hx1 e1 rfl rfl (l8 0 af).1 hl ?_;intro u p q hu hA;have:=fJ hA (hT.belows hu) n (jL x) af af;rw[aC] at this;exact this
 | false =>
   simp only[dY,if_false] at hl |-;refine Pp n W (2*W) (2*W+1) x _ _ _ _ _ _ AW hx0 hx1 e1 (wK (l8 1 af).2 rfl) rfl rfl (l8 0 af).1 (l8 1 af).1 hl ?_;intro u p q hu hA;have:=fJ hA (hT.belows hu) n (jL x) af af;rw[aC] at this;exact this
end
end Go.Proofs.YtaejmlkaefnbhaaGreatDoor
