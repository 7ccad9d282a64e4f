import Derived.Test.YtjppdacikihpdaaGreatDoorDB1x
import Derived.Test.YtjppdacikihpdaaGreatDoorZ26x
import Derived.Test.YtjppdacikihpdaaGreatDoorZ5x
import Derived.Deep.RegionHeld3
import Derived.Test.YtjppdacikihpdaaGreatDoorD32cx
import Derived.Deep.CutRange
import Derived.Test.YtjppdacikihpdaaGreatDoorU1x
import Derived.Test.YtjppdacikihpdaaGreatDoorD39x
import Derived.Test.YtjppdacikihpdaaGreatDoorD19x
import Derived.Test.YtjppdacikihpdaaGreatDoorD8x
import Derived.Test.YtjppdacikihpdaaGreatDoorS10x
import Derived.Deep.RegionWith
import Derived.Test.YtjppdacikihpdaaGreatDoorF2x
import Derived.Test.YtjppdacikihpdaaGreatDoorBIeeex
import Derived.Test.YtjppdacikihpdaaGreatDoorRQ7x
import Derived.BigQuiet
import Derived.Test.YtjppdacikihpdaaGreatDoorRS6x
set_option linter.unusedVariables false
set_option linter.unusedSimpArgs false
set_option maxHeartbeats 16000000
set_option maxRecDepth 20000
namespace Go.Proofs.YtjppdacikihpdaaGreatDoor
namespace J
end J
section
open Go.RowKit
theorem Er {w:World}{n m:Bool}{a b:Option Addr}{la ca lb cb:Nat}{e f:Int}(mode:Int) (k:Nat) (ng:Bool) (er:Int) (hk:k<9223372036854775808) (z:Nat) (hz:k+(if ng then 9223372036854775808 else 0)=z)
 (HR:Hid (∀u:World,An w u->At 120 #[.agg #[.int .i64 53,.int .i64 (-1074),.int .u64 9218868437227405312],.agg #[.bool n,.slice a la ca,.int .i64 e,.bool m,.slice b lb cb,.int .i64 f],.bool false,.int .i64 mode] u (.tuple #[.int .u64 (k:Nat),.bool ng,.int .i64 er]))) :
 At 73 #[.agg #[.bool n,.slice a la ca,.int .i64 e,.bool m,.slice b lb cb,.int .i64 f],.int .i64 mode] w (.tuple #[.float .f64 z,.int .i64 er]):=by
 obtain⟨W1,hW1⟩:=ah (w.alloc (.cells #[.bool n,.slice a la ca,.int .i64 e,.bool m,.slice b lb cb,.int .i64 f] 93));have hB:An w W1:=by rw[hW1];exact af _ _
 have Yt:Rq W1 w.heap.size n (.slice a la ca) e m (.slice b lb cb) f:=by rw[hW1];exact Rq.new _ _ _ _ _ _ _
 obtain⟨x0,x1,x2,x3,x4,x5⟩:=Yt.facts;have S0:=(bA hB Yt);have HWd:Hid (∀u:World,Ax 121 #[.int .u64 (k:Nat),.bool ng,.int .i64 er] u (.tuple #[.float .f64 z,.int .i64 er])):=hid λu=>by have h:=Kw k hk ng er u;rw[hz] at h;exact h
 clear hB Yt hk hz;go_enter Tryz.func73,Tryz.ntmps73
 go_upto_region 1 with fail
 rw[<-hW1];clear hW1;have T1:=hid (tZ W1);have T2:=hid (tZ W1.drew)
 go_region_held3 (λw'=>w'.cell? ⟨w.heap.size,0,none⟩=some (.bool n)/\w'.cell? ⟨w.heap.size,1,none⟩=some (.slice a la ca)/\w'.cell? ⟨w.heap.size,2,none⟩=some (.int .i64 e)/\w'.cell? ⟨w.heap.size,3,none⟩=some (.bool m)/\w'.cell? ⟨w.heap.size,4,none⟩=some (.slice b lb cb)/\w'.cell? ⟨w.heap.size,5,none⟩=some (.int .i64 f)) (go_keep) (first
  | (go_at_call 105
     first | with_reducible refine T1.o.mono ?_ | with_reducible refine T2.o.mono ?_
     rintro r v1 ⟨rfl,hb⟩;have hw:An W1 v1:=by first | exact hb | exact((aD _ W1).drew).trans (hb.mono (aA _))
     obtain⟨m0,m1,m2,m3,m4,m5⟩:=(S0.o.2.below hw).facts;have T3:=hid (HR.o v1 (S0.o.1.trans (hw.mono S0.o.1.size)));have S4:=(bA (S0.o.1.trans (hw.mono S0.o.1.size)) (S0.o.2.below hw))
     clear hb hw)
  | (go_at_call 120
     with_reducible refine T3.o.mono ?_
     rintro r v2 ⟨rfl,hb⟩;obtain⟨k0,k1,k2,k3,k4,k5⟩:=(S4.o.2.below hb).facts;have S5:=ak (S4.o.1.trans (hb.mono S4.o.1.size))
     clear hb))
 all_goals (
  go_wp2_with fail;refine(HWd.o _).mono ?_;rintro r v3 ⟨rfl,rfl⟩;go_wp2
  exact aH (v:=.tuple #[.float .f64 z,.int .i64 er]) (by simp[results,Tryz.results73,go_sem]) rfl ⟨rfl,S5.o⟩)
theorem Ih{v:Nat->Nat}{top n S:Nat}(G:Tx v top)(hn:n≠0)(hS:0<S):kg v top n 0 true 0 0 S :=
 ⟨by have:=G.one;omega,hS,λ_=>by rw[G.zero,Nat.zero_pow ae,fe],(λh=>by cases h),(λh=>by cases h),(λh=>by cases h)⟩
theorem Yy(e f:Int)(u n:Nat):l7 0 e f u n=0:=by unfold l7;rw[fe]
theorem rS_pos{Y:Nat}(h:Y≠0)(e f:Int)(u n:Nat):0<l9 Y e f u n:=by unfold l9;exact jh ae (bG _)
theorem Qm{X:Nat}{n:Bool}{e:Int}{Y:Nat}{m:Bool}{f:Int}(h:oI X n e Y m f=0):(mkS n X e).isSome=true/\(mkS m Y f).isSome=true/\dX (mkS m Y f)≠0:=by
 unfold oI at h
 split at h
 . cases h
 . split at h
   . rename_i h2;rw[yh] at h2
     split at h
     . cases h
     . rename_i h3;exact⟨h2.1,h2.2,h3⟩
   . cases h
theorem ME{w:World}{n m:Bool}{a b:Option Addr}{la ca lb cb X Y:Nat}{e f:Int}(mode:Int)(hN:Al w (.slice a la ca) X)(hD:Al w (.slice b lb cb) Y)(be:-9223372036854775808<=e/\e<=9223372036854775807)(bf:-9223372036854775808<=f/\f<=9223372036854775807) :
 At 73 #[.agg #[.bool n,.slice a la ca,.int .i64 e,.bool m,.slice b lb cb,.int .i64 f],.int .i64 mode] w (.tuple #[.float .f64 (nI jJ ⟨n,.slice a la ca,X,e,m,.slice b lb cb,Y,f⟩ mode).1,.int .i64 (nI jJ ⟨n,.slice a la ca,X,e,m,.slice b lb cb,Y,f⟩ mode).2]):=by
 by_cases hm:mode<0\/4<mode
 . have e1:nI jJ ⟨n,.slice a la ca,X,e,m,.slice b lb cb,Y,f⟩ mode=(0,1):=by unfold nI;rw[if_pos hm]
   rw[e1];exact Er mode 0 false 1 ae 0 rfl (hid λu hu=>Ep (X:=X) (Y:=Y) _ _ _ _ mode hm)
 . have hm0:0<=mode:=ae
   have qM:mode<=4:=ae
   have el:=zB ⟨n,.slice a la ca,X,e,m,.slice b lb cb,Y,f⟩
   by_cases h0:oI X n e Y m f=0
   . obtain⟨s1,s2,hY⟩:=Qm h0;have F1:=vH s1;have F2:=vH s2;have ez:kV (Pv ⟨n,.slice a la ca,X,e,m,.slice b lb cb,Y,f⟩) 1=0:=el.trans h0
     obtain⟨K,t,mm,L,hq⟩:∃K t mm,kg vK 9218868437227405312 1 K t mm (l7 (dX (mkS n X e)) (dE (mkS n X e)) (dE (mkS m Y f)) 1074 1) (l9 (dX (mkS m Y f)) (dE (mkS n X e)) (dE (mkS m Y f)) 1074 1)/\jJ (mQ (dN (mkS n X e)) (dX (mkS n X e)) (dE (mkS n X e)) (dX (mkS m Y f)) (dE (mkS m Y f))) mode=((if t then K else if lU mode K mm (dN (mkS n X e)) then K+1 else K)+(if (dN (mkS n X e)) then 9223372036854775808 else 0),0):=by
      rcases F1.odd with h|⟨h1,h2,h3⟩
      . obtain⟨K,t,mm,L,hq⟩:=TK (dN (mkS n X e)) (dX (mkS n X e)) (dE (mkS n X e)) (dX (mkS m Y f)) (dE (mkS m Y f)) h hY F1.size F2.size;exact⟨K,t,mm,L,by have q:=hq mode hm0 qM;rw[q];rfl⟩
      . refine⟨0,true,0,?_,?_⟩
        . rw[h1,Yy];exact Ih D6 ae (rS_pos hY _ _ _ _)
        . rw[h1,Gx _ _ _ _ hY F2.size];unfold jJ;rw[if_neg ae];simp[h2]
     have hfin:=L.fin
     have e1:nI jJ ⟨n,.slice a la ca,X,e,m,.slice b lb cb,Y,f⟩ mode=((if t then K else if lU mode K mm (dN (mkS n X e)) then K+1 else K)+(if dN (mkS n X e) then 9223372036854775808 else 0),0):=by
      unfold nI;simp only;rw[if_neg hm,if_pos ez];exact hq
     rw[e1];refine Er mode _ (dN (mkS n X e)) 0 (by split;omega;split <;> omega) _ rfl (hid λu hu=>?_);refine KA _ _ _ _ mode hm0 qM (hN.below hu) (hD.below hu) be bf _ _ rfl rfl _ h0 rfl (.inl rfl) _ (hid λx p q lx cx ly cy hx A1 A2=>?_);exact Yw Yv A1 A2 ⟨F1.down,F1.up⟩ ⟨F2.down,F2.up⟩ F2.size (.inl rfl) L false rfl mode hm0 qM
   . have ez:kV (Pv ⟨n,.slice a la ca,X,e,m,.slice b lb cb,Y,f⟩) 1=oI X n e Y m f:=el;have e1:nI jJ ⟨n,.slice a la ca,X,e,m,.slice b lb cb,Y,f⟩ mode=(0,oI X n e Y m f):=by unfold nI;rw[if_neg hm,if_neg (by rw[ez];exact h0),ez]
     rw[e1];exact Er mode 0 false _ ae 0 rfl (hid λu hu=>Ig _ _ _ _ mode hm0 qM (hN.below hu) (hD.below hu) be bf _ _ rfl rfl _ rfl h0)
end
section
open Go.RowKit J
theorem fo_iv(V:Int)(m:Nat)(hm:m<=100000)(hV:V.natAbs<2^m):Iv (EC V) (-1074) ((m:Int)-1074):=by
 unfold EC;refine vI _ _ _ _ _ (.inr ⟨ae,?_⟩) ae ae ae;have:=eY hV;omega
theorem fo_fm(V:Int)(m:Nat)(hm:m<=100000)(hV:V.natAbs<2^m):Fm (EC V):=(fo_iv V m hm hV).fm
theorem YX(k:Nat)(hk:k=1074):YY=2^k*XX:=by
 rw[Y_eq,X_eq,<-aP,show k+EX=EY by rw[hk];decide]
theorem U9{x:Nat}(hx:x<18446744073709551616):(9218868437227405312<bB x/\kd x=5)\/(bB x=9218868437227405312/\dH x=true/\kd x=4)\/(bB x=9218868437227405312/\dH x=false/\kd x=3)\/(bB x<9218868437227405312/\kd x<=2):=by
 have e:bB x=x%9223372036854775808:=rfl;have e2:dH x=decide (9223372036854775808<=x):=rfl;rw[e,e2];unfold kd
 by_cases h1:9218868437227405312<x%9223372036854775808
 . exact .inl ⟨h1,if_pos h1⟩
 . rw[if_neg h1]
   by_cases h2:x%9223372036854775808=9218868437227405312
   . rw[if_pos h2]
     by_cases h3:x/9223372036854775808=1
     . exact .inr (.inl ⟨h2,decide_eq_true ae,if_pos h3⟩)
     . exact .inr (.inr (.inl ⟨h2,decide_eq_false ae,if_neg h3⟩))
   . rw[if_neg h2];refine .inr (.inr (.inr ⟨ae,?_⟩))
     repeat' split
     all_goals omega
end
section
open Go.RowKit
theorem Yz(b:Bool)(X:Nat)(e:Int)(a:Option Addr)(c:Nat)(w:World)(hA:Arg w a (ws X).length c (ws X))(hbl:bl X<=262144)(he0:-2000000<=e)(he1:e<=2000000) :
 At 160 #[.agg #[.bool b,.slice a (ws X).length c,.int .i64 e]] w (.bool (decide ((2090:Int)<(bl X:Int)+e))):=by
 have HL:Hid (∀u:World,An w u->Ax 194 #[.slice a (ws X).length c] u (.int .i64 (bl X:Nat))):=λu hb=>by
  have hA':=hA.below hb;have h8:=hA'.big;have:=nk (ws X) a (ws X).length c u.heap.size u rfl ae hA'.wf hA'.rd;exact Qab
 obtain⟨W,hW⟩:=ah (w.alloc (Obj.cells #[.bool b,.slice a (ws X).length c,.int .i64 e] 79));have HD:Aside (Dk W w.heap.size b (.slice a (ws X).length c) e/\An w W):=by rw[hW];exact⟨Dk.new _ _ _ _,aC _ _⟩
 have HW:=ak hW;obtain⟨B,hB⟩:∃B:Nat,B=bl X:=⟨_,rfl⟩;rw[<-hB] at HL hbl |-;have hwr:IntKind.i64.wrap ((B:Int)+e)=(B:Int)+e:=by rw[QD];omega
 clear hA hW hB;go_enter Tryz.func160,Tryz.ntmps160
 go_upto_region 1 with fail
 rw[<-HW.o];have kS:Aside (W.drew.cell? ⟨w.heap.size,1,none⟩=some (.slice a (ws X).length c)/\W.drew.cell? ⟨w.heap.size,2,none⟩=some (.int .i64 e)):=⟨HD.o.1.facts.2.1,HD.o.1.facts.2.2.1⟩
 go_region_held3 (λw'=>w'.cell? ⟨w.heap.size,1,none⟩=some (.slice a (ws X).length c)/\w'.cell? ⟨w.heap.size,2,none⟩=some (.int .i64 e)) (with_reducible exact kS.o) (first
  | (go_at_call 194
     with_reducible refine(HL.o _ HD.o.2.drew).mono ?_
     rintro r u ⟨rfl,rfl⟩))
 all_goals (
  clear kS;go_wp2
  refine aH (v:=.bool (decide ((2090:Int)<(B:Int)+e))) (by simp[results,Tryz.results160,go_sem]) rfl ⟨rfl,HD.o.2.drew⟩)
theorem Nt.stay{lo lo':Nat}{w w':World}{v:Value}{X:Nat}(h:Nt lo w v X)(hb:∀g,lo<=g->w'.heap[g]?=w.heap[g]?)(hl:lo'<=lo):Nt lo' w' v X:=by
 refine⟨h.1,?_⟩;rcases h.2 with hn|⟨g,cap,cur,rfl,hlo,hgc,rest⟩
 . exact .inl hn
 . exact .inr ⟨g,cap,cur,rfl,ae,(hb g hlo).trans hgc,rest⟩
theorem mM{B:Nat}{a w:World}{g i:Nat}{v:Value}(hg:B<=g)(h:Below B a w):Below B a (w.setCell ⟨g,i,none⟩ v):=h.trans ⟨rfl,rfl,rfl,by simp[World.setCell],λk hk=>Below.heap_setCell _ _ _ _ (by simp;omega)⟩
theorem YA(x k:Nat)(w:World)(HK:Hid (∀u:World,Ax 162 #[.float .f64 x] u (.int .i64 (k:Nat))))(hk:((k:Int)==0)=false) :
 At 104 #[.float .f64 x] w (.agg #[.int .i64 (k:Nat),.bool false,.slice none 0 0,.int .i64 0]):=by
 have hne:w.heap.size≠w.heap.size+1:=ae
 go_enter Tryz.func104,Tryz.ntmps104;go_wp2_with fail;refine(HK.o _).mono ?_;rintro r w1 ⟨rfl,rfl⟩;clear HK;go_wp2;exact aH (v:=.agg #[.int .i64 (k:Nat),.bool false,.slice none 0 0,.int .i64 0]) (by simp[results,Tryz.results104,go_sem]) rfl ⟨rfl,by first | exact(aC _ _).trans ((aC _ _).mono aN) | exact mM aN ((aC _ _).trans ((aC _ _).mono aN))⟩
end
section
open Go.RowKit J
attribute [local go_sem] cZ
theorem sJ{x:Nat}(hx:x<18446744073709551616):(kd x=5/\j5 x=4)\/((kd x=3\/kd x=4)/\j5 x=3/\LF x=dH x)\/((kd x=1\/kd x=2)/\j5 x=0/\LF x=dH x/\bO x/\vC x=0)\/(kd x=0/\(j5 x=1\/j5 x=2)/\LF x=dH x/\bO x):=by
 rcases U9 hx with ⟨a1,a2⟩|⟨a1,a2,a3⟩|⟨a1,a2,a3⟩|⟨a1,a2⟩
 . exact .inl ⟨a2,DU a1⟩
 . exact .inr (.inl ⟨.inr a3,(vD a1).1,(vD a1).2⟩)
 . exact .inr (.inl ⟨.inl a3,(vD a1).1,(vD a1).2⟩)
 . have fx:bO x:=a1;obtain⟨p1,p2,p3,p4⟩:=iP hx fx
   by_cases h0:bB x=0
   . have hk:kd x=1\/kd x=2:=by
      have e:x%9223372036854775808=0:=h0;unfold kd;rw[if_neg ae,if_neg ae,if_pos e]
      split
      . exact .inl rfl
      . exact .inr rfl
     rw[h0,D8] at p2
     have hfr:wT x=0:=by
      exact Qbz
     refine .inr (.inr (.inl ⟨hk,?_,p1,fx,?_⟩))
     . rcases p4 with q | q
       . exact q.1
       . exact absurd hfr q.2
     . unfold vC;rw[h0,D8]
       cases dH x <;> rfl
   . have hk:kd x=0:=by
      have e:¬ x%9223372036854775808=0:=h0;have e2:x%9223372036854775808<9218868437227405312:=a1;unfold kd;rw[if_neg ae,if_neg ae,if_neg e]
     refine .inr (.inr (.inr ⟨hk,?_,p1,fx⟩));rcases p4 with q|q
     . exfalso;rw[q.2,fe] at p2;have:=(Gp (K:=0) (L:=bB x)).2 ae;omega
     . exact q.1
theorem Es{x:Nat}(h:bO x)(h0:vC x=0):oZ x=GA:=by
 rw[Em h];unfold oW;rw[h0];exact fP _ _
theorem rOf7y(x:Nat)(w:World)(hx:x<18446744073709551616)(fx:bO x)(hk:kd x=0) :
 As 104 #[.float .f64 x] w λr w'=>(∃v,r=.returned (.agg #[.int .i64 0,.bool (dN (oZ x)),v,.int .i64 (dE (oZ x))])/\Nt w.heap.size w' v (dX (oZ x)))/\An w w':=by
 have HK:=hid (λu:World=>zF x hx u);rw[hk] at HK;have HO:=hid (λu:World=>TY x hx fx u);have FX:=ak (oW_fm x hx fx);rw[Em fx];obtain⟨ox,hox⟩:=ah (oW x);rw[<-hox] at HO FX |-;have hne:w.heap.size≠w.heap.size+1:=ae
 obtain⟨W,hW⟩:=ah ((w.alloc (Obj.cells #[.int .i64 0,.bool false,.slice none 0 0,.int .i64 0] 133)).alloc (Obj.cells #[.int .i64 0,.bool false,.slice none 0 0,.int .i64 0] 133))
 have HD:Aside (Bl W w.heap.size 133 [.int .i64 0,.bool false,.slice none 0 0,.int .i64 0]/\Bl W (w.heap.size+1) 133 [.int .i64 0,.bool false,.slice none 0 0,.int .i64 0]/\An w W/\W.heap.size=w.heap.size+2):=by
  rw[hW];exact⟨(Bl.new w 133 [_,_,_,_]).alloc _,Bl.new' (w.alloc _) 133 _ [_,_,_,_] aN,(aC _ _).trans ((aC _ _).mono aN),aN⟩
 have GK:=ak hW;clear hW hx fx hk hox;go_enter Tryz.func104,Tryz.ntmps104;go_wp2_with fail;refine(HK.o _).mono ?_;rintro r w1 ⟨rfl,rfl⟩;clear HK
 go_upto_region 2 with fail
 first | rw[<-GK.o] | skip
 have z0:=HD.o.2.1.cell 0 _ rfl;go_wp2_with fail;refine(HO.o W).mono ?_;rintro r u ⟨⟨v1,rfl,hN1⟩,hb1⟩;obtain⟨a1,c1,rfl,hN0⟩:=Lo.shape FX.o hN1;have D1:=HD.o.1.below hb1 HD.o.1.lt;have D2:=HD.o.2.1.below hb1 HD.o.2.1.lt;obtain⟨U,hU⟩:=ah (((u.setCell ⟨w.heap.size+1,1,none⟩ (.bool (dN ox))).setCell ⟨w.heap.size+1,2,none⟩ (.slice a1 (ws (dX ox)).length c1)).setCell ⟨w.heap.size+1,3,none⟩ (.int .i64 (dE ox)));have s0:=D2.cell 0 _ rfl;have s1:=D2.cell 1 _ rfl;have s2:=D2.cell 2 _ rfl;have s3:=D2.cell 3 _ rfl;have g1:=D2.frozen 1;have g2:=D2.frozen 2;have g3:=D2.frozen 3
 have HN:Aside (Bl U w.heap.size 133 [.int .i64 0,.bool false,.slice none 0 0,.int .i64 0]/\Bl U (w.heap.size+1) 133 [.int .i64 0,.bool (dN ox),.slice a1 (ws (dX ox)).length c1,.int .i64 (dE ox)]/\Nt (w.heap.size+2) U (.slice a1 (ws (dX ox)).length c1) (dX ox)/\An w U):=by
  have hz:=HD.o.r3;rw[hU];refine⟨Bl.but D1 ((((But.refl _ _).set 1 _).set 2 _).set 3 _) hne,((D2.set 1 _).set 2 _).set 3 _,?_,?_⟩
  . refine(hN1.mono (show w.heap.size+2<=W.heap.size by omega)).stay (λg hg=>?_) (aA _);rw[Below.heap_setCell _ _ _ _ (by simp;omega),Below.heap_setCell _ _ _ _ (by simp;omega),Below.heap_setCell _ _ _ _ (by simp;omega)]
  . have:=HD.o.r2.1.trans (hb1.mono HD.o.r2.1.size);exact mM ae (mM ae (mM ae this))
 have HU:=ak hU;clear hU hN1 hN0 hb1 HO D1 D2 HD GK z0
 go_upto_region 4 with fail
 rw[<-HU.o];clear HU s0 s1 s2 s3 g1 g2 g3;have q0:=HN.o.1.cell 0 _ rfl;have q1:=HN.o.1.cell 1 _ rfl;have q2:=HN.o.1.cell 2 _ rfl;have q3:=HN.o.1.cell 3 _ rfl;have f0:=HN.o.1.frozen 0;have f1:=HN.o.1.frozen 1;have f2:=HN.o.1.frozen 2;have f3:=HN.o.1.frozen 3;have s0:=HN.o.2.1.cell 0 _ rfl;have s1:=HN.o.2.1.cell 1 _ rfl;have s2:=HN.o.2.1.cell 2 _ rfl;have s3:=HN.o.2.1.cell 3 _ rfl
 have HF:Aside (Bl ((((U.setCell ⟨w.heap.size,0,none⟩ (.int .i64 0)).setCell ⟨w.heap.size,1,none⟩ (.bool (dN ox))).setCell ⟨w.heap.size,2,none⟩ (.slice a1 (ws (dX ox)).length c1)).setCell ⟨w.heap.size,3,none⟩ (.int .i64 (dE ox))) w.heap.size 133 [.int .i64 0,.bool (dN ox),.slice a1 (ws (dX ox)).length c1,.int .i64 (dE ox)]/\Nt w.heap.size ((((U.setCell ⟨w.heap.size,0,none⟩ (.int .i64 0)).setCell ⟨w.heap.size,1,none⟩ (.bool (dN ox))).setCell ⟨w.heap.size,2,none⟩ (.slice a1 (ws (dX ox)).length c1)).setCell ⟨w.heap.size,3,none⟩ (.int .i64 (dE ox))) (.slice a1 (ws (dX ox)).length c1) (dX ox)/\An w ((((U.setCell ⟨w.heap.size,0,none⟩ (.int .i64 0)).setCell ⟨w.heap.size,1,none⟩ (.bool (dN ox))).setCell ⟨w.heap.size,2,none⟩ (.slice a1 (ws (dX ox)).length c1)).setCell ⟨w.heap.size,3,none⟩ (.int .i64 (dE ox)))):=by
  refine⟨(((HN.o.1.set 0 _).set 1 _).set 2 _).set 3 _,?_,?_⟩
  . refine HN.o.r2.1.stay (λg hg=>?_) ae;rw[Below.heap_setCell _ _ _ _ (by simp;omega),Below.heap_setCell _ _ _ _ (by simp;omega),Below.heap_setCell _ _ _ _ (by simp;omega),Below.heap_setCell _ _ _ _ (by simp;omega)]
  . exact mM (aA _) (mM (aA _) (mM (aA _) (mM (aA _) HN.o.r3)))
 clear HN;go_wp2;have t0:=HF.o.1.cell 0 _ rfl;have t1:=HF.o.1.cell 1 _ rfl;have t2:=HF.o.1.cell 2 _ rfl;have t3:=HF.o.1.cell 3 _ rfl;refine aH (v:=.agg #[.int .i64 0,.bool (dN ox),.slice a1 (ws (dX ox)).length c1,.int .i64 (dE ox)]) (by simp[results,Tryz.results104,go_sem,t0,t1,t2,t3]) rfl ⟨⟨_,rfl,HF.o.2.1⟩,HF.o.r2⟩
theorem rOf7x(x:Nat)(w:World)(hx:x<18446744073709551616) :
 As 104 #[.float .f64 x] w λr w'=>(∃v,r=.returned (.agg #[.int .i64 (kd x:Nat),.bool (dN (oZ x)),v,.int .i64 (dE (oZ x))])/\Nt w.heap.size w' v (dX (oZ x)))/\An w w':=by
 have no:∀k:Nat,kd x=k->((k:Int)==0)=false->oZ x=GA->As 104 #[.float .f64 x] w λr w'=>(∃v,r=.returned (.agg #[.int .i64 (kd x:Nat),.bool (dN (oZ x)),v,.int .i64 (dE (oZ x))])/\Nt w.heap.size w' v (dX (oZ x)))/\An w w':=λk hk h0 ho=>by
  refine(YA x k w (hid (λu=>by have:=zF x hx u;rw[hk] at this;exact this)) h0).mono ?_;rintro r w' ⟨rfl,hb⟩;rw[ho,hk];exact⟨⟨_,rfl,Nt.nil _ _⟩,hb⟩
 rcases sJ hx with ⟨k,c⟩|⟨k,c,_⟩|⟨k,c,n,f,v⟩|⟨k,c,n,f⟩
 . refine no 5 k rfl (vX ?_);intro f;rcases(iP hx f).2.2.2 with q|q <;> omega
 . have nf:¬ bO x:=by intro f;rcases(iP hx f).2.2.2 with q | q <;> omega
   rcases k with k|k
   . exact no 3 k rfl (vX nf)
   . exact no 4 k rfl (vX nf)
 . rcases k with k | k
   . exact no 1 k rfl (Es f v)
   . exact no 2 k rfl (Es f v)
 . rw[k];exact rOf7y x w hx f k
end
section
open Go.RowKit J
attribute [local go_sem] cZ
def EI(j:Nat):Bool:=((j:Int)==1) || ((j:Int)==2)
def xc(j:Nat):Bool:=((j:Int)==3) || ((j:Int)==4)
def na7(x y:Nat):Bool:=((kd x:Int)==5) || ((kd y:Int)==5) || ((EI (kd x) || EI (kd y))&&(xc (kd x) || xc (kd y)))
theorem Qb6{P:Prop}(h:P:=by
 exfalso;rcases k with k | k <;> rw[k,k'] at h <;> simp[EI,xc] at h):P:=h
theorem Qb1{P:Prop}(h:P:=by
 exfalso;rcases k' with k' | k' <;> rw[k,k'] at h <;> simp[EI,xc] at h):P:=h
theorem Qbl{P:Prop}(h:P:=by
 exfalso;rcases k with k | k <;> rcases k' with k' | k' <;> rw[k,k'] at h <;> simp[EI,xc] at h):P:=h
theorem xd{P:Prop}(h:P:=by
 exfalso;rcases k with k | k <;> rw[k] at h <;> simp[xc] at h):P:=h
theorem js{P:Prop}(h:P:=by
 have e:pK x y=1:=by unfold pK pk;rw[c,c',if_pos (.inr ae)]
 refine⟨λ_=>⟨e,tz ae⟩,λh=>?_,λh=>?_,λh=>?_⟩
 all_goals exfalso;rcases k with k | k <;> rcases k' with k' | k' <;> rw[k,k'] at h <;> simp[EI,xc] at h):P:=h
theorem yi{P:Prop}(h:P:=by
 refine⟨λ_=>⟨e,tz ae⟩,(λh=>by simp at h),(λh=>by simp at h),(λh=>by simp at h)⟩):P:=h
theorem prod7{x y:Nat}(hx:x<18446744073709551616)(hy:y<18446744073709551616) :
 (na7 x y=true->pK x y=1/\pT x y=0)/\(na7 x y=false->(xc (kd x) || xc (kd y))=true->(bB x<=9218868437227405312/\bB y<=9218868437227405312)/\pK x y=(if (dH x != dH y) then 3 else 2)/\pT x y=0) /\
 (na7 x y=false->(xc (kd x) || xc (kd y))=false->(EI (kd x) || EI (kd y))=true->(bB x<=9218868437227405312/\bB y<=9218868437227405312)/\pK x y=(if (dH x != dH y) then 4 else 5)/\pT x y=0) /\
 (na7 x y=false->(xc (kd x) || xc (kd y))=false->(EI (kd x) || EI (kd y))=false->bO x/\bO y/\pK x y=0):=by
 have Iy:∀a b:Bool,(!a==b)=(a != b):=aM
 have inf:∀z:Nat,j5 z=3->bB z<=9218868437227405312:=λz h=>by
  rcases iE 9218868437227405312 (bB z) with q|q
  . rw[DU q] at h;omega
  . exact q
 have tz:pK x y≠0->pT x y=0:=λh=>by unfold pT;unfold pK at h;exact p8 h
 unfold na7;rcases sJ hx with ⟨k,c⟩|⟨k,c,n⟩|⟨k,c,n,f,v⟩|⟨k,c,n,f⟩
 . have e:pK x y=1:=by
    unfold pK pk;rw[c,if_pos (.inl (by have:=Tw y;omega))]
   rw[k];exact yi
 . rcases sJ hy with ⟨k',c'⟩ | ⟨k',c',n'⟩ | ⟨k',c',n',f',v'⟩ | ⟨k',c',n',f'⟩
   . have e:pK x y=1:=by unfold pK pk;rw[c,c',if_pos (.inl ae)]
     rw[k'];exact yi
   . have e:pK x y=(if (dH x != dH y) then 3 else 2):=by unfold pK pk;rw[c,c',n,n',Iy,if_neg ae,if_pos ae]
     have e0:pK x y≠0:=by rw[e];split <;> omega
     refine⟨λh=>?_,λ_ _=>⟨⟨inf x c,inf y c'⟩,e,tz e0⟩,λ_ h=>?_,λ_ h=>?_⟩
     . exact Qbl
     . exact xd
     . exact xd
   . exact js
   . have e:pK x y=(if (dH x != dH y) then 3 else 2):=by unfold pK pk;rw[c,n,n',Iy,if_neg ae,if_pos ae]
     have e0:pK x y≠0:=by rw[e];split <;> omega
     have hyf:bB y<=9218868437227405312:=fU f';refine⟨λh=>?_,λ_ _=>⟨⟨inf x c,hyf⟩,e,tz e0⟩,λ_ h=>?_,λ_ h=>?_⟩
     . exact Qb6
     . exact xd
     . exact xd
 . have hxf:bB x<=9218868437227405312:=fU f;rcases sJ hy with ⟨k',c'⟩|⟨k',c',n'⟩|⟨k',c',n',f',v'⟩|⟨k',c',n',f'⟩
   . have e:pK x y=1:=by unfold pK pk;rw[c,c',if_pos (.inl ae)]
     rw[k'];exact yi
   . exact js
   . have e:pK x y=(if (dH x != dH y) then 4 else 5):=by unfold pK pk;rw[c,c',n,n',Iy,if_neg ae,if_neg ae,if_pos ae]
     have e0:pK x y≠0:=by rw[e];split <;> omega
     have hyf:bB y<=9218868437227405312:=fU f';refine⟨λh=>?_,λ_ h=>?_,λ_ _ _=>⟨⟨hxf,hyf⟩,e,tz e0⟩,λ_ _ h=>?_⟩
     . exact Qbl
     . exfalso;rcases k with k | k <;> rcases k' with k' | k' <;> rw[k,k'] at h <;> simp[xc] at h
     . exfalso;rcases k with k | k <;> rw[k] at h <;> simp[EI] at h
   . have e:pK x y=(if (dH x != dH y) then 4 else 5):=by unfold pK pk;rw[c,n,n',Iy,if_neg ae,if_neg ae,if_pos ae]
     have e0:pK x y≠0:=by rw[e];split <;> omega
     have hyf:bB y<=9218868437227405312:=fU f';refine⟨λh=>?_,λ_ h=>?_,λ_ _ _=>⟨⟨hxf,hyf⟩,e,tz e0⟩,λ_ _ h=>?_⟩
     . exact Qb6
     . exfalso;rcases k with k | k <;> rw[k,k'] at h <;> simp[xc] at h
     . exfalso;rcases k with k | k <;> rw[k] at h <;> simp[EI] at h
 . have hxf:bB x<=9218868437227405312:=fU f;rcases sJ hy with ⟨k',c'⟩|⟨k',c',n'⟩|⟨k',c',n',f',v'⟩|⟨k',c',n',f'⟩
   . have e:pK x y=1:=by unfold pK pk;rw[c',if_pos (.inl ae)]
     rw[k'];exact yi
   . have e:pK x y=(if (dH x != dH y) then 3 else 2):=by unfold pK pk;rw[c',n,n',Iy,if_neg ae,if_pos ae]
     have e0:pK x y≠0:=by rw[e];split <;> omega
     refine⟨λh=>?_,λ_ _=>⟨⟨hxf,inf y c'⟩,e,tz e0⟩,λ_ h=>?_,λ_ h=>?_⟩
     . exact Qb1
     . exfalso;rcases k' with k' | k' <;> rw[k'] at h <;> simp[xc] at h
     . exfalso;rcases k' with k' | k' <;> rw[k'] at h <;> simp[xc] at h
   . have e:pK x y=(if (dH x != dH y) then 4 else 5):=by unfold pK pk;rw[c',n,n',Iy,if_neg ae,if_neg ae,if_pos ae]
     have e0:pK x y≠0:=by rw[e];split <;> omega
     have hyf:bB y<=9218868437227405312:=fU f';refine⟨λh=>?_,λ_ h=>?_,λ_ _ _=>⟨⟨hxf,hyf⟩,e,tz e0⟩,λ_ _ h=>?_⟩
     . exact Qb1
     . exfalso;rcases k' with k' | k' <;> rw[k,k'] at h <;> simp[xc] at h
     . exfalso;rcases k' with k' | k' <;> rw[k'] at h <;> simp[EI] at h
   . have e:pK x y=0:=by unfold pK pk;rw[if_neg ae,if_neg ae,if_neg ae]
     refine⟨λh=>?_,λ_ h=>?_,λ_ _ h=>?_,λ_ _ _=>⟨f,f',e⟩⟩
     all_goals exfalso;rw[k,k'] at h;simp[EI,xc] at h
end
section
open Go.RowKit J
attribute [local go_sem] cZ
def Lt(w:World)(g:Nat)(k:Nat)(o:Option (Bool×Nat×Int)):Prop:=∃a c,Bl w g 133 [.int .i64 (k:Nat),.bool (dN o),.slice a (ws (dX o)).length c,.int .i64 (dE o)]/\Nt 0 w (.slice a (ws (dX o)).length c) (dX o)
theorem Qb2{P:Prop}(h:P:=by
 obtain⟨a,c,h1,h2⟩:=h;exact⟨a,c,h1.below hb h1.lt,h2.below hb⟩):P:=h
theorem Lt.below{w w':World}{g k:Nat}{o:Option (Bool×Nat×Int)}(h:Lt w g k o)(hb:An w w'):Lt w' g k o:=by
 exact Qb2
theorem Lt.new{w:World}{k:Nat}{o:Option (Bool×Nat×Int)}{a:Option Addr}{c:Nat}(hN:Nt 0 w (.slice a (ws (dX o)).length c) (dX o)):Lt (w.alloc (Obj.cells #[.int .i64 (k:Nat),.bool (dN o),.slice a (ws (dX o)).length c,.int .i64 (dE o)] 133)) w.heap.size k o :=
 ⟨a,c,Bl.new w 133 [_,_,_,_],hN.below (af _ _)⟩
end
section
open Go.RowKit J
attribute [local go_sem] cZ
def laC(o:Option (Bool×Nat×Int))(a:Option Addr)(c:Nat)(s:Sp):List Value:=[.bool (dN o),.slice a (ws (dX o)).length c,.int .i64 (dE o),.int .i64 s.n,.int .i64 s.u,.int .i64 s.d,.int .i64 s.m,.int .i64 s.p,.int .i64 s.a]
def La(w:World)(g:Nat)(o:Option (Bool×Nat×Int))(s:Sp):Prop:=∃a c,Bl w g 103 (laC o a c s)/\Nt 0 w (.slice a (ws (dX o)).length c) (dX o)
theorem La.below{w w':World}{g:Nat}{o:Option (Bool×Nat×Int)}{s:Sp}(h:La w g o s)(hb:An w w'):La w' g o s:=by
 exact Qb2
theorem La.lt{w:World}{g:Nat}{o:Option (Bool×Nat×Int)}{s:Sp}(h:La w g o s):g<w.heap.size:=by
 obtain⟨a,c,h1,h2⟩:=h;exact h1.lt
theorem Nt.YB{lo g T:Nat}{w w':World}{v:Value}{X:Nat}{C:List Value}(h:Nt lo w v X)(hB:Bl w g T C)(hT:T≠162)(hb:But g w w'):Nt lo w' v X:=by
 refine h.off hb ?_;rcases h.2 with ⟨rfl,_⟩|⟨g',cap,cur,rfl,_,hg,_⟩
 . simp[Value.ownBlock]
 . intro e';obtain rfl:g'=g:=by simpa [Value.ownBlock] using e'
   rw[show w.heap[g']?=_ from hB] at hg;simp at hg;exact hT hg.2
theorem Va{V:Int}(j:Nat)(hj:j=4238)(hV:V.natAbs<2^j):decide ((2090:Int)<(bl (dX (ig V)):Int)+dE (ig V))=false/\bl (dX (ig V))<=262144/\-2000000<=dE (ig V)/\dE (ig V)<=2000000:=by
 obtain⟨n,X,e,ho,F,hx⟩:=GH V j ae hV;rw[ho];have h1:=F.size;have h2:=F.down;have h3:=F.up;show decide ((2090:Int)<(bl X:Int)+e)=false/\bl X<=262144/\-2000000<=e/\e<=2000000;refine⟨decide_eq_false ?_,h1,ae,ae⟩;rcases hx with h|⟨h4,h5⟩
 . rcases F.odd with q | ⟨_,q,_⟩
   . omega
   . have hb:bl 0=0:=aM
     rcases F.odd with r|⟨r1,r2,r3⟩
     . omega
     . subst h;rw[hb];omega
 . omega
end
section
open Go.RowKit J
attribute [local go_sem] cZ
theorem Bl.vZ{w:World}{g T:Nat}{a b c d e f h i j:Value}(H:Bl w g T [a,b,c,d,e,f,h,i,j]):(w.cell? ⟨g,0,none⟩=some a/\w.cell? ⟨g,1,none⟩=some b/\w.cell? ⟨g,2,none⟩=some c)/\(w.cell? ⟨g,3,none⟩=some d/\w.cell? ⟨g,4,none⟩=some e/\w.cell? ⟨g,5,none⟩=some f/\w.cell? ⟨g,6,none⟩=some h/\w.cell? ⟨g,7,none⟩=some i/\w.cell? ⟨g,8,none⟩=some j) :=
 ⟨⟨H.cell 0 _ rfl,H.cell 1 _ rfl,H.cell 2 _ rfl⟩,H.cell 3 _ rfl,H.cell 4 _ rfl,H.cell 5 _ rfl,H.cell 6 _ rfl,H.cell 7 _ rfl,H.cell 8 _ rfl⟩
theorem Qa4{P:Prop}(h:P:=by
 obtain⟨a,c,h1,h2⟩:=h;obtain⟨_,_,k1,_⟩:=hq;exact⟨a,c,Bl.but h1 (fF gq w x y z) hne,h2.zC k1 _ _ _⟩):P:=h
theorem La.st3T{w:World}{g gq:Nat}{o p:Option (Bool×Nat×Int)}{s:Sp}(h:La w g o s)(hq:Lo w gq p)(hne:g≠gq)(x y z:Value):La (dW w gq x y z) g o s:=by
 exact Qa4
theorem Lt.st3T{w:World}{g gq k:Nat}{o p:Option (Bool×Nat×Int)}(h:Lt w g k o)(hq:Lo w gq p)(hne:g≠gq)(x y z:Value):Lt (dW w gq x y z) g k o:=by
 exact Qa4
theorem Zq(W:World):An W (W.alloc (Obj.cells zD3 79)).drew:=(af W (Obj.cells zD3 79)).trans (((aD (W.alloc (Obj.cells zD3 79)).heap.size (W.alloc (Obj.cells zD3 79))).drew).mono aN)
theorem addZ{W w3:World}(hb:Below (W.alloc (Obj.cells zD3 79)).drew.heap.size (W.alloc (Obj.cells zD3 79)).drew w3):Lo w3 W.heap.size GA/\An W w3:=by
 have h1:Lo (W.alloc (Obj.cells zD3 79)).drew W.heap.size GA:=(Lo.zero W).below (aD _ _).drew;have h2:An W (W.alloc (Obj.cells zD3 79)).drew:=Zq W;exact⟨h1.below hb,h2.trans (hb.mono h2.size)⟩
theorem addW(W:World):An W (W.alloc (Obj.cells zD3 79)).drew:=Zq W
set_option maxRecDepth 100000 in
theorem rAdd7(g:Nat)(V T:Int)(n u d m p a:Int)(k:Nat)(b:Option Addr)(cb:Nat)(w:World)(hA:La w g (ig V) ⟨n,u,d,m,p,a⟩)(hs:(Sp.mk n u d m p a).ok)(hk:k<=5)(ha:a≠1099511627776)(N:Nt 0 w (.slice b (ws (dX (ig T))).length cb) (dX (ig T)))(j:Nat)(hj:j=4238)(hV:V.natAbs<2^j)(hT:T.natAbs<2^j)(hVT:(V+T).natAbs<2^j) :
 As 103 #[.pointer (some ⟨g,0,none⟩),.agg #[.int .i64 (k:Nat),.bool (dN (ig T)),.slice b (ws (dX (ig T))).length cb,.int .i64 (dE (ig T))]] w λr w'=>r=.returned (.int .i64 0)/\La w' g (ig (V+T)) ((Sp.mk n u d m p a).cnt (GI k) 1)/\But g w w':=by
 have FV:=oG V j ae hV;have FT:=oG T j ae hT;have FS:=oG (V+T) j ae hVT;have EA:=add_ex j ae hV hT;obtain⟨gr1,gr2,gr3,gr4⟩:=Va (V:=V+T) j hj hVT;have HC:=hid (λw':World=>Pz n u d m p a k hk hs w');obtain⟨ov,hov⟩:=ah (ig V);obtain⟨ot,hot⟩:=ah (ig T);obtain⟨os,hos⟩:=ah (ig (V+T));rw[<-hov] at FV EA hA;rw[<-hot] at FT EA N |-;rw[<-hos] at FS EA gr1 gr2 gr3 gr4 |-;obtain⟨⟨n1,u1,d1,m1,p1,a1⟩,hs1⟩:∃s,s=(Sp.mk n u d m p a).cnt (GI k) 1:=⟨_,rfl⟩;rw[<-hs1] at HC |-;unfold Sp.agg at HC;simp only at HC;have FF:=iN FV FT FS EA;have GG:=iN gr1 gr2 gr3 gr4;have ha':(a==1099511627776)=false:=by simpa using ha
 have glt:=hA.lt;obtain⟨W,hW⟩:=ah (w.alloc (Obj.cells #[.int .i64 (k:Nat),.bool (dN ot),.slice b (ws (dX ot)).length cb,.int .i64 (dE ot)] 133));obtain⟨g3,hg3⟩:=ah (w.heap.size)
 have K0:Aside (La W g ov ⟨n,u,d,m,p,a⟩/\Lt W g3 k ot/\An w W/\g<g3):=by
  rw[hW,hg3];exact⟨hA.below (af _ _),Lt.new N,af _ _,glt⟩
 have HW:=ak hW;have HG:=ak hg3;clear FV FT FS EA gr1 gr2 gr3 gr4 hov hot hos hs1 hA N ha hV hT hVT hj hW glt hs hg3;go_enter Tryz.func103,Tryz.ntmps103
 go_upto_region 1 with fail
 rw[<-HW.o,<-HG.o];clear HW;obtain⟨aV,cV,BV,NV⟩:=K0.o.1;obtain⟨aT,cT,BT,NT⟩:=K0.o.2.1;unfold laC at BV;obtain⟨⟨v0,v1,v2⟩,v3,v4,v5,v6,v7,v8⟩:=BV.vZ;obtain⟨t0,t1,t2,t3⟩:=BT.four;have PB:Hid (∀U:World,An W U->As 70 #[.agg #[.bool (dN ov),.slice aV (ws (dX ov)).length cV,.int .i64 (dE ov)],.agg #[.bool (dN ot),.slice aT (ws (dX ot)).length cT,.int .i64 (dE ot)]] U λr w'=>(∃v,r=.returned (.tuple #[.agg #[.bool (dN os),v,.int .i64 (dE os)],.int .i64 0])/\Nt U.heap.size w' v (dX os))/\An U w'):=λU hU=>TW FF.o.1 FF.o.2.1 (NV.below hU) (NT.below hU) FF.o.r3 FF.o.r2.1;clear BV NV BT NT
 go_upto_region 3 with fail
 go_cut [5,6] from 13 to 22 (λq e wx=>∃gq:Nat,q=.pointer (some ⟨gq,0,none⟩)/\e=.int .i64 0/\Aside (Lo wx gq os/\La wx g ov ⟨n,u,d,m,p,a⟩/\Lt wx g3 k ot/\An w wx/\g3<gq))
 case first =>
  have hgl:g<W.heap.size:=K0.o.1.lt;have hg3l:g3<W.heap.size:=by obtain⟨_,_,h,_⟩:=K0.o.2.1;exact h.lt
  go_region_with (go_at_call 70;first
   | (refine(PB.o _ (aD _ W).drew).mono ?_;rintro r w3 ⟨⟨v,rfl,hN⟩,hb3⟩;obtain⟨a3,c3,rfl,hN0⟩:=Lo.shape FF.o.r2.1 hN;have HQ:=bA hN0 ((aD _ W).drew.trans hb3);clear hN hN0 hb3)
   | (refine(PB.o _ (addW W)).mono ?_;rintro r w3 ⟨⟨v,rfl,hN⟩,hb3⟩;obtain⟨a3,c3,rfl,hN0⟩:=Lo.shape FF.o.r2.1 hN;have HZ:=bA hN0 (addZ hb3);obtain⟨zp,zq,DZ,MZ⟩:=HZ.o.2.1;obtain⟨z0,z1,z2,zf0,zf1,zf2⟩:=DZ.facts;clear hN hN0 hb3 DZ MZ))
  all_goals
   go_wp2_with fail
   go_meet
   case rel =>
    first
     | exact⟨w3.heap.size,rfl,rfl,Lo.new HQ.o.1,(K0.o.1.below HQ.o.2).below (af _ _),(K0.o.2.1.below HQ.o.2).below (af _ _),(K0.o.r2.1.trans (HQ.o.2.mono K0.o.r2.1.size)).trans ((af _ _).mono (dB K0.o.r2.1.size HQ.o.2.size)),gT hg3l HQ.o.2.size⟩
     | exact⟨W.heap.size,rfl,rfl,HZ.o.2.1.set HZ.o.1,(K0.o.1.below HZ.o.r2).st3T HZ.o.2.1 ae _ _ _,(K0.o.2.1.below HZ.o.r2).st3T HZ.o.2.1 ae _ _ _,jU (K0.o.r2.1.trans (HZ.o.r2.mono K0.o.r2.1.size)) (dB K0.o.r2.1.size HZ.o.r2.size) K0.o.r2.1.size _ _ _,hg3l⟩
 obtain⟨gq,rfl,rfl,K1⟩:=hcut;obtain⟨U,hU⟩:=ah wc;rw[<-hU] at K1 |-;clear hU v0 v1 v2 v3 v4 v5 v6 v7 v8 t0 t1 t2 t3 PB;obtain⟨q0,r0,D0,M0⟩:=K1.o.1;obtain⟨x0,x1,x2,fA,fB,fC⟩:=D0.facts
 have HGr:Hid (At 160 #[.agg #[.bool (dN os),.slice q0 (ws (dX os)).length r0,.int .i64 (dE os)]] U (.bool false)):=by
  have:=Yz (dN os) (dX os) (dE os) q0 r0 U (FF.o.r2.1.a12 M0) GG.o.2.1 GG.o.r2.1 GG.o.r3;rw[GG.o.1] at this;exact this
 clear D0 M0;go_wp2_with fail;refine HGr.o.mono ?_;rintro r u2 ⟨rfl,hb⟩;have l0:=K1.o.1.below hb;have l1:=K1.o.2.1.below hb;have l2:=K1.o.r2.1.below hb;have b2:=K1.o.r3.1.trans (hb.mono K1.o.r3.1.size);have hg3:=K1.o.r4;obtain⟨q0,r0,D0,M0⟩:=l0;obtain⟨y0,y1,y2,dY,dZ,eB⟩:=D0.facts;obtain⟨aV,cV,BV,NV⟩:=l1;unfold laC at BV;obtain⟨⟨v0,v1,v2⟩,v3,v4,v5,v6,v7,v8⟩:=BV.vZ;have vf0:=BV.frozen 0;have vf1:=BV.frozen 1;have vf2:=BV.frozen 2;obtain⟨U2,dK⟩:=ah (dW u2 g (.bool (dN os)) (.slice q0 (ws (dX os)).length r0) (.int .i64 (dE os)))
 have K2:Aside (Bl U2 g 103 (laC os q0 r0 ⟨n,u,d,m,p,a⟩)/\Nt 0 U2 (.slice q0 (ws (dX os)).length r0) (dX os)/\Lt U2 g3 k ot/\But g w U2/\g<g3/\w.heap.size<=U2.heap.size):=by
  rw[dK];refine⟨((BV.set 0 _).set 1 _).set 2 _,M0.YB BV aM (fF _ _ _ _ _),?_,((But.refl g w).pR b2).trans (fF _ _ _ _ _),K0.o.r3,dB b2.size (by simp[dW,World.setCell])⟩;obtain⟨aT,cT,BT,NT⟩:=l2;exact⟨aT,cT,Bl.but BT (fF _ _ _ _ _) (by have:=K0.o.r3;omega),NT.YB BV aM (fF _ _ _ _ _)⟩
 unfold dW at dK;have HU:=ak dK;clear D0 M0 BV NV l2 b2 hb dK HGr x0 x1 x2 fA fB fC K1
 go_upto_region 7 with fail
 rw[<-HU.o];clear HU v0 v1 v2 v3 v4 v5 v6 v7 v8 vf0 vf1 vf2 y0 y1 y2 dY dZ eB;obtain⟨v3,v4,v5,v6,v7,v8⟩:=(show Bl U2 g 103 [_,_,_,_,_,_,_,_,_] from K2.o.1).vZ.2;obtain⟨aT,cT,BT,NT⟩:=K2.o.r2.1;have t0:=BT.cell 0 _ rfl;have HB:Hid (Bl U2 g 103 [.bool (dN os),.slice q0 (ws (dX os)).length r0,.int .i64 (dE os),.int .i64 n,.int .i64 u,.int .i64 d,.int .i64 m,.int .i64 p,.int .i64 a]):=K2.o.1;have hlt:g<U2.heap.size:=HB.o.lt;clear BT NT
 go_region_with (go_at_call 161;refine(HC.o _).mono ?_;rintro r w3 ⟨rfl,hb3⟩;have HQ:=ak (Bl.below (w:=U2.drew) HB.o hb3 hlt);have q3:=HQ.o.cell 3 _ rfl;have q4:=HQ.o.cell 4 _ rfl;have q5:=HQ.o.cell 5 _ rfl;have q6:=HQ.o.cell 6 _ rfl;have q7:=HQ.o.cell 7 _ rfl;have q8:=HQ.o.cell 8 _ rfl;have f3:=HQ.o.frozen 3;have f4:=HQ.o.frozen 4;have f5:=HQ.o.frozen 5;have f6:=HQ.o.frozen 6;have f7:=HQ.o.frozen 7;have f8:=HQ.o.frozen 8;have HB3:=ak hb3;clear hb3)
 all_goals
  go_wp2;go_ret;have hbd:An U2 w3:=(aD _ U2).drew.trans HB3.o;refine⟨rfl,⟨q0,r0,((((((HQ.o.set 3 _).set 4 _).set 5 _).set 6 _).set 7 _).set 8 _),?_⟩,?_⟩
  . exact(K2.o.2.1.below hbd).YB HQ.o aM ((((((But.refl g w3).set 3 _).set 4 _).set 5 _).set 6 _).set 7 _ |>.set 8 _)
  . exact K2.o.r3.1.trans (((But.refl g U2).pR hbd).trans ((((((But.refl g w3).set 3 _).set 4 _).set 5 _).set 6 _).set 7 _ |>.set 8 _))
end
section
open Go.RowKit J
attribute [local go_sem] cZ
theorem bd12{V:Int}(n:Nat)(hn:n<=65536)(h:-((n*QB:Nat):Int)<=V/\V<=((n*QB:Nat):Int))(j:Nat)(hj:j=4238):V.natAbs<2^j:=by
 rw[<-yU j hj,L8];have h3:n*QB<=65536*QB:=dL _ hn;have h5:=DC;omega
end
section
open Go.RowKit J
attribute [local go_sem] cZ
theorem kd_neg{x:Nat}(hx:x<18446744073709551616):(kd x=4->dH x=true)/\(kd x=3->dH x=false)/\(kd x=1->dH x=true)/\(kd x=2->dH x=false):=by
 have e2:dH x=decide (9223372036854775808<=x):=rfl;rw[e2];unfold kd
 by_cases h1:9218868437227405312<x%9223372036854775808
 . rw[if_pos h1];omega
 . rw[if_neg h1]
   by_cases h2:x%9223372036854775808=9218868437227405312
   . rw[if_pos h2]
     by_cases h3:x/9223372036854775808=1
     . rw[if_pos h3];exact⟨λ_=>decide_eq_true ae,(λh=>by omega),(λh=>by omega),(λh=>by omega)⟩
     . rw[if_neg h3];exact⟨(λh=>by omega),λ_=>decide_eq_false ae,(λh=>by omega),(λh=>by omega)⟩
   . rw[if_neg h2]
     by_cases h4:x%9223372036854775808=0
     . rw[if_pos h4]
       by_cases h3:x/9223372036854775808=1
       . rw[if_pos h3];exact⟨(λh=>by omega),(λh=>by omega),λ_=>decide_eq_true ae,(λh=>by omega)⟩
       . rw[if_neg h3];exact⟨(λh=>by omega),(λh=>by omega),(λh=>by omega),λ_=>decide_eq_false ae⟩
     . rw[if_neg h4];omega
theorem ex_fo{V:Int}(m:Nat)(hm:m<=10000)(hV:V.natAbs<2^m)(k:Nat)(hk:k=1074):ig (V*((2^k:Nat):Int))=EC V:=by
 have hb:(V*((2^k:Nat):Int)).natAbs<2^(m+k):=by
  rw[Int.natAbs_mul,oC,aP];exact fK hV (bG k)
 have F:=oG _ (m+k) ae hb;have G:=fo_fm V m ae hV;refine uq F G ?_;rw[Eb F,val_fo G,YX k hk,eD,mD]
theorem one7{x:Nat}(hx:x<18446744073709551616):GI (kd x)=pK x 4607182418800017408/\oZ x=ig (pT x 4607182418800017408)/\kd x<=5:=by
 have h1:(4607182418800017408:Nat)<18446744073709551616:=aM
 have k1:kd 4607182418800017408=0:=by decide +kernel
 have n1:dH 4607182418800017408=false:=by decide +kernel
 obtain⟨p1,p2,p3,p4⟩:=prod7 hx h1;obtain⟨q4,q3,q1,q2⟩:=kd_neg hx;unfold na7 at p1 p2 p3 p4;rw[k1,n1] at *;refine⟨?_,?_,Mj x⟩
 . rcases sJ hx with ⟨k,c⟩ | ⟨k,c,n⟩ | ⟨k,c,n,f,v⟩ | ⟨k,c,n,f⟩
   . rw[(p1 (by rw[k];rfl)).1,k];rfl
   . rcases k with k | k
     . rw[(p2 (by rw[k];rfl) (by rw[k];rfl)).2.1,q3 k,k];rfl
     . rw[(p2 (by rw[k];rfl) (by rw[k];rfl)).2.1,q4 k,k];rfl
   . rcases k with k | k
     . rw[(p3 (by rw[k];rfl) (by rw[k];rfl) (by rw[k];rfl)).2.1,q1 k,k];rfl
     . rw[(p3 (by rw[k];rfl) (by rw[k];rfl) (by rw[k];rfl)).2.1,q2 k,k];rfl
   . rw[(p4 (by rw[k];rfl) (by rw[k];rfl) (by rw[k];rfl)).2.2,k];rfl
 . rcases sJ hx with ⟨k,c⟩ | ⟨k,c,n⟩ | ⟨k,c,n,f,v⟩ | ⟨k,c,n,f⟩
   . rw[(p1 (by rw[k];rfl)).2,qU];exact vX (by intro f;rcases(iP hx f).2.2.2 with q | q <;> omega)
   . have e:pT x 4607182418800017408=0:=by
      rcases k with k|k
      . exact(p2 (by rw[k];rfl) (by rw[k];rfl)).2.2
      . exact(p2 (by rw[k];rfl) (by rw[k];rfl)).2.2
     rw[e,qU];exact vX (by intro f;rcases(iP hx f).2.2.2 with q | q <;> omega)
   . have e:pT x 4607182418800017408=0:=by
      rcases k with k|k
      . exact(p3 (by rw[k];rfl) (by rw[k];rfl) (by rw[k];rfl)).2.2
      . exact(p3 (by rw[k];rfl) (by rw[k];rfl) (by rw[k];rfl)).2.2
     rw[e,qU];exact Es f v
   . obtain⟨z,hz⟩:∃z,z=2098:=⟨_,rfl⟩;obtain⟨i,hi⟩:∃i,i=1074:=⟨_,rfl⟩;have fo:bO 4607182418800017408:=aM
     rw[(pT_mul hx h1 f fo).1,f1 i hi,ik,ex_fo z ae (J6 hx f z hz) i hi,Em f];rfl
def Zr(w:World)(g:Nat)(a b c d e f h i j:Value):World:=((((((((w.setCell ⟨g,0,none⟩ a).setCell ⟨g,1,none⟩ b).setCell ⟨g,2,none⟩ c).setCell ⟨g,3,none⟩ d).setCell ⟨g,4,none⟩ e).setCell ⟨g,5,none⟩ f).setCell ⟨g,6,none⟩ h).setCell ⟨g,7,none⟩ i).setCell ⟨g,8,none⟩ j
theorem Bl.Zr{w:World}{g T:Nat}{a' b' c' d' e' f' h' i' j':Value}(H:Bl w g T [a',b',c',d',e',f',h',i',j'])(a b c d e f h i j:Value):Bl (Zr w g a b c d e f h i j) g T [a,b,c,d,e,f,h,i,j] :=
 ((((((((H.set 0 a).set 1 b).set 2 c).set 3 d).set 4 e).set 5 f).set 6 h).set 7 i).set 8 j
theorem MF(w:World)(g:Nat)(a b c d e f h i j:Value):But g w (Zr w g a b c d e f h i j):=(((((((((But.refl g w).set 0 a).set 1 b).set 2 c).set 3 d).set 4 e).set 5 f).set 6 h).set 7 i).set 8 j
set_option maxRecDepth 100000 in
theorem Vb(xs:List Nat)(a:Option Addr)(n c:Nat)(w:World)(hn:n=xs.length)(hF:Fs w.heap.size w a xs)(hW:jH xs)(hm:n<=65536) :
 As 64 #[.slice a n c] w λr w'=>(∃p q,r=.returned (.agg #[.bool (dN (ig (vS xs))),.slice p (ws (dX (ig (vS xs)))).length q,.int .i64 (dE (ig (vS xs))),.int .i64 (sS xs).n,.int .i64 (sS xs).u,.int .i64 (sS xs).d,.int .i64 (sS xs).m,.int .i64 (sS xs).p,.int .i64 (sS xs).a])/\Nt 0 w' (.slice p (ws (dX (ig (vS xs)))).length q) (dX (ig (vS xs))))/\An w w':=by
 obtain⟨ov,hov⟩:=ah (ig (vS xs));obtain⟨⟨fn,fu,fd,fm,fp,fa⟩,hs0⟩:∃s,s=sS xs:=⟨_,rfl⟩;rw[<-hov,<-hs0];simp only;have OV:=bA hov hs0;clear hov hs0;obtain⟨W,zL⟩:=ah ((w.alloc (Obj.cells #[.bool false,.slice none 0 0,.int .i64 0,.int .i64 0,.int .i64 0,.int .i64 0,.int .i64 0,.int .i64 0,.int .i64 0] 103)).alloc (Obj.cells #[.bool false,.slice none 0 0,.int .i64 0,.int .i64 0,.int .i64 0,.int .i64 0,.int .i64 0,.int .i64 0,.int .i64 0] 103));obtain⟨g2,hg2⟩:=ah (w.heap.size)
 have H0:Aside (La W (g2+1) GA ⟨0,0,0,0,0,0⟩/\Bl W g2 103 [.bool false,.slice none 0 0,.int .i64 0,.int .i64 0,.int .i64 0,.int .i64 0,.int .i64 0,.int .i64 0,.int .i64 0]/\An w W/\w.heap.size<=g2):=by
  rw[zL,hg2];refine⟨⟨none,0,?_,?_⟩,(Bl.new w 103 [_,_,_,_,_,_,_,_,_]).alloc _,(aC _ _).trans ((aC _ _).mono aN),aA _⟩
  . unfold laC;rw[GD];exact Bl.new' (w.alloc _) 103 _ [_,_,_,_,_,_,_,_,_] aN
  . rw[GD];exact Nt.nil _ _
 have HW2:=ak zL;have HG:=ak hg2;have PP:=iN hn hF hW (show xs.length<=65536 by omega);clear zL hg2 hn hF hW;go_enter Tryz.func64,Tryz.ntmps64;go_wp2;rw[<-HW2.o,<-HG.o];clear HW2 HG
 go_loopg [4] n (λgk i wr=>∃k:Nat,gk+k=n/\i=.int .i64 (k:Nat)/\Aside (La wr (g2+1) (ig (vS (xs.take k))) (sS (xs.take k))/\Bl wr g2 103 [.bool false,.slice none 0 0,.int .i64 0,.int .i64 0,.int .i64 0,.int .i64 0,.int .i64 0,.int .i64 0,.int .i64 0]/\An w wr/\w.heap.size<=g2))
 case atStart=>exact⟨0,ae,aN,by rw[List.take_zero,show vS []=0 from rfl,show sS []=⟨0,0,0,0,0,0⟩ from rfl,qU];exact H0.o⟩
 case round =>
  clear H0;obtain⟨k,jo,rfl,HL⟩:=hrel
  by_cases hk:k<n
  . obtain⟨b,off,rfl,hcx⟩:=PP.o.2.1.at HL.o.r2.1 k (by rw[<-PP.o.1];exact hk);have hln:=PP.o.1;have e1:=DF xs k ae;have e2:=DI xs k ae;have vM:=PP.o.r2.1.get k;obtain⟨x,hx⟩:=ah (xs.getD k 0);rw[<-hx] at hcx e1 e2 vM;obtain⟨o1,o2,o3⟩:=one7 vM;obtain⟨j,hj⟩:∃j,j=4238:=⟨_,rfl⟩;have v0:=bd12 k ae (qd xs PP.o.r2.1 k ae) j hj;have v2:=bd12 (k+1) ae (qd xs PP.o.r2.1 (k+1) ae) j hj;have sp:=JI xs k ae;have vT:(pT x 4607182418800017408).natAbs<2^j:=bd12 1 ae (by rw[ik];exact zn x _ vM aM) j hj;rw[e1] at v2;obtain⟨V0,hV0⟩:=ah (vS (xs.take k));obtain⟨⟨sn,su,sd,sm,sp',sa⟩,hs0⟩:∃s,s=sS (xs.take k):=⟨_,rfl⟩;rw[<-hV0] at v0 v2 e1;rw[<-hs0] at sp e2;have Zt:=HL;rw[<-hV0,<-hs0] at Zt;obtain⟨⟨s1,s2,s3,s4,s5,s6'⟩,sa'⟩:=sp;simp only at s1 s2 s3 s4 s5 s6' sa';have HP:=hid (λu:World=>rOf7x x u vM);have FX:=ak (oZ_iv x vM).fm
    have HA:Hid (∀(U:World) (q:Option Addr) (cq:Nat),La U (g2+1) (ig V0) ⟨sn,su,sd,sm,sp',sa⟩->Nt 0 U (.slice q (ws (dX (oZ x))).length cq) (dX (oZ x))->As 103 #[.pointer (some ⟨g2+1,0,none⟩),.agg #[.int .i64 (kd x:Nat),.bool (dN (oZ x)),.slice q (ws (dX (oZ x))).length cq,.int .i64 (dE (oZ x))]] U λr w'=>r=.returned (.int .i64 0)/\La w' (g2+1) (ig (V0+pT x 4607182418800017408)) ((Sp.mk sn su sd sm sp' sa).cnt (pK x 4607182418800017408) 1)/\But (g2+1) U w'):=λU q cq hLa Rx=>by
     rw[o2] at Rx |-;have:=rAdd7 (g2+1) V0 (pT x 4607182418800017408) sn su sd sm sp' sa (kd x) q cq U hLa (by unfold Sp.ok;simp only;omega) o3 ae Rx j hj v0 vT v2;rw[o1] at this;exact this
    have EE:=bA e1 e2;have hkb:k<4611686018427387904:=ae
    obtain⟨ox,hox⟩:=ah (oZ x);obtain⟨jx,hjx⟩:∃j:Nat,j=kd x:=⟨_,rfl⟩;rw[<-hox,<-hjx] at HP HA;rw[<-hox] at FX;clear hx hj v0 v2 vT e1 e2 hV0 hs0 HL hln vM s1 s2 s3 s4 s5 s6' sa' o1 o2 o3 hox hjx;have hd1:decide ((k:Int)<(n:Nat))=true:=by simp;omega
    go_wp2_with fail;refine(HP.o wr).mono ?_;rintro r u ⟨⟨v,rfl,hN⟩,hb⟩;obtain⟨a1,c1,rfl,hN0⟩:=Lo.shape FX.o hN;have HA1:=hid (HA.o u a1 c1 (Zt.o.1.below hb) hN0);have K1:Aside (Bl u g2 103 [.bool false,.slice none 0 0,.int .i64 0,.int .i64 0,.int .i64 0,.int .i64 0,.int .i64 0,.int .i64 0,.int .i64 0]/\An w u/\w.heap.size<=g2):=⟨Zt.o.2.1.below hb Zt.o.2.1.lt,Zt.o.r2.1.trans (hb.mono Zt.o.r2.1.size),Zt.o.r3⟩;clear hN hN0 hb HP HA Zt hcx;go_wp2_with fail;refine HA1.o.mono ?_;rintro r u2 ⟨rfl,hla,hbt⟩
    have H4:Aside (La u2 (g2+1) (ig (vS (xs.take (k+1)))) (sS (xs.take (k+1)))/\Bl u2 g2 103 [.bool false,.slice none 0 0,.int .i64 0,.int .i64 0,.int .i64 0,.int .i64 0,.int .i64 0,.int .i64 0,.int .i64 0]/\An w u2/\w.heap.size<=g2):=by
     rw[EE.o.1,EE.o.2];exact⟨hla,Bl.but K1.o.1 hbt ae,But.below K1.o.2.1 hbt K1.o.2.1.size (by have:=K1.o.r2;omega),K1.o.r2⟩
    clear hla hbt K1 EE HA1;go_wp2;go_roundg (gk-1)
    case measure=>omega
    case rel=>exact⟨k+1,ae,by first | rfl | simp,H4.o⟩
  . obtain rfl:n=k:=ae
    have hd1:decide ((n:Int)<(n:Nat))=false:=by simp
    have e:xs.take n=xs:=eF (by rw[<-PP.o.1];omega);rw[e] at HL;rw[<-OV.o.1,<-OV.o.2] at HL;obtain⟨p,q,BV,NV⟩:=HL.o.1;unfold laC at BV;simp only at BV;obtain⟨⟨v0,v1,v2⟩,v3,v4,v5,v6,v7,v8⟩:=BV.vZ;have hB2:=HL.o.2.1;obtain⟨⟨y0,y1,y2⟩,y3,y4,y5,y6,y7,y8⟩:=hB2.vZ;have f0:=hB2.frozen 0;have f1:=hB2.frozen 1;have f2:=hB2.frozen 2;have f3:=hB2.frozen 3;have f4:=hB2.frozen 4;have f5:=hB2.frozen 5;have f6:=hB2.frozen 6;have f7:=hB2.frozen 7;have f8:=hB2.frozen 8
    have HF:Aside (Bl (Zr wr g2 (.bool (dN ov)) (.slice p (ws (dX ov)).length q) (.int .i64 (dE ov)) (.int .i64 fn) (.int .i64 fu) (.int .i64 fd) (.int .i64 fm) (.int .i64 fp) (.int .i64 fa)) g2 103 [.bool (dN ov),.slice p (ws (dX ov)).length q,.int .i64 (dE ov),.int .i64 fn,.int .i64 fu,.int .i64 fd,.int .i64 fm,.int .i64 fp,.int .i64 fa]/\Nt 0 (Zr wr g2 (.bool (dN ov)) (.slice p (ws (dX ov)).length q) (.int .i64 (dE ov)) (.int .i64 fn) (.int .i64 fu) (.int .i64 fd) (.int .i64 fm) (.int .i64 fp) (.int .i64 fa)) (.slice p (ws (dX ov)).length q) (dX ov)/\An w (Zr wr g2 (.bool (dN ov)) (.slice p (ws (dX ov)).length q) (.int .i64 (dE ov)) (.int .i64 fn) (.int .i64 fu) (.int .i64 fd) (.int .i64 fm) (.int .i64 fp) (.int .i64 fa))) :=
     ⟨hB2.Zr _ _ _ _ _ _ _ _ _,NV.YB hB2 aM (MF _ _ _ _ _ _ _ _ _ _ _),But.below HL.o.r2.1 (MF _ _ _ _ _ _ _ _ _ _ _) HL.o.r2.1.size HL.o.r3⟩
    unfold Zr at HF;clear BV NV hB2 e HL OV;go_wp2;obtain⟨⟨t0,t1,t2⟩,t3,t4,t5,t6,t7,t8⟩:=HF.o.1.vZ;exact aH (v:=.agg #[.bool (dN ov),.slice p (ws (dX ov)).length q,.int .i64 (dE ov),.int .i64 fn,.int .i64 fu,.int .i64 fd,.int .i64 fm,.int .i64 fp,.int .i64 fa]) (by simp[results,Tryz.results64,go_sem,t0,t1,t2,t3,t4,t5,t6,t7,t8]) rfl ⟨⟨p,q,rfl,HF.o.2.1⟩,HF.o.r2⟩
end
section
open Go.RowKit J
attribute [local go_sem] cZ
theorem Fm.YC{w:World}{p:Option Addr}{c:Nat}{o:Option (Bool×Nat×Int)}(F:Fm o)(N:Nt 0 w (.slice p (ws (dX o)).length c) (dX o)):Al w (.slice p (ws (dX o)).length c) (dX o):=⟨p,_,c,ws (dX o),rfl,F.a12 N,aB _,dB F.len aM⟩
theorem no13(e:Int)(w:World):Ax 62 #[.int .i64 e] w (.tuple #[.float .f64 0,.int .i64 e]):=by
 have H:=hid (rOf10z w);go_enter Tryz.func62,Tryz.ntmps62;go_wp2_with fail;refine H.o.mono ?_;rintro r v ⟨rfl,hv⟩;rw[hv];clear hv v H;go_wp2;exact aH (v:=.tuple #[.float .f64 0,.int .i64 e]) (by simp[results,Tryz.results62,go_sem]) rfl ⟨rfl,rfl⟩
theorem YD{x:Nat}(hx:x<18446744073709551616):(bO x->j5 x<=2)/\(¬ bO x->2<j5 x):=by
 constructor
 . intro fx;rcases(iP hx fx).2.2.2 with q|q <;> omega
 . intro nx;rcases ni 9218868437227405312 (bB x) with h|h|h
   . rw[DU h];decide
   . rw[(vD h.symm).1];decide
   . exact absurd h nx
theorem Vd{x:Nat}(hx:x<18446744073709551616)(w:World):At 37 #[.float .f64 x] w (.int .i64 (j5 x)):=by
 obtain⟨h1,h2,h3⟩:=iJ x hx;have:=B.yZ (sW x) (eW x) (fW x) h2 h3 w;rw[<-h1] at this;exact this
theorem Qn(xs:List Nat)(a:Option Addr)(n c:Nat)(w:World)(hn:n=xs.length)(hF:Fs w.heap.size w a xs)(hW:jH xs)(hl:n<=35184372088832)(t:Bool)(ht:t=true↔∀x ∈ xs,bO x) :
 At 63 #[.slice a n c] w (.bool t):=by
 have HX:=(iN hn hF hW ht);clear hn hF hW ht;go_enter Tryz.func63,Tryz.ntmps63;go_wp2
 go_loopg [3] n (λgk i wr=>∃k:Nat,gk+k=n/\i=.int .i64 (k:Nat)/\Aside (An w wr/\∀j,j<k->bO (xs.getD j 0)))
 case atStart=>exact⟨0,ae,aN,aD _ _,λj hj=>absurd hj ae⟩
 case round =>
  obtain⟨k,jo,rfl,HA⟩:=hrel
  by_cases hk:k<n
  . obtain⟨b,off,rfl,hc⟩:=HX.o.2.1.at HA.o.1 k (by rw[<-HX.o.1];exact hk);obtain⟨x,hx⟩:=ah (xs.getD k 0);rw[<-hx] at hc;have vM:x<18446744073709551616:=by rw[hx];exact HX.o.r2.1.get k
    have C:=hid (Vd vM wr);obtain⟨f1,f2⟩:=YD vM;obtain⟨cl,hcl⟩:∃c,j5 x=c:=⟨_,rfl⟩;rw[hcl] at C f1 f2;have HF:=(gp f1 f2 hx);clear hx hcl f1 f2 vM;have hkb:k<4611686018427387904:=ae
    have hd:decide ((k:Int)<n)=true:=by simp;omega
    go_wp2_with fail;refine C.o.mono ?_;rintro r v ⟨rfl,hb⟩;have HB:=ak (HA.o.1.trans (hb.mono HA.o.1.size));clear hb C hc
    by_cases hc2:2<cl
    . have d1:decide (2<cl)=true:=decide_eq_true hc2;have hnf:¬ bO x:=λh=>by have:=HF.o.1 h;omega
      have HT:Aside (t=false):=by
       cases ht:t with
       | false=>rfl
       | true =>
         exfalso;have:=HX.o.r3.1 ht (xs.getD k 0) (by rw[bF,aY (show k<xs.length by rw[<-HX.o.1];exact hk)];exact gQ _);rw[<-HF.o.r2] at this;exact hnf this
      clear hnf;go_wp2;go_ret;exact⟨by rw[HT.o];rfl,HB.o⟩
    . have d1:decide (2<cl)=false:=decide_eq_false hc2
      have hf:Aside (bO x):=by
       by_cases h:bO x
       . exact h
       . exact absurd (HF.o.2.1 h) hc2
      go_wp2;go_roundg (gk-1)
      case measure=>omega
      case rel =>
       refine⟨k+1,ae,by first | rfl | simp,HB.o,λj hj=>?_⟩
       by_cases e:j=k
       . subst e;rw[<-HF.o.r2];exact hf.o
       . exact HA.o.2 j ae
  . obtain rfl:n=k:=ae
    have hd:decide ((n:Int)<n)=false:=by simp
    have HT:Aside (t=true):=by
     refine HX.o.r3.2 λx hx=>?_;obtain⟨j,hj,rfl⟩:=CG.1 hx;have:=HA.o.2 j (by rw[HX.o.1];exact hj);rw[bF,aY hj] at this;exact this
    go_wp2;go_ret;exact⟨by rw[HT.o];rfl,HA.o.1⟩
noncomputable def toR (V:Int) (n:Nat) (s:Sp) (mode:Int):Nat×Int:=if V=0 then(nt (snd s.n s.u s.d s.m s.p s.a) s.n s.u s.d s.m s.p s.a mode,0) else qnR V n mode
theorem lev_to{xs:List Nat}(hne:xs≠[])(s:Sp)(mode:Int):mU xs s mode=toR (vS xs) xs.length s mode:=by unfold mU toR;rw[if_neg hne]
theorem YE(V:Int)(p:Option Addr)(q n:Nat)(sn su sd sm sp sa mode:Int)(w:World)(k:Nat)(hk:k<=90000)(hb:V.natAbs<2^k)(hN:Nt 0 w (.slice p (ws (dX (ig V))).length q) (dX (ig V)))(hn:n<=1099511627776)(z:Nat×Int)(hz:toR V n ⟨sn,su,sd,sm,sp,sa⟩ mode=z) :
 At 65 #[.agg #[.bool (dN (ig V)),.slice p (ws (dX (ig V))).length q,.int .i64 (dE (ig V))],.int .i64 (n:Nat),.agg #[.int .i64 sn,.int .i64 su,.int .i64 sd,.int .i64 sm,.int .i64 sp,.int .i64 sa],.int .i64 mode] w (.tuple #[.float .f64 z.1,.int .i64 z.2]):=by
 obtain⟨X,E⟩:=z;simp only;unfold toR at hz;have Fv:=ak (oG V k ae hb)
 have hl0:(V=0->(ws (dX (ig V))).length=0)/\(V≠0->(ws (dX (ig V))).length≠0):=by
  constructor
  . rintro rfl;rw[qU];exact GD
  . intro h;obtain⟨X,e,ho,hX,_⟩:=nZ h k hk hb;rw[ho];intro h2;have:ws X=[]:=rF h2;have h3:=aB X;rw[this] at h3;simp[val] at h3;omega
 obtain⟨ov,hov⟩:∃o,ig V=o:=⟨_,rfl⟩;rw[hov] at hN Fv hl0 |-;obtain⟨W,zL⟩:=ah ((w.alloc (Obj.cells #[.bool (dN ov),.slice p (ws (dX ov)).length q,.int .i64 (dE ov)] 79)).alloc (Obj.cells #[.int .i64 sn,.int .i64 su,.int .i64 sd,.int .i64 sm,.int .i64 sp,.int .i64 sa] 72))
 have B0:Aside (Dk W w.heap.size (dN ov) (.slice p (ws (dX ov)).length q) (dE ov)/\Bl W (w.heap.size+1) 72 [.int .i64 sn,.int .i64 su,.int .i64 sd,.int .i64 sm,.int .i64 sp,.int .i64 sa]/\An w W/\Nt 0 W (.slice p (ws (dX ov)).length q) (dX ov)):=by
  rw[zL];have z2:=Bl.new (w.alloc (Obj.cells #[.bool (dN ov),.slice p (ws (dX ov)).length q,.int .i64 (dE ov)] 79)) 72 [.int .i64 sn,.int .i64 su,.int .i64 sd,.int .i64 sm,.int .i64 sp,.int .i64 sa];rw[uL] at z2;exact⟨(Dk.new w _ _ _).below (af _ _),z2,(af _ _).trans ((af _ _).mono aN),(hN.below (af _ _)).below (af _ _)⟩
 obtain⟨gd,hgd⟩:∃g,w.heap.size=g:=⟨_,rfl⟩;obtain⟨gs,hgs⟩:∃g,w.heap.size+1=g:=⟨_,rfl⟩;have HG:=(bA hgd hgs);rw[hgs] at B0;have B1:Aside (Dk W gd (dN ov) (.slice p (ws (dX ov)).length q) (dE ov)):=by rw[<-hgd];exact B0.o.1
 have GK:=ak zL;have HL0:=ak hl0;obtain⟨y0,y1,y2,dY,dZ,eB⟩:=B1.o.facts;clear hN zL hgd hgs hl0 hb hk;go_enter Tryz.func65,Tryz.ntmps65
 go_upto_region 1 with fail
 rw[<-GK.o,HG.o.2,HG.o.1];clear GK
 by_cases hv0:V=0
 . rw[if_pos hv0] at hz;obtain⟨hX,hE⟩:=jM hz;have hl:=HL0.o.1 hv0;have hl2:(((ws (dX ov)).length:Int)==0)=true:=by rw[hl];rfl
   have PD:=hid (λu:World=>wZ sn su sd sm sp sa mode u);rw[hX] at PD;subst hE;have q0:=B0.o.2.1.cell 0 _ rfl;have q1:=B0.o.2.1.cell 1 _ rfl;have q2:=B0.o.2.1.cell 2 _ rfl;have q3:=B0.o.2.1.cell 3 _ rfl;have q4:=B0.o.2.1.cell 4 _ rfl;have q5:=B0.o.2.1.cell 5 _ rfl;obtain⟨ln,hln⟩:∃l,(ws (dX ov)).length=l:=⟨_,rfl⟩;rw[hln] at y1 hl hl2 |-;subst hl;clear hX hz HL0 hv0 hln;go_wp2_with fail;refine(PD.o _).mono ?_;rintro r u2 ⟨rfl,hb⟩;have B3:=ak (B0.o.r2.1.trans (hb.mono B0.o.r2.1.size));clear hb PD q0 q1 q2 q3 q4 q5;go_wp2;exact aH (v:=.tuple #[.float .f64 X,.int .i64 0]) (by simp[results,Tryz.results65,go_sem]) rfl ⟨rfl,B3.o⟩
 . rw[if_neg hv0] at hz;have hl:=HL0.o.2 hv0;have hl2:(((ws (dX ov)).length:Int)==0)=false:=by rw[beq_eq_false_iff_ne];omega
   have ZU:n<2^41:=ae
   have F1:=ak (Ud n ZU)
   have HI:Hid (∀u:World,As 69 #[.int .i64 (n:Nat)] u λr w'=>(∃v,r=.returned (.agg #[.bool (dN (mkS false n 0)),v,.int .i64 (dE (mkS false n 0))])/\Nt u.heap.size w' v (dX (mkS false n 0)))/\An u w'):=λu=>by
    have:=zb (n:Nat) u ae ae;rw[decide_eq_false ae,oC] at this;exact this
   have HR:Hid (∀(u:World) (p q:Option Addr) (cp cq:Nat),Nt 0 u (.slice p (ws (dX ov)).length cp) (dX ov)->Nt 0 u (.slice q (ws (dX (mkS false n 0))).length cq) (dX (mkS false n 0))->At 73 #[.agg #[.bool (dN ov),.slice p (ws (dX ov)).length cp,.int .i64 (dE ov),.bool (dN (mkS false n 0)),.slice q (ws (dX (mkS false n 0))).length cq,.int .i64 (dE (mkS false n 0))],.int .i64 mode] u (.tuple #[.float .f64 X,.int .i64 E])):=λu p q cp cq n1 n2=>by
    have:=ME (w:=u) mode (Fv.o.YC n1) (F1.o.YC n2) Fv.o.sD (n:=dN ov) (m:=dN (mkS false n 0)) (f:=dE (mkS false n 0)) F1.o.sD;rw[show nI jJ ⟨dN ov,.slice p (ws (dX ov)).length cp,dX ov,dE ov,dN (mkS false n 0),.slice q (ws (dX (mkS false n 0))).length cq,dX (mkS false n 0),dE (mkS false n 0)⟩ mode=(X,E) from(by rw[<-hov,<-hz];rfl)] at this;exact this
   obtain⟨ow,how⟩:∃o,mkS false n 0=o:=⟨_,rfl⟩;rw[how] at HR HI F1;clear hz how hov hv0 ZU HL0 hl
   go_upto_region 3 with fail
   have hdr:=(aD W.heap.size W).drew;have BD:=gp (B0.o.r2.1.trans (hdr.mono B0.o.r2.1.size)) (B1.o.below hdr) (B0.o.r3.below hdr);clear hdr B0 B1 y0 y1 y2 dY dZ eB;have kS:=gp BD.o.2.1.facts.1 BD.o.2.1.facts.2.1 BD.o.2.1.facts.2.2.1
   go_region_held3 (λw'=>w'.cell? ⟨gd,0,none⟩=some (.bool (dN ov))/\w'.cell? ⟨gd,1,none⟩=some (.slice p (ws (dX ov)).length q)/\w'.cell? ⟨gd,2,none⟩=some (.int .i64 (dE ov))) (with_reducible exact kS.o) (first
    | (go_at_call 73
       with_reducible refine(HR.o _ p a2 q c2 BD.o.r2 Q2.o).mono ?_
       rintro r v ⟨rfl,hb⟩;have BD:=gp (BD.o.1.trans (hb.mono BD.o.1.size)) (BD.o.2.1.below hb) (BD.o.r2.below hb);have kS:=gp BD.o.2.1.facts.1 BD.o.2.1.facts.2.1 BD.o.2.1.facts.2.2.1
       clear hb)
    | (go_at_call 69
       with_reducible refine(HI.o _).mono ?_
       rintro r v ⟨⟨pp,rfl,hN⟩,hb⟩;obtain⟨a2,c2,rfl,hN0⟩:=Lo.shape F1.o hN;have BD:=gp (BD.o.1.trans (hb.mono BD.o.1.size)) (BD.o.2.1.below hb) (BD.o.r2.below hb);have Q2:=ak hN0;have kS:=gp BD.o.2.1.facts.1 BD.o.2.1.facts.2.1 BD.o.2.1.facts.2.2.1
       clear hb hN hN0))
   clear kS Q2 HR HI;go_wp2;exact aH (v:=.tuple #[.float .f64 X,.int .i64 E]) (by simp[results,Tryz.results65,go_sem]) rfl ⟨rfl,BD.o.1⟩
end
section
open Go.RowKit J
attribute [local go_sem] cZ
theorem ask_ok{mode:Int}(h:oJ mode=0):0<=mode/\mode<=4:=by
 unfold oJ at h
 by_cases h1:mode<0\/4<mode
 . rw[if_pos h1] at h;exact absurd h aM
 . omega
theorem Zu{V:Int}{N:Nat}{mode:Int}(hm:oJ mode=0)(hV:V≠0)(k:Nat)(hk:k=4238)(hb:V.natAbs<2^k)(hN:0<N)(Ex:N<=65536):(qnR V N mode).2=0:=by
 obtain⟨j,hj⟩:∃k:Nat,k=2148:=⟨_,rfl⟩;obtain⟨j2,hj2,hb2⟩:=Mw N Ex j hj;obtain⟨m0,m4⟩:=ask_ok hm;rw[Zg _ _ _ j hj];obtain⟨K,t,m,_,hR⟩:=BP (V:=V) (W:=(N:Int)*((2^j:Nat):Int)) hV (by rw[<-eD];have:=jh hN (bG j);omega) k ae hb (by rw[hk,<-hj2];exact hb2);rw[hR mode m0 m4]
theorem YF{xs:List Nat}{s:Sp}{mode:Int}(hm:oJ mode=0)(hW:jH xs)(hl:xs.length<=65536):ED (mU xs s mode).2 (mU xs s mode).1=(mU xs s mode).1:=by
 by_cases h0:xs=[]
 . subst h0;unfold mU;rw[if_pos rfl];rfl
 . by_cases hV:vS xs=0
   . unfold mU;rw[if_neg h0,if_pos hV];rfl
   . obtain⟨k,hk,hb⟩:=BO hW hl
     have e:(mU xs s mode).2=0:=by
      unfold mU;rw[if_neg h0,if_neg hV];exact Zu hm hV k hk hb (sU.2 h0) hl
     rw[e];rfl
theorem Ii{xs:List Nat}(hW:jH xs)(hl:xs.length<=65536):(0<=(sS xs).n/\(sS xs).n<=65536)/\(0<=(sS xs).u/\(sS xs).u<=65536)/\(0<=(sS xs).d/\(sS xs).d<=65536)/\(sS xs).a=xs.length/\(sS xs).a-(sS xs).n-(sS xs).u-(sS xs).d=(Ps.fin xs).length:=by
 rw[Uj hW];have h:=λk=>IP (p:=λx=>kd x==k) (l:=xs);have h5:=h 5;have h3:=h 3;have h4:=h 4;have hf:=BQ (xs:=xs);unfold Ps.cn at *;refine⟨⟨?_,?_⟩,⟨?_,?_⟩,⟨?_,?_⟩,rfl,?_⟩ <;> (simp only;omega)
end
section
open Go.RowKit J
attribute [local go_sem] cZ
theorem YG{xs:List Nat}(hW:jH xs)(hl:xs.length<=65536):(zX xs=0↔∀x ∈ xs,bO x)/\(zX xs=0\/zX xs=30):=by
 obtain⟨b1,b2,b3,b4,b5⟩:=Ii hW hl;unfold zX;rw[if_neg ae]
 have key:(0<(sS xs).n\/0<(sS xs).u+(sS xs).d)↔¬ ∀x ∈ xs,bO x:=by
  have hf:(Ps.fin xs).length=xs.length↔∀x ∈ xs,bO x:=by
   constructor
   . intro h x hx
     have:Ps.fin xs=xs:=by
      have:=List.filter_sublist (p:=λx=>decide (kd x<=2)) (l:=xs);exact this.eq_of_length h
     exact XV hW x (by rw[this];exact hx)
   . intro h;rw[Uk hW h]
  rw[<-hf];omega
 by_cases h:0<(sS xs).n\/0<(sS xs).u+(sS xs).d
 . rw[if_pos h];exact⟨⟨λq=>absurd q aM,λq=>absurd q (key.1 h)⟩,.inr rfl⟩
 . rw[if_neg h];refine⟨⟨λ_=>?_,λ_=>rfl⟩,.inl rfl⟩
   by_cases q:∀x ∈ xs,bO x
   . exact q
   . exact absurd (key.2 q) h
theorem Ve{mode:Int}(h:mode<0\/4<mode):oJ mode=1:=if_pos h
theorem YH{mode:Int}(h:¬ (mode<0\/4<mode)):oJ mode=0:=if_neg h
theorem Qo(x y:Nat)(hx:x<18446744073709551616)(hy:y<18446744073709551616)(mode:Int)(w:World)(z:Nat×Int)(hz:rC x y mode=z) :
 At 39 #[.float .f64 x,.float .f64 y,.int .i64 mode] w (.tuple #[.float .f64 z.1,.int .i64 z.2]):=by
 obtain⟨X,E⟩:=z;simp only;unfold rC at hz
 by_cases h1:mode<0
 . rw[Ve (.inl h1),if_neg aM] at hz;have GU:=ak (jM hz);have PD:=hid (λu:World=>no13 1 u);clear hz hx hy;go_enter Tryz.func39,Tryz.ntmps39;go_wp2_with fail;refine(PD.o _).mono ?_;rintro r u2 ⟨rfl,hu⟩;rw[hu];go_wp2;exact aH (v:=.tuple #[.float .f64 0,.int .i64 1]) (by simp[results,Tryz.results39,go_sem]) rfl ⟨by rw[GU.o.1,GU.o.2],aD _ _⟩
 . have d1:decide (mode<0)=false:=decide_eq_false h1
   by_cases h4:4<mode
   . rw[Ve (.inr h4),if_neg aM] at hz;have GU:=ak (jM hz);have PD:=hid (λu:World=>no13 1 u);clear hz hx hy;go_enter Tryz.func39,Tryz.ntmps39;go_wp2_with fail;refine(PD.o _).mono ?_;rintro r u2 ⟨rfl,hu⟩;rw[hu];go_wp2;exact aH (v:=.tuple #[.float .f64 0,.int .i64 1]) (by simp[results,Tryz.results39,go_sem]) rfl ⟨by rw[GU.o.1,GU.o.2],aD _ _⟩
   . have d4:decide (4<mode)=false:=decide_eq_false h4;have hask:oJ mode=0:=YH ae;rw[hask,if_pos rfl] at hz
     have hW:jH [x,y]:=by
      intro q hq;simp at hq;rcases hq with rfl|rfl
      . exact hx
      . exact hy
     have h2l:[x,y].length<=65536:=by simp
     obtain⟨f1,f2⟩:=YG hW h2l;obtain⟨k,hk,hvb⟩:=BO hW h2l;have lb:=YF (s:=sS [x,y]) hask hW h2l;have hVm:=Ua hW h2l;unfold Uq at hz;rw[lb,lev_to aN] at hz;obtain⟨W,zL⟩:=ah (w.alloc (Obj.cells #[.float .f64 x,.float .f64 y] 27));obtain⟨ga,hga⟩:∃g,w.heap.size=g:=⟨_,rfl⟩
     have B0:Aside (An w W/\Fs W.heap.size W (some ⟨ga,0,none⟩) [x,y]):=by
      rw[zL,<-hga];exact⟨aC _ _,Ed w x y⟩
     obtain⟨t,ht⟩:∃t:Bool,t=true↔∀q ∈ [x,y],bO q:=⟨decide (zX [x,y]=0),by rw[decide_eq_true_eq];exact f1⟩;have HF:=hid (Qn [x,y] (some ⟨ga,0,none⟩) 2 2 W rfl B0.o.2 hW aM t ht);have HWh:=hid (fun(u:World) (hb:An W u)=>Vb [x,y] (some ⟨ga,0,none⟩) 2 2 u rfl ((B0.o.2.below hb).mono hb.size) hW aM)
     have HT:Aside ((t=true->zX [x,y]=0)/\(t=false->zX [x,y]=30)):=by
      constructor
      . intro h;exact f1.2 (ht.1 h)
      . intro h;rcases f2 with q|q
        . have:=ht.2 (f1.1 q);rw[h] at this;cases this
        . exact q
     obtain⟨⟨sn,su,sd,sm,sp,sa⟩,hs⟩:∃s,sS [x,y]=s:=⟨_,rfl⟩;rw[hs] at hz HWh;simp only at HWh;obtain⟨V,hV⟩:∃V,vS [x,y]=V:=⟨_,rfl⟩;rw[hV] at hz HWh hvb hVm;have HTo:=hid (fun(u:World) (p:Option Addr) (q:Nat) (hN:Nt 0 u (.slice p (ws (dX (ig V))).length q) (dX (ig V))) (z:Nat×Int) (hz:toR V 2 ⟨sn,su,sd,sm,sp,sa⟩ mode=z)=>YE V p q 2 sn su sd sm sp sa mode u k ae hvb hN aM z hz);obtain⟨ov,hov⟩:∃o,ig V=o:=⟨_,rfl⟩;rw[hov] at HWh HTo;have GK:=(bA zL hga);obtain⟨ep,XY⟩:∃e,zX [x,y]=e:=⟨_,rfl⟩;rw[XY] at HT hz;clear hx hy hW f1 f2 hk hvb lb hVm hs hV hov zL hga ht XY hask h2l;go_enter Tryz.func39,Tryz.ntmps39
     go_upto_region 4 with fail
     rw[<-GK.o.1,GK.o.2];clear GK;go_wp2_with fail;refine HF.o.mono ?_;rintro r u ⟨rfl,hb⟩;have B1:=bA (B0.o.1.trans (hb.mono B0.o.1.size)) hb;clear hb HF
     cases t with
     | false =>
       rw[HT.o.2 rfl,if_neg aM] at hz;have GU:=ak (jM hz);have PD:=hid (λu:World=>no13 30 u);clear hz HTo HWh;go_wp2_with fail;refine(PD.o _).mono ?_;rintro r u2 ⟨rfl,hu⟩;rw[hu];go_wp2;exact aH (v:=.tuple #[.float .f64 0,.int .i64 30]) (by simp[results,Tryz.results39,go_sem]) rfl ⟨by rw[GU.o.1,GU.o.2],B1.o.1⟩
     | true =>
       rw[HT.o.1 rfl,if_pos rfl] at hz;have C:=hid (HWh.o u B1.o.2);clear HWh;go_wp2_with fail;refine C.o.mono ?_;rintro r u2 ⟨⟨p,q,rfl,hN⟩,hb⟩;obtain⟨U,hU⟩:=ah (u2.alloc (Obj.cells #[.bool (dN ov),.slice p (ws (dX ov)).length q,.int .i64 (dE ov),.int .i64 sn,.int .i64 su,.int .i64 sd,.int .i64 sm,.int .i64 sp,.int .i64 sa] 103));obtain⟨gr,hgr⟩:∃g,u2.heap.size=g:=⟨_,rfl⟩
       have B2:Aside (Bl U gr 103 [.bool (dN ov),.slice p (ws (dX ov)).length q,.int .i64 (dE ov),.int .i64 sn,.int .i64 su,.int .i64 sd,.int .i64 sm,.int .i64 sp,.int .i64 sa]/\An w U/\Nt 0 U (.slice p (ws (dX ov)).length q) (dX ov)):=by
        have hb3:=B1.o.1.trans (hb.mono B1.o.1.size);rw[hU,<-hgr];exact⟨Bl.new _ 103 [_,_,_,_,_,_,_,_,_],hb3.trans ((aC _ _).mono hb3.size),hN.below (aC _ _)⟩
       have HU:=(bA hU hgr);clear hb hN C B1 hU hgr;have s0:=B2.o.1.cell 0 _ rfl;have s1:=B2.o.1.cell 1 _ rfl;have s2:=B2.o.1.cell 2 _ rfl;have s3:=B2.o.1.cell 3 _ rfl;have s4:=B2.o.1.cell 4 _ rfl;have s5:=B2.o.1.cell 5 _ rfl;have s6:=B2.o.1.cell 6 _ rfl;have s7:=B2.o.1.cell 7 _ rfl;have s8:=B2.o.1.cell 8 _ rfl;have CT:=hid (HTo.o U p q B2.o.r2 _ hz);simp only at CT;clear hz HTo
       go_upto_region 8 with fail
       rw[<-HU.o.1,HU.o.2];clear HU;go_wp2_with fail;refine CT.o.mono ?_;rintro r u5 ⟨rfl,hb⟩;have B5:=ak (B2.o.2.1.trans (hb.mono B2.o.2.1.size));clear hb CT;go_wp2;exact aH (v:=.tuple #[.float .f64 X,.int .i64 E]) (by simp[results,Tryz.results39,go_sem]) rfl ⟨rfl,B5.o⟩
end
end Go.Proofs.YtjppdacikihpdaaGreatDoor
