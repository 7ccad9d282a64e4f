import Derived.Test.YteginbngplldaaaGreatDoorW7x
import Derived.Deep.RegionWith
import Derived.Test.YteginbngplldaaaGreatDoorM1x
import Derived.WalkLawsBesides
import Derived.WalkMore
import Derived.Deep.MidRow
import Ieee.Arith
import Derived.WalkKit
import Derived.Test.YteginbngplldaaaGreatDoorProg
import Derived.WalkSpells
import Derived.Laws.Externs
import Derived.BigQuiet
set_option linter.unusedVariables false
set_option linter.unusedSimpArgs false
set_option maxHeartbeats 16000000
set_option maxRecDepth 20000
namespace Go.Proofs.YteginbngplldaaaGreatDoor
section
open Go.RowKit
theorem pz(xs ys:List Nat)(hx:Wf xs)(hy:Wf ys)(j d:Nat)(h1:j+1+d<=xs.length)(h2:j+1+d<=ys.length)(ht:sg xs (j+1) d=sg ys (j+1) d)(hlt:xs.getD j 0<ys.getD j 0) :
 sg xs 0 (j+1+d)<sg ys 0 (j+1+d):=by
 rw[iW xs 0 (j+1) d (by omega),iW ys 0 (j+1) d (by omega),dK,ht,bC xs 0 j (by omega),bC ys 0 j (by omega),dK];have h3:=nT xs 0 j hx (by omega);have h4:pw j*(xs.getD j 0+1)<=pw j*ys.getD j 0:=gX _ hlt;rw[jM] at h4;omega
theorem vN(xs ys:List Nat)(hx:Wf xs)(hy:Wf ys)(h:nl xs<nl ys):val xs<val ys:=by
 rw[fI xs hx,fI ys hy] at h;have h1:=gm (val xs);have h2:val ys≠0:=by intro e;rw[e,aY] at h;simp at h
 have h3:=sM (val ys) h2;have h4:=jK (show(ws (val xs)).length<=(ws (val ys)).length-1 by omega);omega
theorem nA{x y:Nat}(h:x<y):bu x y=-1:=by simp[bu,h]
theorem pE{x y:Nat}(h:y<x):bu x y=1:=by simp[bu,h];omega
theorem Io{x y:Nat}(h:x=y):bu x y=0:=by simp[bu,h]
theorem Fw{a b x y:Nat}(h1:a<b↔x<y)(h2:b<a↔y<x):bu a b=bu x y:=by simp[bu,h1,h2]
theorem Qad{P:Prop}(h:P:=by
 go_wp2;go_ret;exact⟨rfl,aB _ _⟩):P:=h
theorem xa{P:Prop}(h:P:=by
 subst hk0;go_wp2;go_ret;obtain⟨hR,hS,hn,hm,hx,hy,hl1,hl2,f1,f2⟩:=HR.o;have h:=HA.o;rw[Nat.sub_zero,f1,f2] at h;rw[Io h];exact⟨rfl,HB.o⟩):P:=h
theorem Ag (xs ys:List Nat) (ao bo:Option Addr) (n cap m aX B:Nat) (w:World) (hn:n=xs.length) (hm:m=ys.length) (hc:n<=cap) (hcb:m<=aX) (hbig:n<=70368744177664) (hbig2:m<=70368744177664)
 (hx:Wf xs) (hy:Wf ys) (hR:Rd B w ao xs) (hS:Rd B w bo ys) :
 At 181 #[.slice ao n cap,.slice bo m aX] w (.int .i64 (bu (val xs) (val ys))):=by
 have H1:=hid (dW xs ao n cap B w hn hc (by omega) hR);have H2:=hid (dW ys bo m aX B w hm hcb (by omega) hS);have hl1:=jN xs;have hl2:=jN ys;have f1:=kX xs hx;have f2:=kX ys hy;rw[<-jO] at f1 f2
 by_cases he:nl xs=nl ys
 · obtain⟨k0,hk0⟩:∃ k,nl ys=k:=⟨_,rfl⟩;rw[he] at H1 hl1 f1;rw[hk0] at H1 H2 hl1 hl2 f1 f2;have HR:=(xZ hR hS hn hm hx hy hl1 hl2 f1 f2);have HC:Hid (∀ x y w,_):=yN;have hkn:k0<=n:=by omega
   have hkm:k0<=m:=by omega
   clear hR hS hn hm hx hy hl1 hl2 f1 f2 he hk0;go_enter Tryz.func181,Tryz.ntmps181;go_wp2_with fail;refine H1.o.mono ?_;rintro r w1 ⟨rfl,rfl⟩;go_wp2_with fail;refine H2.o.mono ?_;rintro r w1 ⟨rfl,rfl⟩;go_wp2
   go_loopg [5] k0 (fun k i wr=>k<=k0/\i=.int .i64 ((k:Int)-1)/\Hid (An w1 wr)/\Aside (sg xs k (k0-k)=sg ys k (k0-k)))
   case atStart=>exact⟨aA _,rfl,aB _ _,by rw[yE,dZ,dZ];exact rfl⟩
   case round =>
    obtain⟨hk,rfl,HB,HA⟩:=hrel
    by_cases hk0:gk=0
    · exact xa
    · obtain⟨k,rfl⟩:∃ k,gk=k+1:=⟨gk-1,by omega⟩;obtain⟨hR,hS,hn,hm,hx,hy,hl1,hl2,f1,f2⟩:=HR.o;obtain⟨b,off,hB1,rfl,hc1⟩:=hR (by intro e;subst e;simp at hl1;omega);obtain⟨b2,yf,hB2,rfl,hc2⟩:=hS (by intro e;subst e;simp at hl2;omega)
      have g1:wr.cell? ⟨b,off+k,none⟩=some (.int .u32 ((xs.getD k 0:Nat):Int)) :=
       (HB.o.cell (p:=⟨b,off+k,none⟩) (lK w1 ⟨b,off+k,none⟩ (hc1 k (by omega)))).trans (hc1 k (by omega))
      have g2:wr.cell? ⟨b2,yf+k,none⟩=some (.int .u32 ((ys.getD k 0:Nat):Int)) :=
       (HB.o.cell (p:=⟨b2,yf+k,none⟩) (lK w1 ⟨b2,yf+k,none⟩ (hc2 k (by omega)))).trans (hc2 k (by omega))
      obtain⟨x,gF⟩:∃ x:Nat,xs.getD k 0=x:=⟨_,rfl⟩;obtain⟨y,qi⟩:∃ y:Nat,ys.getD k 0=y:=⟨_,rfl⟩;rw[gF] at g1;rw[qi] at g2;have HX:=(aJ gF qi);clear hR hS hn hm hx hy hl1 hl2 f1 f2 hc1 hc2 gF qi hk0
      by_cases hxy:x=y
      · subst hxy;go_wp2
        go_region
        all_goals (
         go_wp2;go_roundg k
         case measure=>omega
         case rel =>
          obtain⟨hR,hS,hn,hm,hx,hy,hl1,hl2,f1,f2⟩:=HR.o;refine⟨by omega,by first | go_num | (congr 1;omega),HB.o.drew,?_⟩;have h:=HA.o;obtain⟨r,hr⟩:∃ r,k0-k=r+1:=⟨k0-(k+1),by omega⟩;rw[show k0-(k+1)=r by omega] at h
          rw[Aside,hr,kY xs k r (by omega),kY ys k r (by omega),h,HX.o.1,HX.o.2])
      · have hne:((x:Int)==(y:Int))=false:=by simp;omega
        have hki:(k:Int)<(k0:Int):=by omega
        have hki0:0<=(k:Int):=by omega
        have hki2:k<k0:=by omega
        go_wp2
        go_region
        all_goals (
         go_wp2
         go_region_with (go_at_call 204;refine(yN x y _).mono ?_;rintro r w2 ⟨rfl,rfl⟩))
        all_goals (
         go_wp2;go_ret;obtain⟨hR,hS,hn,hm,hx,hy,hl1,hl2,f1,f2⟩:=HR.o;have h:=HA.o
         have e:bu (val xs) (val ys)=bu x y:=by
          rw[<-f1,<-f2];have hk2:k+1+(k0-(k+1))=k0:=by omega
          have t1:=pz xs ys hx hy k (k0-(k+1)) (by omega) (by omega) h;have t2:=pz ys xs hy hx k (k0-(k+1)) (by omega) (by omega) h.symm;rw[hk2,HX.o.1,HX.o.2] at t1 t2;apply Fw <;> omega
         rw[e]
         exact⟨rfl,by first | exact HB.o.drew.drew | exact HB.o.drew | skip⟩)
 · have e:bu (val xs) (val ys)=bu (nl xs) (nl ys):=by
    rcases Nat.lt_or_gt_of_ne he with h|h
    · rw[nA h,nA (vN xs ys hx hy h)]
    · rw[pE h,pE (vN ys xs hy hx h)]
   rw[e];obtain⟨k1,hk1⟩:∃ k,nl xs=k:=⟨_,rfl⟩;obtain⟨k2,hk2⟩:∃ k,nl ys=k:=⟨_,rfl⟩;rw[hk1] at H1 he |-;rw[hk2] at H2 he |-;have hne:((k1:Int)==(k2:Int))=false:=by simp;omega
   have hne2:¬ (k1:Int)=(k2:Int):=by omega
   have H3:=hid (JJ k1 k2 w);clear hR hS hn hm hx hy hl1 hl2 f1 f2 hk1 hk2 e he;go_enter Tryz.func181,Tryz.ntmps181;go_wp2_with fail;refine H1.o.mono ?_;rintro r w1 ⟨rfl,rfl⟩;go_wp2_with fail;refine H2.o.mono ?_;rintro r w1 ⟨rfl,rfl⟩;go_wp2_with fail;refine H3.o.mono ?_;rintro r w1 ⟨rfl,rfl⟩;exact Qad
theorem NF(xs:List Nat)(ao:Option Addr)(n cap B:Nat)(w:World)(hn:n=xs.length)(hc:n<=cap)(hbig:n<=35184372088832)(hx:Wf xs)(hR:Rd B w ao xs)(hB:B<=w.heap.size) :
 As 146 #[.slice ao n cap] w fun r w'=>∃ q,nz (val xs) q/\Two w.heap.size w' r q (val xs-q*q)/\An w w':=by
 have T0:=dW xs ao n cap B w hn hc (by omega) hR;have hl:=jN xs;have hform:=nk xs hx;have hlen:=fI xs hx;rw[hlen] at T0 hl hform;obtain⟨X,hX⟩:∃ X,val xs=X:=⟨_,rfl⟩;rw[hX] at T0 hl hform |-;have T:=hid T0;have jP:Rd B w ao (ws X):=by rw[<-hform];exact hR.take _
 by_cases h0:X=0
 · subst h0;rw[aY] at T;clear hX hlen hform hl hx hn hR T0 jP;go_enter Tryz.func146,Tryz.ntmps146;go_wp2_with fail;refine T.o.mono ?_;rintro r w1 ⟨rfl,rfl⟩;go_wp2
   go_ret2
   exact⟨0,⟨by omega,by omega⟩,⟨_,_,rfl,Nt.nil _ _,Nt.nil _ _,mI _⟩,aB _ _⟩
 · have hk0:(ws X).length≠0:=fun e=>h0 ((aW X).1 e);obtain⟨k,hk⟩:∃ k,(ws X).length=k:=⟨_,rfl⟩;have NR:=Ac (ws X) ao k cap B w hk.symm (by omega) (by omega) (dm X) (by rw[aj];exact h0) jP hB;rw[aj] at NR;have N:=hid NR;rw[hk] at T hl hk0;have hkn:k<=n:=by omega
   have hkne:((k:Int)==0)=false:=by simp;omega
   have HH:=(bO jP hk h0);clear hX hlen hform hl hx hn hR T0 jP NR hk h0 hk0;go_enter Tryz.func146,Tryz.ntmps146;go_wp2_with fail;refine T.o.mono ?_;rintro r w1 ⟨rfl,rfl⟩;go_wp2_with fail;refine N.o.mono ?_;rintro r w2 ⟨v2,A,rfl,j5,hA1,hA2,sG,sV,hb2⟩;obtain⟨ra,rc,rfl,hrc,hrcm,hRr⟩:=j5.shape;obtain⟨jP,hk,h0⟩:=HH.o;have hlA:(ws A).length<=k:=by rw[<-hk];exact jh sV
   have M0:=Af (ws A) (ws A) ra ra _ rc _ rc w2.heap.size w2 rfl rfl hrc hrc (by omega) (dm _) (dm _) hRr hRr (aA _);rw[aj] at M0;have M:=hid M0;have H1:=(qb j5 hA1 hA2 sG sV hb2 hRr hlA);clear M0 j5 hA1 hA2 sG sV hb2 hRr jP hk h0 hlA T N;go_wp2_with fail;refine M.o.mono ?_;rintro r w3 ⟨v3,rfl,eu,hb3⟩;obtain⟨sa,sc,rfl,hsc,hscm,hRs⟩:=eu.shape;obtain⟨jP,hk,h0⟩:=HH.o;obtain⟨j5,hA1,hA2,sG,sV,hb2,hRr,hlA⟩:=H1.o;have hs2:=hb2.size;have hs3:=hb3.size;have uX:Rd w3.heap.size w3 ao (ws X):=((jP.below (hb2.mono hB)).below (hb3.mono (by omega))).mono (by omega)
   have Ip:A*A<pw (k+k):=by
    have:=gm A;have h2:=qW this this;rw[<-qx] at h2;exact iJ h2 (jK (by omega))
   have Q8:(ws (A*A)).length<=k+k:=(aP _ _).2 Ip;have C0:=Ag (ws (A*A)) (ws X) sa ao _ sc k cap w3.heap.size w3 rfl hk.symm hsc (by omega) (by omega) (by omega) (dm _) (dm _) hRs uX;rw[aj,aj] at C0;have H2:=(dJ eu hb3 hRs uX Q8)
   by_cases hgt:X<A*A
   · rw[pE hgt] at C0;have C:=hid C0;have H3:=(ak hgt);clear C0 j5 hA1 hA2 sG sV hb2 hRr hlA eu hb3 hRs jP hk h0 hs2 hs3 uX Ip Q8 M hgt;go_wp2_with fail;refine C.o.mono ?_;rintro r w4 ⟨rfl,hb4⟩
     -- the root less one
     obtain⟨jP,hk,h0⟩:=HH.o;obtain⟨j5,hA1,hA2,sG,sV,hb2,hRr,hlA⟩:=H1.o;obtain⟨eu,hb3,hRs,uX,Q8⟩:=H2.o;have hs2:=hb2.size;have hs3:=hb3.size;have hs4:=hb4.size;obtain⟨W5,Fp⟩:=af (w4.alloc (.cells #[.int .u32 1] 91));have hb5:An w4 W5:=by rw[Fp];exact(aB _ _).alloc (aA _) _
     have hs5:=hb5.size;have Ik:Own W5 w4.heap.size [1]:=by rw[Fp];unfold Own;rw[gZ];rfl
     have hg5:=Ik.lt
     have qO:Rd W5.heap.size W5 (some ⟨w4.heap.size,0,none⟩) [1]:=by
      have:=Rd.gD Ik 0 1;exact(by simpa using this:Rd (w4.heap.size+1) W5 (some ⟨w4.heap.size,0,none⟩) [1]).mono (by omega)
     have Yg:Rd W5.heap.size W5 ra (ws A):=(((hRr.below hb3).below (hb4.mono hs3)).below (hb5.mono (by omega))).mono (by omega);have Yh:1<=(ws A).length:=by have:=aW A;omega
     have S0:=vM (ws A) [1] ra (some ⟨w4.heap.size,0,none⟩) _ rc 1 1 W5.heap.size W5 rfl rfl Yh hrc (by omega) (by omega) (dm _) (Wf.cons (by omega) Wf.nil) (by rw[aj];simp[val];omega) Yg qO (aA _);rw[aj,show val [1]=1 from rfl] at S0;rw[Fp] at S0;have S:=hid S0;have H4:=(bO hb4 Fp hb5);clear S0 j5 hA1 hA2 sG sV hb2 hRr hlA eu hb3 hRs jP hk h0 hs2 hs3 uX Q8 hb4 hs4 Fp hb5 hs5 Ik hg5 qO Yg Yh C;go_wp2_with fail;refine S.o.mono ?_;rintro r w6 ⟨v6,rfl,Ah,hb6⟩;obtain⟨ra6,rc6,rfl,Yi,hrcm6,Wm⟩:=Ah.shape;obtain⟨j5,hA1,hA2,sG,sV,hb2,hRr,hlA⟩:=H1.o;have hlA6:(ws (A-1)).length<=(ws A).length:=jh (by omega);have M0:=Af (ws (A-1)) (ws (A-1)) ra6 ra6 _ rc6 _ rc6 w6.heap.size w6 rfl rfl Yi Yi (by omega) (dm _) (dm _) Wm Wm (aA _);rw[aj] at M0;have M:=hid M0;have H5:=(aJ Ah hb6);clear M0 j5 hA1 hA2 sG sV hb2 hRr hlA Ah hb6 Wm hlA6 S;go_wp2_with fail;refine M.o.mono ?_;rintro r w7 ⟨v7,rfl,Yj,hb7⟩;obtain⟨sa7,sc7,rfl,hsc7,hscm7,Yk⟩:=Yj.shape;obtain⟨jP,hk,h0⟩:=HH.o;obtain⟨j5,hA1,hA2,sG,sV,hb2,hRr,hlA⟩:=H1.o;obtain⟨eu,hb3,hRs,uX,Q8⟩:=H2.o;obtain⟨hb4,Fp,hb5⟩:=H4.o;obtain⟨Ah,hb6⟩:=H5.o;rw[<-Fp] at Ah hb6;have hs2:=hb2.size;have hs3:=hb3.size;have hs4:=hb4.size;have hs5:=hb5.size;have hs6:=hb6.size;have hs7:=hb7.size;have J4:An w1 w7:=(((((hb2.trans (hb3.mono hs2)).trans (hb4.mono (by omega))).trans (hb5.mono (by omega))).trans (hb6.mono (by omega)))).trans (hb7.mono (by omega));have Yl:Rd w7.heap.size w7 ao (ws X):=(jP.below (J4.mono hB)).mono (by omega);have Wn:(A-1)*(A-1)<=X:=by omega
     have hl7:(ws ((A-1)*(A-1))).length<=k:=by rw[<-hk];exact jh Wn
     have S0:=vM (ws X) (ws ((A-1)*(A-1))) ao sa7 k cap _ sc7 w7.heap.size w7 hk.symm rfl hl7 (by omega) hsc7 (by omega) (dm _) (dm _) (by rw[aj,aj];exact Wn) Yl Yk (aA _);rw[aj,aj] at S0;have S:=hid S0;have NI:=Ah.below hb7;have H6:=(aJ J4 NI);clear S0 j5 hA1 hA2 sG sV hb2 hRr hlA eu hb3 hRs jP hk h0 uX Q8 hb4 Fp hb5 Ah hb6 Yj hb7 Yk hs2 hs3 hs4 hs5 hs6 hs7 J4 Yl Wn hl7 NI M;go_wp2_with fail;refine S.o.mono ?_;rintro r w8 ⟨v8,rfl,EJ,BX⟩;have H7:=(aJ EJ BX);clear EJ BX S;go_wp2
     go_ret2
     obtain⟨EJ,BX⟩:=H7.o;obtain⟨J4,NI⟩:=H6.o;obtain⟨j5,hA1,hA2,sG,sV,hb2,hRr,hlA⟩:=H1.o;obtain⟨hb4,Fp,hb5⟩:=H4.o;obtain⟨eu,hb3,hRs,uX,Q8⟩:=H2.o;have hs2:=hb2.size;have hs3:=hb3.size;have hs4:=hb4.size;have hs5:=hb5.size;have hs7:=J4.size;have hlow:w1.heap.size<=W5.heap.size:=by omega
     refine⟨A-1,⟨by omega,?_⟩,⟨_,_,rfl,(NI.below BX).mono hlow,EJ.mono hs7,rz (hi:=0) NI EJ (aA _)⟩,J4.trans (BX.mono hs7)⟩;rw[show A-1+1=A by omega];exact H3.o
   · have hle:A*A<=X:=by omega
     have hC1:bu (A*A) X<=0:=by unfold bu;split <;> (try split) <;> omega
     obtain⟨cc,hcc⟩:∃ cc,bu (A*A) X=cc:=⟨_,rfl⟩;rw[hcc] at C0 hC1;have C:=hid C0;have H3:=(ak hle);clear C0 j5 hA1 hA2 sG sV hb2 hRr hlA eu hb3 hRs jP hk h0 hs2 hs3 uX Ip Q8 M hle hgt hcc;go_wp2_with fail;refine C.o.mono ?_;rintro r w4 ⟨rfl,hb4⟩;obtain⟨jP,hk,h0⟩:=HH.o;obtain⟨j5,hA1,hA2,sG,sV,hb2,hRr,hlA⟩:=H1.o;obtain⟨eu,hb3,hRs,uX,Q8⟩:=H2.o;have hs2:=hb2.size;have hs3:=hb3.size;have hs4:=hb4.size;have NJ:An w1 w4:=(hb2.trans (hb3.mono hs2)).trans (hb4.mono (by omega));have Ym:Rd w4.heap.size w4 ao (ws X):=(uX.below hb4).mono hs4;have Yn:Rd w4.heap.size w4 sa (ws (A*A)):=(hRs.below hb4).mono hs4;have hl4:(ws (A*A)).length<=k:=by rw[<-hk];exact jh H3.o
     have S0:=vM (ws X) (ws (A*A)) ao sa k cap _ sc w4.heap.size w4 hk.symm rfl hl4 (by omega) hsc (by omega) (dm _) (dm _) (by rw[aj,aj];exact H3.o) Ym Yn (aA _);rw[aj,aj] at S0;have S:=hid S0;have NK:=(j5.below hb3).below hb4;have H6:=(aJ NJ NK);clear S0 j5 hA1 hA2 sG sV hb2 hRr hlA eu hb3 hRs jP hk h0 uX Q8 hb4 hs2 hs3 hs4 NJ Ym Yn hl4 NK C;go_wp2_with fail;refine S.o.mono ?_;rintro r w8 ⟨v8,rfl,EJ,BX⟩;have H7:=(aJ EJ BX);clear EJ BX S;go_wp2
     go_ret2
     obtain⟨EJ,BX⟩:=H7.o;obtain⟨NJ,NK⟩:=H6.o;obtain⟨j5,hA1,hA2,sG,sV,hb2,hRr,hlA⟩:=H1.o;have hs4:=NJ.size;exact⟨A,⟨H3.o,hA2⟩,⟨_,_,rfl,NK.below BX,EJ.mono hs4,rz (hi:=0) NK EJ (aA _)⟩,NJ.trans (BX.mono hs4)⟩
abbrev LG(X:Nat):Prop:=8192<(ws X).length
def uY(X Y:Nat):Nat×Int:=if LG (X+Y) then(0,2) else(X+Y,0)
def oF(X Y:Nat):Nat×Int:=if LG X\/LG Y then(0,2) else if X<Y then(0,20) else(X-Y,0)
def j6(X Y:Nat):Nat×Int:=if LG X\/LG Y then(0,2) else if LG (X*Y) then(0,2) else(X*Y,0)
def oG(X Y:Nat):Nat×Nat×Int:=if LG X\/LG Y then(0,0,2) else if Y=0 then(0,0,21) else(X/Y,X%Y,0)
def aV(X:Nat)(by':Int):Nat×Int:=if LG X then(0,2) else if X=0 then(0,0) else if by'<0 then(X/2^(-by').toNat,0) else if 262144-(bl X:Int)<by' then(0,2) else(X*2^by'.toNat,0)
def One(lo:Nat)(w:World)(r:Ending)(a:Nat×Int):Prop:=∃ v,r=.returned (.tuple #[v,.int .i64 a.2])/\Nt lo w v a.1
theorem rA(xs:List Nat)(ao:Option Addr)(n cap B:Nat)(w:World)(hn:n=xs.length)(hc:n<=cap)(hm:n<=70368744177664)(hx:Wf xs)(hR:Rd B w ao xs) :
 (Ax 132 #[.slice ao n cap] w (.slice ao (ws (val xs)).length cap))/\Rd B w ao (ws (val xs))/\(ws (val xs)).length<=n:=by
 have T:=dW xs ao n cap B w hn hc (by omega) hR;have hl:=jN xs;have hf:=nk xs hx;have hlen:=fI xs hx;rw[hlen] at T hl hf;exact⟨T,by rw[<-hf];exact hR.take _,by omega⟩
theorem Iq (xs ys:List Nat) (ao bo:Option Addr) (n cap m aX B:Nat) (w:World) (hn:n=xs.length) (hm:m=ys.length) (hc:n<=cap) (hcb:m<=aX) (hbig:n<=35184372088833) (hbig2:m<=35184372088833)
 (hx:Wf xs) (hy:Wf ys) (hR:Rd B w ao xs) (hS:Rd B w bo ys) (hB:B<=w.heap.size) :
 As 162 #[.slice ao n cap,.slice bo m aX] w fun r w'=>One w.heap.size w' r (uY (val xs) (val ys))/\An w w':=by
 obtain⟨T1,jP,hl1⟩:=rA xs ao n cap B w hn hc (by omega) hx hR;obtain⟨T2,sW,hl2⟩:=rA ys bo m aX B w hm hcb (by omega) hy hS;generalize val xs=X at *;generalize val ys=Y at *;have A0:=Il (ws X) (ws Y) ao bo _ cap _ aX B w rfl rfl (by omega) (by omega) (by omega) (by omega) (dm X) (dm Y) jP sW hB;rw[aj,aj] at A0;have H1:=(hid T1);have H2:=(hid T2);have H3:=(hid A0);clear T1 T2 A0 jP sW hn hm hx hy hR hS hl1 hl2;go_enter Tryz.func162,Tryz.ntmps162;go_wp2_with fail;refine H1.o.mono ?_;rintro r w1 ⟨rfl,rfl⟩;go_wp2_with fail;refine H2.o.mono ?_;rintro r w1 ⟨rfl,rfl⟩;go_wp2_with fail;refine H3.o.mono ?_;rintro r w2 ⟨v,rfl,hN,hb⟩;obtain⟨av,cv,rfl,hcv,hcm,hRv⟩:=hN.shape;have U0:=ow (ws (X+Y)).length av cv w2;have HN:=(aJ hN hb);clear H1 H2 H3 hN hb hRv
 by_cases hL:LG (X+Y)
 · rw[if_pos (show 8192<(ws (X+Y)).length from hL)] at U0;have U:=(hid U0);clear U0;go_wp2_with fail;refine U.o.mono ?_;rintro r w3 ⟨rfl,rfl⟩;go_wp2
   go_ret2
   rw[show uY X Y=(0,2) by simp[uY,hL]];exact⟨⟨_,rfl,Nt.nil _ _⟩,HN.o.2⟩
 · rw[if_neg (show ¬ 8192<(ws (X+Y)).length from hL)] at U0;have U:=(hid U0);clear U0;go_wp2_with fail;refine U.o.mono ?_;rintro r w3 ⟨rfl,rfl⟩;go_wp2
   go_ret2
   rw[show uY X Y=(X+Y,0) by simp[uY,hL]];exact⟨⟨_,rfl,HN.o.1⟩,HN.o.2⟩
theorem lU(n:Nat)(ao:Option Addr)(cap:Nat)(w:World)(b:Bool)(hb:decide (8192<n)=b) :
 Ax 170 #[.slice ao n cap] w (.bool b):=by
 have h:=vZ n ao cap w;have e:decide ((8192:Int)<(n:Int))=b:=by rw[<-hb];simp only[decide_eq_decide];omega
 rw[e] at h;exact h
theorem Xs{P:Prop}(h:P:=by
 go_wp2_with fail;refine H1.o.mono ?_;rintro r w1 ⟨rfl,rfl⟩;go_wp2_with fail;refine H2.o.mono ?_;rintro r w1 ⟨rfl,rfl⟩;go_wp2_with fail;refine L.o.mono ?_;rintro r w1 ⟨rfl,rfl⟩;go_wp2
 go_ret2
 exact⟨⟨_,rfl,Nt.nil _ _⟩,aB _ _⟩):P:=h
theorem J1{P:Prop}(h:P:=by
 go_wp2_with fail;refine H1.o.mono ?_;rintro r w1 ⟨rfl,rfl⟩;go_wp2_with fail;refine H2.o.mono ?_;rintro r w1 ⟨rfl,rfl⟩;go_wp2_with fail;refine L.o.mono ?_;rintro r w1 ⟨rfl,rfl⟩;go_wp2_with fail;refine L2.o.mono ?_;rintro r w1 ⟨rfl,rfl⟩;go_wp2
 go_ret2
 exact⟨⟨_,rfl,Nt.nil _ _⟩,aB _ _⟩):P:=h
theorem RA (xs ys:List Nat) (ao bo:Option Addr) (n cap m aX B:Nat) (w:World) (hn:n=xs.length) (hm:m=ys.length) (hc:n<=cap) (hcb:m<=aX) (hbig:n<=35184372088833) (hbig2:m<=35184372088833)
 (hx:Wf xs) (hy:Wf ys) (hR:Rd B w ao xs) (hS:Rd B w bo ys) (hB:B<=w.heap.size) :
 As 165 #[.slice ao n cap,.slice bo m aX] w fun r w'=>One w.heap.size w' r (oF (val xs) (val ys))/\An w w':=by
 obtain⟨T1,jP,hl1⟩:=rA xs ao n cap B w hn hc (by omega) hx hR;obtain⟨T2,sW,hl2⟩:=rA ys bo m aX B w hm hcb (by omega) hy hS;generalize val xs=X at *;generalize val ys=Y at *;have H1:=(hid T1);have H2:=(hid T2);have HR:=(fE jP sW hl1 hl2);clear T1 T2 jP sW hn hm hx hy hR hS hl1 hl2
 by_cases kg:LG X
 · have L:=hid (lU (ws X).length ao cap w true (by simpa [LG] using kg));have e:oF X Y=(0,2):=by simp[oF,kg]
   rw[e];clear e kg HR;go_enter Tryz.func165,Tryz.ntmps165;exact Xs
 · have L:=hid (lU (ws X).length ao cap w false (by simpa [LG] using kg))
   by_cases qj:LG Y
   · have L2:=hid (lU (ws Y).length bo aX w true (by simpa [LG] using qj));have e:oF X Y=(0,2):=by simp[oF,qj]
     rw[e];clear e kg qj HR;go_enter Tryz.func165,Tryz.ntmps165;exact J1
   · have L2:=hid (lU (ws Y).length bo aX w false (by simpa [LG] using qj));obtain⟨jP,sW,hl1,hl2⟩:=HR.o;have C0:=Ag (ws X) (ws Y) ao bo _ cap _ aX B w rfl rfl (by omega) (by omega) (by omega) (by omega) (dm X) (dm Y) jP sW;rw[aj,aj] at C0
     by_cases hlt:X<Y
     · rw[nA hlt] at C0;have C:=hid C0;have e:oF X Y=(0,20):=by simp[oF,kg,qj,hlt]
       rw[e];clear e kg qj HR C0 hlt jP sW hl1 hl2;go_enter Tryz.func165,Tryz.ntmps165;go_wp2_with fail;refine H1.o.mono ?_;rintro r w1 ⟨rfl,rfl⟩;go_wp2_with fail;refine H2.o.mono ?_;rintro r w1 ⟨rfl,rfl⟩;go_wp2_with fail;refine L.o.mono ?_;rintro r w1 ⟨rfl,rfl⟩;go_wp2_with fail;refine L2.o.mono ?_;rintro r w1 ⟨rfl,rfl⟩;go_wp2_with fail;refine C.o.mono ?_;rintro r w2 ⟨rfl,hb⟩;have HB:=(ak hb);clear hb;go_wp2
       go_ret2
       exact⟨⟨_,rfl,Nt.nil _ _⟩,HB.o⟩
     · have hc1:0<=bu X Y:=by unfold bu;rw[if_neg hlt];split <;> omega
       obtain⟨cc,hcc⟩:∃ cc,bu X Y=cc:=⟨_,rfl⟩;rw[hcc] at C0 hc1;have C:=hid C0;have e:oF X Y=(X-Y,0):=by simp[oF,kg,qj,hlt]
       rw[e];have HL:=(ak hlt);clear e kg qj C0 hlt jP sW hl1 hl2 hcc;go_enter Tryz.func165,Tryz.ntmps165;go_wp2_with fail;refine H1.o.mono ?_;rintro r w1 ⟨rfl,rfl⟩;go_wp2_with fail;refine H2.o.mono ?_;rintro r w1 ⟨rfl,rfl⟩;go_wp2_with fail;refine L.o.mono ?_;rintro r w1 ⟨rfl,rfl⟩;go_wp2_with fail;refine L2.o.mono ?_;rintro r w1 ⟨rfl,rfl⟩;go_wp2_with fail;refine C.o.mono ?_;rintro r w2 ⟨rfl,hb⟩;obtain⟨jP,sW,hl1,hl2⟩:=HR.o;have hs:=hb.size;have S0:=vM (ws X) (ws Y) ao bo _ cap _ aX B w2 rfl rfl (jh (by have:=HL.o;omega)) (by omega) (by omega) (by omega) (dm X) (dm Y) (by rw[aj,aj];have:=HL.o;omega) (jP.below (hb.mono hB)) (sW.below (hb.mono hB)) (by omega);rw[aj,aj] at S0;have S:=hid S0;have HB:=(aJ hb hs);clear hb jP sW hl1 hl2 S0 hs C;go_wp2_with fail;refine S.o.mono ?_;rintro r w3 ⟨v,rfl,hN,hb2⟩;have HN:=(aJ hN hb2);clear hN hb2 S;go_wp2
       go_ret2
       obtain⟨hb,hs⟩:=HB.o;exact⟨⟨_,rfl,HN.o.1.mono hs⟩,hb.trans (HN.o.2.mono hs)⟩
theorem Ir (xs ys:List Nat) (ao bo:Option Addr) (n cap m aX B:Nat) (w:World) (hn:n=xs.length) (hm:m=ys.length) (hc:n<=cap) (hcb:m<=aX) (hbig:n<=35184372088833) (hbig2:m<=35184372088833)
 (hx:Wf xs) (hy:Wf ys) (hR:Rd B w ao xs) (hS:Rd B w bo ys) (hB:B<=w.heap.size) :
 As 130 #[.slice ao n cap,.slice bo m aX] w fun r w'=>One w.heap.size w' r (j6 (val xs) (val ys))/\An w w':=by
 obtain⟨T1,jP,hl1⟩:=rA xs ao n cap B w hn hc (by omega) hx hR;obtain⟨T2,sW,hl2⟩:=rA ys bo m aX B w hm hcb (by omega) hy hS;generalize val xs=X at *;generalize val ys=Y at *;have H1:=(hid T1);have H2:=(hid T2);have HR:=(fE jP sW hl1 hl2);clear T1 T2 jP sW hn hm hx hy hR hS hl1 hl2
 by_cases kg:LG X
 · have L:=hid (lU (ws X).length ao cap w true (by simpa [LG] using kg));have e:j6 X Y=(0,2):=by simp[j6,kg]
   rw[e];clear e kg HR;go_enter Tryz.func130,Tryz.ntmps130;exact Xs
 · have L:=hid (lU (ws X).length ao cap w false (by simpa [LG] using kg))
   by_cases qj:LG Y
   · have L2:=hid (lU (ws Y).length bo aX w true (by simpa [LG] using qj));have e:j6 X Y=(0,2):=by simp[j6,qj]
     rw[e];clear e kg qj HR;go_enter Tryz.func130,Tryz.ntmps130;exact J1
   · have L2:=hid (lU (ws Y).length bo aX w false (by simpa [LG] using qj));have hz1:(ws X).length=0->X=0:=(aW X).1;have hz2:(ws Y).length=0->Y=0:=(aW Y).1
     by_cases h1:(ws X).length=0
     · have e:j6 X Y=(0,0):=by
        have:=hz1 h1;subst this;unfold j6;rw[if_neg (by simp[kg,qj]),eG,if_neg kg]
       rw[e];have hh:=hid h1;rw[h1] at H1 L;have h1b:((ws X).length:Int)=0:=by omega
       clear e kg qj HR hz1 hz2 h1 h1b hh;go_enter Tryz.func130,Tryz.ntmps130;exact J1
     · by_cases h2:(ws Y).length=0
       · have e:j6 X Y=(0,0):=by
          have:=hz2 h2;subst this;unfold j6;rw[if_neg (by simp[kg,qj]),mE,if_neg qj]
         rw[e];rw[h2] at H2 L2;obtain⟨k1,hk1⟩:∃ k,(ws X).length=k:=⟨_,rfl⟩;rw[hk1] at H1 L h1;have h1b:((k1:Int)==0)=false:=by simp;omega
         clear e kg qj HR hz1 hz2 h2 hk1;go_enter Tryz.func130,Tryz.ntmps130;exact J1
       · have hX0:X≠0:=fun e=>h1 ((aW X).2 e);have hY0:Y≠0:=fun e=>h2 ((aW Y).2 e)
         have hlow:pw ((ws X).length+(ws Y).length-2)<=X*Y:=by
          have a:=jC (sM X hX0) (sM Y hY0);rw[<-qx] at a;rw[show(ws X).length+(ws Y).length-2=(ws X).length-1+((ws Y).length-1) by omega];exact a
         obtain⟨jP,sW,hl1,hl2⟩:=HR.o;have M0:=Af (ws X) (ws Y) ao bo _ cap _ aX B w rfl rfl (by omega) (by omega) (by unfold LG at kg qj;omega) (dm X) (dm Y) jP sW hB;rw[aj,aj] at M0;have RB:(ws X).length<=8192:=by unfold LG at kg;omega
         have RD:(ws Y).length<=8192:=by unfold LG at qj;omega
         obtain⟨k1,hk1⟩:∃ k,(ws X).length=k:=⟨_,rfl⟩;obtain⟨k2,hk2⟩:∃ k,(ws Y).length=k:=⟨_,rfl⟩;rw[hk1] at H1 L h1 M0 hlow RB;rw[hk2] at H2 L2 h2 M0 hlow RD;have h1b:((k1:Int)==0)=false:=by simp;omega
         have h2b:((k2:Int)==0)=false:=by simp;omega
         by_cases h3:8192<k1+k2-1
         · have hLG:LG (X*Y):=by
            unfold LG
            by_cases h4:(ws (X*Y)).length<=8192
            · have:=(aP _ _).1 h4;have:=jK (show 8192<=k1+k2-2 by omega);omega
            · omega
           have e:j6 X Y=(0,2):=by simp[j6,hLG]
           rw[e];have h3i:(8192:Int)<(k1:Int)+(k2:Int)-1:=by omega
           clear e kg qj HR hz1 hz2 hk1 hk2 jP sW hl1 hl2 M0 hX0 hY0 hlow hLG h3;go_enter Tryz.func130,Tryz.ntmps130;exact J1
         · have h3i:(k1:Int)+(k2:Int)-1<=8192:=by omega
           have h3b:decide ((8192:Int)<(k1:Int)+(k2:Int)-1)=false:=decide_eq_false (by omega);have M:=hid M0;have HL:=(aJ kg qj);clear kg qj HR hz1 hz2 hk1 hk2 jP sW hl1 hl2 M0 hX0 hY0 hlow h3;go_enter Tryz.func130,Tryz.ntmps130;go_wp2_with fail;refine H1.o.mono ?_;rintro r w1 ⟨rfl,rfl⟩;go_wp2_with fail;refine H2.o.mono ?_;rintro r w1 ⟨rfl,rfl⟩;go_wp2_with fail;refine L.o.mono ?_;rintro r w1 ⟨rfl,rfl⟩;go_wp2_with fail;refine L2.o.mono ?_;rintro r w1 ⟨rfl,rfl⟩;go_wp2_with fail;refine M.o.mono ?_;rintro r w2 ⟨v,rfl,hN,hb⟩;obtain⟨av,cv,rfl,hcv,hcm,hRv⟩:=hN.shape;have U0:=ow (ws (X*Y)).length av cv w2;have HN:=(aJ hN hb);clear M hN hb hRv
           by_cases hL:LG (X*Y)
           · rw[if_pos (show 8192<(ws (X*Y)).length from hL)] at U0;have U:=(hid U0);clear U0;go_wp2_with fail;refine U.o.mono ?_;rintro r w3 ⟨rfl,rfl⟩;go_wp2
             go_ret2
             rw[show j6 X Y=(0,2) by simp[j6,hL]];exact⟨⟨_,rfl,Nt.nil _ _⟩,HN.o.2⟩
           · rw[if_neg (show ¬ 8192<(ws (X*Y)).length from hL)] at U0;have U:=(hid U0);clear U0;go_wp2_with fail;refine U.o.mono ?_;rintro r w3 ⟨rfl,rfl⟩;go_wp2
             go_ret2
             rw[show j6 X Y=(X*Y,0) by simp[j6,HL.o.1,HL.o.2,hL]];exact⟨⟨_,rfl,HN.o.1⟩,HN.o.2⟩
def Three(lo:Nat)(w:World)(r:Ending)(a:Nat×Nat×Int):Prop:=∃ v u,r=.returned (.tuple #[v,u,.int .i64 a.2.2])/\Nt lo w v a.1/\Nt lo w u a.2.1/\Apart v u
theorem qS{P:Prop}(h:P:=by
 clear e kg qj HR;go_enter Tryz.func163,Tryz.ntmps163;go_wp2_with fail;refine H1.o.mono ?_;rintro r w1 ⟨rfl,rfl⟩;go_wp2_with fail;refine H2.o.mono ?_;rintro r w1 ⟨rfl,rfl⟩;go_wp2_with fail;refine L.o.mono ?_;rintro r w1 ⟨rfl,rfl⟩;go_wp2_with fail;refine L2.o.mono ?_;rintro r w1 ⟨rfl,rfl⟩;go_wp2
 go_ret3
 exact⟨⟨_,_,rfl,Nt.nil _ _,Nt.nil _ _,mI _⟩,aB _ _⟩):P:=h
theorem RF (xs ys:List Nat) (ao bo:Option Addr) (n cap m aX B:Nat) (w:World) (hn:n=xs.length) (hm:m=ys.length) (hc:n<=cap) (hcb:m<=aX) (hbig:n<=35184372088833) (hbig2:m<=35184372088833)
 (hx:Wf xs) (hy:Wf ys) (hR:Rd B w ao xs) (hS:Rd B w bo ys) (hB:B<=w.heap.size) :
 As 163 #[.slice ao n cap,.slice bo m aX] w fun r w'=>Three w.heap.size w' r (oG (val xs) (val ys))/\An w w':=by
 obtain⟨T1,jP,hl1⟩:=rA xs ao n cap B w hn hc (by omega) hx hR;obtain⟨T2,sW,hl2⟩:=rA ys bo m aX B w hm hcb (by omega) hy hS;generalize val xs=X at *;generalize val ys=Y at *;have H1:=(hid T1);have H2:=(hid T2);have HR:=(fE jP sW hl1 hl2);clear T1 T2 jP sW hn hm hx hy hR hS hl1 hl2
 by_cases kg:LG X
 · have L:=hid (lU (ws X).length ao cap w true (by simpa [LG] using kg));have e:oG X Y=(0,0,2):=by simp[oG,kg]
   rw[e];clear e kg HR;go_enter Tryz.func163,Tryz.ntmps163;go_wp2_with fail;refine H1.o.mono ?_;rintro r w1 ⟨rfl,rfl⟩;go_wp2_with fail;refine H2.o.mono ?_;rintro r w1 ⟨rfl,rfl⟩;go_wp2_with fail;refine L.o.mono ?_;rintro r w1 ⟨rfl,rfl⟩;go_wp2
   go_ret3
   exact⟨⟨_,_,rfl,Nt.nil _ _,Nt.nil _ _,mI _⟩,aB _ _⟩
 · have L:=hid (lU (ws X).length ao cap w false (by simpa [LG] using kg))
   by_cases qj:LG Y
   · have L2:=hid (lU (ws Y).length bo aX w true (by simpa [LG] using qj));have e:oG X Y=(0,0,2):=by simp[oG,qj]
     rw[e];exact qS
   · have L2:=hid (lU (ws Y).length bo aX w false (by simpa [LG] using qj))
     by_cases h2:Y=0
     · have e:oG X Y=(0,0,21):=by unfold oG;rw[if_neg (by simp[kg,qj]),if_pos h2]
       rw[e];subst h2;rw[aY] at H2 L2;exact qS
     · have h3:(ws Y).length≠0:=fun e=>h2 ((aW Y).1 e);obtain⟨jP,sW,hl1,hl2⟩:=HR.o;have D0:=Im (ws X) (ws Y) ao bo _ cap _ aX B w rfl rfl (by omega) (by omega) (by omega) (by omega) (dm X) (dm Y) (ND Y h2) jP sW hB;rw[aj,aj] at D0;have e:oG X Y=(X/Y,X%Y,0):=by simp[oG,kg,qj,h2]
       rw[e];obtain⟨k2,hk2⟩:∃ k,(ws Y).length=k:=⟨_,rfl⟩;rw[hk2] at H2 L2 D0 h3;have h2b:((k2:Int)==0)=false:=by simp;omega
       have D:=hid D0;clear e kg qj HR hk2 jP sW hl1 hl2 D0 h2;go_enter Tryz.func163,Tryz.ntmps163;go_wp2_with fail;refine H1.o.mono ?_;rintro r w1 ⟨rfl,rfl⟩;go_wp2_with fail;refine H2.o.mono ?_;rintro r w1 ⟨rfl,rfl⟩;go_wp2_with fail;refine L.o.mono ?_;rintro r w1 ⟨rfl,rfl⟩;go_wp2_with fail;refine L2.o.mono ?_;rintro r w1 ⟨rfl,rfl⟩;go_wp2_with fail;refine D.o.mono ?_;rintro r w2 ⟨⟨v,u,rfl,hN1,j5,hap⟩,hb⟩;have HN:=(fE hN1 j5 hap hb);clear hN1 j5 hap hb D;go_wp2
       go_ret3
       obtain⟨hN1,j5,hap,hb⟩:=HN.o;exact⟨⟨_,_,rfl,hN1,j5,hap⟩,hb⟩
theorem CE(X k:Nat)(h:X<pw k):bl X<=32*k:=by
 by_cases h0:X=0
 · subst h0;rw[dD];omega
 · have h1:=ib X h0;have h3:pw k=2^(32*k):=by rw[<-gW (32*k),mg];simp
   rw[h3] at h;have:=(jD (a:=2) (by decide)).1 (fu h1 h);omega
theorem NM(X:Nat)(h:¬ LG X):bl X<=262144 :=
 CE X 8192 ((aP X 8192).1 (by unfold LG at h;omega))
theorem xi{P:Prop}(h:P:=by
 refine D.o.mono ?_;rintro r w2 ⟨v,rfl,hN,hb⟩;have HN:=(aJ hN hb);clear hN hb D;go_wp2
 go_ret2
 exact⟨⟨_,rfl,HN.o.1⟩,HN.o.2⟩):P:=h
theorem yS (xs:List Nat) (ao:Option Addr) (n cap B:Nat) (by':Int) (w:World) (hn:n=xs.length) (hc:n<=cap) (hbig:n<=35184372088833)
 (hx:Wf xs) (hR:Rd B w ao xs) (hB:B<=w.heap.size) (hb0:-9223372036854775808<=by') (hb1:by'<=9223372036854775807) :
 As 161 #[.slice ao n cap,.int .i64 by'] w fun r w'=>One w.heap.size w' r (aV (val xs) by')/\An w w':=by
 obtain⟨T1,jP,hl1⟩:=rA xs ao n cap B w hn hc (by omega) hx hR;generalize val xs=X at *;have N0:=pg (ws X) ao _ cap B w rfl (by omega) (by omega) (dm X) jP;rw[aj] at N0;have H1:=(hid T1);have H2:=(hid N0);have HR:=(aJ jP hl1);clear T1 N0 jP hn hx hR hl1
 by_cases kg:LG X
 · have L:=hid (lU (ws X).length ao cap w true (by simpa [LG] using kg));have e:aV X by'=(0,2):=by simp[aV,kg]
   rw[e];clear e kg HR;generalize bl X=c at *;go_enter Tryz.func161,Tryz.ntmps161;exact Xs
 · have L:=hid (lU (ws X).length ao cap w false (by simpa [LG] using kg));have hbs:=NM X kg;obtain⟨c,hcc⟩:∃ c,bl X=c:=⟨_,rfl⟩
   by_cases h0:X=0
   · have e:aV X by'=(0,0):=by unfold aV;rw[if_neg kg,if_pos h0]
     rw[e];subst h0;rw[aY] at H1 H2 L;rw[dD] at H2;clear e kg HR hbs hcc;go_enter Tryz.func161,Tryz.ntmps161;exact Xs
   · have hcp:=dG X h0;have hlt:=iF X;rw[hcc] at hcp hbs H2 hlt;have hcne:((c:Int)==0)=false:=by simp;omega
     by_cases hneg:by'<0
     · obtain⟨d,hd⟩:∃ d:Nat,(d:Int)=-by':=⟨(-by').toNat,by omega⟩
       have e:aV X by'=(X/2^d,0):=by
        unfold aV;rw[if_neg kg,if_neg h0,if_pos hneg,<-hd,mF]
       rw[e]
       by_cases hbig2:by'<=-(c:Int)
       · have e2:X/2^d=0:=gY (iJ hlt (fq (by decide) (by omega)));rw[e2];clear e e2 kg HR hcc hlt hd h0;go_enter Tryz.func161,Tryz.ntmps161;exact Xs
       · obtain⟨jP,hl1⟩:=HR.o;have D0:=wz (ws X) ao _ cap B d (d/32) (d%32) w rfl (by omega) (by omega) (by omega) (by omega) (by omega) (dm X) jP hB;rw[aj] at D0;have D:=hid D0;have hgt:-(c:Int)<by':=by omega
         have hd':-by'=(d:Int):=hd.symm
         clear e kg HR hcc hlt h0 jP hl1 D0 hbig2 hd;go_enter Tryz.func161,Tryz.ntmps161;go_wp2_with fail;refine H1.o.mono ?_;rintro r w1 ⟨rfl,rfl⟩;go_wp2_with fail;refine H2.o.mono ?_;rintro r w1 ⟨rfl,rfl⟩;go_wp2_with fail;refine L.o.mono ?_;rintro r w1 ⟨rfl,rfl⟩;go_wp2_with fail
         try rw[hd']
         exact xi
     · obtain⟨d,rfl⟩:∃ d:Nat,by'=(d:Int):=⟨by'.toNat,by omega⟩
       by_cases NN:262144-(c:Int)<(d:Int)
       · have e:aV X (d:Int)=(0,2):=by unfold aV;rw[if_neg kg,if_neg h0,if_neg hneg,hcc,if_pos NN]
         rw[e];clear e kg HR hcc hlt h0 hneg;go_enter Tryz.func161,Tryz.ntmps161;exact Xs
       · have e:aV X (d:Int)=(X*2^d,0):=by unfold aV;rw[if_neg kg,if_neg h0,if_neg hneg,hcc,if_neg NN,mF]
         rw[e];obtain⟨jP,hl1⟩:=HR.o;have D0:=z8 (ws X) ao _ cap B d (d/32) (d%32) w rfl (by omega) (by omega) (by omega) (by unfold LG at kg;omega) (dm X) jP hB;rw[aj] at D0;have D:=hid D0;have hle:(d:Int)<=262144-(c:Int):=by omega
         have hleb:decide (262144-(c:Int)<(d:Int))=false:=decide_eq_false (by omega);clear e kg HR hcc hlt h0 jP hl1 D0 NN hneg;go_enter Tryz.func161,Tryz.ntmps161;go_wp2_with fail;refine H1.o.mono ?_;rintro r w1 ⟨rfl,rfl⟩;go_wp2_with fail;refine H2.o.mono ?_;rintro r w1 ⟨rfl,rfl⟩;go_wp2_with fail;refine L.o.mono ?_;rintro r w1 ⟨rfl,rfl⟩;go_wp2_with fail;exact xi
theorem kD (w:World) (lo:Nat) (v:Value) (n:Nat) (xs src:List Nat) (ao:Option Addr) (m c B:Nat) (ty:TypeId) (hown:w.ownsRow lo 91 1 v n (xs.map U)) (hm:m=src.length) (hR:Rd B w ao src)
 (hnil:ao=none->c=0) (hbig:n+m<=35184372088832) (hlo:lo<=w.heap.size) :
 ∃ v' w',(Builtin.append_ #[35,35] ty #[v,.slice ao m c]).run Tryz.prog w=.ok v' w'/\w'.ownsRow lo 91 1 v' (n+m) ((xs++src).map U)/\w.grownBy w' v.ownBlock:=by
 obtain⟨i0,hi,hz0,hz1,hz2⟩:=info_parts Tryz.E8;subst hm;rcases hao:ao with _|a
 · have h0:src=[]:=by
    by_cases h:src=[]
    · exact h
    · obtain⟨b,off,_,e,_⟩:=hR h;rw[hao] at e;cases e
   subst h0;have hc:=hnil hao;subst hc;exact⟨v,w,run_append_owned_none (P:=Tryz.prog) w lo 35 ty 91 i0 1 Tryz.underlying35 hi v n _ hown,by simpa using hown,World.grownBy.refl _ _⟩
 · obtain⟨v',w',h1,h2,h3,_⟩:=run_append_own (P:=Tryz.prog) w lo 35 ty 91 i0 (.int .u32 0) 1 4 Tryz.underlying35 hi hz0 hz1 hz2 rfl (by decide) v n (xs.map U) hown a src.length c (src.map U) (by simp) (by
    intro j u hj;have hj2:j<src.length:=by have:=(zH.1 hj).1;simpa using this
    obtain⟨b,off,_,e,hc⟩:=hR (by intro e;subst e;simp at hj2);rw[hao] at e
    cases e
    have hadd:(⟨b,off,none⟩:Addr).add j=⟨b,off+j,none⟩:=by unfold Addr.add;split <;> simp_all
    rw[hadd,hc j hj2];simp[hj2,U] at hj
    simp[hj2,<-hj]) (by
    intro u hu;obtain⟨x,_,rfl⟩:=List.mem_map.1 hu
    rfl) (by unfold maxLen;omega) (by omega) hlo
   exact⟨v',w',h1,by rw[Cc];exact h2,h3⟩
theorem wpList_append_run {w:World}{ops:Array Oper}{rest:List Oper}{o:Oper}{a:Act}{Q:Exit->Act->World->Prop}(hgd:o.guard=none) (s x:Operand)
 (ho:o.op=.call { callee:=.builtin .append,args:=#[s,x],argTypes:=#[35,35] }) (v u:Value) (hs:a.eval s=v) (hx:a.eval x=u) (v':Value) (w':World)
 (hrun:(Builtin.append_ #[35,35] o.type #[v,u]).run Tryz.prog w=.ok v' w') (h:wpList Tryz.prog ops Q rest (a.put o.dst v') w'):wpList Tryz.prog ops Q (o::rest) a w:=by
 refine wpList_plain hgd fun K hK=>?_;unfold Oper.wp;simp[execOp,ho,resolve,invoke,builtin,hs,hx,hrun,Result.andThen];exact hK _ _ h
theorem jG(xs:List Nat)(ao:Option Addr)(n cap B:Nat)(w:World)(hn:n=xs.length)(hc:n<=cap)(hm:n<=35184372088832)(hx:Wf xs)(hR:Rd B w ao xs)(hnil:ao=none->cap=0) :
 As 89 #[.slice ao n cap] w fun r w'=>∃ v,r=.returned v/\Nt w.heap.size w' v (val xs)/\An w w':=by
 have S:=hid (ou xs ao n cap B w hn (by omega) hR);have hl:=jN xs;have hf:=nk xs hx;obtain⟨v',w',hap,hown,hgrow⟩:=kD w w.heap.size (.slice none 0 0) 0 [] (xs.take (nl xs)) ao (nl xs) cap B 35 (Cn _ _ _ _) (by rw[iw];omega) (hR.take _) hnil (by omega) (aA _)
 have hN:Nt w.heap.size w' v' (val xs):=by
  unfold Nt;rw[<-hf];simpa [jd hl] using hown
 have hb:An w w':=(aB _ _).grown hgrow (aA _) (fun k hk=>by simp[Value.ownBlock] at hk);have HN:=(aJ hN hb);obtain⟨k,hk⟩:∃ k,nl xs=k:=⟨_,rfl⟩;rw[hk] at S hap hl;have hkn:k<=n:=by omega
 have HZ:Aside (n=0->val xs=0):=by intro h0;have:xs=[]:=EN.1 (by omega);rw[this];rfl
 clear hN hb hown hgrow hf hl hn hx hR hk;rcases hao:ao with _|a
 · have hc0:=hnil hao;subst hc0;subst hao;obtain rfl:n=0:=by omega
   obtain rfl:k=0:=by omega
   go_enter Tryz.func89,Tryz.ntmps89;go_wp2_with fail;refine S.o.mono ?_;rintro r w1 ⟨rfl,rfl⟩;go_wp2;go_ret;rw[HZ.o (by trivial)];exact⟨_,rfl,Nt.nil _ _,aB _ _⟩
 · subst hao;go_enter Tryz.func89,Tryz.ntmps89;go_wp2_with fail;refine S.o.mono ?_;rintro r w1 ⟨rfl,rfl⟩;have J5:=hid hap;clear hap
   go_wp2_with (at_builtin;refine wpList_append_run rfl (.tmp 4) (.tmp 8) rfl _ _ rfl rfl _ _ J5.o ?_)
   go_ret;exact⟨_,rfl,HN.o.1,HN.o.2⟩
theorem RG(x:Nat)(h:x≠0):bl x=bl (x/2)+1:=by
 by_cases h1:x=1
 · subst h1;decide
 · have hx2:x/2≠0:=by omega
   obtain⟨c,hc⟩:∃ c,bl (x/2)=c+1:=⟨bl (x/2)-1,by have:=dG _ hx2;omega⟩;have a:=ib _ hx2;have b:=iF (x/2);rw[hc] at a b |-;rw[kQ] at a;exact Cu x (c+1) (by rw[iq];omega) (by rw[iq];omega)
theorem oH(xs:List Nat)(ao:Option Addr)(n cap B:Nat)(w:World)(hn:n=xs.length)(hm:n<=70368744177664)(hx:Wf xs)(hR:Rd B w ao xs) :
 Ax 206 #[.slice ao n cap] w (.int .i64 (bl (val xs):Nat)):=by
 have H:=hid (ou xs ao n cap B w hn (by omega) hR);have hl:=jN xs;rcases hk:nl xs with _|k
 · rw[(jg xs).1 hk,dD];rw[hk] at H;clear hk hl hn hx hR;go_enter Tryz.func206,Tryz.ntmps206;go_wp2_with fail;refine H.o.mono ?_;rintro r w1 ⟨rfl,rfl⟩;go_wp2;go_ret;exact⟨rfl,rfl⟩
 · have hbw:=Cx xs hx k hk;rw[hk] at H hl;obtain⟨e,hlt,h0,hl2⟩:=wu xs hx k hk;obtain⟨b,off,hB,rfl,hcell⟩:=hR (by intro e;subst e;simp at hl);have hck:=hcell k hl2;obtain⟨t,ht⟩:∃ t,xs.getD k 0=t:=⟨_,rfl⟩;have htl:t<4294967296:=ht ▸ hx.get k;rw[ht] at hck hbw;have hb:=vL t htl;have hkn:k<n:=by omega
   have HB:=(aJ hbw hb);clear hk hl hn hx hR e hlt h0 hl2 hcell ht hbw hb;go_enter Tryz.func206,Tryz.ntmps206;go_wp2_with fail;refine H.o.mono ?_;rintro r w1 ⟨rfl,rfl⟩;go_wp2
   go_loopg [4,5] t (fun gk bv xv wr=>∃ c:Nat,bv=.int .i64 (c:Nat)/\xv=.int .u32 (gk:Nat)/\gk<=t/\c<=32*k+32/\wr=w1/\Aside (c+bl gk=32*k+bl t))
   case atStart=>exact⟨32*k,by first | go_num | (congr 1;omega),rfl,aA _,by omega,rfl,rfl⟩
   case round =>
    obtain⟨c,rfl,rfl,hgt,hc,rfl,HA⟩:=hrel
    by_cases hg0:gk=0
    · subst hg0;go_wp2;go_ret;have h1:=HA.o;rw[dD,gW] at h1;rw[HB.o.1,<-h1];exact Vc
    · have hg1:(0:Int)<(gk:Int):=by omega
      obtain⟨g2,hg2⟩:=af (gk/2);have e2:(gk:Int)/2=(g2:Int):=by omega
      have HX:=(aJ hg2 hg0);clear hg2 hg0;go_wp2;go_roundg g2
      case measure=>obtain⟨hg2,hg0⟩:=HX.o;omega
      case rel =>
       obtain⟨hg2,hg0⟩:=HX.o;have h1:=HA.o;have h2:=RG gk hg0;rw[<-hg2] at h2;have h3:=HB.o.2;exact⟨c+1,by go_num,by first | rfl | rw[e2],by omega,by omega,rfl,by rw[Aside];omega⟩
structure Arg (w:World) (a:Option Addr) (n c:Nat) (xs:List Nat):Prop where
 len:n=xs.length
 cap:n<=c
 big:n<=35184372088832
 wf:Wf xs
 rd:Rd w.heap.size w a xs
 nil:a=none->c=0
theorem Arg.below{w w':World}{a:Option Addr}{n c:Nat}{xs:List Nat}(h:Arg w a n c xs)(hb:An w w'):Arg w' a n c xs :=
 ⟨h.len,h.cap,h.big,h.wf,(h.rd.below hb).mono hb.size,h.nil⟩
theorem Nt.arg{lo:Nat}{w:World}{v:Value}{X:Nat}(h:Nt lo w v X)(hs:(ws X).length<=35184372088832):∃ a c,v=.slice a (ws X).length c/\Arg w a (ws X).length c (ws X):=by
 have h':=h;obtain⟨a,c,rfl,h1,h2,h3⟩:=h.shape;refine⟨a,c,rfl,rfl,h1,hs,dm X,h3,fun e=>?_⟩;rcases h'.2 with ⟨e1,_⟩|⟨g,cap,cur,e1,_⟩
 · simp only[Value.slice.injEq] at e1;exact e1.2.2
 · simp only[Value.slice.injEq] at e1;rw[e1.1] at e;cases e
theorem J6{X Y i:Nat}(h1:X<pw i)(h2:Y<pw i):X+Y<pw (i+1):=by rw[bU];omega
theorem Ai{lo:Nat}{w:World}{r:Ending}{a:Nat×Int}{V:Nat}(h:One lo w r a)(e:a=(V,0)):∃ v,r=.returned (.tuple #[v,.int .i64 0])/\Nt lo w v V:=by
 subst e;exact h
theorem RH{w:World}{a b:Option Addr}{n c m d:Nat}{xs ys:List Nat}{V:Nat}(h1:Arg w a n c xs)(h2:Arg w b m d ys)(e:j6 (val xs) (val ys)=(V,0)) :
 As 130 #[.slice a n c,.slice b m d] w fun r w'=>∃ v,r=.returned (.tuple #[v,.int .i64 0])/\Nt w.heap.size w' v V/\An w w' :=
 (Ir xs ys a b n c m d w.heap.size w h1.len h2.len h1.cap h2.cap (by have:=h1.big;omega) (by have:=h2.big;omega) h1.wf h2.wf h1.rd h2.rd (aA _)).mono
  fun r w' ⟨ho,hb⟩=>by obtain⟨v,h3,h4⟩:=Ai ho e;exact⟨v,h3,h4,hb⟩
theorem vO{w:World}{a b:Option Addr}{n c m d:Nat}{xs ys:List Nat}{V:Nat}(h1:Arg w a n c xs)(h2:Arg w b m d ys)(e:uY (val xs) (val ys)=(V,0)) :
 As 162 #[.slice a n c,.slice b m d] w fun r w'=>∃ v,r=.returned (.tuple #[v,.int .i64 0])/\Nt w.heap.size w' v V/\An w w' :=
 (Iq xs ys a b n c m d w.heap.size w h1.len h2.len h1.cap h2.cap (by have:=h1.big;omega) (by have:=h2.big;omega) h1.wf h2.wf h1.rd h2.rd (aA _)).mono
  fun r w' ⟨ho,hb⟩=>by obtain⟨v,h3,h4⟩:=Ai ho e;exact⟨v,h3,h4,hb⟩
theorem vP{w:World}{a b:Option Addr}{n c m d:Nat}{xs ys:List Nat}{V:Nat}(h1:Arg w a n c xs)(h2:Arg w b m d ys)(e:oF (val xs) (val ys)=(V,0)) :
 As 165 #[.slice a n c,.slice b m d] w fun r w'=>∃ v,r=.returned (.tuple #[v,.int .i64 0])/\Nt w.heap.size w' v V/\An w w' :=
 (RA xs ys a b n c m d w.heap.size w h1.len h2.len h1.cap h2.cap (by have:=h1.big;omega) (by have:=h2.big;omega) h1.wf h2.wf h1.rd h2.rd (aA _)).mono
  fun r w' ⟨ho,hb⟩=>by obtain⟨v,h3,h4⟩:=Ai ho e;exact⟨v,h3,h4,hb⟩
theorem fo{w:World}{a:Option Addr}{n c:Nat}{xs:List Nat}{V:Nat}(by':Int)(h1:Arg w a n c xs)(e:aV (val xs) by'=(V,0))(hb0:-9223372036854775808<=by')(hb1:by'<=9223372036854775807) :
 As 161 #[.slice a n c,.int .i64 by'] w fun r w'=>∃ v,r=.returned (.tuple #[v,.int .i64 0])/\Nt w.heap.size w' v V/\An w w' :=
 (yS xs a n c w.heap.size by' w h1.len h1.cap (by have:=h1.big;omega) h1.wf h1.rd (aA _) hb0 hb1).mono
  fun r w' ⟨ho,hb⟩=>by obtain⟨v,h3,h4⟩:=Ai ho e;exact⟨v,h3,h4,hb⟩
theorem Aj{w:World}{a b:Option Addr}{n c m d:Nat}{xs ys:List Nat}(h1:Arg w a n c xs)(h2:Arg w b m d ys)(z:Int)(e:bu (val xs) (val ys)=z) :
 At 181 #[.slice a n c,.slice b m d] w (.int .i64 z):=by
 have:=Ag xs ys a b n c m d w.heap.size w h1.len h2.len h1.cap h2.cap (by have:=h1.big;omega) (by have:=h2.big;omega) h1.wf h2.wf h1.rd h2.rd;rw[e] at this;exact this
theorem vQ{X Y V:Nat}(h3:¬ LG V)(e:X+Y=V):uY X Y=(V,0):=by subst e;unfold uY;rw[if_neg h3]
theorem vR{X Y V:Nat}(h1:¬ LG X)(h2:¬ LG Y)(e:V+Y=X):oF X Y=(V,0):=by unfold oF;rw[if_neg (by simp[h1,h2]),if_neg (by omega)];congr 1;omega
def Bl(w:World)(g T:Nat)(C:List Value):Prop:=w.heap[g]?=some (.cells C.toArray T (0,0))
theorem Bl.lt{w:World}{g T:Nat}{C:List Value}(h:Bl w g T C):g<w.heap.size:=(fV.1 h).1
theorem Bl.cell{w:World}{g T:Nat}{C:List Value}(h:Bl w g T C)(i:Nat)(v:Value)(hv:C[i]?=some v):w.cell? ⟨g,i,none⟩=some v:=by
 unfold Bl at h;simp[World.cell?,h,hv]
theorem Bl.frozen{w:World}{g T:Nat}{C:List Value}(h:Bl w g T C)(i:Nat):w.frozen? ⟨g,i,none⟩=false:=by
 unfold Bl at h;simp[World.frozen?,h]
theorem Bl.set{w:World}{g T:Nat}{C:List Value}(h:Bl w g T C)(i:Nat)(v:Value):Bl (w.setCell ⟨g,i,none⟩ v) g T (C.set i v):=by
 unfold Bl at h |-;simp[World.setCell,kP,h]
theorem Bl.below{w w':World}{g T B:Nat}{C:List Value}(h:Bl w g T C)(hb:Below B w w')(hg:g<B):Bl w' g T C:=by
 unfold Bl at h |-;rw[hb.block g hg];exact h
theorem Bl.but{w w':World}{g g' T:Nat}{C:List Value}(h:Bl w g T C)(hb:But g' w w')(hg:g≠g'):Bl w' g T C:=by
 unfold Bl at h |-;rw[hb.block g (Bl.lt h) hg];exact h
theorem aK(w:World)(o:Obj):An w (w.alloc o):=(aB _ _).alloc (aA _) _
theorem Bl.alloc{w:World}{g T:Nat}{C:List Value}(h:Bl w g T C)(o:Obj):Bl (w.alloc o) g T C:=by
 unfold Bl at h |-;rw[(aK w o).block g (Bl.lt h)];exact h
theorem Bl.new(w:World)(T:Nat)(C:List Value):Bl (w.alloc (.cells C.toArray T)) w.heap.size T C:=by
 unfold Bl;rw[gZ]
end
namespace B
open Ieee
def val(f:Format)(r:Nat):Nat:=if r<f.binade then r else(f.binade+r%f.binade)*2^(r/f.binade-1)
theorem jH(f:Format):0<f.binade:=bz _
theorem val_succ(f:Format)(r:Nat):val f (r+1)=val f r+2^(r/f.binade-1):=by
 have hb:=jH f;unfold val;generalize hB:f.binade=B at *
 by_cases h:r<B
 · rw[if_pos h,gY h]
   by_cases h1:r+1<B
   · rw[if_pos h1]
   · have e:r+1=B:=by omega
     rw[if_neg h1,e,Nat.mod_self,Nat.div_self hb];simp
 · have h1:¬ r+1<B:=by omega
   rw[if_neg h,if_neg h1]
   have hq:1<=r/B:=by
    have:=Nat.div_le_div_right (c:=B) (zJ h);rw[Nat.div_self hb] at this;exact this
   have hm:=mD r hb;have hd:=qd r B;generalize r/B=q at *;generalize hmm:r%B=m at *;obtain⟨q,rfl⟩:∃ k,q=k+1:=⟨q-1,by omega⟩
   by_cases h2:m+1<B
   · have e:r+1=B*(q+1)+(m+1):=by omega
     have e1:(r+1)%B=m+1:=by rw[e,Nat.mul_add_mod,lT h2]
     have e2:(r+1)/B=q+1:=by rw[e,Nat.mul_add_div hb,gY h2]
     rw[e1,e2,kQ,<-qc,fF,iK]
   · have hm1:m+1=B:=by omega
     have e:r+1=B*(q+2):=by rw[show q+2=(q+1)+1 from rfl,yG];omega
     have e1:(r+1)%B=0:=by rw[e,Nat.mul_mod_right]
     have e2:(r+1)/B=q+2:=by rw[e,yC _ hb]
     rw[e1,e2];have:B+m=2*B-1:=by omega
     have h3:(B+m)*2^q+2^q=(2*B)*2^q:=by
      rw[<-Nat.succ_mul];congr 1;omega
     show(B+0)*2^(q+1)=(B+m)*2^q+2^q;rw[h3,iq,gW,cZ 2 B,aM,cZ 2]
theorem uA(f:Format)(r:Nat):val f r<val f (r+1):=by
 rw[val_succ];exact Nat.lt_add_of_pos_right (bz _)
theorem df(f:Format){r s:Nat}(h:r<s):val f r<val f s:=by
 induction s with
 | zero=>omega
 | succ s ih =>
   by_cases e:r=s
   · subst e;exact uA f r
   · exact Nat.lt_trans (ih (by omega)) (uA f s)
theorem iG(f:Format){r s:Nat}:val f r<val f s↔r<s:=by
 constructor
 · intro h
   by_cases e:r<s
   · exact e
   · by_cases e2:r=s
     · subst e2;omega
     · have:=df f (show s<r by omega);omega
 · exact df f
theorem val_inj(f:Format){r s:Nat}(h:val f r=val f s):r=s:=by
 by_cases e:r<s
 · have:=df f e;omega
 · by_cases e2:s<r
   · have:=df f e2;omega
   · omega
theorem val_zero(f:Format):val f 0=0:=by
 unfold val;rw[if_pos (jH f)]
def sg(s:Bool)(r:Nat):Int:=if s then -(r:Int) else r
theorem yT(f:Format)(s t:Bool)(r u:Nat):sg s (val f r)<sg t (val f u)↔sg s r<sg t u:=by
 have h1:=@iG f r u;have h2:=@iG f u r;have z:=val_zero f;have h3:=@iG f 0 r;have h4:=@iG f 0 u
 cases s <;> cases t <;> simp only[sg,if_true,if_false,fe] <;> omega
theorem J7(s:Bool)(m k:Nat):signed s m k=sg s (m*2^k):=by
 unfold signed sg;rw[zK]
theorem xf{P:Prop}(h:P:=by
 unfold Format.word
 cases s
 · simp only[fe,if_false];exact lT (by omega)
 · simp only[if_true];rw[Nat.add_mod_left];exact lT (by omega)):P:=h
theorem jz{P:Prop}(h:P:=by
 unfold Format.word
 cases s
 · simp only[fe,if_false];rw[gY (by omega)];rfl
 · simp only[if_true];rw[Nat.add_div_left _ (by omega),gY (by omega)];rfl):P:=h
theorem mJ(f:Format)(s:Bool)(r:Nat)(hr:r<f.infRung)(hs:f.infRung<f.signWeight) :
 ∃ m:Nat,∃ k:Nat,f.read (f.word s r)=.number s m (f.leastPlace+k)/\m*2^k=val f r:=by
 have e1:(f.word s r/f.signWeight%2==1)=s:=by
  exact jz
 have e2:f.word s r%f.signWeight=r:=by
  exact xf
 unfold Format.read;simp only[e1,e2];unfold val
 by_cases h:r<f.binade
 · rw[if_pos h,if_pos h];exact⟨r,0,by simp,by simp⟩
 · rw[if_neg h,if_neg h,if_pos hr];exact⟨_,_,rfl,rfl⟩
theorem rC(f:Format)(s:Bool)(hs:f.infRung<f.signWeight)(hb:f.binade<=f.infRung) :
 f.read (f.word s f.infRung)=.infinity s:=by
 have e1:(f.word s f.infRung/f.signWeight%2==1)=s:=by
  exact jz
 have e2:f.word s f.infRung%f.signWeight=f.infRung:=by
  exact xf
 unfold Format.read;simp only[e1,e2];rw[if_neg (by omega),if_neg (by omega),if_pos trivial]
theorem NP(f:Format)(w:Nat)(h:f.infRung<w%f.signWeight)(hb:f.binade<=f.infRung) :
 f.read w=.nan (w/f.signWeight%2==1) (w%f.signWeight-f.infRung):=by
 unfold Format.read;simp only;rw[if_neg (by omega),if_neg (by omega),if_neg (by omega)]
theorem wD(a b c d:Int)(h1:a<b↔c<d)(h2:b<a↔d<c):compare a b=compare c d:=by
 by_cases x:a<b
 · rw[uo.2 x,uo.2 (h1.1 x)]
 · by_cases y:b<a
   · rw[uq.2 y,uq.2 (h2.1 y)]
   · have e1:a=b:=by omega
     have e2:c=d:=by
      have n1:=mt h1.2 x;have n2:=mt h2.2 y;omega
     rw[uw.2 e1,uw.2 e2]
theorem NU(s:Bool)(a k:Nat):sg s (a*k)=sg s a*(k:Int):=by
 unfold sg;cases s <;> simp[Int.neg_mul]
theorem J8(s t:Bool)(m n j k:Nat)(p:Int) :
 Datum.order (.number s m (p+j)) (.number t n (p+k))=some (compare (sg s (m*2^j)) (sg t (n*2^k))):=by
 unfold Datum.order;simp only[J7];congr 1;have hb:∃ c:Nat,min (p+(j:Int)) (p+(k:Int))=p+c:=⟨min j k,by omega⟩;obtain⟨c,hc⟩:=hb;have hj:(p+(j:Int)-min (p+(j:Int)) (p+(k:Int))).toNat=j-c:=by rw[hc];omega
 have hk:(p+(k:Int)-min (p+(j:Int)) (p+(k:Int))).toNat=k-c:=by rw[hc];omega
 have cj:c<=j:=by omega
 have ck:c<=k:=by omega
 rw[hj,hk];have ej:m*2^j=m*2^(j-c)*2^c:=by rw[aM,<-aL,zL cj]
 have ek:n*2^k=n*2^(k-c)*2^c:=by rw[aM,<-aL,zL ck]
 rw[ej,ek,NU s (m*2^(j-c)),NU t (n*2^(k-c))];have hp:(0:Int)<((2^c:Nat):Int):=by exact_mod_cast bz c
 refine wD _ _ _ _ ?_ ?_
 · exact⟨fun h=>zM h hp,fun h=>zN h (Cg hp)⟩
 · exact⟨fun h=>zM h hp,fun h=>zN h (Cg hp)⟩
theorem xb{P:Prop}(h:P:=by
 unfold Datum.order;simp only
 cases s <;> cases t <;> simp only[sg,if_true,if_false,fe] <;>
  first | rw[uq.2 (by omega)] | rw[uo.2 (by omega)]):P:=h
theorem Fx(f:Format)(hs:f.infRung<f.signWeight)(hb:f.binade<=f.infRung)(s t:Bool)(r u:Nat)(hr:r<=f.infRung)(hu:u<=f.infRung) :
 f.order (f.word s r) (f.word t u)=some (compare (sg s r) (sg t u)):=by
 have hB:=jH f;unfold Format.order
 by_cases r1:r=f.infRung
 · by_cases u1:u=f.infRung
   · subst r1 u1;rw[rC f s hs hb,rC f t hs hb];unfold Datum.order;simp only;congr 1
     cases s <;> cases t <;> simp only[sg,kr,ku,if_true,if_false,fe]
     · rw[uw.2 rfl];rfl
     · rw[uq.2 (by omega)];rfl
     · rw[uo.2 (by omega)];rfl
     · rw[uw.2 rfl];rfl
   · obtain⟨n,k,e,hv⟩:=mJ f t u (by omega) hs;subst r1;rw[rC f s hs hb,e];exact xb
 · obtain⟨m,j,e,hv⟩:=mJ f s r (by omega) hs
   by_cases u1:u=f.infRung
   · subst u1;rw[rC f t hs hb,e];exact xb
   · obtain⟨n,k,e2,hv2⟩:=mJ f t u (by omega) hs;rw[e,e2,J8,hv,hv2];congr 1;exact wD _ _ _ _ (yT f s t r u) (yT f t s u r)
def Va(n g:Nat):Nat:=n/g+(decide (g<2*(n%g)) || (g==2*(n%g)&&n/g%2==1)).toNat
theorem CF(neg:Bool)(n drop:Nat):Toward.even.cut neg n drop=Va n (2^drop):=by
 unfold Toward.cut Va;simp only[zK,iK]
 by_cases h:drop<=n.log2+2
 · rw[jd h]
 · rw[Nat.min_eq_right (by omega)];have hn:n<2^(n.log2+1):=Nat.lt_log2_self;have h1:n<2^(n.log2+2):=by rw[iq];omega
   have h2:2^(n.log2+2)<=2^drop:=fq (by omega) (by omega);have h3:2*n<2^(n.log2+2):=by rw[iq];omega
   rw[gY h1,lT h1,gY (show n<2^drop by omega),lT (show n<2^drop by omega)];have a1:decide (2^(n.log2+2)<2*n)=false:=by simp;omega
   have a2:decide (2^drop<2*n)=false:=by simp;omega
   simp only[a1,a2,Nat.zero_mod];simp
theorem yU(n g:Nat)(hg:0<g):Va (n*g) g=n:=by
 unfold Va;rw[Nat.mul_div_cancel _ hg,Nat.mul_mod_left];have:decide (g<2*0)=false:=by simp
 have h2:(g==2*0)=false:=by simp;omega
 rw[this,h2];simp
theorem Iu(n:Nat):Va n 1=n:=by
 have:=yU n 1 (by omega);rwa [eO] at this
theorem yg(f:Format)(neg:Bool)(mag k r:Nat)(hr:r<f.infRung)(h:mag*2^k=val f r) :
 f.nearest neg mag (f.leastPlace+k)=f.word neg r:=by
 unfold Format.nearest
 by_cases hm:mag=0
 · rw[if_pos hm];have:val f r=val f 0:=by rw[val_zero,<-h,hm,eG]
   rw[val_inj f this]
 · rw[if_neg hm];simp only[CF,zK];have hl:=(Nat.log2_eq_iff hm (k:=mag.log2)).1 rfl;generalize mag.log2=L at *;have hB:f.binade=2^f.fractionBits:=rfl;have hb:=jH f;unfold val at h
   by_cases hlt:r<f.binade
   · rw[if_pos hlt] at h
     have h1:2^(L+k)<2^f.fractionBits:=by
      rw[aL,<-hB];exact fu (fQ _ hl.1) (by omega)
     have h2:=(jD (a:=2) (by omega)).1 h1;have e:max (f.leastPlace+(k:Int)+(L:Int)-(f.fractionBits:Int)) f.leastPlace=f.leastPlace:=by omega
     rw[e];have e1:(f.leastPlace+(k:Int)-f.leastPlace).toNat=k:=by omega
     have e2:(f.leastPlace-(f.leastPlace+(k:Int))).toNat=0:=by omega
     have e3:(f.leastPlace-f.leastPlace).toNat=0:=by omega
     rw[e1,e2,e3,h,fw,Iu,eG,dK,jd (by omega)]
   · rw[if_neg hlt] at h
     have hq:1<=r/f.binade:=by
      have:=Nat.div_le_div_right (c:=f.binade) (zJ hlt);rw[Nat.div_self hb] at this;exact this
     have hmm:=mD r hb;have hd:=qd r f.binade;generalize r/f.binade=q at *;generalize r%f.binade=m at *;obtain⟨q,rfl⟩:∃ j,q=j+1:=⟨q-1,by omega⟩;rw[kQ] at h
     -- the Wo
     have lo1:2^(L+k)<=mag*2^k:=by rw[aL];exact fQ _ hl.1
     have hi1:mag*2^k<2^(L+1+k):=by rw[aL];exact fA hl.2 (bz _)
     have lo2:2^(f.fractionBits+q)<=(f.binade+m)*2^q:=by rw[aL];exact fQ _ (by omega)
     have hi2:(f.binade+m)*2^q<2^(f.fractionBits+1+q):=by
      rw[aL,iq];exact fA (by omega) (bz _)
     have c1:=(jD (a:=2) (by omega)).1 (show 2^(L+k)<2^(f.fractionBits+1+q) by omega);have c2:=(jD (a:=2) (by omega)).1 (show 2^(f.fractionBits+q)<2^(L+1+k) by omega);have cL:L+k=f.fractionBits+q:=by omega
     have e:max (f.leastPlace+(k:Int)+(L:Int)-(f.fractionBits:Int)) f.leastPlace=f.leastPlace+q:=by omega
     rw[e];have e3:(f.leastPlace+(q:Int)-f.leastPlace).toNat=q:=by omega
     rw[e3]
     have fin:q*f.binade+(f.binade+m)=r:=by
      rw[<-hd,yG,cZ q];omega
     by_cases hk:q<=k
     · have e1:(f.leastPlace+(k:Int)-(f.leastPlace+(q:Int))).toNat=k-q:=by omega
       have e2:(f.leastPlace+(q:Int)-(f.leastPlace+(k:Int))).toNat=0:=by omega
       have hh:mag*2^(k-q)=f.binade+m:=by
        have:mag*2^(k-q)*2^q=(f.binade+m)*2^q:=by
         rw[aM,<-aL,zL hk];exact h
        exact qg (bz _) this
       rw[e1,e2,hh,fw,Iu,fin,jd (by omega)]
     · have e1:(f.leastPlace+(k:Int)-(f.leastPlace+(q:Int))).toNat=0:=by omega
       have e2:(f.leastPlace+(q:Int)-(f.leastPlace+(k:Int))).toNat=q-k:=by omega
       have hh:mag=(f.binade+m)*2^(q-k):=by
        have:mag*2^k=(f.binade+m)*2^(q-k)*2^k:=by
         rw[aM,<-aL,zL (by omega)];exact h
        exact qg (bz _) this
       rw[e1,e2,fw,eO,hh,yU _ _ (bz _),fin,jd (by omega)]
end B
namespace B
def bw(s:Bool)(e f:Nat):Nat:=s.toNat*9223372036854775808+e*4503599627370496+f
theorem Yo(b:Nat)(hb:b<18446744073709551616):∃ s e f,e<2048/\f<4503599627370496/\b=bw s e f:=by
 refine⟨decide (9223372036854775808<=b),b%9223372036854775808/4503599627370496,b%4503599627370496,by omega,by omega,?_⟩;unfold bw
 by_cases h:9223372036854775808<=b
 · rw[decide_eq_true h];simp only[kr];omega
 · rw[decide_eq_false h];simp only[ku];omega
theorem zd{P:Prop}(h:P:=by
 unfold bw;cases s <;> simp only[kr,ku] <;> omega):P:=h
theorem wE(s:Bool)(e f:Nat)(he:e<2048)(hf:f<4503599627370496):bw s e f<18446744073709551616:=by
 exact zd
theorem J9(n:Int)(h0:0<=n)(h1:n<2^63):IntKind.i64.wrap n=n:=by rw[zY];omega
theorem wraps_u64(n:Int)(h0:0<=n)(h1:n<2^64):IntKind.u64.wrap n=n:=by
 simp[IntKind.wrap,IntKind.bits,IntKind.signed];omega
theorem N7(s:Bool)(e f:Nat)(he:e<2048)(hf:f<4503599627370496):bits .and .i64 ((bw s e f:Int)/4503599627370496) 2047=(e:Int):=by
 have hl:=wE s e f he hf;have h:=bits_mask .i64 63 (by decide) J9 11 (by decide) ((bw s e f:Int)/4503599627370496) (by omega) (by omega);rw[show((2:Int)^11-1)=2047 from rfl] at h;rw[h];exact zd
theorem RI(s:Bool)(e f:Nat)(he:e<2048)(hf:f<4503599627370496):bits .and .u64 ((bw s e f:Nat):Int) 4503599627370495=(f:Int):=by
 have hl:=wE s e f he hf;have h:=bits_mask .u64 64 (by decide) wraps_u64 52 (by decide) (bw s e f:Int) (by omega) (by omega);rw[show((2:Int)^52-1)=4503599627370495 from rfl] at h;rw[h];exact zd
theorem RJ(s:Bool)(e f:Nat)(he:e<2048)(hf:f<4503599627370496):bits .and .u64 ((bw s e f:Int)/9223372036854775808) 1=(s.toNat:Int):=by
 have hl:=wE s e f he hf;have h:=bits_mask .u64 64 (by decide) wraps_u64 1 (by decide) ((bw s e f:Int)/9223372036854775808) (by omega) (by omega);rw[show((2:Int)^1-1)=1 from rfl] at h;rw[h];exact zd
theorem RL(f:Nat)(hf:f<4503599627370496):bits .or .u64 (f:Int) 4503599627370496=(f:Int)+4503599627370496:=by
 have hc:bits .or .u64 (f:Int) 4503599627370496=bits .or .u64 4503599627370496 (f:Int):=by simp only[bits,BitVec.or_comm]
 rw[hc,bits_join .u64 64 (by decide) wraps_u64 52 4503599627370496 (f:Int) (by decide) (by decide) (by decide) (by omega) (by omega) (by omega)];omega
theorem RN(x:Int)(h0:0<=x)(h1:x<9223372036854775808):bits .or .u64 x 9223372036854775808=x+9223372036854775808:=by
 have hc:bits .or .u64 x 9223372036854775808=bits .or .u64 9223372036854775808 x:=by simp only[bits,BitVec.or_comm]
 rw[hc,bits_join .u64 64 (by decide) wraps_u64 63 9223372036854775808 x (by decide) (by decide) (by decide) h0 (by omega) (by omega)];omega
def pv(neg:Bool)(c x:Int)(f:Int):Value:=.agg #[.bool neg,.int .i64 c,.int .i64 x,.int .u64 f]
def cls(e f:Nat):Int:=if e=2047 then(if f=0 then 3 else 4) else if e=0 then(if f=0 then 0 else 1) else 2
def xp(e:Nat):Int:=if e=2047 then 0 else if e=0 then -1074 else(e:Int)-1075
def fr(e f:Nat):Int:=if e=2047 then 0 else if e=0 then(f:Int) else(f:Int)+4503599627370496
def ng(s:Bool)(e f:Nat):Bool:=if e=2047/\f≠0 then false else s
def splitV(s:Bool)(e f:Nat):Value:=pv (ng s e f) (cls e f) (xp e) (fr e f)
theorem Qae{P:Prop}(h:P:=by
 simp[splitV,pv,ng,cls,xp,fr,h,this]):P:=h
theorem Fy(s:Bool)(e f:Nat)(h:e=2047)(h2:((f:Int) != 0)=true):splitV s e f=.agg #[.bool false,.int .i64 4,.int .i64 0,.int .u64 0]:=by
 have:f≠0:=by intro h;subst h;simp at h2
 exact Qae
theorem Fz(s:Bool)(e f:Nat)(h:e=2047)(h2:((f:Int) != 0)=false):splitV s e f=.agg #[.bool s,.int .i64 3,.int .i64 0,.int .u64 0]:=by
 have:f=0:=by simp at h2;omega
 exact Qae
theorem yh(s:Bool)(e f:Nat)(h:e=0)(h2:((f:Int)==0)=true):splitV s e f=.agg #[.bool s,.int .i64 0,.int .i64 (-1074),.int .u64 0]:=by
 have:f=0:=by simp at h2;omega
 exact Qae
theorem Ak(s:Bool)(e f:Nat)(h:e=0)(h2:((f:Int)==0)=false):splitV s e f=.agg #[.bool s,.int .i64 1,.int .i64 (-1074),.int .u64 f]:=by
 have:f≠0:=by intro h;subst h;simp at h2
 exact Qae
theorem Am(s:Bool)(e f:Nat)(h:e≠2047)(h2:e≠0):splitV s e f=.agg #[.bool s,.int .i64 2,.int .i64 ((e:Int)-1075),.int .u64 ((f:Int)+4503599627370496)]:=by
 simp[splitV,pv,ng,cls,xp,fr,h,h2]
def odd(e f:Nat):Bool:=e==2047&&f != 0
theorem Iw(e f:Nat)(h:odd e f=false):¬ (e=2047/\f≠0):=by
 rintro ⟨h1,h2⟩;simp[odd,h1,h2] at h
theorem N8(e f:Nat)(h:odd e f=true):e=2047/\f≠0:=by
 simpa [odd] using h
def cb(s:Bool)(e f:Nat):Nat:=if e=2047/\f≠0 then 9221120237041090560 else bw s e f
theorem Wp(s:Bool)(e f:Nat)(he:e<2048)(hf:f<4503599627370496):(bw s e f:Int)%9223372036854775808=(e:Int)*4503599627370496+f:=by
 exact zd
theorem yj:Ieee.double.infRung=9218868437227405312:=by decide
theorem N9:Ieee.double.signWeight=9223372036854775808:=by decide
theorem FH:Ieee.double.binade=4503599627370496:=by decide
theorem dHs:Ieee.double.infRung<Ieee.double.signWeight:=by decide
theorem dHb:Ieee.double.binade<=Ieee.double.infRung:=by decide
theorem Ao(s:Bool)(e f:Nat):bw s e f=Ieee.double.word s (e*4503599627370496+f):=by
 unfold bw Ieee.Format.word;rw[N9]
 cases s <;> simp[qc]
theorem uB(s:Bool)(e f:Nat)(hf:f<4503599627370496)(h:odd e f=true):Ieee.double.read (bw s e f)=.nan s f:=by
 have h0:e=2047/\f≠0:=by simpa [odd] using h
 have e1:bw s e f%Ieee.double.signWeight=e*4503599627370496+f:=by
  rw[N9];exact zd
 have e2:(bw s e f/Ieee.double.signWeight%2==1)=s:=by
  rw[N9]
  cases s
  · have:bw false e f/9223372036854775808%2=0:=by unfold bw;simp only[ku];omega
    rw[this];rfl
  · have:bw true e f/9223372036854775808%2=1:=by unfold bw;simp only[kr];omega
    rw[this];rfl
 rw[NP Ieee.double _ (by rw[e1,yj];omega) dHb,e1,e2,yj,show e*4503599627370496+f-9218868437227405312=f from by omega]
theorem Iy(e f:Nat)(he:e<2048)(hf:f<4503599627370496)(h:odd e f=false):e*4503599627370496+f<=Ieee.double.infRung:=by
 rw[yj];have:=Iw e f h;omega
def pl(s:Bool)(e f:Nat):Int:=sg s (e*4503599627370496+f)
theorem ord(s t:Bool)(e f u v:Nat)(he:e<2048)(hf:f<4503599627370496)(hu:u<2048)(hv:v<4503599627370496) :
 FloatKind.f64.format.order (bw s e f) (bw t u v)=if odd e f || odd u v then none else some (compare (pl s e f) (pl t u v)):=by
 show Ieee.double.order _ _=_
 by_cases h1:odd e f=true
 · rw[h1];show(Ieee.double.read (bw s e f)).order _=none;rw[uB s e f hf h1];rfl
 · by_cases h2:odd u v=true
   · rw[h2];show(Ieee.double.read (bw s e f)).order (Ieee.double.read (bw t u v))=if (odd e f || true)=true then none else _
     rw[uB t u v hv h2,Bool.or_true,if_pos rfl]
     cases Ieee.double.read (bw s e f) <;> rfl
   · have h3:odd e f=false:=by simpa using h1
     have h4:odd u v=false:=by simpa using h2
     rw[h3,h4,Ao,Ao];rw[Fx Ieee.double dHs dHb s t _ _ (Iy e f he hf h3) (Iy u v hu hv h4)];simp[pl]
theorem FI(s:Bool)(e f:Nat)(he:e<2048)(hf:f<4503599627370496):(FloatKind.f64.format.order (bw s e f) (bw s e f) != some .eq)=odd e f:=by
 rw[ord s s e f e f he hf he hf,Bool.or_self,uw.2 rfl]
 cases odd e f <;> rfl
end B
namespace B
open Go.RowKit
theorem Ka(s:Bool)(e f:Nat)(he:e<2048)(hf:f<4503599627370496)(w:World) :
 At 176 #[.int .u64 (bw s e f),.int .u64 52,.int .u64 11,.int .i64 (-1074)] w (splitV s e f):=by
 have hl:=wE s e f he hf;have h1:=N7 s e f he hf;have h2:=RI s e f he hf;have h3:=RJ s e f he hf;have h4:=RL f hf;have h5:((s.toNat:Int)==1)=s:=by cases s <;> rfl
 go_enter Tryz.func176,Tryz.ntmps176;go_wp2
 · rw[Fy s e f (by omega) ‹_›];exact aC (v:=.agg #[.bool false,.int .i64 4,.int .i64 0,.int .u64 0]) (by simp[results,Tryz.results176,go_sem]) rfl ⟨rfl,(by repeat (first | exact aB _ _ | assumption | exact aA _ | (simp;done) | (simp;omega) | refine Below.alloc ?_ ?_ _ | refine Below.setCell ?_ ?_ _ | refine qh ?_))⟩
 · rw[Fz s e f (by omega) ‹_›];exact aC (v:=.agg #[.bool s,.int .i64 3,.int .i64 0,.int .u64 0]) (by simp[results,Tryz.results176,go_sem]) rfl ⟨rfl,(by repeat (first | exact aB _ _ | assumption | exact aA _ | (simp;done) | (simp;omega) | refine Below.alloc ?_ ?_ _ | refine Below.setCell ?_ ?_ _ | refine qh ?_))⟩
 · rw[yh s e f (by omega) ‹_›];exact aC (v:=.agg #[.bool s,.int .i64 0,.int .i64 (-1074),.int .u64 0]) (by simp[results,Tryz.results176,go_sem]) rfl ⟨rfl,(by repeat (first | exact aB _ _ | assumption | exact aA _ | (simp;done) | (simp;omega) | refine Below.alloc ?_ ?_ _ | refine Below.setCell ?_ ?_ _ | refine qh ?_))⟩
 · rw[Ak s e f (by omega) ‹_›];exact aC (v:=.agg #[.bool s,.int .i64 1,.int .i64 (-1074),.int .u64 f]) (by simp[results,Tryz.results176,go_sem]) rfl ⟨rfl,(by repeat (first | exact aB _ _ | assumption | exact aA _ | (simp;done) | (simp;omega) | refine Below.alloc ?_ ?_ _ | refine Below.setCell ?_ ?_ _ | refine qh ?_))⟩
 · rw[Am s e f (by omega) (by omega)];refine aC (v:=.agg #[.bool s,.int .i64 2,.int .i64 ((e:Int)-1075),.int .u64 ((f:Int)+4503599627370496)]) (by simp[results,Tryz.results176,go_sem];try omega) rfl ⟨rfl,(by repeat (first | exact aB _ _ | assumption | exact aA _ | (simp;done) | (simp;omega) | refine Below.alloc ?_ ?_ _ | refine Below.setCell ?_ ?_ _ | refine qh ?_))⟩
end B
namespace B
theorem bB(b:Nat)(w:World):(callFunc 54 #[.float .f64 b]).run Tryz.prog w=.ok (.value (.int .u64 b)) w:=by
 rw[run_callFunc_extern (e:=Extern.MathFloatBits.float64bits) Tryz.func54 (by kernel_rfl) (by kernel_rfl) (by kernel_rfl) (by kernel_rfl)];rfl
theorem aF(n:Int)(w:World):(callFunc 17 #[.int .u64 n]).run Tryz.prog w=.ok (.value (.float .f64 n.toNat)) w:=by
 rw[run_callFunc_extern (e:=Extern.MathFloatBits.float64frombits) Tryz.func17 (by kernel_rfl) (by kernel_rfl) (by kernel_rfl) (by kernel_rfl)];rfl
end B
namespace B
open Go.RowKit
attribute [local go_sem] bB aF
theorem aO{W w1:World}(hb:An W w1):(∀ b o,b<W.heap.size->w1.cell? ⟨b,o,none⟩=W.cell? ⟨b,o,none⟩)/\(∀ b o,b<W.heap.size->w1.frozen? ⟨b,o,none⟩=W.frozen? ⟨b,o,none⟩) :=
 ⟨fun b o h=>hb.cell (p:=⟨b,o,none⟩) h,fun b o h=>hb.frozen (p:=⟨b,o,none⟩) h⟩
theorem Kb(s:Bool)(e f:Nat)(he:e<2048)(hf:f<4503599627370496)(w:World) :
 At 176 #[.int .u64 (bw s e f),.int .u64 52,.int .u64 11,.int .i64 (-1074)] w (.agg #[.bool (ng s e f),.int .i64 (cls e f),.int .i64 (xp e),.int .u64 (fr e f)]) :=
 Ka s e f he hf w
theorem RO(w:World):Ax 123 #[] w (.float .f64 9221120237041090560):=by
 go_enter Tryz.func123,Tryz.ntmps123;exact Jx
theorem sZ(s:Bool)(e f:Nat)(he:e<2048)(hf:f<4503599627370496)(w:World) :
 At 139 #[.float .f64 (bw s e f)] w (.agg #[.bool (ng s e f),.int .i64 (cls e f),.int .i64 (xp e),.int .u64 (fr e f)]):=by
 go_enter Tryz.func139,Tryz.ntmps139
 go_wp2_with (go_at_call 176;refine(Kb s e f he hf _).mono ?_;rintro r w1 ⟨rfl,hb⟩;(obtain⟨hc,hfz⟩:=aO hb;have hz:w.heap.size<w1.heap.size:=by (have:=hb.size;simp at this;omega)))
 exact aC (v:=(.agg #[.bool (ng s e f),.int .i64 (cls e f),.int .i64 (xp e),.int .u64 (fr e f)])) (by simp[results,Tryz.results139,go_sem,hc]) rfl ⟨rfl,(by repeat (first | exact aB _ _ | exact((aB _ _).alloc (aA _) _).trans (hb.mono (by simp)) | exact aA _ | (simp;done) | (simp;omega) | refine Below.alloc ?_ ?_ _ | refine Below.setCell ?_ ?_ _ | refine qh ?_))⟩
theorem Kc(s:Bool)(e f:Nat)(he:e<2048)(hf:f<4503599627370496)(w:World) :
 Ax 213 #[.float .f64 (bw s e f)] w (.bool (odd e f)):=by
 have h1:=FI s e f he hf;go_enter Tryz.func213,Tryz.ntmps213;go_wp2;go_ret;exact⟨rfl,rfl⟩
end B
section
open Go.RowKit
theorem But.drewN{g:Nat}{a w:World}(h:But g a w)(n:Nat):But g a (w.drewN n):=⟨h.os,h.tape,h.output,h.size,h.block⟩
end
end Go.Proofs.YteginbngplldaaaGreatDoor
