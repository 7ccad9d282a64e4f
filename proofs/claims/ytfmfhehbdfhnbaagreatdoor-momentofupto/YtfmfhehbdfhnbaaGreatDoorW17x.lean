import Derived.Test.YtfmfhehbdfhnbaaGreatDoorW7x
import Derived.Deep.RegionWith
import Derived.Test.YtfmfhehbdfhnbaaGreatDoorM1x
import Derived.WalkLawsBesides
import Derived.WalkMore
import Derived.Deep.MidRow
import Ieee.Arith
import Derived.WalkKit
import Derived.Test.YtfmfhehbdfhnbaaGreatDoorProg
import Derived.WalkSpells
import Derived.Laws.Externs
import Derived.BigQuiet
set_option linter.unusedVariables false
set_option linter.unusedSimpArgs false
set_option maxHeartbeats 16000000
set_option maxRecDepth 20000
namespace Go.Proofs.YtfmfhehbdfhnbaaGreatDoor
section
open Go.RowKit
theorem oH (xs ys:List Nat) (hx:Wf xs) (hy:Wf ys) (j d:Nat) (h1:j+1+d<=xs.length) (h2:j+1+d<=ys.length) (ht:sg xs (j+1) d=sg ys (j+1) d) (hlt:xs.getD j 0<ys.getD j 0) :
 sg xs 0 (j+1+d)<sg ys 0 (j+1+d):=by
 rw [iM xs 0 (j+1) d af,iM ys 0 (j+1) d af,dS,ht,bJ xs 0 j af,bJ ys 0 j af,dS];have h3:=nL xs 0 j hx af;have h4:pw j*(xs.getD j 0+1)<=pw j*ys.getD j 0:=gP _ hlt;rw [jG] at h4;omega
theorem vk (xs ys:List Nat) (hx:Wf xs) (hy:Wf ys) (h:nl xs<nl ys):val xs<val ys:=by
 rw [fH xs hx,fH ys hy] at h;have h1:=fV (val xs);have h2:val ys≠0:=by intro e;rw [e,bI] at h;simp at h
 have h3:=r9 (val ys) h2;have h4:=jE (show (ws (val xs)).length<=(ws (val ys)).length-1 by omega);omega
theorem mY {x y:Nat}(h:x<y):aY x y=-1:=by simp [aY,h]
theorem oJ {x y:Nat}(h:y<x):aY x y=1:=by simp [aY,h];omega
theorem Gv {x y:Nat}(h:x=y):aY x y=0:=by simp [aY,h]
theorem Eh {a b x y:Nat}(h1:a<b↔x<y) (h2:b<a↔y<x):aY a b=aY x y:=by simp [aY,h1,h2]
theorem zH (xs ys:List Nat) (ao bo:Option Addr) (n cap m aX B:Nat) (w:World) (hn:n=xs.length) (hm:m=ys.length) (hc:n<=cap) (hcb:m<=aX) (hbig:n<=70368744177664) (hbig2:m<=70368744177664)
 (hx:Wf xs) (hy:Wf ys) (hR:Rd B w ao xs) (hS:Rd B w bo ys) :
 Calls Tryz.prog 162 #[.slice ao n cap,.slice bo m aX] w fun r w'=>r=.returned (.int .i64 (aY (val xs) (val ys)))/\Below w.heap.size w w':=by
 have H1:=hid (dV xs ao n cap B w hn hc af hR);have H2:=hid (dV ys bo m aX B w hm hcb af hS);have hl1:=jH xs;have hl2:=jH ys;have f1:=kL xs hx;have f2:=kL ys hy;rw [<-jI] at f1 f2
 by_cases he:nl xs=nl ys
 · obtain ⟨k0,hk0⟩:∃ k,nl ys=k:=⟨_,rfl⟩;rw [he] at H1 hl1 f1;rw [hk0] at H1 H2 hl1 hl2 f1 f2;have HR:=(y7 hR hS hn hm hx hy hl1 hl2 f1 f2);have HC:Hid (∀ x y w,_):=ym;have hkn:k0<=n:=af
   have hkm:k0<=m:=af
   clear hR hS hn hm hx hy hl1 hl2 f1 f2 he hk0;go_enter Tryz.func162,Tryz.ntmps162;go_wp2_with fail;refine H1.o.mono ?_;rintro r w1 ⟨rfl,rfl⟩;go_wp2_with fail;refine H2.o.mono ?_;rintro r w1 ⟨rfl,rfl⟩;go_wp2
   go_loopg [5] k0 (fun k i wr=>k<=k0/\i=.int .i64 ((k:Int)-1)/\Hid (Below w1.heap.size w1 wr)/\Aside (sg xs k (k0-k)=sg ys k (k0-k)))
   case atStart=>exact ⟨aC _,rfl,aD _ _,by rw [xZ,dW,dW];exact rfl⟩
   case round =>
    obtain ⟨hk,rfl,HB,HA⟩:=hrel
    by_cases hk0:gk=0
    · subst hk0;go_wp2;go_ret;obtain ⟨hR,hS,hn,hm,hx,hy,hl1,hl2,f1,f2⟩:=HR.o;have h:=HA.o;rw [Nat.sub_zero,f1,f2] at h;rw [Gv h];exact ⟨rfl,HB.o⟩
    · obtain ⟨k,rfl⟩:∃ k,gk=k+1:=⟨gk-1,af⟩;obtain ⟨hR,hS,hn,hm,hx,hy,hl1,hl2,f1,f2⟩:=HR.o;obtain ⟨b,off,hB1,rfl,hc1⟩:=hR (by intro e;subst e;simp at hl1;omega);obtain ⟨b2,Ei,hB2,rfl,hc2⟩:=hS (by intro e;subst e;simp at hl2;omega)
      have g1:wr.cell? ⟨b,off+k,none⟩=some (.int .u32 ((xs.getD k 0:Nat):Int)) :=
       (HB.o.cell (p:=⟨b,off+k,none⟩) (lh w1 ⟨b,off+k,none⟩ (hc1 k af))).trans (hc1 k af)
      have g2:wr.cell? ⟨b2,Ei+k,none⟩=some (.int .u32 ((ys.getD k 0:Nat):Int)) :=
       (HB.o.cell (p:=⟨b2,Ei+k,none⟩) (lh w1 ⟨b2,Ei+k,none⟩ (hc2 k af))).trans (hc2 k af)
      obtain ⟨x,fZ⟩:∃ x:Nat,xs.getD k 0=x:=⟨_,rfl⟩;obtain ⟨y,pU⟩:∃ y:Nat,ys.getD k 0=y:=⟨_,rfl⟩;rw [fZ] at g1;rw [pU] at g2;have HX:=(aJ fZ pU);clear hR hS hn hm hx hy hl1 hl2 f1 f2 hc1 hc2 fZ pU hk0
      by_cases hxy:x=y
      · subst hxy;go_wp2
        go_region
        all_goals (
         go_wp2;go_roundg k
         case measure=>omega
         case rel =>
          obtain ⟨hR,hS,hn,hm,hx,hy,hl1,hl2,f1,f2⟩:=HR.o;refine ⟨af,by first | go_num | (congr 1;omega),HB.o.drew,?_⟩;have h:=HA.o;obtain ⟨r,hr⟩:∃ r,k0-k=r+1:=⟨k0-(k+1),af⟩;rw [show k0-(k+1)=r by omega] at h
          rw [Aside,hr,kP xs k r af,kP ys k r af,h,HX.o.1,HX.o.2])
      · have hne:((x:Int)==(y:Int))=false:=by simp;omega
        have hki:(k:Int)<(k0:Int):=af
        have Zx:0<=(k:Int):=af
        have Zy:k<k0:=af
        go_wp2
        go_region
        all_goals (
         go_wp2
         go_region_with (go_at_call 180;refine (ym x y _).mono ?_;rintro r w2 ⟨rfl,rfl⟩))
        all_goals (
         go_wp2;go_ret;obtain ⟨hR,hS,hn,hm,hx,hy,hl1,hl2,f1,f2⟩:=HR.o;have h:=HA.o
         have e:aY (val xs) (val ys)=aY x y:=by
          rw [<-f1,<-f2];have hk2:k+1+(k0-(k+1))=k0:=af
          have t1:=oH xs ys hx hy k (k0-(k+1)) af af h;have t2:=oH ys xs hy hx k (k0-(k+1)) af af h.symm;rw [hk2,HX.o.1,HX.o.2] at t1 t2;apply Eh <;> omega
         rw [e]
         exact ⟨rfl,by first | exact HB.o.drew.drew | exact HB.o.drew | skip⟩)
 · have e:aY (val xs) (val ys)=aY (nl xs) (nl ys):=by
    rcases Nat.lt_or_gt_of_ne he with h|h
    · rw [mY h,mY (vk xs ys hx hy h)]
    · rw [oJ h,oJ (vk ys xs hy hx h)]
   rw [e];obtain ⟨k1,hk1⟩:∃ k,nl xs=k:=⟨_,rfl⟩;obtain ⟨k2,hk2⟩:∃ k,nl ys=k:=⟨_,rfl⟩;rw [hk1] at H1 he |-;rw [hk2] at H2 he |-;have hne:((k1:Int)==(k2:Int))=false:=by simp;omega
   have hne2:¬ (k1:Int)=(k2:Int):=af
   have H3:=hid (Ir k1 k2 w);clear hR hS hn hm hx hy hl1 hl2 f1 f2 hk1 hk2 e he;go_enter Tryz.func162,Tryz.ntmps162;go_wp2_with fail;refine H1.o.mono ?_;rintro r w1 ⟨rfl,rfl⟩;go_wp2_with fail;refine H2.o.mono ?_;rintro r w1 ⟨rfl,rfl⟩;go_wp2_with fail;refine H3.o.mono ?_;rintro r w1 ⟨rfl,rfl⟩;go_wp2;go_ret;exact ⟨rfl,aD _ _⟩
theorem Mc (xs:List Nat) (ao:Option Addr) (n cap B:Nat) (w:World) (hn:n=xs.length) (hc:n<=cap) (hbig:n<=35184372088832) (hx:Wf xs) (hR:Rd B w ao xs) (hB:B<=w.heap.size) :
 Calls Tryz.prog 121 #[.slice ao n cap] w fun r w'=>∃ q,mX (val xs) q/\Two w.heap.size w' r q (val xs-q*q)/\Below w.heap.size w w':=by
 have T0:=dV xs ao n cap B w hn hc af hR;have hl:=jH xs;have hform:=mV xs hx;have hlen:=fH xs hx;rw [hlen] at T0 hl hform;obtain ⟨X,hX⟩:∃ X,val xs=X:=⟨_,rfl⟩;rw [hX] at T0 hl hform |-;have T:=hid T0;have jJ:Rd B w ao (ws X):=by rw [<-hform];exact hR.take _
 by_cases h0:X=0
 · subst h0;rw [bI] at T;clear hX hlen hform hl hx hn hR T0 jJ;go_enter Tryz.func121,Tryz.ntmps121;go_wp2_with fail;refine T.o.mono ?_;rintro r w1 ⟨rfl,rfl⟩;go_wp2
   go_ret2
   exact ⟨0,⟨af,af⟩,⟨_,_,rfl,Nt.nil _ _,Nt.nil _ _,mo _⟩,aD _ _⟩
 · have hk0:(ws X).length≠0:=fun e=>h0 ((bz X).1 e);obtain ⟨k,hk⟩:∃ k,(ws X).length=k:=⟨_,rfl⟩;have NR:=zC (ws X) ao k cap B w hk.symm af af (dz X) (by rw [aj];exact h0) jJ hB;rw [aj] at NR;have N:=hid NR;rw [hk] at T hl hk0;have hkn:k<=n:=af
   have hkne:((k:Int)==0)=false:=by simp;omega
   have HH:=(aZ jJ hk h0);clear hX hlen hform hl hx hn hR T0 jJ NR hk h0 hk0;go_enter Tryz.func121,Tryz.ntmps121;go_wp2_with fail;refine T.o.mono ?_;rintro r w1 ⟨rfl,rfl⟩;go_wp2_with fail;refine N.o.mono ?_;rintro r w2 ⟨v2,A,rfl,ko,hA1,hA2,rU,sG,hb2⟩;obtain ⟨ra,rc,rfl,hrc,Zw,hRr⟩:=ko.shape;obtain ⟨jJ,hk,h0⟩:=HH.o;have hlA:(ws A).length<=k:=by rw [<-hk];exact iV sG
   have M0:=zG (ws A) (ws A) ra ra _ rc _ rc w2.heap.size w2 rfl rfl hrc hrc af (dz _) (dz _) hRr hRr (aC _);rw [aj] at M0;have M:=hid M0;have H1:=(rT ko hA1 hA2 rU sG hb2 hRr hlA);clear M0 ko hA1 hA2 rU sG hb2 hRr jJ hk h0 hlA T N;go_wp2_with fail;refine M.o.mono ?_;rintro r w3 ⟨v3,rfl,dF,hb3⟩;obtain ⟨sa,sc,rfl,hsc,hscm,hRs⟩:=dF.shape;obtain ⟨jJ,hk,h0⟩:=HH.o;obtain ⟨ko,hA1,hA2,rU,sG,hb2,hRr,hlA⟩:=H1.o;have hs2:=hb2.size;have hs3:=hb3.size;have uG:Rd w3.heap.size w3 ao (ws X):=((jJ.below (hb2.mono hB)).below (hb3.mono af)).mono af
   have K9:A*A<pw (k+k):=by
    have:=fV A;have h2:=qG this this;rw [<-qb] at h2;exact iC h2 (jE af)
   have PU:(ws (A*A)).length<=k+k:=(aP _ _).2 K9;have C0:=zH (ws (A*A)) (ws X) sa ao _ sc k cap w3.heap.size w3 rfl hk.symm hsc af af af (dz _) (dz _) hRs uG;rw [aj,aj] at C0;have H2:=(eu dF hb3 hRs uG PU)
   by_cases hgt:X<A*A
   · rw [oJ hgt] at C0;have C:=hid C0;have H3:=(ak hgt);clear C0 ko hA1 hA2 rU sG hb2 hRr hlA dF hb3 hRs jJ hk h0 hs2 hs3 uG K9 PU M hgt;go_wp2_with fail;refine C.o.mono ?_;rintro r w4 ⟨rfl,hb4⟩
     -- the root less one
     obtain ⟨jJ,hk,h0⟩:=HH.o;obtain ⟨ko,hA1,hA2,rU,sG,hb2,hRr,hlA⟩:=H1.o;obtain ⟨dF,hb3,hRs,uG,PU⟩:=H2.o;have hs2:=hb2.size;have hs3:=hb3.size;have hs4:=hb4.size;obtain ⟨W5,Ee⟩:=ah (w4.alloc (.cells #[.int .u32 1] 51));have hb5:Below w4.heap.size w4 W5:=by rw [Ee];exact (aD _ _).alloc (aC _) _
     have hs5:=hb5.size;have Gs:Own W5 w4.heap.size [1]:=by rw [Ee];unfold Own;rw [ib];rfl
     have hg5:=Gs.lt
     have uf:Rd W5.heap.size W5 (some ⟨w4.heap.size,0,none⟩) [1]:=by
      have:=Rd.fM Gs 0 1;exact (by simpa using this:Rd (w4.heap.size+1) W5 (some ⟨w4.heap.size,0,none⟩) [1]).mono af
     have WW:Rd W5.heap.size W5 ra (ws A):=(((hRr.below hb3).below (hb4.mono hs3)).below (hb5.mono af)).mono af;have WX:1<=(ws A).length:=by have:=bz A;omega
     have S0:=vg (ws A) [1] ra (some ⟨w4.heap.size,0,none⟩) _ rc 1 1 W5.heap.size W5 rfl rfl WX hrc af af (dz _) (Wf.cons af Wf.nil) (by rw [aj];simp [val];omega) WW uf (aC _);rw [aj,show val [1]=1 from rfl] at S0;rw [Ee] at S0;have S:=hid S0;have H4:=(aZ hb4 Ee hb5);clear S0 ko hA1 hA2 rU sG hb2 hRr hlA dF hb3 hRs jJ hk h0 hs2 hs3 uG PU hb4 hs4 Ee hb5 hs5 Gs hg5 uf WW WX C;go_wp2_with fail;refine S.o.mono ?_;rintro r w6 ⟨v6,rfl,qP,hb6⟩;obtain ⟨ra6,rc6,rfl,WY,hrcm6,UZ⟩:=qP.shape;obtain ⟨ko,hA1,hA2,rU,sG,hb2,hRr,hlA⟩:=H1.o;have Zz:(ws (A-1)).length<=(ws A).length:=iV af;have M0:=zG (ws (A-1)) (ws (A-1)) ra6 ra6 _ rc6 _ rc6 w6.heap.size w6 rfl rfl WY WY af (dz _) (dz _) UZ UZ (aC _);rw [aj] at M0;have M:=hid M0;have H5:=(aJ qP hb6);clear M0 ko hA1 hA2 rU sG hb2 hRr hlA qP hb6 UZ Zz S;go_wp2_with fail;refine M.o.mono ?_;rintro r w7 ⟨v7,rfl,WZ,YU⟩;obtain ⟨sa7,sc7,rfl,ZA,hscm7,W9⟩:=WZ.shape;obtain ⟨jJ,hk,h0⟩:=HH.o;obtain ⟨ko,hA1,hA2,rU,sG,hb2,hRr,hlA⟩:=H1.o;obtain ⟨dF,hb3,hRs,uG,PU⟩:=H2.o;obtain ⟨hb4,Ee,hb5⟩:=H4.o;obtain ⟨qP,hb6⟩:=H5.o;rw [<-Ee] at qP hb6;have hs2:=hb2.size;have hs3:=hb3.size;have hs4:=hb4.size;have hs5:=hb5.size;have hs6:=hb6.size;have hs7:=YU.size;have IU:Below w1.heap.size w1 w7:=(((((hb2.trans (hb3.mono hs2)).trans (hb4.mono af)).trans (hb5.mono af)).trans (hb6.mono af))).trans (YU.mono af);have Xa:Rd w7.heap.size w7 ao (ws X):=(jJ.below (IU.mono hB)).mono af;have U4:(A-1)*(A-1)<=X:=af
     have hl7:(ws ((A-1)*(A-1))).length<=k:=by rw [<-hk];exact iV U4
     have S0:=vg (ws X) (ws ((A-1)*(A-1))) ao sa7 k cap _ sc7 w7.heap.size w7 hk.symm rfl hl7 af ZA af (dz _) (dz _) (by rw [aj,aj];exact U4) Xa W9 (aC _);rw [aj,aj] at S0;have S:=hid S0;have Md:=qP.below YU;have H6:=(aJ IU Md);clear S0 ko hA1 hA2 rU sG hb2 hRr hlA dF hb3 hRs jJ hk h0 uG PU hb4 Ee hb5 qP hb6 WZ YU W9 hs2 hs3 hs4 hs5 hs6 hs7 IU Xa U4 hl7 Md M;go_wp2_with fail;refine S.o.mono ?_;rintro r w8 ⟨v8,rfl,DI,AU⟩;have H7:=(aJ DI AU);clear DI AU S;go_wp2
     go_ret2
     obtain ⟨DI,AU⟩:=H7.o;obtain ⟨IU,Md⟩:=H6.o;obtain ⟨ko,hA1,hA2,rU,sG,hb2,hRr,hlA⟩:=H1.o;obtain ⟨hb4,Ee,hb5⟩:=H4.o;obtain ⟨dF,hb3,hRs,uG,PU⟩:=H2.o;have hs2:=hb2.size;have hs3:=hb3.size;have hs4:=hb4.size;have hs5:=hb5.size;have hs7:=IU.size;have hlow:w1.heap.size<=W5.heap.size:=af
     refine ⟨A-1,⟨af,?_⟩,⟨_,_,rfl,(Md.below AU).mono hlow,DI.mono hs7,qO (hi:=0) Md DI (aC _)⟩,IU.trans (AU.mono hs7)⟩;rw [show A-1+1=A by omega];exact H3.o
   · have hle:A*A<=X:=af
     have hC1:aY (A*A) X<=0:=by unfold aY;split <;> (try split) <;> omega
     obtain ⟨cc,hcc⟩:∃ cc,aY (A*A) X=cc:=⟨_,rfl⟩;rw [hcc] at C0 hC1;have C:=hid C0;have H3:=(ak hle);clear C0 ko hA1 hA2 rU sG hb2 hRr hlA dF hb3 hRs jJ hk h0 hs2 hs3 uG K9 PU M hle hgt hcc;go_wp2_with fail;refine C.o.mono ?_;rintro r w4 ⟨rfl,hb4⟩;obtain ⟨jJ,hk,h0⟩:=HH.o;obtain ⟨ko,hA1,hA2,rU,sG,hb2,hRr,hlA⟩:=H1.o;obtain ⟨dF,hb3,hRs,uG,PU⟩:=H2.o;have hs2:=hb2.size;have hs3:=hb3.size;have hs4:=hb4.size;have Me:Below w1.heap.size w1 w4:=(hb2.trans (hb3.mono hs2)).trans (hb4.mono af);have Xb:Rd w4.heap.size w4 ao (ws X):=(uG.below hb4).mono hs4;have Xc:Rd w4.heap.size w4 sa (ws (A*A)):=(hRs.below hb4).mono hs4;have hl4:(ws (A*A)).length<=k:=by rw [<-hk];exact iV H3.o
     have S0:=vg (ws X) (ws (A*A)) ao sa k cap _ sc w4.heap.size w4 hk.symm rfl hl4 af hsc af (dz _) (dz _) (by rw [aj,aj];exact H3.o) Xb Xc (aC _);rw [aj,aj] at S0;have S:=hid S0;have Mf:=(ko.below hb3).below hb4;have H6:=(aJ Me Mf);clear S0 ko hA1 hA2 rU sG hb2 hRr hlA dF hb3 hRs jJ hk h0 uG PU hb4 hs2 hs3 hs4 Me Xb Xc hl4 Mf C;go_wp2_with fail;refine S.o.mono ?_;rintro r w8 ⟨v8,rfl,DI,AU⟩;have H7:=(aJ DI AU);clear DI AU S;go_wp2
     go_ret2
     obtain ⟨DI,AU⟩:=H7.o;obtain ⟨Me,Mf⟩:=H6.o;obtain ⟨ko,hA1,hA2,rU,sG,hb2,hRr,hlA⟩:=H1.o;have hs4:=Me.size;exact ⟨A,⟨H3.o,hA2⟩,⟨_,_,rfl,Mf.below AU,DI.mono hs4,qO (hi:=0) Mf DI (aC _)⟩,Me.trans (AU.mono hs4)⟩
abbrev LG (X:Nat):Prop:=8192<(ws X).length
def uH (X Y:Nat):Nat×Int:=if LG (X+Y) then (0,2) else (X+Y,0)
def nY (X Y:Nat):Nat×Int:=if LG X\/LG Y then (0,2) else if X<Y then (0,20) else (X-Y,0)
def jR (X Y:Nat):Nat×Int:=if LG X\/LG Y then (0,2) else if LG (X*Y) then (0,2) else (X*Y,0)
def nZ (X Y:Nat):Nat×Nat×Int:=if LG X\/LG Y then (0,0,2) else if Y=0 then (0,0,21) else (X/Y,X%Y,0)
def aW (X:Nat) (by':Int):Nat×Int:=if LG X then (0,2) else if X=0 then (0,0) else if by'<0 then (X/2^(-by').toNat,0) else if 262144-(bl X:Int)<by' then (0,2) else (X*2^by'.toNat,0)
def One (lo:Nat) (w:World) (r:Ending) (a:Nat×Int):Prop:=∃ v,r=.returned (.tuple #[v,.int .i64 a.2])/\Nt lo w v a.1
theorem qQ (xs:List Nat) (ao:Option Addr) (n cap B:Nat) (w:World) (hn:n=xs.length) (hc:n<=cap) (hm:n<=70368744177664) (hx:Wf xs) (hR:Rd B w ao xs) :
 (Calls Tryz.prog 129 #[.slice ao n cap] w fun r w'=>r=.returned (.slice ao (ws (val xs)).length cap)/\w'=w)/\Rd B w ao (ws (val xs))/\(ws (val xs)).length<=n:=by
 have T:=dV xs ao n cap B w hn hc af hR;have hl:=jH xs;have hf:=mV xs hx;have hlen:=fH xs hx;rw [hlen] at T hl hf;exact ⟨T,by rw [<-hf];exact hR.take _,af⟩
theorem Gw (xs ys:List Nat) (ao bo:Option Addr) (n cap m aX B:Nat) (w:World) (hn:n=xs.length) (hm:m=ys.length) (hc:n<=cap) (hcb:m<=aX) (hbig:n<=35184372088833) (hbig2:m<=35184372088833)
 (hx:Wf xs) (hy:Wf ys) (hR:Rd B w ao xs) (hS:Rd B w bo ys) (hB:B<=w.heap.size) :
 Calls Tryz.prog 141 #[.slice ao n cap,.slice bo m aX] w fun r w'=>One w.heap.size w' r (uH (val xs) (val ys))/\Below w.heap.size w w':=by
 obtain ⟨T1,jJ,hl1⟩:=qQ xs ao n cap B w hn hc af hx hR;obtain ⟨T2,sH,hl2⟩:=qQ ys bo m aX B w hm hcb af hy hS;generalize val xs=X at *;generalize val ys=Y at *;have A0:=Gt (ws X) (ws Y) ao bo _ cap _ aX B w rfl rfl af af af af (dz X) (dz Y) jJ sH hB;rw [aj,aj] at A0;have H1:=(hid T1);have H2:=(hid T2);have H3:=(hid A0);clear T1 T2 A0 jJ sH hn hm hx hy hR hS hl1 hl2;go_enter Tryz.func141,Tryz.ntmps141;go_wp2_with fail;refine H1.o.mono ?_;rintro r w1 ⟨rfl,rfl⟩;go_wp2_with fail;refine H2.o.mono ?_;rintro r w1 ⟨rfl,rfl⟩;go_wp2_with fail;refine H3.o.mono ?_;rintro r w2 ⟨v,rfl,hN,hb⟩;obtain ⟨av,cv,rfl,hcv,hcm,hRv⟩:=hN.shape;have U0:=nW (ws (X+Y)).length av cv w2;have HN:=(aJ hN hb);clear H1 H2 H3 hN hb hRv
 by_cases hL:LG (X+Y)
 · rw [if_pos (show 8192<(ws (X+Y)).length from hL)] at U0;have U:=(hid U0);clear U0;go_wp2_with fail;refine U.o.mono ?_;rintro r w3 ⟨rfl,rfl⟩;go_wp2
   go_ret2
   rw [show uH X Y=(0,2) by simp [uH,hL]];exact ⟨⟨_,rfl,Nt.nil _ _⟩,HN.o.2⟩
 · rw [if_neg (show ¬ 8192<(ws (X+Y)).length from hL)] at U0;have U:=(hid U0);clear U0;go_wp2_with fail;refine U.o.mono ?_;rintro r w3 ⟨rfl,rfl⟩;go_wp2
   go_ret2
   rw [show uH X Y=(X+Y,0) by simp [uH,hL]];exact ⟨⟨_,rfl,HN.o.1⟩,HN.o.2⟩
theorem lG (n:Nat) (ao:Option Addr) (cap:Nat) (w:World) (b:Bool) (hb:decide (8192<n)=b) :
 Calls Tryz.prog 134 #[.slice ao n cap] w fun r w'=>r=.returned (.bool b)/\w'=w:=by
 have h:=vL n ao cap w;have e:decide ((8192:Int)<(n:Int))=b:=by rw [<-hb];simp only [decide_eq_decide];omega
 rw [e] at h;exact h
theorem Qk (xs ys:List Nat) (ao bo:Option Addr) (n cap m aX B:Nat) (w:World) (hn:n=xs.length) (hm:m=ys.length) (hc:n<=cap) (hcb:m<=aX) (hbig:n<=35184372088833) (hbig2:m<=35184372088833)
 (hx:Wf xs) (hy:Wf ys) (hR:Rd B w ao xs) (hS:Rd B w bo ys) (hB:B<=w.heap.size) :
 Calls Tryz.prog 144 #[.slice ao n cap,.slice bo m aX] w fun r w'=>One w.heap.size w' r (nY (val xs) (val ys))/\Below w.heap.size w w':=by
 obtain ⟨T1,jJ,hl1⟩:=qQ xs ao n cap B w hn hc af hx hR;obtain ⟨T2,sH,hl2⟩:=qQ ys bo m aX B w hm hcb af hy hS;generalize val xs=X at *;generalize val ys=Y at *;have H1:=(hid T1);have H2:=(hid T2);have HR:=(gK jJ sH hl1 hl2);clear T1 T2 jJ sH hn hm hx hy hR hS hl1 hl2
 by_cases jS:LG X
 · have L:=hid (lG (ws X).length ao cap w true (by simpa [LG] using jS));have e:nY X Y=(0,2):=by simp [nY,jS]
   rw [e];clear e jS HR;go_enter Tryz.func144,Tryz.ntmps144;go_wp2_with fail;refine H1.o.mono ?_;rintro r w1 ⟨rfl,rfl⟩;go_wp2_with fail;refine H2.o.mono ?_;rintro r w1 ⟨rfl,rfl⟩;go_wp2_with fail;refine L.o.mono ?_;rintro r w1 ⟨rfl,rfl⟩;go_wp2
   go_ret2
   exact ⟨⟨_,rfl,Nt.nil _ _⟩,aD _ _⟩
 · have L:=hid (lG (ws X).length ao cap w false (by simpa [LG] using jS))
   by_cases pV:LG Y
   · have L2:=hid (lG (ws Y).length bo aX w true (by simpa [LG] using pV));have e:nY X Y=(0,2):=by simp [nY,pV]
     rw [e];clear e jS pV HR;go_enter Tryz.func144,Tryz.ntmps144;go_wp2_with fail;refine H1.o.mono ?_;rintro r w1 ⟨rfl,rfl⟩;go_wp2_with fail;refine H2.o.mono ?_;rintro r w1 ⟨rfl,rfl⟩;go_wp2_with fail;refine L.o.mono ?_;rintro r w1 ⟨rfl,rfl⟩;go_wp2_with fail;refine L2.o.mono ?_;rintro r w1 ⟨rfl,rfl⟩;go_wp2
     go_ret2
     exact ⟨⟨_,rfl,Nt.nil _ _⟩,aD _ _⟩
   · have L2:=hid (lG (ws Y).length bo aX w false (by simpa [LG] using pV));obtain ⟨jJ,sH,hl1,hl2⟩:=HR.o;have C0:=zH (ws X) (ws Y) ao bo _ cap _ aX B w rfl rfl af af af af (dz X) (dz Y) jJ sH;rw [aj,aj] at C0
     by_cases hlt:X<Y
     · rw [mY hlt] at C0;have C:=hid C0;have e:nY X Y=(0,20):=by simp [nY,jS,pV,hlt]
       rw [e];clear e jS pV HR C0 hlt jJ sH hl1 hl2;go_enter Tryz.func144,Tryz.ntmps144;go_wp2_with fail;refine H1.o.mono ?_;rintro r w1 ⟨rfl,rfl⟩;go_wp2_with fail;refine H2.o.mono ?_;rintro r w1 ⟨rfl,rfl⟩;go_wp2_with fail;refine L.o.mono ?_;rintro r w1 ⟨rfl,rfl⟩;go_wp2_with fail;refine L2.o.mono ?_;rintro r w1 ⟨rfl,rfl⟩;go_wp2_with fail;refine C.o.mono ?_;rintro r w2 ⟨rfl,hb⟩;have HB:=(ak hb);clear hb;go_wp2
       go_ret2
       exact ⟨⟨_,rfl,Nt.nil _ _⟩,HB.o⟩
     · have hc1:0<=aY X Y:=by unfold aY;rw [if_neg hlt];split <;> omega
       obtain ⟨cc,hcc⟩:∃ cc,aY X Y=cc:=⟨_,rfl⟩;rw [hcc] at C0 hc1;have C:=hid C0;have e:nY X Y=(X-Y,0):=by simp [nY,jS,pV,hlt]
       rw [e];have HL:=(ak hlt);clear e jS pV C0 hlt jJ sH hl1 hl2 hcc;go_enter Tryz.func144,Tryz.ntmps144;go_wp2_with fail;refine H1.o.mono ?_;rintro r w1 ⟨rfl,rfl⟩;go_wp2_with fail;refine H2.o.mono ?_;rintro r w1 ⟨rfl,rfl⟩;go_wp2_with fail;refine L.o.mono ?_;rintro r w1 ⟨rfl,rfl⟩;go_wp2_with fail;refine L2.o.mono ?_;rintro r w1 ⟨rfl,rfl⟩;go_wp2_with fail;refine C.o.mono ?_;rintro r w2 ⟨rfl,hb⟩;obtain ⟨jJ,sH,hl1,hl2⟩:=HR.o;have hs:=hb.size;have S0:=vg (ws X) (ws Y) ao bo _ cap _ aX B w2 rfl rfl (iV (by have:=HL.o;omega)) af af af (dz X) (dz Y) (by rw [aj,aj];have:=HL.o;omega) (jJ.below (hb.mono hB)) (sH.below (hb.mono hB)) af;rw [aj,aj] at S0;have S:=hid S0;have HB:=(aJ hb hs);clear hb jJ sH hl1 hl2 S0 hs C;go_wp2_with fail;refine S.o.mono ?_;rintro r w3 ⟨v,rfl,hN,hb2⟩;have HN:=(aJ hN hb2);clear hN hb2 S;go_wp2
       go_ret2
       obtain ⟨hb,hs⟩:=HB.o;exact ⟨⟨_,rfl,HN.o.1.mono hs⟩,hb.trans (HN.o.2.mono hs)⟩
theorem Gx (xs ys:List Nat) (ao bo:Option Addr) (n cap m aX B:Nat) (w:World) (hn:n=xs.length) (hm:m=ys.length) (hc:n<=cap) (hcb:m<=aX) (hbig:n<=35184372088833) (hbig2:m<=35184372088833)
 (hx:Wf xs) (hy:Wf ys) (hR:Rd B w ao xs) (hS:Rd B w bo ys) (hB:B<=w.heap.size) :
 Calls Tryz.prog 99 #[.slice ao n cap,.slice bo m aX] w fun r w'=>One w.heap.size w' r (jR (val xs) (val ys))/\Below w.heap.size w w':=by
 obtain ⟨T1,jJ,hl1⟩:=qQ xs ao n cap B w hn hc af hx hR;obtain ⟨T2,sH,hl2⟩:=qQ ys bo m aX B w hm hcb af hy hS;generalize val xs=X at *;generalize val ys=Y at *;have H1:=(hid T1);have H2:=(hid T2);have HR:=(gK jJ sH hl1 hl2);clear T1 T2 jJ sH hn hm hx hy hR hS hl1 hl2
 by_cases jS:LG X
 · have L:=hid (lG (ws X).length ao cap w true (by simpa [LG] using jS));have e:jR X Y=(0,2):=by simp [jR,jS]
   rw [e];clear e jS HR;go_enter Tryz.func99,Tryz.ntmps99;go_wp2_with fail;refine H1.o.mono ?_;rintro r w1 ⟨rfl,rfl⟩;go_wp2_with fail;refine H2.o.mono ?_;rintro r w1 ⟨rfl,rfl⟩;go_wp2_with fail;refine L.o.mono ?_;rintro r w1 ⟨rfl,rfl⟩;go_wp2
   go_ret2
   exact ⟨⟨_,rfl,Nt.nil _ _⟩,aD _ _⟩
 · have L:=hid (lG (ws X).length ao cap w false (by simpa [LG] using jS))
   by_cases pV:LG Y
   · have L2:=hid (lG (ws Y).length bo aX w true (by simpa [LG] using pV));have e:jR X Y=(0,2):=by simp [jR,pV]
     rw [e];clear e jS pV HR;go_enter Tryz.func99,Tryz.ntmps99;go_wp2_with fail;refine H1.o.mono ?_;rintro r w1 ⟨rfl,rfl⟩;go_wp2_with fail;refine H2.o.mono ?_;rintro r w1 ⟨rfl,rfl⟩;go_wp2_with fail;refine L.o.mono ?_;rintro r w1 ⟨rfl,rfl⟩;go_wp2_with fail;refine L2.o.mono ?_;rintro r w1 ⟨rfl,rfl⟩;go_wp2
     go_ret2
     exact ⟨⟨_,rfl,Nt.nil _ _⟩,aD _ _⟩
   · have L2:=hid (lG (ws Y).length bo aX w false (by simpa [LG] using pV));have hz1:(ws X).length=0->X=0:=(bz X).1;have hz2:(ws Y).length=0->Y=0:=(bz Y).1
     by_cases h1:(ws X).length=0
     · have e:jR X Y=(0,0):=by
        have:=hz1 h1;subst this;unfold jR;rw [if_neg (by simp [jS,pV]),eQ,if_neg jS]
       rw [e];have hh:=hid h1;rw [h1] at H1 L;have h1b:((ws X).length:Int)=0:=af
       clear e jS pV HR hz1 hz2 h1 h1b hh;go_enter Tryz.func99,Tryz.ntmps99;go_wp2_with fail;refine H1.o.mono ?_;rintro r w1 ⟨rfl,rfl⟩;go_wp2_with fail;refine H2.o.mono ?_;rintro r w1 ⟨rfl,rfl⟩;go_wp2_with fail;refine L.o.mono ?_;rintro r w1 ⟨rfl,rfl⟩;go_wp2_with fail;refine L2.o.mono ?_;rintro r w1 ⟨rfl,rfl⟩;go_wp2
       go_ret2
       exact ⟨⟨_,rfl,Nt.nil _ _⟩,aD _ _⟩
     · by_cases h2:(ws Y).length=0
       · have e:jR X Y=(0,0):=by
          have:=hz2 h2;subst this;unfold jR;rw [if_neg (by simp [jS,pV]),nG,if_neg pV]
         rw [e];rw [h2] at H2 L2;obtain ⟨k1,hk1⟩:∃ k,(ws X).length=k:=⟨_,rfl⟩;rw [hk1] at H1 L h1;have h1b:((k1:Int)==0)=false:=by simp;omega
         clear e jS pV HR hz1 hz2 h2 hk1;go_enter Tryz.func99,Tryz.ntmps99;go_wp2_with fail;refine H1.o.mono ?_;rintro r w1 ⟨rfl,rfl⟩;go_wp2_with fail;refine H2.o.mono ?_;rintro r w1 ⟨rfl,rfl⟩;go_wp2_with fail;refine L.o.mono ?_;rintro r w1 ⟨rfl,rfl⟩;go_wp2_with fail;refine L2.o.mono ?_;rintro r w1 ⟨rfl,rfl⟩;go_wp2
         go_ret2
         exact ⟨⟨_,rfl,Nt.nil _ _⟩,aD _ _⟩
       · have hX0:X≠0:=fun e=>h1 ((bz X).2 e);have hY0:Y≠0:=fun e=>h2 ((bz Y).2 e)
         have hlow:pw ((ws X).length+(ws Y).length-2)<=X*Y:=by
          have a:=jv (r9 X hX0) (r9 Y hY0);rw [<-qb] at a;rw [show (ws X).length+(ws Y).length-2=(ws X).length-1+((ws Y).length-1) by omega];exact a
         obtain ⟨jJ,sH,hl1,hl2⟩:=HR.o;have M0:=zG (ws X) (ws Y) ao bo _ cap _ aX B w rfl rfl af af (by unfold LG at jS pV;omega) (dz X) (dz Y) jJ sH hB;rw [aj,aj] at M0;have Ql:(ws X).length<=8192:=by unfold LG at jS;omega
         have Qm:(ws Y).length<=8192:=by unfold LG at pV;omega
         obtain ⟨k1,hk1⟩:∃ k,(ws X).length=k:=⟨_,rfl⟩;obtain ⟨k2,hk2⟩:∃ k,(ws Y).length=k:=⟨_,rfl⟩;rw [hk1] at H1 L h1 M0 hlow Ql;rw [hk2] at H2 L2 h2 M0 hlow Qm;have h1b:((k1:Int)==0)=false:=by simp;omega
         have h2b:((k2:Int)==0)=false:=by simp;omega
         by_cases h3:8192<k1+k2-1
         · have hLG:LG (X*Y):=by
            unfold LG
            by_cases h4:(ws (X*Y)).length<=8192
            · have:=(aP _ _).1 h4;have:=jE (show 8192<=k1+k2-2 by omega);omega
            · omega
           have e:jR X Y=(0,2):=by simp [jR,hLG]
           rw [e];have h3i:(8192:Int)<(k1:Int)+(k2:Int)-1:=af
           clear e jS pV HR hz1 hz2 hk1 hk2 jJ sH hl1 hl2 M0 hX0 hY0 hlow hLG h3;go_enter Tryz.func99,Tryz.ntmps99;go_wp2_with fail;refine H1.o.mono ?_;rintro r w1 ⟨rfl,rfl⟩;go_wp2_with fail;refine H2.o.mono ?_;rintro r w1 ⟨rfl,rfl⟩;go_wp2_with fail;refine L.o.mono ?_;rintro r w1 ⟨rfl,rfl⟩;go_wp2_with fail;refine L2.o.mono ?_;rintro r w1 ⟨rfl,rfl⟩;go_wp2
           go_ret2
           exact ⟨⟨_,rfl,Nt.nil _ _⟩,aD _ _⟩
         · have h3i:(k1:Int)+(k2:Int)-1<=8192:=af
           have h3b:decide ((8192:Int)<(k1:Int)+(k2:Int)-1)=false:=decide_eq_false af;have M:=hid M0;have HL:=(aJ jS pV);clear jS pV HR hz1 hz2 hk1 hk2 jJ sH hl1 hl2 M0 hX0 hY0 hlow h3;go_enter Tryz.func99,Tryz.ntmps99;go_wp2_with fail;refine H1.o.mono ?_;rintro r w1 ⟨rfl,rfl⟩;go_wp2_with fail;refine H2.o.mono ?_;rintro r w1 ⟨rfl,rfl⟩;go_wp2_with fail;refine L.o.mono ?_;rintro r w1 ⟨rfl,rfl⟩;go_wp2_with fail;refine L2.o.mono ?_;rintro r w1 ⟨rfl,rfl⟩;go_wp2_with fail;refine M.o.mono ?_;rintro r w2 ⟨v,rfl,hN,hb⟩;obtain ⟨av,cv,rfl,hcv,hcm,hRv⟩:=hN.shape;have U0:=nW (ws (X*Y)).length av cv w2;have HN:=(aJ hN hb);clear M hN hb hRv
           by_cases hL:LG (X*Y)
           · rw [if_pos (show 8192<(ws (X*Y)).length from hL)] at U0;have U:=(hid U0);clear U0;go_wp2_with fail;refine U.o.mono ?_;rintro r w3 ⟨rfl,rfl⟩;go_wp2
             go_ret2
             rw [show jR X Y=(0,2) by simp [jR,hL]];exact ⟨⟨_,rfl,Nt.nil _ _⟩,HN.o.2⟩
           · rw [if_neg (show ¬ 8192<(ws (X*Y)).length from hL)] at U0;have U:=(hid U0);clear U0;go_wp2_with fail;refine U.o.mono ?_;rintro r w3 ⟨rfl,rfl⟩;go_wp2
             go_ret2
             rw [show jR X Y=(X*Y,0) by simp [jR,HL.o.1,HL.o.2,hL]];exact ⟨⟨_,rfl,HN.o.1⟩,HN.o.2⟩
def Three (lo:Nat) (w:World) (r:Ending) (a:Nat×Nat×Int):Prop:=∃ v u,r=.returned (.tuple #[v,u,.int .i64 a.2.2])/\Nt lo w v a.1/\Nt lo w u a.2.1/\Apart v u
theorem Qn (xs ys:List Nat) (ao bo:Option Addr) (n cap m aX B:Nat) (w:World) (hn:n=xs.length) (hm:m=ys.length) (hc:n<=cap) (hcb:m<=aX) (hbig:n<=35184372088833) (hbig2:m<=35184372088833)
 (hx:Wf xs) (hy:Wf ys) (hR:Rd B w ao xs) (hS:Rd B w bo ys) (hB:B<=w.heap.size) :
 Calls Tryz.prog 142 #[.slice ao n cap,.slice bo m aX] w fun r w'=>Three w.heap.size w' r (nZ (val xs) (val ys))/\Below w.heap.size w w':=by
 obtain ⟨T1,jJ,hl1⟩:=qQ xs ao n cap B w hn hc af hx hR;obtain ⟨T2,sH,hl2⟩:=qQ ys bo m aX B w hm hcb af hy hS;generalize val xs=X at *;generalize val ys=Y at *;have H1:=(hid T1);have H2:=(hid T2);have HR:=(gK jJ sH hl1 hl2);clear T1 T2 jJ sH hn hm hx hy hR hS hl1 hl2
 by_cases jS:LG X
 · have L:=hid (lG (ws X).length ao cap w true (by simpa [LG] using jS));have e:nZ X Y=(0,0,2):=by simp [nZ,jS]
   rw [e];clear e jS HR;go_enter Tryz.func142,Tryz.ntmps142;go_wp2_with fail;refine H1.o.mono ?_;rintro r w1 ⟨rfl,rfl⟩;go_wp2_with fail;refine H2.o.mono ?_;rintro r w1 ⟨rfl,rfl⟩;go_wp2_with fail;refine L.o.mono ?_;rintro r w1 ⟨rfl,rfl⟩;go_wp2
   go_ret3
   exact ⟨⟨_,_,rfl,Nt.nil _ _,Nt.nil _ _,mo _⟩,aD _ _⟩
 · have L:=hid (lG (ws X).length ao cap w false (by simpa [LG] using jS))
   by_cases pV:LG Y
   · have L2:=hid (lG (ws Y).length bo aX w true (by simpa [LG] using pV));have e:nZ X Y=(0,0,2):=by simp [nZ,pV]
     rw [e];clear e jS pV HR;go_enter Tryz.func142,Tryz.ntmps142;go_wp2_with fail;refine H1.o.mono ?_;rintro r w1 ⟨rfl,rfl⟩;go_wp2_with fail;refine H2.o.mono ?_;rintro r w1 ⟨rfl,rfl⟩;go_wp2_with fail;refine L.o.mono ?_;rintro r w1 ⟨rfl,rfl⟩;go_wp2_with fail;refine L2.o.mono ?_;rintro r w1 ⟨rfl,rfl⟩;go_wp2
     go_ret3
     exact ⟨⟨_,_,rfl,Nt.nil _ _,Nt.nil _ _,mo _⟩,aD _ _⟩
   · have L2:=hid (lG (ws Y).length bo aX w false (by simpa [LG] using pV))
     by_cases h2:Y=0
     · have e:nZ X Y=(0,0,21):=by unfold nZ;rw [if_neg (by simp [jS,pV]),if_pos h2]
       rw [e];subst h2;rw [bI] at H2 L2;clear e jS pV HR;go_enter Tryz.func142,Tryz.ntmps142;go_wp2_with fail;refine H1.o.mono ?_;rintro r w1 ⟨rfl,rfl⟩;go_wp2_with fail;refine H2.o.mono ?_;rintro r w1 ⟨rfl,rfl⟩;go_wp2_with fail;refine L.o.mono ?_;rintro r w1 ⟨rfl,rfl⟩;go_wp2_with fail;refine L2.o.mono ?_;rintro r w1 ⟨rfl,rfl⟩;go_wp2
       go_ret3
       exact ⟨⟨_,_,rfl,Nt.nil _ _,Nt.nil _ _,mo _⟩,aD _ _⟩
     · have h3:(ws Y).length≠0:=fun e=>h2 ((bz Y).1 e);obtain ⟨jJ,sH,hl1,hl2⟩:=HR.o;have D0:=Gu (ws X) (ws Y) ao bo _ cap _ aX B w rfl rfl af af af af (dz X) (dz Y) (Ma Y h2) jJ sH hB;rw [aj,aj] at D0;have e:nZ X Y=(X/Y,X%Y,0):=by simp [nZ,jS,pV,h2]
       rw [e];obtain ⟨k2,hk2⟩:∃ k,(ws Y).length=k:=⟨_,rfl⟩;rw [hk2] at H2 L2 D0 h3;have h2b:((k2:Int)==0)=false:=by simp;omega
       have D:=hid D0;clear e jS pV HR hk2 jJ sH hl1 hl2 D0 h2;go_enter Tryz.func142,Tryz.ntmps142;go_wp2_with fail;refine H1.o.mono ?_;rintro r w1 ⟨rfl,rfl⟩;go_wp2_with fail;refine H2.o.mono ?_;rintro r w1 ⟨rfl,rfl⟩;go_wp2_with fail;refine L.o.mono ?_;rintro r w1 ⟨rfl,rfl⟩;go_wp2_with fail;refine L2.o.mono ?_;rintro r w1 ⟨rfl,rfl⟩;go_wp2_with fail;refine D.o.mono ?_;rintro r w2 ⟨⟨v,u,rfl,hN1,ko,hap⟩,hb⟩;have HN:=(gK hN1 ko hap hb);clear hN1 ko hap hb D;go_wp2
       go_ret3
       obtain ⟨hN1,ko,hap,hb⟩:=HN.o;exact ⟨⟨_,_,rfl,hN1,ko,hap⟩,hb⟩
theorem BJ (X k:Nat) (h:X<pw k):bl X<=32*k:=by
 by_cases h0:X=0
 · subst h0;rw [dG];omega
 · have h1:=gT X h0;have h3:pw k=2^(32*k):=by rw [<-gM (32*k),lN];simp
   rw [h3] at h;have:=(jw (a:=2) au).1 (gN h1 h);omega
theorem Mg (X:Nat) (h:¬ LG X):bl X<=262144 :=
 BJ X 8192 ((aP X 8192).1 (by unfold LG at h;omega))
theorem yx (xs:List Nat) (ao:Option Addr) (n cap B:Nat) (by':Int) (w:World) (hn:n=xs.length) (hc:n<=cap) (hbig:n<=35184372088833)
 (hx:Wf xs) (hR:Rd B w ao xs) (hB:B<=w.heap.size) (hb0:-9223372036854775808<=by') (hb1:by'<=9223372036854775807) :
 Calls Tryz.prog 137 #[.slice ao n cap,.int .i64 by'] w fun r w'=>One w.heap.size w' r (aW (val xs) by')/\Below w.heap.size w w':=by
 obtain ⟨T1,jJ,hl1⟩:=qQ xs ao n cap B w hn hc af hx hR;generalize val xs=X at *;have N0:=oG (ws X) ao _ cap B w rfl af af (dz X) jJ;rw [aj] at N0;have H1:=(hid T1);have H2:=(hid N0);have HR:=(aJ jJ hl1);clear T1 N0 jJ hn hx hR hl1
 by_cases jS:LG X
 · have L:=hid (lG (ws X).length ao cap w true (by simpa [LG] using jS));have e:aW X by'=(0,2):=by simp [aW,jS]
   rw [e];clear e jS HR;generalize bl X=c at *;go_enter Tryz.func137,Tryz.ntmps137;go_wp2_with fail;refine H1.o.mono ?_;rintro r w1 ⟨rfl,rfl⟩;go_wp2_with fail;refine H2.o.mono ?_;rintro r w1 ⟨rfl,rfl⟩;go_wp2_with fail;refine L.o.mono ?_;rintro r w1 ⟨rfl,rfl⟩;go_wp2
   go_ret2
   exact ⟨⟨_,rfl,Nt.nil _ _⟩,aD _ _⟩
 · have L:=hid (lG (ws X).length ao cap w false (by simpa [LG] using jS));have hbs:=Mg X jS;obtain ⟨c,hcc⟩:∃ c,bl X=c:=⟨_,rfl⟩
   by_cases h0:X=0
   · have e:aW X by'=(0,0):=by unfold aW;rw [if_neg jS,if_pos h0]
     rw [e];subst h0;rw [bI] at H1 H2 L;rw [dG] at H2;clear e jS HR hbs hcc;go_enter Tryz.func137,Tryz.ntmps137;go_wp2_with fail;refine H1.o.mono ?_;rintro r w1 ⟨rfl,rfl⟩;go_wp2_with fail;refine H2.o.mono ?_;rintro r w1 ⟨rfl,rfl⟩;go_wp2_with fail;refine L.o.mono ?_;rintro r w1 ⟨rfl,rfl⟩;go_wp2
     go_ret2
     exact ⟨⟨_,rfl,Nt.nil _ _⟩,aD _ _⟩
   · have hcp:=dI X h0;have hlt:=il X;rw [hcc] at hcp hbs H2 hlt;have hcne:((c:Int)==0)=false:=by simp;omega
     by_cases hneg:by'<0
     · obtain ⟨d,hd⟩:∃ d:Nat,(d:Int)=-by':=⟨(-by').toNat,af⟩
       have e:aW X by'=(X/2^d,0):=by
        unfold aW;rw [if_neg jS,if_neg h0,if_pos hneg,<-hd,ma]
       rw [e]
       by_cases hbig2:by'<=-(c:Int)
       · have e2:X/2^d=0:=gQ (iC hlt (fB au af));rw [e2];clear e e2 jS HR hcc hlt hd h0;go_enter Tryz.func137,Tryz.ntmps137;go_wp2_with fail;refine H1.o.mono ?_;rintro r w1 ⟨rfl,rfl⟩;go_wp2_with fail;refine H2.o.mono ?_;rintro r w1 ⟨rfl,rfl⟩;go_wp2_with fail;refine L.o.mono ?_;rintro r w1 ⟨rfl,rfl⟩;go_wp2
         go_ret2
         exact ⟨⟨_,rfl,Nt.nil _ _⟩,aD _ _⟩
       · obtain ⟨jJ,hl1⟩:=HR.o;have D0:=vR (ws X) ao _ cap B d (d/32) (d%32) w rfl af af af af af (dz X) jJ hB;rw [aj] at D0;have D:=hid D0;have hgt:-(c:Int)<by':=af
         have hd':-by'=(d:Int):=hd.symm
         clear e jS HR hcc hlt h0 jJ hl1 D0 hbig2 hd;go_enter Tryz.func137,Tryz.ntmps137;go_wp2_with fail;refine H1.o.mono ?_;rintro r w1 ⟨rfl,rfl⟩;go_wp2_with fail;refine H2.o.mono ?_;rintro r w1 ⟨rfl,rfl⟩;go_wp2_with fail;refine L.o.mono ?_;rintro r w1 ⟨rfl,rfl⟩;go_wp2_with fail
         try rw [hd']
         refine D.o.mono ?_;rintro r w2 ⟨v,rfl,hN,hb⟩;have HN:=(aJ hN hb);clear hN hb D;go_wp2
         go_ret2
         exact ⟨⟨_,rfl,HN.o.1⟩,HN.o.2⟩
     · obtain ⟨d,rfl⟩:∃ d:Nat,by'=(d:Int):=⟨by'.toNat,af⟩
       by_cases Mh:262144-(c:Int)<(d:Int)
       · have e:aW X (d:Int)=(0,2):=by unfold aW;rw [if_neg jS,if_neg h0,if_neg hneg,hcc,if_pos Mh]
         rw [e];clear e jS HR hcc hlt h0 hneg;go_enter Tryz.func137,Tryz.ntmps137;go_wp2_with fail;refine H1.o.mono ?_;rintro r w1 ⟨rfl,rfl⟩;go_wp2_with fail;refine H2.o.mono ?_;rintro r w1 ⟨rfl,rfl⟩;go_wp2_with fail;refine L.o.mono ?_;rintro r w1 ⟨rfl,rfl⟩;go_wp2
         go_ret2
         exact ⟨⟨_,rfl,Nt.nil _ _⟩,aD _ _⟩
       · have e:aW X (d:Int)=(X*2^d,0):=by unfold aW;rw [if_neg jS,if_neg h0,if_neg hneg,hcc,if_neg Mh,ma]
         rw [e];obtain ⟨jJ,hl1⟩:=HR.o;have D0:=zz (ws X) ao _ cap B d (d/32) (d%32) w rfl af af af (by unfold LG at jS;omega) (dz X) jJ hB;rw [aj] at D0;have D:=hid D0;have hle:(d:Int)<=262144-(c:Int):=af
         have hleb:decide (262144-(c:Int)<(d:Int))=false:=decide_eq_false af;clear e jS HR hcc hlt h0 jJ hl1 D0 Mh hneg;go_enter Tryz.func137,Tryz.ntmps137;go_wp2_with fail;refine H1.o.mono ?_;rintro r w1 ⟨rfl,rfl⟩;go_wp2_with fail;refine H2.o.mono ?_;rintro r w1 ⟨rfl,rfl⟩;go_wp2_with fail;refine L.o.mono ?_;rintro r w1 ⟨rfl,rfl⟩;go_wp2_with fail;refine D.o.mono ?_;rintro r w2 ⟨v,rfl,hN,hb⟩;have HN:=(aJ hN hb);clear hN hb D;go_wp2
         go_ret2
         exact ⟨⟨_,rfl,HN.o.1⟩,HN.o.2⟩
theorem jZ (w:World) (lo:Nat) (v:Value) (n:Nat) (xs src:List Nat) (ao:Option Addr) (m c B:Nat) (ty:TypeId) (hown:w.ownsRow lo 51 1 v n (xs.map U)) (hm:m=src.length) (hR:Rd B w ao src)
 (hnil:ao=none->c=0) (hbig:n+m<=35184372088832) (hlo:lo<=w.heap.size) :
 ∃ v' w',(Builtin.append_ #[23,23] ty #[v,.slice ao m c]).run Tryz.prog w=.ok v' w'/\w'.ownsRow lo 51 1 v' (n+m) ((xs++src).map U)/\w.grownBy w' v.ownBlock:=by
 obtain ⟨i0,hi,hz0,hz1,hz2⟩:=info_parts Tryz.D5;subst hm;rcases hao:ao with _|a
 · have h0:src=[]:=by
    by_cases h:src=[]
    · exact h
    · obtain ⟨b,off,_,e,_⟩:=hR h;rw [hao] at e;cases e
   subst h0;have hc:=hnil hao;subst hc;exact ⟨v,w,run_append_owned_none (P:=Tryz.prog) w lo 23 ty 51 i0 1 Tryz.underlying23 hi v n _ hown,by simpa using hown,World.grownBy.refl _ _⟩
 · obtain ⟨v',w',h1,h2,h3,_⟩:=run_append_own (P:=Tryz.prog) w lo 23 ty 51 i0 (.int .u32 0) 1 4 Tryz.underlying23 hi hz0 hz1 hz2 rfl au v n (xs.map U) hown a src.length c (src.map U) aO (by
    intro j u hj;have hj2:j<src.length:=by have:=(List.getElem?_eq_some_iff.1 hj).1;simpa using this
    obtain ⟨b,off,_,e,hc⟩:=hR (by intro e;subst e;simp at hj2);rw [hao] at e
    cases e
    have hadd:(⟨b,off,none⟩:Addr).add j=⟨b,off+j,none⟩:=by unfold Addr.add;split <;> simp_all
    rw [hadd,hc j hj2];simp [hj2,U] at hj
    simp [hj2,<-hj]) (by
    intro u hu;obtain ⟨x,_,rfl⟩:=A8.1 hu
    rfl) (by unfold maxLen;omega) af hlo
   exact ⟨v',w',h1,by rw [y8];exact h2,h3⟩
theorem wpList_append_run {w:World}{ops:Array Oper}{rest:List Oper}{o:Oper}{a:Act}{Q:Exit->Act->World->Prop}(hgd:o.guard=none) (s x:Operand)
 (ho:o.op=.call { callee:=.builtin .append,args:=#[s,x],argTypes:=#[23,23] }) (v u:Value) (hs:a.eval s=v) (hx:a.eval x=u) (v':Value) (w':World)
 (hrun:(Builtin.append_ #[23,23] o.type #[v,u]).run Tryz.prog w=.ok v' w') (h:wpList Tryz.prog ops Q rest (a.put o.dst v') w'):wpList Tryz.prog ops Q (o::rest) a w:=by
 refine wpList_plain hgd fun K hK=>?_;unfold Oper.wp;simp [execOp,ho,resolve,invoke,builtin,hs,hx,hrun,Result.andThen];exact hK _ _ h
theorem jB (xs:List Nat) (ao:Option Addr) (n cap B:Nat) (w:World) (hn:n=xs.length) (hc:n<=cap) (hm:n<=35184372088832) (hx:Wf xs) (hR:Rd B w ao xs) (hnil:ao=none->cap=0) :
 Calls Tryz.prog 95 #[.slice ao n cap] w fun r w'=>∃ v,r=.returned v/\Nt w.heap.size w' v (val xs)/\Below w.heap.size w w':=by
 have S:=hid (nV xs ao n cap B w hn af hR);have hl:=jH xs;have hf:=mV xs hx;obtain ⟨v',w',hap,hown,hgrow⟩:=jZ w w.heap.size (.slice none 0 0) 0 [] (xs.take (nl xs)) ao (nl xs) cap B 23 (Bj _ _ _ _) (by rw [gz];omega) (hR.take _) hnil af (aC _)
 have hN:Nt w.heap.size w' v' (val xs):=by
  unfold Nt;rw [<-hf];simpa [jf hl] using hown
 have hb:Below w.heap.size w w':=(aD _ _).grown hgrow (aC _) (fun k hk=>by simp [Value.ownBlock] at hk);have HN:=(aJ hN hb);obtain ⟨k,hk⟩:∃ k,nl xs=k:=⟨_,rfl⟩;rw [hk] at S hap hl;have hkn:k<=n:=af
 have HZ:Aside (n=0->val xs=0):=by intro h0;have:xs=[]:=DN.1 af;rw [this];rfl
 clear hN hb hown hgrow hf hl hn hx hR hk;rcases hao:ao with _|a
 · have hc0:=hnil hao;subst hc0;subst hao;obtain rfl:n=0:=af
   obtain rfl:k=0:=af
   go_enter Tryz.func95,Tryz.ntmps95;go_wp2_with fail;refine S.o.mono ?_;rintro r w1 ⟨rfl,rfl⟩;go_wp2;go_ret;rw [HZ.o (by trivial)];exact ⟨_,rfl,Nt.nil _ _,aD _ _⟩
 · subst hao;go_enter Tryz.func95,Tryz.ntmps95;go_wp2_with fail;refine S.o.mono ?_;rintro r w1 ⟨rfl,rfl⟩;have IV:=hid hap;clear hap
   go_wp2_with (at_builtin;refine wpList_append_run rfl (.tmp 4) (.tmp 8) rfl _ _ rfl rfl _ _ IV.o ?_)
   go_ret;exact ⟨_,rfl,HN.o.1,HN.o.2⟩
theorem Qo (x:Nat) (h:x≠0):bl x=bl (x/2)+1:=by
 by_cases h1:x=1
 · subst h1;decide
 · have hx2:x/2≠0:=af
   obtain ⟨c,hc⟩:∃ c,bl (x/2)=c+1:=⟨bl (x/2)-1,by have:=dI _ hx2;omega⟩;have a:=gT _ hx2;have b:=il (x/2);rw [hc] at a b |-;rw [kD] at a;exact Bt x (c+1) (by rw [gY];omega) (by rw [gY];omega)
theorem og (xs:List Nat) (ao:Option Addr) (n cap B:Nat) (w:World) (hn:n=xs.length) (hm:n<=70368744177664) (hx:Wf xs) (hR:Rd B w ao xs) :
 Calls Tryz.prog 177 #[.slice ao n cap] w fun r w'=>r=.returned (.int .i64 (bl (val xs):Nat))/\w'=w:=by
 have H:=hid (nV xs ao n cap B w hn af hR);have hl:=jH xs;rcases hk:nl xs with _|k
 · rw [(iU xs).1 hk,dG];rw [hk] at H;clear hk hl hn hx hR;go_enter Tryz.func177,Tryz.ntmps177;go_wp2_with fail;refine H.o.mono ?_;rintro r w1 ⟨rfl,rfl⟩;go_wp2;go_ret;exact ⟨rfl,rfl⟩
 · have hbw:=Bz xs hx k hk;rw [hk] at H hl;obtain ⟨e,hlt,h0,hl2⟩:=vP xs hx k hk;obtain ⟨b,off,hB,rfl,hcell⟩:=hR (by intro e;subst e;simp at hl);have hck:=hcell k hl2;obtain ⟨t,ht⟩:∃ t,xs.getD k 0=t:=⟨_,rfl⟩;have htl:t<4294967296:=ht ▸ hx.get k;rw [ht] at hck hbw;have hb:=ve t htl;have hkn:k<n:=af
   have HB:=(aJ hbw hb);clear hk hl hn hx hR e hlt h0 hl2 hcell ht hbw hb;go_enter Tryz.func177,Tryz.ntmps177;go_wp2_with fail;refine H.o.mono ?_;rintro r w1 ⟨rfl,rfl⟩;go_wp2
   go_loopg [4,5] t (fun gk bv xv wr=>∃ c:Nat,bv=.int .i64 (c:Nat)/\xv=.int .u32 (gk:Nat)/\gk<=t/\c<=32*k+32/\wr=w1/\Aside (c+bl gk=32*k+bl t))
   case atStart=>exact ⟨32*k,by first | go_num | (congr 1;omega),rfl,aC _,af,rfl,rfl⟩
   case round =>
    obtain ⟨c,rfl,rfl,hgt,hc,rfl,HA⟩:=hrel
    by_cases hg0:gk=0
    · subst hg0;go_wp2;go_ret;have h1:=HA.o;rw [dG,gM] at h1;rw [HB.o.1,<-h1];exact ⟨rfl,rfl⟩
    · have hg1:(0:Int)<(gk:Int):=af
      obtain ⟨g2,hg2⟩:=ah (gk/2);have e2:(gk:Int)/2=(g2:Int):=af
      have HX:=(aJ hg2 hg0);clear hg2 hg0;go_wp2;go_roundg g2
      case measure=>obtain ⟨hg2,hg0⟩:=HX.o;omega
      case rel =>
       obtain ⟨hg2,hg0⟩:=HX.o;have h1:=HA.o;have h2:=Qo gk hg0;rw [<-hg2] at h2;have h3:=HB.o.2;exact ⟨c+1,by go_num,by first | rfl | rw [e2],af,af,rfl,by rw [Aside];omega⟩
structure Arg (w:World) (a:Option Addr) (n c:Nat) (xs:List Nat):Prop where
 len:n=xs.length
 cap:n<=c
 big:n<=35184372088832
 wf:Wf xs
 rd:Rd w.heap.size w a xs
 nil:a=none->c=0
theorem Arg.below {w w':World}{a:Option Addr}{n c:Nat}{xs:List Nat}(h:Arg w a n c xs) (hb:Below w.heap.size w w'):Arg w' a n c xs :=
 ⟨h.len,h.cap,h.big,h.wf,(h.rd.below hb).mono hb.size,h.nil⟩
theorem Nt.arg {lo:Nat}{w:World}{v:Value}{X:Nat}(h:Nt lo w v X) (hs:(ws X).length<=35184372088832):∃ a c,v=.slice a (ws X).length c/\Arg w a (ws X).length c (ws X):=by
 have h':=h;obtain ⟨a,c,rfl,h1,h2,h3⟩:=h.shape;refine ⟨a,c,rfl,rfl,h1,hs,dz X,h3,fun e=>?_⟩;rcases h'.2 with ⟨e1,_⟩|⟨g,cap,cur,e1,_⟩
 · simp only [Value.slice.injEq] at e1;exact e1.2.2
 · simp only [Value.slice.injEq] at e1;rw [e1.1] at e;cases e
theorem IW {X Y i:Nat}(h1:X<pw i) (h2:Y<pw i):X+Y<pw (i+1):=by rw [bK];omega
theorem zI {lo:Nat}{w:World}{r:Ending}{a:Nat×Int}{V:Nat}(h:One lo w r a) (e:a=(V,0)):∃ v,r=.returned (.tuple #[v,.int .i64 0])/\Nt lo w v V:=by
 subst e;exact h
theorem Qp {w:World}{a b:Option Addr}{n c m d:Nat}{xs ys:List Nat}{V:Nat}(h1:Arg w a n c xs) (h2:Arg w b m d ys) (e:jR (val xs) (val ys)=(V,0)) :
 Calls Tryz.prog 99 #[.slice a n c,.slice b m d] w fun r w'=>∃ v,r=.returned (.tuple #[v,.int .i64 0])/\Nt w.heap.size w' v V/\Below w.heap.size w w' :=
 (Gx xs ys a b n c m d w.heap.size w h1.len h2.len h1.cap h2.cap (by have:=h1.big;omega) (by have:=h2.big;omega) h1.wf h2.wf h1.rd h2.rd (aC _)).mono
  fun r w' ⟨ho,hb⟩=>by obtain ⟨v,h3,h4⟩:=zI ho e;exact ⟨v,h3,h4,hb⟩
theorem vo {w:World}{a b:Option Addr}{n c m d:Nat}{xs ys:List Nat}{V:Nat}(h1:Arg w a n c xs) (h2:Arg w b m d ys) (e:uH (val xs) (val ys)=(V,0)) :
 Calls Tryz.prog 141 #[.slice a n c,.slice b m d] w fun r w'=>∃ v,r=.returned (.tuple #[v,.int .i64 0])/\Nt w.heap.size w' v V/\Below w.heap.size w w' :=
 (Gw xs ys a b n c m d w.heap.size w h1.len h2.len h1.cap h2.cap (by have:=h1.big;omega) (by have:=h2.big;omega) h1.wf h2.wf h1.rd h2.rd (aC _)).mono
  fun r w' ⟨ho,hb⟩=>by obtain ⟨v,h3,h4⟩:=zI ho e;exact ⟨v,h3,h4,hb⟩
theorem vw {w:World}{a b:Option Addr}{n c m d:Nat}{xs ys:List Nat}{V:Nat}(h1:Arg w a n c xs) (h2:Arg w b m d ys) (e:nY (val xs) (val ys)=(V,0)) :
 Calls Tryz.prog 144 #[.slice a n c,.slice b m d] w fun r w'=>∃ v,r=.returned (.tuple #[v,.int .i64 0])/\Nt w.heap.size w' v V/\Below w.heap.size w w' :=
 (Qk xs ys a b n c m d w.heap.size w h1.len h2.len h1.cap h2.cap (by have:=h1.big;omega) (by have:=h2.big;omega) h1.wf h2.wf h1.rd h2.rd (aC _)).mono
  fun r w' ⟨ho,hb⟩=>by obtain ⟨v,h3,h4⟩:=zI ho e;exact ⟨v,h3,h4,hb⟩
theorem fA {w:World}{a:Option Addr}{n c:Nat}{xs:List Nat}{V:Nat}(by':Int) (h1:Arg w a n c xs) (e:aW (val xs) by'=(V,0)) (hb0:-9223372036854775808<=by') (hb1:by'<=9223372036854775807) :
 Calls Tryz.prog 137 #[.slice a n c,.int .i64 by'] w fun r w'=>∃ v,r=.returned (.tuple #[v,.int .i64 0])/\Nt w.heap.size w' v V/\Below w.heap.size w w' :=
 (yx xs a n c w.heap.size by' w h1.len h1.cap (by have:=h1.big;omega) h1.wf h1.rd (aC _) hb0 hb1).mono
  fun r w' ⟨ho,hb⟩=>by obtain ⟨v,h3,h4⟩:=zI ho e;exact ⟨v,h3,h4,hb⟩
theorem zJ {w:World}{a b:Option Addr}{n c m d:Nat}{xs ys:List Nat}(h1:Arg w a n c xs) (h2:Arg w b m d ys) (z:Int) (e:aY (val xs) (val ys)=z) :
 Calls Tryz.prog 162 #[.slice a n c,.slice b m d] w fun r w'=>r=.returned (.int .i64 z)/\Below w.heap.size w w':=by
 have:=zH xs ys a b n c m d w.heap.size w h1.len h2.len h1.cap h2.cap (by have:=h1.big;omega) (by have:=h2.big;omega) h1.wf h2.wf h1.rd h2.rd;rw [e] at this;exact this
theorem vz {X Y V:Nat}(h3:¬ LG V) (e:X+Y=V):uH X Y=(V,0):=by subst e;unfold uH;rw [if_neg h3]
theorem vB {X Y V:Nat}(h1:¬ LG X) (h2:¬ LG Y) (e:V+Y=X):nY X Y=(V,0):=by unfold nY;rw [if_neg (by simp [h1,h2]),if_neg af];congr 1;omega
def Bl (w:World) (g T:Nat) (C:List Value):Prop:=w.heap[g]?=some (.cells C.toArray T (0,0))
theorem Bl.lt {w:World}{g T:Nat}{C:List Value}(h:Bl w g T C):g<w.heap.size:=(gD.1 h).1
theorem Bl.cell {w:World}{g T:Nat}{C:List Value}(h:Bl w g T C) (i:Nat) (v:Value) (hv:C[i]?=some v):w.cell? ⟨g,i,none⟩=some v:=by
 unfold Bl at h;simp [World.cell?,h,hv]
theorem Bl.frozen {w:World}{g T:Nat}{C:List Value}(h:Bl w g T C) (i:Nat):w.frozen? ⟨g,i,none⟩=false:=by
 unfold Bl at h;simp [World.frozen?,h]
theorem Bl.set {w:World}{g T:Nat}{C:List Value}(h:Bl w g T C) (i:Nat) (v:Value):Bl (w.setCell ⟨g,i,none⟩ v) g T (C.set i v):=by
 unfold Bl at h |-;simp [World.setCell,lC,h]
theorem Bl.below {w w':World}{g T B:Nat}{C:List Value}(h:Bl w g T C) (hb:Below B w w') (hg:g<B):Bl w' g T C:=by
 unfold Bl at h |-;rw [hb.block g hg];exact h
theorem Bl.but {w w':World}{g g' T:Nat}{C:List Value}(h:Bl w g T C) (hb:But g' w w') (hg:g≠g'):Bl w' g T C:=by
 unfold Bl at h |-;rw [hb.block g (Bl.lt h) hg];exact h
theorem aK (w:World) (o:Obj):Below w.heap.size w (w.alloc o):=(aD _ _).alloc (aC _) _
theorem Bl.alloc {w:World}{g T:Nat}{C:List Value}(h:Bl w g T C) (o:Obj):Bl (w.alloc o) g T C:=by
 unfold Bl at h |-;rw [(aK w o).block g (Bl.lt h)];exact h
theorem Bl.new (w:World) (T:Nat) (C:List Value):Bl (w.alloc (.cells C.toArray T)) w.heap.size T C:=by
 unfold Bl;rw [ib]
end
namespace B
open Ieee
def val (f:Format) (r:Nat):Nat:=if r<f.binade then r else (f.binade+r%f.binade)*2^(r/f.binade-1)
theorem jC (f:Format):0<f.binade:=bu _
theorem val_succ (f:Format) (r:Nat):val f (r+1)=val f r+2^(r/f.binade-1):=by
 have hb:=jC f;unfold val;generalize hB:f.binade=B at *
 by_cases h:r<B
 · rw [if_pos h,gQ h]
   by_cases h1:r+1<B
   · rw [if_pos h1]
   · have e:r+1=B:=af
     rw [if_neg h1,e,Nat.mod_self,Nat.div_self hb];simp
 · have h1:¬ r+1<B:=af
   rw [if_neg h,if_neg h1]
   have hq:1<=r/B:=by
    have:=Nat.div_le_div_right (c:=B) (za h);rw [Nat.div_self hb] at this;exact this
   have hm:=nD r hb;have hd:=pK r B;generalize r/B=q at *;generalize hmm:r%B=m at *;obtain ⟨q,rfl⟩:∃ k,q=k+1:=⟨q-1,af⟩
   by_cases h2:m+1<B
   · have e:r+1=B*(q+1)+(m+1):=af
     have e1:(r+1)%B=m+1:=by rw [e,Nat.mul_add_mod,lD h2]
     have e2:(r+1)/B=q+1:=by rw [e,Nat.mul_add_div hb,gQ h2]
     rw [e1,e2,kD,<-pJ,fF,iD]
   · have hm1:m+1=B:=af
     have e:r+1=B*(q+2):=by rw [show q+2=(q+1)+1 from rfl,Bb];omega
     have e1:(r+1)%B=0:=by rw [e,Nat.mul_mod_right]
     have e2:(r+1)/B=q+2:=by rw [e,xX _ hb]
     rw [e1,e2];have:B+m=2*B-1:=af
     have h3:(B+m)*2^q+2^q=(2*B)*2^q:=by
      rw [<-Nat.succ_mul];congr 1;omega
     show (B+0)*2^(q+1)=(B+m)*2^q+2^q;rw [h3,gY,gM,df 2 B,aN,df 2]
theorem ug (f:Format) (r:Nat):val f r<val f (r+1):=by
 rw [val_succ];exact Nat.lt_add_of_pos_right (bu _)
theorem dh (f:Format) {r s:Nat}(h:r<s):val f r<val f s:=by
 induction s with
 | zero=>omega
 | succ s ih =>
   by_cases e:r=s
   · subst e;exact ug f r
   · exact Nat.lt_trans (ih af) (ug f s)
theorem iq (f:Format) {r s:Nat}:val f r<val f s↔r<s:=by
 constructor
 · intro h
   by_cases e:r<s
   · exact e
   · by_cases e2:r=s
     · subst e2;omega
     · have:=dh f (show s<r by omega);omega
 · exact dh f
theorem val_inj (f:Format) {r s:Nat}(h:val f r=val f s):r=s:=by
 by_cases e:r<s
 · have:=dh f e;omega
 · by_cases e2:s<r
   · have:=dh f e2;omega
   · omega
theorem val_zero (f:Format):val f 0=0:=by
 unfold val;rw [if_pos (jC f)]
def sg (s:Bool) (r:Nat):Int:=if s then -(r:Int) else r
theorem yz (f:Format) (s t:Bool) (r u:Nat):sg s (val f r)<sg t (val f u)↔sg s r<sg t u:=by
 have h1:=@iq f r u;have h2:=@iq f u r;have z:=val_zero f;have h3:=@iq f 0 r;have h4:=@iq f 0 u
 cases s <;> cases t <;> simp only [sg,if_true,if_false,fq] <;> omega
theorem IX (s:Bool) (m k:Nat):signed s m k=sg s (m*2^k):=by
 unfold signed sg;rw [zb]
theorem mq (f:Format) (s:Bool) (r:Nat) (hr:r<f.infRung) (hs:f.infRung<f.signWeight) :
 ∃ m:Nat,∃ k:Nat,f.read (f.word s r)=.number s m (f.leastPlace+k)/\m*2^k=val f r:=by
 have e1:(f.word s r/f.signWeight%2==1)=s:=by
  unfold Format.word
  cases s
  · simp only [fq,if_false];rw [gQ af];rfl
  · simp only [if_true];rw [Nat.add_div_left _ af,gQ af];rfl
 have e2:f.word s r%f.signWeight=r:=by
  unfold Format.word
  cases s
  · simp only [fq,if_false];exact lD af
  · simp only [if_true];rw [Nat.add_mod_left];exact lD af
 unfold Format.read;simp only [e1,e2];unfold val
 by_cases h:r<f.binade
 · rw [if_pos h,if_pos h];exact ⟨r,0,aO,aO⟩
 · rw [if_neg h,if_neg h,if_pos hr];exact ⟨_,_,rfl,rfl⟩
theorem qR (f:Format) (s:Bool) (hs:f.infRung<f.signWeight) (hb:f.binade<=f.infRung) :
 f.read (f.word s f.infRung)=.infinity s:=by
 have e1:(f.word s f.infRung/f.signWeight%2==1)=s:=by
  unfold Format.word
  cases s
  · simp only [fq,if_false];rw [gQ af];rfl
  · simp only [if_true];rw [Nat.add_div_left _ af,gQ af];rfl
 have e2:f.word s f.infRung%f.signWeight=f.infRung:=by
  unfold Format.word
  cases s
  · simp only [fq,if_false];exact lD af
  · simp only [if_true];rw [Nat.add_mod_left];exact lD af
 unfold Format.read;simp only [e1,e2];rw [if_neg af,if_neg af,if_pos trivial]
theorem Mi (f:Format) (w:Nat) (h:f.infRung<w%f.signWeight) (hb:f.binade<=f.infRung) :
 f.read w=.nan (w/f.signWeight%2==1) (w%f.signWeight-f.infRung):=by
 unfold Format.read;simp only;rw [if_neg af,if_neg af,if_neg af]
theorem vU (a b c d:Int) (h1:a<b↔c<d) (h2:b<a↔d<c):compare a b=compare c d:=by
 by_cases x:a<b
 · rw [tV.2 x,tV.2 (h1.1 x)]
 · by_cases y:b<a
   · rw [tX.2 y,tX.2 (h2.1 y)]
   · have e1:a=b:=af
     have e2:c=d:=by
      have n1:=mt h1.2 x;have n2:=mt h2.2 y;omega
     rw [tY.2 e1,tY.2 e2]
theorem Mj (s:Bool) (a k:Nat):sg s (a*k)=sg s a*(k:Int):=by
 unfold sg;cases s <;> simp [Int.neg_mul]
theorem IY (s t:Bool) (m n j k:Nat) (p:Int) :
 Datum.order (.number s m (p+j)) (.number t n (p+k))=some (compare (sg s (m*2^j)) (sg t (n*2^k))):=by
 unfold Datum.order;simp only [IX];congr 1;have hb:∃ c:Nat,min (p+(j:Int)) (p+(k:Int))=p+c:=⟨min j k,af⟩;obtain ⟨c,hc⟩:=hb;have hj:(p+(j:Int)-min (p+(j:Int)) (p+(k:Int))).toNat=j-c:=by rw [hc];omega
 have hk:(p+(k:Int)-min (p+(j:Int)) (p+(k:Int))).toNat=k-c:=by rw [hc];omega
 have cj:c<=j:=af
 have ck:c<=k:=af
 rw [hj,hk];have ej:m*2^j=m*2^(j-c)*2^c:=by rw [aN,<-aL,ze cj]
 have ek:n*2^k=n*2^(k-c)*2^c:=by rw [aN,<-aL,ze ck]
 rw [ej,ek,Mj s (m*2^(j-c)),Mj t (n*2^(k-c))];have hp:(0:Int)<((2^c:Nat):Int):=by exact_mod_cast bu c
 refine vU _ _ _ _ ?_ ?_
 · exact ⟨fun h=>zf h hp,fun h=>zg h (Bc hp)⟩
 · exact ⟨fun h=>zf h hp,fun h=>zg h (Bc hp)⟩
theorem Ej (f:Format) (hs:f.infRung<f.signWeight) (hb:f.binade<=f.infRung) (s t:Bool) (r u:Nat) (hr:r<=f.infRung) (hu:u<=f.infRung) :
 f.order (f.word s r) (f.word t u)=some (compare (sg s r) (sg t u)):=by
 have hB:=jC f;unfold Format.order
 by_cases r1:r=f.infRung
 · by_cases u1:u=f.infRung
   · subst r1 u1;rw [qR f s hs hb,qR f t hs hb];unfold Datum.order;simp only;congr 1
     cases s <;> cases t <;> simp only [sg,kG,kH,if_true,if_false,fq]
     · rw [tY.2 rfl];rfl
     · rw [tX.2 af];rfl
     · rw [tV.2 af];rfl
     · rw [tY.2 rfl];rfl
   · obtain ⟨n,k,e,hv⟩:=mq f t u af hs;subst r1;rw [qR f s hs hb,e];unfold Datum.order;simp only
     cases s <;> cases t <;> simp only [sg,if_true,if_false,fq] <;>
      first | rw [tX.2 af] | rw [tV.2 af]
 · obtain ⟨m,j,e,hv⟩:=mq f s r af hs
   by_cases u1:u=f.infRung
   · subst u1;rw [qR f t hs hb,e];unfold Datum.order;simp only
     cases s <;> cases t <;> simp only [sg,if_true,if_false,fq] <;>
      first | rw [tX.2 af] | rw [tV.2 af]
   · obtain ⟨n,k,e2,hv2⟩:=mq f t u af hs;rw [e,e2,IY,hv,hv2];congr 1;exact vU _ _ _ _ (yz f s t r u) (yz f t s u r)
def TT (n g:Nat):Nat:=n/g+(decide (g<2*(n%g)) || (g==2*(n%g)&&n/g%2==1)).toNat
theorem BK (neg:Bool) (n drop:Nat):Toward.even.cut neg n drop=TT n (2^drop):=by
 unfold Toward.cut TT;simp only [zb,iD]
 by_cases h:drop<=n.log2+2
 · rw [jf h]
 · rw [Nat.min_eq_right af];have hn:n<2^(n.log2+1):=Nat.lt_log2_self;have h1:n<2^(n.log2+2):=by rw [gY];omega
   have h2:2^(n.log2+2)<=2^drop:=fB af af;have h3:2*n<2^(n.log2+2):=by rw [gY];omega
   rw [gQ h1,lD h1,gQ (show n<2^drop by omega),lD (show n<2^drop by omega)];have a1:decide (2^(n.log2+2)<2*n)=false:=by simp;omega
   have a2:decide (2^drop<2*n)=false:=by simp;omega
   simp only [a1,a2,Nat.zero_mod];simp
theorem yA (n g:Nat) (hg:0<g):TT (n*g) g=n:=by
 unfold TT;rw [Nat.mul_div_cancel _ hg,Nat.mul_mod_left];have:decide (g<2*0)=false:=by simp
 have h2:(g==2*0)=false:=by simp;omega
 rw [this,h2];simp
theorem Gy (n:Nat):TT n 1=n:=by
 have:=yA n 1 af;rwa [fo] at this
theorem xJ (f:Format) (neg:Bool) (mag k r:Nat) (hr:r<f.infRung) (h:mag*2^k=val f r) :
 f.nearest neg mag (f.leastPlace+k)=f.word neg r:=by
 unfold Format.nearest
 by_cases hm:mag=0
 · rw [if_pos hm];have:val f r=val f 0:=by rw [val_zero,<-h,hm,eQ]
   rw [val_inj f this]
 · rw [if_neg hm];simp only [BK,zb];have hl:=(Nat.log2_eq_iff hm (k:=mag.log2)).1 rfl;generalize mag.log2=L at *;have hB:f.binade=2^f.fractionBits:=rfl;have hb:=jC f;unfold val at h
   by_cases hlt:r<f.binade
   · rw [if_pos hlt] at h
     have h1:2^(L+k)<2^f.fractionBits:=by
      rw [aL,<-hB];exact gN (fO _ hl.1) af
     have h2:=(jw (a:=2) af).1 h1;have e:max (f.leastPlace+(k:Int)+(L:Int)-(f.fractionBits:Int)) f.leastPlace=f.leastPlace:=af
     rw [e];have e1:(f.leastPlace+(k:Int)-f.leastPlace).toNat=k:=af
     have e2:(f.leastPlace-(f.leastPlace+(k:Int))).toNat=0:=af
     have e3:(f.leastPlace-f.leastPlace).toNat=0:=af
     rw [e1,e2,e3,h,fC,Gy,eQ,dS,jf af]
   · rw [if_neg hlt] at h
     have hq:1<=r/f.binade:=by
      have:=Nat.div_le_div_right (c:=f.binade) (za hlt);rw [Nat.div_self hb] at this;exact this
     have hmm:=nD r hb;have hd:=pK r f.binade;generalize r/f.binade=q at *;generalize r%f.binade=m at *;obtain ⟨q,rfl⟩:∃ j,q=j+1:=⟨q-1,af⟩;rw [kD] at h
     -- the U5
     have lo1:2^(L+k)<=mag*2^k:=by rw [aL];exact fO _ hl.1
     have hi1:mag*2^k<2^(L+1+k):=by rw [aL];exact fD hl.2 (bu _)
     have lo2:2^(f.fractionBits+q)<=(f.binade+m)*2^q:=by rw [aL];exact fO _ af
     have hi2:(f.binade+m)*2^q<2^(f.fractionBits+1+q):=by
      rw [aL,gY];exact fD af (bu _)
     have c1:=(jw (a:=2) af).1 (show 2^(L+k)<2^(f.fractionBits+1+q) by omega);have c2:=(jw (a:=2) af).1 (show 2^(f.fractionBits+q)<2^(L+1+k) by omega);have cL:L+k=f.fractionBits+q:=af
     have e:max (f.leastPlace+(k:Int)+(L:Int)-(f.fractionBits:Int)) f.leastPlace=f.leastPlace+q:=af
     rw [e];have e3:(f.leastPlace+(q:Int)-f.leastPlace).toNat=q:=af
     rw [e3]
     have fin:q*f.binade+(f.binade+m)=r:=by
      rw [<-hd,Bb,df q];omega
     by_cases hk:q<=k
     · have e1:(f.leastPlace+(k:Int)-(f.leastPlace+(q:Int))).toNat=k-q:=af
       have e2:(f.leastPlace+(q:Int)-(f.leastPlace+(k:Int))).toNat=0:=af
       have hh:mag*2^(k-q)=f.binade+m:=by
        have:mag*2^(k-q)*2^q=(f.binade+m)*2^q:=by
         rw [aN,<-aL,ze hk];exact h
        exact pO (bu _) this
       rw [e1,e2,hh,fC,Gy,fin,jf af]
     · have e1:(f.leastPlace+(k:Int)-(f.leastPlace+(q:Int))).toNat=0:=af
       have e2:(f.leastPlace+(q:Int)-(f.leastPlace+(k:Int))).toNat=q-k:=af
       have hh:mag=(f.binade+m)*2^(q-k):=by
        have:mag*2^k=(f.binade+m)*2^(q-k)*2^k:=by
         rw [aN,<-aL,ze af];exact h
        exact pO (bu _) this
       rw [e1,e2,fC,fo,hh,yA _ _ (bu _),fin,jf af]
end B
namespace B
def bw (s:Bool) (e f:Nat):Nat:=s.toNat*9223372036854775808+e*4503599627370496+f
theorem Xd (b:Nat) (hb:b<18446744073709551616):∃ s e f,e<2048/\f<4503599627370496/\b=bw s e f:=by
 refine ⟨decide (9223372036854775808<=b),b%9223372036854775808/4503599627370496,b%4503599627370496,af,af,?_⟩;unfold bw
 by_cases h:9223372036854775808<=b
 · rw [decide_eq_true h];simp only [kG];omega
 · rw [decide_eq_false h];simp only [kH];omega
theorem yB (s:Bool) (e f:Nat) (he:e<2048) (hf:f<4503599627370496):bw s e f<18446744073709551616:=by
 unfold bw;cases s <;> simp only [kG,kH] <;> omega
theorem IZ (n:Int) (h0:0<=n) (h1:n<2^63):IntKind.i64.wrap n=n:=by rw [zx];omega
theorem wraps_u64 (n:Int) (h0:0<=n) (h1:n<2^64):IntKind.u64.wrap n=n:=by
 simp [IntKind.wrap,IntKind.bits,IntKind.signed];omega
theorem Mk (s:Bool) (e f:Nat) (he:e<2048) (hf:f<4503599627370496):bits .and .i64 ((bw s e f:Int)/4503599627370496) 2047=(e:Int):=by
 have hl:=yB s e f he hf;have h:=bits_mask .i64 63 au IZ 11 au ((bw s e f:Int)/4503599627370496) af af;rw [show ((2:Int)^11-1)=2047 from rfl] at h;rw [h];unfold bw;cases s <;> simp only [kG,kH] <;> omega
theorem Qq (s:Bool) (e f:Nat) (he:e<2048) (hf:f<4503599627370496):bits .and .u64 ((bw s e f:Nat):Int) 4503599627370495=(f:Int):=by
 have hl:=yB s e f he hf;have h:=bits_mask .u64 64 au wraps_u64 52 au (bw s e f:Int) af af;rw [show ((2:Int)^52-1)=4503599627370495 from rfl] at h;rw [h];unfold bw;cases s <;> simp only [kG,kH] <;> omega
theorem Qr (s:Bool) (e f:Nat) (he:e<2048) (hf:f<4503599627370496):bits .and .u64 ((bw s e f:Int)/9223372036854775808) 1=(s.toNat:Int):=by
 have hl:=yB s e f he hf;have h:=bits_mask .u64 64 au wraps_u64 1 au ((bw s e f:Int)/9223372036854775808) af af;rw [show ((2:Int)^1-1)=1 from rfl] at h;rw [h];unfold bw;cases s <;> simp only [kG,kH] <;> omega
theorem Qs (f:Nat) (hf:f<4503599627370496):bits .or .u64 (f:Int) 4503599627370496=(f:Int)+4503599627370496:=by
 have hc:bits .or .u64 (f:Int) 4503599627370496=bits .or .u64 4503599627370496 (f:Int):=by simp only [bits,BitVec.or_comm]
 rw [hc,bits_join .u64 64 au wraps_u64 52 4503599627370496 (f:Int) au au au af af af];omega
theorem Qt (x:Int) (h0:0<=x) (h1:x<9223372036854775808):bits .or .u64 x 9223372036854775808=x+9223372036854775808:=by
 have hc:bits .or .u64 x 9223372036854775808=bits .or .u64 9223372036854775808 x:=by simp only [bits,BitVec.or_comm]
 rw [hc,bits_join .u64 64 au wraps_u64 63 9223372036854775808 x au au au h0 af af];omega
def pv (neg:Bool) (c x:Int) (f:Int):Value:=.agg #[.bool neg,.int .i64 c,.int .i64 x,.int .u64 f]
def cls (e f:Nat):Int:=if e=2047 then (if f=0 then 3 else 4) else if e=0 then (if f=0 then 0 else 1) else 2
def xp (e:Nat):Int:=if e=2047 then 0 else if e=0 then -1074 else (e:Int)-1075
def fr (e f:Nat):Int:=if e=2047 then 0 else if e=0 then (f:Int) else (f:Int)+4503599627370496
def ng (s:Bool) (e f:Nat):Bool:=if e=2047/\f≠0 then false else s
def splitV (s:Bool) (e f:Nat):Value:=pv (ng s e f) (cls e f) (xp e) (fr e f)
theorem El (s:Bool) (e f:Nat) (h:e=2047) (h2:((f:Int) != 0)=true):splitV s e f=.agg #[.bool false,.int .i64 4,.int .i64 0,.int .u64 0]:=by
 have:f≠0:=by intro h;subst h;simp at h2
 simp [splitV,pv,ng,cls,xp,fr,h,this]
theorem Em (s:Bool) (e f:Nat) (h:e=2047) (h2:((f:Int) != 0)=false):splitV s e f=.agg #[.bool s,.int .i64 3,.int .i64 0,.int .u64 0]:=by
 have:f=0:=by simp at h2;omega
 simp [splitV,pv,ng,cls,xp,fr,h,this]
theorem xK (s:Bool) (e f:Nat) (h:e=0) (h2:((f:Int)==0)=true):splitV s e f=.agg #[.bool s,.int .i64 0,.int .i64 (-1074),.int .u64 0]:=by
 have:f=0:=by simp at h2;omega
 simp [splitV,pv,ng,cls,xp,fr,h,this]
theorem zK (s:Bool) (e f:Nat) (h:e=0) (h2:((f:Int)==0)=false):splitV s e f=.agg #[.bool s,.int .i64 1,.int .i64 (-1074),.int .u64 f]:=by
 have:f≠0:=by intro h;subst h;simp at h2
 simp [splitV,pv,ng,cls,xp,fr,h,this]
theorem zL (s:Bool) (e f:Nat) (h:e≠2047) (h2:e≠0):splitV s e f=.agg #[.bool s,.int .i64 2,.int .i64 ((e:Int)-1075),.int .u64 ((f:Int)+4503599627370496)]:=by
 simp [splitV,pv,ng,cls,xp,fr,h,h2]
def odd (e f:Nat):Bool:=e==2047&&f != 0
theorem Gz (e f:Nat) (h:odd e f=false):¬ (e=2047/\f≠0):=by
 rintro ⟨h1,h2⟩;simp [odd,h1,h2] at h
theorem Ml (e f:Nat) (h:odd e f=true):e=2047/\f≠0:=by
 simpa [odd] using h
def cb (s:Bool) (e f:Nat):Nat:=if e=2047/\f≠0 then 9221120237041090560 else bw s e f
theorem U6 (s:Bool) (e f:Nat) (he:e<2048) (hf:f<4503599627370496):(bw s e f:Int)%9223372036854775808=(e:Int)*4503599627370496+f:=by
 unfold bw;cases s <;> simp only [kG,kH] <;> omega
theorem xL:Ieee.double.infRung=9218868437227405312:=au
theorem Mm:Ieee.double.signWeight=9223372036854775808:=au
theorem Eo:Ieee.double.binade=4503599627370496:=au
theorem ZE:Ieee.double.infRung<Ieee.double.signWeight:=au
theorem dHb:Ieee.double.binade<=Ieee.double.infRung:=au
theorem zM (s:Bool) (e f:Nat):bw s e f=Ieee.double.word s (e*4503599627370496+f):=by
 unfold bw Ieee.Format.word;rw [Mm]
 cases s <;> simp [pJ]
theorem uh (s:Bool) (e f:Nat) (hf:f<4503599627370496) (h:odd e f=true):Ieee.double.read (bw s e f)=.nan s f:=by
 have h0:e=2047/\f≠0:=by simpa [odd] using h
 have e1:bw s e f%Ieee.double.signWeight=e*4503599627370496+f:=by
  rw [Mm];unfold bw;cases s <;> simp only [kG,kH] <;> omega
 have e2:(bw s e f/Ieee.double.signWeight%2==1)=s:=by
  rw [Mm]
  cases s
  · have:bw false e f/9223372036854775808%2=0:=by unfold bw;simp only [kH];omega
    rw [this];rfl
  · have:bw true e f/9223372036854775808%2=1:=by unfold bw;simp only [kG];omega
    rw [this];rfl
 rw [Mi Ieee.double _ (by rw [e1,xL];omega) dHb,e1,e2,xL,show e*4503599627370496+f-9218868437227405312=f from by omega]
theorem GA (e f:Nat) (he:e<2048) (hf:f<4503599627370496) (h:odd e f=false):e*4503599627370496+f<=Ieee.double.infRung:=by
 rw [xL];have:=Gz e f h;omega
def pl (s:Bool) (e f:Nat):Int:=sg s (e*4503599627370496+f)
theorem ord (s t:Bool) (e f u v:Nat) (he:e<2048) (hf:f<4503599627370496) (hu:u<2048) (hv:v<4503599627370496) :
 FloatKind.f64.format.order (bw s e f) (bw t u v)=if odd e f || odd u v then none else some (compare (pl s e f) (pl t u v)):=by
 show Ieee.double.order _ _=_
 by_cases h1:odd e f=true
 · rw [h1];show (Ieee.double.read (bw s e f)).order _=none;rw [uh s e f hf h1];rfl
 · by_cases h2:odd u v=true
   · rw [h2];show (Ieee.double.read (bw s e f)).order (Ieee.double.read (bw t u v))=if (odd e f || true)=true then none else _
     rw [uh t u v hv h2,Bool.or_true,if_pos rfl]
     cases Ieee.double.read (bw s e f) <;> rfl
   · have h3:odd e f=false:=by simpa using h1
     have h4:odd u v=false:=by simpa using h2
     rw [h3,h4,zM,zM];rw [Ej Ieee.double ZE dHb s t _ _ (GA e f he hf h3) (GA u v hu hv h4)];simp [pl]
theorem Ep (s:Bool) (e f:Nat) (he:e<2048) (hf:f<4503599627370496):(FloatKind.f64.format.order (bw s e f) (bw s e f) != some .eq)=odd e f:=by
 rw [ord s s e f e f he hf he hf,Bool.or_self,tY.2 rfl]
 cases odd e f <;> rfl
end B
namespace B
open Go.RowKit
theorem I4 (s:Bool) (e f:Nat) (he:e<2048) (hf:f<4503599627370496) (w:World) :
 Calls Tryz.prog 164 #[.int .u64 (bw s e f),.int .u64 52,.int .u64 11,.int .i64 (-1074)] w fun r w'=>r=.returned (splitV s e f)/\Below w.heap.size w w':=by
 have hl:=yB s e f he hf;have h1:=Mk s e f he hf;have h2:=Qq s e f he hf;have h3:=Qr s e f he hf;have h4:=Qs f hf;have h5:((s.toNat:Int)==1)=s:=by cases s <;> rfl
 go_enter Tryz.func164,Tryz.ntmps164;go_wp2
 · rw [El s e f af ‹_›];exact aF (v:=.agg #[.bool false,.int .i64 4,.int .i64 0,.int .u64 0]) (by simp [results,Tryz.results164,go_sem]) rfl ⟨rfl,(by repeat (first | exact aD _ _ | assumption | exact aC _ | (simp;done) | (simp;omega) | refine Below.alloc ?_ ?_ _ | refine Below.setCell ?_ ?_ _ | refine pR ?_))⟩
 · rw [Em s e f af ‹_›];exact aF (v:=.agg #[.bool s,.int .i64 3,.int .i64 0,.int .u64 0]) (by simp [results,Tryz.results164,go_sem]) rfl ⟨rfl,(by repeat (first | exact aD _ _ | assumption | exact aC _ | (simp;done) | (simp;omega) | refine Below.alloc ?_ ?_ _ | refine Below.setCell ?_ ?_ _ | refine pR ?_))⟩
 · rw [xK s e f af ‹_›];exact aF (v:=.agg #[.bool s,.int .i64 0,.int .i64 (-1074),.int .u64 0]) (by simp [results,Tryz.results164,go_sem]) rfl ⟨rfl,(by repeat (first | exact aD _ _ | assumption | exact aC _ | (simp;done) | (simp;omega) | refine Below.alloc ?_ ?_ _ | refine Below.setCell ?_ ?_ _ | refine pR ?_))⟩
 · rw [zK s e f af ‹_›];exact aF (v:=.agg #[.bool s,.int .i64 1,.int .i64 (-1074),.int .u64 f]) (by simp [results,Tryz.results164,go_sem]) rfl ⟨rfl,(by repeat (first | exact aD _ _ | assumption | exact aC _ | (simp;done) | (simp;omega) | refine Below.alloc ?_ ?_ _ | refine Below.setCell ?_ ?_ _ | refine pR ?_))⟩
 · rw [zL s e f af af];refine aF (v:=.agg #[.bool s,.int .i64 2,.int .i64 ((e:Int)-1075),.int .u64 ((f:Int)+4503599627370496)]) (by simp [results,Tryz.results164,go_sem];try omega) rfl ⟨rfl,(by repeat (first | exact aD _ _ | assumption | exact aC _ | (simp;done) | (simp;omega) | refine Below.alloc ?_ ?_ _ | refine Below.setCell ?_ ?_ _ | refine pR ?_))⟩
end B
namespace B
theorem cO (b:Nat) (w:World):(callFunc 35 #[.float .f64 b]).run Tryz.prog w=.ok (.value (.int .u64 b)) w:=by
 rw [run_callFunc_extern (e:=Extern.MathFloatBits.float64bits) Tryz.func35 dm dm dm dm];rfl
theorem aI (n:Int) (w:World):(callFunc 81 #[.int .u64 n]).run Tryz.prog w=.ok (.value (.float .f64 n.toNat)) w:=by
 rw [run_callFunc_extern (e:=Extern.MathFloatBits.float64frombits) Tryz.func81 dm dm dm dm];rfl
end B
namespace B
open Go.RowKit
attribute [local go_sem] cO aI
theorem aR {W w1:World}(hb:Below W.heap.size W w1):(∀ b o,b<W.heap.size->w1.cell? ⟨b,o,none⟩=W.cell? ⟨b,o,none⟩)/\(∀ b o,b<W.heap.size->w1.frozen? ⟨b,o,none⟩=W.frozen? ⟨b,o,none⟩) :=
 ⟨fun b o h=>hb.cell (p:=⟨b,o,none⟩) h,fun b o h=>hb.frozen (p:=⟨b,o,none⟩) h⟩
theorem I5 (s:Bool) (e f:Nat) (he:e<2048) (hf:f<4503599627370496) (w:World) :
 Calls Tryz.prog 164 #[.int .u64 (bw s e f),.int .u64 52,.int .u64 11,.int .i64 (-1074)] w fun r w'=>r=.returned (.agg #[.bool (ng s e f),.int .i64 (cls e f),.int .i64 (xp e),.int .u64 (fr e f)])/\Below w.heap.size w w' :=
 I4 s e f he hf w
theorem Qu (w:World):Calls Tryz.prog 118 #[] w fun r w'=>r=.returned (.float .f64 9221120237041090560)/\w'=w:=by
 go_enter Tryz.func118,Tryz.ntmps118;go_wp2;go_ret;exact ⟨rfl,rfl⟩
theorem sI (s:Bool) (e f:Nat) (he:e<2048) (hf:f<4503599627370496) (w:World) :
 Calls Tryz.prog 122 #[.float .f64 (bw s e f)] w fun r w'=>r=.returned (.agg #[.bool (ng s e f),.int .i64 (cls e f),.int .i64 (xp e),.int .u64 (fr e f)])/\Below w.heap.size w w':=by
 go_enter Tryz.func122,Tryz.ntmps122
 go_wp2_with (go_at_call 164;refine (I5 s e f he hf _).mono ?_;rintro r w1 ⟨rfl,hb⟩;(obtain ⟨hc,hfz⟩:=aR hb;have hz:w.heap.size<w1.heap.size:=by (have:=hb.size;simp at this;omega)))
 exact aF (v:=(.agg #[.bool (ng s e f),.int .i64 (cls e f),.int .i64 (xp e),.int .u64 (fr e f)])) (by simp [results,Tryz.results122,go_sem,hc]) rfl ⟨rfl,(by repeat (first | exact aD _ _ | exact ((aD _ _).alloc (aC _) _).trans (hb.mono aO) | exact aC _ | (simp;done) | (simp;omega) | refine Below.alloc ?_ ?_ _ | refine Below.setCell ?_ ?_ _ | refine pR ?_))⟩
theorem I6 (s:Bool) (e f:Nat) (he:e<2048) (hf:f<4503599627370496) (w:World) :
 Calls Tryz.prog 189 #[.float .f64 (bw s e f)] w fun r w'=>r=.returned (.bool (odd e f))/\w'=w:=by
 have h1:=Ep s e f he hf;go_enter Tryz.func189,Tryz.ntmps189;go_wp2;go_ret;exact ⟨rfl,rfl⟩
end B
section
open Go.RowKit
theorem But.drewN {g:Nat}{a w:World}(h:But g a w) (n:Nat):But g a (w.drewN n):=⟨h.os,h.tape,h.output,h.size,h.block⟩
end
end Go.Proofs.YtfmfhehbdfhnbaaGreatDoor
