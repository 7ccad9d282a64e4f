import Derived.Test.YtjppdacikihpdaaGreatDoorW14x
import Derived.Test.YtjppdacikihpdaaGreatDoorM1x
import Derived.WalkLawsBesides
import Derived.WalkMore
import Derived.Deep.MidRow
import Derived.ChangeKeysEq
import Derived.Laws.OwnMore
import Derived.Lib.SliceRun
import Derived.Deep.RegionHeld
set_option linter.unusedVariables false
set_option linter.unusedSimpArgs false
set_option maxHeartbeats 16000000
set_option maxRecDepth 20000
namespace Go.Proofs.YtjppdacikihpdaaGreatDoor
section
open Go.RowKit
abbrev LG(X:Nat):Prop:=8192<(ws X).length
def xh(X Y:Nat):Nat×Int:=if LG (X+Y) then(0,2) else(X+Y,0)
def pM(X Y:Nat):Nat×Int:=if LG X\/LG Y then(0,2) else if X<Y then(0,20) else(X-Y,0)
def jI(X Y:Nat):Nat×Int:=if LG X\/LG Y then(0,2) else if LG (X*Y) then(0,2) else(X*Y,0)
def pO(X Y:Nat):Nat×Nat×Int:=if LG X\/LG Y then(0,0,2) else if Y=0 then(0,0,21) else(X/Y,X%Y,0)
def bJ(X:Nat)(by':Int):Nat×Int:=if LG X then(0,2) else if X=0 then(0,0) else if by'<0 then(X/2^(-by').toNat,0) else if 262144-(bl X:Int)<by' then(0,2) else(X*2^by'.toNat,0)
def One(lo:Nat)(w:World)(r:Ending)(a:Nat×Int):Prop:=∃v,r=.returned (.tuple #[v,.int .i64 a.2])/\Nt lo w v a.1
theorem tK(xs:List Nat)(ao:Option Addr)(n cap B:Nat)(w:World)(hn:n=xs.length)(hc:n<=cap)(hm:n<=70368744177664)(hx:Wf xs)(hR:Rd B w ao xs) :
 (Ax 129 #[.slice ao n cap] w (.slice ao (ws (val xs)).length cap))/\Rd B w ao (ws (val xs))/\(ws (val xs)).length<=n:=by
 have T:=fq xs ao n cap B w hn hc ae hR;have hl:=kL xs;have hf:=qx xs hx;have hlen:=gI xs hx;rw[hlen] at T hl hf;exact⟨T,by rw[<-hf];exact hR.take _,ae⟩
theorem Li (xs ys:List Nat) (ao bo:Option Addr) (n cap m bE B:Nat) (w:World) (hn:n=xs.length) (hm:m=ys.length) (hc:n<=cap) (hcb:m<=bE) (hbig:n<=35184372088833) (hbig2:m<=35184372088833)
 (hx:Wf xs) (hy:Wf ys) (hR:Rd B w ao xs) (hS:Rd B w bo ys) (hB:B<=w.heap.size) :
 As 135 #[.slice ao n cap,.slice bo m bE] w λr w'=>One w.heap.size w' r (xh (val xs) (val ys))/\An w w':=by
 obtain⟨T1,pQ,hl1⟩:=tK xs ao n cap B w hn hc ae hx hR;obtain⟨T2,uU,hl2⟩:=tK ys bo m bE B w hm hcb ae hy hS;generalize val xs=X at *;generalize val ys=Y at *;have A0:=VM (ws X) (ws Y) ao bo _ cap _ bE B w rfl rfl ae ae ae ae (gG X) (gG Y) pQ uU hB;rw[aB,aB] at A0;have H1:=(hid T1);have H2:=(hid T2);have H3:=(hid A0);clear T1 T2 A0 pQ uU hn hm hx hy hR hS hl1 hl2;go_enter Tryz.func135,Tryz.ntmps135;go_wp2_with fail;refine H1.o.mono ?_;rintro r w1 ⟨rfl,rfl⟩;go_wp2_with fail;refine H2.o.mono ?_;rintro r w1 ⟨rfl,rfl⟩;go_wp2_with fail;refine H3.o.mono ?_;rintro r w2 ⟨v,rfl,hN,hb⟩;obtain⟨av,cv,rfl,hcv,hcm,hRv⟩:=hN.shape;have U0:=pI (ws (X+Y)).length av cv w2;have HN:=(bA hN hb);clear H1 H2 H3 hN hb hRv
 by_cases hL:LG (X+Y)
 . rw[if_pos (show 8192<(ws (X+Y)).length from hL)] at U0;have U:=(hid U0);clear U0;go_wp2_with fail;refine U.o.mono ?_;rintro r w3 ⟨rfl,rfl⟩;go_wp2
   go_ret2
   rw[show xh X Y=(0,2) by simp[xh,hL]];exact⟨⟨_,rfl,Nt.nil _ _⟩,HN.o.2⟩
 . rw[if_neg (show ¬ 8192<(ws (X+Y)).length from hL)] at U0;have U:=(hid U0);clear U0;go_wp2_with fail;refine U.o.mono ?_;rintro r w3 ⟨rfl,rfl⟩;go_wp2
   go_ret2
   rw[show xh X Y=(X+Y,0) by simp[xh,hL]];exact⟨⟨_,rfl,HN.o.1⟩,HN.o.2⟩
theorem mE(n:Nat)(ao:Option Addr)(cap:Nat)(w:World)(b:Bool)(hb:decide (8192<n)=b) :
 Ax 130 #[.slice ao n cap] w (.bool b):=by
 have h:=yB n ao cap w;have e:decide ((8192:Int)<(n:Int))=b:=by rw[<-hb];simp only[decide_eq_decide];omega
 rw[e] at h;exact h
theorem Vc{P:Prop}(h:P:=by
 go_wp2_with fail;refine H1.o.mono ?_;rintro r w1 ⟨rfl,rfl⟩;go_wp2_with fail;refine H2.o.mono ?_;rintro r w1 ⟨rfl,rfl⟩;go_wp2_with fail;refine L.o.mono ?_;rintro r w1 ⟨rfl,rfl⟩;go_wp2
 go_ret2
 exact⟨⟨_,rfl,Nt.nil _ _⟩,aD _ _⟩):P:=h
theorem XS{P:Prop}(h:P:=by
 go_wp2_with fail;refine H1.o.mono ?_;rintro r w1 ⟨rfl,rfl⟩;go_wp2_with fail;refine H2.o.mono ?_;rintro r w1 ⟨rfl,rfl⟩;go_wp2_with fail;refine L.o.mono ?_;rintro r w1 ⟨rfl,rfl⟩;go_wp2_with fail;refine L2.o.mono ?_;rintro r w1 ⟨rfl,rfl⟩;go_wp2
 go_ret2
 exact⟨⟨_,rfl,Nt.nil _ _⟩,aD _ _⟩):P:=h
theorem VQ (xs ys:List Nat) (ao bo:Option Addr) (n cap m bE B:Nat) (w:World) (hn:n=xs.length) (hm:m=ys.length) (hc:n<=cap) (hcb:m<=bE) (hbig:n<=35184372088833) (hbig2:m<=35184372088833)
 (hx:Wf xs) (hy:Wf ys) (hR:Rd B w ao xs) (hS:Rd B w bo ys) (hB:B<=w.heap.size) :
 As 137 #[.slice ao n cap,.slice bo m bE] w λr w'=>One w.heap.size w' r (pM (val xs) (val ys))/\An w w':=by
 obtain⟨T1,pQ,hl1⟩:=tK xs ao n cap B w hn hc ae hx hR;obtain⟨T2,uU,hl2⟩:=tK ys bo m bE B w hm hcb ae hy hS;generalize val xs=X at *;generalize val ys=Y at *;have H1:=(hid T1);have H2:=(hid T2);have HR:=(iN pQ uU hl1 hl2);clear T1 T2 pQ uU hn hm hx hy hR hS hl1 hl2
 by_cases kE:LG X
 . have L:=hid (mE (ws X).length ao cap w true (by simpa [LG] using kE));have e:pM X Y=(0,2):=by simp[pM,kE]
   rw[e];clear e kE HR;go_enter Tryz.func137,Tryz.ntmps137;exact Vc
 . have L:=hid (mE (ws X).length ao cap w false (by simpa [LG] using kE))
   by_cases rM:LG Y
   . have L2:=hid (mE (ws Y).length bo bE w true (by simpa [LG] using rM));have e:pM X Y=(0,2):=by simp[pM,rM]
     rw[e];clear e kE rM HR;go_enter Tryz.func137,Tryz.ntmps137;exact XS
   . have L2:=hid (mE (ws Y).length bo bE w false (by simpa [LG] using rM));obtain⟨pQ,uU,hl1,hl2⟩:=HR.o;have C0:=Lh (ws X) (ws Y) ao bo _ cap _ bE B w rfl rfl ae ae ae ae (gG X) (gG Y) pQ uU;rw[aB,aB] at C0
     by_cases hlt:X<Y
     . rw[nT hlt] at C0;have C:=hid C0;have e:pM X Y=(0,20):=by simp[pM,kE,rM,hlt]
       rw[e];clear e kE rM HR C0 hlt pQ uU hl1 hl2;go_enter Tryz.func137,Tryz.ntmps137;go_wp2_with fail;refine H1.o.mono ?_;rintro r w1 ⟨rfl,rfl⟩;go_wp2_with fail;refine H2.o.mono ?_;rintro r w1 ⟨rfl,rfl⟩;go_wp2_with fail;refine L.o.mono ?_;rintro r w1 ⟨rfl,rfl⟩;go_wp2_with fail;refine L2.o.mono ?_;rintro r w1 ⟨rfl,rfl⟩;go_wp2_with fail;refine C.o.mono ?_;rintro r w2 ⟨rfl,hb⟩;have HB:=(ak hb);clear hb;go_wp2
       go_ret2
       exact⟨⟨_,rfl,Nt.nil _ _⟩,HB.o⟩
     . have hc1:0<=bI X Y:=by unfold bI;rw[if_neg hlt];split <;> omega
       obtain⟨cc,hcc⟩:∃cc,bI X Y=cc:=⟨_,rfl⟩;rw[hcc] at C0 hc1;have C:=hid C0;have e:pM X Y=(X-Y,0):=by simp[pM,kE,rM,hlt]
       rw[e];have HL:=(ak hlt);clear e kE rM C0 hlt pQ uU hl1 hl2 hcc;go_enter Tryz.func137,Tryz.ntmps137;go_wp2_with fail;refine H1.o.mono ?_;rintro r w1 ⟨rfl,rfl⟩;go_wp2_with fail;refine H2.o.mono ?_;rintro r w1 ⟨rfl,rfl⟩;go_wp2_with fail;refine L.o.mono ?_;rintro r w1 ⟨rfl,rfl⟩;go_wp2_with fail;refine L2.o.mono ?_;rintro r w1 ⟨rfl,rfl⟩;go_wp2_with fail;refine C.o.mono ?_;rintro r w2 ⟨rfl,hb⟩;obtain⟨pQ,uU,hl1,hl2⟩:=HR.o;have hs:=hb.size;have S0:=VO (ws X) (ws Y) ao bo _ cap _ bE B w2 rfl rfl (wK (by have:=HL.o;omega)) ae ae ae (gG X) (gG Y) (by rw[aB,aB];have:=HL.o;omega) (pQ.below (hb.mono hB)) (uU.below (hb.mono hB)) ae;rw[aB,aB] at S0;have S:=hid S0;have HB:=(bA hb hs);clear hb pQ uU hl1 hl2 S0 hs C;go_wp2_with fail;refine S.o.mono ?_;rintro r w3 ⟨v,rfl,hN,hb2⟩;have HN:=(bA hN hb2);clear hN hb2 S;go_wp2
       go_ret2
       obtain⟨hb,hs⟩:=HB.o;exact⟨⟨_,rfl,HN.o.1.mono hs⟩,hb.trans (HN.o.2.mono hs)⟩
theorem Lj (xs ys:List Nat) (ao bo:Option Addr) (n cap m bE B:Nat) (w:World) (hn:n=xs.length) (hm:m=ys.length) (hc:n<=cap) (hcb:m<=bE) (hbig:n<=35184372088833) (hbig2:m<=35184372088833)
 (hx:Wf xs) (hy:Wf ys) (hR:Rd B w ao xs) (hS:Rd B w bo ys) (hB:B<=w.heap.size) :
 As 127 #[.slice ao n cap,.slice bo m bE] w λr w'=>One w.heap.size w' r (jI (val xs) (val ys))/\An w w':=by
 obtain⟨T1,pQ,hl1⟩:=tK xs ao n cap B w hn hc ae hx hR;obtain⟨T2,uU,hl2⟩:=tK ys bo m bE B w hm hcb ae hy hS;generalize val xs=X at *;generalize val ys=Y at *;have H1:=(hid T1);have H2:=(hid T2);have HR:=(iN pQ uU hl1 hl2);clear T1 T2 pQ uU hn hm hx hy hR hS hl1 hl2
 by_cases kE:LG X
 . have L:=hid (mE (ws X).length ao cap w true (by simpa [LG] using kE));have e:jI X Y=(0,2):=by simp[jI,kE]
   rw[e];clear e kE HR;go_enter Tryz.func127,Tryz.ntmps127;exact Vc
 . have L:=hid (mE (ws X).length ao cap w false (by simpa [LG] using kE))
   by_cases rM:LG Y
   . have L2:=hid (mE (ws Y).length bo bE w true (by simpa [LG] using rM));have e:jI X Y=(0,2):=by simp[jI,rM]
     rw[e];clear e kE rM HR;go_enter Tryz.func127,Tryz.ntmps127;exact XS
   . have L2:=hid (mE (ws Y).length bo bE w false (by simpa [LG] using rM));have hz1:(ws X).length=0->X=0:=(bT X).1;have hz2:(ws Y).length=0->Y=0:=(bT Y).1
     by_cases h1:(ws X).length=0
     . have e:jI X Y=(0,0):=by
        have:=hz1 h1;subst this;unfold jI;rw[if_neg (by simp[kE,rM]),fe,if_neg kE]
       rw[e];have hh:=hid h1;rw[h1] at H1 L;have h1b:((ws X).length:Int)=0:=ae
       clear e kE rM HR hz1 hz2 h1 h1b hh;go_enter Tryz.func127,Tryz.ntmps127;exact XS
     . by_cases h2:(ws Y).length=0
       . have e:jI X Y=(0,0):=by
          have:=hz2 h2;subst this;unfold jI;rw[if_neg (by simp[kE,rM]),o9,if_neg rM]
         rw[e];rw[h2] at H2 L2;obtain⟨k1,hk1⟩:∃k,(ws X).length=k:=⟨_,rfl⟩;rw[hk1] at H1 L h1;have h1b:((k1:Int)==0)=false:=by simp;omega
         clear e kE rM HR hz1 hz2 h2 hk1;go_enter Tryz.func127,Tryz.ntmps127;exact XS
       . have hX0:X≠0:=λe=>h1 ((bT X).2 e);have hY0:Y≠0:=λe=>h2 ((bT Y).2 e)
         have hlow:pw ((ws X).length+(ws Y).length-2)<=X*Y:=by
          have a:=kF (uN X hX0) (uN Y hY0);rw[<-uM] at a;rw[show(ws X).length+(ws Y).length-2=(ws X).length-1+((ws Y).length-1) by omega];exact a
         obtain⟨pQ,uU,hl1,hl2⟩:=HR.o;have M0:=VP (ws X) (ws Y) ao bo _ cap _ bE B w rfl rfl ae ae (by unfold LG at kE rM;omega) (gG X) (gG Y) pQ uU hB;rw[aB,aB] at M0;have VR:(ws X).length<=8192:=by unfold LG at kE;omega
         have VS:(ws Y).length<=8192:=by unfold LG at rM;omega
         obtain⟨k1,hk1⟩:∃k,(ws X).length=k:=⟨_,rfl⟩;obtain⟨k2,hk2⟩:∃k,(ws Y).length=k:=⟨_,rfl⟩;rw[hk1] at H1 L h1 M0 hlow VR;rw[hk2] at H2 L2 h2 M0 hlow VS;have h1b:((k1:Int)==0)=false:=by simp;omega
         have h2b:((k2:Int)==0)=false:=by simp;omega
         by_cases h3:8192<k1+k2-1
         . have hLG:LG (X*Y):=by
            unfold LG
            by_cases h4:(ws (X*Y)).length<=8192
            . have:=(aS _ _).1 h4;have:=kM (show 8192<=k1+k2-2 by omega);omega
            . omega
           have e:jI X Y=(0,2):=by simp[jI,hLG]
           rw[e];have h3i:(8192:Int)<(k1:Int)+(k2:Int)-1:=ae
           clear e kE rM HR hz1 hz2 hk1 hk2 pQ uU hl1 hl2 M0 hX0 hY0 hlow hLG h3;go_enter Tryz.func127,Tryz.ntmps127;exact XS
         . have h3i:(k1:Int)+(k2:Int)-1<=8192:=ae
           have h3b:decide ((8192:Int)<(k1:Int)+(k2:Int)-1)=false:=decide_eq_false ae;have M:=hid M0;have HL:=(bA kE rM);clear kE rM HR hz1 hz2 hk1 hk2 pQ uU hl1 hl2 M0 hX0 hY0 hlow h3;go_enter Tryz.func127,Tryz.ntmps127;go_wp2_with fail;refine H1.o.mono ?_;rintro r w1 ⟨rfl,rfl⟩;go_wp2_with fail;refine H2.o.mono ?_;rintro r w1 ⟨rfl,rfl⟩;go_wp2_with fail;refine L.o.mono ?_;rintro r w1 ⟨rfl,rfl⟩;go_wp2_with fail;refine L2.o.mono ?_;rintro r w1 ⟨rfl,rfl⟩;go_wp2_with fail;refine M.o.mono ?_;rintro r w2 ⟨v,rfl,hN,hb⟩;obtain⟨av,cv,rfl,hcv,hcm,hRv⟩:=hN.shape;have U0:=pI (ws (X*Y)).length av cv w2;have HN:=(bA hN hb);clear M hN hb hRv
           by_cases hL:LG (X*Y)
           . rw[if_pos (show 8192<(ws (X*Y)).length from hL)] at U0;have U:=(hid U0);clear U0;go_wp2_with fail;refine U.o.mono ?_;rintro r w3 ⟨rfl,rfl⟩;go_wp2
             go_ret2
             rw[show jI X Y=(0,2) by simp[jI,hL]];exact⟨⟨_,rfl,Nt.nil _ _⟩,HN.o.2⟩
           . rw[if_neg (show ¬ 8192<(ws (X*Y)).length from hL)] at U0;have U:=(hid U0);clear U0;go_wp2_with fail;refine U.o.mono ?_;rintro r w3 ⟨rfl,rfl⟩;go_wp2
             go_ret2
             rw[show jI X Y=(X*Y,0) by simp[jI,HL.o.1,HL.o.2,hL]];exact⟨⟨_,rfl,HN.o.1⟩,HN.o.2⟩
def Three(lo:Nat)(w:World)(r:Ending)(a:Nat×Nat×Int):Prop:=∃v u,r=.returned (.tuple #[v,u,.int .i64 a.2.2])/\Nt lo w v a.1/\Nt lo w u a.2.1/\Apart v u
theorem zj{P:Prop}(h:P:=by
 clear e kE rM HR;go_enter Tryz.func182,Tryz.ntmps182;go_wp2_with fail;refine H1.o.mono ?_;rintro r w1 ⟨rfl,rfl⟩;go_wp2_with fail;refine H2.o.mono ?_;rintro r w1 ⟨rfl,rfl⟩;go_wp2_with fail;refine L.o.mono ?_;rintro r w1 ⟨rfl,rfl⟩;go_wp2_with fail;refine L2.o.mono ?_;rintro r w1 ⟨rfl,rfl⟩;go_wp2
 go_ret3
 exact⟨⟨_,_,rfl,Nt.nil _ _,Nt.nil _ _,qC _⟩,aD _ _⟩):P:=h
theorem VT (xs ys:List Nat) (ao bo:Option Addr) (n cap m bE B:Nat) (w:World) (hn:n=xs.length) (hm:m=ys.length) (hc:n<=cap) (hcb:m<=bE) (hbig:n<=35184372088833) (hbig2:m<=35184372088833)
 (hx:Wf xs) (hy:Wf ys) (hR:Rd B w ao xs) (hS:Rd B w bo ys) (hB:B<=w.heap.size) :
 As 182 #[.slice ao n cap,.slice bo m bE] w λr w'=>Three w.heap.size w' r (pO (val xs) (val ys))/\An w w':=by
 obtain⟨T1,pQ,hl1⟩:=tK xs ao n cap B w hn hc ae hx hR;obtain⟨T2,uU,hl2⟩:=tK ys bo m bE B w hm hcb ae hy hS;generalize val xs=X at *;generalize val ys=Y at *;have H1:=(hid T1);have H2:=(hid T2);have HR:=(iN pQ uU hl1 hl2);clear T1 T2 pQ uU hn hm hx hy hR hS hl1 hl2
 by_cases kE:LG X
 . have L:=hid (mE (ws X).length ao cap w true (by simpa [LG] using kE));have e:pO X Y=(0,0,2):=by simp[pO,kE]
   rw[e];clear e kE HR;go_enter Tryz.func182,Tryz.ntmps182;go_wp2_with fail;refine H1.o.mono ?_;rintro r w1 ⟨rfl,rfl⟩;go_wp2_with fail;refine H2.o.mono ?_;rintro r w1 ⟨rfl,rfl⟩;go_wp2_with fail;refine L.o.mono ?_;rintro r w1 ⟨rfl,rfl⟩;go_wp2
   go_ret3
   exact⟨⟨_,_,rfl,Nt.nil _ _,Nt.nil _ _,qC _⟩,aD _ _⟩
 . have L:=hid (mE (ws X).length ao cap w false (by simpa [LG] using kE))
   by_cases rM:LG Y
   . have L2:=hid (mE (ws Y).length bo bE w true (by simpa [LG] using rM));have e:pO X Y=(0,0,2):=by simp[pO,rM]
     rw[e];exact zj
   . have L2:=hid (mE (ws Y).length bo bE w false (by simpa [LG] using rM))
     by_cases h2:Y=0
     . have e:pO X Y=(0,0,21):=by unfold pO;rw[if_neg (by simp[kE,rM]),if_pos h2]
       rw[e];subst h2;rw[cB] at H2 L2;exact zj
     . have h3:(ws Y).length≠0:=λe=>h2 ((bT Y).1 e);obtain⟨pQ,uU,hl1,hl2⟩:=HR.o;have D0:=VN (ws X) (ws Y) ao bo _ cap _ bE B w rfl rfl ae ae ae ae (gG X) (gG Y) (ZO Y h2) pQ uU hB;rw[aB,aB] at D0;have e:pO X Y=(X/Y,X%Y,0):=by simp[pO,kE,rM,h2]
       rw[e];obtain⟨k2,hk2⟩:∃k,(ws Y).length=k:=⟨_,rfl⟩;rw[hk2] at H2 L2 D0 h3;have h2b:((k2:Int)==0)=false:=by simp;omega
       have D:=hid D0;clear e kE rM HR hk2 pQ uU hl1 hl2 D0 h2;go_enter Tryz.func182,Tryz.ntmps182;go_wp2_with fail;refine H1.o.mono ?_;rintro r w1 ⟨rfl,rfl⟩;go_wp2_with fail;refine H2.o.mono ?_;rintro r w1 ⟨rfl,rfl⟩;go_wp2_with fail;refine L.o.mono ?_;rintro r w1 ⟨rfl,rfl⟩;go_wp2_with fail;refine L2.o.mono ?_;rintro r w1 ⟨rfl,rfl⟩;go_wp2_with fail;refine D.o.mono ?_;rintro r w2 ⟨⟨v,u,rfl,hN1,Ex,hap⟩,hb⟩;have HN:=(iN hN1 Ex hap hb);clear hN1 Ex hap hb D;go_wp2
       go_ret3
       obtain⟨hN1,Ex,hap,hb⟩:=HN.o;exact⟨⟨_,_,rfl,hN1,Ex,hap⟩,hb⟩
theorem mF(X k:Nat)(h:X<pw k):bl X<=32*k:=by
 by_cases h0:X=0
 . subst h0;rw[dI];omega
 . have h1:=iw X h0;have h3:pw k=2^(32*k):=by rw[<-il (32*k),nR];simp
   rw[h3] at h;have:=(kH (a:=2) aM).1 (iC h1 h);omega
theorem QY(X:Nat)(h:¬ LG X):bl X<=262144 :=
 mF X 8192 ((aS X 8192).1 (by unfold LG at h;omega))
theorem Qao{P:Prop}(h:P:=by
 refine D.o.mono ?_;rintro r w2 ⟨v,rfl,hN,hb⟩;have HN:=(bA hN hb);clear hN hb D;go_wp2
 go_ret2
 exact⟨⟨_,rfl,HN.o.1⟩,HN.o.2⟩):P:=h
theorem A9 (xs:List Nat) (ao:Option Addr) (n cap B:Nat) (by':Int) (w:World) (hn:n=xs.length) (hc:n<=cap) (hbig:n<=35184372088833)
 (hx:Wf xs) (hR:Rd B w ao xs) (hB:B<=w.heap.size) (hb0:-9223372036854775808<=by') (hb1:by'<=9223372036854775807) :
 As 81 #[.slice ao n cap,.int .i64 by'] w λr w'=>One w.heap.size w' r (bJ (val xs) by')/\An w w':=by
 obtain⟨T1,pQ,hl1⟩:=tK xs ao n cap B w hn hc ae hx hR;generalize val xs=X at *;have N0:=tH (ws X) ao _ cap B w rfl ae ae (gG X) pQ;rw[aB] at N0;have H1:=(hid T1);have H2:=(hid N0);have HR:=(bA pQ hl1);clear T1 N0 pQ hn hx hR hl1
 by_cases kE:LG X
 . have L:=hid (mE (ws X).length ao cap w true (by simpa [LG] using kE));have e:bJ X by'=(0,2):=by simp[bJ,kE]
   rw[e];clear e kE HR;generalize bl X=c at *;go_enter Tryz.func81,Tryz.ntmps81;exact Vc
 . have L:=hid (mE (ws X).length ao cap w false (by simpa [LG] using kE));have hbs:=QY X kE;obtain⟨c,hcc⟩:∃c,bl X=c:=⟨_,rfl⟩
   by_cases h0:X=0
   . have e:bJ X by'=(0,0):=by unfold bJ;rw[if_neg kE,if_pos h0]
     rw[e];subst h0;rw[cB] at H1 H2 L;rw[dI] at H2;clear e kE HR hbs hcc;go_enter Tryz.func81,Tryz.ntmps81;exact Vc
   . have hcp:=dM X h0;have hlt:=iT X;rw[hcc] at hcp hbs H2 hlt;have hcne:((c:Int)==0)=false:=by simp;omega
     by_cases hneg:by'<0
     . obtain⟨d,hd⟩:∃d:Nat,(d:Int)=-by':=⟨(-by').toNat,ae⟩
       have e:bJ X by'=(X/2^d,0):=by
        unfold bJ;rw[if_neg kE,if_neg h0,if_pos hneg,<-hd,lC]
       rw[e]
       by_cases hbig2:by'<=-(c:Int)
       . have e2:X/2^d=0:=iq (gT hlt (fD aM ae));rw[e2];clear e e2 kE HR hcc hlt hd h0;go_enter Tryz.func81,Tryz.ntmps81;exact Vc
       . obtain⟨pQ,hl1⟩:=HR.o;have D0:=Fw (ws X) ao _ cap B d (d/32) (d%32) w rfl ae ae ae ae ae (gG X) pQ hB;rw[aB] at D0;have D:=hid D0;have hgt:-(c:Int)<by':=ae
         have hd':-by'=(d:Int):=hd.symm
         clear e kE HR hcc hlt h0 pQ hl1 D0 hbig2 hd;go_enter Tryz.func81,Tryz.ntmps81;go_wp2_with fail;refine H1.o.mono ?_;rintro r w1 ⟨rfl,rfl⟩;go_wp2_with fail;refine H2.o.mono ?_;rintro r w1 ⟨rfl,rfl⟩;go_wp2_with fail;refine L.o.mono ?_;rintro r w1 ⟨rfl,rfl⟩;go_wp2_with fail
         try rw[hd']
         exact Qao
     . obtain⟨d,rfl⟩:∃d:Nat,by'=(d:Int):=⟨by'.toNat,ae⟩
       by_cases QZ:262144-(c:Int)<(d:Int)
       . have e:bJ X (d:Int)=(0,2):=by unfold bJ;rw[if_neg kE,if_neg h0,if_neg hneg,hcc,if_pos QZ]
         rw[e];clear e kE HR hcc hlt h0 hneg;go_enter Tryz.func81,Tryz.ntmps81;exact Vc
       . have e:bJ X (d:Int)=(X*2^d,0):=by unfold bJ;rw[if_neg kE,if_neg h0,if_neg hneg,hcc,if_neg QZ,lC]
         rw[e];obtain⟨pQ,hl1⟩:=HR.o;have D0:=I4 (ws X) ao _ cap B d (d/32) (d%32) w rfl ae ae ae (by unfold LG at kE;omega) (gG X) pQ hB;rw[aB] at D0;have D:=hid D0;have hle:(d:Int)<=262144-(c:Int):=ae
         have hleb:decide (262144-(c:Int)<(d:Int))=false:=decide_eq_false ae;clear e kE HR hcc hlt h0 pQ hl1 D0 QZ hneg;go_enter Tryz.func81,Tryz.ntmps81;go_wp2_with fail;refine H1.o.mono ?_;rintro r w1 ⟨rfl,rfl⟩;go_wp2_with fail;refine H2.o.mono ?_;rintro r w1 ⟨rfl,rfl⟩;go_wp2_with fail;refine L.o.mono ?_;rintro r w1 ⟨rfl,rfl⟩;go_wp2_with fail;exact Qao
theorem kP (w:World) (lo:Nat) (v:Value) (n:Nat) (xs src:List Nat) (ao:Option Addr) (m c B:Nat) (ty:TypeId) (hown:w.ownsRow lo 162 1 v n (xs.map U)) (hm:m=src.length) (hR:Rd B w ao src)
 (hnil:ao=none->c=0) (hbig:n+m<=35184372088832) (hlo:lo<=w.heap.size) :
 ∃v' w',(Builtin.append_ #[77,77] ty #[v,.slice ao m c]).run Tryz.prog w=.ok v' w'/\w'.ownsRow lo 162 1 v' (n+m) ((xs++src).map U)/\w.grownBy w' v.ownBlock:=by
 obtain⟨i0,hi,hz0,hz1,hz2⟩:=info_parts Tryz.xw;subst hm;rcases hao:ao with _|a
 . have h0:src=[]:=by
    by_cases h:src=[]
    . exact h
    . obtain⟨b,off,_,e,_⟩:=hR h;rw[hao] at e;cases e
   subst h0;have hc:=hnil hao;subst hc;exact⟨v,w,run_append_owned_none (P:=Tryz.prog) w lo 77 ty 162 i0 1 Tryz.underlying77 hi v n _ hown,by simpa using hown,World.grownBy.refl _ _⟩
 . obtain⟨v',w',h1,h2,h3,_⟩:=run_append_own (P:=Tryz.prog) w lo 77 ty 162 i0 (.int .u32 0) 1 4 Tryz.underlying77 hi hz0 hz1 hz2 rfl aM v n (xs.map U) hown a src.length c (src.map U) aN (by
    intro j u hj;have hj2:j<src.length:=by have:=(iD.1 hj).1;simpa using this
    obtain⟨b,off,_,e,hc⟩:=hR (by intro e;subst e;simp at hj2);rw[hao] at e
    cases e
    have hadd:(⟨b,off,none⟩:Addr).add j=⟨b,off+j,none⟩:=by unfold Addr.add;split <;> simp_all
    rw[hadd,hc j hj2];simp[hj2,U] at hj
    simp[hj2,<-hj]) (by
    intro u hu;obtain⟨x,_,rfl⟩:=rE.1 hu
    rfl) (by unfold maxLen;omega) ae hlo
   exact⟨v',w',h1,by rw[jy];exact h2,h3⟩
theorem wpList_append_run {w:World}{ops:Array Oper}{rest:List Oper}{o:Oper}{a:Act}{Q:Exit->Act->World->Prop}(hgd:o.guard=none) (s x:Operand)
 (ho:o.op=.call { callee:=.builtin .append,args:=#[s,x],argTypes:=#[77,77] }) (v u:Value) (hs:a.eval s=v) (hx:a.eval x=u) (v':Value) (w':World)
 (hrun:(Builtin.append_ #[77,77] o.type #[v,u]).run Tryz.prog w=.ok v' w') (h:wpList Tryz.prog ops Q rest (a.put o.dst v') w'):wpList Tryz.prog ops Q (o::rest) a w:=by
 refine wpList_plain hgd λK hK=>?_;unfold Oper.wp;simp[execOp,ho,resolve,invoke,builtin,hs,hx,hrun,Result.andThen];exact hK _ _ h
theorem jQ(xs:List Nat)(ao:Option Addr)(n cap B:Nat)(w:World)(hn:n=xs.length)(hc:n<=cap)(hm:n<=35184372088832)(hx:Wf xs)(hR:Rd B w ao xs)(hnil:ao=none->cap=0) :
 As 164 #[.slice ao n cap] w λr w'=>∃v,r=.returned v/\Nt w.heap.size w' v (val xs)/\An w w':=by
 have S:=hid (pG xs ao n cap B w hn ae hR);have hl:=kL xs;have hf:=qx xs hx;obtain⟨v',w',hap,hown,hgrow⟩:=kP w w.heap.size (.slice none 0 0) 0 [] (xs.take (nl xs)) ao (nl xs) cap B 77 (yA _ _ _ _) (by rw[fJ];omega) (hR.take _) hnil ae (aA _)
 have hN:Nt w.heap.size w' v' (val xs):=by
  unfold Nt;rw[<-hf];simpa [iQ hl] using hown
 have hb:An w w':=(aD _ _).grown hgrow (aA _) (λk hk=>by simp[Value.ownBlock] at hk);have HN:=(bA hN hb);obtain⟨k,hk⟩:∃k,nl xs=k:=⟨_,rfl⟩;rw[hk] at S hap hl;have hkn:k<=n:=ae
 have HZ:Aside (n=0->val xs=0):=by intro h0;have:xs=[]:=IE.1 ae;rw[this];rfl
 clear hN hb hown hgrow hf hl hn hx hR hk;rcases hao:ao with _|a
 . have hc0:=hnil hao;subst hc0;subst hao;obtain rfl:n=0:=ae
   obtain rfl:k=0:=ae
   go_enter Tryz.func164,Tryz.ntmps164;go_wp2_with fail;refine S.o.mono ?_;rintro r w1 ⟨rfl,rfl⟩;go_wp2;go_ret;rw[HZ.o (by trivial)];exact⟨_,rfl,Nt.nil _ _,aD _ _⟩
 . subst hao;go_enter Tryz.func164,Tryz.ntmps164;go_wp2_with fail;refine S.o.mono ?_;rintro r w1 ⟨rfl,rfl⟩;have Nf:=hid hap;clear hap
   go_wp2_with (at_builtin;refine wpList_append_run rfl (.tmp 4) (.tmp 8) rfl _ _ rfl rfl _ _ Nf.o ?_)
   go_ret;exact⟨_,rfl,HN.o.1,HN.o.2⟩
theorem VU(x:Nat)(h:x≠0):bl x=bl (x/2)+1:=by
 by_cases h1:x=1
 . subst h1;decide
 . have hx2:x/2≠0:=ae
   obtain⟨c,hc⟩:∃c,bl (x/2)=c+1:=⟨bl (x/2)-1,by have:=dM _ hx2;omega⟩;have a:=iw _ hx2;have b:=iT (x/2);rw[hc] at a b |-;rw[mX] at a;exact E5 x (c+1) (by rw[dS];omega) (by rw[dS];omega)
theorem nk(xs:List Nat)(ao:Option Addr)(n cap B:Nat)(w:World)(hn:n=xs.length)(hm:n<=70368744177664)(hx:Wf xs)(hR:Rd B w ao xs) :
 Ax 194 #[.slice ao n cap] w (.int .i64 (bl (val xs):Nat)):=by
 have H:=hid (pG xs ao n cap B w hn ae hR);have hl:=kL xs;rcases hk:nl xs with _|k
 . rw[(jk xs).1 hk,dI];rw[hk] at H;clear hk hl hn hx hR;go_enter Tryz.func194,Tryz.ntmps194;go_wp2_with fail;refine H.o.mono ?_;rintro r w1 ⟨rfl,rfl⟩;go_wp2;go_ret;exact⟨rfl,rfl⟩
 . have hbw:=Fe xs hx k hk;rw[hk] at H hl;obtain⟨e,hlt,h0,hl2⟩:=yF xs hx k hk;obtain⟨b,off,hB,rfl,hcell⟩:=hR (by intro e;subst e;simp at hl);have hck:=hcell k hl2;obtain⟨t,ht⟩:∃t,xs.getD k 0=t:=⟨_,rfl⟩;have htl:t<4294967296:=ht ▸ hx.get k;rw[ht] at hck hbw;have hb:=xx t htl;have hkn:k<n:=ae
   have HB:=(bA hbw hb);clear hk hl hn hx hR e hlt h0 hl2 hcell ht hbw hb;go_enter Tryz.func194,Tryz.ntmps194;go_wp2_with fail;refine H.o.mono ?_;rintro r w1 ⟨rfl,rfl⟩;go_wp2
   go_loopg [4,5] t (λgk bv xv wr=>∃c:Nat,bv=.int .i64 (c:Nat)/\xv=.int .u32 (gk:Nat)/\gk<=t/\c<=32*k+32/\wr=w1/\Aside (c+bl gk=32*k+bl t))
   case atStart=>exact⟨32*k,by first | go_num | (congr 1;omega),rfl,aA _,ae,rfl,rfl⟩
   case round =>
    obtain⟨c,rfl,rfl,hgt,hc,rfl,HA⟩:=hrel
    by_cases hg0:gk=0
    . subst hg0;go_wp2;go_ret;have h1:=HA.o;rw[dI,il] at h1;rw[HB.o.1,<-h1];exact Xs
    . have hg1:(0:Int)<(gk:Int):=ae
      obtain⟨g2,hg2⟩:=ah (gk/2);have e2:(gk:Int)/2=(g2:Int):=ae
      have HX:=(bA hg2 hg0);clear hg2 hg0;go_wp2;go_roundg g2
      case measure=>obtain⟨hg2,hg0⟩:=HX.o;omega
      case rel =>
       obtain⟨hg2,hg0⟩:=HX.o;have h1:=HA.o;have h2:=VU gk hg0;rw[<-hg2] at h2;have h3:=HB.o.2;exact⟨c+1,by go_num,by first | rfl | rw[e2],ae,ae,rfl,by rw[Aside];omega⟩
structure Arg (w:World) (a:Option Addr) (n c:Nat) (xs:List Nat):Prop where
 len:n=xs.length
 cap:n<=c
 big:n<=35184372088832
 wf:Wf xs
 rd:Rd w.heap.size w a xs
 nil:a=none->c=0
theorem Arg.below{w w':World}{a:Option Addr}{n c:Nat}{xs:List Nat}(h:Arg w a n c xs)(hb:An w w'):Arg w' a n c xs :=
 ⟨h.len,h.cap,h.big,h.wf,(h.rd.below hb).mono hb.size,h.nil⟩
theorem Nt.arg{lo:Nat}{w:World}{v:Value}{X:Nat}(h:Nt lo w v X)(hs:(ws X).length<=35184372088832):∃a c,v=.slice a (ws X).length c/\Arg w a (ws X).length c (ws X):=by
 have h':=h;obtain⟨a,c,rfl,h1,h2,h3⟩:=h.shape;refine⟨a,c,rfl,rfl,h1,hs,gG X,h3,λe=>?_⟩;rcases h'.2 with ⟨e1,_⟩|⟨g,cap,cur,e1,_⟩
 . simp only[Value.slice.injEq] at e1;exact e1.2.2
 . simp only[Value.slice.injEq] at e1;rw[e1.1] at e;cases e
theorem Ng{X Y i:Nat}(h1:X<pw i)(h2:Y<pw i):X+Y<pw (i+1):=by rw[bK];omega
theorem CY{lo:Nat}{w:World}{r:Ending}{a:Nat×Int}{V:Nat}(h:One lo w r a)(e:a=(V,0)):∃v,r=.returned (.tuple #[v,.int .i64 0])/\Nt lo w v V:=by
 subst e;exact h
theorem Ll{w:World}{a b:Option Addr}{n c m d:Nat}{xs ys:List Nat}{V:Nat}(h1:Arg w a n c xs)(h2:Arg w b m d ys)(e:jI (val xs) (val ys)=(V,0)) :
 As 127 #[.slice a n c,.slice b m d] w λr w'=>∃v,r=.returned (.tuple #[v,.int .i64 0])/\Nt w.heap.size w' v V/\An w w' :=
 (Lj xs ys a b n c m d w.heap.size w h1.len h2.len h1.cap h2.cap (by have:=h1.big;omega) (by have:=h2.big;omega) h1.wf h2.wf h1.rd h2.rd (aA _)).mono
  λr w' ⟨ho,hb⟩=>by obtain⟨v,h3,h4⟩:=CY ho e;exact⟨v,h3,h4,hb⟩
theorem xz{w:World}{a b:Option Addr}{n c m d:Nat}{xs ys:List Nat}{V:Nat}(h1:Arg w a n c xs)(h2:Arg w b m d ys)(e:xh (val xs) (val ys)=(V,0)) :
 As 135 #[.slice a n c,.slice b m d] w λr w'=>∃v,r=.returned (.tuple #[v,.int .i64 0])/\Nt w.heap.size w' v V/\An w w' :=
 (Li xs ys a b n c m d w.heap.size w h1.len h2.len h1.cap h2.cap (by have:=h1.big;omega) (by have:=h2.big;omega) h1.wf h2.wf h1.rd h2.rd (aA _)).mono
  λr w' ⟨ho,hb⟩=>by obtain⟨v,h3,h4⟩:=CY ho e;exact⟨v,h3,h4,hb⟩
theorem xA{w:World}{a b:Option Addr}{n c m d:Nat}{xs ys:List Nat}{V:Nat}(h1:Arg w a n c xs)(h2:Arg w b m d ys)(e:pM (val xs) (val ys)=(V,0)) :
 As 137 #[.slice a n c,.slice b m d] w λr w'=>∃v,r=.returned (.tuple #[v,.int .i64 0])/\Nt w.heap.size w' v V/\An w w' :=
 (VQ xs ys a b n c m d w.heap.size w h1.len h2.len h1.cap h2.cap (by have:=h1.big;omega) (by have:=h2.big;omega) h1.wf h2.wf h1.rd h2.rd (aA _)).mono
  λr w' ⟨ho,hb⟩=>by obtain⟨v,h3,h4⟩:=CY ho e;exact⟨v,h3,h4,hb⟩
theorem fV{w:World}{a:Option Addr}{n c:Nat}{xs:List Nat}{V:Nat}(by':Int)(h1:Arg w a n c xs)(e:bJ (val xs) by'=(V,0))(hb0:-9223372036854775808<=by')(hb1:by'<=9223372036854775807) :
 As 81 #[.slice a n c,.int .i64 by'] w λr w'=>∃v,r=.returned (.tuple #[v,.int .i64 0])/\Nt w.heap.size w' v V/\An w w' :=
 (A9 xs a n c w.heap.size by' w h1.len h1.cap (by have:=h1.big;omega) h1.wf h1.rd (aA _) hb0 hb1).mono
  λr w' ⟨ho,hb⟩=>by obtain⟨v,h3,h4⟩:=CY ho e;exact⟨v,h3,h4,hb⟩
theorem CZ{w:World}{a b:Option Addr}{n c m d:Nat}{xs ys:List Nat}(h1:Arg w a n c xs)(h2:Arg w b m d ys)(z:Int)(e:bI (val xs) (val ys)=z) :
 At 136 #[.slice a n c,.slice b m d] w (.int .i64 z):=by
 have:=Lh xs ys a b n c m d w.heap.size w h1.len h2.len h1.cap h2.cap (by have:=h1.big;omega) (by have:=h2.big;omega) h1.wf h2.wf h1.rd h2.rd;rw[e] at this;exact this
theorem xB{X Y V:Nat}(h3:¬ LG V)(e:X+Y=V):xh X Y=(V,0):=by subst e;unfold xh;rw[if_neg h3]
theorem xC{X Y V:Nat}(h1:¬ LG X)(h2:¬ LG Y)(e:V+Y=X):pM X Y=(V,0):=by unfold pM;rw[if_neg (by simp[h1,h2]),if_neg ae];congr 1;omega
def Bl(w:World)(g T:Nat)(C:List Value):Prop:=w.heap[g]?=some (.cells C.toArray T (0,0))
theorem Bl.lt{w:World}{g T:Nat}{C:List Value}(h:Bl w g T C):g<w.heap.size:=(dQ.1 h).1
theorem Bl.cell{w:World}{g T:Nat}{C:List Value}(h:Bl w g T C)(i:Nat)(v:Value)(hv:C[i]?=some v):w.cell? ⟨g,i,none⟩=some v:=by
 unfold Bl at h;simp[World.cell?,h,hv]
theorem Bl.frozen{w:World}{g T:Nat}{C:List Value}(h:Bl w g T C)(i:Nat):w.frozen? ⟨g,i,none⟩=false:=by
 unfold Bl at h;simp[World.frozen?,h]
theorem Bl.set{w:World}{g T:Nat}{C:List Value}(h:Bl w g T C)(i:Nat)(v:Value):Bl (w.setCell ⟨g,i,none⟩ v) g T (C.set i v):=by
 unfold Bl at h |-;simp[World.setCell,gz,h]
theorem Bl.drew{w:World}{g T:Nat}{C:List Value}(h:Bl w g T C):Bl w.drew g T C:=h
theorem Bl.below{w w':World}{g T B:Nat}{C:List Value}(h:Bl w g T C)(hb:Below B w w')(hg:g<B):Bl w' g T C:=by
 unfold Bl at h |-;rw[hb.block g hg];exact h
theorem Bl.but{w w':World}{g g' T:Nat}{C:List Value}(h:Bl w g T C)(hb:But g' w w')(hg:g≠g'):Bl w' g T C:=by
 unfold Bl at h |-;rw[hb.block g (Bl.lt h) hg];exact h
theorem Bl.range{w:World}{g T:Nat}{C:List Value}(h:Bl w g T C)(o:Nat)(cs:List Value)(hc:∀j v,cs[j]?=some v->C[o+j]?=some v):w.rangeAt g o cs :=
 λj v hv=>h.cell _ _ (hc j v hv)
theorem Bl.there{w:World}{g T:Nat}{C:List Value}(h:Bl w g T C)(o n:Nat)(hn:o+n<=C.length):w.there g o n :=
 λj hj=>⟨by rw[h.cell (o+j) _ (aY ae)];rfl,h.frozen _⟩
theorem Bl.setCells{g T:Nat}:∀(vs:List Value) (o:Nat) {w:World}{C:List Value}(h:Bl w g T C) (hn:o+vs.length<=C.length),Bl (w.setCells g o vs) g T (C.take o++vs++C.drop (o+vs.length))
 | [],o,w,C,h,hn=>by simpa [World.setCells] using h
 | v::r,o,w,C,h,hn=>by
   rw[World.setCells];have:=Bl.setCells r (o+1) (h.set o v) (by simp at hn |-;omega);simp only[oO] at hn
   have e:(C.set o v).take (o+1)++r++(C.set o v).drop (o+1+r.length)=C.take o++(v::r)++C.drop (o+(v::r).length):=by
    rw[List.drop_set,if_pos ae,xU (by simp;omega),List.getElem_set_self,List.take_set,List.set_eq_of_length_le (by simp;omega)];simp[oo,oV 1]
   rw[e] at this;exact this
theorem Bl.ZP{g T:Nat}{w:World}{C vs:List Value}(h:Bl w g T C)(hn:vs.length=C.length):Bl (w.setCells g 0 vs) g T vs:=by
 have:=Bl.setCells vs 0 h ae;rw[hn] at this;simpa using this
theorem But.setCells{g:Nat}{a:World}:∀(vs:List Value) (o:Nat) {w:World}(h:But g a w),But g a (w.setCells g o vs)
 | [],o,w,h=>h
 | v::r,o,w,h=>by rw[World.setCells];exact But.setCells r (o+1) (h.set o v)
theorem aC(w:World)(o:Obj):An w (w.alloc o):=(aD _ _).alloc (aA _) _
theorem Bl.alloc{w:World}{g T:Nat}{C:List Value}(h:Bl w g T C)(o:Obj):Bl (w.alloc o) g T C:=by
 unfold Bl at h |-;rw[(aC w o).block g (Bl.lt h)];exact h
theorem Bl.new(w:World)(T:Nat)(C:List Value):Bl (w.alloc (.cells C.toArray T)) w.heap.size T C:=by
 unfold Bl;rw[iF]
theorem Bl.new'(w:World)(T n:Nat)(C:List Value)(hn:n=w.heap.size):Bl (w.alloc (.cells C.toArray T)) n T C:=by
 subst hn;exact Bl.new w T C
theorem Wb.bl{w:World}{g:Nat}{L:List Nat}(h:Wb w g L):Bl w g 198 (L.map U):=h
theorem Bl.wb{w:World}{g:Nat}{L:List Nat}(h:Bl w g 198 (L.map U)):Wb w g L:=h
theorem Nh(L:List Nat):((L.map U).toArray).all (·.oneCell')=true:=all_oneCell_toArray λv hv=>by
 obtain⟨x,_,rfl⟩:=rE.1 hv;rfl
theorem Tryz.I9:Tryz.zeroCells198=(List.replicate 133 (Value.int .u32 0)).toArray:=by kernel_rfl
theorem Tryz.jR:(Tryz.prog.info? 198).map (·.size)=some 133:=by kernel_rfl
theorem Tryz.jS:Tryz.prog.underlying 198=some (.array 133 162):=by kernel_rfl
theorem uV(x y n:Int):(x%n+y)%n=(x+y)%n:=by simp
def lJ(ng:Bool)(T:Nat):Int:=if ng then -(T:Int) else(T:Int)
theorem Q0(ng:Bool):lJ ng 0=0:=by cases ng <;> simp[lJ]
theorem Lm(ng:Bool)(a b:Nat):lJ ng (a+b)=lJ ng a+lJ ng b:=by cases ng <;> simp[lJ];omega
theorem Ba(xs:List Nat)(k p:Nat)(hk:k<xs.length):val (xs.take (k+1))*2^p=val (xs.take k)*2^p+xs.getD k 0*2^(p+32*k):=by
 rw[iV xs k hk,fT,IV,aP];congr 1;rw[cK (2^(32*k)),aQ,cK (2^(32*k))]
theorem Q6(L xs:List Nat)(ao:Option Addr)(n cap p:Nat)(kd:Int)(ng:Bool)(w:World)(hl:L.length=133)(hL:Wf L)(hA:Arg w ao n cap xs)(hp:p+32*n<=4256) :
 As 201 #[.agg (L.map U).toArray,.agg #[.int .i64 kd,.bool ng,.slice ao n cap,.int .i64 (p:Nat)]] w λr w' =>
  ∃M,r=.returned (.agg (M.map U).toArray)/\M.length=133/\Wf M/\(val M:Int)=((val L:Int)+lJ ng (val xs*2^p))%(PB:Int)/\An w w':=by
 have HR:Aside (Wf L/\L.length=133/\Arg w ao n cap xs):=⟨hL,hl,hA⟩;clear hL hl hA;go_enter Tryz.func201,Tryz.ntmps201;go_wp2;obtain⟨w3,hw3⟩:=ah ((((w.alloc (Obj.cells (L.map U).toArray 198)).alloc (Obj.cells #[Value.int IntKind.i64 kd,Value.bool ng,Value.slice ao n cap,Value.int IntKind.i64 (p:Nat)] 203)).alloc (Obj.cells Tryz.zeroCells198 198)));rw[<-hw3]
 have H3:Aside (An w w3/\Wb w3 w.heap.size L/\Bl w3 (w.heap.size+1) 203 [Value.int IntKind.i64 kd,Value.bool ng,Value.slice ao n cap,Value.int IntKind.i64 (p:Nat)]/\Bl w3 (w.heap.size+1+1) 198 (List.replicate 133 (Value.int .u32 0))/\w3.heap.size=w.heap.size+3):=by
  subst hw3;refine⟨?_,?_,?_,?_,aN⟩
  . exact((aC w _).trans ((aC _ _).mono aN)).trans ((aC _ _).mono (by simp;omega))
  . exact(((Bl.new w 198 (L.map U)).alloc _).alloc _).wb
  . exact(Bl.new' (w.alloc (Obj.cells (L.map U).toArray 198)) 203 _ [_,_,_,_] aN).alloc _
  . rw[Tryz.I9];exact Bl.new' _ 198 _ _ aN
 clear hw3
 go_loopg [10] n (λgk i wr=>∃(k:Nat) (M:List Nat),gk+k=n/\i=.int .i64 (k:Nat) /\
  Aside (Wb wr w.heap.size M/\Wf M/\M.length=133/\(val M:Int)=((val L:Int)+lJ ng (val (xs.take k)*2^p))%(PB:Int)/\But w.heap.size w3 wr))
 case atStart=>exact⟨0,L,ae,aN,H3.o.2.1,HR.o.1,HR.o.2.1,by simp only[List.take_zero,val,fe,Q0,Int.add_zero];rw[wz ae (by have:=qB HR.o.2.1 HR.o.1;omega)],But.refl _ _⟩
 case round =>
  obtain⟨k,M,jo,rfl,HA⟩:=hrel
  by_cases hk:k<n
  . obtain⟨hL,hl,hA⟩:=HR.o;obtain⟨hM,bC,dx,hMs,aI⟩:=HA.o;obtain⟨b3,_,T3,Z3,s3⟩:=H3.o;obtain⟨b,fI,KW,rfl,hbc⟩:=hA.rd (by intro e;subst e;have:=hA.len;simp at this;omega)
    have hbk:wr.cell? ⟨b,fI+k,none⟩=some (.int .u32 ((xs.getD k 0:Nat):Int)):=by
     have h0:=b3.block b KW;have h1:=aI.block b ae ae;exact(sV (a:=⟨b,fI+k,none⟩) (h1.trans h0)).trans (hbc k (by rw[<-hA.len];omega))
    have T4:=T3.but aI ae;have c1:=T4.cell 1 _ rfl;have c3:=T4.cell 3 _ rfl;obtain⟨y,hy⟩:∃y:Nat,xs.getD k 0=y:=⟨_,rfl⟩;have hyl:y<4294967296:=hy ▸ hA.wf.get _;rw[hy] at hbk;have HX:Aside (xs.getD k 0=y):=hy;have HB:Aside (∀i,i<xs.length->w.cell? ⟨b,fI+i,none⟩=some (.int .u32 ((xs.getD i 0:Nat):Int))):=hbc;clear hy hL hl hA hM bC dx hMs aI b3 T3 Z3 s3 T4 hbc
    cases ng
    . go_wp2_with fail;rw[show(p:Int)+32*(k:Int)=((p+32*k:Nat):Int) by simp];obtain⟨hM,bC,dx,hMs,aI⟩:=HA.o;refine(eG (QI M w.heap.size y (p+32*k) wr hM dx bC hyl ae) ?_);rintro r w' ⟨rfl,M',hM',C8,Da,hv',hb'⟩;have HA':Aside (Wb w' w.heap.size M'/\Wf M'/\M'.length=133/\val M'=(val M+y*2^(p+32*k))%PB/\But w.heap.size wr w'):=⟨hM',Da,C8,hv',hb'⟩;clear hM bC dx hMs aI hM' C8 Da hv' hb';go_wp2;go_roundg (gk-1)
      case measure=>omega
      case rel =>
       obtain⟨hM',Da,C8,hv',hb'⟩:=HA'.o;obtain⟨hM,bC,dx,hMs,aI⟩:=HA.o;refine⟨k+1,M',ae,aN,hM',Da,C8,?_,aI.trans hb'⟩;rw[Ba xs k p (by rw[<-HR.o.r2.len];exact hk),HX.o,Lm,<-Int.add_assoc,<-uV,<-hMs,hv'];simp[lJ]
    . go_wp2_with fail;rw[show(p:Int)+32*(k:Int)=((p+32*k:Nat):Int) by simp];obtain⟨hM,bC,dx,hMs,aI⟩:=HA.o;refine(eG (MW M w.heap.size y (p+32*k) wr hM dx bC hyl ae) ?_);rintro r w' ⟨rfl,M',hM',C8,Da,hv',hb'⟩;have HA':Aside (Wb w' w.heap.size M'/\Wf M'/\M'.length=133/\(val M':Int)=((val M:Int)-((y*2^(p+32*k):Nat):Int))%(PB:Int)/\But w.heap.size wr w'):=⟨hM',Da,C8,hv',hb'⟩;clear hM bC dx hMs aI hM' C8 Da hv' hb';go_wp2;go_roundg (gk-1)
      case measure=>omega
      case rel =>
       obtain⟨hM',Da,C8,hv',hb'⟩:=HA'.o;obtain⟨hM,bC,dx,hMs,aI⟩:=HA.o;refine⟨k+1,M',ae,aN,hM',Da,C8,?_,aI.trans hb'⟩;rw[Ba xs k p (by rw[<-HR.o.r2.len];exact hk),HX.o,Lm,<-Int.add_assoc,<-uV,<-hMs,hv'];simp only[lJ,if_true,Int.sub_eq_add_neg]
  . obtain rfl:k=n:=ae
    obtain⟨hM,bC,dx,hMs,aI⟩:=HA.o;obtain⟨b3,_,T3,Z3,s3⟩:=H3.o;have HZ:Aside (Bl wr (w.heap.size+1+1) 198 (List.replicate 133 (Value.int .u32 0))):=Z3.but aI ae;have HB:Aside (An w w3/\w3.heap.size=w.heap.size+3):=⟨b3,s3⟩;clear hM bC dx hMs aI b3 T3 Z3 s3
    go_wp2_with (first
     | (with_reducible refine wpList_load_mid (P:=Tryz.prog) rfl 198 (.tmp 2) rfl w.heap.size 0 rfl (M.map U) _ (HA.o.1.bl.range 0 _ (λj v hv=>by simpa using hv)) Tryz.jS rfl (by simp[Tryz.jR,HA.o.r2.1]) ?_)
     | (with_reducible refine wpList_store_mid (P:=Tryz.prog) rfl 198 (.tmp 4) (.tmp 32) rfl (w.heap.size+1+1) 0 (M.map U).toArray rfl rfl (HZ.o.there 0 _ (by simp[HA.o.r2.1])) (by simp[Tryz.jR,HA.o.r2.1]) (Nh M) ?_))
    have hZ:Bl (wr.setCells (w.heap.size+1+1) 0 (M.map U)) (w.heap.size+1+1) 198 (M.map U):=HZ.o.ZP (by simp[HA.o.r2.1]);refine aH (v:=.agg (M.map U).toArray) (results_cell_row (P:=Tryz.prog) Tryz.results201 _ _ (w.heap.size+1+1) 198 _ _ _ rfl hZ Tryz.jS rfl (by simp[Tryz.jR,HA.o.r2.1])) rfl ?_;obtain⟨hM,bC,dx,hMs,aI⟩:=HA.o;obtain⟨b3,s3⟩:=HB.o;refine⟨M,rfl,dx,bC,?_,?_⟩
    . rw[hMs,eF (by rw[<-HR.o.r2.len];exact aA _)]
    . exact But.below (But.below b3 aI ae (aA _)) (But.setCells _ _ (But.refl _ _)) (by have:=aI.size;omega) ae
def Hd(w:World)(g:Nat)(L:List Nat):Prop:=g<w.heap.size/\∀i,i<L.length->w.cell? ⟨g,i,none⟩=some (.int .u32 ((L.getD i 0:Nat):Int))
theorem Hd.below{w w':World}{g B:Nat}{L:List Nat}(h:Hd w g L)(hb:Below B w w')(hg:g<B)(hB:B<=w.heap.size):Hd w' g L :=
 ⟨by have:=hb.size;omega,λi hi=>(hb.cell (p:=⟨g,i,none⟩) hg).trans (h.2 i hi)⟩
theorem Bl.hd{w:World}{g T:Nat}{L:List Nat}{C:List Value}(h:Bl w g T (L.map U++C)):Hd w g L :=
 ⟨h.lt,λi hi=>h.cell i _ (by rw[sQ (by simpa using hi)];simp[U,bF,aY hi])⟩
theorem Wb.hd{w:World}{g:Nat}{L:List Nat}(h:Wb w g L):Hd w g L:=⟨h.lt,λi hi=>h.cell i hi⟩
theorem Tryz.Bb:Tryz.prog.plainKey 162=true:=by kernel_rfl
theorem Tryz.Ni:Tryz.prog.cellsOf 162=1:=by kernel_rfl
theorem Tryz.Nj:Tryz.prog.underlying 162=some (.int .u32):=by kernel_rfl
theorem Tryz.Nk:(Tryz.prog.info? 162).isSome=true:=by kernel_rfl
theorem Fz(L K:List Nat)(d:Nat)(w:World):∀(is:List Nat),(∀i ∈ is,i<L.length/\i<K.length) ->
 (Op.eqItems (d+1) 162 1 (L.map U).toArray (K.map U).toArray is).run Tryz.prog w=.ok (decide (∀i ∈ is,L.getD i 0=K.getD i 0)) w
 | [],_=>by simp[Op.eqItems]
 | i::is,h=>by
   obtain⟨h1,h2⟩:=h i aN;have ih:=Fz L K d w is (λj hj=>h j (by simp[hj]))
   have p1:(part 162 (L.map U).toArray (i*1)).run Tryz.prog w=.ok (.int .u32 ((L.getD i 0:Nat):Int)) w :=
    run_part_plain _ Tryz.Bb (by simp[U,bF,aY h1])
   have p2:(part 162 (K.map U).toArray (i*1)).run Tryz.prog w=.ok (.int .u32 ((K.getD i 0:Nat):Int)) w :=
    run_part_plain _ Tryz.Bb (by simp[U,bF,aY h2])
   simp only[Op.eqItems,Sem.run_bind,p1,p2,Result.andThen_ok,run_equalIn_int w d 162 .u32 .u32 _ _ Tryz.Nj]
   by_cases e:L.getD i 0=K.getD i 0
   . rw[e];simp only[beq_self_eq_true,Bool.not_true];rw[if_neg aM,ih];simp only[pg,forall_eq_or_imp,e,true_and]
   . have e2:(((L.getD i 0:Nat):Int)==((K.getD i 0:Nat):Int))=false:=by simp only[beq_eq_false_iff_ne,ne_eq];omega
     rw[e2];simp only[pg,forall_eq_or_imp,e,false_and,decide_false,Bool.not_false,if_true,Sem.run_pure]
theorem Q7(L K:List Nat)(w:World)(hl:L.length=133)(hk:K.length=133) :
 (Op.equalIn 10000 198 (.agg (L.map U).toArray) (.agg (K.map U).toArray)).run Tryz.prog w=.ok (decide (L=K)) w:=by
 obtain⟨i,hi⟩:=xY.1 Tryz.Nk;rw[show(10000:Nat)=9999+1 by rfl,run_equalIn_array _ 9999 _ _ Tryz.jS hi,Tryz.Ni,show(9999:Nat)=9998+1 by rfl,Fz L K 9998 w (List.range 133) (λi hi=>by simp at hi;omega)];congr 1;rw[decide_eq_decide];constructor
 . intro h;apply List.ext_getElem ae;intro i h1 h2;have:=h i (by simp;omega);simpa [bF,aY h1,aY h2] using this
 . rintro rfl i _;rfl
def xk:List Nat:=List.replicate 132 0++[4294950912]
theorem Tryz.Nl:Tryz.zeroCells198.setIfInBounds 132 (Value.int IntKind.u32 4294950912)=(xk.map U).toArray:=by kernel_rfl
theorem FC:xk.length=133:=by simp[xk]
theorem Q8(g t:Nat)(w:World)(hc:w.cell? ⟨g,132,none⟩=some (.int .u32 (t:Nat)))(ht:t<2147483648) :
 Ax 174 #[.pointer (some ⟨g,0,none⟩)] w (.bool false):=by
 go_enter Tryz.func174,Tryz.ntmps174;go_wp2;refine aH (v:=.bool false) (by simp[results,Tryz.results174,go_sem]) rfl ⟨rfl,rfl⟩
theorem Ra(g t:Nat)(w:World)(hc:w.cell? ⟨g,132,none⟩=some (.int .u32 (t:Nat)))(ht0:2147483648<=t)(ht:t<4294967296) :
 Ax 174 #[.pointer (some ⟨g,0,none⟩)] w (.bool true):=by
 have hw:wrap32 (t:Int)=(t:Int)-4294967296:=by unfold wrap32;omega
 go_enter Tryz.func174,Tryz.ntmps174;go_wp2;refine aH (v:=.bool true) (by simp[results,Tryz.results174,go_sem];omega) rfl ⟨rfl,rfl⟩
theorem Nn(g t:Nat)(w:World)(hc:w.cell? ⟨g,132,none⟩=some (.int .u32 (t:Nat)))(ht:t<16384) :
 Ax 217 #[.pointer (some ⟨g,0,none⟩)] w (.bool false):=by
 have hw:((t:Int)/16384==0)=true:=by simp;omega
 go_enter Tryz.func217,Tryz.ntmps217;go_wp2;refine aH (v:=.bool false) (by simp[results,Tryz.results217,go_sem]) rfl ⟨rfl,rfl⟩
theorem Ja(g t:Nat)(w:World)(hc:w.cell? ⟨g,132,none⟩=some (.int .u32 (t:Nat)))(ht0:16384<=t)(ht:t<4294950912) :
 Ax 217 #[.pointer (some ⟨g,0,none⟩)] w (.bool true):=by
 have hw0:(wrap32 (t:Int)/16384==0)=false:=by simp;unfold wrap32;omega
 have hw1:(wrap32 (t:Int)/16384==-1)=false:=by simp;unfold wrap32;omega
 go_enter Tryz.func217,Tryz.ntmps217;go_wp2;refine aH (v:=.bool true) (by simp[results,Tryz.results217,go_sem]) rfl ⟨rfl,rfl⟩
theorem Np(g t:Nat)(L:List Nat)(w:World)(hc:w.cell? ⟨g,132,none⟩=some (.int .u32 (t:Nat)))(hr:w.rangeAt g 0 (L.map U))(hl:L.length=133)(ht0:4294950912<=t)(ht:t<4294967296) :
 Ax 217 #[.pointer (some ⟨g,0,none⟩)] w (.bool (decide (L=xk))):=by
 have hw0:(wrap32 (t:Int)/16384==0)=false:=by simp;unfold wrap32;omega
 have hw1:(wrap32 (t:Int)/16384==-1)=true:=by simp;unfold wrap32;omega
 have HL:Aside (L.length=133/\w.rangeAt g 0 (L.map U)):=⟨hl,hr⟩;clear hl hr;go_enter Tryz.func217,Tryz.ntmps217
 go_wp2_with (first | (with_reducible refine wpList_load_mid (P:=Tryz.prog) rfl 198 (.tmp 14) rfl g 0 rfl (L.map U) _ HL.o.2 Tryz.jS rfl (by simp[Tryz.jR,HL.o.1]) ?_))
 rw[Tryz.Nl,Q7 L _ w HL.o.1 FC];generalize hb:decide (L=xk)=b;generalize hK:xk=K at hb;have HK:Aside (decide (L=xk)=b):=by rw[hK];exact hb
 clear hb hK;simp only[Result.andThen_ok,Oper.upon];go_wp2;exact aH (v:=.bool b) (by simp[results,Tryz.results217,go_sem]) rfl ⟨by rw[HK.o],rfl⟩
def HB:Nat:=16384*pw 132
theorem uW:0<HB:=jh aM (iU _)
theorem Db:PB=4294967296*pw 132:=by unfold PB;exact bK 132
attribute [irreducible] HB
theorem Rb:HB=16384*pw 132:=by unfold HB;rfl
theorem Lp(L:List Nat)(hl:L.length=133)(hL:Wf L):∃r,r<pw 132/\val L=r+pw 132*L.getD 132 0:=by
 refine⟨val (L.take 132),?_,?_⟩
 . have:=dh (L.take 132) (hL.take 132);rwa [show(L.take 132).length=132 by simp;omega] at this
 . have h:=iV L 132 ae;rwa [eF ae] at h
theorem Rc:val xk=4294950912*pw 132:=by
 unfold xk;rw[val_append,kX,xN,dA,cK];rfl
theorem VV:Wf xk:=by
 intro y hy;unfold xk at hy;rcases Cn.1 hy with h|h
 . have:=List.eq_of_mem_replicate h;omega
 . have:=Ar.1 h;omega
theorem val_inj{L K:List Nat}(hl:L.length=K.length)(hL:Wf L)(hK:Wf K)(h:val L=val K):L=K:=by
 induction L generalizing K with
 | nil=>cases K <;> simp_all
 | cons x xs ih =>
   cases K with
   | nil=>simp at hl
   | cons y ys =>
     simp only[val] at h;have h1:=hL.head;have h2:=hK.head;have e1:x=y:=ae
     have e2:val xs=val ys:=ae
     rw[e1,ih (by simpa using hl) hL.tail hK.tail e2]
def uX(N:Nat):Bool:=decide (PB<=2*N)
theorem Bc(g:Nat)(L:List Nat)(w:World)(hl:L.length=133)(hL:Wf L)(hH:Hd w g L) :
 Ax 174 #[.pointer (some ⟨g,0,none⟩)] w (.bool (uX (val L))):=by
 have hc:=hH.2 132 ae;obtain⟨r,hr,hv⟩:=Lp L hl hL;have ht:=hL.get 132;generalize L.getD 132 0=t at hc hv ht;have h0:=iU 132
 by_cases h:t<2147483648
 . have e:uX (val L)=false:=by
    unfold uX;rw[decide_eq_false_iff_not,hv,Db];generalize pw 132=q at hr h0 |-;have:q*t<=q*2147483647:=fG _ ae;omega
   rw[e];exact Q8 g t w hc h
 . have e:uX (val L)=true:=by
    unfold uX;rw[decide_eq_true_iff,hv,Db];generalize pw 132=q at hr h0 |-;have:q*2147483648<=q*t:=fG _ ae;omega
   rw[e];exact Ra g t w hc ae ht
def Nq(N:Nat):Bool:=decide (HB<=N/\N<=PB-HB)
theorem yJ(g:Nat)(L:List Nat)(w:World)(hl:L.length=133)(hL:Wf L)(hH:Hd w g L) :
 Ax 217 #[.pointer (some ⟨g,0,none⟩)] w (.bool (Nq (val L))):=by
 have hc:=hH.2 132 ae;obtain⟨r,hr,hv⟩:=Lp L hl hL;have ht:=hL.get 132
 have hg:w.rangeAt g 0 (L.map U):=λj v hj=>by
  have hj2:j<L.length:=by have:=(iD.1 hj).1;simpa using this
  rw[dA,hH.2 j hj2,<-hj,mY,aY hj2,bF,aY hj2];rfl
 generalize Ey:L.getD 132 0=t at hc hv ht;have h0:=iU 132;have eP:=Db;have eH:=Rb;have eL:=Rc;generalize pw 132=q at hr h0 hv eP eH eL
 by_cases h:t<16384
 . have e:Nq (val L)=false:=by
    unfold Nq;rw[decide_eq_false_iff_not,hv];have:q*t<=q*16383:=fG _ ae;omega
   rw[e];exact Nn g t w hc h
 by_cases h2:t<4294950912
 . have e:Nq (val L)=true:=by
    unfold Nq;rw[decide_eq_true_iff,hv];have a1:q*16384<=q*t:=fG _ ae;have a2:q*t<=q*4294950911:=fG _ ae;omega
   rw[e];exact Ja g t w hc ae h2
 . have e:Nq (val L)=decide (L=xk):=by
    unfold Nq;rw[decide_eq_decide];constructor
    . intro hb;have a1:q*4294950912<=q*t:=fG _ ae;refine val_inj (by rw[hl,FC]) hL VV ?_;rw[eL];omega
    . rintro rfl;rw[eL];omega
   rw[e];exact Np g t L w hc hg hl ae ht
theorem Tryz.FD:Tryz.prog.underlying 76=some (.slice 162):=by kernel_rfl
theorem Nr(b n c:Nat)(L:List Nat)(w:World)(hl:L.length=n)(hn:n<=1000)(hH:Hd w b L) :
 As 204 #[.slice (some ⟨b,0,none⟩) n c] w λr w'=>∃v',r=.returned v'/\w'.ownsRow w.heap.size 162 1 v' n (L.map U)/\v'≠.slice none 0 0/\An w w':=by
 obtain⟨i0,hi,hz0,hz1,hz2⟩:=info_parts Tryz.xw;have q76:∀(w:World) (a:Option Addr) (n c n' c':Nat),(binOp .eql 76 (.slice a n c) (.slice none n' c')).run Tryz.prog w=.ok (.bool a.isNone) w:=λw a n c n' c'=>Lib.run_eql_slice_nil w _ _ a n c n' c' Tryz.FD;have A:Aside (L.length=n/\Hd w b L):=⟨hl,hH⟩;clear hl hH;go_enter Tryz.func204,Tryz.ntmps204
 go_wp2_with (at_builtin;refine wpList_append_own _ rfl _ _ 76 rfl w.heap.size 162 i0 (.int .u32 0) 1 4 Tryz.FD hi hz0 hz1 hz2 rfl aM _ _ _ rfl (World.ownsRow_made w #[] 0 (aA _) (lD _) aN) ⟨b,0,none⟩ n c (L.map U) rfl ?qc1 ?qc2 ?qc3 ?qc4 ?qc5 ?qc6 ?_)
 case qc1=>simp[A.o.1]
 case qc2 =>
  intro j u hj;have hj2:j<L.length:=by have:=(iD.1 hj).1;simpa using this
  rw[Addr.add_lit];refine Lib.cell?_alloc_some _ ?_;rw[dA,A.o.r2 j hj2,<-hj,mY,aY hj2,bF,aY hj2];rfl
 case qc3=>intro u hu;obtain⟨x,_,rfl⟩:=rE.1 hu;rfl
 case qc4=>unfold maxLen;omega
 case qc5=>omega
 case qc6=>simp
 intro v' w1 hown hgrow hnil;go_wp2;go_ret;refine⟨v',rfl,by simpa using hown,hnil,?_⟩;exact((aD _ w).alloc (aA _) _).grown hgrow aN (by intro k hk;simp[Value.ownBlock] at hk;omega)
theorem ZQ(a b:Nat)(ha:a<4294967296)(hb:b<4294967296):bits .xor .u32 (a:Int) (b:Int)=((a ^^^ b:Nat):Int):=by
 exact j8
theorem VW(x:Nat)(h:x<4294967296):bits BinOp.xor IntKind.u32 IntKind.u32.max (x:Int)=((4294967295-x:Nat):Int):=by
 have e:IntKind.u32.max=((4294967295:Nat):Int):=aM
 rw[e,ZQ _ _ aM h];congr 1;have h1:(BitVec.allOnes 32 ^^^ BitVec.ofNat 32 x)= ~~~ (BitVec.ofNat 32 x):=BitVec.allOnes_xor;have h2:=congrArg BitVec.toNat h1;simp only[BitVec.toNat_xor,BitVec.toNat_allOnes,BitVec.toNat_not,BitVec.toNat_ofNat] at h2;rw[jL ae] at h2;exact h2
theorem Ns(M L:List Nat)(k c s d:Nat)(hM:M.length=133)(hL:L.length=133)(hk:k<133)(hx:L.getD k 0<4294967296)(ho:∀j,k<=j->M.getD j 0=L.getD j 0)(e:s+d*4294967296=c+(4294967295-L.getD k 0))(h:sg M 0 k+c*pw k+sg L 0 k=pw k) :
 sg (M.set k s) 0 (k+1)+d*pw (k+1)+sg L 0 (k+1)=pw (k+1):=by
 have h1:=bZ M 0 k s ae;rw[dA] at h1;rw[h1,bN L 0 k ae,dA,bK];have e2:(s+d*4294967296+L.getD k 0)*pw k=(c+4294967295)*pw k:=by congr 1;omega
 simp only[fT,aQ] at e2;rw[cK (pw k) s,cK (pw k) (L.getD k 0)];omega
theorem Re(L:List Nat)(lo g cap:Nat)(w:World)(hl:L.length=133)(hL:Wf L)(hR:w.ownsRow lo 162 1 (.slice (some ⟨g,0,none⟩) 133 cap) 133 (L.map U)) :
 As 205 #[.slice (some ⟨g,0,none⟩) 133 cap] w λr w' =>
  r=.returned (.tuple #[])/\∃M,w'.ownsRow lo 162 1 (.slice (some ⟨g,0,none⟩) 133 cap) 133 (M.map U)/\M.length=133/\Wf M/\val M=(PB-val L)%PB/\But g w w':=by
 have HR:Aside (Wf L/\L.length=133/\w.ownsRow lo 162 1 (.slice (some ⟨g,0,none⟩) 133 cap) 133 (L.map U)):=⟨hL,hl,hR⟩;clear hL hl hR;go_enter Tryz.func205,Tryz.ntmps205;go_wp2
 go_loopg [2,7] 133 (λgk c i wr=>∃(k cv:Nat) (M:List Nat),gk+k=133/\i=.int .i64 (k:Nat)/\c=.int .u64 (cv:Nat)/\cv<2 /\
  Hid (wr.ownsRow lo 162 1 (.slice (some ⟨g,0,none⟩) 133 cap) 133 (M.map U))/\Aside (Wf M/\M.length=133/\(∀j,k<=j->M.getD j 0=L.getD j 0)/\sg M 0 k+cv*pw k+sg L 0 k=pw k/\But g w wr))
 case atStart=>exact⟨0,1,L,ae,aN,aN,ae,HR.o.r2,HR.o.1,HR.o.2.1,λ_ _=>rfl,by simp[dV],But.refl _ _⟩
 case round =>
  obtain⟨k,cv,M,jo,rfl,rfl,hcv,HM,HA⟩:=hrel
  by_cases hk:k<133
  . obtain⟨hL,hl,hR⟩:=HR.o;obtain⟨bC,dx,fH,hMs,aI⟩:=HA.o
    have hgc:wr.cell? ⟨g,k,none⟩=some (.int .u32 ((M.getD k 0:Nat):Int)):=by
     rw[HM.o.cellAt k ae];simp[U,bF,aY (show k<M.length by omega)]
    have hgf:=HM.o.frozenAt k;obtain⟨x,hx⟩:∃x:Nat,M.getD k 0=x:=⟨_,rfl⟩;have hxl:x<4294967296:=hx ▸ bC.get _;rw[hx] at hgc;obtain⟨y,hy⟩:∃y:Nat,y=4294967295-x:=⟨_,rfl⟩;have e1:bits BinOp.xor IntKind.u32 IntKind.u32.max (x:Int)=(y:Int):=by rw[VW x hxl,hy]
    have hyl:y<4294967296:=ae
    have HX:Aside (M.getD k 0=x/\y=4294967295-x):=⟨hx,hy⟩;clear hy;clear hx hL hl hR bC dx fH hMs aI;obtain⟨gk,rfl⟩:∃k,gk=k+1:=⟨gk-1,ae⟩;go_wp2;go_roundg gk
    case measure=>omega
    case rel =>
     obtain⟨hL,hl,hR⟩:=HR.o;obtain⟨bC,dx,fH,hMs,aI⟩:=HA.o;obtain⟨hx,hy⟩:=HX.o;have e2:((cv:Int)+(y:Int))%4294967296=(((cv+y)%4294967296:Nat):Int):=ae
     have e3:((cv:Int)+(y:Int))/4294967296=(((cv+y)/4294967296:Nat):Int):=ae
     rw[qA (y:Int) ae ae,qA ((cv:Int)+(y:Int)) ae ae,e2];refine⟨k+1,(cv+y)/4294967296,M.set k ((cv+y)%4294967296),ae,aN,by rw[e3],ae,?_,bC.set _ _ (iB _ aM),by simp[dx],λj hj=>by rw[getD_set_ne _ _ _ _ ae];exact fH j ae,?_,aI.set k _⟩
     . rw[sO];exact(HM.o.stored k _).1
     . have hLx:L.getD k 0=x:=by rw[<-fH k (aA _)];exact hx
       exact Ns M L k cv _ _ dx hl hk ae fH (by rw[hLx];omega) hMs
  . obtain rfl:k=133:=ae
    go_wp2;refine bodyPost_end (v:=.tuple #[]) (by simp[results,Tryz.results205,go_sem]) rfl ?_;obtain⟨bC,dx,fH,hMs,aI⟩:=HA.o;refine⟨rfl,M,HM.o,dx,bC,?_,aI⟩;have a1:=dJ M;have a2:=dJ L;rw[dx] at a1;rw[HR.o.2.1] at a2;rw[a1,a2] at hMs;have hb:=qB dx bC;have eP:pw 133=PB:=by unfold PB;rfl
    rw[eP] at hMs;have h2:PB-val L=val M+PB*cv:=by rw[cK];omega
    rw[h2,Aq,jL hb]
def Rh(N:Nat):Nat:=if uX N then PB-N else N
theorem Lr{w:World}{lo cap:Nat}{L:List Nat}{g:Nat}(h:w.ownsRow lo 162 1 (.slice (some ⟨g,0,none⟩) 133 cap) 133 (L.map U))(hl:L.length=133)(hL:Wf L):Arg w (some ⟨g,0,none⟩) 133 cap L:=by
 have hg:g<w.heap.size:=(h.lt g rfl).2
 have hc:133<=cap:=by
  rcases h.2 with ⟨h',_⟩|⟨g',cap',cur,h',_,_,hn,_⟩
  . simp at h'
  . simp only[Value.slice.injEq,Option.some.injEq,Addr.mk.injEq,and_true,true_and] at h';omega
 refine⟨hl.symm,hc,aM,hL,λ_=>⟨g,0,hg,rfl,λi hi=>?_⟩,λe=>by cases e⟩;rw[dA,h.cellAt i ae,mY,aY hi,bF,aY hi];rfl
theorem Nu(L:List Nat)(g:Nat)(w:World)(hl:L.length=133)(hL:Wf L)(hH:Hd w g L) :
 As 175 #[.pointer (some ⟨g,0,none⟩)] w λr w' =>
  ∃b cap M,r=.returned (.slice (some ⟨b,0,none⟩) 133 cap)/\Arg w' (some ⟨b,0,none⟩) 133 cap M/\val M=Rh (val L)/\An w w':=by
 have HR:Aside (Wf L/\L.length=133/\Hd w g L):=⟨hL,hl,hH⟩;clear hL hl hH;go_enter Tryz.func175,Tryz.ntmps175;go_wp2_with fail;refine eG (Nr g 133 133 L w HR.o.2.1 aM HR.o.r2) ?_;rintro r w1 ⟨v',rfl,hown,hnn,hb1⟩;have HO:Aside (w1.ownsRow w.heap.size 162 1 v' 133 (L.map U)/\An w w1):=⟨hown,hb1⟩
 obtain⟨b,cap,rfl⟩:∃b cap,v'=.slice (some ⟨b,0,none⟩) 133 cap:=by
  rcases hown.2 with ⟨_,h⟩|⟨g',cap',cur,h,_⟩
  . cases h
  . exact⟨g',cap',h⟩
 clear hown hnn hb1;go_wp2_with fail;obtain⟨hL,hl,hH⟩:=HR.o;refine eG (Bc g L w1 hl hL (hH.below HO.o.2 hH.1 (aA _))) ?_;rintro r w2 ⟨rfl,rfl⟩;clear hL hl hH
 cases hn:uX (val L)
 . have HN:Aside (uX (val L)=false):=hn;clear hn;go_wp2;go_ret;obtain⟨hL,hl,hH⟩:=HR.o;exact⟨b,cap,L,rfl,Lr HO.o.1 hl hL,by unfold Rh;rw[HN.o];rfl,HO.o.2⟩
 . have HN:Aside (uX (val L)=true):=hn;clear hn;go_wp2_with fail;obtain⟨hL,hl,hH⟩:=HR.o;refine eG (Re L w.heap.size b cap w2 hl hL HO.o.1) ?_;rintro r w3 ⟨rfl,M,hM,dx,bC,q9,aI⟩;have HM:Aside (w3.ownsRow w.heap.size 162 1 (.slice (some ⟨b,0,none⟩) 133 cap) 133 (M.map U)/\M.length=133/\Wf M/\val M=(PB-val L)%PB/\But b w2 w3):=⟨hM,dx,bC,q9,aI⟩;clear hL hl hH hM dx bC q9 aI;go_wp2;go_ret;obtain⟨hM,dx,bC,q9,aI⟩:=HM.o;refine⟨b,cap,M,rfl,Lr hM dx bC,?_,But.below HO.o.2 aI HO.o.2.size (HO.o.1.lt b rfl).1⟩;unfold Rh;rw[HN.o,q9,if_pos rfl,jL];have h1:PB<=2*val L:=of_decide_eq_true HN.o;have:=ZF;omega
theorem But.pR{g:Nat}{a w w':World}(h:But g a w)(hb:An w w'):But g a w' :=
 h.trans ⟨hb.os,hb.tape,hb.output,hb.size,λk hk _=>hb.block k hk⟩
structure Sp where
 (n u d m p a:Int)
def Sp.cells(s:Sp):List Value:=[.int .i64 s.n,.int .i64 s.u,.int .i64 s.d,.int .i64 s.m,.int .i64 s.p,.int .i64 s.a]
def Sp.agg(s:Sp):Value:=.agg #[.int .i64 s.n,.int .i64 s.u,.int .i64 s.d,.int .i64 s.m,.int .i64 s.p,.int .i64 s.a]
def Ac(w:World)(g:Nat)(L:List Nat)(s:Sp):Prop:=Bl w g 200 (L.map U++s.cells)
theorem Ac.lt{w:World}{g:Nat}{L:List Nat}{s:Sp}(h:Ac w g L s):g<w.heap.size:=Bl.lt h
theorem Ac.hd{w:World}{g:Nat}{L:List Nat}{s:Sp}(h:Ac w g L s):Hd w g L:=Bl.hd h
theorem Ac.cell{w:World}{g:Nat}{L:List Nat}{s:Sp}(h:Ac w g L s)(hl:L.length=133)(k:Nat)(v:Value)(hk:s.cells[k]?=some v):w.cell? ⟨g,133+k,none⟩=some v :=
 Bl.cell h _ _ (by rw[pq (by simp;omega)];simpa [hl] using hk)
theorem Ac.frozen{w:World}{g:Nat}{L:List Nat}{s:Sp}(h:Ac w g L s)(k:Nat):w.frozen? ⟨g,k,none⟩=false:=Bl.frozen h k
theorem Ac.below{w w':World}{g B:Nat}{L:List Nat}{s:Sp}(h:Ac w g L s)(hb:Below B w w')(hg:g<B):Ac w' g L s:=Bl.below h hb hg
theorem Ac.drew{w:World}{g:Nat}{L:List Nat}{s:Sp}(h:Ac w g L s):Ac w.drew g L s:=h
theorem Ac.alloc{w:World}{g:Nat}{L:List Nat}{s:Sp}(h:Ac w g L s)(o:Obj):Ac (w.alloc o) g L s:=Bl.alloc h o
theorem Ac.there{w:World}{g:Nat}{L:List Nat}{s:Sp}(h:Ac w g L s)(hl:L.length=133):w.there g 0 133:=Bl.there h 0 133 (by simp[hl])
theorem Ac.range{w:World}{g:Nat}{L:List Nat}{s:Sp}(h:Ac w g L s):w.rangeAt g 0 (L.map U):=Bl.range h 0 _ (λj v hv=>by
 rw[dA,sQ (iD.1 hv).1];exact hv)
theorem Jb(L:List Nat):∀v ∈ L.map U,v.oneCell'=true:=λv hv=>by
 obtain⟨x,_,rfl⟩:=rE.1 hv;rfl
theorem Jc(g:Nat)(L M:List Nat)(s t:Sp)(w:World)(hA:Ac w g L s)(hl:L.length=133)(hM:Wf M)(hm:M.length=133)(hb:Nq (val M)=false) :
 As 200 #[.pointer (some ⟨g,0,none⟩),.agg (M.map U).toArray,t.agg] w λr w' =>
  r=.returned (.int .i64 0)/\Ac w' g M t/\But g w w':=by
 obtain⟨tn,tu,td,tm,tp,ta⟩:=t;simp only[Sp.agg];have HR:Aside (Ac w g L s/\L.length=133/\Wf M/\M.length=133/\Nq (val M)=false):=⟨hA,hl,hM,hm,hb⟩;clear hA hl hM hm hb;go_enter Tryz.func200,Tryz.ntmps200;go_wp2_with fail;obtain⟨w2,hw2⟩:=ah (((w.alloc (Obj.cells (M.map U).toArray 198)).alloc (Obj.cells #[.int .i64 tn,.int .i64 tu,.int .i64 td,.int .i64 tm,.int .i64 tp,.int .i64 ta] 72)));rw[<-hw2]
 have H2:Aside (Ac w2 g L s/\Wb w2 w.heap.size M/\Bl w2 (w.heap.size+1) 72 [.int .i64 tn,.int .i64 tu,.int .i64 td,.int .i64 tm,.int .i64 tp,.int .i64 ta]/\An w w2/\g<w.heap.size):=by
  subst hw2;refine⟨(HR.o.1.alloc _).alloc _,((Bl.new w 198 (M.map U)).alloc _).wb,Bl.new' _ 72 _ [_,_,_,_,_,_] aN,(aC w _).trans ((aC _ _).mono aN),HR.o.1.lt⟩
 clear hw2;refine eG (yJ w.heap.size M w2 HR.o.r3.1 HR.o.r2.1 H2.o.2.1.hd) ?_;rintro r w3 ⟨rfl,rfl⟩;rw[HR.o.r4];go_wp2;have hne1:g≠w.heap.size:=iR H2.o.r4;have hne2:g≠w.heap.size+1:=by have:=H2.o.r4;omega
 have hu:=Tryz.jS;have hsz:(Tryz.prog.info? 198).map (·.size)=some (M.map U).length:=by rw[Tryz.jR,mZ,HR.o.r3.1]
 have hlen:(M.map U).length=133:=by rw[mZ,HR.o.r3.1]
 have hone:=Jb M;obtain⟨A2,B2,C2,_,hlt⟩:=H2.o;have hB0:But g w3 (w3.drew):=(But.refl _ _).drew;have hB1:But g w3 (w3.drew.setCells g 0 (M.map U)):=But.setCells _ _ hB0;have hB2:But g w3 (((((((w3.drew.setCells g 0 (M.map U)).setCell ⟨g,133,none⟩ (.int .i64 tn)).setCell ⟨g,134,none⟩ (.int .i64 tu)).setCell ⟨g,135,none⟩ (.int .i64 td)).setCell ⟨g,136,none⟩ (.int .i64 tm)).setCell ⟨g,137,none⟩ (.int .i64 tp)).setCell ⟨g,138,none⟩ (.int .i64 ta)):=(((((hB1.set _ _).set _ _).set _ _).set _ _).set _ _).set _ _
 have hA1:Bl (w3.drew.setCells g 0 (M.map U)) g 200 (M.map U++s.cells):=by
  have:=Bl.setCells (M.map U) 0 A2.drew (by simp[HR.o.2.1,HR.o.r3.1]);rw[List.take_zero,List.nil_append,dA,List.drop_left' (by simp[HR.o.2.1,HR.o.r3.1])] at this;exact this
 have hA2:Bl (((((((w3.drew.setCells g 0 (M.map U)).setCell ⟨g,133,none⟩ (.int .i64 tn)).setCell ⟨g,134,none⟩ (.int .i64 tu)).setCell ⟨g,135,none⟩ (.int .i64 td)).setCell ⟨g,136,none⟩ (.int .i64 tm)).setCell ⟨g,137,none⟩ (.int .i64 tp)).setCell ⟨g,138,none⟩ (.int .i64 ta)) g 200 (M.map U++[.int .i64 tn,.int .i64 tu,.int .i64 td,.int .i64 tm,.int .i64 tp,.int .i64 ta]):=by
  have:=(((((hA1.set 133 (.int .i64 tn)).set 134 (.int .i64 tu)).set 135 (.int .i64 td)).set 136 (.int .i64 tm)).set 137 (.int .i64 tp)).set 138 (.int .i64 ta);have hm:=HR.o.r3.1;simpa [List.set_append,hm,Sp.cells] using this
 have kS0:Aside ((w3.drew).rangeAt w.heap.size 0 (M.map U)/\(w3.drew).there g 0 133/\(w3.drew).cell? ⟨w.heap.size+1,0,none⟩=some (.int .i64 tn)/\(w3.drew).cell? ⟨w.heap.size+1,1,none⟩=some (.int .i64 tu)/\(w3.drew).cell? ⟨w.heap.size+1,2,none⟩=some (.int .i64 td)/\(w3.drew).cell? ⟨w.heap.size+1,3,none⟩=some (.int .i64 tm)/\(w3.drew).cell? ⟨w.heap.size+1,4,none⟩=some (.int .i64 tp)/\(w3.drew).cell? ⟨w.heap.size+1,5,none⟩=some (.int .i64 ta)) :=
  ⟨(Bl.but B2.bl hB0 ae).range 0 _ (λj v hv=>by simpa using hv),A2.drew.there HR.o.2.1,(Bl.but C2 hB0 ae).cell 0 _ rfl,(Bl.but C2 hB0 ae).cell 1 _ rfl,(Bl.but C2 hB0 ae).cell 2 _ rfl,(Bl.but C2 hB0 ae).cell 3 _ rfl,(Bl.but C2 hB0 ae).cell 4 _ rfl,(Bl.but C2 hB0 ae).cell 5 _ rfl⟩
 have kS1:Aside ((w3.drew.setCells g 0 (M.map U)).rangeAt w.heap.size 0 (M.map U)/\(w3.drew.setCells g 0 (M.map U)).there g 0 133/\(w3.drew.setCells g 0 (M.map U)).cell? ⟨w.heap.size+1,0,none⟩=some (.int .i64 tn)/\(w3.drew.setCells g 0 (M.map U)).cell? ⟨w.heap.size+1,1,none⟩=some (.int .i64 tu)/\(w3.drew.setCells g 0 (M.map U)).cell? ⟨w.heap.size+1,2,none⟩=some (.int .i64 td)/\(w3.drew.setCells g 0 (M.map U)).cell? ⟨w.heap.size+1,3,none⟩=some (.int .i64 tm)/\(w3.drew.setCells g 0 (M.map U)).cell? ⟨w.heap.size+1,4,none⟩=some (.int .i64 tp)/\(w3.drew.setCells g 0 (M.map U)).cell? ⟨w.heap.size+1,5,none⟩=some (.int .i64 ta)) :=
  ⟨(Bl.but B2.bl hB1 ae).range 0 _ (λj v hv=>by simpa using hv),Bl.there hA1 0 133 (by simp[HR.o.r3.1]),(Bl.but C2 hB1 ae).cell 0 _ rfl,(Bl.but C2 hB1 ae).cell 1 _ rfl,(Bl.but C2 hB1 ae).cell 2 _ rfl,(Bl.but C2 hB1 ae).cell 3 _ rfl,(Bl.but C2 hB1 ae).cell 4 _ rfl,(Bl.but C2 hB1 ae).cell 5 _ rfl⟩
 have kS2:Aside (((((((((w3.drew.setCells g 0 (M.map U)).setCell ⟨g,133,none⟩ (.int .i64 tn)).setCell ⟨g,134,none⟩ (.int .i64 tu)).setCell ⟨g,135,none⟩ (.int .i64 td)).setCell ⟨g,136,none⟩ (.int .i64 tm)).setCell ⟨g,137,none⟩ (.int .i64 tp)).setCell ⟨g,138,none⟩ (.int .i64 ta))).rangeAt w.heap.size 0 (M.map U)/\((((((((w3.drew.setCells g 0 (M.map U)).setCell ⟨g,133,none⟩ (.int .i64 tn)).setCell ⟨g,134,none⟩ (.int .i64 tu)).setCell ⟨g,135,none⟩ (.int .i64 td)).setCell ⟨g,136,none⟩ (.int .i64 tm)).setCell ⟨g,137,none⟩ (.int .i64 tp)).setCell ⟨g,138,none⟩ (.int .i64 ta))).there g 0 133/\((((((((w3.drew.setCells g 0 (M.map U)).setCell ⟨g,133,none⟩ (.int .i64 tn)).setCell ⟨g,134,none⟩ (.int .i64 tu)).setCell ⟨g,135,none⟩ (.int .i64 td)).setCell ⟨g,136,none⟩ (.int .i64 tm)).setCell ⟨g,137,none⟩ (.int .i64 tp)).setCell ⟨g,138,none⟩ (.int .i64 ta))).cell? ⟨w.heap.size+1,0,none⟩=some (.int .i64 tn)/\((((((((w3.drew.setCells g 0 (M.map U)).setCell ⟨g,133,none⟩ (.int .i64 tn)).setCell ⟨g,134,none⟩ (.int .i64 tu)).setCell ⟨g,135,none⟩ (.int .i64 td)).setCell ⟨g,136,none⟩ (.int .i64 tm)).setCell ⟨g,137,none⟩ (.int .i64 tp)).setCell ⟨g,138,none⟩ (.int .i64 ta))).cell? ⟨w.heap.size+1,1,none⟩=some (.int .i64 tu)/\((((((((w3.drew.setCells g 0 (M.map U)).setCell ⟨g,133,none⟩ (.int .i64 tn)).setCell ⟨g,134,none⟩ (.int .i64 tu)).setCell ⟨g,135,none⟩ (.int .i64 td)).setCell ⟨g,136,none⟩ (.int .i64 tm)).setCell ⟨g,137,none⟩ (.int .i64 tp)).setCell ⟨g,138,none⟩ (.int .i64 ta))).cell? ⟨w.heap.size+1,2,none⟩=some (.int .i64 td)/\((((((((w3.drew.setCells g 0 (M.map U)).setCell ⟨g,133,none⟩ (.int .i64 tn)).setCell ⟨g,134,none⟩ (.int .i64 tu)).setCell ⟨g,135,none⟩ (.int .i64 td)).setCell ⟨g,136,none⟩ (.int .i64 tm)).setCell ⟨g,137,none⟩ (.int .i64 tp)).setCell ⟨g,138,none⟩ (.int .i64 ta))).cell? ⟨w.heap.size+1,3,none⟩=some (.int .i64 tm)/\((((((((w3.drew.setCells g 0 (M.map U)).setCell ⟨g,133,none⟩ (.int .i64 tn)).setCell ⟨g,134,none⟩ (.int .i64 tu)).setCell ⟨g,135,none⟩ (.int .i64 td)).setCell ⟨g,136,none⟩ (.int .i64 tm)).setCell ⟨g,137,none⟩ (.int .i64 tp)).setCell ⟨g,138,none⟩ (.int .i64 ta))).cell? ⟨w.heap.size+1,4,none⟩=some (.int .i64 tp)/\((((((((w3.drew.setCells g 0 (M.map U)).setCell ⟨g,133,none⟩ (.int .i64 tn)).setCell ⟨g,134,none⟩ (.int .i64 tu)).setCell ⟨g,135,none⟩ (.int .i64 td)).setCell ⟨g,136,none⟩ (.int .i64 tm)).setCell ⟨g,137,none⟩ (.int .i64 tp)).setCell ⟨g,138,none⟩ (.int .i64 ta))).cell? ⟨w.heap.size+1,5,none⟩=some (.int .i64 ta)) :=
  ⟨(Bl.but B2.bl hB2 ae).range 0 _ (λj v hv=>by simpa using hv),Bl.there hA2 0 133 (by simp[HR.o.r3.1]),(Bl.but C2 hB2 ae).cell 0 _ rfl,(Bl.but C2 hB2 ae).cell 1 _ rfl,(Bl.but C2 hB2 ae).cell 2 _ rfl,(Bl.but C2 hB2 ae).cell 3 _ rfl,(Bl.but C2 hB2 ae).cell 4 _ rfl,(Bl.but C2 hB2 ae).cell 5 _ rfl⟩
 have o0:=hA1.cell 133 _ (by rw[pq (by simp[HR.o.r3.1])];simp[HR.o.r3.1,Sp.cells];rfl);have f0:=hA1.frozen 133;have o1:=hA1.cell 134 _ (by rw[pq (by simp[HR.o.r3.1])];simp[HR.o.r3.1,Sp.cells];rfl);have f1:=hA1.frozen 134;have o2:=hA1.cell 135 _ (by rw[pq (by simp[HR.o.r3.1])];simp[HR.o.r3.1,Sp.cells];rfl);have f2:=hA1.frozen 135;have o3:=hA1.cell 136 _ (by rw[pq (by simp[HR.o.r3.1])];simp[HR.o.r3.1,Sp.cells];rfl);have f3:=hA1.frozen 136;have o4:=hA1.cell 137 _ (by rw[pq (by simp[HR.o.r3.1])];simp[HR.o.r3.1,Sp.cells];rfl);have f4:=hA1.frozen 137;have o5:=hA1.cell 138 _ (by rw[pq (by simp[HR.o.r3.1])];simp[HR.o.r3.1,Sp.cells];rfl);have f5:=hA1.frozen 138;have fw0:=H2.o.1.frozen 133;have fw1:=H2.o.1.frozen 134;have fw2:=H2.o.1.frozen 135;have fw3:=H2.o.1.frozen 136;have fw4:=H2.o.1.frozen 137;have fw5:=H2.o.1.frozen 138;have HE:Aside (Ac (((((((w3.drew.setCells g 0 (M.map U)).setCell ⟨g,133,none⟩ (.int .i64 tn)).setCell ⟨g,134,none⟩ (.int .i64 tu)).setCell ⟨g,135,none⟩ (.int .i64 td)).setCell ⟨g,136,none⟩ (.int .i64 tm)).setCell ⟨g,137,none⟩ (.int .i64 tp)).setCell ⟨g,138,none⟩ (.int .i64 ta)) g M ⟨tn,tu,td,tm,tp,ta⟩/\But g w3 (((((((w3.drew.setCells g 0 (M.map U)).setCell ⟨g,133,none⟩ (.int .i64 tn)).setCell ⟨g,134,none⟩ (.int .i64 tu)).setCell ⟨g,135,none⟩ (.int .i64 td)).setCell ⟨g,136,none⟩ (.int .i64 tm)).setCell ⟨g,137,none⟩ (.int .i64 tp)).setCell ⟨g,138,none⟩ (.int .i64 ta))):=⟨hA2,hB2⟩;clear A2 B2 C2 hB0 hB1 hB2 hA1 hA2
 go_region_held (λw'=>(w').rangeAt w.heap.size 0 (M.map U)/\(w').there g 0 133/\(w').cell? ⟨w.heap.size+1,0,none⟩=some (.int .i64 tn)/\(w').cell? ⟨w.heap.size+1,1,none⟩=some (.int .i64 tu)/\(w').cell? ⟨w.heap.size+1,2,none⟩=some (.int .i64 td)/\(w').cell? ⟨w.heap.size+1,3,none⟩=some (.int .i64 tm)/\(w').cell? ⟨w.heap.size+1,4,none⟩=some (.int .i64 tp)/\(w').cell? ⟨w.heap.size+1,5,none⟩=some (.int .i64 ta)) (first | with_reducible exact kS2.o | with_reducible exact kS1.o | with_reducible exact kS0.o) (fail)
 clear kS0 kS1 kS2 o0 o1 o2 o3 o4 o5 f0 f1 f2 f3 f4 f5 fw0 fw1 fw2 fw3 fw4 fw5 hsz hone hlen hu;go_wp2;go_ret;exact⟨rfl,HE.o.1,((But.refl g w).pR H2.o.r3.1).trans HE.o.2⟩
theorem Nv(g:Nat)(L M:List Nat)(s t:Sp)(w:World)(hA:Ac w g L s)(hM:Wf M)(hm:M.length=133)(hb:Nq (val M)=true) :
 As 200 #[.pointer (some ⟨g,0,none⟩),.agg (M.map U).toArray,t.agg] w λr w' =>
  r=.returned (.int .i64 2)/\An w w':=by
 obtain⟨tn,tu,td,tm,tp,ta⟩:=t;simp only[Sp.agg];have HR:Aside (Wf M/\M.length=133/\Nq (val M)=true):=⟨hM,hm,hb⟩;clear hA hM hm hb;go_enter Tryz.func200,Tryz.ntmps200;go_wp2_with fail;obtain⟨w2,hw2⟩:=ah (((w.alloc (Obj.cells (M.map U).toArray 198)).alloc (Obj.cells #[.int .i64 tn,.int .i64 tu,.int .i64 td,.int .i64 tm,.int .i64 tp,.int .i64 ta] 72)));rw[<-hw2]
 have H2:Aside (Wb w2 w.heap.size M/\An w w2):=by
  subst hw2;exact⟨((Bl.new w 198 (M.map U)).alloc _).wb,(aC w _).trans ((aC _ _).mono aN)⟩
 clear hw2;refine eG (yJ w.heap.size M w2 HR.o.2.1 HR.o.1 H2.o.1.hd) ?_;rintro r w3 ⟨rfl,rfl⟩;rw[HR.o.r2];go_wp2;go_ret;exact⟨rfl,H2.o.2⟩
def Sp.ok(s:Sp):Prop:=(-4398046511104<=s.n/\s.n<=4398046511104)/\(-4398046511104<=s.u/\s.u<=4398046511104)/\(-4398046511104<=s.d/\s.d<=4398046511104)/\(-4398046511104<=s.m/\s.m<=4398046511104)/\(-4398046511104<=s.p/\s.p<=4398046511104)/\(-4398046511104<=s.a/\s.a<=4398046511104)
def Sp.cnt(s:Sp)(k:Nat)(c:Int):Sp :=
 ⟨if k=1 then s.n+c else s.n,if k=2 then s.u+c else s.u,if k=3 then s.d+c else s.d,if k=4 then s.m+c else s.m,if k=5 then s.p+c else s.p,s.a+c⟩
theorem nU(b:Bool)(x y:Int)(w:World):Ax 220 #[.bool b,.int .i64 x,.int .i64 y] w (.int .i64 (if b then x else y)):=by
 cases b
 . go_enter Tryz.func220,Tryz.ntmps220;go_wp2;exact Jx
 . go_enter Tryz.func220,Tryz.ntmps220;go_wp2;exact Jx
theorem FH(s:Sp)(k:Nat)(c:Int)(w:World)(hk:k<=5)(hs:s.ok)(hc0:-1<=c)(hc1:c<=1):As 202 #[s.agg,.int .i64 (k:Nat),.int .i64 c] w λr w'=>r=.returned (s.cnt k c).agg/\An w w':=by
 obtain⟨n,u,d,m,p,a⟩:=s;obtain⟨h0,h1,h2,h3,h4,h5⟩:=hs;simp only[Sp.agg] at *;have hc:k=0\/k=1\/k=2\/k=3\/k=4\/k=5:=ae
 rcases hc with rfl|rfl|rfl|rfl|rfl|rfl
 all_goals (
  go_enter Tryz.func202,Tryz.ntmps202;go_wp2
  exact aH (v:=(Sp.cnt ⟨n,u,d,m,p,a⟩ _ c).agg) (by simp[results,Tryz.results202,go_sem,Sp.agg,Sp.cnt]) rfl ⟨rfl,(aC _ _).trans ((aC _ _).mono aN)⟩)
end
end Go.Proofs.YtjppdacikihpdaaGreatDoor
