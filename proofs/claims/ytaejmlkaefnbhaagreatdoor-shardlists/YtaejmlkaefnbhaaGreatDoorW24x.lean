import Derived.Test.YtaejmlkaefnbhaaGreatDoorW14x
import Derived.Test.YtaejmlkaefnbhaaGreatDoorM1x
import Derived.WalkLawsBesides
import Derived.WalkMore
import Derived.Deep.MidRow
import Derived.ChangeKeysEq
import Derived.Laws.OwnMore
import Derived.Lib.SliceRun
import Derived.Deep.RegionHeld
set_option linter.unusedVariables false
set_option linter.unusedSimpArgs false
set_option maxHeartbeats 16000000
set_option maxRecDepth 20000
namespace Go.Proofs.YtaejmlkaefnbhaaGreatDoor
section
open Go.RowKit
abbrev LG(X:Nat):Prop:=8192<(ws X).length
def vY(X Y:Nat):Nat×Int:=if LG (X+Y) then(0,2) else(X+Y,0)
def oF(X Y:Nat):Nat×Int:=if LG X\/LG Y then(0,2) else if X<Y then(0,20) else(X-Y,0)
def jD(X Y:Nat):Nat×Int:=if LG X\/LG Y then(0,2) else if LG (X*Y) then(0,2) else(X*Y,0)
def oG(X Y:Nat):Nat×Nat×Int:=if LG X\/LG Y then(0,0,2) else if Y=0 then(0,0,21) else(X/Y,X%Y,0)
def aX(X:Nat)(by':Int):Nat×Int:=if LG X then(0,2) else if X=0 then(0,0) else if by'<0 then(X/2^(-by').toNat,0) else if 262144-(bl X:Int)<by' then(0,2) else(X*2^by'.toNat,0)
def One(lo:Nat)(w:World)(r:Ending)(a:Nat×Int):Prop:=∃ v,r=.returned (.tuple #[v,.int .i64 a.2])/\Nt lo w v a.1
theorem rY(xs:List Nat)(ao:Option Addr)(n cap B:Nat)(w:World)(hn:n=xs.length)(hc:n<=cap)(hm:n<=70368744177664)(hx:Wf xs)(hR:Rd B w ao xs) :
 (Calls Tryz.prog 185 #[.slice ao n cap] w fun r w'=>r=.returned (.slice ao (ws (val xs)).length cap)/\w'=w)/\Rd B w ao (ws (val xs))/\(ws (val xs)).length<=n:=by
 have T:=dK xs ao n cap B w hn hc af hR;have hl:=nM xs;have hf:=rT xs hx;have hlen:=fT xs hx;rw[hlen] at T hl hf;exact⟨T,by rw[<-hf];exact hR.take _,af⟩
theorem Ll (xs ys:List Nat) (ao bo:Option Addr) (n cap m bA B:Nat) (w:World) (hn:n=xs.length) (hm:m=ys.length) (hc:n<=cap) (hcb:m<=bA) (hbig:n<=35184372088833) (hbig2:m<=35184372088833)
 (hx:Wf xs) (hy:Wf ys) (hR:Rd B w ao xs) (hS:Rd B w bo ys) (hB:B<=w.heap.size) :
 Calls Tryz.prog 233 #[.slice ao n cap,.slice bo m bA] w fun r w'=>One w.heap.size w' r (vY (val xs) (val ys))/\Below w.heap.size w w':=by
 obtain⟨T1,oH,hl1⟩:=rY xs ao n cap B w hn hc af hx hR;obtain⟨T2,vZ,hl2⟩:=rY ys bo m bA B w hm hcb af hy hS;generalize val xs=X at *;generalize val ys=Y at *;have A0:=Vs (ws X) (ws Y) ao bo _ cap _ bA B w rfl rfl af af af af (fP X) (fP Y) oH vZ hB;rw[aC,aC] at A0;have H1:=(hid T1);have H2:=(hid T2);have H3:=(hid A0);clear T1 T2 A0 oH vZ hn hm hx hy hR hS hl1 hl2;go_enter Tryz.func233,Tryz.ntmps233;go_wp2_with fail;refine H1.o.mono ?_;rintro r w1 ⟨rfl,rfl⟩;go_wp2_with fail;refine H2.o.mono ?_;rintro r w1 ⟨rfl,rfl⟩;go_wp2_with fail;refine H3.o.mono ?_;rintro r w2 ⟨v,rfl,hN,hb⟩;obtain⟨av,cv,rfl,hcv,hcm,hRv⟩:=hN.shape;have U0:=oq (ws (X+Y)).length av cv w2;have HN:=(aT hN hb);clear H1 H2 H3 hN hb hRv
 by_cases hL:LG (X+Y)
 · rw[if_pos (show 8192<(ws (X+Y)).length from hL)] at U0;have U:=(hid U0);clear U0;go_wp2_with fail;refine U.o.mono ?_;rintro r w3 ⟨rfl,rfl⟩;go_wp2
   go_ret2
   rw[show vY X Y=(0,2) by simp[vY,hL]];exact⟨⟨_,rfl,Nt.nil _ _⟩,HN.o.2⟩
 · rw[if_neg (show ¬ 8192<(ws (X+Y)).length from hL)] at U0;have U:=(hid U0);clear U0;go_wp2_with fail;refine U.o.mono ?_;rintro r w3 ⟨rfl,rfl⟩;go_wp2
   go_ret2
   rw[show vY X Y=(X+Y,0) by simp[vY,hL]];exact⟨⟨_,rfl,HN.o.1⟩,HN.o.2⟩
theorem lQ(n:Nat)(ao:Option Addr)(cap:Nat)(w:World)(b:Bool)(hb:decide (8192<n)=b) :
 Calls Tryz.prog 228 #[.slice ao n cap] w fun r w'=>r=.returned (.bool b)/\w'=w:=by
 have h:=xM n ao cap w;have e:decide ((8192:Int)<(n:Int))=b:=by rw[<-hb];simp only[decide_eq_decide];omega
 rw[e] at h;exact h
theorem qk{P:Prop}(h:P:=by
 go_wp2_with fail;refine H1.o.mono ?_;rintro r w1 ⟨rfl,rfl⟩;go_wp2_with fail;refine H2.o.mono ?_;rintro r w1 ⟨rfl,rfl⟩;go_wp2_with fail;refine L.o.mono ?_;rintro r w1 ⟨rfl,rfl⟩;go_wp2
 go_ret2
 exact⟨⟨_,rfl,Nt.nil _ _⟩,aG _ _⟩):P:=h
theorem qe{P:Prop}(h:P:=by
 go_wp2_with fail;refine H1.o.mono ?_;rintro r w1 ⟨rfl,rfl⟩;go_wp2_with fail;refine H2.o.mono ?_;rintro r w1 ⟨rfl,rfl⟩;go_wp2_with fail;refine L.o.mono ?_;rintro r w1 ⟨rfl,rfl⟩;go_wp2_with fail;refine L2.o.mono ?_;rintro r w1 ⟨rfl,rfl⟩;go_wp2
 go_ret2
 exact⟨⟨_,rfl,Nt.nil _ _⟩,aG _ _⟩):P:=h
theorem Vx (xs ys:List Nat) (ao bo:Option Addr) (n cap m bA B:Nat) (w:World) (hn:n=xs.length) (hm:m=ys.length) (hc:n<=cap) (hcb:m<=bA) (hbig:n<=35184372088833) (hbig2:m<=35184372088833)
 (hx:Wf xs) (hy:Wf ys) (hR:Rd B w ao xs) (hS:Rd B w bo ys) (hB:B<=w.heap.size) :
 Calls Tryz.prog 235 #[.slice ao n cap,.slice bo m bA] w fun r w'=>One w.heap.size w' r (oF (val xs) (val ys))/\Below w.heap.size w w':=by
 obtain⟨T1,oH,hl1⟩:=rY xs ao n cap B w hn hc af hx hR;obtain⟨T2,vZ,hl2⟩:=rY ys bo m bA B w hm hcb af hy hS;generalize val xs=X at *;generalize val ys=Y at *;have H1:=(hid T1);have H2:=(hid T2);have HR:=(mh oH vZ hl1 hl2);clear T1 T2 oH vZ hn hm hx hy hR hS hl1 hl2
 by_cases kr:LG X
 · have L:=hid (lQ (ws X).length ao cap w true (by simpa [LG] using kr));have e:oF X Y=(0,2):=by simp[oF,kr]
   rw[e];clear e kr HR;go_enter Tryz.func235,Tryz.ntmps235;exact qk
 · have L:=hid (lQ (ws X).length ao cap w false (by simpa [LG] using kr))
   by_cases qE:LG Y
   · have L2:=hid (lQ (ws Y).length bo bA w true (by simpa [LG] using qE));have e:oF X Y=(0,2):=by simp[oF,qE]
     rw[e];clear e kr qE HR;go_enter Tryz.func235,Tryz.ntmps235;exact qe
   · have L2:=hid (lQ (ws Y).length bo bA w false (by simpa [LG] using qE));obtain⟨oH,vZ,hl1,hl2⟩:=HR.o;have C0:=Lj (ws X) (ws Y) ao bo _ cap _ bA B w rfl rfl af af af af (fP X) (fP Y) oH vZ;rw[aC,aC] at C0
     by_cases hlt:X<Y
     · rw[wH hlt] at C0;have C:=hid C0;have e:oF X Y=(0,20):=by simp[oF,kr,qE,hlt]
       rw[e];clear e kr qE HR C0 hlt oH vZ hl1 hl2;go_enter Tryz.func235,Tryz.ntmps235;go_wp2_with fail;refine H1.o.mono ?_;rintro r w1 ⟨rfl,rfl⟩;go_wp2_with fail;refine H2.o.mono ?_;rintro r w1 ⟨rfl,rfl⟩;go_wp2_with fail;refine L.o.mono ?_;rintro r w1 ⟨rfl,rfl⟩;go_wp2_with fail;refine L2.o.mono ?_;rintro r w1 ⟨rfl,rfl⟩;go_wp2_with fail;refine C.o.mono ?_;rintro r w2 ⟨rfl,hb⟩;have HB:=(au hb);clear hb;go_wp2
       go_ret2
       exact⟨⟨_,rfl,Nt.nil _ _⟩,HB.o⟩
     · have hc1:0<=aZ X Y:=by unfold aZ;rw[if_neg hlt];split <;> omega
       obtain⟨cc,hcc⟩:∃ cc,aZ X Y=cc:=⟨_,rfl⟩;rw[hcc] at C0 hc1;have C:=hid C0;have e:oF X Y=(X-Y,0):=by simp[oF,kr,qE,hlt]
       rw[e];have HL:=(au hlt);clear e kr qE C0 hlt oH vZ hl1 hl2 hcc;go_enter Tryz.func235,Tryz.ntmps235;go_wp2_with fail;refine H1.o.mono ?_;rintro r w1 ⟨rfl,rfl⟩;go_wp2_with fail;refine H2.o.mono ?_;rintro r w1 ⟨rfl,rfl⟩;go_wp2_with fail;refine L.o.mono ?_;rintro r w1 ⟨rfl,rfl⟩;go_wp2_with fail;refine L2.o.mono ?_;rintro r w1 ⟨rfl,rfl⟩;go_wp2_with fail;refine C.o.mono ?_;rintro r w2 ⟨rfl,hb⟩;obtain⟨oH,vZ,hl1,hl2⟩:=HR.o;have hs:=hb.size;have S0:=Vu (ws X) (ws Y) ao bo _ cap _ bA B w2 rfl rfl (Fj (by have:=HL.o;omega)) af af af (fP X) (fP Y) (by rw[aC,aC];have:=HL.o;omega) (oH.below (hb.mono hB)) (vZ.below (hb.mono hB)) af;rw[aC,aC] at S0;have S:=hid S0;have HB:=(aT hb hs);clear hb oH vZ hl1 hl2 S0 hs C;go_wp2_with fail;refine S.o.mono ?_;rintro r w3 ⟨v,rfl,hN,hb2⟩;have HN:=(aT hN hb2);clear hN hb2 S;go_wp2
       go_ret2
       obtain⟨hb,hs⟩:=HB.o;exact⟨⟨_,rfl,HN.o.1.mono hs⟩,hb.trans (HN.o.2.mono hs)⟩
theorem Lm (xs ys:List Nat) (ao bo:Option Addr) (n cap m bA B:Nat) (w:World) (hn:n=xs.length) (hm:m=ys.length) (hc:n<=cap) (hcb:m<=bA) (hbig:n<=35184372088833) (hbig2:m<=35184372088833)
 (hx:Wf xs) (hy:Wf ys) (hR:Rd B w ao xs) (hS:Rd B w bo ys) (hB:B<=w.heap.size) :
 Calls Tryz.prog 244 #[.slice ao n cap,.slice bo m bA] w fun r w'=>One w.heap.size w' r (jD (val xs) (val ys))/\Below w.heap.size w w':=by
 obtain⟨T1,oH,hl1⟩:=rY xs ao n cap B w hn hc af hx hR;obtain⟨T2,vZ,hl2⟩:=rY ys bo m bA B w hm hcb af hy hS;generalize val xs=X at *;generalize val ys=Y at *;have H1:=(hid T1);have H2:=(hid T2);have HR:=(mh oH vZ hl1 hl2);clear T1 T2 oH vZ hn hm hx hy hR hS hl1 hl2
 by_cases kr:LG X
 · have L:=hid (lQ (ws X).length ao cap w true (by simpa [LG] using kr));have e:jD X Y=(0,2):=by simp[jD,kr]
   rw[e];clear e kr HR;go_enter Tryz.func244,Tryz.ntmps244;exact qk
 · have L:=hid (lQ (ws X).length ao cap w false (by simpa [LG] using kr))
   by_cases qE:LG Y
   · have L2:=hid (lQ (ws Y).length bo bA w true (by simpa [LG] using qE));have e:jD X Y=(0,2):=by simp[jD,qE]
     rw[e];clear e kr qE HR;go_enter Tryz.func244,Tryz.ntmps244;exact qe
   · have L2:=hid (lQ (ws Y).length bo bA w false (by simpa [LG] using qE));have hz1:(ws X).length=0->X=0:=(dA X).1;have hz2:(ws Y).length=0->Y=0:=(dA Y).1
     by_cases h1:(ws X).length=0
     · have e:jD X Y=(0,0):=by
        have:=hz1 h1;subst this;unfold jD;rw[if_neg (by simp[kr,qE]),gT,if_neg kr]
       rw[e];have hh:=hid h1;rw[h1] at H1 L;have h1b:((ws X).length:Int)=0:=af
       clear e kr qE HR hz1 hz2 h1 h1b hh;go_enter Tryz.func244,Tryz.ntmps244;exact qe
     · by_cases h2:(ws Y).length=0
       · have e:jD X Y=(0,0):=by
          have:=hz2 h2;subst this;unfold jD;rw[if_neg (by simp[kr,qE]),nL,if_neg qE]
         rw[e];rw[h2] at H2 L2;obtain⟨k1,hk1⟩:∃ k,(ws X).length=k:=⟨_,rfl⟩;rw[hk1] at H1 L h1;have h1b:((k1:Int)==0)=false:=by simp;omega
         clear e kr qE HR hz1 hz2 h2 hk1;go_enter Tryz.func244,Tryz.ntmps244;exact qe
       · have hX0:X≠0:=fun e=>h1 ((dA X).2 e);have hY0:Y≠0:=fun e=>h2 ((dA Y).2 e)
         have hlow:pw ((ws X).length+(ws Y).length-2)<=X*Y:=by
          have a:=mo (tK X hX0) (tK Y hY0);rw[<-Ct] at a;rw[show(ws X).length+(ws Y).length-2=(ws X).length-1+((ws Y).length-1) by omega];exact a
         obtain⟨oH,vZ,hl1,hl2⟩:=HR.o;have M0:=Vv (ws X) (ws Y) ao bo _ cap _ bA B w rfl rfl af af (by unfold LG at kr qE;omega) (fP X) (fP Y) oH vZ hB;rw[aC,aC] at M0;have Vy:(ws X).length<=8192:=by unfold LG at kr;omega
         have Vz:(ws Y).length<=8192:=by unfold LG at qE;omega
         obtain⟨k1,hk1⟩:∃ k,(ws X).length=k:=⟨_,rfl⟩;obtain⟨k2,hk2⟩:∃ k,(ws Y).length=k:=⟨_,rfl⟩;rw[hk1] at H1 L h1 M0 hlow Vy;rw[hk2] at H2 L2 h2 M0 hlow Vz;have h1b:((k1:Int)==0)=false:=by simp;omega
         have h2b:((k2:Int)==0)=false:=by simp;omega
         by_cases h3:8192<k1+k2-1
         · have hLG:LG (X*Y):=by
            unfold LG
            by_cases h4:(ws (X*Y)).length<=8192
            · have:=(cO _ _).1 h4;have:=mW (show 8192<=k1+k2-2 by omega);omega
            · omega
           have e:jD X Y=(0,2):=by simp[jD,hLG]
           rw[e];have h3i:(8192:Int)<(k1:Int)+(k2:Int)-1:=af
           clear e kr qE HR hz1 hz2 hk1 hk2 oH vZ hl1 hl2 M0 hX0 hY0 hlow hLG h3;go_enter Tryz.func244,Tryz.ntmps244;exact qe
         · have h3i:(k1:Int)+(k2:Int)-1<=8192:=af
           have h3b:decide ((8192:Int)<(k1:Int)+(k2:Int)-1)=false:=decide_eq_false af;have M:=hid M0;have HL:=(aT kr qE);clear kr qE HR hz1 hz2 hk1 hk2 oH vZ hl1 hl2 M0 hX0 hY0 hlow h3;go_enter Tryz.func244,Tryz.ntmps244;go_wp2_with fail;refine H1.o.mono ?_;rintro r w1 ⟨rfl,rfl⟩;go_wp2_with fail;refine H2.o.mono ?_;rintro r w1 ⟨rfl,rfl⟩;go_wp2_with fail;refine L.o.mono ?_;rintro r w1 ⟨rfl,rfl⟩;go_wp2_with fail;refine L2.o.mono ?_;rintro r w1 ⟨rfl,rfl⟩;go_wp2_with fail;refine M.o.mono ?_;rintro r w2 ⟨v,rfl,hN,hb⟩;obtain⟨av,cv,rfl,hcv,hcm,hRv⟩:=hN.shape;have U0:=oq (ws (X*Y)).length av cv w2;have HN:=(aT hN hb);clear M hN hb hRv
           by_cases hL:LG (X*Y)
           · rw[if_pos (show 8192<(ws (X*Y)).length from hL)] at U0;have U:=(hid U0);clear U0;go_wp2_with fail;refine U.o.mono ?_;rintro r w3 ⟨rfl,rfl⟩;go_wp2
             go_ret2
             rw[show jD X Y=(0,2) by simp[jD,hL]];exact⟨⟨_,rfl,Nt.nil _ _⟩,HN.o.2⟩
           · rw[if_neg (show ¬ 8192<(ws (X*Y)).length from hL)] at U0;have U:=(hid U0);clear U0;go_wp2_with fail;refine U.o.mono ?_;rintro r w3 ⟨rfl,rfl⟩;go_wp2
             go_ret2
             rw[show jD X Y=(X*Y,0) by simp[jD,HL.o.1,HL.o.2,hL]];exact⟨⟨_,rfl,HN.o.1⟩,HN.o.2⟩
def Three(lo:Nat)(w:World)(r:Ending)(a:Nat×Nat×Int):Prop:=∃ v u,r=.returned (.tuple #[v,u,.int .i64 a.2.2])/\Nt lo w v a.1/\Nt lo w u a.2.1/\Apart v u
theorem yp{P:Prop}(h:P:=by
 clear e kr qE HR;go_enter Tryz.func255,Tryz.ntmps255;go_wp2_with fail;refine H1.o.mono ?_;rintro r w1 ⟨rfl,rfl⟩;go_wp2_with fail;refine H2.o.mono ?_;rintro r w1 ⟨rfl,rfl⟩;go_wp2_with fail;refine L.o.mono ?_;rintro r w1 ⟨rfl,rfl⟩;go_wp2_with fail;refine L2.o.mono ?_;rintro r w1 ⟨rfl,rfl⟩;go_wp2
 go_ret3
 exact⟨⟨_,_,rfl,Nt.nil _ _,Nt.nil _ _,pV _⟩,aG _ _⟩):P:=h
theorem VA (xs ys:List Nat) (ao bo:Option Addr) (n cap m bA B:Nat) (w:World) (hn:n=xs.length) (hm:m=ys.length) (hc:n<=cap) (hcb:m<=bA) (hbig:n<=35184372088833) (hbig2:m<=35184372088833)
 (hx:Wf xs) (hy:Wf ys) (hR:Rd B w ao xs) (hS:Rd B w bo ys) (hB:B<=w.heap.size) :
 Calls Tryz.prog 255 #[.slice ao n cap,.slice bo m bA] w fun r w'=>Three w.heap.size w' r (oG (val xs) (val ys))/\Below w.heap.size w w':=by
 obtain⟨T1,oH,hl1⟩:=rY xs ao n cap B w hn hc af hx hR;obtain⟨T2,vZ,hl2⟩:=rY ys bo m bA B w hm hcb af hy hS;generalize val xs=X at *;generalize val ys=Y at *;have H1:=(hid T1);have H2:=(hid T2);have HR:=(mh oH vZ hl1 hl2);clear T1 T2 oH vZ hn hm hx hy hR hS hl1 hl2
 by_cases kr:LG X
 · have L:=hid (lQ (ws X).length ao cap w true (by simpa [LG] using kr));have e:oG X Y=(0,0,2):=by simp[oG,kr]
   rw[e];clear e kr HR;go_enter Tryz.func255,Tryz.ntmps255;go_wp2_with fail;refine H1.o.mono ?_;rintro r w1 ⟨rfl,rfl⟩;go_wp2_with fail;refine H2.o.mono ?_;rintro r w1 ⟨rfl,rfl⟩;go_wp2_with fail;refine L.o.mono ?_;rintro r w1 ⟨rfl,rfl⟩;go_wp2
   go_ret3
   exact⟨⟨_,_,rfl,Nt.nil _ _,Nt.nil _ _,pV _⟩,aG _ _⟩
 · have L:=hid (lQ (ws X).length ao cap w false (by simpa [LG] using kr))
   by_cases qE:LG Y
   · have L2:=hid (lQ (ws Y).length bo bA w true (by simpa [LG] using qE));have e:oG X Y=(0,0,2):=by simp[oG,qE]
     rw[e];exact yp
   · have L2:=hid (lQ (ws Y).length bo bA w false (by simpa [LG] using qE))
     by_cases h2:Y=0
     · have e:oG X Y=(0,0,21):=by unfold oG;rw[if_neg (by simp[kr,qE]),if_pos h2]
       rw[e];subst h2;rw[bB] at H2 L2;exact yp
     · have h3:(ws Y).length≠0:=fun e=>h2 ((dA Y).1 e);obtain⟨oH,vZ,hl1,hl2⟩:=HR.o;have D0:=Vt (ws X) (ws Y) ao bo _ cap _ bA B w rfl rfl af af af af (fP X) (fP Y) (Zj Y h2) oH vZ hB;rw[aC,aC] at D0;have e:oG X Y=(X/Y,X%Y,0):=by simp[oG,kr,qE,h2]
       rw[e];obtain⟨k2,hk2⟩:∃ k,(ws Y).length=k:=⟨_,rfl⟩;rw[hk2] at H2 L2 D0 h3;have h2b:((k2:Int)==0)=false:=by simp;omega
       have D:=hid D0;clear e kr qE HR hk2 oH vZ hl1 hl2 D0 h2;go_enter Tryz.func255,Tryz.ntmps255;go_wp2_with fail;refine H1.o.mono ?_;rintro r w1 ⟨rfl,rfl⟩;go_wp2_with fail;refine H2.o.mono ?_;rintro r w1 ⟨rfl,rfl⟩;go_wp2_with fail;refine L.o.mono ?_;rintro r w1 ⟨rfl,rfl⟩;go_wp2_with fail;refine L2.o.mono ?_;rintro r w1 ⟨rfl,rfl⟩;go_wp2_with fail;refine D.o.mono ?_;rintro r w2 ⟨⟨v,u,rfl,hN1,zI,hap⟩,hb⟩;have HN:=(mh hN1 zI hap hb);clear hN1 zI hap hb D;go_wp2
       go_ret3
       obtain⟨hN1,zI,hap,hb⟩:=HN.o;exact⟨⟨_,_,rfl,hN1,zI,hap⟩,hb⟩
theorem lS(X k:Nat)(h:X<pw k):bl X<=32*k:=by
 by_cases h0:X=0
 · subst h0;rw[eY];omega
 · have h1:=iM X h0;have h3:pw k=2^(32*k):=by rw[<-gU (32*k),mZ];simp
   rw[h3] at h;have:=(ku (a:=2) aA).1 (iC h1 h);omega
theorem Ra(X:Nat)(h:¬ LG X):bl X<=262144 :=
 lS X 8192 ((cO X 8192).1 (by unfold LG at h;omega))
theorem Qak{P:Prop}(h:P:=by
 refine D.o.mono ?_;rintro r w2 ⟨v,rfl,hN,hb⟩;have HN:=(aT hN hb);clear hN hb D;go_wp2
 go_ret2
 exact⟨⟨_,rfl,HN.o.1⟩,HN.o.2⟩):P:=h
theorem Au (xs:List Nat) (ao:Option Addr) (n cap B:Nat) (by':Int) (w:World) (hn:n=xs.length) (hc:n<=cap) (hbig:n<=35184372088833)
 (hx:Wf xs) (hR:Rd B w ao xs) (hB:B<=w.heap.size) (hb0:-9223372036854775808<=by') (hb1:by'<=9223372036854775807) :
 Calls Tryz.prog 172 #[.slice ao n cap,.int .i64 by'] w fun r w'=>One w.heap.size w' r (aX (val xs) by')/\Below w.heap.size w w':=by
 obtain⟨T1,oH,hl1⟩:=rY xs ao n cap B w hn hc af hx hR;generalize val xs=X at *;have N0:=kE (ws X) ao _ cap B w rfl af af (fP X) oH;rw[aC] at N0;have H1:=(hid T1);have H2:=(hid N0);have HR:=(aT oH hl1);clear T1 N0 oH hn hx hR hl1
 by_cases kr:LG X
 · have L:=hid (lQ (ws X).length ao cap w true (by simpa [LG] using kr));have e:aX X by'=(0,2):=by simp[aX,kr]
   rw[e];clear e kr HR;generalize bl X=c at *;go_enter Tryz.func172,Tryz.ntmps172;exact qk
 · have L:=hid (lQ (ws X).length ao cap w false (by simpa [LG] using kr));have hbs:=Ra X kr;obtain⟨c,hcc⟩:∃ c,bl X=c:=⟨_,rfl⟩
   by_cases h0:X=0
   · have e:aX X by'=(0,0):=by unfold aX;rw[if_neg kr,if_pos h0]
     rw[e];subst h0;rw[bB] at H1 H2 L;rw[eY] at H2;clear e kr HR hbs hcc;go_enter Tryz.func172,Tryz.ntmps172;exact qk
   · have hcp:=fH X h0;have hlt:=iF X;rw[hcc] at hcp hbs H2 hlt;have hcne:((c:Int)==0)=false:=by simp;omega
     by_cases hneg:by'<0
     · obtain⟨d,hd⟩:∃ d:Nat,(d:Int)=-by':=⟨(-by').toNat,af⟩
       have e:aX X by'=(X/2^d,0):=by
        unfold aX;rw[if_neg kr,if_neg h0,if_pos hneg,<-hd,kV]
       rw[e]
       by_cases hbig2:by'<=-(c:Int)
       · have e2:X/2^d=0:=iI (gG hlt (gF aA af));rw[e2];clear e e2 kr HR hcc hlt hd h0;go_enter Tryz.func172,Tryz.ntmps172;exact qk
       · obtain⟨oH,hl1⟩:=HR.o;have D0:=Fe (ws X) ao _ cap B d (d/32) (d%32) w rfl af af af af af (fP X) oH hB;rw[aC] at D0;have D:=hid D0;have hgt:-(c:Int)<by':=af
         have hd':-by'=(d:Int):=hd.symm
         clear e kr HR hcc hlt h0 oH hl1 D0 hbig2 hd;go_enter Tryz.func172,Tryz.ntmps172;go_wp2_with fail;refine H1.o.mono ?_;rintro r w1 ⟨rfl,rfl⟩;go_wp2_with fail;refine H2.o.mono ?_;rintro r w1 ⟨rfl,rfl⟩;go_wp2_with fail;refine L.o.mono ?_;rintro r w1 ⟨rfl,rfl⟩;go_wp2_with fail
         try rw[hd']
         exact Qak
     · obtain⟨d,rfl⟩:∃ d:Nat,by'=(d:Int):=⟨by'.toNat,af⟩
       by_cases Rb:262144-(c:Int)<(d:Int)
       · have e:aX X (d:Int)=(0,2):=by unfold aX;rw[if_neg kr,if_neg h0,if_neg hneg,hcc,if_pos Rb]
         rw[e];clear e kr HR hcc hlt h0 hneg;go_enter Tryz.func172,Tryz.ntmps172;exact qk
       · have e:aX X (d:Int)=(X*2^d,0):=by unfold aX;rw[if_neg kr,if_neg h0,if_neg hneg,hcc,if_neg Rb,kV]
         rw[e];obtain⟨oH,hl1⟩:=HR.o;have D0:=Jf (ws X) ao _ cap B d (d/32) (d%32) w rfl af af af (by unfold LG at kr;omega) (fP X) oH hB;rw[aC] at D0;have D:=hid D0;have hle:(d:Int)<=262144-(c:Int):=af
         have hleb:decide (262144-(c:Int)<(d:Int))=false:=decide_eq_false af;clear e kr HR hcc hlt h0 oH hl1 D0 Rb hneg;go_enter Tryz.func172,Tryz.ntmps172;go_wp2_with fail;refine H1.o.mono ?_;rintro r w1 ⟨rfl,rfl⟩;go_wp2_with fail;refine H2.o.mono ?_;rintro r w1 ⟨rfl,rfl⟩;go_wp2_with fail;refine L.o.mono ?_;rintro r w1 ⟨rfl,rfl⟩;go_wp2_with fail;exact Qak
structure Arg (w:World) (a:Option Addr) (n c:Nat) (xs:List Nat):Prop where
 len:n=xs.length
 cap:n<=c
 big:n<=35184372088832
 wf:Wf xs
 rd:Rd w.heap.size w a xs
 nil:a=none->c=0
theorem Arg.below{w w':World}{a:Option Addr}{n c:Nat}{xs:List Nat}(h:Arg w a n c xs)(hb:Below w.heap.size w w'):Arg w' a n c xs :=
 ⟨h.len,h.cap,h.big,h.wf,(h.rd.below hb).mono hb.size,h.nil⟩
theorem Nt.arg{lo:Nat}{w:World}{v:Value}{X:Nat}(h:Nt lo w v X)(hs:(ws X).length<=35184372088832):∃ a c,v=.slice a (ws X).length c/\Arg w a (ws X).length c (ws X):=by
 have h':=h;obtain⟨a,c,rfl,h1,h2,h3⟩:=h.shape;refine⟨a,c,rfl,rfl,h1,hs,fP X,h3,fun e=>?_⟩;rcases h'.2 with ⟨e1,_⟩|⟨g,cap,cur,e1,_⟩
 · simp only[Value.slice.injEq] at e1;exact e1.2.2
 · simp only[Value.slice.injEq] at e1;rw[e1.1] at e;cases e
theorem Cz{lo:Nat}{w:World}{r:Ending}{a:Nat×Int}{V:Nat}(h:One lo w r a)(e:a=(V,0)):∃ v,r=.returned (.tuple #[v,.int .i64 0])/\Nt lo w v V:=by
 subst e;exact h
theorem Lp{w:World}{a b:Option Addr}{n c m d:Nat}{xs ys:List Nat}{V:Nat}(h1:Arg w a n c xs)(h2:Arg w b m d ys)(e:jD (val xs) (val ys)=(V,0)) :
 Calls Tryz.prog 244 #[.slice a n c,.slice b m d] w fun r w'=>∃ v,r=.returned (.tuple #[v,.int .i64 0])/\Nt w.heap.size w' v V/\Below w.heap.size w w' :=
 (Lm xs ys a b n c m d w.heap.size w h1.len h2.len h1.cap h2.cap (by have:=h1.big;omega) (by have:=h2.big;omega) h1.wf h2.wf h1.rd h2.rd (aB _)).mono
  fun r w' ⟨ho,hb⟩=>by obtain⟨v,h3,h4⟩:=Cz ho e;exact⟨v,h3,h4,hb⟩
theorem wI{w:World}{a b:Option Addr}{n c m d:Nat}{xs ys:List Nat}{V:Nat}(h1:Arg w a n c xs)(h2:Arg w b m d ys)(e:vY (val xs) (val ys)=(V,0)) :
 Calls Tryz.prog 233 #[.slice a n c,.slice b m d] w fun r w'=>∃ v,r=.returned (.tuple #[v,.int .i64 0])/\Nt w.heap.size w' v V/\Below w.heap.size w w' :=
 (Ll xs ys a b n c m d w.heap.size w h1.len h2.len h1.cap h2.cap (by have:=h1.big;omega) (by have:=h2.big;omega) h1.wf h2.wf h1.rd h2.rd (aB _)).mono
  fun r w' ⟨ho,hb⟩=>by obtain⟨v,h3,h4⟩:=Cz ho e;exact⟨v,h3,h4,hb⟩
theorem wJ{w:World}{a b:Option Addr}{n c m d:Nat}{xs ys:List Nat}{V:Nat}(h1:Arg w a n c xs)(h2:Arg w b m d ys)(e:oF (val xs) (val ys)=(V,0)) :
 Calls Tryz.prog 235 #[.slice a n c,.slice b m d] w fun r w'=>∃ v,r=.returned (.tuple #[v,.int .i64 0])/\Nt w.heap.size w' v V/\Below w.heap.size w w' :=
 (Vx xs ys a b n c m d w.heap.size w h1.len h2.len h1.cap h2.cap (by have:=h1.big;omega) (by have:=h2.big;omega) h1.wf h2.wf h1.rd h2.rd (aB _)).mono
  fun r w' ⟨ho,hb⟩=>by obtain⟨v,h3,h4⟩:=Cz ho e;exact⟨v,h3,h4,hb⟩
theorem fI{w:World}{a:Option Addr}{n c:Nat}{xs:List Nat}{V:Nat}(by':Int)(h1:Arg w a n c xs)(e:aX (val xs) by'=(V,0))(hb0:-9223372036854775808<=by')(hb1:by'<=9223372036854775807) :
 Calls Tryz.prog 172 #[.slice a n c,.int .i64 by'] w fun r w'=>∃ v,r=.returned (.tuple #[v,.int .i64 0])/\Nt w.heap.size w' v V/\Below w.heap.size w w' :=
 (Au xs a n c w.heap.size by' w h1.len h1.cap (by have:=h1.big;omega) h1.wf h1.rd (aB _) hb0 hb1).mono
  fun r w' ⟨ho,hb⟩=>by obtain⟨v,h3,h4⟩:=Cz ho e;exact⟨v,h3,h4,hb⟩
theorem CG{w:World}{a b:Option Addr}{n c m d:Nat}{xs ys:List Nat}(h1:Arg w a n c xs)(h2:Arg w b m d ys)(z:Int)(e:aZ (val xs) (val ys)=z) :
 Calls Tryz.prog 234 #[.slice a n c,.slice b m d] w fun r w'=>r=.returned (.int .i64 z)/\Below w.heap.size w w':=by
 have:=Lj xs ys a b n c m d w.heap.size w h1.len h2.len h1.cap h2.cap (by have:=h1.big;omega) (by have:=h2.big;omega) h1.wf h2.wf h1.rd h2.rd;rw[e] at this;exact this
theorem wK{X Y V:Nat}(h3:¬ LG V)(e:X+Y=V):vY X Y=(V,0):=by subst e;unfold vY;rw[if_neg h3]
theorem wL{X Y V:Nat}(h1:¬ LG X)(h2:¬ LG Y)(e:V+Y=X):oF X Y=(V,0):=by unfold oF;rw[if_neg (by simp[h1,h2]),if_neg af];congr 1;omega
def Bl(w:World)(g T:Nat)(C:List Value):Prop:=w.heap[g]?=some (.cells C.toArray T (0,0))
theorem Bl.lt{w:World}{g T:Nat}{C:List Value}(h:Bl w g T C):g<w.heap.size:=(fG.1 h).1
theorem Bl.cell{w:World}{g T:Nat}{C:List Value}(h:Bl w g T C)(i:Nat)(v:Value)(hv:C[i]?=some v):w.cell? ⟨g,i,none⟩=some v:=by
 unfold Bl at h;simp[World.cell?,h,hv]
theorem Bl.frozen{w:World}{g T:Nat}{C:List Value}(h:Bl w g T C)(i:Nat):w.frozen? ⟨g,i,none⟩=false:=by
 unfold Bl at h;exact Qaw
theorem Bl.set{w:World}{g T:Nat}{C:List Value}(h:Bl w g T C)(i:Nat)(v:Value):Bl (w.setCell ⟨g,i,none⟩ v) g T (C.set i v):=by
 unfold Bl at h |-;simp[World.setCell,iA,h]
theorem Bl.drew{w:World}{g T:Nat}{C:List Value}(h:Bl w g T C):Bl w.drew g T C:=h
theorem Bl.below{w w':World}{g T B:Nat}{C:List Value}(h:Bl w g T C)(hb:Below B w w')(hg:g<B):Bl w' g T C:=by
 unfold Bl at h |-;rw[hb.block g hg];exact h
theorem Bl.but{w w':World}{g g' T:Nat}{C:List Value}(h:Bl w g T C)(hb:But g' w w')(hg:g≠g'):Bl w' g T C:=by
 unfold Bl at h |-;rw[hb.block g (Bl.lt h) hg];exact h
theorem Bl.range{w:World}{g T:Nat}{C:List Value}(h:Bl w g T C)(o:Nat)(cs:List Value)(hc:∀ j v,cs[j]?=some v->C[o+j]?=some v):w.rangeAt g o cs :=
 fun j v hv=>h.cell _ _ (hc j v hv)
theorem Bl.there{w:World}{g T:Nat}{C:List Value}(h:Bl w g T C)(o n:Nat)(hn:o+n<=C.length):w.there g o n :=
 fun j hj=>⟨by rw[h.cell (o+j) _ (aY af)];rfl,h.frozen _⟩
theorem Bl.setCells{g T:Nat}:∀ (vs:List Value) (o:Nat) {w:World}{C:List Value}(h:Bl w g T C) (hn:o+vs.length<=C.length),Bl (w.setCells g o vs) g T (C.take o++vs++C.drop (o+vs.length))
 | [],o,w,C,h,hn=>by simpa [World.setCells] using h
 | v::r,o,w,C,h,hn=>by
   rw[World.setCells];have:=Bl.setCells r (o+1) (h.set o v) (by simp at hn |-;omega);simp only[kU] at hn
   have e:(C.set o v).take (o+1)++r++(C.set o v).drop (o+1+r.length)=C.take o++(v::r)++C.drop (o+(v::r).length):=by
    rw[List.drop_set,if_pos af,xm (by simp;omega),List.getElem_set_self,List.take_set,List.set_eq_of_length_le (by simp;omega)];simp[nK,lK 1]
   rw[e] at this;exact this
theorem Bl.Zl{g T:Nat}{w:World}{C vs:List Value}(h:Bl w g T C)(hn:vs.length=C.length):Bl (w.setCells g 0 vs) g T vs:=by
 have:=Bl.setCells vs 0 h af;rw[hn] at this;simpa using this
theorem But.setCells{g:Nat}{a:World}:∀ (vs:List Value) (o:Nat) {w:World}(h:But g a w),But g a (w.setCells g o vs)
 | [],o,w,h=>h
 | v::r,o,w,h=>by rw[World.setCells];exact But.setCells r (o+1) (h.set o v)
theorem ak(w:World)(o:Obj):Below w.heap.size w (w.alloc o):=(aG _ _).alloc (aB _) _
theorem Bl.alloc{w:World}{g T:Nat}{C:List Value}(h:Bl w g T C)(o:Obj):Bl (w.alloc o) g T C:=by
 unfold Bl at h |-;rw[(ak w o).block g (Bl.lt h)];exact h
theorem Bl.new(w:World)(T:Nat)(C:List Value):Bl (w.alloc (.cells C.toArray T)) w.heap.size T C:=by
 unfold Bl;rw[jC]
theorem Bl.new'(w:World)(T n:Nat)(C:List Value)(hn:n=w.heap.size):Bl (w.alloc (.cells C.toArray T)) n T C:=by
 subst hn;exact Bl.new w T C
theorem Wb.bl{w:World}{g:Nat}{L:List Nat}(h:Wb w g L):Bl w g 150 (L.map U):=h
theorem Bl.wb{w:World}{g:Nat}{L:List Nat}(h:Bl w g 150 (L.map U)):Wb w g L:=h
theorem ND(L:List Nat):((L.map U).toArray).all (·.oneCell')=true:=all_oneCell_toArray fun v hv=>by
 obtain⟨x,_,rfl⟩:=kW.1 hv;rfl
theorem Tryz.qN:Tryz.zeroCells150=(List.replicate 133 (Value.int .u32 0)).toArray:=by kernel_rfl
theorem Tryz.iV:(Tryz.prog.info? 150).map (·.size)=some 133:=by kernel_rfl
theorem Tryz.iW:Tryz.prog.underlying 150=some (.array 133 138):=by kernel_rfl
theorem tT(x y n:Int):(x%n+y)%n=(x+y)%n:=by simp
def kY(ng:Bool)(T:Nat):Int:=if ng then -(T:Int) else(T:Int)
theorem Rc(ng:Bool):kY ng 0=0:=by cases ng <;> simp[kY]
theorem Lr(ng:Bool)(a b:Nat):kY ng (a+b)=kY ng a+kY ng b:=by cases ng <;> simp[kY];omega
theorem Aw(xs:List Nat)(k p:Nat)(hk:k<xs.length):val (xs.take (k+1))*2^p=val (xs.take k)*2^p+xs.getD k 0*2^(p+32*k):=by
 rw[jP xs k hk,dV,Jb,aW];congr 1;rw[bR (2^(32*k)),dH,bR (2^(32*k))]
theorem Re(L xs:List Nat)(ao:Option Addr)(n cap p:Nat)(kd:Int)(ng:Bool)(w:World)(hl:L.length=133)(hL:Wf L)(hA:Arg w ao n cap xs)(hp:p+32*n<=4256) :
 Calls Tryz.prog 198 #[.agg (L.map U).toArray,.agg #[.int .i64 kd,.bool ng,.slice ao n cap,.int .i64 (p:Nat)]] w fun r w' =>
  ∃ M,r=.returned (.agg (M.map U).toArray)/\M.length=133/\Wf M/\(val M:Int)=((val L:Int)+kY ng (val xs*2^p))%(PB:Int)/\Below w.heap.size w w':=by
 have HR:Aside (Wf L/\L.length=133/\Arg w ao n cap xs):=⟨hL,hl,hA⟩;clear hL hl hA;go_enter Tryz.func198,Tryz.ntmps198;go_wp2;obtain⟨w3,hw3⟩:=ah ((((w.alloc (Obj.cells (L.map U).toArray 150)).alloc (Obj.cells #[Value.int IntKind.i64 kd,Value.bool ng,Value.slice ao n cap,Value.int IntKind.i64 (p:Nat)] 155)).alloc (Obj.cells Tryz.zeroCells150 150)));rw[<-hw3]
 have H3:Aside (Below w.heap.size w w3/\Wb w3 w.heap.size L/\Bl w3 (w.heap.size+1) 155 [Value.int IntKind.i64 kd,Value.bool ng,Value.slice ao n cap,Value.int IntKind.i64 (p:Nat)]/\Bl w3 (w.heap.size+1+1) 150 (List.replicate 133 (Value.int .u32 0))/\w3.heap.size=w.heap.size+3):=by
  subst hw3;refine⟨?_,?_,?_,?_,aL⟩
  · exact((ak w _).trans ((ak _ _).mono aL)).trans ((ak _ _).mono (by simp;omega))
  · exact(((Bl.new w 150 (L.map U)).alloc _).alloc _).wb
  · exact(Bl.new' (w.alloc (Obj.cells (L.map U).toArray 150)) 155 _ [_,_,_,_] aL).alloc _
  · rw[Tryz.qN];exact Bl.new' _ 150 _ _ aL
 clear hw3
 go_loopg [10] n (fun gk i wr=>∃ (k:Nat) (M:List Nat),gk+k=n/\i=.int .i64 (k:Nat) /\
  Aside (Wb wr w.heap.size M/\Wf M/\M.length=133/\(val M:Int)=((val L:Int)+kY ng (val (xs.take k)*2^p))%(PB:Int)/\But w.heap.size w3 wr))
 case atStart=>exact⟨0,L,af,aL,H3.o.2.1,HR.o.1,HR.o.2.1,by simp only[List.take_zero,val,gT,Rc,Int.add_zero];rw[uT af (by have:=pU HR.o.2.1 HR.o.1;omega)],But.refl _ _⟩
 case round =>
  obtain⟨k,M,iL,rfl,HA⟩:=hrel
  by_cases hk:k<n
  · obtain⟨hL,hl,hA⟩:=HR.o;obtain⟨hM,bD,dG,hMs,aF⟩:=HA.o;obtain⟨b3,_,T3,Z3,s3⟩:=H3.o;obtain⟨b,fC,Nw,rfl,hbc⟩:=hA.rd (by intro e;subst e;have:=hA.len;simp at this;omega)
    have hbk:wr.cell? ⟨b,fC+k,none⟩=some (.int .u32 ((xs.getD k 0:Nat):Int)):=by
     have h0:=b3.block b Nw;have h1:=aF.block b af af;exact(rR (a:=⟨b,fC+k,none⟩) (h1.trans h0)).trans (hbc k (by rw[<-hA.len];omega))
    have T4:=T3.but aF af;have c1:=T4.cell 1 _ rfl;have c3:=T4.cell 3 _ rfl;obtain⟨y,hy⟩:∃ y:Nat,xs.getD k 0=y:=⟨_,rfl⟩;have hyl:y<4294967296:=hy ▸ hA.wf.get _;rw[hy] at hbk;have HX:Aside (xs.getD k 0=y):=hy;have HB:Aside (∀ i,i<xs.length->w.cell? ⟨b,fC+i,none⟩=some (.int .u32 ((xs.getD i 0:Nat):Int))):=hbc;clear hy hL hl hA hM bD dG hMs aF b3 T3 Z3 s3 T4 hbc
    cases ng
    · go_wp2_with fail;rw[show(p:Int)+32*(k:Int)=((p+32*k:Nat):Int) by simp];obtain⟨hM,bD,dG,hMs,aF⟩:=HA.o;refine(dI (QR M w.heap.size y (p+32*k) wr hM dG bD hyl af) ?_);rintro r w' ⟨rfl,M',hM',CJ,CK,hv',hb'⟩;have HA':Aside (Wb w' w.heap.size M'/\Wf M'/\M'.length=133/\val M'=(val M+y*2^(p+32*k))%PB/\But w.heap.size wr w'):=⟨hM',CK,CJ,hv',hb'⟩;clear hM bD dG hMs aF hM' CJ CK hv' hb';go_wp2;go_roundg (gk-1)
      case measure=>omega
      case rel =>
       obtain⟨hM',CK,CJ,hv',hb'⟩:=HA'.o;obtain⟨hM,bD,dG,hMs,aF⟩:=HA.o;refine⟨k+1,M',af,aL,hM',CK,CJ,?_,aF.trans hb'⟩;rw[Aw xs k p (by rw[<-HR.o.r2.len];exact hk),HX.o,Lr,<-Int.add_assoc,<-tT,<-hMs,hv'];simp[kY]
    · go_wp2_with fail;rw[show(p:Int)+32*(k:Int)=((p+32*k:Nat):Int) by simp];obtain⟨hM,bD,dG,hMs,aF⟩:=HA.o;refine(dI (Nq M w.heap.size y (p+32*k) wr hM dG bD hyl af) ?_);rintro r w' ⟨rfl,M',hM',CJ,CK,hv',hb'⟩;have HA':Aside (Wb w' w.heap.size M'/\Wf M'/\M'.length=133/\(val M':Int)=((val M:Int)-((y*2^(p+32*k):Nat):Int))%(PB:Int)/\But w.heap.size wr w'):=⟨hM',CK,CJ,hv',hb'⟩;clear hM bD dG hMs aF hM' CJ CK hv' hb';go_wp2;go_roundg (gk-1)
      case measure=>omega
      case rel =>
       obtain⟨hM',CK,CJ,hv',hb'⟩:=HA'.o;obtain⟨hM,bD,dG,hMs,aF⟩:=HA.o;refine⟨k+1,M',af,aL,hM',CK,CJ,?_,aF.trans hb'⟩;rw[Aw xs k p (by rw[<-HR.o.r2.len];exact hk),HX.o,Lr,<-Int.add_assoc,<-tT,<-hMs,hv'];simp only[kY,if_true,Int.sub_eq_add_neg]
  · obtain rfl:k=n:=af
    obtain⟨hM,bD,dG,hMs,aF⟩:=HA.o;obtain⟨b3,_,T3,Z3,s3⟩:=H3.o;have HZ:Aside (Bl wr (w.heap.size+1+1) 150 (List.replicate 133 (Value.int .u32 0))):=Z3.but aF af;have HB:Aside (Below w.heap.size w w3/\w3.heap.size=w.heap.size+3):=⟨b3,s3⟩;clear hM bD dG hMs aF b3 T3 Z3 s3
    go_wp2_with (first
     | (with_reducible refine wpList_load_mid (P:=Tryz.prog) rfl 150 (.tmp 2) rfl w.heap.size 0 rfl (M.map U) _ (HA.o.1.bl.range 0 _ (fun j v hv=>by simpa using hv)) Tryz.iW rfl (by simp[Tryz.iV,HA.o.r2.1]) ?_)
     | (with_reducible refine wpList_store_mid (P:=Tryz.prog) rfl 150 (.tmp 4) (.tmp 32) rfl (w.heap.size+1+1) 0 (M.map U).toArray rfl rfl (HZ.o.there 0 _ (by simp[HA.o.r2.1])) (by simp[Tryz.iV,HA.o.r2.1]) (ND M) ?_))
    have hZ:Bl (wr.setCells (w.heap.size+1+1) 0 (M.map U)) (w.heap.size+1+1) 150 (M.map U):=HZ.o.Zl (by simp[HA.o.r2.1]);refine aJ (v:=.agg (M.map U).toArray) (results_cell_row (P:=Tryz.prog) Tryz.results198 _ _ (w.heap.size+1+1) 150 _ _ _ rfl hZ Tryz.iW rfl (by simp[Tryz.iV,HA.o.r2.1])) rfl ?_;obtain⟨hM,bD,dG,hMs,aF⟩:=HA.o;obtain⟨b3,s3⟩:=HB.o;refine⟨M,rfl,dG,bD,?_,?_⟩
    · rw[hMs,jc (by rw[<-HR.o.r2.len];exact aB _)]
    · exact But.below (But.below b3 aF af (aB _)) (But.setCells _ _ (But.refl _ _)) (by have:=aF.size;omega) af
def Hd(w:World)(g:Nat)(L:List Nat):Prop:=g<w.heap.size/\∀ i,i<L.length->w.cell? ⟨g,i,none⟩=some (.int .u32 ((L.getD i 0:Nat):Int))
theorem Hd.below{w w':World}{g B:Nat}{L:List Nat}(h:Hd w g L)(hb:Below B w w')(hg:g<B)(hB:B<=w.heap.size):Hd w' g L :=
 ⟨by have:=hb.size;omega,fun i hi=>(hb.cell (p:=⟨g,i,none⟩) hg).trans (h.2 i hi)⟩
theorem Bl.hd{w:World}{g T:Nat}{L:List Nat}{C:List Value}(h:Bl w g T (L.map U++C)):Hd w g L :=
 ⟨h.lt,fun i hi=>h.cell i _ (by rw[mq (by simpa using hi)];simp[U,aS,aY hi])⟩
theorem Wb.hd{w:World}{g:Nat}{L:List Nat}(h:Wb w g L):Hd w g L:=⟨h.lt,fun i hi=>h.cell i hi⟩
theorem Tryz.Ay:Tryz.prog.plainKey 138=true:=by kernel_rfl
theorem Tryz.NF:Tryz.prog.cellsOf 138=1:=by kernel_rfl
theorem Tryz.NG:Tryz.prog.underlying 138=some (.int .u32):=by kernel_rfl
theorem Tryz.NI:(Tryz.prog.info? 138).isSome=true:=by kernel_rfl
theorem Fp(L K:List Nat)(d:Nat)(w:World):∀ (is:List Nat),(∀ i ∈ is,i<L.length/\i<K.length) ->
 (Op.eqItems (d+1) 138 1 (L.map U).toArray (K.map U).toArray is).run Tryz.prog w=.ok (decide (∀ i ∈ is,L.getD i 0=K.getD i 0)) w
 | [],_=>by simp[Op.eqItems]
 | i::is,h=>by
   obtain⟨h1,h2⟩:=h i aL;have ih:=Fp L K d w is (fun j hj=>h j (by simp[hj]))
   have p1:(part 138 (L.map U).toArray (i*1)).run Tryz.prog w=.ok (.int .u32 ((L.getD i 0:Nat):Int)) w :=
    run_part_plain _ Tryz.Ay (by simp[U,aS,aY h1])
   have p2:(part 138 (K.map U).toArray (i*1)).run Tryz.prog w=.ok (.int .u32 ((K.getD i 0:Nat):Int)) w :=
    run_part_plain _ Tryz.Ay (by simp[U,aS,aY h2])
   simp only[Op.eqItems,Sem.run_bind,p1,p2,Result.andThen_ok,run_equalIn_int w d 138 .u32 .u32 _ _ Tryz.NG]
   by_cases e:L.getD i 0=K.getD i 0
   · rw[e];simp only[beq_self_eq_true,Bool.not_true];rw[if_neg aA,ih];simp only[List.mem_cons,forall_eq_or_imp,e,true_and]
   · have e2:(((L.getD i 0:Nat):Int)==((K.getD i 0:Nat):Int))=false:=by simp only[beq_eq_false_iff_ne,ne_eq];omega
     rw[e2];simp only[List.mem_cons,forall_eq_or_imp,e,false_and,decide_false,Bool.not_false,if_true,Sem.run_pure]
theorem Fu(L K:List Nat)(w:World)(hl:L.length=133)(hk:K.length=133) :
 (Op.equalIn 10000 150 (.agg (L.map U).toArray) (.agg (K.map U).toArray)).run Tryz.prog w=.ok (decide (L=K)) w:=by
 obtain⟨i,hi⟩:=xA.1 Tryz.NI;rw[show(10000:Nat)=9999+1 by rfl,run_equalIn_array _ 9999 _ _ Tryz.iW hi,Tryz.NF,show(9999:Nat)=9998+1 by rfl,Fp L K 9998 w (List.range 133) (fun i hi=>by simp at hi;omega)];congr 1;rw[decide_eq_decide];constructor
 · intro h;apply List.ext_getElem af;intro i h1 h2;have:=h i (by simp;omega);simpa [aS,aY h1,aY h2] using this
 · rintro rfl i _;rfl
def wh:List Nat:=List.replicate 132 0++[4294950912]
theorem Tryz.NJ:Tryz.zeroCells150.setIfInBounds 132 (Value.int IntKind.u32 4294950912)=(wh.map U).toArray:=by kernel_rfl
theorem Fw:wh.length=133:=by simp[wh]
theorem Tryz.CO:Tryz.zeroCells150=((List.replicate 133 0).map U).toArray:=by kernel_rfl
theorem Rf(g t:Nat)(w:World)(hc:w.cell? ⟨g,132,none⟩=some (.int .u32 (t:Nat)))(ht:t<2147483648) :
 Calls Tryz.prog 201 #[.pointer (some ⟨g,0,none⟩)] w fun r w'=>r=.returned (.bool false)/\w'=w:=by
 go_enter Tryz.func201,Tryz.ntmps201;go_wp2;refine aJ (v:=.bool false) (by simp[results,Tryz.results201,go_sem]) rfl ⟨rfl,rfl⟩
theorem Rh(g t:Nat)(w:World)(hc:w.cell? ⟨g,132,none⟩=some (.int .u32 (t:Nat)))(ht0:2147483648<=t)(ht:t<4294967296) :
 Calls Tryz.prog 201 #[.pointer (some ⟨g,0,none⟩)] w fun r w'=>r=.returned (.bool true)/\w'=w:=by
 have hw:wrap32 (t:Int)=(t:Int)-4294967296:=by unfold wrap32;omega
 go_enter Tryz.func201,Tryz.ntmps201;go_wp2;refine aJ (v:=.bool true) (by simp[results,Tryz.results201,go_sem];omega) rfl ⟨rfl,rfl⟩
theorem NK(g t:Nat)(w:World)(hc:w.cell? ⟨g,132,none⟩=some (.int .u32 (t:Nat)))(ht:t<16384) :
 Calls Tryz.prog 246 #[.pointer (some ⟨g,0,none⟩)] w fun r w'=>r=.returned (.bool false)/\w'=w:=by
 have hw:((t:Int)/16384==0)=true:=by simp;omega
 go_enter Tryz.func246,Tryz.ntmps246;go_wp2;refine aJ (v:=.bool false) (by simp[results,Tryz.results246,go_sem]) rfl ⟨rfl,rfl⟩
theorem Jk(g t:Nat)(w:World)(hc:w.cell? ⟨g,132,none⟩=some (.int .u32 (t:Nat)))(ht0:16384<=t)(ht:t<4294950912) :
 Calls Tryz.prog 246 #[.pointer (some ⟨g,0,none⟩)] w fun r w'=>r=.returned (.bool true)/\w'=w:=by
 have hw0:(wrap32 (t:Int)/16384==0)=false:=by simp;unfold wrap32;omega
 have hw1:(wrap32 (t:Int)/16384==-1)=false:=by simp;unfold wrap32;omega
 go_enter Tryz.func246,Tryz.ntmps246;go_wp2;refine aJ (v:=.bool true) (by simp[results,Tryz.results246,go_sem]) rfl ⟨rfl,rfl⟩
theorem NM(g t:Nat)(L:List Nat)(w:World)(hc:w.cell? ⟨g,132,none⟩=some (.int .u32 (t:Nat)))(hr:w.rangeAt g 0 (L.map U))(hl:L.length=133)(ht0:4294950912<=t)(ht:t<4294967296) :
 Calls Tryz.prog 246 #[.pointer (some ⟨g,0,none⟩)] w fun r w'=>r=.returned (.bool (decide (L=wh)))/\w'=w:=by
 have hw0:(wrap32 (t:Int)/16384==0)=false:=by simp;unfold wrap32;omega
 have hw1:(wrap32 (t:Int)/16384==-1)=true:=by simp;unfold wrap32;omega
 have HL:Aside (L.length=133/\w.rangeAt g 0 (L.map U)):=⟨hl,hr⟩;clear hl hr;go_enter Tryz.func246,Tryz.ntmps246
 go_wp2_with (first | (with_reducible refine wpList_load_mid (P:=Tryz.prog) rfl 150 (.tmp 14) rfl g 0 rfl (L.map U) _ HL.o.2 Tryz.iW rfl (by simp[Tryz.iV,HL.o.1]) ?_))
 rw[Tryz.NJ,Fu L _ w HL.o.1 Fw];generalize hb:decide (L=wh)=b;generalize hK:wh=K at hb;have HK:Aside (decide (L=wh)=b):=by rw[hK];exact hb
 clear hb hK;simp only[Result.andThen_ok,Oper.upon];go_wp2;exact aJ (v:=.bool b) (by simp[results,Tryz.results246,go_sem]) rfl ⟨by rw[HK.o],rfl⟩
def HB:Nat:=16384*pw 132
theorem oJ:0<HB:=nW aA (jy _)
theorem CQ:PB=4294967296*pw 132:=by unfold PB;exact bI 132
attribute [irreducible] HB
theorem Rj:HB=16384*pw 132:=by unfold HB;rfl
theorem Ls(L:List Nat)(hl:L.length=133)(hL:Wf L):∃ r,r<pw 132/\val L=r+pw 132*L.getD 132 0:=by
 refine⟨val (L.take 132),?_,?_⟩
 · have:=df (L.take 132) (hL.take 132);rwa [show(L.take 132).length=132 by simp;omega] at this
 · have h:=jP L 132 af;rwa [jc af] at h
theorem Rk:val wh=4294950912*pw 132:=by
 unfold wh;rw[val_append,kK,Cb,dm,bR];rfl
theorem VB:Wf wh:=by
 intro y hy;unfold wh at hy;rcases fA.1 hy with h|h
 · have:=List.eq_of_mem_replicate h;omega
 · have:=List.mem_singleton.1 h;omega
theorem val_inj{L K:List Nat}(hl:L.length=K.length)(hL:Wf L)(hK:Wf K)(h:val L=val K):L=K:=by
 induction L generalizing K with
 | nil=>cases K <;> simp_all
 | cons x xs ih =>
   cases K with
   | nil=>simp at hl
   | cons y ys =>
     simp only[val] at h;have h1:=hL.head;have h2:=hK.head;have e1:x=y:=af
     have e2:val xs=val ys:=af
     rw[e1,ih (by simpa using hl) hL.tail hK.tail e2]
def tV(N:Nat):Bool:=decide (PB<=2*N)
theorem Az(g:Nat)(L:List Nat)(w:World)(hl:L.length=133)(hL:Wf L)(hH:Hd w g L) :
 Calls Tryz.prog 201 #[.pointer (some ⟨g,0,none⟩)] w fun r w'=>r=.returned (.bool (tV (val L)))/\w'=w:=by
 have hc:=hH.2 132 af;obtain⟨r,hr,hv⟩:=Ls L hl hL;have ht:=hL.get 132;generalize L.getD 132 0=t at hc hv ht;have h0:=jy 132
 by_cases h:t<2147483648
 · have e:tV (val L)=false:=by
    unfold tV;rw[decide_eq_false_iff_not,hv,CQ];generalize pw 132=q at hr h0 |-;have:q*t<=q*2147483647:=gH _ af;omega
   rw[e];exact Rf g t w hc h
 · have e:tV (val L)=true:=by
    unfold tV;rw[decide_eq_true_iff,hv,CQ];generalize pw 132=q at hr h0 |-;have:q*2147483648<=q*t:=gH _ af;omega
   rw[e];exact Rh g t w hc af ht
def NP(N:Nat):Bool:=decide (HB<=N/\N<=PB-HB)
theorem xU(g:Nat)(L:List Nat)(w:World)(hl:L.length=133)(hL:Wf L)(hH:Hd w g L) :
 Calls Tryz.prog 246 #[.pointer (some ⟨g,0,none⟩)] w fun r w'=>r=.returned (.bool (NP (val L)))/\w'=w:=by
 have hc:=hH.2 132 af;obtain⟨r,hr,hv⟩:=Ls L hl hL;have ht:=hL.get 132
 have hg:w.rangeAt g 0 (L.map U):=fun j v hj=>by
  have hj2:j<L.length:=by have:=(Aa.1 hj).1;simpa using this
  rw[dm,hH.2 j hj2,<-hj,uX,aY hj2,aS,aY hj2];rfl
 generalize Lu:L.getD 132 0=t at hc hv ht;have h0:=jy 132;have eP:=CQ;have eH:=Rj;have eL:=Rk;generalize pw 132=q at hr h0 hv eP eH eL
 by_cases h:t<16384
 · have e:NP (val L)=false:=by
    unfold NP;rw[decide_eq_false_iff_not,hv];have:q*t<=q*16383:=gH _ af;omega
   rw[e];exact NK g t w hc h
 by_cases h2:t<4294950912
 · have e:NP (val L)=true:=by
    unfold NP;rw[decide_eq_true_iff,hv];have a1:q*16384<=q*t:=gH _ af;have a2:q*t<=q*4294950911:=gH _ af;omega
   rw[e];exact Jk g t w hc af h2
 · have e:NP (val L)=decide (L=wh):=by
    unfold NP;rw[decide_eq_decide];constructor
    · intro hb;have a1:q*4294950912<=q*t:=gH _ af;refine val_inj (by rw[hl,Fw]) hL VB ?_;rw[eL];omega
    · rintro rfl;rw[eL];omega
   rw[e];exact NM g t L w hc hg hl af ht
theorem Tryz.Fx:Tryz.prog.underlying 74=some (.slice 138):=by kernel_rfl
theorem NU(b n c:Nat)(L:List Nat)(w:World)(hl:L.length=n)(hn:n<=1000)(hH:Hd w b L) :
 Calls Tryz.prog 250 #[.slice (some ⟨b,0,none⟩) n c] w fun r w'=>∃ v',r=.returned v'/\w'.ownsRow w.heap.size 138 1 v' n (L.map U)/\v'≠.slice none 0 0/\Below w.heap.size w w':=by
 obtain⟨i0,hi,hz0,hz1,hz2⟩:=info_parts Tryz.KO;have q74:∀ (w:World) (a:Option Addr) (n c n' c':Nat),(binOp .eql 74 (.slice a n c) (.slice none n' c')).run Tryz.prog w=.ok (.bool a.isNone) w:=fun w a n c n' c'=>Lib.run_eql_slice_nil w _ _ a n c n' c' Tryz.Fx;have A:Aside (L.length=n/\Hd w b L):=⟨hl,hH⟩;clear hl hH;go_enter Tryz.func250,Tryz.ntmps250
 go_wp2_with (at_builtin;refine wpList_append_own _ rfl _ _ 74 rfl w.heap.size 138 i0 (.int .u32 0) 1 4 Tryz.Fx hi hz0 hz1 hz2 rfl aA _ _ _ rfl (World.ownsRow_made w #[] 0 (aB _) (jd _) aL) ⟨b,0,none⟩ n c (L.map U) rfl ?qc1 ?qc2 ?qc3 ?qc4 ?qc5 ?qc6 ?_)
 case qc1=>simp[A.o.1]
 case qc2 =>
  intro j u hj;have hj2:j<L.length:=by have:=(Aa.1 hj).1;simpa using this
  rw[Addr.add_lit];refine Lib.cell?_alloc_some _ ?_;rw[dm,A.o.r2 j hj2,<-hj,uX,aY hj2,aS,aY hj2];rfl
 case qc3=>intro u hu;obtain⟨x,_,rfl⟩:=kW.1 hu;rfl
 case qc4=>unfold maxLen;omega
 case qc5=>omega
 case qc6=>simp
 intro v' w1 hown hgrow hnil;go_wp2;go_ret;refine⟨v',rfl,by simpa using hown,hnil,?_⟩;exact((aG _ w).alloc (aB _) _).grown hgrow aL (by intro k hk;simp[Value.ownBlock] at hk;omega)
theorem Zm(a b:Nat)(ha:a<4294967296)(hb:b<4294967296):bits .xor .u32 (a:Int) (b:Int)=((a ^^^ b:Nat):Int):=by
 exact xt
theorem VC(x:Nat)(h:x<4294967296):bits BinOp.xor IntKind.u32 IntKind.u32.max (x:Int)=((4294967295-x:Nat):Int):=by
 have e:IntKind.u32.max=((4294967295:Nat):Int):=aA
 rw[e,Zm _ _ aA h];congr 1;have h1:(BitVec.allOnes 32 ^^^ BitVec.ofNat 32 x)= ~~~ (BitVec.ofNat 32 x):=BitVec.allOnes_xor;have h2:=congrArg BitVec.toNat h1;simp only[BitVec.toNat_xor,BitVec.toNat_allOnes,BitVec.toNat_not,BitVec.toNat_ofNat] at h2;rw[ja af] at h2;exact h2
theorem N7(M L:List Nat)(k c s d:Nat)(hM:M.length=133)(hL:L.length=133)(hk:k<133)(hx:L.getD k 0<4294967296)(ho:∀ j,k<=j->M.getD j 0=L.getD j 0)(e:s+d*4294967296=c+(4294967295-L.getD k 0))(h:sg M 0 k+c*pw k+sg L 0 k=pw k) :
 sg (M.set k s) 0 (k+1)+d*pw (k+1)+sg L 0 (k+1)=pw (k+1):=by
 have h1:=bF M 0 k s af;rw[dm] at h1;rw[h1,bz L 0 k af,dm,bI];have e2:(s+d*4294967296+L.getD k 0)*pw k=(c+4294967295)*pw k:=by congr 1;omega
 simp only[dV,dH] at e2;rw[bR (pw k) s,bR (pw k) (L.getD k 0)];omega
theorem Rl(L:List Nat)(lo g cap:Nat)(w:World)(hl:L.length=133)(hL:Wf L)(hR:w.ownsRow lo 138 1 (.slice (some ⟨g,0,none⟩) 133 cap) 133 (L.map U)) :
 Calls Tryz.prog 251 #[.slice (some ⟨g,0,none⟩) 133 cap] w fun r w' =>
  r=.returned (.tuple #[])/\∃ M,w'.ownsRow lo 138 1 (.slice (some ⟨g,0,none⟩) 133 cap) 133 (M.map U)/\M.length=133/\Wf M/\val M=(PB-val L)%PB/\But g w w':=by
 have HR:Aside (Wf L/\L.length=133/\w.ownsRow lo 138 1 (.slice (some ⟨g,0,none⟩) 133 cap) 133 (L.map U)):=⟨hL,hl,hR⟩;clear hL hl hR;go_enter Tryz.func251,Tryz.ntmps251;go_wp2
 go_loopg [2,7] 133 (fun gk c i wr=>∃ (k cv:Nat) (M:List Nat),gk+k=133/\i=.int .i64 (k:Nat)/\c=.int .u64 (cv:Nat)/\cv<2 /\
  Hid (wr.ownsRow lo 138 1 (.slice (some ⟨g,0,none⟩) 133 cap) 133 (M.map U))/\Aside (Wf M/\M.length=133/\(∀ j,k<=j->M.getD j 0=L.getD j 0)/\sg M 0 k+cv*pw k+sg L 0 k=pw k/\But g w wr))
 case atStart=>exact⟨0,1,L,af,aL,aL,af,HR.o.r2,HR.o.1,HR.o.2.1,fun _ _=>rfl,by simp[eX],But.refl _ _⟩
 case round =>
  obtain⟨k,cv,M,iL,rfl,rfl,hcv,HM,HA⟩:=hrel
  by_cases hk:k<133
  · obtain⟨hL,hl,hR⟩:=HR.o;obtain⟨bD,dG,fE,hMs,aF⟩:=HA.o
    have hgc:wr.cell? ⟨g,k,none⟩=some (.int .u32 ((M.getD k 0:Nat):Int)):=by
     rw[HM.o.cellAt k af];simp[U,aS,aY (show k<M.length by omega)]
    have hgf:=HM.o.frozenAt k;obtain⟨x,hx⟩:∃ x:Nat,M.getD k 0=x:=⟨_,rfl⟩;have hxl:x<4294967296:=hx ▸ bD.get _;rw[hx] at hgc;obtain⟨y,hy⟩:∃ y:Nat,y=4294967295-x:=⟨_,rfl⟩;have e1:bits BinOp.xor IntKind.u32 IntKind.u32.max (x:Int)=(y:Int):=by rw[VC x hxl,hy]
    have hyl:y<4294967296:=af
    have HX:Aside (M.getD k 0=x/\y=4294967295-x):=⟨hx,hy⟩;clear hy;clear hx hL hl hR bD dG fE hMs aF;obtain⟨gk,rfl⟩:∃ k,gk=k+1:=⟨gk-1,af⟩;go_wp2;go_roundg gk
    case measure=>omega
    case rel =>
     obtain⟨hL,hl,hR⟩:=HR.o;obtain⟨bD,dG,fE,hMs,aF⟩:=HA.o;obtain⟨hx,hy⟩:=HX.o;have e2:((cv:Int)+(y:Int))%4294967296=(((cv+y)%4294967296:Nat):Int):=af
     have e3:((cv:Int)+(y:Int))/4294967296=(((cv+y)/4294967296:Nat):Int):=af
     rw[pR (y:Int) af af,pR ((cv:Int)+(y:Int)) af af,e2];refine⟨k+1,(cv+y)/4294967296,M.set k ((cv+y)%4294967296),af,aL,by rw[e3],af,?_,bD.set _ _ (iB _ aA),by simp[dG],fun j hj=>by rw[getD_set_ne _ _ _ _ af];exact fE j af,?_,aF.set k _⟩
     · rw[wX];exact(HM.o.stored k _).1
     · have hLx:L.getD k 0=x:=by rw[<-fE k (aB _)];exact hx
       exact N7 M L k cv _ _ dG hl hk af fE (by rw[hLx];omega) hMs
  · obtain rfl:k=133:=af
    go_wp2;refine bodyPost_end (v:=.tuple #[]) (by simp[results,Tryz.results251,go_sem]) rfl ?_;obtain⟨bD,dG,fE,hMs,aF⟩:=HA.o;refine⟨rfl,M,HM.o,dG,bD,?_,aF⟩;have a1:=dw M;have a2:=dw L;rw[dG] at a1;rw[HR.o.2.1] at a2;rw[a1,a2] at hMs;have hb:=pU dG bD;have eP:pw 133=PB:=by unfold PB;rfl
    rw[eP] at hMs;have h2:PB-val L=val M+PB*cv:=by rw[bR];omega
    rw[h2,xw,ja hb]
def Rm(N:Nat):Nat:=if tV N then PB-N else N
theorem Lx{w:World}{lo cap:Nat}{L:List Nat}{g:Nat}(h:w.ownsRow lo 138 1 (.slice (some ⟨g,0,none⟩) 133 cap) 133 (L.map U))(hl:L.length=133)(hL:Wf L):Arg w (some ⟨g,0,none⟩) 133 cap L:=by
 have hg:g<w.heap.size:=(h.lt g rfl).2
 have hc:133<=cap:=by
  rcases h.2 with ⟨h',_⟩|⟨g',cap',cur,h',_,_,hn,_⟩
  · simp at h'
  · simp only[Value.slice.injEq,Option.some.injEq,Addr.mk.injEq,and_true,true_and] at h';omega
 refine⟨hl.symm,hc,aA,hL,fun _=>⟨g,0,hg,rfl,fun i hi=>?_⟩,fun e=>by cases e⟩;rw[dm,h.cellAt i af,uX,aY hi,aS,aY hi];rfl
theorem N8(L:List Nat)(g:Nat)(w:World)(hl:L.length=133)(hL:Wf L)(hH:Hd w g L) :
 Calls Tryz.prog 202 #[.pointer (some ⟨g,0,none⟩)] w fun r w' =>
  ∃ b cap M,r=.returned (.slice (some ⟨b,0,none⟩) 133 cap)/\Arg w' (some ⟨b,0,none⟩) 133 cap M/\val M=Rm (val L)/\Below w.heap.size w w':=by
 have HR:Aside (Wf L/\L.length=133/\Hd w g L):=⟨hL,hl,hH⟩;clear hL hl hH;go_enter Tryz.func202,Tryz.ntmps202;go_wp2_with fail;refine dI (NU g 133 133 L w HR.o.2.1 aA HR.o.r2) ?_;rintro r w1 ⟨v',rfl,hown,hnn,hb1⟩;have HO:Aside (w1.ownsRow w.heap.size 138 1 v' 133 (L.map U)/\Below w.heap.size w w1):=⟨hown,hb1⟩
 obtain⟨b,cap,rfl⟩:∃ b cap,v'=.slice (some ⟨b,0,none⟩) 133 cap:=by
  rcases hown.2 with ⟨_,h⟩|⟨g',cap',cur,h,_⟩
  · cases h
  · exact⟨g',cap',h⟩
 clear hown hnn hb1;go_wp2_with fail;obtain⟨hL,hl,hH⟩:=HR.o;refine dI (Az g L w1 hl hL (hH.below HO.o.2 hH.1 (aB _))) ?_;rintro r w2 ⟨rfl,rfl⟩;clear hL hl hH
 cases hn:tV (val L)
 · have HN:Aside (tV (val L)=false):=hn;clear hn;go_wp2;go_ret;obtain⟨hL,hl,hH⟩:=HR.o;exact⟨b,cap,L,rfl,Lx HO.o.1 hl hL,by unfold Rm;rw[HN.o];rfl,HO.o.2⟩
 · have HN:Aside (tV (val L)=true):=hn;clear hn;go_wp2_with fail;obtain⟨hL,hl,hH⟩:=HR.o;refine dI (Rl L w.heap.size b cap w2 hl hL HO.o.1) ?_;rintro r w3 ⟨rfl,M,hM,dG,bD,Vb,aF⟩;have HM:Aside (w3.ownsRow w.heap.size 138 1 (.slice (some ⟨b,0,none⟩) 133 cap) 133 (M.map U)/\M.length=133/\Wf M/\val M=(PB-val L)%PB/\But b w2 w3):=⟨hM,dG,bD,Vb,aF⟩;clear hL hl hH hM dG bD Vb aF;go_wp2;go_ret;obtain⟨hM,dG,bD,Vb,aF⟩:=HM.o;refine⟨b,cap,M,rfl,Lx hM dG bD,?_,But.below HO.o.2 aF HO.o.2.size (HO.o.1.lt b rfl).1⟩;unfold Rm;rw[HN.o,Vb,if_pos rfl,ja];have h1:PB<=2*val L:=of_decide_eq_true HN.o;have:=Za;omega
theorem But.tX{g:Nat}{a w w':World}(h:But g a w)(hb:Below w.heap.size w w'):But g a w' :=
 h.trans ⟨hb.os,hb.tape,hb.output,hb.size,fun k hk _=>hb.block k hk⟩
structure Sp where
 (n u d m p a:Int)
def Sp.cells(s:Sp):List Value:=[.int .i64 s.n,.int .i64 s.u,.int .i64 s.d,.int .i64 s.m,.int .i64 s.p,.int .i64 s.a]
def Sp.agg(s:Sp):Value:=.agg #[.int .i64 s.n,.int .i64 s.u,.int .i64 s.d,.int .i64 s.m,.int .i64 s.p,.int .i64 s.a]
def Ac(w:World)(g:Nat)(L:List Nat)(s:Sp):Prop:=Bl w g 152 (L.map U++s.cells)
theorem Ac.lt{w:World}{g:Nat}{L:List Nat}{s:Sp}(h:Ac w g L s):g<w.heap.size:=Bl.lt h
theorem Ac.hd{w:World}{g:Nat}{L:List Nat}{s:Sp}(h:Ac w g L s):Hd w g L:=Bl.hd h
theorem Ac.cell{w:World}{g:Nat}{L:List Nat}{s:Sp}(h:Ac w g L s)(hl:L.length=133)(k:Nat)(v:Value)(hk:s.cells[k]?=some v):w.cell? ⟨g,133+k,none⟩=some v :=
 Bl.cell h _ _ (by rw[mr (by simp;omega)];simpa [hl] using hk)
theorem Ac.frozen{w:World}{g:Nat}{L:List Nat}{s:Sp}(h:Ac w g L s)(k:Nat):w.frozen? ⟨g,k,none⟩=false:=Bl.frozen h k
theorem Ac.below{w w':World}{g B:Nat}{L:List Nat}{s:Sp}(h:Ac w g L s)(hb:Below B w w')(hg:g<B):Ac w' g L s:=Bl.below h hb hg
theorem Ac.drew{w:World}{g:Nat}{L:List Nat}{s:Sp}(h:Ac w g L s):Ac w.drew g L s:=h
theorem Ac.alloc{w:World}{g:Nat}{L:List Nat}{s:Sp}(h:Ac w g L s)(o:Obj):Ac (w.alloc o) g L s:=Bl.alloc h o
theorem Ac.there{w:World}{g:Nat}{L:List Nat}{s:Sp}(h:Ac w g L s)(hl:L.length=133):w.there g 0 133:=Bl.there h 0 133 (by simp[hl])
theorem Ac.range{w:World}{g:Nat}{L:List Nat}{s:Sp}(h:Ac w g L s):w.rangeAt g 0 (L.map U):=Bl.range h 0 _ (fun j v hv=>by
 rw[dm,mq (Aa.1 hv).1];exact hv)
theorem Jl(L:List Nat):∀ v ∈ L.map U,v.oneCell'=true:=fun v hv=>by
 obtain⟨x,_,rfl⟩:=kW.1 hv;rfl
theorem Jm(g:Nat)(L M:List Nat)(s t:Sp)(w:World)(hA:Ac w g L s)(hl:L.length=133)(hM:Wf M)(hm:M.length=133)(hb:NP (val M)=false) :
 Calls Tryz.prog 197 #[.pointer (some ⟨g,0,none⟩),.agg (M.map U).toArray,t.agg] w fun r w' =>
  r=.returned (.int .i64 0)/\Ac w' g M t/\But g w w':=by
 obtain⟨tn,tu,td,tm,tp,ta⟩:=t;simp only[Sp.agg];have HR:Aside (Ac w g L s/\L.length=133/\Wf M/\M.length=133/\NP (val M)=false):=⟨hA,hl,hM,hm,hb⟩;clear hA hl hM hm hb;go_enter Tryz.func197,Tryz.ntmps197;go_wp2_with fail;obtain⟨w2,hw2⟩:=ah (((w.alloc (Obj.cells (M.map U).toArray 150)).alloc (Obj.cells #[.int .i64 tn,.int .i64 tu,.int .i64 td,.int .i64 tm,.int .i64 tp,.int .i64 ta] 73)));rw[<-hw2]
 have H2:Aside (Ac w2 g L s/\Wb w2 w.heap.size M/\Bl w2 (w.heap.size+1) 73 [.int .i64 tn,.int .i64 tu,.int .i64 td,.int .i64 tm,.int .i64 tp,.int .i64 ta]/\Below w.heap.size w w2/\g<w.heap.size):=by
  subst hw2;refine⟨(HR.o.1.alloc _).alloc _,((Bl.new w 150 (M.map U)).alloc _).wb,Bl.new' _ 73 _ [_,_,_,_,_,_] aL,(ak w _).trans ((ak _ _).mono aL),HR.o.1.lt⟩
 clear hw2;refine dI (xU w.heap.size M w2 HR.o.r3.1 HR.o.r2.1 H2.o.2.1.hd) ?_;rintro r w3 ⟨rfl,rfl⟩;rw[HR.o.r4];go_wp2;have hne1:g≠w.heap.size:=kz H2.o.r4;have hne2:g≠w.heap.size+1:=by have:=H2.o.r4;omega
 have hu:=Tryz.iW;have hsz:(Tryz.prog.info? 150).map (·.size)=some (M.map U).length:=by rw[Tryz.iV,qC,HR.o.r3.1]
 have hlen:(M.map U).length=133:=by rw[qC,HR.o.r3.1]
 have hone:=Jl M;obtain⟨A2,B2,C2,_,hlt⟩:=H2.o;have hB0:But g w3 (w3.drew):=(But.refl _ _).drew;have hB1:But g w3 (w3.drew.setCells g 0 (M.map U)):=But.setCells _ _ hB0;have hB2:But g w3 (((((((w3.drew.setCells g 0 (M.map U)).setCell ⟨g,133,none⟩ (.int .i64 tn)).setCell ⟨g,134,none⟩ (.int .i64 tu)).setCell ⟨g,135,none⟩ (.int .i64 td)).setCell ⟨g,136,none⟩ (.int .i64 tm)).setCell ⟨g,137,none⟩ (.int .i64 tp)).setCell ⟨g,138,none⟩ (.int .i64 ta)):=(((((hB1.set _ _).set _ _).set _ _).set _ _).set _ _).set _ _
 have hA1:Bl (w3.drew.setCells g 0 (M.map U)) g 152 (M.map U++s.cells):=by
  have:=Bl.setCells (M.map U) 0 A2.drew (by simp[HR.o.2.1,HR.o.r3.1]);rw[List.take_zero,List.nil_append,dm,rP (by simp[HR.o.2.1,HR.o.r3.1])] at this;exact this
 have hA2:Bl (((((((w3.drew.setCells g 0 (M.map U)).setCell ⟨g,133,none⟩ (.int .i64 tn)).setCell ⟨g,134,none⟩ (.int .i64 tu)).setCell ⟨g,135,none⟩ (.int .i64 td)).setCell ⟨g,136,none⟩ (.int .i64 tm)).setCell ⟨g,137,none⟩ (.int .i64 tp)).setCell ⟨g,138,none⟩ (.int .i64 ta)) g 152 (M.map U++[.int .i64 tn,.int .i64 tu,.int .i64 td,.int .i64 tm,.int .i64 tp,.int .i64 ta]):=by
  have:=(((((hA1.set 133 (.int .i64 tn)).set 134 (.int .i64 tu)).set 135 (.int .i64 td)).set 136 (.int .i64 tm)).set 137 (.int .i64 tp)).set 138 (.int .i64 ta);have hm:=HR.o.r3.1;simpa [List.set_append,hm,Sp.cells] using this
 have kS0:Aside ((w3.drew).rangeAt w.heap.size 0 (M.map U)/\(w3.drew).there g 0 133/\(w3.drew).cell? ⟨w.heap.size+1,0,none⟩=some (.int .i64 tn)/\(w3.drew).cell? ⟨w.heap.size+1,1,none⟩=some (.int .i64 tu)/\(w3.drew).cell? ⟨w.heap.size+1,2,none⟩=some (.int .i64 td)/\(w3.drew).cell? ⟨w.heap.size+1,3,none⟩=some (.int .i64 tm)/\(w3.drew).cell? ⟨w.heap.size+1,4,none⟩=some (.int .i64 tp)/\(w3.drew).cell? ⟨w.heap.size+1,5,none⟩=some (.int .i64 ta)) :=
  ⟨(Bl.but B2.bl hB0 af).range 0 _ (fun j v hv=>by simpa using hv),A2.drew.there HR.o.2.1,(Bl.but C2 hB0 af).cell 0 _ rfl,(Bl.but C2 hB0 af).cell 1 _ rfl,(Bl.but C2 hB0 af).cell 2 _ rfl,(Bl.but C2 hB0 af).cell 3 _ rfl,(Bl.but C2 hB0 af).cell 4 _ rfl,(Bl.but C2 hB0 af).cell 5 _ rfl⟩
 have kS1:Aside ((w3.drew.setCells g 0 (M.map U)).rangeAt w.heap.size 0 (M.map U)/\(w3.drew.setCells g 0 (M.map U)).there g 0 133/\(w3.drew.setCells g 0 (M.map U)).cell? ⟨w.heap.size+1,0,none⟩=some (.int .i64 tn)/\(w3.drew.setCells g 0 (M.map U)).cell? ⟨w.heap.size+1,1,none⟩=some (.int .i64 tu)/\(w3.drew.setCells g 0 (M.map U)).cell? ⟨w.heap.size+1,2,none⟩=some (.int .i64 td)/\(w3.drew.setCells g 0 (M.map U)).cell? ⟨w.heap.size+1,3,none⟩=some (.int .i64 tm)/\(w3.drew.setCells g 0 (M.map U)).cell? ⟨w.heap.size+1,4,none⟩=some (.int .i64 tp)/\(w3.drew.setCells g 0 (M.map U)).cell? ⟨w.heap.size+1,5,none⟩=some (.int .i64 ta)) :=
  ⟨(Bl.but B2.bl hB1 af).range 0 _ (fun j v hv=>by simpa using hv),Bl.there hA1 0 133 (by simp[HR.o.r3.1]),(Bl.but C2 hB1 af).cell 0 _ rfl,(Bl.but C2 hB1 af).cell 1 _ rfl,(Bl.but C2 hB1 af).cell 2 _ rfl,(Bl.but C2 hB1 af).cell 3 _ rfl,(Bl.but C2 hB1 af).cell 4 _ rfl,(Bl.but C2 hB1 af).cell 5 _ rfl⟩
 have vE:Aside (((((((((w3.drew.setCells g 0 (M.map U)).setCell ⟨g,133,none⟩ (.int .i64 tn)).setCell ⟨g,134,none⟩ (.int .i64 tu)).setCell ⟨g,135,none⟩ (.int .i64 td)).setCell ⟨g,136,none⟩ (.int .i64 tm)).setCell ⟨g,137,none⟩ (.int .i64 tp)).setCell ⟨g,138,none⟩ (.int .i64 ta))).rangeAt w.heap.size 0 (M.map U)/\((((((((w3.drew.setCells g 0 (M.map U)).setCell ⟨g,133,none⟩ (.int .i64 tn)).setCell ⟨g,134,none⟩ (.int .i64 tu)).setCell ⟨g,135,none⟩ (.int .i64 td)).setCell ⟨g,136,none⟩ (.int .i64 tm)).setCell ⟨g,137,none⟩ (.int .i64 tp)).setCell ⟨g,138,none⟩ (.int .i64 ta))).there g 0 133/\((((((((w3.drew.setCells g 0 (M.map U)).setCell ⟨g,133,none⟩ (.int .i64 tn)).setCell ⟨g,134,none⟩ (.int .i64 tu)).setCell ⟨g,135,none⟩ (.int .i64 td)).setCell ⟨g,136,none⟩ (.int .i64 tm)).setCell ⟨g,137,none⟩ (.int .i64 tp)).setCell ⟨g,138,none⟩ (.int .i64 ta))).cell? ⟨w.heap.size+1,0,none⟩=some (.int .i64 tn)/\((((((((w3.drew.setCells g 0 (M.map U)).setCell ⟨g,133,none⟩ (.int .i64 tn)).setCell ⟨g,134,none⟩ (.int .i64 tu)).setCell ⟨g,135,none⟩ (.int .i64 td)).setCell ⟨g,136,none⟩ (.int .i64 tm)).setCell ⟨g,137,none⟩ (.int .i64 tp)).setCell ⟨g,138,none⟩ (.int .i64 ta))).cell? ⟨w.heap.size+1,1,none⟩=some (.int .i64 tu)/\((((((((w3.drew.setCells g 0 (M.map U)).setCell ⟨g,133,none⟩ (.int .i64 tn)).setCell ⟨g,134,none⟩ (.int .i64 tu)).setCell ⟨g,135,none⟩ (.int .i64 td)).setCell ⟨g,136,none⟩ (.int .i64 tm)).setCell ⟨g,137,none⟩ (.int .i64 tp)).setCell ⟨g,138,none⟩ (.int .i64 ta))).cell? ⟨w.heap.size+1,2,none⟩=some (.int .i64 td)/\((((((((w3.drew.setCells g 0 (M.map U)).setCell ⟨g,133,none⟩ (.int .i64 tn)).setCell ⟨g,134,none⟩ (.int .i64 tu)).setCell ⟨g,135,none⟩ (.int .i64 td)).setCell ⟨g,136,none⟩ (.int .i64 tm)).setCell ⟨g,137,none⟩ (.int .i64 tp)).setCell ⟨g,138,none⟩ (.int .i64 ta))).cell? ⟨w.heap.size+1,3,none⟩=some (.int .i64 tm)/\((((((((w3.drew.setCells g 0 (M.map U)).setCell ⟨g,133,none⟩ (.int .i64 tn)).setCell ⟨g,134,none⟩ (.int .i64 tu)).setCell ⟨g,135,none⟩ (.int .i64 td)).setCell ⟨g,136,none⟩ (.int .i64 tm)).setCell ⟨g,137,none⟩ (.int .i64 tp)).setCell ⟨g,138,none⟩ (.int .i64 ta))).cell? ⟨w.heap.size+1,4,none⟩=some (.int .i64 tp)/\((((((((w3.drew.setCells g 0 (M.map U)).setCell ⟨g,133,none⟩ (.int .i64 tn)).setCell ⟨g,134,none⟩ (.int .i64 tu)).setCell ⟨g,135,none⟩ (.int .i64 td)).setCell ⟨g,136,none⟩ (.int .i64 tm)).setCell ⟨g,137,none⟩ (.int .i64 tp)).setCell ⟨g,138,none⟩ (.int .i64 ta))).cell? ⟨w.heap.size+1,5,none⟩=some (.int .i64 ta)) :=
  ⟨(Bl.but B2.bl hB2 af).range 0 _ (fun j v hv=>by simpa using hv),Bl.there hA2 0 133 (by simp[HR.o.r3.1]),(Bl.but C2 hB2 af).cell 0 _ rfl,(Bl.but C2 hB2 af).cell 1 _ rfl,(Bl.but C2 hB2 af).cell 2 _ rfl,(Bl.but C2 hB2 af).cell 3 _ rfl,(Bl.but C2 hB2 af).cell 4 _ rfl,(Bl.but C2 hB2 af).cell 5 _ rfl⟩
 have o0:=hA1.cell 133 _ (by rw[mr (by simp[HR.o.r3.1])];simp[HR.o.r3.1,Sp.cells];rfl);have f0:=hA1.frozen 133;have o1:=hA1.cell 134 _ (by rw[mr (by simp[HR.o.r3.1])];simp[HR.o.r3.1,Sp.cells];rfl);have f1:=hA1.frozen 134;have o2:=hA1.cell 135 _ (by rw[mr (by simp[HR.o.r3.1])];simp[HR.o.r3.1,Sp.cells];rfl);have f2:=hA1.frozen 135;have o3:=hA1.cell 136 _ (by rw[mr (by simp[HR.o.r3.1])];simp[HR.o.r3.1,Sp.cells];rfl);have f3:=hA1.frozen 136;have o4:=hA1.cell 137 _ (by rw[mr (by simp[HR.o.r3.1])];simp[HR.o.r3.1,Sp.cells];rfl);have f4:=hA1.frozen 137;have o5:=hA1.cell 138 _ (by rw[mr (by simp[HR.o.r3.1])];simp[HR.o.r3.1,Sp.cells];rfl);have f5:=hA1.frozen 138;have fw0:=H2.o.1.frozen 133;have fw1:=H2.o.1.frozen 134;have fw2:=H2.o.1.frozen 135;have fw3:=H2.o.1.frozen 136;have fw4:=H2.o.1.frozen 137;have fw5:=H2.o.1.frozen 138;have HE:Aside (Ac (((((((w3.drew.setCells g 0 (M.map U)).setCell ⟨g,133,none⟩ (.int .i64 tn)).setCell ⟨g,134,none⟩ (.int .i64 tu)).setCell ⟨g,135,none⟩ (.int .i64 td)).setCell ⟨g,136,none⟩ (.int .i64 tm)).setCell ⟨g,137,none⟩ (.int .i64 tp)).setCell ⟨g,138,none⟩ (.int .i64 ta)) g M ⟨tn,tu,td,tm,tp,ta⟩/\But g w3 (((((((w3.drew.setCells g 0 (M.map U)).setCell ⟨g,133,none⟩ (.int .i64 tn)).setCell ⟨g,134,none⟩ (.int .i64 tu)).setCell ⟨g,135,none⟩ (.int .i64 td)).setCell ⟨g,136,none⟩ (.int .i64 tm)).setCell ⟨g,137,none⟩ (.int .i64 tp)).setCell ⟨g,138,none⟩ (.int .i64 ta))):=⟨hA2,hB2⟩;clear A2 B2 C2 hB0 hB1 hB2 hA1 hA2
 go_region_held (fun w'=>(w').rangeAt w.heap.size 0 (M.map U)/\(w').there g 0 133/\(w').cell? ⟨w.heap.size+1,0,none⟩=some (.int .i64 tn)/\(w').cell? ⟨w.heap.size+1,1,none⟩=some (.int .i64 tu)/\(w').cell? ⟨w.heap.size+1,2,none⟩=some (.int .i64 td)/\(w').cell? ⟨w.heap.size+1,3,none⟩=some (.int .i64 tm)/\(w').cell? ⟨w.heap.size+1,4,none⟩=some (.int .i64 tp)/\(w').cell? ⟨w.heap.size+1,5,none⟩=some (.int .i64 ta)) (first | with_reducible exact vE.o | with_reducible exact kS1.o | with_reducible exact kS0.o) (fail)
 clear kS0 kS1 vE o0 o1 o2 o3 o4 o5 f0 f1 f2 f3 f4 f5 fw0 fw1 fw2 fw3 fw4 fw5 hsz hone hlen hu;go_wp2;go_ret;exact⟨rfl,HE.o.1,((But.refl g w).tX H2.o.r3.1).trans HE.o.2⟩
theorem N9(g:Nat)(L M:List Nat)(s t:Sp)(w:World)(hA:Ac w g L s)(hM:Wf M)(hm:M.length=133)(hb:NP (val M)=true) :
 Calls Tryz.prog 197 #[.pointer (some ⟨g,0,none⟩),.agg (M.map U).toArray,t.agg] w fun r w' =>
  r=.returned (.int .i64 2)/\Below w.heap.size w w':=by
 obtain⟨tn,tu,td,tm,tp,ta⟩:=t;simp only[Sp.agg];have HR:Aside (Wf M/\M.length=133/\NP (val M)=true):=⟨hM,hm,hb⟩;clear hA hM hm hb;go_enter Tryz.func197,Tryz.ntmps197;go_wp2_with fail;obtain⟨w2,hw2⟩:=ah (((w.alloc (Obj.cells (M.map U).toArray 150)).alloc (Obj.cells #[.int .i64 tn,.int .i64 tu,.int .i64 td,.int .i64 tm,.int .i64 tp,.int .i64 ta] 73)));rw[<-hw2]
 have H2:Aside (Wb w2 w.heap.size M/\Below w.heap.size w w2):=by
  subst hw2;exact⟨((Bl.new w 150 (M.map U)).alloc _).wb,(ak w _).trans ((ak _ _).mono aL)⟩
 clear hw2;refine dI (xU w.heap.size M w2 HR.o.2.1 HR.o.1 H2.o.1.hd) ?_;rintro r w3 ⟨rfl,rfl⟩;rw[HR.o.r2];go_wp2;go_ret;exact⟨rfl,H2.o.2⟩
def Sp.ok(s:Sp):Prop:=(-4398046511104<=s.n/\s.n<=4398046511104)/\(-4398046511104<=s.u/\s.u<=4398046511104)/\(-4398046511104<=s.d/\s.d<=4398046511104)/\(-4398046511104<=s.m/\s.m<=4398046511104)/\(-4398046511104<=s.p/\s.p<=4398046511104)/\(-4398046511104<=s.a/\s.a<=4398046511104)
def Sp.cnt(s:Sp)(k:Nat)(c:Int):Sp :=
 ⟨if k=1 then s.n+c else s.n,if k=2 then s.u+c else s.u,if k=3 then s.d+c else s.d,if k=4 then s.m+c else s.m,if k=5 then s.p+c else s.p,s.a+c⟩
theorem nk(b:Bool)(x y:Int)(w:World):Calls Tryz.prog 249 #[.bool b,.int .i64 x,.int .i64 y] w fun r w'=>r=.returned (.int .i64 (if b then x else y))/\w'=w:=by
 cases b
 · go_enter Tryz.func249,Tryz.ntmps249;go_wp2;exact Ks
 · go_enter Tryz.func249,Tryz.ntmps249;go_wp2;exact Ks
theorem Fy(s:Sp)(k:Nat)(c:Int)(w:World)(hk:k<=5)(hs:s.ok)(hc0:-1<=c)(hc1:c<=1):Calls Tryz.prog 199 #[s.agg,.int .i64 (k:Nat),.int .i64 c] w fun r w'=>r=.returned (s.cnt k c).agg/\Below w.heap.size w w':=by
 obtain⟨n,u,d,m,p,a⟩:=s;obtain⟨h0,h1,h2,h3,h4,h5⟩:=hs;simp only[Sp.agg] at *;have hc:k=0\/k=1\/k=2\/k=3\/k=4\/k=5:=af
 rcases hc with rfl|rfl|rfl|rfl|rfl|rfl
 all_goals (
  go_enter Tryz.func199,Tryz.ntmps199;go_wp2
  exact aJ (v:=(Sp.cnt ⟨n,u,d,m,p,a⟩ _ c).agg) (by simp[results,Tryz.results199,go_sem,Sp.agg,Sp.cnt]) rfl ⟨rfl,(ak _ _).trans ((ak _ _).mono aL)⟩)
end
end Go.Proofs.YtaejmlkaefnbhaaGreatDoor
