import Derived.Test.YtblkpkgebigojaaGreatDoorW14x
import Derived.Test.YtblkpkgebigojaaGreatDoorM1x
import Derived.WalkLawsBesides
import Derived.WalkMore
import Derived.Deep.MidRow
import Derived.ChangeKeysEq
import Derived.Laws.OwnMore
import Derived.Lib.SliceRun
import Derived.Deep.RegionHeld
set_option linter.unusedVariables false
set_option linter.unusedSimpArgs false
set_option maxHeartbeats 16000000
set_option maxRecDepth 20000
namespace Go.Proofs.YtblkpkgebigojaaGreatDoor
section
open Go.RowKit
abbrev LG (X:Nat):Prop:=8192<(ws X).length
def tN (X Y:Nat):Nat×Int:=if LG (X+Y) then (0,2) else (X+Y,0)
def nz (X Y:Nat):Nat×Int:=if LG X\/LG Y then (0,2) else if X<Y then (0,20) else (X-Y,0)
def ji (X Y:Nat):Nat×Int:=if LG X\/LG Y then (0,2) else if LG (X*Y) then (0,2) else (X*Y,0)
def nA (X Y:Nat):Nat×Nat×Int:=if LG X\/LG Y then (0,0,2) else if Y=0 then (0,0,21) else (X/Y,X%Y,0)
def bF (X:Nat) (by':Int):Nat×Int:=if LG X then (0,2) else if X=0 then (0,0) else if by'<0 then (X/2^(-by').toNat,0) else if 262144-(bl X:Int)<by' then (0,2) else (X*2^by'.toNat,0)
def One (lo:Nat) (w:World) (r:Ending) (a:Nat×Int):Prop:=∃ v,r=.returned (.tuple #[v,.int .i64 a.2])/\Nt lo w v a.1
theorem qi (xs:List Nat) (ao:Option Addr) (n cap B:Nat) (w:World) (hn:n=xs.length) (hc:n<=cap) (hm:n<=70368744177664) (hx:Wf xs) (hR:Rd B w ao xs) :
 (Calls Tryz.prog 127 #[.slice ao n cap] w fun r w'=>r=.returned (.slice ao (ws (val xs)).length cap)/\w'=w)/\Rd B w ao (ws (val xs))/\(ws (val xs)).length<=n:=by
 have T:=dV xs ao n cap B w hn hc ae hR;have hl:=jQ xs;have hf:=nP xs hx;have hlen:=gG xs hx;rw [hlen] at T hl hf;exact ⟨T,by rw [<-hf];exact hR.take _,ae⟩
theorem Gn (xs ys:List Nat) (ao bo:Option Addr) (n cap m bz B:Nat) (w:World) (hn:n=xs.length) (hm:m=ys.length) (hc:n<=cap) (hcb:m<=bz) (hbig:n<=35184372088833) (hbig2:m<=35184372088833)
 (hx:Wf xs) (hy:Wf ys) (hR:Rd B w ao xs) (hS:Rd B w bo ys) (hB:B<=w.heap.size) :
 Calls Tryz.prog 177 #[.slice ao n cap,.slice bo m bz] w fun r w'=>One w.heap.size w' r (tN (val xs) (val ys))/\Below w.heap.size w w':=by
 obtain ⟨T1,nC,hl1⟩:=qi xs ao n cap B w hn hc ae hx hR;obtain ⟨T2,qZ,hl2⟩:=qi ys bo m bz B w hm hcb ae hy hS;generalize val xs=X at *;generalize val ys=Y at *;have A0:=PN (ws X) (ws Y) ao bo _ cap _ bz B w rfl rfl ae ae ae ae (fV X) (fV Y) nC qZ hB;rw [ax,ax] at A0;have H1:=(hid T1);have H2:=(hid T2);have H3:=(hid A0);clear T1 T2 A0 nC qZ hn hm hx hy hR hS hl1 hl2;go_enter Tryz.func177,Tryz.ntmps177;go_wp2_with fail;refine H1.o.mono ?_;rintro r w1 ⟨rfl,rfl⟩;go_wp2_with fail;refine H2.o.mono ?_;rintro r w1 ⟨rfl,rfl⟩;go_wp2_with fail;refine H3.o.mono ?_;rintro r w2 ⟨v,rfl,hN,hb⟩;obtain ⟨av,cv,rfl,hcv,hcm,hRv⟩:=hN.shape;have U0:=nk (ws (X+Y)).length av cv w2;have HN:=(bB hN hb);clear H1 H2 H3 hN hb hRv
 by_cases hL:LG (X+Y)
 · rw [if_pos (show 8192<(ws (X+Y)).length from hL)] at U0;have U:=(hid U0);clear U0;go_wp2_with fail;refine U.o.mono ?_;rintro r w3 ⟨rfl,rfl⟩;go_wp2
   go_ret2
   rw [show tN X Y=(0,2) by simp [tN,hL]];exact ⟨⟨_,rfl,Nt.nil _ _⟩,HN.o.2⟩
 · rw [if_neg (show ¬ 8192<(ws (X+Y)).length from hL)] at U0;have U:=(hid U0);clear U0;go_wp2_with fail;refine U.o.mono ?_;rintro r w3 ⟨rfl,rfl⟩;go_wp2
   go_ret2
   rw [show tN X Y=(X+Y,0) by simp [tN,hL]];exact ⟨⟨_,rfl,HN.o.1⟩,HN.o.2⟩
theorem kP (n:Nat) (ao:Option Addr) (cap:Nat) (w:World) (b:Bool) (hb:decide (8192<n)=b) :
 Calls Tryz.prog 172 #[.slice ao n cap] w fun r w'=>r=.returned (.bool b)/\w'=w:=by
 have h:=uH n ao cap w;have e:decide ((8192:Int)<(n:Int))=b:=by rw [<-hb];simp only [decide_eq_decide];omega
 rw [e] at h;exact h
theorem PS (xs ys:List Nat) (ao bo:Option Addr) (n cap m bz B:Nat) (w:World) (hn:n=xs.length) (hm:m=ys.length) (hc:n<=cap) (hcb:m<=bz) (hbig:n<=35184372088833) (hbig2:m<=35184372088833)
 (hx:Wf xs) (hy:Wf ys) (hR:Rd B w ao xs) (hS:Rd B w bo ys) (hB:B<=w.heap.size) :
 Calls Tryz.prog 179 #[.slice ao n cap,.slice bo m bz] w fun r w'=>One w.heap.size w' r (nz (val xs) (val ys))/\Below w.heap.size w w':=by
 obtain ⟨T1,nC,hl1⟩:=qi xs ao n cap B w hn hc ae hx hR;obtain ⟨T2,qZ,hl2⟩:=qi ys bo m bz B w hm hcb ae hy hS;generalize val xs=X at *;generalize val ys=Y at *;have H1:=(hid T1);have H2:=(hid T2);have HR:=(jK nC qZ hl1 hl2);clear T1 T2 nC qZ hn hm hx hy hR hS hl1 hl2
 by_cases jL:LG X
 · have L:=hid (kP (ws X).length ao cap w true (by simpa [LG] using jL));have e:nz X Y=(0,2):=by simp [nz,jL]
   rw [e];clear e jL HR;go_enter Tryz.func179,Tryz.ntmps179;go_wp2_with fail;refine H1.o.mono ?_;rintro r w1 ⟨rfl,rfl⟩;go_wp2_with fail;refine H2.o.mono ?_;rintro r w1 ⟨rfl,rfl⟩;go_wp2_with fail;refine L.o.mono ?_;rintro r w1 ⟨rfl,rfl⟩;go_wp2
   go_ret2
   exact ⟨⟨_,rfl,Nt.nil _ _⟩,ak _ _⟩
 · have L:=hid (kP (ws X).length ao cap w false (by simpa [LG] using jL))
   by_cases oV:LG Y
   · have L2:=hid (kP (ws Y).length bo bz w true (by simpa [LG] using oV));have e:nz X Y=(0,2):=by simp [nz,oV]
     rw [e];clear e jL oV HR;go_enter Tryz.func179,Tryz.ntmps179;go_wp2_with fail;refine H1.o.mono ?_;rintro r w1 ⟨rfl,rfl⟩;go_wp2_with fail;refine H2.o.mono ?_;rintro r w1 ⟨rfl,rfl⟩;go_wp2_with fail;refine L.o.mono ?_;rintro r w1 ⟨rfl,rfl⟩;go_wp2_with fail;refine L2.o.mono ?_;rintro r w1 ⟨rfl,rfl⟩;go_wp2
     go_ret2
     exact ⟨⟨_,rfl,Nt.nil _ _⟩,ak _ _⟩
   · have L2:=hid (kP (ws Y).length bo bz w false (by simpa [LG] using oV));obtain ⟨nC,qZ,hl1,hl2⟩:=HR.o;have C0:=Gm (ws X) (ws Y) ao bo _ cap _ bz B w rfl rfl ae ae ae ae (fV X) (fV Y) nC qZ;rw [ax,ax] at C0
     by_cases hlt:X<Y
     · rw [mg hlt] at C0;have C:=hid C0;have e:nz X Y=(0,20):=by simp [nz,jL,oV,hlt]
       rw [e];clear e jL oV HR C0 hlt nC qZ hl1 hl2;go_enter Tryz.func179,Tryz.ntmps179;go_wp2_with fail;refine H1.o.mono ?_;rintro r w1 ⟨rfl,rfl⟩;go_wp2_with fail;refine H2.o.mono ?_;rintro r w1 ⟨rfl,rfl⟩;go_wp2_with fail;refine L.o.mono ?_;rintro r w1 ⟨rfl,rfl⟩;go_wp2_with fail;refine L2.o.mono ?_;rintro r w1 ⟨rfl,rfl⟩;go_wp2_with fail;refine C.o.mono ?_;rintro r w2 ⟨rfl,hb⟩;have HB:=(ay hb);clear hb;go_wp2
       go_ret2
       exact ⟨⟨_,rfl,Nt.nil _ _⟩,HB.o⟩
     · have hc1:0<=bE X Y:=by unfold bE;rw [if_neg hlt];split <;> omega
       obtain ⟨cc,hcc⟩:∃ cc,bE X Y=cc:=⟨_,rfl⟩;rw [hcc] at C0 hc1;have C:=hid C0;have e:nz X Y=(X-Y,0):=by simp [nz,jL,oV,hlt]
       rw [e];have HL:=(ay hlt);clear e jL oV C0 hlt nC qZ hl1 hl2 hcc;go_enter Tryz.func179,Tryz.ntmps179;go_wp2_with fail;refine H1.o.mono ?_;rintro r w1 ⟨rfl,rfl⟩;go_wp2_with fail;refine H2.o.mono ?_;rintro r w1 ⟨rfl,rfl⟩;go_wp2_with fail;refine L.o.mono ?_;rintro r w1 ⟨rfl,rfl⟩;go_wp2_with fail;refine L2.o.mono ?_;rintro r w1 ⟨rfl,rfl⟩;go_wp2_with fail;refine C.o.mono ?_;rintro r w2 ⟨rfl,hb⟩;obtain ⟨nC,qZ,hl1,hl2⟩:=HR.o;have hs:=hb.size;have S0:=PQ (ws X) (ws Y) ao bo _ cap _ bz B w2 rfl rfl (sN (by have:=HL.o;omega)) ae ae ae (fV X) (fV Y) (by rw [ax,ax];have:=HL.o;omega) (nC.below (hb.mono hB)) (qZ.below (hb.mono hB)) ae;rw [ax,ax] at S0;have S:=hid S0;have HB:=(bB hb hs);clear hb nC qZ hl1 hl2 S0 hs C;go_wp2_with fail;refine S.o.mono ?_;rintro r w3 ⟨v,rfl,hN,hb2⟩;have HN:=(bB hN hb2);clear hN hb2 S;go_wp2
       go_ret2
       obtain ⟨hb,hs⟩:=HB.o;exact ⟨⟨_,rfl,HN.o.1.mono hs⟩,hb.trans (HN.o.2.mono hs)⟩
theorem Gp (xs ys:List Nat) (ao bo:Option Addr) (n cap m bz B:Nat) (w:World) (hn:n=xs.length) (hm:m=ys.length) (hc:n<=cap) (hcb:m<=bz) (hbig:n<=35184372088833) (hbig2:m<=35184372088833)
 (hx:Wf xs) (hy:Wf ys) (hR:Rd B w ao xs) (hS:Rd B w bo ys) (hB:B<=w.heap.size) :
 Calls Tryz.prog 132 #[.slice ao n cap,.slice bo m bz] w fun r w'=>One w.heap.size w' r (ji (val xs) (val ys))/\Below w.heap.size w w':=by
 obtain ⟨T1,nC,hl1⟩:=qi xs ao n cap B w hn hc ae hx hR;obtain ⟨T2,qZ,hl2⟩:=qi ys bo m bz B w hm hcb ae hy hS;generalize val xs=X at *;generalize val ys=Y at *;have H1:=(hid T1);have H2:=(hid T2);have HR:=(jK nC qZ hl1 hl2);clear T1 T2 nC qZ hn hm hx hy hR hS hl1 hl2
 by_cases jL:LG X
 · have L:=hid (kP (ws X).length ao cap w true (by simpa [LG] using jL));have e:ji X Y=(0,2):=by simp [ji,jL]
   rw [e];clear e jL HR;go_enter Tryz.func132,Tryz.ntmps132;go_wp2_with fail;refine H1.o.mono ?_;rintro r w1 ⟨rfl,rfl⟩;go_wp2_with fail;refine H2.o.mono ?_;rintro r w1 ⟨rfl,rfl⟩;go_wp2_with fail;refine L.o.mono ?_;rintro r w1 ⟨rfl,rfl⟩;go_wp2
   go_ret2
   exact ⟨⟨_,rfl,Nt.nil _ _⟩,ak _ _⟩
 · have L:=hid (kP (ws X).length ao cap w false (by simpa [LG] using jL))
   by_cases oV:LG Y
   · have L2:=hid (kP (ws Y).length bo bz w true (by simpa [LG] using oV));have e:ji X Y=(0,2):=by simp [ji,oV]
     rw [e];clear e jL oV HR;go_enter Tryz.func132,Tryz.ntmps132;go_wp2_with fail;refine H1.o.mono ?_;rintro r w1 ⟨rfl,rfl⟩;go_wp2_with fail;refine H2.o.mono ?_;rintro r w1 ⟨rfl,rfl⟩;go_wp2_with fail;refine L.o.mono ?_;rintro r w1 ⟨rfl,rfl⟩;go_wp2_with fail;refine L2.o.mono ?_;rintro r w1 ⟨rfl,rfl⟩;go_wp2
     go_ret2
     exact ⟨⟨_,rfl,Nt.nil _ _⟩,ak _ _⟩
   · have L2:=hid (kP (ws Y).length bo bz w false (by simpa [LG] using oV));have hz1:(ws X).length=0->X=0:=(bZ X).1;have hz2:(ws Y).length=0->Y=0:=(bZ Y).1
     by_cases h1:(ws X).length=0
     · have e:ji X Y=(0,0):=by
        have:=hz1 h1;subst this;unfold ji;rw [if_neg (by simp [jL,oV]),dZ,if_neg jL]
       rw [e];have hh:=hid h1;rw [h1] at H1 L;have h1b:((ws X).length:Int)=0:=ae
       clear e jL oV HR hz1 hz2 h1 h1b hh;go_enter Tryz.func132,Tryz.ntmps132;go_wp2_with fail;refine H1.o.mono ?_;rintro r w1 ⟨rfl,rfl⟩;go_wp2_with fail;refine H2.o.mono ?_;rintro r w1 ⟨rfl,rfl⟩;go_wp2_with fail;refine L.o.mono ?_;rintro r w1 ⟨rfl,rfl⟩;go_wp2_with fail;refine L2.o.mono ?_;rintro r w1 ⟨rfl,rfl⟩;go_wp2
       go_ret2
       exact ⟨⟨_,rfl,Nt.nil _ _⟩,ak _ _⟩
     · by_cases h2:(ws Y).length=0
       · have e:ji X Y=(0,0):=by
          have:=hz2 h2;subst this;unfold ji;rw [if_neg (by simp [jL,oV]),mX,if_neg oV]
         rw [e];rw [h2] at H2 L2;obtain ⟨k1,hk1⟩:∃ k,(ws X).length=k:=⟨_,rfl⟩;rw [hk1] at H1 L h1;have h1b:((k1:Int)==0)=false:=by simp;omega
         clear e jL oV HR hz1 hz2 h2 hk1;go_enter Tryz.func132,Tryz.ntmps132;go_wp2_with fail;refine H1.o.mono ?_;rintro r w1 ⟨rfl,rfl⟩;go_wp2_with fail;refine H2.o.mono ?_;rintro r w1 ⟨rfl,rfl⟩;go_wp2_with fail;refine L.o.mono ?_;rintro r w1 ⟨rfl,rfl⟩;go_wp2_with fail;refine L2.o.mono ?_;rintro r w1 ⟨rfl,rfl⟩;go_wp2
         go_ret2
         exact ⟨⟨_,rfl,Nt.nil _ _⟩,ak _ _⟩
       · have hX0:X≠0:=fun e=>h1 ((bZ X).2 e);have hY0:Y≠0:=fun e=>h2 ((bZ Y).2 e)
         have hlow:pw ((ws X).length+(ws Y).length-2)<=X*Y:=by
          have a:=kM (qQ X hX0) (qQ Y hY0);rw [<-qP] at a;rw [show (ws X).length+(ws Y).length-2=(ws X).length-1+((ws Y).length-1) by omega];exact a
         obtain ⟨nC,qZ,hl1,hl2⟩:=HR.o;have M0:=PR (ws X) (ws Y) ao bo _ cap _ bz B w rfl rfl ae ae (by unfold LG at jL oV;omega) (fV X) (fV Y) nC qZ hB;rw [ax,ax] at M0;have PT:(ws X).length<=8192:=by unfold LG at jL;omega
         have PU:(ws Y).length<=8192:=by unfold LG at oV;omega
         obtain ⟨k1,hk1⟩:∃ k,(ws X).length=k:=⟨_,rfl⟩;obtain ⟨k2,hk2⟩:∃ k,(ws Y).length=k:=⟨_,rfl⟩;rw [hk1] at H1 L h1 M0 hlow PT;rw [hk2] at H2 L2 h2 M0 hlow PU;have h1b:((k1:Int)==0)=false:=by simp;omega
         have h2b:((k2:Int)==0)=false:=by simp;omega
         by_cases h3:8192<k1+k2-1
         · have hLG:LG (X*Y):=by
            unfold LG
            by_cases h4:(ws (X*Y)).length<=8192
            · have:=(aV _ _).1 h4;have:=jT (show 8192<=k1+k2-2 by omega);omega
            · omega
           have e:ji X Y=(0,2):=by simp [ji,hLG]
           rw [e];have h3i:(8192:Int)<(k1:Int)+(k2:Int)-1:=ae
           clear e jL oV HR hz1 hz2 hk1 hk2 nC qZ hl1 hl2 M0 hX0 hY0 hlow hLG h3;go_enter Tryz.func132,Tryz.ntmps132;go_wp2_with fail;refine H1.o.mono ?_;rintro r w1 ⟨rfl,rfl⟩;go_wp2_with fail;refine H2.o.mono ?_;rintro r w1 ⟨rfl,rfl⟩;go_wp2_with fail;refine L.o.mono ?_;rintro r w1 ⟨rfl,rfl⟩;go_wp2_with fail;refine L2.o.mono ?_;rintro r w1 ⟨rfl,rfl⟩;go_wp2
           go_ret2
           exact ⟨⟨_,rfl,Nt.nil _ _⟩,ak _ _⟩
         · have h3i:(k1:Int)+(k2:Int)-1<=8192:=ae
           have h3b:decide ((8192:Int)<(k1:Int)+(k2:Int)-1)=false:=decide_eq_false ae;have M:=hid M0;have HL:=(bB jL oV);clear jL oV HR hz1 hz2 hk1 hk2 nC qZ hl1 hl2 M0 hX0 hY0 hlow h3;go_enter Tryz.func132,Tryz.ntmps132;go_wp2_with fail;refine H1.o.mono ?_;rintro r w1 ⟨rfl,rfl⟩;go_wp2_with fail;refine H2.o.mono ?_;rintro r w1 ⟨rfl,rfl⟩;go_wp2_with fail;refine L.o.mono ?_;rintro r w1 ⟨rfl,rfl⟩;go_wp2_with fail;refine L2.o.mono ?_;rintro r w1 ⟨rfl,rfl⟩;go_wp2_with fail;refine M.o.mono ?_;rintro r w2 ⟨v,rfl,hN,hb⟩;obtain ⟨av,cv,rfl,hcv,hcm,hRv⟩:=hN.shape;have U0:=nk (ws (X*Y)).length av cv w2;have HN:=(bB hN hb);clear M hN hb hRv
           by_cases hL:LG (X*Y)
           · rw [if_pos (show 8192<(ws (X*Y)).length from hL)] at U0;have U:=(hid U0);clear U0;go_wp2_with fail;refine U.o.mono ?_;rintro r w3 ⟨rfl,rfl⟩;go_wp2
             go_ret2
             rw [show ji X Y=(0,2) by simp [ji,hL]];exact ⟨⟨_,rfl,Nt.nil _ _⟩,HN.o.2⟩
           · rw [if_neg (show ¬ 8192<(ws (X*Y)).length from hL)] at U0;have U:=(hid U0);clear U0;go_wp2_with fail;refine U.o.mono ?_;rintro r w3 ⟨rfl,rfl⟩;go_wp2
             go_ret2
             rw [show ji X Y=(X*Y,0) by simp [ji,HL.o.1,HL.o.2,hL]];exact ⟨⟨_,rfl,HN.o.1⟩,HN.o.2⟩
def Three (lo:Nat) (w:World) (r:Ending) (a:Nat×Nat×Int):Prop:=∃ v u,r=.returned (.tuple #[v,u,.int .i64 a.2.2])/\Nt lo w v a.1/\Nt lo w u a.2.1/\Apart v u
theorem PV (xs ys:List Nat) (ao bo:Option Addr) (n cap m bz B:Nat) (w:World) (hn:n=xs.length) (hm:m=ys.length) (hc:n<=cap) (hcb:m<=bz) (hbig:n<=35184372088833) (hbig2:m<=35184372088833)
 (hx:Wf xs) (hy:Wf ys) (hR:Rd B w ao xs) (hS:Rd B w bo ys) (hB:B<=w.heap.size) :
 Calls Tryz.prog 207 #[.slice ao n cap,.slice bo m bz] w fun r w'=>Three w.heap.size w' r (nA (val xs) (val ys))/\Below w.heap.size w w':=by
 obtain ⟨T1,nC,hl1⟩:=qi xs ao n cap B w hn hc ae hx hR;obtain ⟨T2,qZ,hl2⟩:=qi ys bo m bz B w hm hcb ae hy hS;generalize val xs=X at *;generalize val ys=Y at *;have H1:=(hid T1);have H2:=(hid T2);have HR:=(jK nC qZ hl1 hl2);clear T1 T2 nC qZ hn hm hx hy hR hS hl1 hl2
 by_cases jL:LG X
 · have L:=hid (kP (ws X).length ao cap w true (by simpa [LG] using jL));have e:nA X Y=(0,0,2):=by simp [nA,jL]
   rw [e];clear e jL HR;go_enter Tryz.func207,Tryz.ntmps207;go_wp2_with fail;refine H1.o.mono ?_;rintro r w1 ⟨rfl,rfl⟩;go_wp2_with fail;refine H2.o.mono ?_;rintro r w1 ⟨rfl,rfl⟩;go_wp2_with fail;refine L.o.mono ?_;rintro r w1 ⟨rfl,rfl⟩;go_wp2
   go_ret3
   exact ⟨⟨_,_,rfl,Nt.nil _ _,Nt.nil _ _,nU _⟩,ak _ _⟩
 · have L:=hid (kP (ws X).length ao cap w false (by simpa [LG] using jL))
   by_cases oV:LG Y
   · have L2:=hid (kP (ws Y).length bo bz w true (by simpa [LG] using oV));have e:nA X Y=(0,0,2):=by simp [nA,oV]
     rw [e];clear e jL oV HR;go_enter Tryz.func207,Tryz.ntmps207;go_wp2_with fail;refine H1.o.mono ?_;rintro r w1 ⟨rfl,rfl⟩;go_wp2_with fail;refine H2.o.mono ?_;rintro r w1 ⟨rfl,rfl⟩;go_wp2_with fail;refine L.o.mono ?_;rintro r w1 ⟨rfl,rfl⟩;go_wp2_with fail;refine L2.o.mono ?_;rintro r w1 ⟨rfl,rfl⟩;go_wp2
     go_ret3
     exact ⟨⟨_,_,rfl,Nt.nil _ _,Nt.nil _ _,nU _⟩,ak _ _⟩
   · have L2:=hid (kP (ws Y).length bo bz w false (by simpa [LG] using oV))
     by_cases h2:Y=0
     · have e:nA X Y=(0,0,21):=by unfold nA;rw [if_neg (by simp [jL,oV]),if_pos h2]
       rw [e];subst h2;rw [bN] at H2 L2;clear e jL oV HR;go_enter Tryz.func207,Tryz.ntmps207;go_wp2_with fail;refine H1.o.mono ?_;rintro r w1 ⟨rfl,rfl⟩;go_wp2_with fail;refine H2.o.mono ?_;rintro r w1 ⟨rfl,rfl⟩;go_wp2_with fail;refine L.o.mono ?_;rintro r w1 ⟨rfl,rfl⟩;go_wp2_with fail;refine L2.o.mono ?_;rintro r w1 ⟨rfl,rfl⟩;go_wp2
       go_ret3
       exact ⟨⟨_,_,rfl,Nt.nil _ _,Nt.nil _ _,nU _⟩,ak _ _⟩
     · have h3:(ws Y).length≠0:=fun e=>h2 ((bZ Y).1 e);obtain ⟨nC,qZ,hl1,hl2⟩:=HR.o;have D0:=PO (ws X) (ws Y) ao bo _ cap _ bz B w rfl rfl ae ae ae ae (fV X) (fV Y) (TP Y h2) nC qZ hB;rw [ax,ax] at D0;have e:nA X Y=(X/Y,X%Y,0):=by simp [nA,jL,oV,h2]
       rw [e];obtain ⟨k2,hk2⟩:∃ k,(ws Y).length=k:=⟨_,rfl⟩;rw [hk2] at H2 L2 D0 h3;have h2b:((k2:Int)==0)=false:=by simp;omega
       have D:=hid D0;clear e jL oV HR hk2 nC qZ hl1 hl2 D0 h2;go_enter Tryz.func207,Tryz.ntmps207;go_wp2_with fail;refine H1.o.mono ?_;rintro r w1 ⟨rfl,rfl⟩;go_wp2_with fail;refine H2.o.mono ?_;rintro r w1 ⟨rfl,rfl⟩;go_wp2_with fail;refine L.o.mono ?_;rintro r w1 ⟨rfl,rfl⟩;go_wp2_with fail;refine L2.o.mono ?_;rintro r w1 ⟨rfl,rfl⟩;go_wp2_with fail;refine D.o.mono ?_;rintro r w2 ⟨⟨v,u,rfl,hN1,Dp,hap⟩,hb⟩;have HN:=(jK hN1 Dp hap hb);clear hN1 Dp hap hb D;go_wp2
       go_ret3
       obtain ⟨hN1,Dp,hap,hb⟩:=HN.o;exact ⟨⟨_,_,rfl,hN1,Dp,hap⟩,hb⟩
theorem kQ (X k:Nat) (h:X<pw k):bl X<=32*k:=by
 by_cases h0:X=0
 · subst h0;rw [dJ];omega
 · have h1:=iG X h0;have h3:pw k=2^(32*k):=by rw [<-iw (32*k),l9];simp
   rw [h3] at h;have:=(jP (a:=2) aO).1 (iy h1 h);omega
theorem L9 (X:Nat) (h:¬ LG X):bl X<=262144 :=
 kQ X 8192 ((aV X 8192).1 (by unfold LG at h;omega))
theorem xM (xs:List Nat) (ao:Option Addr) (n cap B:Nat) (by':Int) (w:World) (hn:n=xs.length) (hc:n<=cap) (hbig:n<=35184372088833)
 (hx:Wf xs) (hR:Rd B w ao xs) (hB:B<=w.heap.size) (hb0:-9223372036854775808<=by') (hb1:by'<=9223372036854775807) :
 Calls Tryz.prog 129 #[.slice ao n cap,.int .i64 by'] w fun r w'=>One w.heap.size w' r (bF (val xs) by')/\Below w.heap.size w w':=by
 obtain ⟨T1,nC,hl1⟩:=qi xs ao n cap B w hn hc ae hx hR;generalize val xs=X at *;have N0:=qg (ws X) ao _ cap B w rfl ae ae (fV X) nC;rw [ax] at N0;have H1:=(hid T1);have H2:=(hid N0);have HR:=(bB nC hl1);clear T1 N0 nC hn hx hR hl1
 by_cases jL:LG X
 · have L:=hid (kP (ws X).length ao cap w true (by simpa [LG] using jL));have e:bF X by'=(0,2):=by simp [bF,jL]
   rw [e];clear e jL HR;generalize bl X=c at *;go_enter Tryz.func129,Tryz.ntmps129;go_wp2_with fail;refine H1.o.mono ?_;rintro r w1 ⟨rfl,rfl⟩;go_wp2_with fail;refine H2.o.mono ?_;rintro r w1 ⟨rfl,rfl⟩;go_wp2_with fail;refine L.o.mono ?_;rintro r w1 ⟨rfl,rfl⟩;go_wp2
   go_ret2
   exact ⟨⟨_,rfl,Nt.nil _ _⟩,ak _ _⟩
 · have L:=hid (kP (ws X).length ao cap w false (by simpa [LG] using jL));have hbs:=L9 X jL;obtain ⟨c,hcc⟩:∃ c,bl X=c:=⟨_,rfl⟩
   by_cases h0:X=0
   · have e:bF X by'=(0,0):=by unfold bF;rw [if_neg jL,if_pos h0]
     rw [e];subst h0;rw [bN] at H1 H2 L;rw [dJ] at H2;clear e jL HR hbs hcc;go_enter Tryz.func129,Tryz.ntmps129;go_wp2_with fail;refine H1.o.mono ?_;rintro r w1 ⟨rfl,rfl⟩;go_wp2_with fail;refine H2.o.mono ?_;rintro r w1 ⟨rfl,rfl⟩;go_wp2_with fail;refine L.o.mono ?_;rintro r w1 ⟨rfl,rfl⟩;go_wp2
     go_ret2
     exact ⟨⟨_,rfl,Nt.nil _ _⟩,ak _ _⟩
   · have hcp:=dL X h0;have hlt:=iL X;rw [hcc] at hcp hbs H2 hlt;have hcne:((c:Int)==0)=false:=by simp;omega
     by_cases hneg:by'<0
     · obtain ⟨d,hd⟩:∃ d:Nat,(d:Int)=-by':=⟨(-by').toNat,ae⟩
       have e:bF X by'=(X/2^d,0):=by
        unfold bF;rw [if_neg jL,if_neg h0,if_pos hneg,<-hd,oM]
       rw [e]
       by_cases hbig2:by'<=-(c:Int)
       · have e2:X/2^d=0:=ic (iF hlt (fE aO ae));rw [e2];clear e e2 jL HR hcc hlt hd h0;go_enter Tryz.func129,Tryz.ntmps129;go_wp2_with fail;refine H1.o.mono ?_;rintro r w1 ⟨rfl,rfl⟩;go_wp2_with fail;refine H2.o.mono ?_;rintro r w1 ⟨rfl,rfl⟩;go_wp2_with fail;refine L.o.mono ?_;rintro r w1 ⟨rfl,rfl⟩;go_wp2
         go_ret2
         exact ⟨⟨_,rfl,Nt.nil _ _⟩,ak _ _⟩
       · obtain ⟨nC,hl1⟩:=HR.o;have D0:=Bh (ws X) ao _ cap B d (d/32) (d%32) w rfl ae ae ae ae ae (fV X) nC hB;rw [ax] at D0;have D:=hid D0;have hgt:-(c:Int)<by':=ae
         have hd':-by'=(d:Int):=hd.symm
         clear e jL HR hcc hlt h0 nC hl1 D0 hbig2 hd;go_enter Tryz.func129,Tryz.ntmps129;go_wp2_with fail;refine H1.o.mono ?_;rintro r w1 ⟨rfl,rfl⟩;go_wp2_with fail;refine H2.o.mono ?_;rintro r w1 ⟨rfl,rfl⟩;go_wp2_with fail;refine L.o.mono ?_;rintro r w1 ⟨rfl,rfl⟩;go_wp2_with fail
         try rw [hd']
         refine D.o.mono ?_;rintro r w2 ⟨v,rfl,hN,hb⟩;have HN:=(bB hN hb);clear hN hb D;go_wp2
         go_ret2
         exact ⟨⟨_,rfl,HN.o.1⟩,HN.o.2⟩
     · obtain ⟨d,rfl⟩:∃ d:Nat,by'=(d:Int):=⟨by'.toNat,ae⟩
       by_cases Ma:262144-(c:Int)<(d:Int)
       · have e:bF X (d:Int)=(0,2):=by unfold bF;rw [if_neg jL,if_neg h0,if_neg hneg,hcc,if_pos Ma]
         rw [e];clear e jL HR hcc hlt h0 hneg;go_enter Tryz.func129,Tryz.ntmps129;go_wp2_with fail;refine H1.o.mono ?_;rintro r w1 ⟨rfl,rfl⟩;go_wp2_with fail;refine H2.o.mono ?_;rintro r w1 ⟨rfl,rfl⟩;go_wp2_with fail;refine L.o.mono ?_;rintro r w1 ⟨rfl,rfl⟩;go_wp2
         go_ret2
         exact ⟨⟨_,rfl,Nt.nil _ _⟩,ak _ _⟩
       · have e:bF X (d:Int)=(X*2^d,0):=by unfold bF;rw [if_neg jL,if_neg h0,if_neg hneg,hcc,if_neg Ma,oM]
         rw [e];obtain ⟨nC,hl1⟩:=HR.o;have D0:=D8 (ws X) ao _ cap B d (d/32) (d%32) w rfl ae ae ae (by unfold LG at jL;omega) (fV X) nC hB;rw [ax] at D0;have D:=hid D0;have hle:(d:Int)<=262144-(c:Int):=ae
         have hleb:decide (262144-(c:Int)<(d:Int))=false:=decide_eq_false ae;clear e jL HR hcc hlt h0 nC hl1 D0 Ma hneg;go_enter Tryz.func129,Tryz.ntmps129;go_wp2_with fail;refine H1.o.mono ?_;rintro r w1 ⟨rfl,rfl⟩;go_wp2_with fail;refine H2.o.mono ?_;rintro r w1 ⟨rfl,rfl⟩;go_wp2_with fail;refine L.o.mono ?_;rintro r w1 ⟨rfl,rfl⟩;go_wp2_with fail;refine D.o.mono ?_;rintro r w2 ⟨v,rfl,hN,hb⟩;have HN:=(bB hN hb);clear hN hb D;go_wp2
         go_ret2
         exact ⟨⟨_,rfl,HN.o.1⟩,HN.o.2⟩
theorem jV (w:World) (lo:Nat) (v:Value) (n:Nat) (xs src:List Nat) (ao:Option Addr) (m c B:Nat) (ty:TypeId) (hown:w.ownsRow lo 147 1 v n (xs.map U)) (hm:m=src.length) (hR:Rd B w ao src)
 (hnil:ao=none->c=0) (hbig:n+m<=35184372088832) (hlo:lo<=w.heap.size) :
 ∃ v' w',(Builtin.append_ #[60,60] ty #[v,.slice ao m c]).run Tryz.prog w=.ok v' w'/\w'.ownsRow lo 147 1 v' (n+m) ((xs++src).map U)/\w.grownBy w' v.ownBlock:=by
 obtain ⟨i0,hi,hz0,hz1,hz2⟩:=info_parts Tryz.uf;subst hm;rcases hao:ao with _|a
 · have h0:src=[]:=by
    by_cases h:src=[]
    · exact h
    · obtain ⟨b,off,_,e,_⟩:=hR h;rw [hao] at e;cases e
   subst h0;have hc:=hnil hao;subst hc;exact ⟨v,w,run_append_owned_none (P:=Tryz.prog) w lo 60 ty 147 i0 1 Tryz.underlying60 hi v n _ hown,by simpa using hown,World.grownBy.refl _ _⟩
 · obtain ⟨v',w',h1,h2,h3,_⟩:=run_append_own (P:=Tryz.prog) w lo 60 ty 147 i0 (.int .u32 0) 1 4 Tryz.underlying60 hi hz0 hz1 hz2 rfl aO v n (xs.map U) hown a src.length c (src.map U) aW (by
    intro j u hj;have hj2:j<src.length:=by have:=(uD.1 hj).1;simpa using this
    obtain ⟨b,off,_,e,hc⟩:=hR (by intro e;subst e;simp at hj2);rw [hao] at e
    cases e
    have hadd:(⟨b,off,none⟩:Addr).add j=⟨b,off+j,none⟩:=by unfold Addr.add;split <;> simp_all
    rw [hadd,hc j hj2];simp [hj2,U] at hj
    simp [hj2,<-hj]) (by
    intro u hu;obtain ⟨x,_,rfl⟩:=uE.1 hu
    rfl) (by unfold maxLen;omega) ae hlo
   exact ⟨v',w',h1,by rw [Ai];exact h2,h3⟩
theorem wpList_append_run {w:World}{ops:Array Oper}{rest:List Oper}{o:Oper}{a:Act}{Q:Exit->Act->World->Prop}(hgd:o.guard=none) (s x:Operand)
 (ho:o.op=.call { callee:=.builtin .append,args:=#[s,x],argTypes:=#[60,60] }) (v u:Value) (hs:a.eval s=v) (hx:a.eval x=u) (v':Value) (w':World)
 (hrun:(Builtin.append_ #[60,60] o.type #[v,u]).run Tryz.prog w=.ok v' w') (h:wpList Tryz.prog ops Q rest (a.put o.dst v') w'):wpList Tryz.prog ops Q (o::rest) a w:=by
 refine wpList_plain hgd fun K hK=>?_;unfold Oper.wp;simp [execOp,ho,resolve,invoke,builtin,hs,hx,hrun,Result.andThen];exact hK _ _ h
theorem jr (xs:List Nat) (ao:Option Addr) (n cap B:Nat) (w:World) (hn:n=xs.length) (hc:n<=cap) (hm:n<=35184372088832) (hx:Wf xs) (hR:Rd B w ao xs) (hnil:ao=none->cap=0) :
 Calls Tryz.prog 121 #[.slice ao n cap] w fun r w'=>∃ v,r=.returned v/\Nt w.heap.size w' v (val xs)/\Below w.heap.size w w':=by
 have S:=hid (ni xs ao n cap B w hn ae hR);have hl:=jQ xs;have hf:=nP xs hx;obtain ⟨v',w',hap,hown,hgrow⟩:=jV w w.heap.size (.slice none 0 0) 0 [] (xs.take (nl xs)) ao (nl xs) cap B 60 (Ay _ _ _ _) (by rw [eZ];omega) (hR.take _) hnil ae (aH _)
 have hN:Nt w.heap.size w' v' (val xs):=by
  unfold Nt;rw [<-hf];simpa [iX hl] using hown
 have hb:Below w.heap.size w w':=(ak _ _).grown hgrow (aH _) (fun k hk=>by simp [Value.ownBlock] at hk);have HN:=(bB hN hb);obtain ⟨k,hk⟩:∃ k,nl xs=k:=⟨_,rfl⟩;rw [hk] at S hap hl;have hkn:k<=n:=ae
 have HZ:Aside (n=0->val xs=0):=by intro h0;have:xs=[]:=Dx.1 ae;rw [this];rfl
 clear hN hb hown hgrow hf hl hn hx hR hk;rcases hao:ao with _|a
 · have hc0:=hnil hao;subst hc0;subst hao;obtain rfl:n=0:=ae
   obtain rfl:k=0:=ae
   go_enter Tryz.func121,Tryz.ntmps121;go_wp2_with fail;refine S.o.mono ?_;rintro r w1 ⟨rfl,rfl⟩;go_wp2;go_ret;rw [HZ.o (by trivial)];exact ⟨_,rfl,Nt.nil _ _,ak _ _⟩
 · subst hao;go_enter Tryz.func121,Tryz.ntmps121;go_wp2_with fail;refine S.o.mono ?_;rintro r w1 ⟨rfl,rfl⟩;have IQ:=hid hap;clear hap
   go_wp2_with (at_builtin;refine wpList_append_run rfl (.tmp 4) (.tmp 8) rfl _ _ rfl rfl _ _ IQ.o ?_)
   go_ret;exact ⟨_,rfl,HN.o.1,HN.o.2⟩
theorem PW (x:Nat) (h:x≠0):bl x=bl (x/2)+1:=by
 by_cases h1:x=1
 · subst h1;decide
 · have hx2:x/2≠0:=ae
   obtain ⟨c,hc⟩:∃ c,bl (x/2)=c+1:=⟨bl (x/2)-1,by have:=dL _ hx2;omega⟩;have a:=iG _ hx2;have b:=iL (x/2);rw [hc] at a b |-;rw [lg] at a;exact Bb x (c+1) (by rw [dS];omega) (by rw [dS];omega)
theorem nD (xs:List Nat) (ao:Option Addr) (n cap B:Nat) (w:World) (hn:n=xs.length) (hm:n<=70368744177664) (hx:Wf xs) (hR:Rd B w ao xs) :
 Calls Tryz.prog 229 #[.slice ao n cap] w fun r w'=>r=.returned (.int .i64 (bl (val xs):Nat))/\w'=w:=by
 have H:=hid (ni xs ao n cap B w hn ae hR);have hl:=jQ xs;rcases hk:nl xs with _|k
 · rw [(iY xs).1 hk,dJ];rw [hk] at H;clear hk hl hn hx hR;go_enter Tryz.func229,Tryz.ntmps229;go_wp2_with fail;refine H.o.mono ?_;rintro r w1 ⟨rfl,rfl⟩;go_wp2;go_ret;exact ⟨rfl,rfl⟩
 · have hbw:=Be xs hx k hk;rw [hk] at H hl;obtain ⟨e,hlt,h0,hl2⟩:=uL xs hx k hk;obtain ⟨b,off,hB,rfl,hcell⟩:=hR (by intro e;subst e;simp at hl);have hck:=hcell k hl2;obtain ⟨t,ht⟩:∃ t,xs.getD k 0=t:=⟨_,rfl⟩;have htl:t<4294967296:=ht ▸ hx.get k;rw [ht] at hck hbw;have hb:=ug t htl;have hkn:k<n:=ae
   have HB:=(bB hbw hb);clear hk hl hn hx hR e hlt h0 hl2 hcell ht hbw hb;go_enter Tryz.func229,Tryz.ntmps229;go_wp2_with fail;refine H.o.mono ?_;rintro r w1 ⟨rfl,rfl⟩;go_wp2
   go_loopg [4,5] t (fun gk bv xv wr=>∃ c:Nat,bv=.int .i64 (c:Nat)/\xv=.int .u32 (gk:Nat)/\gk<=t/\c<=32*k+32/\wr=w1/\Aside (c+bl gk=32*k+bl t))
   case atStart=>exact ⟨32*k,by first | go_num | (congr 1;omega),rfl,aH _,ae,rfl,rfl⟩
   case round =>
    obtain ⟨c,rfl,rfl,hgt,hc,rfl,HA⟩:=hrel
    by_cases hg0:gk=0
    · subst hg0;go_wp2;go_ret;have h1:=HA.o;rw [dJ,iw] at h1;rw [HB.o.1,<-h1];exact ⟨rfl,rfl⟩
    · have hg1:(0:Int)<(gk:Int):=ae
      obtain ⟨g2,hg2⟩:=ah (gk/2);have e2:(gk:Int)/2=(g2:Int):=ae
      have HX:=(bB hg2 hg0);clear hg2 hg0;go_wp2;go_roundg g2
      case measure=>obtain ⟨hg2,hg0⟩:=HX.o;omega
      case rel =>
       obtain ⟨hg2,hg0⟩:=HX.o;have h1:=HA.o;have h2:=PW gk hg0;rw [<-hg2] at h2;have h3:=HB.o.2;exact ⟨c+1,by go_num,by first | rfl | rw [e2],ae,ae,rfl,by rw [Aside];omega⟩
structure Arg (w:World) (a:Option Addr) (n c:Nat) (xs:List Nat):Prop where
 len:n=xs.length
 cap:n<=c
 big:n<=35184372088832
 wf:Wf xs
 rd:Rd w.heap.size w a xs
 nil:a=none->c=0
theorem Arg.below {w w':World}{a:Option Addr}{n c:Nat}{xs:List Nat}(h:Arg w a n c xs) (hb:Below w.heap.size w w'):Arg w' a n c xs :=
 ⟨h.len,h.cap,h.big,h.wf,(h.rd.below hb).mono hb.size,h.nil⟩
theorem Nt.arg {lo:Nat}{w:World}{v:Value}{X:Nat}(h:Nt lo w v X) (hs:(ws X).length<=35184372088832):∃ a c,v=.slice a (ws X).length c/\Arg w a (ws X).length c (ws X):=by
 have h':=h;obtain ⟨a,c,rfl,h1,h2,h3⟩:=h.shape;refine ⟨a,c,rfl,rfl,h1,hs,fV X,h3,fun e=>?_⟩;rcases h'.2 with ⟨e1,_⟩|⟨g,cap,cur,e1,_⟩
 · simp only [Value.slice.injEq] at e1;exact e1.2.2
 · simp only [Value.slice.injEq] at e1;rw [e1.1] at e;cases e
theorem IU {X Y i:Nat}(h1:X<pw i) (h2:Y<pw i):X+Y<pw (i+1):=by rw [bI];omega
theorem yU {lo:Nat}{w:World}{r:Ending}{a:Nat×Int}{V:Nat}(h:One lo w r a) (e:a=(V,0)):∃ v,r=.returned (.tuple #[v,.int .i64 0])/\Nt lo w v V:=by
 subst e;exact h
theorem Gq {w:World}{a b:Option Addr}{n c m d:Nat}{xs ys:List Nat}{V:Nat}(h1:Arg w a n c xs) (h2:Arg w b m d ys) (e:ji (val xs) (val ys)=(V,0)) :
 Calls Tryz.prog 132 #[.slice a n c,.slice b m d] w fun r w'=>∃ v,r=.returned (.tuple #[v,.int .i64 0])/\Nt w.heap.size w' v V/\Below w.heap.size w w' :=
 (Gp xs ys a b n c m d w.heap.size w h1.len h2.len h1.cap h2.cap (by have:=h1.big;omega) (by have:=h2.big;omega) h1.wf h2.wf h1.rd h2.rd (aH _)).mono
  fun r w' ⟨ho,hb⟩=>by obtain ⟨v,h3,h4⟩:=yU ho e;exact ⟨v,h3,h4,hb⟩
theorem ui {w:World}{a b:Option Addr}{n c m d:Nat}{xs ys:List Nat}{V:Nat}(h1:Arg w a n c xs) (h2:Arg w b m d ys) (e:tN (val xs) (val ys)=(V,0)) :
 Calls Tryz.prog 177 #[.slice a n c,.slice b m d] w fun r w'=>∃ v,r=.returned (.tuple #[v,.int .i64 0])/\Nt w.heap.size w' v V/\Below w.heap.size w w' :=
 (Gn xs ys a b n c m d w.heap.size w h1.len h2.len h1.cap h2.cap (by have:=h1.big;omega) (by have:=h2.big;omega) h1.wf h2.wf h1.rd h2.rd (aH _)).mono
  fun r w' ⟨ho,hb⟩=>by obtain ⟨v,h3,h4⟩:=yU ho e;exact ⟨v,h3,h4,hb⟩
theorem uj {w:World}{a b:Option Addr}{n c m d:Nat}{xs ys:List Nat}{V:Nat}(h1:Arg w a n c xs) (h2:Arg w b m d ys) (e:nz (val xs) (val ys)=(V,0)) :
 Calls Tryz.prog 179 #[.slice a n c,.slice b m d] w fun r w'=>∃ v,r=.returned (.tuple #[v,.int .i64 0])/\Nt w.heap.size w' v V/\Below w.heap.size w w' :=
 (PS xs ys a b n c m d w.heap.size w h1.len h2.len h1.cap h2.cap (by have:=h1.big;omega) (by have:=h2.big;omega) h1.wf h2.wf h1.rd h2.rd (aH _)).mono
  fun r w' ⟨ho,hb⟩=>by obtain ⟨v,h3,h4⟩:=yU ho e;exact ⟨v,h3,h4,hb⟩
theorem fO {w:World}{a:Option Addr}{n c:Nat}{xs:List Nat}{V:Nat}(by':Int) (h1:Arg w a n c xs) (e:bF (val xs) by'=(V,0)) (hb0:-9223372036854775808<=by') (hb1:by'<=9223372036854775807) :
 Calls Tryz.prog 129 #[.slice a n c,.int .i64 by'] w fun r w'=>∃ v,r=.returned (.tuple #[v,.int .i64 0])/\Nt w.heap.size w' v V/\Below w.heap.size w w' :=
 (xM xs a n c w.heap.size by' w h1.len h1.cap (by have:=h1.big;omega) h1.wf h1.rd (aH _) hb0 hb1).mono
  fun r w' ⟨ho,hb⟩=>by obtain ⟨v,h3,h4⟩:=yU ho e;exact ⟨v,h3,h4,hb⟩
theorem yV {w:World}{a b:Option Addr}{n c m d:Nat}{xs ys:List Nat}(h1:Arg w a n c xs) (h2:Arg w b m d ys) (z:Int) (e:bE (val xs) (val ys)=z) :
 Calls Tryz.prog 178 #[.slice a n c,.slice b m d] w fun r w'=>r=.returned (.int .i64 z)/\Below w.heap.size w w':=by
 have:=Gm xs ys a b n c m d w.heap.size w h1.len h2.len h1.cap h2.cap (by have:=h1.big;omega) (by have:=h2.big;omega) h1.wf h2.wf h1.rd h2.rd;rw [e] at this;exact this
theorem uk {X Y V:Nat}(h3:¬ LG V) (e:X+Y=V):tN X Y=(V,0):=by subst e;unfold tN;rw [if_neg h3]
theorem um {X Y V:Nat}(h1:¬ LG X) (h2:¬ LG Y) (e:V+Y=X):nz X Y=(V,0):=by unfold nz;rw [if_neg (by simp [h1,h2]),if_neg ae];congr 1;omega
def Bl (w:World) (g T:Nat) (C:List Value):Prop:=w.heap[g]?=some (.cells C.toArray T (0,0))
theorem Bl.lt {w:World}{g T:Nat}{C:List Value}(h:Bl w g T C):g<w.heap.size:=(fJ.1 h).1
theorem Bl.cell {w:World}{g T:Nat}{C:List Value}(h:Bl w g T C) (i:Nat) (v:Value) (hv:C[i]?=some v):w.cell? ⟨g,i,none⟩=some v:=by
 unfold Bl at h;simp [World.cell?,h,hv]
theorem Bl.frozen {w:World}{g T:Nat}{C:List Value}(h:Bl w g T C) (i:Nat):w.frozen? ⟨g,i,none⟩=false:=by
 unfold Bl at h;simp [World.frozen?,h]
theorem Bl.set {w:World}{g T:Nat}{C:List Value}(h:Bl w g T C) (i:Nat) (v:Value):Bl (w.setCell ⟨g,i,none⟩ v) g T (C.set i v):=by
 unfold Bl at h |-;simp [World.setCell,jM,h]
theorem Bl.drew {w:World}{g T:Nat}{C:List Value}(h:Bl w g T C):Bl w.drew g T C:=h
theorem Bl.below {w w':World}{g T B:Nat}{C:List Value}(h:Bl w g T C) (hb:Below B w w') (hg:g<B):Bl w' g T C:=by
 unfold Bl at h |-;rw [hb.block g hg];exact h
theorem Bl.but {w w':World}{g g' T:Nat}{C:List Value}(h:Bl w g T C) (hb:But g' w w') (hg:g≠g'):Bl w' g T C:=by
 unfold Bl at h |-;rw [hb.block g (Bl.lt h) hg];exact h
theorem Bl.range {w:World}{g T:Nat}{C:List Value}(h:Bl w g T C) (o:Nat) (cs:List Value) (hc:∀ j v,cs[j]?=some v->C[o+j]?=some v):w.rangeAt g o cs :=
 fun j v hv=>h.cell _ _ (hc j v hv)
theorem Bl.there {w:World}{g T:Nat}{C:List Value}(h:Bl w g T C) (o n:Nat) (hn:o+n<=C.length):w.there g o n :=
 fun j hj=>⟨by rw [h.cell (o+j) _ (fF ae)];rfl,h.frozen _⟩
theorem Bl.setCells {g T:Nat}:∀ (vs:List Value) (o:Nat) {w:World}{C:List Value}(h:Bl w g T C) (hn:o+vs.length<=C.length),Bl (w.setCells g o vs) g T (C.take o++vs++C.drop (o+vs.length))
 | [],o,w,C,h,hn=>by simpa [World.setCells] using h
 | v::r,o,w,C,h,hn=>by
   rw [World.setCells];have:=Bl.setCells r (o+1) (h.set o v) (by simp at hn |-;omega);simp only [mR] at hn
   have e:(C.set o v).take (o+1)++r++(C.set o v).drop (o+1+r.length)=C.take o++(v::r)++C.drop (o+(v::r).length):=by
    rw [List.drop_set,if_pos ae,wZ (by simp;omega),List.getElem_set_self,List.take_set,List.set_eq_of_length_le (by simp;omega)];simp [mU,mV 1]
   rw [e] at this;exact this
theorem Bl.TQ {g T:Nat}{w:World}{C vs:List Value}(h:Bl w g T C) (hn:vs.length=C.length):Bl (w.setCells g 0 vs) g T vs:=by
 have:=Bl.setCells vs 0 h ae;rw [hn] at this;simpa using this
theorem But.setCells {g:Nat}{a:World}:∀ (vs:List Value) (o:Nat) {w:World}(h:But g a w),But g a (w.setCells g o vs)
 | [],o,w,h=>h
 | v::r,o,w,h=>by rw [World.setCells];exact But.setCells r (o+1) (h.set o v)
theorem au (w:World) (o:Obj):Below w.heap.size w (w.alloc o):=(ak _ _).alloc (aH _) _
theorem Bl.alloc {w:World}{g T:Nat}{C:List Value}(h:Bl w g T C) (o:Obj):Bl (w.alloc o) g T C:=by
 unfold Bl at h |-;rw [(au w o).block g (Bl.lt h)];exact h
theorem Bl.new (w:World) (T:Nat) (C:List Value):Bl (w.alloc (.cells C.toArray T)) w.heap.size T C:=by
 unfold Bl;rw [iJ]
theorem Bl.new' (w:World) (T n:Nat) (C:List Value) (hn:n=w.heap.size):Bl (w.alloc (.cells C.toArray T)) n T C:=by
 subst hn;exact Bl.new w T C
theorem Wb.bl {w:World}{g:Nat}{L:List Nat}(h:Wb w g L):Bl w g 161 (L.map U):=h
theorem Bl.wb {w:World}{g:Nat}{L:List Nat}(h:Bl w g 161 (L.map U)):Wb w g L:=h
theorem IV (L:List Nat):((L.map U).toArray).all (·.oneCell')=true:=all_oneCell_toArray fun v hv=>by
 obtain ⟨x,_,rfl⟩:=uE.1 hv;rfl
theorem Tryz.Ec:Tryz.zeroCells161=(List.replicate 133 (Value.int .u32 0)).toArray:=by kernel_rfl
theorem Tryz.jv:(Tryz.prog.info? 161).map (·.size)=some 133:=by kernel_rfl
theorem Tryz.jw:Tryz.prog.underlying 161=some (.array 133 147):=by kernel_rfl
theorem q8 (x y n:Int):(x%n+y)%n=(x+y)%n:=by simp
def kD (ng:Bool) (T:Nat):Int:=if ng then -(T:Int) else (T:Int)
theorem Mc (ng:Bool):kD ng 0=0:=by cases ng <;> simp [kD]
theorem Gr (ng:Bool) (a b:Nat):kD ng (a+b)=kD ng a+kD ng b:=by cases ng <;> simp [kD];omega
theorem xN (xs:List Nat) (k p:Nat) (hk:k<xs.length):val (xs.take (k+1))*2^p=val (xs.take k)*2^p+xs.getD k 0*2^(p+32*k):=by
 rw [iK xs k hk,fU,DY,aR];congr 1;rw [dh (2^(32*k)),aU,dh (2^(32*k))]
theorem Md (L xs:List Nat) (ao:Option Addr) (n cap p:Nat) (kd:Int) (ng:Bool) (w:World) (hl:L.length=133) (hL:Wf L) (hA:Arg w ao n cap xs) (hp:p+32*n<=4256) :
 Calls Tryz.prog 184 #[.agg (L.map U).toArray,.agg #[.int .i64 kd,.bool ng,.slice ao n cap,.int .i64 (p:Nat)]] w fun r w' =>
  ∃ M,r=.returned (.agg (M.map U).toArray)/\M.length=133/\Wf M/\(val M:Int)=((val L:Int)+kD ng (val xs*2^p))%(PB:Int)/\Below w.heap.size w w':=by
 have HR:Aside (Wf L/\L.length=133/\Arg w ao n cap xs):=⟨hL,hl,hA⟩;clear hL hl hA;go_enter Tryz.func184,Tryz.ntmps184;go_wp2;obtain ⟨w3,hw3⟩:=ah ((((w.alloc (Obj.cells (L.map U).toArray 161)).alloc (Obj.cells #[Value.int IntKind.i64 kd,Value.bool ng,Value.slice ao n cap,Value.int IntKind.i64 (p:Nat)] 166)).alloc (Obj.cells Tryz.zeroCells161 161)));rw [<-hw3]
 have H3:Aside (Below w.heap.size w w3/\Wb w3 w.heap.size L/\Bl w3 (w.heap.size+1) 166 [Value.int IntKind.i64 kd,Value.bool ng,Value.slice ao n cap,Value.int IntKind.i64 (p:Nat)]/\Bl w3 (w.heap.size+1+1) 161 (List.replicate 133 (Value.int .u32 0))/\w3.heap.size=w.heap.size+3):=by
  subst hw3;refine ⟨?_,?_,?_,?_,aW⟩
  · exact ((au w _).trans ((au _ _).mono aW)).trans ((au _ _).mono (by simp;omega))
  · exact (((Bl.new w 161 (L.map U)).alloc _).alloc _).wb
  · exact (Bl.new' (w.alloc (Obj.cells (L.map U).toArray 161)) 166 _ [_,_,_,_] aW).alloc _
  · rw [Tryz.Ec];exact Bl.new' _ 161 _ _ aW
 clear hw3
 go_loopg [10] n (fun gk i wr=>∃ (k:Nat) (M:List Nat),gk+k=n/\i=.int .i64 (k:Nat) /\
  Aside (Wb wr w.heap.size M/\Wf M/\M.length=133/\(val M:Int)=((val L:Int)+kD ng (val (xs.take k)*2^p))%(PB:Int)/\But w.heap.size w3 wr))
 case atStart=>exact ⟨0,L,ae,aW,H3.o.2.1,HR.o.1,HR.o.2.1,by simp only [List.take_zero,val,dZ,Mc,Int.add_zero];rw [xe ae (by have:=nT HR.o.2.1 HR.o.1;omega)],But.refl _ _⟩
 case round =>
  obtain ⟨k,M,wD,rfl,HA⟩:=hrel
  by_cases hk:k<n
  · obtain ⟨hL,hl,hA⟩:=HR.o;obtain ⟨hM,bu,dx,hMs,aG⟩:=HA.o;obtain ⟨b3,_,T3,Z3,s3⟩:=H3.o;obtain ⟨b,eX,Gb,rfl,hbc⟩:=hA.rd (by intro e;subst e;have:=hA.len;simp at this;omega)
    have hbk:wr.cell? ⟨b,eX+k,none⟩=some (.int .u32 ((xs.getD k 0:Nat):Int)):=by
     have h0:=b3.block b Gb;have h1:=aG.block b ae ae;exact (wF (a:=⟨b,eX+k,none⟩) (h1.trans h0)).trans (hbc k (by rw [<-hA.len];omega))
    have T4:=T3.but aG ae;have c1:=T4.cell 1 _ rfl;have c3:=T4.cell 3 _ rfl;obtain ⟨y,hy⟩:∃ y:Nat,xs.getD k 0=y:=⟨_,rfl⟩;have hyl:y<4294967296:=hy ▸ hA.wf.get _;rw [hy] at hbk;have HX:Aside (xs.getD k 0=y):=hy;have HB:Aside (∀ i,i<xs.length->w.cell? ⟨b,eX+i,none⟩=some (.int .u32 ((xs.getD i 0:Nat):Int))):=hbc;clear hy hL hl hA hM bu dx hMs aG b3 T3 Z3 s3 T4 hbc
    cases ng
    · go_wp2_with fail;rw [show (p:Int)+32*(k:Int)=((p+32*k:Nat):Int) by simp];obtain ⟨hM,bu,dx,hMs,aG⟩:=HA.o;refine (dQ (LA M w.heap.size y (p+32*k) wr hM dx bu hyl ae) ?_);rintro r w' ⟨rfl,M',hM',yX,yY,hv',hb'⟩;have ZU:Aside (Wb w' w.heap.size M'/\Wf M'/\M'.length=133/\val M'=(val M+y*2^(p+32*k))%PB/\But w.heap.size wr w'):=⟨hM',yY,yX,hv',hb'⟩;clear hM bu dx hMs aG hM' yX yY hv' hb';go_wp2;go_roundg (gk-1)
      case measure=>omega
      case rel =>
       obtain ⟨hM',yY,yX,hv',hb'⟩:=ZU.o;obtain ⟨hM,bu,dx,hMs,aG⟩:=HA.o;refine ⟨k+1,M',ae,aW,hM',yY,yX,?_,aG.trans hb'⟩;rw [xN xs k p (by rw [<-HR.o.r2.len];exact hk),HX.o,Gr,<-Int.add_assoc,<-q8,<-hMs,hv'];simp [kD]
    · go_wp2_with fail;rw [show (p:Int)+32*(k:Int)=((p+32*k:Nat):Int) by simp];obtain ⟨hM,bu,dx,hMs,aG⟩:=HA.o;refine (dQ (Iy M w.heap.size y (p+32*k) wr hM dx bu hyl ae) ?_);rintro r w' ⟨rfl,M',hM',yX,yY,hv',hb'⟩;have ZU:Aside (Wb w' w.heap.size M'/\Wf M'/\M'.length=133/\(val M':Int)=((val M:Int)-((y*2^(p+32*k):Nat):Int))%(PB:Int)/\But w.heap.size wr w'):=⟨hM',yY,yX,hv',hb'⟩;clear hM bu dx hMs aG hM' yX yY hv' hb';go_wp2;go_roundg (gk-1)
      case measure=>omega
      case rel =>
       obtain ⟨hM',yY,yX,hv',hb'⟩:=ZU.o;obtain ⟨hM,bu,dx,hMs,aG⟩:=HA.o;refine ⟨k+1,M',ae,aW,hM',yY,yX,?_,aG.trans hb'⟩;rw [xN xs k p (by rw [<-HR.o.r2.len];exact hk),HX.o,Gr,<-Int.add_assoc,<-q8,<-hMs,hv'];simp only [kD,if_true,Int.sub_eq_add_neg]
  · obtain rfl:k=n:=ae
    obtain ⟨hM,bu,dx,hMs,aG⟩:=HA.o;obtain ⟨b3,_,T3,Z3,s3⟩:=H3.o;have HZ:Aside (Bl wr (w.heap.size+1+1) 161 (List.replicate 133 (Value.int .u32 0))):=Z3.but aG ae;have HB:Aside (Below w.heap.size w w3/\w3.heap.size=w.heap.size+3):=⟨b3,s3⟩;clear hM bu dx hMs aG b3 T3 Z3 s3
    go_wp2_with (first
     | (with_reducible refine wpList_load_mid (P:=Tryz.prog) rfl 161 (.tmp 2) rfl w.heap.size 0 rfl (M.map U) _ (HA.o.1.bl.range 0 _ (fun j v hv=>by simpa using hv)) Tryz.jw rfl (by simp [Tryz.jv,HA.o.r2.1]) ?_)
     | (with_reducible refine wpList_store_mid (P:=Tryz.prog) rfl 161 (.tmp 4) (.tmp 32) rfl (w.heap.size+1+1) 0 (M.map U).toArray rfl rfl (HZ.o.there 0 _ (by simp [HA.o.r2.1])) (by simp [Tryz.jv,HA.o.r2.1]) (IV M) ?_))
    have hZ:Bl (wr.setCells (w.heap.size+1+1) 0 (M.map U)) (w.heap.size+1+1) 161 (M.map U):=HZ.o.TQ (by simp [HA.o.r2.1]);refine aI (v:=.agg (M.map U).toArray) (results_cell_row (P:=Tryz.prog) Tryz.results184 _ _ (w.heap.size+1+1) 161 _ _ _ rfl hZ Tryz.jw rfl (by simp [Tryz.jv,HA.o.r2.1])) rfl ?_;obtain ⟨hM,bu,dx,hMs,aG⟩:=HA.o;obtain ⟨b3,s3⟩:=HB.o;refine ⟨M,rfl,dx,bu,?_,?_⟩
    · rw [hMs,eF (by rw [<-HR.o.r2.len];exact aH _)]
    · exact But.below (But.below b3 aG ae (aH _)) (But.setCells _ _ (But.refl _ _)) (by have:=aG.size;omega) ae
def Hd (w:World) (g:Nat) (L:List Nat):Prop:=g<w.heap.size/\∀ i,i<L.length->w.cell? ⟨g,i,none⟩=some (.int .u32 ((L.getD i 0:Nat):Int))
theorem Hd.below {w w':World}{g B:Nat}{L:List Nat}(h:Hd w g L) (hb:Below B w w') (hg:g<B) (hB:B<=w.heap.size):Hd w' g L :=
 ⟨by have:=hb.size;omega,fun i hi=>(hb.cell (p:=⟨g,i,none⟩) hg).trans (h.2 i hi)⟩
theorem Bl.hd {w:World}{g T:Nat}{L:List Nat}{C:List Value}(h:Bl w g T (L.map U++C)):Hd w g L :=
 ⟨h.lt,fun i hi=>h.cell i _ (by rw [xk (by simpa using hi)];simp [U,eQ,fF hi])⟩
theorem Wb.hd {w:World}{g:Nat}{L:List Nat}(h:Wb w g L):Hd w g L:=⟨h.lt,fun i hi=>h.cell i hi⟩
theorem Tryz.xO:Tryz.prog.plainKey 147=true:=by kernel_rfl
theorem Tryz.IW:Tryz.prog.cellsOf 147=1:=by kernel_rfl
theorem Tryz.IX:Tryz.prog.underlying 147=some (.int .u32):=by kernel_rfl
theorem Tryz.IY:(Tryz.prog.info? 147).isSome=true:=by kernel_rfl
theorem Bn (L K:List Nat) (d:Nat) (w:World):∀ (is:List Nat),(∀ i ∈ is,i<L.length/\i<K.length) ->
 (Op.eqItems (d+1) 147 1 (L.map U).toArray (K.map U).toArray is).run Tryz.prog w=.ok (decide (∀ i ∈ is,L.getD i 0=K.getD i 0)) w
 | [],_=>by simp [Op.eqItems]
 | i::is,h=>by
   obtain ⟨h1,h2⟩:=h i aW;have ih:=Bn L K d w is (fun j hj=>h j (by simp [hj]))
   have p1:(part 147 (L.map U).toArray (i*1)).run Tryz.prog w=.ok (.int .u32 ((L.getD i 0:Nat):Int)) w :=
    run_part_plain _ Tryz.xO (by simp [U,eQ,fF h1])
   have p2:(part 147 (K.map U).toArray (i*1)).run Tryz.prog w=.ok (.int .u32 ((K.getD i 0:Nat):Int)) w :=
    run_part_plain _ Tryz.xO (by simp [U,eQ,fF h2])
   simp only [Op.eqItems,Sem.run_bind,p1,p2,Result.andThen_ok,run_equalIn_int w d 147 .u32 .u32 _ _ Tryz.IX]
   by_cases e:L.getD i 0=K.getD i 0
   · rw [e];simp only [beq_self_eq_true,Bool.not_true];rw [if_neg aO,ih];simp only [List.mem_cons,forall_eq_or_imp,e,true_and]
   · have e2:(((L.getD i 0:Nat):Int)==((K.getD i 0:Nat):Int))=false:=by simp only [beq_eq_false_iff_ne,ne_eq];omega
     rw [e2];simp only [List.mem_cons,forall_eq_or_imp,e,false_and,decide_false,Bool.not_false,if_true,Sem.run_pure]
theorem Me (L K:List Nat) (w:World) (hl:L.length=133) (hk:K.length=133) :
 (Op.equalIn 10000 161 (.agg (L.map U).toArray) (.agg (K.map U).toArray)).run Tryz.prog w=.ok (decide (L=K)) w:=by
 obtain ⟨i,hi⟩:=Am.1 Tryz.IY;rw [show (10000:Nat)=9999+1 by rfl,run_equalIn_array _ 9999 _ _ Tryz.jw hi,Tryz.IW,show (9999:Nat)=9998+1 by rfl,Bn L K 9998 w (List.range 133) (fun i hi=>by simp at hi;omega)];congr 1;rw [decide_eq_decide];constructor
 · intro h;apply List.ext_getElem ae;intro i h1 h2;have:=h i (by simp;omega);simpa [eQ,fF h1,fF h2] using this
 · rintro rfl i _;rfl
def tO:List Nat:=List.replicate 132 0++[4294950912]
theorem Tryz.IZ:Tryz.zeroCells161.setIfInBounds 132 (Value.int IntKind.u32 4294950912)=(tO.map U).toArray:=by kernel_rfl
theorem Bo:tO.length=133:=by simp [tO]
theorem Mf (g t:Nat) (w:World) (hc:w.cell? ⟨g,132,none⟩=some (.int .u32 (t:Nat))) (ht:t<2147483648) :
 Calls Tryz.prog 141 #[.pointer (some ⟨g,0,none⟩)] w fun r w'=>r=.returned (.bool false)/\w'=w:=by
 go_enter Tryz.func141,Tryz.ntmps141;go_wp2;refine aI (v:=.bool false) (by simp [results,Tryz.results141,go_sem]) rfl ⟨rfl,rfl⟩
theorem Mg (g t:Nat) (w:World) (hc:w.cell? ⟨g,132,none⟩=some (.int .u32 (t:Nat))) (ht0:2147483648<=t) (ht:t<4294967296) :
 Calls Tryz.prog 141 #[.pointer (some ⟨g,0,none⟩)] w fun r w'=>r=.returned (.bool true)/\w'=w:=by
 have hw:wrap32 (t:Int)=(t:Int)-4294967296:=by unfold wrap32;omega
 go_enter Tryz.func141,Tryz.ntmps141;go_wp2;refine aI (v:=.bool true) (by simp [results,Tryz.results141,go_sem];omega) rfl ⟨rfl,rfl⟩
theorem I4 (g t:Nat) (w:World) (hc:w.cell? ⟨g,132,none⟩=some (.int .u32 (t:Nat))) (ht:t<16384) :
 Calls Tryz.prog 218 #[.pointer (some ⟨g,0,none⟩)] w fun r w'=>r=.returned (.bool false)/\w'=w:=by
 have hw:((t:Int)/16384==0)=true:=by simp;omega
 go_enter Tryz.func218,Tryz.ntmps218;go_wp2;refine aI (v:=.bool false) (by simp [results,Tryz.results218,go_sem]) rfl ⟨rfl,rfl⟩
theorem Ed (g t:Nat) (w:World) (hc:w.cell? ⟨g,132,none⟩=some (.int .u32 (t:Nat))) (ht0:16384<=t) (ht:t<4294950912) :
 Calls Tryz.prog 218 #[.pointer (some ⟨g,0,none⟩)] w fun r w'=>r=.returned (.bool true)/\w'=w:=by
 have hw0:(wrap32 (t:Int)/16384==0)=false:=by simp;unfold wrap32;omega
 have hw1:(wrap32 (t:Int)/16384==-1)=false:=by simp;unfold wrap32;omega
 go_enter Tryz.func218,Tryz.ntmps218;go_wp2;refine aI (v:=.bool true) (by simp [results,Tryz.results218,go_sem]) rfl ⟨rfl,rfl⟩
theorem I5 (g t:Nat) (L:List Nat) (w:World) (hc:w.cell? ⟨g,132,none⟩=some (.int .u32 (t:Nat))) (hr:w.rangeAt g 0 (L.map U)) (hl:L.length=133) (ht0:4294950912<=t) (ht:t<4294967296) :
 Calls Tryz.prog 218 #[.pointer (some ⟨g,0,none⟩)] w fun r w'=>r=.returned (.bool (decide (L=tO)))/\w'=w:=by
 have hw0:(wrap32 (t:Int)/16384==0)=false:=by simp;unfold wrap32;omega
 have hw1:(wrap32 (t:Int)/16384==-1)=true:=by simp;unfold wrap32;omega
 have HL:Aside (L.length=133/\w.rangeAt g 0 (L.map U)):=⟨hl,hr⟩;clear hl hr;go_enter Tryz.func218,Tryz.ntmps218
 go_wp2_with (first | (with_reducible refine wpList_load_mid (P:=Tryz.prog) rfl 161 (.tmp 14) rfl g 0 rfl (L.map U) _ HL.o.2 Tryz.jw rfl (by simp [Tryz.jv,HL.o.1]) ?_))
 rw [Tryz.IZ,Me L _ w HL.o.1 Bo];generalize hb:decide (L=tO)=b;generalize hK:tO=K at hb;have HK:Aside (decide (L=tO)=b):=by rw [hK];exact hb
 clear hb hK;simp only [Result.andThen_ok,Oper.upon];go_wp2;exact aI (v:=.bool b) (by simp [results,Tryz.results218,go_sem]) rfl ⟨by rw [HK.o],rfl⟩
def HB:Nat:=16384*pw 132
theorem q9:0<HB:=jm aO (iI _)
theorem yZ:PB=4294967296*pw 132:=by unfold PB;exact bI 132
attribute [irreducible] HB
theorem Mh:HB=16384*pw 132:=by unfold HB;rfl
theorem Gs (L:List Nat) (hl:L.length=133) (hL:Wf L):∃ r,r<pw 132/\val L=r+pw 132*L.getD 132 0:=by
 refine ⟨val (L.take 132),?_,?_⟩
 · have:=cK (L.take 132) (hL.take 132);rwa [show (L.take 132).length=132 by simp;omega] at this
 · have h:=iK L 132 ae;rwa [eF ae] at h
theorem Mi:val tO=4294950912*pw 132:=by
 unfold tO;rw [val_append,j5,xh,dI,dh];rfl
theorem PX:Wf tO:=by
 intro y hy;unfold tO at hy;rcases List.mem_append.1 hy with h|h
 · have:=List.eq_of_mem_replicate h;omega
 · have:=yC.1 h;omega
theorem val_inj {L K:List Nat}(hl:L.length=K.length) (hL:Wf L) (hK:Wf K) (h:val L=val K):L=K:=by
 induction L generalizing K with
 | nil=>cases K <;> simp_all
 | cons x xs ih =>
   cases K with
   | nil=>simp at hl
   | cons y ys =>
     simp only [val] at h;have h1:=hL.head;have h2:=hK.head;have e1:x=y:=ae
     have e2:val xs=val ys:=ae
     rw [e1,ih (by simpa using hl) hL.tail hK.tail e2]
def ru (N:Nat):Bool:=decide (PB<=2*N)
theorem xP (g:Nat) (L:List Nat) (w:World) (hl:L.length=133) (hL:Wf L) (hH:Hd w g L) :
 Calls Tryz.prog 141 #[.pointer (some ⟨g,0,none⟩)] w fun r w'=>r=.returned (.bool (ru (val L)))/\w'=w:=by
 have hc:=hH.2 132 ae;obtain ⟨r,hr,hv⟩:=Gs L hl hL;have ht:=hL.get 132;generalize L.getD 132 0=t at hc hv ht;have h0:=iI 132
 by_cases h:t<2147483648
 · have e:ru (val L)=false:=by
    unfold ru;rw [decide_eq_false_iff_not,hv,yZ];generalize pw 132=q at hr h0 |-;have:q*t<=q*2147483647:=fu _ ae;omega
   rw [e];exact Mf g t w hc h
 · have e:ru (val L)=true:=by
    unfold ru;rw [decide_eq_true_iff,hv,yZ];generalize pw 132=q at hr h0 |-;have:q*2147483648<=q*t:=fu _ ae;omega
   rw [e];exact Mg g t w hc ae ht
def I6 (N:Nat):Bool:=decide (HB<=N/\N<=PB-HB)
theorem uP (g:Nat) (L:List Nat) (w:World) (hl:L.length=133) (hL:Wf L) (hH:Hd w g L) :
 Calls Tryz.prog 218 #[.pointer (some ⟨g,0,none⟩)] w fun r w'=>r=.returned (.bool (I6 (val L)))/\w'=w:=by
 have hc:=hH.2 132 ae;obtain ⟨r,hr,hv⟩:=Gs L hl hL;have ht:=hL.get 132
 have hg:w.rangeAt g 0 (L.map U):=fun j v hj=>by
  have hj2:j<L.length:=by have:=(uD.1 hj).1;simpa using this
  rw [dI,hH.2 j hj2,<-hj,List.getElem?_map,fF hj2,eQ,fF hj2];rfl
 generalize Gt:L.getD 132 0=t at hc hv ht;have h0:=iI 132;have eP:=yZ;have eH:=Mh;have eL:=Mi;generalize pw 132=q at hr h0 hv eP eH eL
 by_cases h:t<16384
 · have e:I6 (val L)=false:=by
    unfold I6;rw [decide_eq_false_iff_not,hv];have:q*t<=q*16383:=fu _ ae;omega
   rw [e];exact I4 g t w hc h
 by_cases h2:t<4294950912
 · have e:I6 (val L)=true:=by
    unfold I6;rw [decide_eq_true_iff,hv];have a1:q*16384<=q*t:=fu _ ae;have a2:q*t<=q*4294950911:=fu _ ae;omega
   rw [e];exact Ed g t w hc ae h2
 · have e:I6 (val L)=decide (L=tO):=by
    unfold I6;rw [decide_eq_decide];constructor
    · intro hb;have a1:q*4294950912<=q*t:=fu _ ae;refine val_inj (by rw [hl,Bo]) hL PX ?_;rw [eL];omega
    · rintro rfl;rw [eL];omega
   rw [e];exact I5 g t L w hc hg hl ae ht
theorem Tryz.Bp:Tryz.prog.underlying 59=some (.slice 147):=by kernel_rfl
theorem I7 (b n c:Nat) (L:List Nat) (w:World) (hl:L.length=n) (hn:n<=1000) (hH:Hd w b L) :
 Calls Tryz.prog 187 #[.slice (some ⟨b,0,none⟩) n c] w fun r w'=>∃ v',r=.returned v'/\w'.ownsRow w.heap.size 147 1 v' n (L.map U)/\v'≠.slice none 0 0/\Below w.heap.size w w':=by
 obtain ⟨i0,hi,hz0,hz1,hz2⟩:=info_parts Tryz.uf;have q59:∀ (w:World) (a:Option Addr) (n c n' c':Nat),(binOp .eql 59 (.slice a n c) (.slice none n' c')).run Tryz.prog w=.ok (.bool a.isNone) w:=fun w a n c n' c'=>Lib.run_eql_slice_nil w _ _ a n c n' c' Tryz.Bp;have A:Aside (L.length=n/\Hd w b L):=⟨hl,hH⟩;clear hl hH;go_enter Tryz.func187,Tryz.ntmps187
 go_wp2_with (at_builtin;refine wpList_append_own _ rfl _ _ 59 rfl w.heap.size 147 i0 (.int .u32 0) 1 4 Tryz.Bp hi hz0 hz1 hz2 rfl aO _ _ _ rfl (World.ownsRow_made w #[] 0 (aH _) (lh _) aW) ⟨b,0,none⟩ n c (L.map U) rfl ?qc1 ?qc2 ?qc3 ?qc4 ?qc5 ?qc6 ?_)
 case qc1=>simp [A.o.1]
 case qc2 =>
  intro j u hj;have hj2:j<L.length:=by have:=(uD.1 hj).1;simpa using this
  rw [Addr.add_lit];refine Lib.cell?_alloc_some _ ?_;rw [dI,A.o.r2 j hj2,<-hj,List.getElem?_map,fF hj2,eQ,fF hj2];rfl
 case qc3=>intro u hu;obtain ⟨x,_,rfl⟩:=uE.1 hu;rfl
 case qc4=>unfold maxLen;omega
 case qc5=>omega
 case qc6=>simp
 intro v' w1 hown hgrow hnil;go_wp2;go_ret;refine ⟨v',rfl,by simpa using hown,hnil,?_⟩;exact ((ak _ w).alloc (aH _) _).grown hgrow aW (by intro k hk;simp [Value.ownBlock] at hk;omega)
theorem TR (a b:Nat) (ha:a<4294967296) (hb:b<4294967296):bits .xor .u32 (a:Int) (b:Int)=((a ^^^ b:Nat):Int):=by
 have hx:a ^^^ b<2^32:=Nat.xor_lt_two_pow ae ae;show IntKind.u32.wrap ((BitVec.ofInt 32 (a:Int) ^^^ BitVec.ofInt 32 (b:Int)).toNat:Int)=_;rw [BitVec.toNat_xor,ofInt32 a ha,ofInt32 b hb,nQ];omega
theorem PY (x:Nat) (h:x<4294967296):bits BinOp.xor IntKind.u32 IntKind.u32.max (x:Int)=((4294967295-x:Nat):Int):=by
 have e:IntKind.u32.max=((4294967295:Nat):Int):=aO
 rw [e,TR _ _ aO h];congr 1;have h1:(BitVec.allOnes 32 ^^^ BitVec.ofNat 32 x)= ~~~ (BitVec.ofNat 32 x):=BitVec.allOnes_xor;have h2:=congrArg BitVec.toNat h1;simp only [BitVec.toNat_xor,BitVec.toNat_allOnes,BitVec.toNat_not,BitVec.toNat_ofNat] at h2;rw [jk ae] at h2;exact h2
theorem I8 (M L:List Nat) (k c s d:Nat) (hM:M.length=133) (hL:L.length=133) (hk:k<133) (hx:L.getD k 0<4294967296) (ho:∀ j,k<=j->M.getD j 0=L.getD j 0) (e:s+d*4294967296=c+(4294967295-L.getD k 0)) (h:sg M 0 k+c*pw k+sg L 0 k=pw k) :
 sg (M.set k s) 0 (k+1)+d*pw (k+1)+sg L 0 (k+1)=pw (k+1):=by
 have h1:=bT M 0 k s ae;rw [dI] at h1;rw [h1,bJ L 0 k ae,dI,bI];have e2:(s+d*4294967296+L.getD k 0)*pw k=(c+4294967295)*pw k:=by congr 1;omega
 simp only [fU,aU] at e2;rw [dh (pw k) s,dh (pw k) (L.getD k 0)];omega
theorem Mj (L:List Nat) (lo g cap:Nat) (w:World) (hl:L.length=133) (hL:Wf L) (hR:w.ownsRow lo 147 1 (.slice (some ⟨g,0,none⟩) 133 cap) 133 (L.map U)) :
 Calls Tryz.prog 188 #[.slice (some ⟨g,0,none⟩) 133 cap] w fun r w' =>
  r=.returned (.tuple #[])/\∃ M,w'.ownsRow lo 147 1 (.slice (some ⟨g,0,none⟩) 133 cap) 133 (M.map U)/\M.length=133/\Wf M/\val M=(PB-val L)%PB/\But g w w':=by
 have HR:Aside (Wf L/\L.length=133/\w.ownsRow lo 147 1 (.slice (some ⟨g,0,none⟩) 133 cap) 133 (L.map U)):=⟨hL,hl,hR⟩;clear hL hl hR;go_enter Tryz.func188,Tryz.ntmps188;go_wp2
 go_loopg [2,7] 133 (fun gk c i wr=>∃ (k cv:Nat) (M:List Nat),gk+k=133/\i=.int .i64 (k:Nat)/\c=.int .u64 (cv:Nat)/\cv<2 /\
  Hid (wr.ownsRow lo 147 1 (.slice (some ⟨g,0,none⟩) 133 cap) 133 (M.map U))/\Aside (Wf M/\M.length=133/\(∀ j,k<=j->M.getD j 0=L.getD j 0)/\sg M 0 k+cv*pw k+sg L 0 k=pw k/\But g w wr))
 case atStart=>exact ⟨0,1,L,ae,aW,aW,ae,HR.o.r2,HR.o.1,HR.o.2.1,fun _ _=>rfl,by simp [dO],But.refl _ _⟩
 case round =>
  obtain ⟨k,cv,M,wD,rfl,rfl,hcv,HM,HA⟩:=hrel
  by_cases hk:k<133
  · obtain ⟨hL,hl,hR⟩:=HR.o;obtain ⟨bu,dx,eO,hMs,aG⟩:=HA.o
    have hgc:wr.cell? ⟨g,k,none⟩=some (.int .u32 ((M.getD k 0:Nat):Int)):=by
     rw [HM.o.cellAt k ae];simp [U,eQ,fF (show k<M.length by omega)]
    have hgf:=HM.o.frozenAt k;obtain ⟨x,hx⟩:∃ x:Nat,M.getD k 0=x:=⟨_,rfl⟩;have hxl:x<4294967296:=hx ▸ bu.get _;rw [hx] at hgc;obtain ⟨y,hy⟩:∃ y:Nat,y=4294967295-x:=⟨_,rfl⟩;have e1:bits BinOp.xor IntKind.u32 IntKind.u32.max (x:Int)=(y:Int):=by rw [PY x hxl,hy]
    have hyl:y<4294967296:=ae
    have HX:Aside (M.getD k 0=x/\y=4294967295-x):=⟨hx,hy⟩;clear hy;clear hx hL hl hR bu dx eO hMs aG;obtain ⟨gk,rfl⟩:∃ k,gk=k+1:=⟨gk-1,ae⟩;go_wp2;go_roundg gk
    case measure=>omega
    case rel =>
     obtain ⟨hL,hl,hR⟩:=HR.o;obtain ⟨bu,dx,eO,hMs,aG⟩:=HA.o;obtain ⟨hx,hy⟩:=HX.o;have e2:((cv:Int)+(y:Int))%4294967296=(((cv+y)%4294967296:Nat):Int):=ae
     have e3:((cv:Int)+(y:Int))/4294967296=(((cv+y)/4294967296:Nat):Int):=ae
     rw [nS (y:Int) ae ae,nS ((cv:Int)+(y:Int)) ae ae,e2];refine ⟨k+1,(cv+y)/4294967296,M.set k ((cv+y)%4294967296),ae,aW,by rw [e3],ae,?_,bu.set _ _ (jl _ aO),by simp [dx],fun j hj=>by rw [getD_set_ne _ _ _ _ ae];exact eO j ae,?_,aG.set k _⟩
     · rw [List.map_set];exact (HM.o.stored k _).1
     · have hLx:L.getD k 0=x:=by rw [<-eO k (aH _)];exact hx
       exact I8 M L k cv _ _ dx hl hk ae eO (by rw [hLx];omega) hMs
  · obtain rfl:k=133:=ae
    go_wp2;refine bodyPost_end (v:=.tuple #[]) (by simp [results,Tryz.results188,go_sem]) rfl ?_;obtain ⟨bu,dx,eO,hMs,aG⟩:=HA.o;refine ⟨rfl,M,HM.o,dx,bu,?_,aG⟩;have a1:=dH M;have a2:=dH L;rw [dx] at a1;rw [HR.o.2.1] at a2;rw [a1,a2] at hMs;have hb:=nT dx bu;have eP:pw 133=PB:=by unfold PB;rfl
    rw [eP] at hMs;have h2:PB-val L=val M+PB*cv:=by rw [dh];omega
    rw [h2,xc,jk hb]
def Mk (N:Nat):Nat:=if ru N then PB-N else N
theorem Gu {w:World}{lo cap:Nat}{L:List Nat}{g:Nat}(h:w.ownsRow lo 147 1 (.slice (some ⟨g,0,none⟩) 133 cap) 133 (L.map U)) (hl:L.length=133) (hL:Wf L):Arg w (some ⟨g,0,none⟩) 133 cap L:=by
 have hg:g<w.heap.size:=(h.lt g rfl).2
 have hc:133<=cap:=by
  rcases h.2 with ⟨h',_⟩|⟨g',cap',cur,h',_,_,hn,_⟩
  · simp at h'
  · simp only [Value.slice.injEq,Option.some.injEq,Addr.mk.injEq,and_true,true_and] at h';omega
 refine ⟨hl.symm,hc,aO,hL,fun _=>⟨g,0,hg,rfl,fun i hi=>?_⟩,fun e=>by cases e⟩;rw [dI,h.cellAt i ae,List.getElem?_map,fF hi,eQ,fF hi];rfl
theorem I9 (L:List Nat) (g:Nat) (w:World) (hl:L.length=133) (hL:Wf L) (hH:Hd w g L) :
 Calls Tryz.prog 142 #[.pointer (some ⟨g,0,none⟩)] w fun r w' =>
  ∃ b cap M,r=.returned (.slice (some ⟨b,0,none⟩) 133 cap)/\Arg w' (some ⟨b,0,none⟩) 133 cap M/\val M=Mk (val L)/\Below w.heap.size w w':=by
 have HR:Aside (Wf L/\L.length=133/\Hd w g L):=⟨hL,hl,hH⟩;clear hL hl hH;go_enter Tryz.func142,Tryz.ntmps142;go_wp2_with fail;refine dQ (I7 g 133 133 L w HR.o.2.1 aO HR.o.r2) ?_;rintro r w1 ⟨v',rfl,hown,hnn,hb1⟩;have HO:Aside (w1.ownsRow w.heap.size 147 1 v' 133 (L.map U)/\Below w.heap.size w w1):=⟨hown,hb1⟩
 obtain ⟨b,cap,rfl⟩:∃ b cap,v'=.slice (some ⟨b,0,none⟩) 133 cap:=by
  rcases hown.2 with ⟨_,h⟩|⟨g',cap',cur,h,_⟩
  · cases h
  · exact ⟨g',cap',h⟩
 clear hown hnn hb1;go_wp2_with fail;obtain ⟨hL,hl,hH⟩:=HR.o;refine dQ (xP g L w1 hl hL (hH.below HO.o.2 hH.1 (aH _))) ?_;rintro r w2 ⟨rfl,rfl⟩;clear hL hl hH
 cases hn:ru (val L)
 · have HN:Aside (ru (val L)=false):=hn;clear hn;go_wp2;go_ret;obtain ⟨hL,hl,hH⟩:=HR.o;exact ⟨b,cap,L,rfl,Gu HO.o.1 hl hL,by unfold Mk;rw [HN.o];rfl,HO.o.2⟩
 · have HN:Aside (ru (val L)=true):=hn;clear hn;go_wp2_with fail;obtain ⟨hL,hl,hH⟩:=HR.o;refine dQ (Mj L w.heap.size b cap w2 hl hL HO.o.1) ?_;rintro r w3 ⟨rfl,M,hM,dx,bu,oz,aG⟩;have HM:Aside (w3.ownsRow w.heap.size 147 1 (.slice (some ⟨b,0,none⟩) 133 cap) 133 (M.map U)/\M.length=133/\Wf M/\val M=(PB-val L)%PB/\But b w2 w3):=⟨hM,dx,bu,oz,aG⟩;clear hL hl hH hM dx bu oz aG;go_wp2;go_ret;obtain ⟨hM,dx,bu,oz,aG⟩:=HM.o;refine ⟨b,cap,M,rfl,Gu hM dx bu,?_,But.below HO.o.2 aG HO.o.2.size (HO.o.1.lt b rfl).1⟩;unfold Mk;rw [HN.o,oz,if_pos rfl,jk];have h1:PB<=2*val L:=of_decide_eq_true HN.o;have:=TF;omega
theorem But.pq {g:Nat}{a w w':World}(h:But g a w) (hb:Below w.heap.size w w'):But g a w' :=
 h.trans ⟨hb.os,hb.tape,hb.output,hb.size,fun k hk _=>hb.block k hk⟩
structure Sp where
 (n u d m p a:Int)
def Sp.cells (s:Sp):List Value:=[.int .i64 s.n,.int .i64 s.u,.int .i64 s.d,.int .i64 s.m,.int .i64 s.p,.int .i64 s.a]
def Sp.agg (s:Sp):Value:=.agg #[.int .i64 s.n,.int .i64 s.u,.int .i64 s.d,.int .i64 s.m,.int .i64 s.p,.int .i64 s.a]
def Ac (w:World) (g:Nat) (L:List Nat) (s:Sp):Prop:=Bl w g 163 (L.map U++s.cells)
theorem Ac.lt {w:World}{g:Nat}{L:List Nat}{s:Sp}(h:Ac w g L s):g<w.heap.size:=Bl.lt h
theorem Ac.hd {w:World}{g:Nat}{L:List Nat}{s:Sp}(h:Ac w g L s):Hd w g L:=Bl.hd h
theorem Ac.cell {w:World}{g:Nat}{L:List Nat}{s:Sp}(h:Ac w g L s) (hl:L.length=133) (k:Nat) (v:Value) (hk:s.cells[k]?=some v):w.cell? ⟨g,133+k,none⟩=some v :=
 Bl.cell h _ _ (by rw [oO (by simp;omega)];simpa [hl] using hk)
theorem Ac.frozen {w:World}{g:Nat}{L:List Nat}{s:Sp}(h:Ac w g L s) (k:Nat):w.frozen? ⟨g,k,none⟩=false:=Bl.frozen h k
theorem Ac.below {w w':World}{g B:Nat}{L:List Nat}{s:Sp}(h:Ac w g L s) (hb:Below B w w') (hg:g<B):Ac w' g L s:=Bl.below h hb hg
theorem Ac.drew {w:World}{g:Nat}{L:List Nat}{s:Sp}(h:Ac w g L s):Ac w.drew g L s:=h
theorem Ac.alloc {w:World}{g:Nat}{L:List Nat}{s:Sp}(h:Ac w g L s) (o:Obj):Ac (w.alloc o) g L s:=Bl.alloc h o
theorem Ac.there {w:World}{g:Nat}{L:List Nat}{s:Sp}(h:Ac w g L s) (hl:L.length=133):w.there g 0 133:=Bl.there h 0 133 (by simp [hl])
theorem Ac.range {w:World}{g:Nat}{L:List Nat}{s:Sp}(h:Ac w g L s):w.rangeAt g 0 (L.map U):=Bl.range h 0 _ (fun j v hv=>by
 rw [dI,xk (uD.1 hv).1];exact hv)
theorem Ee (L:List Nat):∀ v ∈ L.map U,v.oneCell'=true:=fun v hv=>by
 obtain ⟨x,_,rfl⟩:=uE.1 hv;rfl
theorem Ef (g:Nat) (L M:List Nat) (s t:Sp) (w:World) (hA:Ac w g L s) (hl:L.length=133) (hM:Wf M) (hm:M.length=133) (hb:I6 (val M)=false) :
 Calls Tryz.prog 183 #[.pointer (some ⟨g,0,none⟩),.agg (M.map U).toArray,t.agg] w fun r w' =>
  r=.returned (.int .i64 0)/\Ac w' g M t/\But g w w':=by
 obtain ⟨tn,tu,td,tm,tp,ta⟩:=t;simp only [Sp.agg];have HR:Aside (Ac w g L s/\L.length=133/\Wf M/\M.length=133/\I6 (val M)=false):=⟨hA,hl,hM,hm,hb⟩;clear hA hl hM hm hb;go_enter Tryz.func183,Tryz.ntmps183;go_wp2_with fail;obtain ⟨w2,hw2⟩:=ah (((w.alloc (Obj.cells (M.map U).toArray 161)).alloc (Obj.cells #[.int .i64 tn,.int .i64 tu,.int .i64 td,.int .i64 tm,.int .i64 tp,.int .i64 ta] 119)));rw [<-hw2]
 have H2:Aside (Ac w2 g L s/\Wb w2 w.heap.size M/\Bl w2 (w.heap.size+1) 119 [.int .i64 tn,.int .i64 tu,.int .i64 td,.int .i64 tm,.int .i64 tp,.int .i64 ta]/\Below w.heap.size w w2/\g<w.heap.size):=by
  subst hw2;refine ⟨(HR.o.1.alloc _).alloc _,((Bl.new w 161 (M.map U)).alloc _).wb,Bl.new' _ 119 _ [_,_,_,_,_,_] aW,(au w _).trans ((au _ _).mono aW),HR.o.1.lt⟩
 clear hw2;refine dQ (uP w.heap.size M w2 HR.o.r3.1 HR.o.r2.1 H2.o.2.1.hd) ?_;rintro r w3 ⟨rfl,rfl⟩;rw [HR.o.r4];go_wp2;have hne1:g≠w.heap.size:=Nat.ne_of_lt H2.o.r4;have hne2:g≠w.heap.size+1:=by have:=H2.o.r4;omega
 have hu:=Tryz.jw;have hsz:(Tryz.prog.info? 161).map (·.size)=some (M.map U).length:=by rw [Tryz.jv,xm,HR.o.r3.1]
 have hlen:(M.map U).length=133:=by rw [xm,HR.o.r3.1]
 have hone:=Ee M;obtain ⟨A2,B2,C2,_,hlt⟩:=H2.o;have hB0:But g w3 (w3.drew):=(But.refl _ _).drew;have hB1:But g w3 (w3.drew.setCells g 0 (M.map U)):=But.setCells _ _ hB0;have hB2:But g w3 (((((((w3.drew.setCells g 0 (M.map U)).setCell ⟨g,133,none⟩ (.int .i64 tn)).setCell ⟨g,134,none⟩ (.int .i64 tu)).setCell ⟨g,135,none⟩ (.int .i64 td)).setCell ⟨g,136,none⟩ (.int .i64 tm)).setCell ⟨g,137,none⟩ (.int .i64 tp)).setCell ⟨g,138,none⟩ (.int .i64 ta)):=(((((hB1.set _ _).set _ _).set _ _).set _ _).set _ _).set _ _
 have hA1:Bl (w3.drew.setCells g 0 (M.map U)) g 163 (M.map U++s.cells):=by
  have:=Bl.setCells (M.map U) 0 A2.drew (by simp [HR.o.2.1,HR.o.r3.1]);rw [List.take_zero,List.nil_append,dI,List.drop_left' (by simp [HR.o.2.1,HR.o.r3.1])] at this;exact this
 have hA2:Bl (((((((w3.drew.setCells g 0 (M.map U)).setCell ⟨g,133,none⟩ (.int .i64 tn)).setCell ⟨g,134,none⟩ (.int .i64 tu)).setCell ⟨g,135,none⟩ (.int .i64 td)).setCell ⟨g,136,none⟩ (.int .i64 tm)).setCell ⟨g,137,none⟩ (.int .i64 tp)).setCell ⟨g,138,none⟩ (.int .i64 ta)) g 163 (M.map U++[.int .i64 tn,.int .i64 tu,.int .i64 td,.int .i64 tm,.int .i64 tp,.int .i64 ta]):=by
  have:=(((((hA1.set 133 (.int .i64 tn)).set 134 (.int .i64 tu)).set 135 (.int .i64 td)).set 136 (.int .i64 tm)).set 137 (.int .i64 tp)).set 138 (.int .i64 ta);have hm:=HR.o.r3.1;simpa [List.set_append,hm,Sp.cells] using this
 have kS0:Aside ((w3.drew).rangeAt w.heap.size 0 (M.map U)/\(w3.drew).there g 0 133/\(w3.drew).cell? ⟨w.heap.size+1,0,none⟩=some (.int .i64 tn)/\(w3.drew).cell? ⟨w.heap.size+1,1,none⟩=some (.int .i64 tu)/\(w3.drew).cell? ⟨w.heap.size+1,2,none⟩=some (.int .i64 td)/\(w3.drew).cell? ⟨w.heap.size+1,3,none⟩=some (.int .i64 tm)/\(w3.drew).cell? ⟨w.heap.size+1,4,none⟩=some (.int .i64 tp)/\(w3.drew).cell? ⟨w.heap.size+1,5,none⟩=some (.int .i64 ta)) :=
  ⟨(Bl.but B2.bl hB0 ae).range 0 _ (fun j v hv=>by simpa using hv),A2.drew.there HR.o.2.1,(Bl.but C2 hB0 ae).cell 0 _ rfl,(Bl.but C2 hB0 ae).cell 1 _ rfl,(Bl.but C2 hB0 ae).cell 2 _ rfl,(Bl.but C2 hB0 ae).cell 3 _ rfl,(Bl.but C2 hB0 ae).cell 4 _ rfl,(Bl.but C2 hB0 ae).cell 5 _ rfl⟩
 have kS1:Aside ((w3.drew.setCells g 0 (M.map U)).rangeAt w.heap.size 0 (M.map U)/\(w3.drew.setCells g 0 (M.map U)).there g 0 133/\(w3.drew.setCells g 0 (M.map U)).cell? ⟨w.heap.size+1,0,none⟩=some (.int .i64 tn)/\(w3.drew.setCells g 0 (M.map U)).cell? ⟨w.heap.size+1,1,none⟩=some (.int .i64 tu)/\(w3.drew.setCells g 0 (M.map U)).cell? ⟨w.heap.size+1,2,none⟩=some (.int .i64 td)/\(w3.drew.setCells g 0 (M.map U)).cell? ⟨w.heap.size+1,3,none⟩=some (.int .i64 tm)/\(w3.drew.setCells g 0 (M.map U)).cell? ⟨w.heap.size+1,4,none⟩=some (.int .i64 tp)/\(w3.drew.setCells g 0 (M.map U)).cell? ⟨w.heap.size+1,5,none⟩=some (.int .i64 ta)) :=
  ⟨(Bl.but B2.bl hB1 ae).range 0 _ (fun j v hv=>by simpa using hv),Bl.there hA1 0 133 (by simp [HR.o.r3.1]),(Bl.but C2 hB1 ae).cell 0 _ rfl,(Bl.but C2 hB1 ae).cell 1 _ rfl,(Bl.but C2 hB1 ae).cell 2 _ rfl,(Bl.but C2 hB1 ae).cell 3 _ rfl,(Bl.but C2 hB1 ae).cell 4 _ rfl,(Bl.but C2 hB1 ae).cell 5 _ rfl⟩
 have bC:Aside (((((((((w3.drew.setCells g 0 (M.map U)).setCell ⟨g,133,none⟩ (.int .i64 tn)).setCell ⟨g,134,none⟩ (.int .i64 tu)).setCell ⟨g,135,none⟩ (.int .i64 td)).setCell ⟨g,136,none⟩ (.int .i64 tm)).setCell ⟨g,137,none⟩ (.int .i64 tp)).setCell ⟨g,138,none⟩ (.int .i64 ta))).rangeAt w.heap.size 0 (M.map U)/\((((((((w3.drew.setCells g 0 (M.map U)).setCell ⟨g,133,none⟩ (.int .i64 tn)).setCell ⟨g,134,none⟩ (.int .i64 tu)).setCell ⟨g,135,none⟩ (.int .i64 td)).setCell ⟨g,136,none⟩ (.int .i64 tm)).setCell ⟨g,137,none⟩ (.int .i64 tp)).setCell ⟨g,138,none⟩ (.int .i64 ta))).there g 0 133/\((((((((w3.drew.setCells g 0 (M.map U)).setCell ⟨g,133,none⟩ (.int .i64 tn)).setCell ⟨g,134,none⟩ (.int .i64 tu)).setCell ⟨g,135,none⟩ (.int .i64 td)).setCell ⟨g,136,none⟩ (.int .i64 tm)).setCell ⟨g,137,none⟩ (.int .i64 tp)).setCell ⟨g,138,none⟩ (.int .i64 ta))).cell? ⟨w.heap.size+1,0,none⟩=some (.int .i64 tn)/\((((((((w3.drew.setCells g 0 (M.map U)).setCell ⟨g,133,none⟩ (.int .i64 tn)).setCell ⟨g,134,none⟩ (.int .i64 tu)).setCell ⟨g,135,none⟩ (.int .i64 td)).setCell ⟨g,136,none⟩ (.int .i64 tm)).setCell ⟨g,137,none⟩ (.int .i64 tp)).setCell ⟨g,138,none⟩ (.int .i64 ta))).cell? ⟨w.heap.size+1,1,none⟩=some (.int .i64 tu)/\((((((((w3.drew.setCells g 0 (M.map U)).setCell ⟨g,133,none⟩ (.int .i64 tn)).setCell ⟨g,134,none⟩ (.int .i64 tu)).setCell ⟨g,135,none⟩ (.int .i64 td)).setCell ⟨g,136,none⟩ (.int .i64 tm)).setCell ⟨g,137,none⟩ (.int .i64 tp)).setCell ⟨g,138,none⟩ (.int .i64 ta))).cell? ⟨w.heap.size+1,2,none⟩=some (.int .i64 td)/\((((((((w3.drew.setCells g 0 (M.map U)).setCell ⟨g,133,none⟩ (.int .i64 tn)).setCell ⟨g,134,none⟩ (.int .i64 tu)).setCell ⟨g,135,none⟩ (.int .i64 td)).setCell ⟨g,136,none⟩ (.int .i64 tm)).setCell ⟨g,137,none⟩ (.int .i64 tp)).setCell ⟨g,138,none⟩ (.int .i64 ta))).cell? ⟨w.heap.size+1,3,none⟩=some (.int .i64 tm)/\((((((((w3.drew.setCells g 0 (M.map U)).setCell ⟨g,133,none⟩ (.int .i64 tn)).setCell ⟨g,134,none⟩ (.int .i64 tu)).setCell ⟨g,135,none⟩ (.int .i64 td)).setCell ⟨g,136,none⟩ (.int .i64 tm)).setCell ⟨g,137,none⟩ (.int .i64 tp)).setCell ⟨g,138,none⟩ (.int .i64 ta))).cell? ⟨w.heap.size+1,4,none⟩=some (.int .i64 tp)/\((((((((w3.drew.setCells g 0 (M.map U)).setCell ⟨g,133,none⟩ (.int .i64 tn)).setCell ⟨g,134,none⟩ (.int .i64 tu)).setCell ⟨g,135,none⟩ (.int .i64 td)).setCell ⟨g,136,none⟩ (.int .i64 tm)).setCell ⟨g,137,none⟩ (.int .i64 tp)).setCell ⟨g,138,none⟩ (.int .i64 ta))).cell? ⟨w.heap.size+1,5,none⟩=some (.int .i64 ta)) :=
  ⟨(Bl.but B2.bl hB2 ae).range 0 _ (fun j v hv=>by simpa using hv),Bl.there hA2 0 133 (by simp [HR.o.r3.1]),(Bl.but C2 hB2 ae).cell 0 _ rfl,(Bl.but C2 hB2 ae).cell 1 _ rfl,(Bl.but C2 hB2 ae).cell 2 _ rfl,(Bl.but C2 hB2 ae).cell 3 _ rfl,(Bl.but C2 hB2 ae).cell 4 _ rfl,(Bl.but C2 hB2 ae).cell 5 _ rfl⟩
 have o0:=hA1.cell 133 _ (by rw [oO (by simp [HR.o.r3.1])];simp [HR.o.r3.1,Sp.cells];rfl);have f0:=hA1.frozen 133;have o1:=hA1.cell 134 _ (by rw [oO (by simp [HR.o.r3.1])];simp [HR.o.r3.1,Sp.cells];rfl);have f1:=hA1.frozen 134;have o2:=hA1.cell 135 _ (by rw [oO (by simp [HR.o.r3.1])];simp [HR.o.r3.1,Sp.cells];rfl);have f2:=hA1.frozen 135;have o3:=hA1.cell 136 _ (by rw [oO (by simp [HR.o.r3.1])];simp [HR.o.r3.1,Sp.cells];rfl);have f3:=hA1.frozen 136;have o4:=hA1.cell 137 _ (by rw [oO (by simp [HR.o.r3.1])];simp [HR.o.r3.1,Sp.cells];rfl);have f4:=hA1.frozen 137;have o5:=hA1.cell 138 _ (by rw [oO (by simp [HR.o.r3.1])];simp [HR.o.r3.1,Sp.cells];rfl);have f5:=hA1.frozen 138;have fw0:=H2.o.1.frozen 133;have fw1:=H2.o.1.frozen 134;have fw2:=H2.o.1.frozen 135;have fw3:=H2.o.1.frozen 136;have fw4:=H2.o.1.frozen 137;have fw5:=H2.o.1.frozen 138;have HE:Aside (Ac (((((((w3.drew.setCells g 0 (M.map U)).setCell ⟨g,133,none⟩ (.int .i64 tn)).setCell ⟨g,134,none⟩ (.int .i64 tu)).setCell ⟨g,135,none⟩ (.int .i64 td)).setCell ⟨g,136,none⟩ (.int .i64 tm)).setCell ⟨g,137,none⟩ (.int .i64 tp)).setCell ⟨g,138,none⟩ (.int .i64 ta)) g M ⟨tn,tu,td,tm,tp,ta⟩/\But g w3 (((((((w3.drew.setCells g 0 (M.map U)).setCell ⟨g,133,none⟩ (.int .i64 tn)).setCell ⟨g,134,none⟩ (.int .i64 tu)).setCell ⟨g,135,none⟩ (.int .i64 td)).setCell ⟨g,136,none⟩ (.int .i64 tm)).setCell ⟨g,137,none⟩ (.int .i64 tp)).setCell ⟨g,138,none⟩ (.int .i64 ta))):=⟨hA2,hB2⟩;clear A2 B2 C2 hB0 hB1 hB2 hA1 hA2
 go_region_held (fun w'=>(w').rangeAt w.heap.size 0 (M.map U)/\(w').there g 0 133/\(w').cell? ⟨w.heap.size+1,0,none⟩=some (.int .i64 tn)/\(w').cell? ⟨w.heap.size+1,1,none⟩=some (.int .i64 tu)/\(w').cell? ⟨w.heap.size+1,2,none⟩=some (.int .i64 td)/\(w').cell? ⟨w.heap.size+1,3,none⟩=some (.int .i64 tm)/\(w').cell? ⟨w.heap.size+1,4,none⟩=some (.int .i64 tp)/\(w').cell? ⟨w.heap.size+1,5,none⟩=some (.int .i64 ta)) (first | with_reducible exact bC.o | with_reducible exact kS1.o | with_reducible exact kS0.o) (fail)
 clear kS0 kS1 bC o0 o1 o2 o3 o4 o5 f0 f1 f2 f3 f4 f5 fw0 fw1 fw2 fw3 fw4 fw5 hsz hone hlen hu;go_wp2;go_ret;exact ⟨rfl,HE.o.1,((But.refl g w).pq H2.o.r3.1).trans HE.o.2⟩
theorem Ja (g:Nat) (L M:List Nat) (s t:Sp) (w:World) (hA:Ac w g L s) (hM:Wf M) (hm:M.length=133) (hb:I6 (val M)=true) :
 Calls Tryz.prog 183 #[.pointer (some ⟨g,0,none⟩),.agg (M.map U).toArray,t.agg] w fun r w' =>
  r=.returned (.int .i64 2)/\Below w.heap.size w w':=by
 obtain ⟨tn,tu,td,tm,tp,ta⟩:=t;simp only [Sp.agg];have HR:Aside (Wf M/\M.length=133/\I6 (val M)=true):=⟨hM,hm,hb⟩;clear hA hM hm hb;go_enter Tryz.func183,Tryz.ntmps183;go_wp2_with fail;obtain ⟨w2,hw2⟩:=ah (((w.alloc (Obj.cells (M.map U).toArray 161)).alloc (Obj.cells #[.int .i64 tn,.int .i64 tu,.int .i64 td,.int .i64 tm,.int .i64 tp,.int .i64 ta] 119)));rw [<-hw2]
 have H2:Aside (Wb w2 w.heap.size M/\Below w.heap.size w w2):=by
  subst hw2;exact ⟨((Bl.new w 161 (M.map U)).alloc _).wb,(au w _).trans ((au _ _).mono aW)⟩
 clear hw2;refine dQ (uP w.heap.size M w2 HR.o.2.1 HR.o.1 H2.o.1.hd) ?_;rintro r w3 ⟨rfl,rfl⟩;rw [HR.o.r2];go_wp2;go_ret;exact ⟨rfl,H2.o.2⟩
def Sp.ok (s:Sp):Prop:=(-4398046511104<=s.n/\s.n<=4398046511104)/\(-4398046511104<=s.u/\s.u<=4398046511104)/\(-4398046511104<=s.d/\s.d<=4398046511104)/\(-4398046511104<=s.m/\s.m<=4398046511104)/\(-4398046511104<=s.p/\s.p<=4398046511104)/\(-4398046511104<=s.a/\s.a<=4398046511104)
def Sp.cnt (s:Sp) (k:Nat) (c:Int):Sp :=
 ⟨if k=1 then s.n+c else s.n,if k=2 then s.u+c else s.u,if k=3 then s.d+c else s.d,if k=4 then s.m+c else s.m,if k=5 then s.p+c else s.p,s.a+c⟩
theorem mh (b:Bool) (x y:Int) (w:World):Calls Tryz.prog 186 #[.bool b,.int .i64 x,.int .i64 y] w fun r w'=>r=.returned (.int .i64 (if b then x else y))/\w'=w:=by
 cases b
 · go_enter Tryz.func186,Tryz.ntmps186;go_wp2;go_ret;exact ⟨rfl,rfl⟩
 · go_enter Tryz.func186,Tryz.ntmps186;go_wp2;go_ret;exact ⟨rfl,rfl⟩
theorem Bq (s:Sp) (k:Nat) (c:Int) (w:World) (hk:k<=5) (hs:s.ok) (hc0:-1<=c) (hc1:c<=1):Calls Tryz.prog 185 #[s.agg,.int .i64 (k:Nat),.int .i64 c] w fun r w'=>r=.returned (s.cnt k c).agg/\Below w.heap.size w w':=by
 obtain ⟨n,u,d,m,p,a⟩:=s;obtain ⟨h0,h1,h2,h3,h4,h5⟩:=hs;simp only [Sp.agg] at *;have hc:k=0\/k=1\/k=2\/k=3\/k=4\/k=5:=ae
 rcases hc with rfl|rfl|rfl|rfl|rfl|rfl
 all_goals (
  go_enter Tryz.func185,Tryz.ntmps185;go_wp2
  exact aI (v:=(Sp.cnt ⟨n,u,d,m,p,a⟩ _ c).agg) (by simp [results,Tryz.results185,go_sem,Sp.agg,Sp.cnt]) rfl ⟨rfl,(au _ _).trans ((au _ _).mono aW)⟩)
end
end Go.Proofs.YtblkpkgebigojaaGreatDoor
