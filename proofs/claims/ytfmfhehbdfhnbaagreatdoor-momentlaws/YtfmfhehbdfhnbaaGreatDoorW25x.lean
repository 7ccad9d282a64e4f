import Derived.Test.YtfmfhehbdfhnbaaGreatDoorW21x
import Derived.BigQuiet
import Derived.ArgAppend
import Derived.Maps.AppendAt
import Derived.WalkMore
import Derived.Test.YtfmfhehbdfhnbaaGreatDoorM7x
import Derived.Test.YtfmfhehbdfhnbaaGreatDoorBIeeex
import Derived.WalkLawsBesides
import Derived.ProofKit
import Derived.OpenShut
import Derived.ChangeOld
import Derived.SizedLaws
set_option linter.unusedVariables false
set_option linter.unusedSimpArgs false
set_option maxHeartbeats 16000000
set_option maxRecDepth 20000
namespace Go.Proofs.YtfmfhehbdfhnbaaGreatDoor
section
open Go.RowKit
theorem Ko (xs ys:List Nat) (ao bo:Option Addr) (n cap m bG B:Nat) (w:World) (hn:n=xs.length) (hm:m=ys.length) (hc:n<=cap) (hcb:m<=bG) (hbig:n<=35184372088833) (hbig2:m<=35184372088833)
 (hx:Wf xs) (hy:Wf ys) (hR:Rd B w ao xs) (hS:Rd B w bo ys) (hB:B<=w.heap.size) :
 Calls Tryz.prog 99 #[.slice ao n cap,.slice bo m bG] w fun r w'=>One w.heap.size w' r (lJ (val xs) (val ys))/\Below w.heap.size w w':=by
 obtain⟨T1,kY,hl1⟩:=tN xs ao n cap B w hn hc ae hx hR;obtain⟨T2,uW,hl2⟩:=tN ys bo m bG B w hm hcb ae hy hS;generalize val xs=X at *;generalize val ys=Y at *;have H1:=(hid T1);have H2:=(hid T2);have HR:=(ic kY uW hl1 hl2);clear T1 T2 kY uW hn hm hx hy hR hS hl1 hl2
 by_cases lK:LG X
 · have L:=hid (nA (ws X).length ao cap w true (by simpa [LG] using lK));have e:lJ X Y=(0,2):=by simp[lJ,lK]
   rw[e];clear e lK HR;go_enter Tryz.func99,Tryz.ntmps99;exact Up
 · have L:=hid (nA (ws X).length ao cap w false (by simpa [LG] using lK))
   by_cases rP:LG Y
   · have L2:=hid (nA (ws Y).length bo bG w true (by simpa [LG] using rP));have e:lJ X Y=(0,2):=by simp[lJ,rP]
     rw[e];clear e lK rP HR;go_enter Tryz.func99,Tryz.ntmps99;exact Vc
   · have L2:=hid (nA (ws Y).length bo bG w false (by simpa [LG] using rP));have hz1:(ws X).length=0->X=0:=(bU X).1;have hz2:(ws Y).length=0->Y=0:=(bU Y).1
     by_cases h1:(ws X).length=0
     · have e:lJ X Y=(0,0):=by
        have:=hz1 h1;subst this;unfold lJ;rw[if_neg (by simp[lK,rP]),dL,if_neg lK]
       rw[e];have hh:=hid h1;rw[h1] at H1 L;have h1b:((ws X).length:Int)=0:=ae
       clear e lK rP HR hz1 hz2 h1 h1b hh;go_enter Tryz.func99,Tryz.ntmps99;exact Vc
     · by_cases h2:(ws Y).length=0
       · have e:lJ X Y=(0,0):=by
          have:=hz2 h2;subst this;unfold lJ;rw[if_neg (by simp[lK,rP]),jY,if_neg rP]
         rw[e];rw[h2] at H2 L2;obtain⟨k1,hk1⟩:∃ k,(ws X).length=k:=⟨_,rfl⟩;rw[hk1] at H1 L h1;have h1b:((k1:Int)==0)=false:=by simp;omega
         clear e lK rP HR hz1 hz2 h2 hk1;go_enter Tryz.func99,Tryz.ntmps99;exact Vc
       · have hX0:X≠0:=fun e=>h1 ((bU X).2 e);have hY0:Y≠0:=fun e=>h2 ((bU Y).2 e)
         have hlow:pw ((ws X).length+(ws Y).length-2)<=X*Y:=by
          have a:=kC (uO X hX0) (uO Y hY0);rw[<-rX] at a;rw[show(ws X).length+(ws Y).length-2=(ws X).length-1+((ws Y).length-1) by omega];exact a
         obtain⟨kY,uW,hl1,hl2⟩:=HR.o;have M0:=Db (ws X) (ws Y) ao bo _ cap _ bG B w rfl rfl ae ae (by unfold LG at lK rP;omega) (dP X) (dP Y) kY uW hB;rw[ak,ak] at M0;have UW:(ws X).length<=8192:=by unfold LG at lK;omega
         have UX:(ws Y).length<=8192:=by unfold LG at rP;omega
         obtain⟨k1,hk1⟩:∃ k,(ws X).length=k:=⟨_,rfl⟩;obtain⟨k2,hk2⟩:∃ k,(ws Y).length=k:=⟨_,rfl⟩;rw[hk1] at H1 L h1 M0 hlow UW;rw[hk2] at H2 L2 h2 M0 hlow UX;have h1b:((k1:Int)==0)=false:=by simp;omega
         have h2b:((k2:Int)==0)=false:=by simp;omega
         by_cases h3:8192<k1+k2-1
         · have hLG:LG (X*Y):=by
            unfold LG
            by_cases h4:(ws (X*Y)).length<=8192
            · have:=(aW _ _).1 h4;have:=kL (show 8192<=k1+k2-2 by omega);omega
            · omega
           have e:lJ X Y=(0,2):=by simp[lJ,hLG]
           rw[e];have h3i:(8192:Int)<(k1:Int)+(k2:Int)-1:=ae
           clear e lK rP HR hz1 hz2 hk1 hk2 kY uW hl1 hl2 M0 hX0 hY0 hlow hLG h3;go_enter Tryz.func99,Tryz.ntmps99;exact Vc
         · have h3i:(k1:Int)+(k2:Int)-1<=8192:=ae
           have h3b:decide ((8192:Int)<(k1:Int)+(k2:Int)-1)=false:=decide_eq_false ae;have M:=hid M0;have HL:=(aP lK rP);clear lK rP HR hz1 hz2 hk1 hk2 kY uW hl1 hl2 M0 hX0 hY0 hlow h3;go_enter Tryz.func99,Tryz.ntmps99;go_wp2_with fail;refine H1.o.mono ?_;rintro r w1 ⟨rfl,rfl⟩;go_wp2_with fail;refine H2.o.mono ?_;rintro r w1 ⟨rfl,rfl⟩;go_wp2_with fail;refine L.o.mono ?_;rintro r w1 ⟨rfl,rfl⟩;go_wp2_with fail;refine L2.o.mono ?_;rintro r w1 ⟨rfl,rfl⟩;go_wp2_with fail;refine M.o.mono ?_;rintro r w2 ⟨v,rfl,hN,hb⟩;obtain⟨av,cv,rfl,hcv,hcm,hRv⟩:=hN.shape;have U0:=qA (ws (X*Y)).length av cv w2;have HN:=(aP hN hb);clear M hN hb hRv
           by_cases hL:LG (X*Y)
           · rw[if_pos (show 8192<(ws (X*Y)).length from hL)] at U0;have U:=(hid U0);clear U0;go_wp2_with fail;refine U.o.mono ?_;rintro r w3 ⟨rfl,rfl⟩;go_wp2
             go_ret2
             rw[show lJ X Y=(0,2) by simp[lJ,hL]];exact⟨⟨_,rfl,Nt.nil _ _⟩,HN.o.2⟩
           · rw[if_neg (show ¬ 8192<(ws (X*Y)).length from hL)] at U0;have U:=(hid U0);clear U0;go_wp2_with fail;refine U.o.mono ?_;rintro r w3 ⟨rfl,rfl⟩;go_wp2
             go_ret2
             rw[show lJ X Y=(X*Y,0) by simp[lJ,HL.o.1,HL.o.2,hL]];exact⟨⟨_,rfl,HN.o.1⟩,HN.o.2⟩
def Three(lo:Nat)(w:World)(r:Ending)(a:Nat×Nat×Int):Prop:=∃ v u,r=.returned (.tuple #[v,u,.int .i64 a.2.2])/\Nt lo w v a.1/\Nt lo w u a.2.1/\Apart v u
theorem zd{P:Prop}(h:P:=by
 clear e lK rP HR;go_enter Tryz.func142,Tryz.ntmps142;go_wp2_with fail;refine H1.o.mono ?_;rintro r w1 ⟨rfl,rfl⟩;go_wp2_with fail;refine H2.o.mono ?_;rintro r w1 ⟨rfl,rfl⟩;go_wp2_with fail;refine L.o.mono ?_;rintro r w1 ⟨rfl,rfl⟩;go_wp2_with fail;refine L2.o.mono ?_;rintro r w1 ⟨rfl,rfl⟩;go_wp2
 go_ret3
 exact⟨⟨_,_,rfl,Nt.nil _ _,Nt.nil _ _,nZ _⟩,aD _ _⟩):P:=h
theorem UY (xs ys:List Nat) (ao bo:Option Addr) (n cap m bG B:Nat) (w:World) (hn:n=xs.length) (hm:m=ys.length) (hc:n<=cap) (hcb:m<=bG) (hbig:n<=35184372088833) (hbig2:m<=35184372088833)
 (hx:Wf xs) (hy:Wf ys) (hR:Rd B w ao xs) (hS:Rd B w bo ys) (hB:B<=w.heap.size) :
 Calls Tryz.prog 142 #[.slice ao n cap,.slice bo m bG] w fun r w'=>Three w.heap.size w' r (qD (val xs) (val ys))/\Below w.heap.size w w':=by
 obtain⟨T1,kY,hl1⟩:=tN xs ao n cap B w hn hc ae hx hR;obtain⟨T2,uW,hl2⟩:=tN ys bo m bG B w hm hcb ae hy hS;generalize val xs=X at *;generalize val ys=Y at *;have H1:=(hid T1);have H2:=(hid T2);have HR:=(ic kY uW hl1 hl2);clear T1 T2 kY uW hn hm hx hy hR hS hl1 hl2
 by_cases lK:LG X
 · have L:=hid (nA (ws X).length ao cap w true (by simpa [LG] using lK));have e:qD X Y=(0,0,2):=by simp[qD,lK]
   rw[e];clear e lK HR;go_enter Tryz.func142,Tryz.ntmps142;go_wp2_with fail;refine H1.o.mono ?_;rintro r w1 ⟨rfl,rfl⟩;go_wp2_with fail;refine H2.o.mono ?_;rintro r w1 ⟨rfl,rfl⟩;go_wp2_with fail;refine L.o.mono ?_;rintro r w1 ⟨rfl,rfl⟩;go_wp2
   go_ret3
   exact⟨⟨_,_,rfl,Nt.nil _ _,Nt.nil _ _,nZ _⟩,aD _ _⟩
 · have L:=hid (nA (ws X).length ao cap w false (by simpa [LG] using lK))
   by_cases rP:LG Y
   · have L2:=hid (nA (ws Y).length bo bG w true (by simpa [LG] using rP));have e:qD X Y=(0,0,2):=by simp[qD,rP]
     rw[e];exact zd
   · have L2:=hid (nA (ws Y).length bo bG w false (by simpa [LG] using rP))
     by_cases h2:Y=0
     · have e:qD X Y=(0,0,21):=by unfold qD;rw[if_neg (by simp[lK,rP]),if_pos h2]
       rw[e];subst h2;rw[bO] at H2 L2;exact zd
     · have h3:(ws Y).length≠0:=fun e=>h2 ((bU Y).1 e);obtain⟨kY,uW,hl1,hl2⟩:=HR.o;have D0:=Kl (ws X) (ws Y) ao bo _ cap _ bG B w rfl rfl ae ae ae ae (dP X) (dP Y) (Qh Y h2) kY uW hB;rw[ak,ak] at D0;have e:qD X Y=(X/Y,X%Y,0):=by simp[qD,lK,rP,h2]
       rw[e];obtain⟨k2,hk2⟩:∃ k,(ws Y).length=k:=⟨_,rfl⟩;rw[hk2] at H2 L2 D0 h3;have h2b:((k2:Int)==0)=false:=by simp;omega
       have D:=hid D0;clear e lK rP HR hk2 kY uW hl1 hl2 D0 h2;go_enter Tryz.func142,Tryz.ntmps142;go_wp2_with fail;refine H1.o.mono ?_;rintro r w1 ⟨rfl,rfl⟩;go_wp2_with fail;refine H2.o.mono ?_;rintro r w1 ⟨rfl,rfl⟩;go_wp2_with fail;refine L.o.mono ?_;rintro r w1 ⟨rfl,rfl⟩;go_wp2_with fail;refine L2.o.mono ?_;rintro r w1 ⟨rfl,rfl⟩;go_wp2_with fail;refine D.o.mono ?_;rintro r w2 ⟨⟨v,u,rfl,hN1,kQ,hap⟩,hb⟩;have HN:=(ic hN1 kQ hap hb);clear hN1 kQ hap hb D;go_wp2
       go_ret3
       obtain⟨hN1,kQ,hap,hb⟩:=HN.o;exact⟨⟨_,_,rfl,hN1,kQ,hap⟩,hb⟩
theorem EL(X k:Nat)(h:X<pw k):bl X<=32*k:=by
 by_cases h0:X=0
 · subst h0;rw[dZ];omega
 · have h1:=iU X h0;have h3:pw k=2^(32*k):=by rw[<-fT (32*k),nL];simp
   rw[h3] at h;have:=(ku (a:=2) aj).1 (iP h1 h);omega
theorem Qm(X:Nat)(h:¬ LG X):bl X<=262144 :=
 EL X 8192 ((aW X 8192).1 (by unfold LG at h;omega))
theorem xi{P:Prop}(h:P:=by
 refine D.o.mono ?_;rintro r w2 ⟨v,rfl,hN,hb⟩;have HN:=(aP hN hb);clear hN hb D;go_wp2
 go_ret2
 exact⟨⟨_,rfl,HN.o.1⟩,HN.o.2⟩):P:=h
theorem BK (xs:List Nat) (ao:Option Addr) (n cap B:Nat) (by':Int) (w:World) (hn:n=xs.length) (hc:n<=cap) (hbig:n<=35184372088833)
 (hx:Wf xs) (hR:Rd B w ao xs) (hB:B<=w.heap.size) (hb0:-9223372036854775808<=by') (hb1:by'<=9223372036854775807) :
 Calls Tryz.prog 137 #[.slice ao n cap,.int .i64 by'] w fun r w'=>One w.heap.size w' r (bz (val xs) by')/\Below w.heap.size w w':=by
 obtain⟨T1,kY,hl1⟩:=tN xs ao n cap B w hn hc ae hx hR;generalize val xs=X at *;have N0:=qO (ws X) ao _ cap B w rfl ae ae (dP X) kY;rw[ak] at N0;have H1:=(hid T1);have H2:=(hid N0);have HR:=(aP kY hl1);clear T1 N0 kY hn hx hR hl1
 by_cases lK:LG X
 · have L:=hid (nA (ws X).length ao cap w true (by simpa [LG] using lK));have e:bz X by'=(0,2):=by simp[bz,lK]
   rw[e];clear e lK HR;generalize bl X=c at *;go_enter Tryz.func137,Tryz.ntmps137;exact Up
 · have L:=hid (nA (ws X).length ao cap w false (by simpa [LG] using lK));have hbs:=Qm X lK;obtain⟨c,hcc⟩:∃ c,bl X=c:=⟨_,rfl⟩
   by_cases h0:X=0
   · have e:bz X by'=(0,0):=by unfold bz;rw[if_neg lK,if_pos h0]
     rw[e];subst h0;rw[bO] at H1 H2 L;rw[dZ] at H2;clear e lK HR hbs hcc;go_enter Tryz.func137,Tryz.ntmps137;exact Up
   · have hcp:=eu X h0;have hlt:=iT X;rw[hcc] at hcp hbs H2 hlt;have hcne:((c:Int)==0)=false:=by simp;omega
     by_cases hneg:by'<0
     · obtain⟨d,hd⟩:∃ d:Nat,(d:Int)=-by':=⟨(-by').toNat,ae⟩
       have e:bz X by'=(X/2^d,0):=by
        unfold bz;rw[if_neg lK,if_neg h0,if_pos hneg,<-hd,nW]
       rw[e]
       by_cases hbig2:by'<=-(c:Int)
       · have e2:X/2^d=0:=iN (iQ hlt (fe aj ae));rw[e2];clear e e2 lK HR hcc hlt hd h0;go_enter Tryz.func137,Tryz.ntmps137;exact Up
       · obtain⟨kY,hl1⟩:=HR.o;have D0:=yP (ws X) ao _ cap B d (d/32) (d%32) w rfl ae ae ae ae ae (dP X) kY hB;rw[ak] at D0;have D:=hid D0;have hgt:-(c:Int)<by':=ae
         have hd':-by'=(d:Int):=hd.symm
         clear e lK HR hcc hlt h0 kY hl1 D0 hbig2 hd;go_enter Tryz.func137,Tryz.ntmps137;go_wp2_with fail;refine H1.o.mono ?_;rintro r w1 ⟨rfl,rfl⟩;go_wp2_with fail;refine H2.o.mono ?_;rintro r w1 ⟨rfl,rfl⟩;go_wp2_with fail;refine L.o.mono ?_;rintro r w1 ⟨rfl,rfl⟩;go_wp2_with fail
         try rw[hd']
         exact xi
     · obtain⟨d,rfl⟩:∃ d:Nat,by'=(d:Int):=⟨by'.toNat,ae⟩
       by_cases Qn:262144-(c:Int)<(d:Int)
       · have e:bz X (d:Int)=(0,2):=by unfold bz;rw[if_neg lK,if_neg h0,if_neg hneg,hcc,if_pos Qn]
         rw[e];clear e lK HR hcc hlt h0 hneg;go_enter Tryz.func137,Tryz.ntmps137;exact Up
       · have e:bz X (d:Int)=(X*2^d,0):=by unfold bz;rw[if_neg lK,if_neg h0,if_neg hneg,hcc,if_neg Qn,nW]
         rw[e];obtain⟨kY,hl1⟩:=HR.o;have D0:=CY (ws X) ao _ cap B d (d/32) (d%32) w rfl ae ae ae (by unfold LG at lK;omega) (dP X) kY hB;rw[ak] at D0;have D:=hid D0;have hle:(d:Int)<=262144-(c:Int):=ae
         have hleb:decide (262144-(c:Int)<(d:Int))=false:=decide_eq_false ae;clear e lK HR hcc hlt h0 kY hl1 D0 Qn hneg;go_enter Tryz.func137,Tryz.ntmps137;go_wp2_with fail;refine H1.o.mono ?_;rintro r w1 ⟨rfl,rfl⟩;go_wp2_with fail;refine H2.o.mono ?_;rintro r w1 ⟨rfl,rfl⟩;go_wp2_with fail;refine L.o.mono ?_;rintro r w1 ⟨rfl,rfl⟩;go_wp2_with fail;exact xi
theorem mg (w:World) (lo:Nat) (v:Value) (n:Nat) (xs src:List Nat) (ao:Option Addr) (m c B:Nat) (ty:TypeId) (hown:w.ownsRow lo 51 1 v n (xs.map U)) (hm:m=src.length) (hR:Rd B w ao src)
 (hnil:ao=none->c=0) (hbig:n+m<=35184372088832) (hlo:lo<=w.heap.size) :
 ∃ v' w',(Builtin.append_ #[23,23] ty #[v,.slice ao m c]).run Tryz.prog w=.ok v' w'/\w'.ownsRow lo 51 1 v' (n+m) ((xs++src).map U)/\w.grownBy w' v.ownBlock:=by
 obtain⟨i0,hi,hz0,hz1,hz2⟩:=info_parts Tryz.Ib;subst hm;rcases hao:ao with _|a
 · have h0:src=[]:=by
    by_cases h:src=[]
    · exact h
    · obtain⟨b,off,_,e,_⟩:=hR h;rw[hao] at e;cases e
   subst h0;have hc:=hnil hao;subst hc;exact⟨v,w,run_append_owned_none (P:=Tryz.prog) w lo 23 ty 51 i0 1 Tryz.underlying23 hi v n _ hown,by simpa using hown,World.grownBy.refl _ _⟩
 · obtain⟨v',w',h1,h2,h3,_⟩:=run_append_own (P:=Tryz.prog) w lo 23 ty 51 i0 (.int .u32 0) 1 4 Tryz.underlying23 hi hz0 hz1 hz2 rfl aj v n (xs.map U) hown a src.length c (src.map U) aQ (by
    intro j u hj;have hj2:j<src.length:=by have:=(Hm.1 hj).1;simpa using this
    obtain⟨b,off,_,e,hc⟩:=hR (by intro e;subst e;simp at hj2);rw[hao] at e
    cases e
    have hadd:(⟨b,off,none⟩:Addr).add j=⟨b,off+j,none⟩:=by unfold Addr.add;split <;> simp_all
    rw[hadd,hc j hj2];simp[hj2,U] at hj
    simp[hj2,<-hj]) (by
    intro u hu;obtain⟨x,_,rfl⟩:=yx.1 hu
    rfl) (by unfold maxLen;omega) ae hlo
   exact⟨v',w',h1,by rw[yg];exact h2,h3⟩
theorem wpList_append_run {w:World}{ops:Array Oper}{rest:List Oper}{o:Oper}{a:Act}{Q:Exit->Act->World->Prop}(hgd:o.guard=none) (s x:Operand)
 (ho:o.op=.call { callee:=.builtin .append,args:=#[s,x],argTypes:=#[23,23] }) (v u:Value) (hs:a.eval s=v) (hx:a.eval x=u) (v':Value) (w':World)
 (hrun:(Builtin.append_ #[23,23] o.type #[v,u]).run Tryz.prog w=.ok v' w') (h:wpList Tryz.prog ops Q rest (a.put o.dst v') w'):wpList Tryz.prog ops Q (o::rest) a w:=by
 refine wpList_plain hgd fun K hK=>?_;unfold Oper.wp;simp[execOp,ho,resolve,invoke,builtin,hs,hx,hrun,Result.andThen];exact hK _ _ h
theorem kH(xs:List Nat)(ao:Option Addr)(n cap B:Nat)(w:World)(hn:n=xs.length)(hc:n<=cap)(hm:n<=35184372088832)(hx:Wf xs)(hR:Rd B w ao xs)(hnil:ao=none->cap=0) :
 Calls Tryz.prog 95 #[.slice ao n cap] w fun r w'=>∃ v,r=.returned v/\Nt w.heap.size w' v (val xs)/\Below w.heap.size w w':=by
 have S:=hid (qz xs ao n cap B w hn ae hR);have hl:=kW xs;have hf:=oU xs hx;obtain⟨v',w',hap,hown,hgrow⟩:=mg w w.heap.size (.slice none 0 0) 0 [] (xs.take (nl xs)) ao (nl xs) cap B 23 (Ar _ _ _ _) (by rw[ig];omega) (hR.take _) hnil ae (aC _)
 have hN:Nt w.heap.size w' v' (val xs):=by
  unfold Nt;rw[<-hf];simpa [iO hl] using hown
 have hb:Below w.heap.size w w':=(aD _ _).grown hgrow (aC _) (fun k hk=>by simp[Value.ownBlock] at hk);have HN:=(aP hN hb);obtain⟨k,hk⟩:∃ k,nl xs=k:=⟨_,rfl⟩;rw[hk] at S hap hl;have hkn:k<=n:=ae
 have HZ:Aside (n=0->val xs=0):=by intro h0;have:xs=[]:=He.1 ae;rw[this];rfl
 clear hN hb hown hgrow hf hl hn hx hR hk;rcases hao:ao with _|a
 · have hc0:=hnil hao;subst hc0;subst hao;obtain rfl:n=0:=ae
   obtain rfl:k=0:=ae
   go_enter Tryz.func95,Tryz.ntmps95;go_wp2_with fail;refine S.o.mono ?_;rintro r w1 ⟨rfl,rfl⟩;go_wp2;go_ret;rw[HZ.o (by trivial)];exact⟨_,rfl,Nt.nil _ _,aD _ _⟩
 · subst hao;go_enter Tryz.func95,Tryz.ntmps95;go_wp2_with fail;refine S.o.mono ?_;rintro r w1 ⟨rfl,rfl⟩;have Mj:=hid hap;clear hap
   go_wp2_with (at_builtin;refine wpList_append_run rfl (.tmp 4) (.tmp 8) rfl _ _ rfl rfl _ _ Mj.o ?_)
   go_ret;exact⟨_,rfl,HN.o.1,HN.o.2⟩
theorem UZ(x:Nat)(h:x≠0):bl x=bl (x/2)+1:=by
 by_cases h1:x=1
 · subst h1;decide
 · have hx2:x/2≠0:=ae
   obtain⟨c,hc⟩:∃ c,bl (x/2)=c+1:=⟨bl (x/2)-1,by have:=eu _ hx2;omega⟩;have a:=iU _ hx2;have b:=iT (x/2);rw[hc] at a b |-;rw[mI] at a;exact Ez x (c+1) (by rw[fC];omega) (by rw[fC];omega)
theorem tO(xs:List Nat)(ao:Option Addr)(n cap B:Nat)(w:World)(hn:n=xs.length)(hm:n<=70368744177664)(hx:Wf xs)(hR:Rd B w ao xs) :
 Calls Tryz.prog 177 #[.slice ao n cap] w fun r w'=>r=.returned (.int .i64 (bl (val xs):Nat))/\w'=w:=by
 have H:=hid (qz xs ao n cap B w hn ae hR);have hl:=kW xs;rcases hk:nl xs with _|k
 · rw[(jN xs).1 hk,dZ];rw[hk] at H;clear hk hl hn hx hR;go_enter Tryz.func177,Tryz.ntmps177;go_wp2_with fail;refine H.o.mono ?_;rintro r w1 ⟨rfl,rfl⟩;go_wp2;go_ret;exact⟨rfl,rfl⟩
 · have hbw:=EF xs hx k hk;rw[hk] at H hl;obtain⟨e,hlt,h0,hl2⟩:=yN xs hx k hk;obtain⟨b,off,hB,rfl,hcell⟩:=hR (by intro e;subst e;simp at hl);have hck:=hcell k hl2;obtain⟨t,ht⟩:∃ t,xs.getD k 0=t:=⟨_,rfl⟩;have htl:t<4294967296:=ht ▸ hx.get k;rw[ht] at hck hbw;have hb:=xJ t htl;have hkn:k<n:=ae
   have HB:=(aP hbw hb);clear hk hl hn hx hR e hlt h0 hl2 hcell ht hbw hb;go_enter Tryz.func177,Tryz.ntmps177;go_wp2_with fail;refine H.o.mono ?_;rintro r w1 ⟨rfl,rfl⟩;go_wp2
   go_loopg [4,5] t (fun gk bv xv wr=>∃ c:Nat,bv=.int .i64 (c:Nat)/\xv=.int .u32 (gk:Nat)/\gk<=t/\c<=32*k+32/\wr=w1/\Aside (c+bl gk=32*k+bl t))
   case atStart=>exact⟨32*k,by first | go_num | (congr 1;omega),rfl,aC _,ae,rfl,rfl⟩
   case round =>
    obtain⟨c,rfl,rfl,hgt,hc,rfl,HA⟩:=hrel
    by_cases hg0:gk=0
    · subst hg0;go_wp2;go_ret;have h1:=HA.o;rw[dZ,fT] at h1;rw[HB.o.1,<-h1];exact⟨rfl,rfl⟩
    · have hg1:(0:Int)<(gk:Int):=ae
      obtain⟨g2,hg2⟩:=ah (gk/2);have e2:(gk:Int)/2=(g2:Int):=ae
      have HX:=(aP hg2 hg0);clear hg2 hg0;go_wp2;go_roundg g2
      case measure=>obtain⟨hg2,hg0⟩:=HX.o;omega
      case rel =>
       obtain⟨hg2,hg0⟩:=HX.o;have h1:=HA.o;have h2:=UZ gk hg0;rw[<-hg2] at h2;have h3:=HB.o.2;exact⟨c+1,by go_num,by first | rfl | rw[e2],ae,ae,rfl,by rw[Aside];omega⟩
theorem But.drewN{g:Nat}{a w:World}(h:But g a w)(n:Nat):But g a (w.drewN n):=⟨h.os,h.tape,h.output,h.size,h.block⟩
abbrev Rw(lo:Nat)(w:World)(v:Value)(n:Nat)(ys:List Value):Prop:=w.ownsRow lo 51 1 v n ys
theorem jt{P:Prop}(h:P:=by
 refine⟨h.1,?_⟩;rcases h.2 with hn|⟨g,cap,cur,rfl,hlo,hg,rest⟩
 · exact .inl hn
 · refine .inr ⟨g,cap,cur,rfl,hlo,?_,rest⟩;rw[hb g rfl];exact hg):P:=h
theorem uX{w w':World}{lo e s:Nat}{v:Value}{n:Nat}{ys:List Value}(h:w.ownsRow lo e s v n ys)(hb:∀ g,v.ownBlock=some g->w'.heap[g]?=w.heap[g]?):w'.ownsRow lo e s v n ys:=by
 exact jt
theorem Qa8{P:Prop}(h:P:=by
 intro j u hj
 match j,hj with
 | 0,hj=>simp at hj;subst hj;simpa [Addr.add] using hx):P:=h
theorem Qap{P:Prop}(h:P:=by
 intro v' w' m zs h;rcases h.2 with ⟨_,h0⟩|⟨g,cap,cur,rfl,hl,_⟩
 · omega
 · exact⟨g,rfl,hl⟩):P:=h
theorem Qam{P:Prop}(h:P:=by
 refine⟨hr2.1,.inr ⟨g2,cap2,YZ,rfl,hl2,?_,Qp,hm2,hs2,ht2⟩⟩;rw[setRow_other w g g2 _ he];exact hg2):P:=h
theorem Qad{P:Prop}(h:P:=by
 simp only[CB,wh,ig,sZ,CE,sW,CF];omega):P:=h
theorem x6{P:Prop}(h:P:=by
 rw[ht];have hyl:ys.length=n:=by simpa using hown.1
 simp only[fU,yh];rw[<-yh];rw[CG (by simp[hyl])];rw[iR (by simp[hyl])]):P:=h
theorem xT{P:Prop}(h:P:=by
 have hcl:cur.toList.length=cap2:=by simpa using hs2
 rw[<-ht2];simp only[fU,yh];rw[CG (by rw[ig];omega),List.take_take,iO hk]):P:=h
theorem xb{P:Prop}(h:P:=by
 intro v' w' m zs h;refine⟨h.1,?_⟩;rcases h.2 with hn|⟨g,cap,cur,rfl,hl,rest⟩
 · exact .inl hn
 · exact .inr ⟨g,cap,cur,rfl,ae,rest⟩):P:=h
theorem jn{P:Prop}(h:P:=by
 exact⟨v',w',r1,mono _ _ _ _ r2,⟨r3.os,r3.tape,r3.output,r3.size,fun k hk _=>r3.block k hk aQ⟩,.inr (Qo _ _ n _ r2),fun u k zs hr _=>keep _ r3 u k zs hr⟩):P:=h
theorem yk{P:Prop}(h:P:=by
 intro w' hg u k zs hr;rcases hr.2 with hn|⟨g,cap,cur,rfl,hl,hgb,rest⟩
 · exact⟨hr.1,.inl hn⟩
 · refine⟨hr.1,.inr ⟨g,cap,cur,rfl,hl,?_,rest⟩⟩;rw[hg.block g (gL.1 hgb).1 aQ];exact hgb):P:=h
theorem nC (w:World) (lo:Nat) (v:Value) (n:Nat) (ys:List Value) (x:Value) (s:Nat) (ty:TypeId) (hown:Rw lo w v n ys) (hx:w.cell? ⟨s,0,none⟩=some x) (h1:x.oneCell'=true)
 (hbig:n+1<=35184372088832) (hlo:lo<=w.heap.size) :
 ∃ v' w',(Builtin.append_ #[23,23] ty #[v,.slice (some ⟨s,0,none⟩) 1 1]).run Tryz.prog w=.ok v' w'/\Rw lo w' v' (n+1) (ys++[x])/\w.grownBy w' v.ownBlock /\
   (v'.ownBlock=v.ownBlock\/∃ g,v'.ownBlock=some g/\w.heap.size<=g)/\(∀ (u:Value) (k:Nat) (zs:List Value),Rw lo w u k zs->(u.ownBlock=v.ownBlock->k<=n)->Rw lo w' u k zs):=by
 obtain⟨i0,hi,hz0,hz1,hz2⟩:=info_parts Tryz.Ib
 have hnews:∀ j u,[x][j]?=some u->w.cell? ((⟨s,0,none⟩:Addr).add j)=some u:=by
  exact Qa8
 have h1':∀ u ∈ [x],u.oneCell'=true:=by intro u hu;simp at hu;subst hu;exact h1
 have keep:∀ w',w.grownBy w' none->∀ (u:Value) (k:Nat) (zs:List Value),Rw lo w u k zs->Rw lo w' u k zs:=by
  exact yk
 have Qo:∀ (v':Value) (w':World) (m:Nat) (zs:List Value),w'.ownsRow w.heap.size 51 1 v' (m+1) zs->∃ g,v'.ownBlock=some g/\w.heap.size<=g:=by
  exact Qap
 have mono:∀ (v':Value) (w':World) (m:Nat) (zs:List Value),w'.ownsRow w.heap.size 51 1 v' m zs->Rw lo w' v' m zs:=by
  exact xb
 rcases hown.2 with ⟨rfl,rfl⟩|⟨g,cap,cur,rfl,hlg,hg,hnc,hm,hs,ht⟩
 · obtain⟨v',w',r1,r2,r3,_,_⟩:=run_append_own_at (P:=Tryz.prog) w w.heap.size 23 ty 51 i0 (.int .u32 0) 1 4 Tryz.underlying23 hi hz0 hz1 hz2 rfl aj (.slice none 0 0) 0 [] (Ar _ _ _ _) ⟨s,0,none⟩ 1 1 [x] rfl hnews h1' (by unfold maxLen;omega) ae (aC _);have hy:ys=[]:=l7 (by simpa using hown.1);subst hy;exact⟨v',w',r1,mono _ _ _ _ (by simpa using r2),r3,.inr (Qo _ _ 0 _ (by simpa using r2)),fun u k zs hr _=>keep _ r3 u k zs hr⟩
 · by_cases hroom:n+1<=cap
   · have hr:=run_append_room (P:=Tryz.prog) w 23 ty 51 i0 Tryz.underlying23 hi g n cap cur hg ⟨s,0,none⟩ 1 1 [x] (by rw[hz1];rfl) hnews h1' hroom (by rw[hz1,hs];simp;omega);rw[hz1] at hr;refine⟨_,_,hr,⟨by simpa using hown.1,.inr ⟨g,cap,_,rfl,hlg,setRow_heap w g cur _ 51 _ hg,hroom,hm,?_,?_⟩⟩,⟨rfl,rfl,rfl,aQ,fun k _ hk=>setRow_other w g k _ (fun e=>hk (by simp[Value.ownBlock,e]))⟩,.inl rfl,?_⟩
     · exact Qad
     · exact x6
     · intro u k zs hr2 hle;rcases hr2.2 with hn|⟨g2,cap2,YZ,rfl,hl2,hg2,Qp,hm2,hs2,ht2⟩
       · exact⟨hr2.1,.inl hn⟩
       · by_cases he:g2=g
         · subst he;rw[hg] at hg2
           cases hg2
           have hk:=hle rfl;refine⟨hr2.1,.inr ⟨g2,cap2,_,rfl,hl2,setRow_heap w g2 cur _ 51 _ hg,Qp,hm2,?_,?_⟩⟩
           · exact Qad
           · exact xT
         · exact Qam
   · obtain⟨v',w',r1,r2,r3⟩:=run_append_arg_grows (P:=Tryz.prog) w 23 ty 51 i0 (.int .u32 0) 1 4 Tryz.underlying23 hi hz0 hz1 hz2 rfl aj ⟨g,0,none⟩ n cap ys (by simpa using hown.1) (fun j u hj=>hown.cells (g:=g) (by simp[Value.ownBlock]) j u hj) ⟨s,0,none⟩ 1 1 [x] rfl hnews ae (by unfold maxLen;omega) ae;exact jn
theorem dV {w:World}{ops:Array Oper}{rest:List Oper}{o:Oper}{a:Act}{Q:Exit->Act->World->Prop}(hgd:o.guard=none) (s x:Operand) (t:TypeId)
 (ho:o.op=.call { callee:=.builtin .append,args:=#[s,x],argTypes:=#[t,t] }) (v u:Value) (hs:a.eval s=v) (hx:a.eval x=u) (v':Value) (w':World)
 (hrun:(Builtin.append_ #[t,t] o.type #[v,u]).run Tryz.prog w=.ok v' w') (h:wpList Tryz.prog ops Q rest (a.put o.dst v') w'):wpList Tryz.prog ops Q (o::rest) a w:=by
 refine wpList_plain hgd fun K hK=>?_;unfold Oper.wp;simp[execOp,ho,resolve,invoke,builtin,hs,hx,hrun,Result.andThen];exact hK _ _ h
theorem Rw.lt{lo:Nat}{w:World}{v:Value}{n:Nat}{ys:List Value}(h:Rw lo w v n ys)(b:Nat)(hb:v.ownBlock=some b):lo<=b/\b<w.heap.size/\∃ cur,w.heap[b]?=some (.cells cur 51 (0,0)):=by
 rcases h.2 with ⟨rfl,h0⟩|⟨g,cap,cur,rfl,hlo,hg,_⟩
 · cases hb
 · cases hb
   exact⟨hlo,(gL.1 hg).1,cur,hg⟩
theorem Rw.cell{lo:Nat}{w:World}{g n cap:Nat}{ys:List Value}(h:Rw lo w (.slice (some ⟨g,0,none⟩) n cap) n ys)(k:Nat)(u:Value)(hk:ys[k]?=some u):w.cell? ⟨g,k,none⟩=some u:=by
 have h1:=h.cells (g:=g) (by simp[Value.ownBlock]) k u hk;have e:(⟨g,0,none⟩:Addr).add k=⟨g,k,none⟩:=by unfold Addr.add;split <;> simp_all
 rw[e] at h1;exact h1
theorem Rw.words{lo:Nat}{w:World}{v:Value}{n:Nat}{L:List Nat}(h:Rw lo w v n (L.map U)):∃ ao cap,v=.slice ao n cap/\n<=cap/\n=L.length/\(ao=none->cap=0)/\Rd w.heap.size w ao L:=by
 have hl:n=L.length:=by have:=h.1;simp at this;omega
 rcases h.2 with ⟨rfl,h0⟩|⟨g,cap,cur,rfl,hlo,hg,hn,hm,hs,ht⟩
 · refine⟨none,0,by rw[h0],ae,hl,fun _=>rfl,?_⟩;have:L=[]:=He.1 ae;rw[this];exact Rd.nil _ _ _
 · refine⟨_,cap,rfl,hn,hl,(fun e=>by cases e),fun _=>⟨g,0,(gL.1 hg).1,rfl,fun i hi=>?_⟩⟩;have h1:=Rw.cell h i (U (L.getD i 0)) (by simp[hi]);rw[eP];exact h1
theorem mh(xs:List Nat)(k:Nat):val (xs.take (k+1))=val (xs.take k)+pw k*xs.getD k 0:=by
 by_cases h:k<xs.length
 · exact nK xs k h
 · rw[iR ae,iR ae];simp[fF,qi (show xs.length<=k by omega)]
theorem Mk(p V c a b x y s d:Nat)(h:V+c*p=a+b)(e:s+d*4294967296=x+y+c):(V+p*s)+d*(4294967296*p)=(a+p*x)+(b+p*y):=rY p a b V c x y s d h e
theorem Iq(p V c a b x y s d:Nat)(h:V+b=a+c*p)(e:s+y+c=x+d*4294967296):(V+p*s)+(b+p*y)=(a+p*x)+d*(4294967296*p):=qB p a b V c x y s d h e
theorem Df(xs:List Nat)(ao:Option Addr)(n cap B i:Nat)(w:World)(hn:n=xs.length)(hm:n<=70368744177664)(hx:Wf xs)(hR:Rd B w ao xs)(hi:i<=70368744177664) :
 Calls Tryz.prog 149 #[.slice ao n cap,.int .i64 (i:Nat)] w fun r w'=>r=.returned (.int .u64 ((xs.getD i 0:Nat):Int))/\w'=w:=by
 by_cases hin:i<n
 · obtain⟨b,off,hB,rfl,hcell⟩:=hR (by intro e;subst e;simp at hn;omega);have hck:=hcell i ae;have hxl:=hx.get i;obtain⟨t,ht⟩:∃ t,xs.getD i 0=t:=⟨_,rfl⟩;rw[ht] at hck hxl |-;clear hcell hR hn hx ht;go_enter Tryz.func149,Tryz.ntmps149;go_wp2;go_ret;exact⟨rfl,rfl⟩
 · have e:xs.getD i 0=0:=by simp[fF,qi (show xs.length<=i by omega)]
   rw[e];clear hR hn hx e;go_enter Tryz.func149,Tryz.ntmps149;exact XS
theorem Qq(X Y V c n m N:Nat)(hX:X<pw n)(hY:Y<pw m)(hn:n<=N)(hm:m<=N)(h:V+c*pw (N+1)=X+Y):c=0:=by
 rcases jZ c with h0|h0
 · exact h0
 · exfalso;have h1:=kL hn;have h2:=kL hm;have h3:1*pw (N+1)<=c*pw (N+1):=eZ _ h0;rw[cO] at h3 h;have:=lI N;omega
theorem yp{P:Prop}(h:P:=by
 go_wp2_with fail;refine XT.o.mono ?_;rintro r w1 ⟨v,rfl,G8,hb⟩;have HZ:=(aP G8 hb);clear G8 hb;go_wp2;go_ret;have hsz:=HB.o.size;exact⟨v,rfl,HZ.o.1.mono hsz,HB.o.trans (HZ.o.2.mono hsz)⟩):P:=h
theorem Ml (xs ys:List Nat) (ao bo:Option Addr) (n cap m bG B:Nat) (w:World) (hn:n=xs.length) (hm:m=ys.length) (hc:n<=cap) (hcb:m<=bG) (hbig:n<=35184372088000) (hbig2:m<=35184372088000)
 (hx:Wf xs) (hy:Wf ys) (hR:Rd B w ao xs) (hS:Rd B w bo ys) (hB:B<=w.heap.size) :
 Calls Tryz.prog 106 #[.slice ao n cap,.slice bo m bG] w fun r w'=>∃ v,r=.returned v/\Nt w.heap.size w' v (val xs+val ys)/\Below w.heap.size w w':=by
 have hX:=bM xs hx;have hY:=bM ys hy;rw[<-hn] at hX;rw[<-hm] at hY;obtain⟨N,hN⟩:=ah (max n m);have hnN:n<=N:=ae
 have hmN:m<=N:=ae
 have hNb:N<=35184372088000:=ae
 have HR:=(Cs hR hS hn hm hx hy hB hX hY hN);clear hR hS hn hm hx hy hB hX hY hN;go_enter Tryz.func106,Tryz.ntmps106;go_wp2
 go_loopg [5,6,7] (N+1) (fun gk ov cv iv wr=>∃ (i c:Nat) (L:List Nat),gk+i=N+1/\cv=.int .u64 (c:Nat)/\c<=1/\iv=.int .i64 (i:Nat)/\Hid (Rw w.heap.size wr ov i (L.map U))/\Hid (Below w.heap.size w wr) /\
  Aside (Wf L/\val L+c*pw i=val (xs.take i)+val (ys.take i)))
 case atStart=>exact⟨0,0,[],ae,rfl,ae,rfl,Ar _ _ _ _,aD _ _,Wf.nil,by simp[val]⟩
 case round =>
  obtain⟨i,c,L,hgi,rfl,hc1,rfl,HO,HB,HA⟩:=hrel
  by_cases hgo:i<n\/i<m\/c=1
  · have hiN:i<=N:=by
     rcases hgo with h|h|h
     · omega
     · omega
     · by_cases hi1:i=N+1
       · exfalso;obtain⟨hR,hS,hn,hm,hx,hy,hB,hX,hY,hN⟩:=HR.o;have h1:=HA.o.2;rw[iR ae,iR ae,hi1] at h1;have:=Qq _ _ _ _ _ _ _ hX hY hnN hmN h1;omega
       · omega
    obtain⟨hR,hS,hn,hm,hx,hy,hB,hX,hY,hN⟩:=HR.o;have HA1:=hid (Df xs ao n cap B i wr hn ae hx (hR.below (HB.o.mono hB)) ae);have HA2:=hid (Df ys bo m bG B i wr hm ae hy (hS.below (HB.o.mono hB)) ae);obtain⟨x,iB⟩:∃ x,xs.getD i 0=x:=⟨_,rfl⟩;obtain⟨y,rO⟩:∃ y,ys.getD i 0=y:=⟨_,rfl⟩;have hxl:x<4294967296:=iB ▸ hx.get i;have hyl:y<4294967296:=rO ▸ hy.get i;rw[iB] at HA1;rw[rO] at HA2;obtain⟨s,hs⟩:∃ s:Nat,s=(x+y+c)%4294967296:=⟨_,rfl⟩;obtain⟨d,hd⟩:∃ d:Nat,d=(x+y+c)/4294967296:=⟨_,rfl⟩;have e1:((x:Int)+y+c)%4294967296=(s:Int):=ae
    have e2:((x:Int)+y+c)/4294967296=(d:Int):=ae
    have hsz:=HB.o.size;obtain⟨v',w',hap,hown,hgrow,_,_⟩:=nC (wr.alloc (.cells #[.int .u32 (s:Nat)] 51)) w.heap.size u5 i (L.map U) (.int .u32 (s:Nat)) wr.heap.size 23 (HO.o.alloc _) (by unfold World.cell?;simp only[gY];rfl) rfl ae (by simp;omega);have HX:Aside (xs.getD i 0=x/\ys.getD i 0=y/\s+d*4294967296=x+y+c/\s<4294967296/\d<=1):=⟨iB,rO,ae,ae,ae⟩;have hbel:Below w.heap.size w w':=(HB.o.alloc hsz _).grown hgrow (by simp;omega) (fun k hk=>(HO.o.lt k hk).1);have HI:=(aP hown hbel);have Mj:=hid hap;clear hap hown hgrow hbel hs hd iB rO hR hS hn hm hx hy hB hX hY hN hsz
    have hways:(decide (i<n)=true)\/(decide (i<n)=false/\decide (i<m)=true)\/(decide (i<n)=false/\decide (i<m)=false/\decide (0<c)=true):=by
     by_cases a:i<n
     · exact .inl (decide_eq_true ae)
     · by_cases b:i<m
       · exact .inr (.inl ⟨decide_eq_false ae,decide_eq_true ae⟩)
       · exact .inr (.inr ⟨decide_eq_false ae,decide_eq_false ae,decide_eq_true ae⟩)
    rcases hways with h1|⟨h1,h2⟩|⟨h1,h2,h3⟩
    all_goals (
     go_wp2_with fail;refine HA1.o.mono ?_;rintro r w1 ⟨rfl,rfl⟩;go_wp2_with fail;refine HA2.o.mono ?_;rintro r w1 ⟨rfl,rfl⟩
     go_wp2_with (at_builtin;refine dV rfl (.tmp 34) (.tmp 37) 23 rfl _ _ rfl rfl _ _ Mj.o ?_)
     go_roundg (gk-1)
     case measure=>omega
     case rel =>
      obtain⟨a1,a2,a3,a4,a5⟩:=HX.o;obtain⟨uT,G7⟩:=HA.o;refine⟨i+1,d,L++[s],ae,by first | rfl | rw[e2],a5,by first | go_num | (congr 1;omega),by rw[yg];exact HI.o.1,HI.o.2,uT.append (Wf.cons a4 Wf.nil),?_⟩;have uS:L.length=i:=by have:=HO.o.1;simp at this;omega
      rw[val_append,uS,mh,mh,a1,a2,cO]
      simpa [val] using Mk (pw i) _ _ _ _ x y s d G7 a3)
  · have hi:N<=i:=by have:=HR.o.2.2.2.2.2.2.2.2.2;omega
    obtain rfl:c=0:=ae
    obtain⟨aoo,Y0,hsh,hcap,hl,hnil,hRo⟩:=HO.o.words;subst hsh;obtain⟨hR,hS,hn,hm,hx,hy,hB,hX,hY,hN⟩:=HR.o;have XT:=hid (kH L aoo i Y0 wr.heap.size wr hl hcap ae HA.o.1 hRo hnil)
    have G7:val L=val xs+val ys:=by
     have h1:=HA.o.2;rw[iR ae,iR ae] at h1;omega
    rw[G7] at XT;have h1:decide (i<n)=false:=decide_eq_false ae;have h2:decide (i<m)=false:=decide_eq_false ae;clear hR hS hn hm hx hy hB hX hY hN hl hnil hRo G7 hgo HO;exact yp
theorem BL(xs:List Nat)(hx:Wf xs)(k r:Nat)(hk:k<xs.length)(hr:r<32):val xs/2^(32*k+r)%2=xs.getD k 0/2^r%2:=by
 have e:=gZ xs k ae
 have hl:val (xs.take k)<pw k:=by
  have:=bM _ (hx.take k);rwa [ig,iO ae] at this
 rw[nL,<-p9,e,tq _ _ (lI k),iN hl,eP,fD xs k hk]
 have e2:4294967296*val (xs.drop (k+1))=2^r*(2*(2^(31-r)*val (xs.drop (k+1)))):=by
  have:(4294967296:Nat)=2^r*(2*2^(31-r)):=by
   rw[<-aM,cu (2^r) 2,aM,<-aJ,show r+(31-r)=31 by omega]
  rw[this];grind
 rw[e2,tq _ _ (aZ r),Cy]
theorem yT(xs:List Nat)(hx:Wf xs)(i:Nat)(h:xs.length<=i/32):val xs/2^i%2=0:=by
 have h1:=bM xs hx
 have h2:pw xs.length<=2^i:=by
  have:pw xs.length=2^(32*xs.length):=by rw[<-fT (32*xs.length),nL];simp
  rw[this];exact fe aj ae
 rw[iN ae]
theorem and_one(z:Nat)(h:z<4294967296):bits BinOp.and IntKind.u32 (z:Int) 1=((z%2:Nat):Int):=by
 have:=J9 z 1 h aj;rw[Nat.and_one_is_mod] at this;exact this
theorem U4(ao:Option Addr)(n cap:Nat)(i:Int)(w:World)(hi:i<0) :
 Calls Tryz.prog 160 #[.slice ao n cap,.int .i64 i] w fun r w'=>r=.returned (.bool false)/\w'=w:=by
 go_enter Tryz.func160,Tryz.ntmps160;go_wp2;go_ret;exact⟨rfl,rfl⟩
theorem Qau{P:Prop}(h:P:=by
 rw[hz2] at e4 |-;clear hz2;go_enter Tryz.func160,Tryz.ntmps160;go_wp2;go_ret;exact⟨rfl,rfl⟩):P:=h
theorem tQ(xs:List Nat)(ao:Option Addr)(n cap B i:Nat)(w:World)(hn:n=xs.length)(hx:Wf xs)(hR:Rd B w ao xs)(hi:i<=9223372036854775807) :
 Calls Tryz.prog 160 #[.slice ao n cap,.int .i64 (i:Int)] w fun r w'=>r=.returned (.bool (decide (val xs/2^i%2=1)))/\w'=w:=by
 obtain⟨k,hk⟩:=ah (i/32);obtain⟨r,hr⟩:=ah (i%32);have e1:(i:Int)/32=(k:Int):=ae
 have e2:(i:Int)%32=(r:Int):=ae
 by_cases hkn:k<n
 · have hb:=BL xs hx k r ae ae;rw[show 32*k+r=i by omega] at hb;rw[hb];obtain⟨b,off,hB,rfl,hcell⟩:=hR (by intro e;subst e;simp at hn;omega);have hck:=hcell k ae;obtain⟨t,ht⟩:∃ t,xs.getD k 0=t:=⟨_,rfl⟩;have htl:t<4294967296:=ht ▸ hx.get k;rw[ht] at hck |-;obtain⟨z,hz⟩:=ah (t/2^r);have hzt:z<=t:=by rw[hz];exact p8 _ _
   have e3:(t:Int)/2^r=(z:Int):=by rw[hz];simp
   have e4:=and_one z ae;have hr32:r<32:=ae
   rw[<-hz];clear hb hn hx hR hcell ht hz hk hr;rcases(by omega:z%2=0\/z%2=1) with hz2|hz2
   · exact Qau
   · exact Qau
 · rw[yT xs hx i ae];clear hn hx hR hk hr;go_enter Tryz.func160,Tryz.ntmps160;go_wp2;go_ret;exact⟨rfl,rfl⟩
def Ir(X:Nat):Value:=if X<18446744073709551616 then .tuple #[.int .u64 (X:Int),.int .i64 0] else .tuple #[.int .u64 0,.int .i64 2]
theorem Y2(xs:List Nat)(hx:Wf xs):nl xs<=2↔val xs<18446744073709551616:=by
 rw[gX xs hx,aW];rfl
theorem Mm(xs:List Nat)(ao:Option Addr)(n cap B:Nat)(w:World)(hn:n=xs.length)(hc:n<=cap)(hm:n<=70368744177664)(hx:Wf xs)(hR:Rd B w ao xs) :
 Calls Tryz.prog 174 #[.slice ao n cap] w fun r w'=>r=.returned (Ir (val xs))/\w'=w:=by
 have H:=hid (fG xs ao n cap B w hn hc ae hR);have hl:=kW xs;have h2:=Y2 xs hx;have hf:=mP xs hx;obtain⟨m,hm'⟩:∃ m,nl xs=m:=⟨_,rfl⟩;rw[hm'] at H hl h2 hf;unfold Ir
 by_cases h:2<m
 · rw[if_neg ae];clear h2 hl hn hx hR hm' hf;go_enter Tryz.func174,Tryz.ntmps174;go_wp2_with fail;refine H.o.mono ?_;rintro r w1 ⟨rfl,rfl⟩;go_wp2
   go_ret2
   exact⟨rfl,rfl⟩
 · rw[if_pos ae];rw[<-kX] at hf;have HR:=(fO hR hn hx hl hf);have hm2:m<=2:=ae
   clear h2 hl hn hx hR hm' hf h;go_enter Tryz.func174,Tryz.ntmps174;go_wp2_with fail;refine H.o.mono ?_;rintro r w1 ⟨rfl,rfl⟩;go_wp2
   go_loopg [4,14] m (fun gk s i wr=>∃ (k sv:Nat),gk+k=m/\s=.int .u64 (sv:Nat)/\i=.int .i64 (k:Nat)/\wr=w1/\Aside (sv=sg xs 0 k))
   case atStart=>exact⟨0,0,ae,rfl,rfl,rfl,(fK _ _).symm⟩
   case round =>
    obtain⟨k,sv,Ex,rfl,rfl,rfl,HA⟩:=hrel
    by_cases hk:k<m
    · obtain⟨hR,hn,hx,hl,hf⟩:=HR.o;obtain⟨b,off,hB,rfl,hcell⟩:=hR (by intro e;subst e;simp at hl;omega);have hck:=hcell k ae;obtain⟨t,ht⟩:∃ t,xs.getD k 0=t:=⟨_,rfl⟩;have htl:t<4294967296:=ht ▸ hx.get k;rw[ht] at hck;have hs1:=qb xs 0 k hx ae;have hs2:=bZ xs 0 k ae;rw[eP,ht,<-HA.o] at hs2;rw[<-HA.o] at hs1;have HX:=(aP hs1 hs2);clear hR hn hx hl hf hcell ht hs1 hs2;rcases(by omega:k=0\/k=1) with rfl|rfl
      · have hsv:sv=0:=by have:=HX.o.1;rw[j3] at this;omega
        have e:bits BinOp.or IntKind.u64 (sv:Int) (t:Int)=(t:Int):=by rw[bits_or_u64_nat _ _ ae ae,hsv,Nat.zero_or]
        rw[fT] at hck;have HS:=(aA hsv);clear hsv;go_wp2;go_roundg (gk-1)
        case measure=>omega
        case rel =>
         refine⟨1,t,ae,by first | rfl | rw[e],by go_num,rfl,?_⟩;have:=HX.o.2;rw[j3,HS.o] at this;rw[Aside,this];omega
      · have hsv:sv<4294967296:=by have:=HX.o.1;rw[show(1:Nat)=0+1 from rfl,cO,j3] at this;omega
        have e:=yO t sv htl hsv;go_wp2;go_roundg (gk-1)
        case measure=>omega
        case rel =>
         refine⟨2,sv+t*4294967296,ae,by first | rfl | rw[e] | (rw[e];rfl),by go_num,rfl,?_⟩;have:=HX.o.2;rw[show pw 1=4294967296 from rfl] at this;rw[Aside,this];omega
    · obtain rfl:k=m:=ae
      go_wp2
      go_ret2
      obtain⟨hR,hn,hx,hl,hf⟩:=HR.o;rw[<-hf,<-HA.o];exact⟨rfl,rfl⟩
theorem yU(ys:List Nat)(hy:Wf ys)(n:Nat)(h:val ys<pw n):val (ys.take n)=val ys:=by
 by_cases hn:n<=ys.length
 · have h1:=gZ ys n hn
   have:val (ys.drop n)=0:=by
    rcases jZ (val (ys.drop n)) with h0|h0
    · exact h0
    · have h2:pw n*1<=pw n*val (ys.drop n):=iw _ h0;omega
   rw[this] at h1;omega
 · rw[iR ae]
theorem Mo(V Y X c p:Nat)(hV:V<p)(hle:Y<=X)(hc:c<=1)(h:V+Y=X+c*p):V=X-Y:=by
 rcases(by omega:c=0\/c=1) with rfl|rfl <;> omega
theorem Iu (xs ys:List Nat) (ao bo:Option Addr) (n cap m bG B:Nat) (w:World) (hn:n=xs.length) (hm:m=ys.length) (hc:n<=cap) (hcb:m<=bG) (hbig:n<=35184372088000) (hbig2:m<=35184372088000)
 (hx:Wf xs) (hy:Wf ys) (hR:Rd B w ao xs) (hS:Rd B w bo ys) (hB:B<=w.heap.size) (hle:val ys<=val xs) :
 Calls Tryz.prog 108 #[.slice ao n cap,.slice bo m bG] w fun r w'=>∃ v,r=.returned v/\Nt w.heap.size w' v (val xs-val ys)/\Below w.heap.size w w':=by
 have hX:=bM xs hx;rw[<-hn] at hX;have HR:=(XP hR hS hn hm hx hy hB hX hle);clear hR hS hn hm hx hy hB hX hle;go_enter Tryz.func108,Tryz.ntmps108;go_wp2
 go_loopg [5,6,7] n (fun gk ov cv iv wr=>∃ (i c:Nat) (L:List Nat),gk+i=n/\cv=.int .u64 (c:Nat)/\c<=1/\iv=.int .i64 (i:Nat)/\Hid (Rw w.heap.size wr ov i (L.map U))/\Hid (Below w.heap.size w wr) /\
  Aside (Wf L/\val L+val (ys.take i)=val (xs.take i)+c*pw i))
 case atStart=>exact⟨0,0,[],ae,rfl,ae,rfl,Ar _ _ _ _,aD _ _,Wf.nil,by simp[val]⟩
 case round =>
  obtain⟨i,c,L,hgi,rfl,hc1,rfl,HO,HB,HA⟩:=hrel
  by_cases hgo:i<n
  · obtain⟨hR,hS,hn,hm,hx,hy,hB,hX,hle⟩:=HR.o;have HA1:=hid (Df xs ao n cap B i wr hn ae hx (hR.below (HB.o.mono hB)) ae);have HA2:=hid (Df ys bo m bG B i wr hm ae hy (hS.below (HB.o.mono hB)) ae);obtain⟨x,iB⟩:∃ x,xs.getD i 0=x:=⟨_,rfl⟩;obtain⟨y,rO⟩:∃ y,ys.getD i 0=y:=⟨_,rfl⟩;have hxl:x<4294967296:=iB ▸ hx.get i;have hyl:y<4294967296:=rO ▸ hy.get i;rw[iB] at HA1;rw[rO] at HA2;obtain⟨s,hs⟩:∃ s:Nat,s=(x+4294967296-y-c)%4294967296:=⟨_,rfl⟩;obtain⟨q,hq⟩:∃ q:Nat,q=(x+4294967296-y-c)/4294967296:=⟨_,rfl⟩;obtain⟨d,hd⟩:∃ d:Nat,d=1-q:=⟨_,rfl⟩;have e1:((x:Int)+4294967296-y-c)%4294967296=(s:Int):=ae
    have e2:((x:Int)+4294967296-y-c)/4294967296=(q:Int):=ae
    have e3:(1:Int)-(q:Int)=(d:Int):=ae
    have hsz:=HB.o.size;obtain⟨v',w',hap,hown,hgrow,_,_⟩:=nC (wr.alloc (.cells #[.int .u32 (s:Nat)] 51)) w.heap.size u5 i (L.map U) (.int .u32 (s:Nat)) wr.heap.size 23 (HO.o.alloc _) (by unfold World.cell?;simp only[gY];rfl) rfl ae (by simp;omega);have HX:Aside (xs.getD i 0=x/\ys.getD i 0=y/\s+y+c=x+d*4294967296/\s<4294967296/\d<=1):=⟨iB,rO,ae,ae,ae⟩;have hbel:Below w.heap.size w w':=(HB.o.alloc hsz _).grown hgrow (by simp;omega) (fun k hk=>(HO.o.lt k hk).1);have HI:=(aP hown hbel);have Mj:=hid hap;clear hap hown hgrow hbel hs hd hq iB rO hR hS hn hm hx hy hB hX hsz hle;go_wp2_with fail;refine HA1.o.mono ?_;rintro r w1 ⟨rfl,rfl⟩;go_wp2_with fail;refine HA2.o.mono ?_;rintro r w1 ⟨rfl,rfl⟩
    go_wp2_with (at_builtin;refine dV rfl (.tmp 25) (.tmp 28) 23 rfl _ _ rfl rfl _ _ Mj.o ?_)
    go_roundg (gk-1)
    case measure=>omega
    case rel =>
     obtain⟨a1,a2,a3,a4,a5⟩:=HX.o;obtain⟨uT,G7⟩:=HA.o;refine⟨i+1,d,L++[s],ae,by first | rfl | rw[e3] | rw[e2,e3],a5,by first | go_num | (congr 1;omega),by rw[yg];exact HI.o.1,HI.o.2,uT.append (Wf.cons a4 Wf.nil),?_⟩;have uS:L.length=i:=by have:=HO.o.1;simp at this;omega
     rw[val_append,uS,mh,mh,a1,a2,cO];simpa [val] using Iq (pw i) _ _ _ _ x y s d G7 a3
  · obtain rfl:i=n:=ae
    obtain⟨aoo,Y0,hsh,hcap,hl,hnil,hRo⟩:=HO.o.words;subst hsh;obtain⟨hR,hS,hn,hm,hx,hy,hB,hX,hle⟩:=HR.o;have XT:=hid (kH L aoo i Y0 wr.heap.size wr hl hcap ae HA.o.1 hRo hnil)
    have G7:val L=val xs-val ys:=by
     have h1:=HA.o.2;rw[iR (l:=xs) ae,yU ys hy i ae] at h1;have h2:=bM L HA.o.1;rw[<-hl] at h2;exact Mo _ _ _ _ _ h2 hle hc1 h1
    rw[G7] at XT;clear hR hS hn hm hx hy hB hX hl hnil hRo G7 hgo HO hle;exact yp
theorem Below.drewN'{B:Nat}{a w:World}(h:Below B a w)(n:Nat):Below B a (w.drewN n):=⟨h.os,h.tape,h.output,h.size,h.block⟩
theorem Qr (xs ys:List Nat) (ao bo:Option Addr) (n cap m bG B:Nat) (w:World) (hn:n=xs.length) (hm:m=ys.length) (hbig:n<=70368744177664) (hbig2:m<=70368744177664)
 (hx:Wf xs) (hy:Wf ys) (hR:Rd B w ao xs) (hS:Rd B w bo ys) :
 Calls Tryz.prog 107 #[.slice ao n cap,.slice bo m bG] w fun r w'=>r=.returned (.int .i64 (bJ (val xs) (val ys)))/\Below w.heap.size w w':=by
 have H1:=hid (qz xs ao n cap B w hn ae hR);have H2:=hid (qz ys bo m bG B w hm ae hS);have hl1:=kW xs;have hl2:=kW ys;have f1:=mP xs hx;have f2:=mP ys hy;rw[<-kX] at f1 f2;rcases lZ (nl xs) (nl ys) with he|he|he
 · rw[o6 (xM xs ys hx hy he)];obtain⟨k1,hk1⟩:∃ k,nl xs=k:=⟨_,rfl⟩;obtain⟨k2,hk2⟩:∃ k,nl ys=k:=⟨_,rfl⟩;rw[hk1] at H1 he;rw[hk2] at H2 he;clear hk1 hk2 hn hm hx hy hR hS f1 f2 hl1 hl2;go_enter Tryz.func107,Tryz.ntmps107;go_wp2_with fail;refine H1.o.mono ?_;rintro r w1 ⟨rfl,rfl⟩;go_wp2_with fail;refine H2.o.mono ?_;rintro r w1 ⟨rfl,rfl⟩;have hne:decide (k1=k2)=false:=decide_eq_false ae;have hne2:k1≠k2:=ae
   go_wp2;go_ret;exact⟨rfl,aD _ _⟩
 · obtain⟨k0,hk0⟩:∃ k,nl ys=k:=⟨_,rfl⟩;rw[he] at H1 hl1 f1;rw[hk0] at H1 H2 hl1 hl2 f1 f2;have HR:=(Cs hR hS hn hm hx hy hl1 hl2 f1 f2);have hkn:k0<=n:=ae
   have hkm:k0<=m:=ae
   clear hR hS hn hm hx hy hl1 hl2 f1 f2 he hk0;go_enter Tryz.func107,Tryz.ntmps107;go_wp2_with fail;refine H1.o.mono ?_;rintro r w1 ⟨rfl,rfl⟩;go_wp2_with fail;refine H2.o.mono ?_;rintro r w1 ⟨rfl,rfl⟩;go_wp2
   go_loopg [5] k0 (fun k i wr=>k<=k0/\i=.int .i64 ((k:Int)-1)/\Hid (Below w1.heap.size w1 wr)/\Aside (sg xs k (k0-k)=sg ys k (k0-k)))
   case atStart=>exact⟨aC _,by first | rfl | go_num,aD _ _,by rw[Bn,fK,fK];exact rfl⟩
   case round =>
    obtain⟨hk,rfl,HB,HA⟩:=hrel
    by_cases hk0:gk=0
    · exact xa
    · obtain⟨k,rfl⟩:∃ k,gk=k+1:=⟨gk-1,ae⟩;obtain⟨hR,hS,hn,hm,hx,hy,hl1,hl2,f1,f2⟩:=HR.o;obtain⟨b,off,hB1,rfl,hc1⟩:=hR (by intro e;subst e;simp at hl1;omega);obtain⟨b2,Az,hB2,rfl,hc2⟩:=hS (by intro e;subst e;simp at hl2;omega)
      have g1:wr.cell? ⟨b,off+k,none⟩=some (.int .u32 ((xs.getD k 0:Nat):Int)) :=
       (HB.o.cell (p:=⟨b,off+k,none⟩) (mO w1 ⟨b,off+k,none⟩ (hc1 k ae))).trans (hc1 k ae)
      have g2:wr.cell? ⟨b2,Az+k,none⟩=some (.int .u32 ((ys.getD k 0:Nat):Int)) :=
       (HB.o.cell (p:=⟨b2,Az+k,none⟩) (mO w1 ⟨b2,Az+k,none⟩ (hc2 k ae))).trans (hc2 k ae)
      obtain⟨x,iB⟩:∃ x:Nat,xs.getD k 0=x:=⟨_,rfl⟩;obtain⟨y,rO⟩:∃ y:Nat,ys.getD k 0=y:=⟨_,rfl⟩;rw[iB] at g1;rw[rO] at g2;have HX:=(aP iB rO);have hki:(k:Int)<(n:Int):=ae
      have hki0:0<=(k:Int):=ae
      have hki2:(k:Int)<(m:Int):=ae
      clear hR hS hn hm hx hy hl1 hl2 f1 f2 hc1 hc2 iB rO hk0;rcases lZ x y with hxy|hxy|hxy
      · go_wp2
        go_quiet (fail)
        go_wp2;go_ret;obtain⟨hR,hS,hn,hm,hx,hy,hl1,hl2,f1,f2⟩:=HR.o;have h:=HA.o;have t1:=qP xs ys hx hy k (k0-(k+1)) ae ae h (by rw[HX.o.1,HX.o.2];exact hxy);rw[show k+1+(k0-(k+1))=k0 by omega,f1,f2] at t1;rw[o6 t1];exact⟨rfl,Below.drewN' HB.o _⟩
      · subst hxy;go_wp2
        go_quiet (fail)
        go_wp2
        go_quiet (fail)
        go_wp2;go_roundg k
        case measure=>omega
        case rel =>
         obtain⟨hR,hS,hn,hm,hx,hy,hl1,hl2,f1,f2⟩:=HR.o;refine⟨ae,by first | go_num | (congr 1;omega),hid (Below.drewN' HB.o _),?_⟩;have h:=HA.o;obtain⟨r,hr⟩:∃ r,k0-k=r+1:=⟨k0-(k+1),ae⟩;rw[show k0-(k+1)=r by omega] at h;rw[Aside,hr,mQ xs k r ae,mQ ys k r ae,h,HX.o.1,HX.o.2]
      · have hxy2:decide (x<y)=false:=decide_eq_false ae;go_wp2
        go_quiet (fail)
        go_wp2
        go_quiet (fail)
        go_wp2;go_ret;obtain⟨hR,hS,hn,hm,hx,hy,hl1,hl2,f1,f2⟩:=HR.o;have h:=HA.o;have t1:=qP ys xs hy hx k (k0-(k+1)) ae ae h.symm (by rw[HX.o.1,HX.o.2];exact hxy);rw[show k+1+(k0-(k+1))=k0 by omega,f1,f2] at t1;rw[qQ t1];exact⟨rfl,Below.drewN' (Below.drewN' HB.o _) _⟩
 · rw[qQ (xM ys xs hy hx he)];obtain⟨k1,hk1⟩:∃ k,nl xs=k:=⟨_,rfl⟩;obtain⟨k2,hk2⟩:∃ k,nl ys=k:=⟨_,rfl⟩;rw[hk1] at H1 he;rw[hk2] at H2 he;clear hk1 hk2 hn hm hx hy hR hS f1 f2 hl1 hl2;go_enter Tryz.func107,Tryz.ntmps107;go_wp2_with fail;refine H1.o.mono ?_;rintro r w1 ⟨rfl,rfl⟩;go_wp2_with fail;refine H2.o.mono ?_;rintro r w1 ⟨rfl,rfl⟩;have hne:decide (k1=k2)=false:=decide_eq_false ae;have hlt:decide (k1<k2)=false:=decide_eq_false ae;have hne2:k1≠k2:=ae
   go_wp2;go_ret;exact⟨rfl,aD _ _⟩
theorem Qav{P:Prop}(h:P:=by
 rw[hz2] at e4 |-;clear hz2;go_enter Tryz.func132,Tryz.ntmps132;go_wp2;go_ret;exact⟨rfl,rfl⟩):P:=h
theorem Qs(xs:List Nat)(ao:Option Addr)(n cap B i:Nat)(w:World)(hn:n=xs.length)(hx:Wf xs)(hR:Rd B w ao xs)(hi:i<=9223372036854775807) :
 Calls Tryz.prog 132 #[.slice ao n cap,.int .i64 (i:Int)] w fun r w'=>r=.returned (.bool (decide (val xs/2^i%2=1)))/\w'=w:=by
 obtain⟨k,hk⟩:=ah (i/32);obtain⟨r,hr⟩:=ah (i%32);have e1:(i:Int)/32=(k:Int):=ae
 have e2:(i:Int)%32=(r:Int):=ae
 by_cases hkn:k<n
 · have hb:=BL xs hx k r ae ae;rw[show 32*k+r=i by omega] at hb;rw[hb];obtain⟨b,off,hB,rfl,hcell⟩:=hR (by intro e;subst e;simp at hn;omega);have hck:=hcell k ae;obtain⟨t,ht⟩:∃ t,xs.getD k 0=t:=⟨_,rfl⟩;have htl:t<4294967296:=ht ▸ hx.get k;rw[ht] at hck |-;obtain⟨z,hz⟩:=ah (t/2^r);have hzt:z<=t:=by rw[hz];exact p8 _ _
   have e3:(t:Int)/2^r=(z:Int):=by rw[hz];simp
   have e4:=and_one z ae;have hr32:r<32:=ae
   have hnk:decide ((n:Int)<=(k:Int))=false:=decide_eq_false ae;have hnk2:decide (n<=k)=false:=decide_eq_false ae;rw[<-hz];clear hb hn hx hR hcell ht hz hk hr;rcases(by omega:z%2=0\/z%2=1) with hz2|hz2
   · exact Qav
   · exact Qav
 · rw[yT xs hx i ae];have hnk:decide ((n:Int)<=(k:Int))=true:=decide_eq_true ae;clear hn hx hR hk hr;go_enter Tryz.func132,Tryz.ntmps132;go_wp2;go_ret;exact⟨rfl,rfl⟩
theorem EM (M M2 xs bs:List Nat) (k n m c y:Nat) (iF:M.length=n+m) (hk:k<n) (hn:n=xs.length) (hm:m=bs.length) (hMs:sg M 0 (k+m)=sg xs 0 k*val bs) (hy:xs.getD k 0=y)
 (hout:Out M M2 k m) (hsum:sg M2 k m+c*pw m=sg M k m+val bs*y):sg (M2.set (k+m) c) 0 (k+1+m)=sg xs 0 (k+1)*val bs:=by
 have e1:=di M2 0 (k+m) c (by rw[hout.1];omega);rw[eP] at e1;have e2:=jF M2 0 k m (by rw[hout.1];omega);have e3:=jF M 0 k m ae;rw[eP] at e2 e3;have e4:=hout.below 0 k ae ae;rw[show k+1+m=k+m+1 by omega,e1,e2,e4,bZ xs 0 k ae,eP,hy,rX];rw[e3] at hMs;rw[cu c] at hsum;have:=EJ (pw k) _ _ y _ _ c hMs;rw[<-hsum] at this;rw[<-this,kz,aM,pR]
theorem Iw (xs bs:List Nat) (ao bo:Option Addr) (n cap m bG B:Nat) (w:World) (hn:n=xs.length) (hm:m=bs.length) (hc:n<=cap) (hcb:m<=bG) (hbig:n+m<=35184372088832)
 (hx:Wf xs) (hb:Wf bs) (hR:Rd B w ao xs) (hS:Rd B w bo bs) (hB:B<=w.heap.size) :
 Calls Tryz.prog 63 #[.slice ao n cap,.slice bo m bG] w fun r w'=>∃ v,r=.returned v/\Nt w.heap.size w' v (val xs*val bs)/\Below w.heap.size w w':=by
 obtain⟨W1,hW1⟩:=ah (w.alloc (.cells (madeCells #[.int .u32 0] (n+m)) 51));have oM:Own W1 w.heap.size (List.replicate (n+m) 0):=by rw[hW1];exact Own.made w (n+m)
 have hB1:Below w.heap.size w W1:=by rw[hW1];exact(aD _ _).alloc (aC _) _
 have hmk:=eF ((n:Int)+m) (n+m) ae ae w;rw[<-hW1] at hmk;have Ak:Rd B W1 ao xs:=hR.below (hB1.mono hB);have hS1:Rd B W1 bo bs:=hS.below (hB1.mono hB);obtain⟨g,hg⟩:=ah (w.heap.size);rw[<-hg] at oM hmk hB1 hB;have HR:=(uI Ak hS1 hm hb hx hn hB1 hg);have HO:=hid oM;clear hn hm hx hb hR hS oM hB1 hW1 Ak hS1 hg;go_enter Tryz.func63,Tryz.ntmps63;go_wp2
 go_loopg [6] n (fun gk i wr=>∃ (k:Nat) (M:List Nat),gk+k=n/\i=.int .i64 (k:Nat) /\
  Hid (Own wr g M)/\Aside (Wf M/\M.length=n+m/\sg M 0 (k+m)=sg xs 0 k*val bs/\But g W1 wr))
 case atStart=>exact⟨0,_,ae,rfl,HO,Wf.zeros _,aQ,by rw[tJ,fK];simp,But.refl _ _⟩
 case round =>
  obtain⟨i,L,Ex,rfl,HM,HA⟩:=hrel
  by_cases hi:i<n
  · obtain⟨hR,hS,hm,hb,hx,hn,hB1,hg⟩:=HR.o;obtain⟨a,U5,haB,rfl,hac⟩:=hR (by intro e;subst e;simp at hn;omega);have UN:g<=W1.heap.size:=by have:=hB1.size;omega
    have HAC:Aside (W1.cell? ⟨a,U5+i,none⟩=some (.int .u32 ((xs.getD i 0:Nat):Int))/\a<B/\a<W1.heap.size):=⟨hac i ae,haB,mO W1 ⟨a,U5+i,none⟩ (hac i ae)⟩;obtain⟨q,hq⟩:∃ q:Nat,xs.getD i 0=q:=⟨_,rfl⟩;have hql:q<4294967296:=hq ▸ hx.get _;rw[hq] at HAC;have HQ:=aA hq;clear hq hR hS hm hb hx hn hB1 hg hac;go_wp2
    go_loopg [7,8] m (fun gk c kv w2=>∃ (k cv:Nat) (M:List Nat),gk+k=m/\c=.int .u64 (cv:Nat)/\cv<4294967296/\kv=.int .i64 (k:Nat) /\
     Hid (Own w2 g M)/\Aside (Wf M/\Out L M i k/\sg M i k+cv*pw k=sg L i k+sg bs 0 k*q/\But g W1 w2))
    case atStart=>exact⟨0,0,L,ae,rfl,ae,rfl,HM,HA.o.1,Out.refl _ _ _,by simp[fK],HA.o.r3⟩
    case round =>
     obtain⟨k,cv,M,hgk2,rfl,hcv,rfl,HN,HC⟩:=hrel
     by_cases hk:k<m
     · obtain⟨hR,hS,hm,hb,hx,hn,hB1,hg⟩:=HR.o;obtain⟨dQ,ib,hMs,aI⟩:=HC.o;obtain⟨uT,uS,_,_⟩:=HA.o;obtain⟨b,ik,Pb,rfl,hbc⟩:=hS (by intro e;subst e;simp at hm;omega)
       have hbk:wr.cell? ⟨b,ik+k,none⟩=some (.int .u32 ((bs.getD k 0:Nat):Int)):=by
        have h1:=aI.block b (mO W1 ⟨b,ik+k,none⟩ (hbc k ae)) ae;exact zj
       have hak:wr.cell? ⟨a,U5+i,none⟩=some (.int .u32 (q:Nat)):=by
        have h1:=aI.block a HAC.o.r2 (by have:=HAC.o.2.1;omega);exact(CQ (a:=⟨a,U5+i,none⟩) h1).trans HAC.o.1
       have hgc:=HN.o.cell (i+k) (by rw[ib.1];omega);have hgf:=HN.o.frozen (i+k);obtain⟨x,iB⟩:∃ x:Nat,M.getD (i+k) 0=x:=⟨_,rfl⟩;obtain⟨y,rO⟩:∃ y:Nat,bs.getD k 0=y:=⟨_,rfl⟩;have hxl:x<4294967296:=iB ▸ dQ.get _;have hyl:y<4294967296:=rO ▸ hb.get _;rw[iB] at hgc;rw[rO] at hbk;have hp0:=uQ q y hql hyl;have hp2:(q:Int)*(y:Int)<=18446744065119617025:=by rw[<-gM];omega
       have hp1:0<=(q:Int)*(y:Int):=by rw[<-gM];omega
       obtain⟨s,hs⟩:∃ s:Nat,s=(q*y+x+cv)%4294967296:=⟨_,rfl⟩;obtain⟨d,hd⟩:∃ d:Nat,d=(q*y+x+cv)/4294967296:=⟨_,rfl⟩;have e0:((q*y+x+cv:Nat):Int)=(q:Int)*y+x+cv:=by simp only[Cx,gM]
       have e1:((q:Int)*y+x+cv)%4294967296=(s:Int):=by rw[<-e0];omega
       have e2:((q:Int)*y+x+cv)/4294967296=(d:Int):=by rw[<-e0];omega
       have HX:Aside (M.getD (i+k) 0=x/\bs.getD k 0=y/\s+d*4294967296=y*q+x+cv/\s<4294967296/\d<4294967296):=⟨iB,rO,by rw[cu y q];omega,ae,ae⟩;have hik:i+k<n+m:=ae
       clear iB rO hs hd hR hS hm hb hx hn hB1 hg dQ ib hMs aI hbc e0 hp0 uT uS;go_wp2
       go_quiet (fail)
       go_wp2;go_roundg (gk-1)
       case measure=>omega
       case rel =>
        obtain⟨iB,rO,he,hs,hd⟩:=HX.o;obtain⟨hR,hS,hm,hb,hx,hn,hB1,hg⟩:=HR.o;obtain⟨dQ,ib,hMs,aI⟩:=HC.o;obtain⟨uT,uS,_,_⟩:=HA.o;refine⟨k+1,d,M.set (i+k) s,ae,by first | rfl | rw[e2],hd,by first | go_num | (congr 1;omega),HN.o.set _ _,dQ.set _ _ hs,(ib.mono ae).set _ _ ae ae,?_,(But.drewN aI _).set _ _⟩;rw[di _ _ _ _ (by rw[ib.1];omega),bZ L i k ae,bZ bs 0 k ae,eP,rO,cO];have e:L.getD (i+k) 0=x:=by rw[<-iB];exact(ib.2 _ ae).symm
        rw[e];exact yK _ _ _ _ _ _ _ _ _ _ hMs he
     · obtain rfl:k=m:=ae
       obtain⟨uT,uS,Y3,hLb⟩:=HA.o;have hgc:=HN.o.cell (i+k) (by rw[HC.o.2.1.1];omega);have hgf:=HN.o.frozen (i+k);have hik:i+k<n+k:=ae
       have hcm:(cv:Int)%4294967296=(cv:Int):=ae
       clear uT uS Y3 hLb;go_wp2;go_roundg (n-(i+1))
       case measure=>omega
       case rel =>
        obtain⟨hR,hS,hm,hb,hx,hn,hB1,hg⟩:=HR.o;obtain⟨dQ,ib,hMs,aI⟩:=HC.o;obtain⟨uT,uS,Y3,hLb⟩:=HA.o;refine⟨i+1,M.set (i+k) cv,ae,by first | go_num | (congr 1;omega),HN.o.set _ _,dQ.set _ _ hcv,by simp[ib.1,uS],?_,aI.set _ _⟩;have e2:sg bs 0 k=val bs:=by rw[hm];exact eQ bs
        rw[e2] at hMs;exact EM L M xs bs i n k cv q uS hi hn hm Y3 HQ.o ib hMs
  · obtain rfl:i=n:=ae
    obtain⟨dQ,iF,hMs,aI⟩:=HA.o;have T:=hid (kH L (some ⟨g,0,none⟩) (i+m) (i+m) (g+1) wr iF.symm (aC _) ae dQ (by simpa [iF,iR] using Rd.iA HM.o 0 (i+m)) (fun e=>by cases e));clear dQ iF hMs aI;go_wp2_with fail;refine T.o.mono ?_;rintro r w1 ⟨v,rfl,G8,hbb⟩;have HZ:=(aP G8 hbb);clear G8 hbb;go_wp2;go_ret;obtain⟨hR,hS,hm,hb,hx,hn,hB1,hg⟩:=HR.o;obtain⟨dQ,iF,hMs,aI⟩:=HA.o;have e1:sg L 0 (i+m)=val L:=by rw[<-iF];exact eQ L
    have e2:sg xs 0 i=val xs:=by rw[hn];exact eQ xs
    rw[e1,e2] at hMs;have hsz1:=hB1.size;have hsz2:=aI.size;have hbel:Below g w wr:=But.below hB1 aI ae (aC _);rw[<-hMs,<-hg];exact⟨v,rfl,HZ.o.1.mono ae,hbel.trans (HZ.o.2.mono ae)⟩
structure Arg (w:World) (a:Option Addr) (n c:Nat) (xs:List Nat):Prop where
 len:n=xs.length
 cap:n<=c
 big:n<=35184372088832
 wf:Wf xs
 rd:Rd w.heap.size w a xs
 nil:a=none->c=0
theorem Arg.below{w w':World}{a:Option Addr}{n c:Nat}{xs:List Nat}(h:Arg w a n c xs)(hb:Below w.heap.size w w'):Arg w' a n c xs :=
 ⟨h.len,h.cap,h.big,h.wf,(h.rd.below hb).mono hb.size,h.nil⟩
theorem Nt.arg{lo:Nat}{w:World}{v:Value}{X:Nat}(h:Nt lo w v X)(hs:(ws X).length<=35184372088832):∃ a c,v=.slice a (ws X).length c/\Arg w a (ws X).length c (ws X):=by
 have h':=h;obtain⟨a,c,rfl,h1,h2,h3⟩:=h.shape;refine⟨a,c,rfl,rfl,h1,hs,dP X,h3,fun e=>?_⟩;rcases h'.2 with ⟨e1,_⟩|⟨g,cap,cur,e1,_⟩
 · simp only[Value.slice.injEq] at e1;exact e1.2.2
 · simp only[Value.slice.injEq] at e1;rw[e1.1] at e;cases e
theorem Mq{X Y i:Nat}(h1:X<pw i)(h2:Y<pw i):X+Y<pw (i+1):=by rw[cO];omega
theorem Dg{lo:Nat}{w:World}{r:Ending}{a:Nat×Int}{V:Nat}(h:One lo w r a)(e:a=(V,0)):∃ v,r=.returned (.tuple #[v,.int .i64 0])/\Nt lo w v V:=by
 subst e;exact h
theorem U6{w:World}{a b:Option Addr}{n c m d:Nat}{xs ys:List Nat}{V:Nat}(h1:Arg w a n c xs)(h2:Arg w b m d ys)(e:lJ (val xs) (val ys)=(V,0)) :
 Calls Tryz.prog 99 #[.slice a n c,.slice b m d] w fun r w'=>∃ v,r=.returned (.tuple #[v,.int .i64 0])/\Nt w.heap.size w' v V/\Below w.heap.size w w' :=
 (Ko xs ys a b n c m d w.heap.size w h1.len h2.len h1.cap h2.cap (by have:=h1.big;omega) (by have:=h2.big;omega) h1.wf h2.wf h1.rd h2.rd (aC _)).mono
  fun r w' ⟨ho,hb⟩=>by obtain⟨v,h3,h4⟩:=Dg ho e;exact⟨v,h3,h4,hb⟩
theorem xN{w:World}{a b:Option Addr}{n c m d:Nat}{xs ys:List Nat}{V:Nat}(h1:Arg w a n c xs)(h2:Arg w b m d ys)(e:wZ (val xs) (val ys)=(V,0)) :
 Calls Tryz.prog 141 #[.slice a n c,.slice b m d] w fun r w'=>∃ v,r=.returned (.tuple #[v,.int .i64 0])/\Nt w.heap.size w' v V/\Below w.heap.size w w' :=
 (Kn xs ys a b n c m d w.heap.size w h1.len h2.len h1.cap h2.cap (by have:=h1.big;omega) (by have:=h2.big;omega) h1.wf h2.wf h1.rd h2.rd (aC _)).mono
  fun r w' ⟨ho,hb⟩=>by obtain⟨v,h3,h4⟩:=Dg ho e;exact⟨v,h3,h4,hb⟩
theorem xO{w:World}{a b:Option Addr}{n c m d:Nat}{xs ys:List Nat}{V:Nat}(h1:Arg w a n c xs)(h2:Arg w b m d ys)(e:qC (val xs) (val ys)=(V,0)) :
 Calls Tryz.prog 144 #[.slice a n c,.slice b m d] w fun r w'=>∃ v,r=.returned (.tuple #[v,.int .i64 0])/\Nt w.heap.size w' v V/\Below w.heap.size w w' :=
 (UT xs ys a b n c m d w.heap.size w h1.len h2.len h1.cap h2.cap (by have:=h1.big;omega) (by have:=h2.big;omega) h1.wf h2.wf h1.rd h2.rd (aC _)).mono
  fun r w' ⟨ho,hb⟩=>by obtain⟨v,h3,h4⟩:=Dg ho e;exact⟨v,h3,h4,hb⟩
theorem gH{w:World}{a:Option Addr}{n c:Nat}{xs:List Nat}{V:Nat}(by':Int)(h1:Arg w a n c xs)(e:bz (val xs) by'=(V,0))(hb0:-9223372036854775808<=by')(hb1:by'<=9223372036854775807) :
 Calls Tryz.prog 137 #[.slice a n c,.int .i64 by'] w fun r w'=>∃ v,r=.returned (.tuple #[v,.int .i64 0])/\Nt w.heap.size w' v V/\Below w.heap.size w w' :=
 (BK xs a n c w.heap.size by' w h1.len h1.cap (by have:=h1.big;omega) h1.wf h1.rd (aC _) hb0 hb1).mono
  fun r w' ⟨ho,hb⟩=>by obtain⟨v,h3,h4⟩:=Dg ho e;exact⟨v,h3,h4,hb⟩
theorem Dh{w:World}{a b:Option Addr}{n c m d:Nat}{xs ys:List Nat}(h1:Arg w a n c xs)(h2:Arg w b m d ys)(z:Int)(e:bJ (val xs) (val ys)=z) :
 Calls Tryz.prog 162 #[.slice a n c,.slice b m d] w fun r w'=>r=.returned (.int .i64 z)/\Below w.heap.size w w':=by
 have:=Dc xs ys a b n c m d w.heap.size w h1.len h2.len h1.cap h2.cap (by have:=h1.big;omega) (by have:=h2.big;omega) h1.wf h2.wf h1.rd h2.rd;rw[e] at this;exact this
theorem xP{X Y V:Nat}(h3:¬ LG V)(e:X+Y=V):wZ X Y=(V,0):=by subst e;unfold wZ;rw[if_neg h3]
theorem xQ{X Y V:Nat}(h1:¬ LG X)(h2:¬ LG Y)(e:V+Y=X):qC X Y=(V,0):=by unfold qC;rw[if_neg (by simp[h1,h2]),if_neg ae];congr 1;omega
theorem mR{w:World}{a b:Option Addr}{n c m d:Nat}{xs ys:List Nat}{V:Nat}(h1:Arg w a n c xs)(h2:Arg w b m d ys)(hs:n+m<=35184372088832)(e:val xs*val ys=V) :
 Calls Tryz.prog 63 #[.slice a n c,.slice b m d] w fun r w'=>∃ v,r=.returned v/\Nt w.heap.size w' v V/\Below w.heap.size w w':=by
 subst e;exact Iw xs ys a b n c m d w.heap.size w h1.len h2.len h1.cap h2.cap hs h1.wf h2.wf h1.rd h2.rd (aC _)
theorem BM{w:World}{a b:Option Addr}{n c m d:Nat}{xs ys:List Nat}{V:Nat}(h1:Arg w a n c xs)(h2:Arg w b m d ys)(hs1:n<=35184372088000)(hs2:m<=35184372088000)(e:val xs+val ys=V) :
 Calls Tryz.prog 106 #[.slice a n c,.slice b m d] w fun r w'=>∃ v,r=.returned v/\Nt w.heap.size w' v V/\Below w.heap.size w w':=by
 subst e;exact Ml xs ys a b n c m d w.heap.size w h1.len h2.len h1.cap h2.cap hs1 hs2 h1.wf h2.wf h1.rd h2.rd (aC _)
theorem si{w:World}{a b:Option Addr}{n c m d:Nat}{xs ys:List Nat}{V:Nat}(h1:Arg w a n c xs)(h2:Arg w b m d ys)(hs1:n<=35184372088000)(hs2:m<=35184372088000)(e:V+val ys=val xs) :
 Calls Tryz.prog 108 #[.slice a n c,.slice b m d] w fun r w'=>∃ v,r=.returned v/\Nt w.heap.size w' v V/\Below w.heap.size w w':=by
 have h:=Iu xs ys a b n c m d w.heap.size w h1.len h2.len h1.cap h2.cap hs1 hs2 h1.wf h2.wf h1.rd h2.rd (aC _) ae;rw[show val xs-val ys=V by omega] at h;exact h
theorem lg{w:World}{a b:Option Addr}{n c m d:Nat}{xs ys:List Nat}(h1:Arg w a n c xs)(h2:Arg w b m d ys)(z:Int)(e:bJ (val xs) (val ys)=z) :
 Calls Tryz.prog 107 #[.slice a n c,.slice b m d] w fun r w'=>r=.returned (.int .i64 z)/\Below w.heap.size w w':=by
 have:=Qr xs ys a b n c m d w.heap.size w h1.len h2.len (by have:=h1.big;omega) (by have:=h2.big;omega) h1.wf h2.wf h1.rd h2.rd;rw[e] at this;exact this
theorem qR(w:World)(d:Nat)(hd:d<4294967296):Arg (w.alloc (.cells #[.int .u32 (d:Int)] 51)) (some ⟨w.heap.size,0,none⟩) 1 1 [d]:=by
 refine⟨rfl,aC _,ae,Wf.cons hd Wf.nil,fun _=>⟨w.heap.size,0,aQ,rfl,fun i hi=>?_⟩,fun e=>by cases e⟩;obtain rfl:i=0:=by simpa using hi
 unfold World.cell?;simp only[gY];rfl
theorem af(w:World)(o:Obj):Below w.heap.size w (w.alloc o):=(aD _ _).alloc (aC _) _
theorem Qt(N n:Nat)(h:N<pw n):bl N<=32*n:=by
 by_cases h0:N=0
 · rw[h0,dZ];omega
 · have h1:=iU N h0;rcases jK (32*n) (bl N) with h2|h2
   · exfalso;have h3:2^(32*n)<=2^(bl N-1):=fe ae ae;have h4:pw n=2^(32*n):=by unfold pw;rw[kD]
     omega
   · exact h2
theorem Nt.but{lo g:Nat}{w w':World}{v:Value}{X:Nat}(h:Nt lo w v X)(hb:But g w w')(hg:g<lo):Nt lo w' v X:=by
 have h1:Rw lo w v (ws X).length ((ws X).map U):=h
 exact uX h1 fun b hb2=>by
  obtain⟨h2,h3⟩:=h.lt b hb2;exact hb.block b h3 ae
theorem BN{w:World}{a:Option Addr}{n c:Nat}{xs:List Nat}{V:Nat}(h1:Arg w a n c xs)(e:val xs=V) :
 Calls Tryz.prog 95 #[.slice a n c] w fun r w'=>∃ v,r=.returned v/\Nt w.heap.size w' v V/\Below w.heap.size w w':=by
 subst e;exact kH xs a n c w.heap.size w h1.len h1.cap h1.big h1.wf h1.rd h1.nil
theorem Kq{x y:Nat}(h:y<=x):0<=bJ x y:=by unfold bJ;split <;> (try split) <;> omega
theorem U7{x y:Nat}(h:x<=y):bJ x y<=0:=by unfold bJ;split <;> (try split) <;> omega
theorem Mr(X Y f t:Nat)(h1:Y*f<=X)(h2:X<Y*t)(h3:f<t)(h4:t-f<=1):X/Y=f:=by
 obtain rfl:t=f+1:=ae
 exact Nat.div_eq_of_lt_le (by rw[cu];exact h1) (by rw[cu];exact h2)
theorem Ms{w:World}{a b:Option Addr}{n c m d:Nat}{xs ys:List Nat}(h1:Arg w a n c xs)(h2:Arg w b m d ys)(hm:m<=35184372088000)(hlt:val xs<val ys*4294967296) :
 Calls Tryz.prog 167 #[.slice a n c,.slice b m d] w fun r w'=>∃ v,r=.returned (.tuple #[.int .u32 ((val xs/val ys:Nat):Int),v])/\Nt w.heap.size w' v (val ys*(val xs/val ys))/\Below w.heap.size w w':=by
 have hlo:=aC w.heap.size;obtain⟨X,hX⟩:∃ X,val xs=X:=⟨_,rfl⟩;obtain⟨Y,hY⟩:∃ Y,val ys=Y:=⟨_,rfl⟩;have yV:=bM ys h2.wf;rw[<-h2.len,hY] at yV;rw[hX,hY] at hlt |-;have HX:=(jJ h1 h2 hX hY hlt yV);clear h1 h2 hX hY hlt yV;go_enter Tryz.func167,Tryz.ntmps167;go_wp2
 go_loopg [6,7,8] 4294967296 (fun gk fv tv bv wr=>∃ (f t:Nat),gk+f=t/\fv=.int .u64 (f:Nat)/\tv=.int .u64 (t:Nat)/\f<t/\t<=4294967296/\Aside (Y*f<=X/\X<Y*t/\Below w.heap.size w wr/\Nt w.heap.size wr bv (Y*f)))
 case atStart=>exact⟨0,4294967296,ae,rfl,rfl,ae,ae,ae,HX.o.r4.1,aD _ _,by rw[jY];exact Nt.nil _ _⟩
 case round =>
  obtain⟨f,t,hgt,rfl,rfl,hft,ht,HA⟩:=hrel
  by_cases hend:t-f<=1
  · obtain⟨p1,p2,p3,p4⟩:=HA.o;have HQ:=aA (Mr X Y f t p1 p2 hft hend);obtain rfl:t=f+1:=ae
    clear p1 p2 p3 p4;have hff:f<4294967296:=ae
    go_wp2
    go_ret2
    rw[HQ.o];exact⟨_,by first | rfl | (congr 1),HA.o.r3,HA.o.r2.1⟩
  · obtain⟨mid,hmid⟩:=ah ((f+t)/2);have em:((f:Int)+(t:Int))/2=(mid:Int):=ae
    have hm1:f<mid:=ae
    have hm2:mid<t:=ae
    have hm3:mid<4294967296:=ae
    have em2:(mid:Int)%4294967296=(mid:Int):=ae
    have hgo:(1:Int)<(t:Int)-(f:Int):=ae
    obtain⟨h1,h2,hX,hY,hlt,yV⟩:=HX.o;obtain⟨p1,p2,p3,p4⟩:=HA.o;have hsz:=p3.size;have T1:=hid (mR (V:=Y*mid) ((h2.below p3).below (af wr _)) (qR wr mid hm3) ae (by rw[hY];simp[val]));have hYm:Y*mid<pw (m+1):=by rw[cO,cu 4294967296];exact rH yV hm3
    have hwl:(ws (Y*mid)).length<=m+1:=(aW _ _).2 hYm;clear h1 h2 hX hY hlt yV p1 p2 p3 p4 hYm hmid;go_wp2_with fail;refine T1.o.mono ?_;rintro r u1 ⟨v,rfl,hN,hb⟩;obtain⟨a1,c1,rfl,A1⟩:=hN.arg ae;obtain⟨h1,h2,hX,hY,hlt,yV⟩:=HX.o;obtain⟨p1,p2,p3,p4⟩:=HA.o;have hb2:Below wr.heap.size wr u1:=(af wr _).trans (hb.mono aQ);have q3:Below w.heap.size w u1:=p3.trans (hb2.mono hsz);have q4:=p4.below hb2;have q5:=hN.mono (lo':=w.heap.size) (by simp;omega);have hs1:=hb2.size
    by_cases hle:Y*mid<=X
    · obtain⟨z,hz⟩:∃ z,bJ (Y*mid) X=z:=⟨_,rfl⟩;have hz0:z<=0:=hz ▸ U7 hle;have C1:=hid (lg A1 (h1.below q3) z (by rw[ak,hX];exact hz));have S1:=(ic p2 q3 q5 hle);clear h1 h2 hX hY hlt yV p1 p2 p3 p4 q3 q4 q5 hN hb hb2 A1 hz hle T1 HA;go_wp2_with fail;refine C1.o.mono ?_;rintro r u2 ⟨rfl,hb⟩;have S2:=(aP (S1.o.2.1.trans (hb.mono ae)) (S1.o.r2.1.below hb));clear hb C1;go_wp2;go_roundg (t-mid)
      case measure=>omega
      case rel=>exact⟨mid,t,ae,rfl,rfl,hm2,ht,S1.o.r3,S1.o.1,S2.o.1,S2.o.2⟩
    · have hz:bJ (Y*mid) X=1:=qQ ae;have C1:=hid (lg A1 (h1.below q3) 1 (by rw[ak,hX];exact hz));have S1:=(ic p1 q3 q4 hle);clear h1 h2 hX hY hlt yV p1 p2 p3 p4 q3 q4 q5 hN hb hb2 A1 hz hle T1 HA;go_wp2_with fail;refine C1.o.mono ?_;rintro r u2 ⟨rfl,hb⟩;have S2:=(aP (S1.o.2.1.trans (hb.mono ae)) (S1.o.r2.1.below hb));clear hb C1;go_wp2;go_roundg (mid-f)
      case measure=>omega
      case rel=>exact⟨f,mid,ae,rfl,rfl,hm1,ae,S1.o.1,by have:=S1.o.r3;omega,S2.o.1,S2.o.2⟩
end
end Go.Proofs.YtfmfhehbdfhnbaaGreatDoor
