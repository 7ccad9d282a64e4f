import Derived.Test.YtjppdacikihpdaaGreatDoorBIeeex
import Derived.Test.YtjppdacikihpdaaGreatDoorW24x
import Derived.Test.YtjppdacikihpdaaGreatDoorW14x
import Derived.Deep.RegionHeld
set_option linter.unusedVariables false
set_option linter.unusedSimpArgs false
set_option maxHeartbeats 16000000
set_option maxRecDepth 20000
namespace Go.Proofs.YtjppdacikihpdaaGreatDoor
section
open Go.RowKit
theorem Jk(P x Y B:Nat)(hY:0<Y):(x+B*P)/Y=(x+B*(P%Y))/Y+B*(P/Y)/\(x+B*P)%Y=(x+B*(P%Y))%Y:=by
 have h:=oz P Y
 have e:x+B*P=(x+B*(P%Y))+Y*(B*(P/Y)):=by
  conv=>lhs;rw[<-h]
  rw[oq,<-aQ,cK B Y,aQ];omega
 rw[e];exact⟨sP _ _ hY,Aq _ _ _⟩
theorem FK(P x Y B:Nat)(hY:0<Y)(hx:x<B):x+B*(P%Y)<Y*B:=by
 have h:=iB P hY;have h1:B*(P%Y+1)<=B*Y:=fG _ h;rw[oq] at h1;rw[cK Y];omega
theorem Dg(M:List Nat)(k d:Nat)(hk:k<M.length):val ((M.set k d).drop k)=d+4294967296*val (M.drop (k+1)):=by
 rw[dz _ k (by simpa using hk),ib _ _ _ hk];rw[List.drop_set_of_lt ae]
theorem Wh{w:World}{g:Nat}{x:Nat}(h:Own w g [x]):w.ownsRow g 162 1 (.slice (some ⟨g,0,none⟩) 1 1) 1 ([x].map U) :=
 ⟨aN,.inr ⟨g,1,_,rfl,aA _,h,aA _,by unfold maxLen;omega,aN,aN⟩⟩
theorem RB(w:World)(x:Nat):Own (w.alloc (.cells #[.int .u32 (x:Int)] 162)) w.heap.size [x]:=by
 unfold Own;rw[iF];rfl
set_option maxRecDepth 100000 in
theorem qG{w:World}{a b:Option Addr}{n c m d:Nat}{xs ys:List Nat}(h1:Arg w a n c xs)(h2:Arg w b m d ys)(hn:n<=35184372088000)(hm:m+1<=35184372088000)(hY:0<val ys) :
 As 166 #[.slice a n c,.slice b m d] w λr w'=>∃v u,r=.returned (.tuple #[v,u])/\Nt w.heap.size w' v (val xs/val ys)/\Nt w.heap.size w' u (val xs%val ys)/\Below w.heap.size w w':=by
 obtain⟨W1,hW1⟩:=ah (w.alloc (.cells (madeCells #[.int .u32 0] n) 162));have kD:Own W1 w.heap.size (List.replicate n 0):=by rw[hW1];exact Own.made w n
 have hB1:Below w.heap.size w W1:=by rw[hW1];exact(aD _ _).alloc (aA _) _
 have hmk:=dO (n:Int) n rfl ae w;rw[<-hW1] at hmk;obtain⟨g,hg⟩:=ah (w.heap.size);rw[<-hg] at kD hmk hB1;obtain⟨Y,FL⟩:∃Y,val ys=Y:=⟨_,rfl⟩;have yP:=dh ys h2.wf;rw[<-h2.len,FL] at yP;rw[FL] at hY |-;have hlen:=h1.len;have HX:=(Ew h1 h2 FL yP hB1 hg hlen);have HO:=hid kD;clear h1 h2 FL yP hB1 kD hW1 hg hlen;go_enter Tryz.func166,Tryz.ntmps166;go_wp2
 go_loopg [7,8] n (λk rv iv wr=>∃(M:List Nat),k<=n/\iv=.int .i64 ((k:Int)-1)/\Hid (Own wr g M) /\
  Aside (Wf M/\M.length=n/\(∀j,j<k->M.getD j 0=0)/\val (M.drop k)=val (xs.drop k)/Y/\Below g w wr/\Nt (g+1) wr rv (val (xs.drop k)%Y)))
 case atStart =>
  obtain⟨h1,h2,FL,yP,hB1,hg,hlen⟩:=HX.o;refine⟨List.replicate n 0,aA _,by first | rfl | go_num,HO,Wf.zeros _,aN,λj _=>yC _ _,?_,hB1,?_⟩
  . rw[wD aN,wD ae];simp[val]
  . rw[wD ae];simp only[val,Nat.zero_mod];exact Nt.nil _ _
 case round =>
  obtain⟨M,hk,rfl,HM,HA⟩:=hrel
  by_cases hk0:gk=0
  . subst hk0;obtain⟨bC,dx,Bj,q9,hbel,Iw⟩:=HA.o;rw[List.drop_zero,List.drop_zero] at q9;rw[List.drop_zero] at Iw;have T:=hid (jQ M (some ⟨g,0,none⟩) n n (g+1) wr dx.symm (aA _) ae bC (by simpa [dx,eF] using Rd.gW HM.o 0 n) (λe=>by cases e));rw[q9] at T;have S:=(bA hbel Iw);have hgl:=HM.o.lt;clear bC dx Bj q9 hbel Iw;go_wp2_with fail;refine T.o.mono ?_;rintro r u1 ⟨v,rfl,hN,hb⟩;have S2:=(bA hN hb);clear hN hb;go_wp2
    go_ret2
    obtain⟨hN,hb⟩:=S2.o;obtain⟨hbel,Iw⟩:=S.o;obtain⟨h1,h2,FL,yP,hB1,hg,hlen⟩:=HX.o;rw[<-hg];exact⟨v,_,rfl,hN.mono ae,(Iw.below hb).mono ae,hbel.trans (hb.mono ae)⟩
  . obtain⟨k,rfl⟩:∃k,gk=k+1:=⟨gk-1,ae⟩;obtain⟨h1,h2,FL,yP,hB1,hg,hlen⟩:=HX.o;obtain⟨bC,dx,Bj,q9,hbel,Iw⟩:=HA.o;have hgl:=HM.o.lt;obtain⟨ba,off,hBa,rfl,hcell⟩:=h1.rd (by intro e;subst e;simp at hlen;omega);have hxc:wr.cell? ⟨ba,off+k,none⟩=some (.int .u32 ((xs.getD k 0:Nat):Int)):=(hbel.cell (p:=⟨ba,off+k,none⟩) (by simp;omega)).trans (hcell k ae);obtain⟨x,hx⟩:∃x,xs.getD k 0=x:=⟨_,rfl⟩;have hxl:x<4294967296:=hx ▸ h1.wf.get k;rw[hx] at hxc;obtain⟨P,hP⟩:∃P,val (xs.drop (k+1))=P:=⟨_,rfl⟩;have hds:=dz xs k ae;rw[hx,hP] at hds;rw[hP] at q9 Iw;obtain⟨st1,st2⟩:=Jk P x Y 4294967296 hY;rw[<-hds] at st1 st2;have hdl:=FK P x Y 4294967296 hY hxl;obtain⟨R,hR⟩:∃R,P%Y=R:=⟨_,rfl⟩;have uU:R<Y:=hR ▸ iB _ hY;rw[hR] at st1 st2 hdl Iw;obtain⟨Z,hZ⟩:∃Z,x+4294967296*R=Z:=⟨_,rfl⟩;rw[hZ] at st1 st2 hdl;have hwR:(ws R).length<=m:=(aS R m).2 ae;have hZp:Z<pw (m+1):=by rw[bK];rw[cK Y] at hdl;omega
    have hwZ:(ws Z).length<=m+1:=(aS Z (m+1)).2 hZp;obtain⟨ar,cr,rfl,AR⟩:=Iw.arg ae;have hLO:=RB wr x;obtain⟨v',w2,hap,hown,hgrow⟩:=kP (wr.alloc (.cells #[.int .u32 (x:Int)] 162)) wr.heap.size (.slice (some ⟨wr.heap.size,0,none⟩) 1 1) 1 [x] (ws R) ar (ws R).length cr wr.heap.size 77 (Wh hLO) rfl (AR.rd.below (af wr _)) AR.nil ae aN;have hb2:Below wr.heap.size wr w2:=(af wr _).grown hgrow aN (λk hk=>by simp[Value.ownBlock] at hk;omega);obtain⟨a2,c2,rfl,hc2,hl2,wN,FM⟩:=Rw.words hown;have hval:val ([x]++ws R)=Z:=by rw[<-hZ];simp[val,aB]
    have N1:=hid (jQ ([x]++ws R) a2 (1+(ws R).length) c2 w2.heap.size w2 hl2 hc2 ae (Wf.append (Wf.cons hxl Wf.nil) (gG R)) FM wN);rw[hval] at N1;have Nf:=hid hap;have hs2:=hb2.size;have S1:=(Cm bC dx Bj q9 (hbel.trans (hb2.mono ae)) (HM.o.below hb2 hgl) st1 st2 hdl hx);clear h1 h2 FL yP hB1 hg hlen bC dx Bj q9 hbel Iw hcell hx hP hds st1 st2 hdl hR uU hZ hZp AR hLO hap hown hgrow hb2 hl2 wN FM hval HM HA
    go_wp2_with (at_builtin;refine dC rfl (.tmp 27) (.tmp 28) 77 rfl _ _ rfl rfl _ _ Nf.o ?_)
    refine N1.o.mono ?_;rintro r u3 ⟨v3,rfl,uT,hb3⟩;obtain⟨a3,c3,rfl,A3⟩:=uT.arg ae;obtain⟨bC,dx,Bj,q9,hbel,NU,st1,st2,hdl,hx⟩:=S1.o;obtain⟨h1,h2,FL,yP,hB1,hg,hlen⟩:=HX.o;have hs3:=hb3.size;have FN:Below g w u3:=hbel.trans (hb3.mono ae);have hO3:=NU.below hb3 ae;have Wi:Below w.heap.size w u3:=hg ▸ FN
    by_cases hge:Y<=Z
    . obtain⟨z,hz⟩:∃z,bI Z Y=z:=⟨_,rfl⟩;have hz0:0<=z:=hz ▸ Lv hge;have C1:=hid (jZ A3 (h2.below Wi) z (by rw[aB,FL];exact hz));have S2:=(Cm bC dx Bj q9 FN hO3 st1 st2 hdl uT);clear bC dx Bj q9 hbel NU st1 st2 hdl hx h1 h2 FL yP hB1 hg hlen FN hO3 Wi hb3 uT A3 hz S1 N1;go_wp2_with fail;refine C1.o.mono ?_;rintro r u4 ⟨rfl,hb4⟩;obtain⟨bC,dx,Bj,q9,hbel,NU,st1,st2,hdl,uT⟩:=S2.o;obtain⟨h1,h2,FL,yP,hB1,hg,hlen⟩:=HX.o;have hs4:=hb4.size;have RD:Below g w u4:=hbel.trans (hb4.mono ae);have hO4:=NU.below hb4 ae;have hbw4:Below w.heap.size w u4:=hg ▸ RD;have AZ:=uT.below hb4;obtain⟨_,_,e4,A4⟩:=AZ.arg ae
      cases e4
      have D0:=NP A4 (h2.below hbw4) ae (by rw[aB,FL];exact hdl);rw[aB,FL] at D0;have hDl:Z/Y<4294967296:=Nat.div_lt_of_lt_mul hdl;have hmd:=Nat.mod_add_div Z Y;have hYD:Y*(Z/Y)<=Z:=ae
      have hwD:(ws (Y*(Z/Y))).length<=m+1:=by
       have h5:=(aS Z (m+1)).1 hwZ;exact(aS _ (m+1)).2 ae
      obtain⟨D,hD⟩:∃D,Z/Y=D:=⟨_,rfl⟩;rw[hD] at D0 hDl hmd hYD hwD st1;have D1:=hid D0;have S3:=(Cm bC dx Bj q9 RD hO4 st1 st2 AZ hmd);clear bC dx Bj q9 hbel NU st1 st2 hdl h1 h2 FL yP hB1 hg hlen RD hO4 hbw4 hb4 uT AZ A4 hmd hYD hD D0 S2 C1;go_wp2_with fail;refine D1.o.mono ?_;rintro r u5 ⟨v5,rfl,YZ,hb5⟩;obtain⟨bC,dx,Bj,q9,hbel,NU,st1,st2,AZ,hmd⟩:=S3.o;have hs5:=hb5.size;have yQ:Below g w u5:=hbel.trans (hb5.mono ae);have Vx:=NU.below hb5 ae;have hgc:=Vx.cell k ae;have hgf:=Vx.frozen k;have hbt:But g u5 (u5.setCell ⟨g,k,none⟩ (.int .u32 (D:Nat))):=(But.refl g u5).set k _;have hN6:=(AZ.below hb5).but hbt ae;have hN7:=YZ.but hbt ae;obtain⟨_,_,e6,A6⟩:=hN6.arg ae
      cases e6
      obtain⟨a7,c7,rfl,A7⟩:=hN7.arg ae;have M1:=hid (rW (V:=Z%Y) A6 A7 ae ae (by rw[aB,aB];exact hmd));have S4:=(QC bC dx Bj q9 yQ Vx st1 st2 hbt);clear bC dx Bj q9 hbel NU st1 st2 AZ hmd yQ Vx hbt hN6 hN7 A6 A7 YZ hb5 S3 D1;go_wp2_with fail;refine M1.o.mono ?_;rintro r u8 ⟨v8,rfl,hN8,Qw⟩;have S5:=(bA hN8 Qw);clear hN8 Qw M1;go_wp2;go_roundg k
      case measure=>omega
      case rel =>
       obtain⟨bC,dx,Bj,q9,hbel,NU,st1,st2,hbt⟩:=S4.o;obtain⟨hN8,Qw⟩:=S5.o;have hs8:=Qw.size;have hss:(u5.setCell ⟨g,k,none⟩ (.int .u32 (D:Nat))).heap.size=u5.heap.size:=by simp[World.setCell]
       refine⟨M.set k D,ae,by first | go_num | (congr 1;omega),(NU.set k D).below Qw ae,bC.set _ _ hDl,by simp[dx],?_,?_,?_,?_⟩
       . intro j hj;rw[getD_set_ne _ _ _ _ ae];exact Bj j ae
       . rw[Dg M k D ae,q9,st1]
       . exact(But.below hbel hbt ae (aA _)).trans (Qw.mono ae)
       . rw[st2];exact hN8.mono ae
    . have hz:bI Z Y=-1:=nT ae;have C1:=hid (jZ A3 (h2.below Wi) (-1) (by rw[aB,FL];exact hz));have S2:=(Zz bC dx Bj q9 FN hO3 st1 st2 hdl uT hlen);clear bC dx Bj q9 hbel NU st1 st2 hdl hx h1 h2 FL yP hB1 hg hlen FN hO3 Wi hb3 uT A3 hz S1 N1;go_wp2_with fail;refine C1.o.mono ?_;rintro r u4 ⟨rfl,hb4⟩;have S3:=ak hb4;clear hb4 C1;go_wp2;go_roundg k
      case measure=>omega
      case rel =>
       obtain⟨bC,dx,Bj,q9,hbel,NU,st1,st2,hdl,uT,hlen⟩:=S2.o;have hb4:=S3.o;refine⟨M,ae,by first | go_num | (congr 1;omega),NU.below hb4 ae,bC,dx,λj hj=>Bj j ae,?_,hbel.trans (hb4.mono ae),?_⟩
       . rw[dz M k ae,Bj k ae,q9,st1,iq (show Z<Y by omega)]
       . rw[st2,jL (show Z<Y by omega)];exact(uT.below hb4).mono ae
theorem RF(w:World)(a b:Nat)(ha:a<4294967296)(hb:b<4294967296):Arg (w.alloc (.cells #[.int .u32 (a:Int),.int .u32 (b:Int)] 162)) (some ⟨w.heap.size,0,none⟩) 2 2 [a,b]:=by
 refine⟨rfl,aA _,ae,Wf.cons ha (Wf.cons hb Wf.nil),λ_=>⟨w.heap.size,0,aN,rfl,λi hi=>?_⟩,λe=>by cases e⟩;have hi2:i=0\/i=1:=by simp at hi;omega
 unfold World.cell?;simp only[iF];rcases hi2 with rfl|rfl <;> rfl
theorem xE(x:Nat)(w:World)(hx:x<18446744073709551616) :
 As 112 #[.int .u64 (x:Nat)] w λr w'=>∃v,r=.returned v/\Nt w.heap.size w' v x/\An w w':=by
 obtain⟨a,ha⟩:=ah (x%4294967296);obtain⟨b,hb⟩:=ah (x/4294967296);have e1:(x:Int)%4294967296=(a:Int):=ae
 have e2:(x:Int)/4294967296=(b:Int):=ae
 have e3:(b:Int)%4294967296=(b:Int):=ae
 have N1:=hid (Bi (V:=x) (RF w a b ae ae) (by simp[val];omega));have hb3:b<4294967296:=ae
 clear ha hb;go_enter Tryz.func112,Tryz.ntmps112;go_wp2_with fail;refine N1.o.mono ?_;rintro r u1 ⟨v,rfl,hN,hbl⟩;have S:=(bA hN hbl);clear hN hbl;go_wp2;go_ret;exact⟨v,rfl,S.o.1.mono aN,(af w _).trans (S.o.2.mono aN)⟩
theorem tV(X:Nat)(h:X≠0):∃m,X=2^lo X*(2*m+1):=by
 have key:∀Y:Nat,Y≠0->∃i m,Y=2^i*(2*m+1):=by
  intro Y
  induction Y using Nat.strongRecOn with
  | ind Y ih =>
    intro hY;rcases IL Y with h0|h1
    . obtain⟨i,m,e⟩:=ih (Y/2) ae ae;refine⟨i+1,m,?_⟩;rw[dS,cK (2^i) 2,aQ,<-e];omega
    . exact⟨0,Y/2,ae⟩
 obtain⟨i,m,e⟩:=key X h;refine⟨m,?_⟩;rw[e,Lc]
theorem ZX(X:Nat)(h:X≠0):X/2^lo X%2=1:=by
 obtain⟨m,e⟩:=tV X h;generalize lo X=i at e;rw[e,wB _ (wy ae)];omega
theorem Wj(X j:Nat)(h:X≠0)(hj:j<lo X):X/2^j%2=0:=by
 obtain⟨m,e⟩:=tV X h;generalize lo X=i at e hj;obtain⟨d,rfl⟩:∃d,i=j+(d+1):=⟨i-j-1,ae⟩;rw[e,aP,aQ,wB _ (wy ae),dS,cK (2^d) 2,aQ];omega
theorem RG(X:Nat)(h:X≠0)(n:Nat)(hp:X<pw n):lo X<32*n:=by
 obtain⟨m,e⟩:=tV X h;rcases iE (lo X) (32*n) with h1|h1
 . exact h1
 . exfalso;have h2:2^(32*n)<=2^lo X:=fD ae h1;have h3:pw n=2^(32*n):=by unfold pw;rw[o7]
   have h4:2^lo X*1<=2^lo X*(2*m+1):=fG _ ae;omega
theorem RH(xs:List Nat)(ao:Option Addr)(n cap B:Nat)(w:World)(hn:n=xs.length)(hm:n<=70368744177664)(hx:Wf xs)(hR:Rd B w ao xs) :
 Ax 165 #[.slice ao n cap] w (.int .i64 (lo (val xs):Nat)):=by
 have H:=hid (pG xs ao n cap B w hn ae hR)
 by_cases h0:val xs=0
 . rw[h0,CU];rw[(jk xs).2 h0] at H;clear hn hx hR h0;go_enter Tryz.func165,Tryz.ntmps165;go_wp2_with fail;refine H.o.mono ?_;rintro r w1 ⟨rfl,rfl⟩;go_wp2;go_ret;exact⟨rfl,rfl⟩
 . have hnl:nl xs≠0:=λe=>h0 ((jk xs).1 e);have hv:=dh xs hx;rw[<-hn] at hv;have hlt:=RG _ h0 n hv;obtain⟨k,hk⟩:∃k,nl xs=k:=⟨_,rfl⟩;rw[hk] at H hnl;obtain⟨L,hL⟩:∃L,lo (val xs)=L:=⟨_,rfl⟩;have hb1:=ZX _ h0;have hb0:=Wj (val xs) (h:=h0);rw[hL] at hb1 hb0 hlt |-
   have BT:Hid (∀i:Nat,i<=9223372036854775807->∀w1,w1=w->Ax 195 #[.slice ao n cap,.int .i64 (i:Int)] w1 (.bool (decide (val xs/2^i%2=1)))):=by
    intro i hi w1 hw;subst hw;exact Rz xs ao n cap B i w1 hn hx hR hi
   have HB:=(bA hb1 hb0);clear hb1 hb0 hn hx hR h0 hv hk hL;go_enter Tryz.func165,Tryz.ntmps165;go_wp2_with fail;refine H.o.mono ?_;rintro r w1 ⟨rfl,rfl⟩;have hkf:((k:Int)==0)=false:=by simp;omega
   go_wp2
   go_loopg [3] L (λgk iv wr=>∃(i:Nat),gk+i=L/\iv=.int .i64 (i:Nat)/\wr=w1)
   case atStart=>exact⟨0,ae,rfl,rfl⟩
   case round =>
    obtain⟨i,hi,rfl,rfl⟩:=hrel;have B1:=BT.o i ae _ rfl
    by_cases hiL:i=L
    . subst hiL;obtain rfl:gk=0:=ae
      rw[HB.o.1] at B1;have B2:=hid (show Ax 195 #[.slice ao n cap,.int .i64 (i:Int)] wr (.bool true) from B1);clear B1;go_wp2_with fail;refine B2.o.mono ?_;rintro r w2 ⟨rfl,rfl⟩;go_wp2;exact Jx
    . rw[HB.o.2 i ae] at B1;have B2:=hid (show Ax 195 #[.slice ao n cap,.int .i64 (i:Int)] wr (.bool false) from B1);clear B1;go_wp2_with fail;refine B2.o.mono ?_;rintro r w2 ⟨rfl,rfl⟩;go_wp2;go_roundg (gk-1)
      case measure=>omega
      case rel=>exact⟨i+1,ae,by first | go_num | (congr 1;omega),rfl⟩
theorem tX{w:World}{g:Nat}{L:List Nat}(h:Own w g L)(hm:L.length<=35184372088832):w.ownsRow g 162 1 (.slice (some ⟨g,0,none⟩) L.length L.length) L.length (L.map U) :=
 ⟨aN,.inr ⟨g,L.length,_,rfl,aA _,h,aA _,by unfold maxLen;omega,aN,by simp[eF]⟩⟩
theorem Arg.drew'{w:World}{a:Option Addr}{n c:Nat}{xs:List Nat}(h:Arg w a n c xs):Arg w.drew a n c xs:=⟨h.len,h.cap,h.big,h.wf,h.rd,h.nil⟩
theorem uZ(r:Nat)(hr:r<32):2^r<4294967296:=by
 have:2^r<=2^31:=fD ae ae;omega
theorem Qb5{P:Prop}(h:P:=by
 have:pw q=2^(32*q):=by unfold pw;rw[o7]
 rw[this,<-aP];congr 1;omega):P:=h
theorem Qa1{P:Prop}(h:P:=by
 have h5:((2^s:Nat):Int)=(2:Int)^s:=by simp
 rw[<-h5,<-hp]):P:=h
theorem RI{w:World}{a:Option Addr}{l c:Nat}{X:Nat}(k:Nat)(h1:Arg w a l c (ws X))(hl:l<=2000000)(hk:k<=64000000) :
 As 113 #[.slice a l c,.int .i64 (k:Nat)] w λr w'=>∃v,r=.returned v/\Nt w.heap.size w' v (X*2^k)/\An w w':=by
 obtain⟨q,hq⟩:=ah (k/32);obtain⟨s,hs⟩:=ah (k%32);have e1:(k:Int)/32=(q:Int):=ae
 have e2:(k:Int)%32=(s:Int):=ae
 have hqb:q<=2000000:=ae
 have RJ:s<32:=ae
 obtain⟨W1,hW1⟩:=ah (w.alloc (.cells (madeCells #[.int .u32 0] q) 162));have kD:Own W1 w.heap.size (List.replicate q 0):=by rw[hW1];exact Own.made w q
 have hB1:An w W1:=by rw[hW1];exact(aD _ _).alloc (aA _) _
 have hmk:=dO (q:Int) q rfl ae w;rw[<-hW1] at hmk;have hR:=tX kD (by simp;omega);simp only[xN] at hR;have A1:=h1.below hB1;obtain⟨v',w2,hap,hown,hgrow⟩:=kP W1 w.heap.size _ q (List.replicate q 0) (ws X) a l c W1.heap.size 77 hR A1.len A1.rd A1.nil ae hB1.size;have hB2:An w w2:=hB1.grown hgrow hB1.size (λk hk=>by simp[Value.ownBlock] at hk;omega);obtain⟨a2,c2,rfl,hc2,hl2,wN,FM⟩:=Rw.words hown;have AO:Arg w2 a2 (q+l) c2 (List.replicate q 0++ws X):=⟨hl2,hc2,ae,(Wf.zeros q).append (gG X),FM,wN⟩
 have hval:val (List.replicate q 0++ws X)=X*pw q:=by
  rw[val_append,kX,aB,xN,dA,cK]
 have hpw:pw q*2^s=2^k:=by
  exact Qb5
 have hps:=uZ s RJ;obtain⟨p,hp⟩:=ah (2^s)
 have e3:(2:Int)^s=(p:Int):=by
  exact Qa1
 have hpl:p<4294967296:=ae
 have T1:=hid (lN (V:=X*2^k) (AO.below (af w2 _)) (tT w2 p ae) ae (by rw[hval];simp only[val];rw[<-hpw,hp,aQ];simp));have Nf:=hid hap;have hs2:=hB2.size;have S1:=ak hB2;clear hap hown hgrow hB2 hl2 wN FM AO hval hpw A1 hR kD hB1 h1 hW1 hq hs hps hp;go_enter Tryz.func113,Tryz.ntmps113
 go_wp2_with (at_builtin;refine dC rfl (.tmp 39) (.tmp 40) 77 rfl _ _ rfl rfl _ _ Nf.o ?_)
 refine T1.o.mono ?_;rintro r u3 ⟨v3,rfl,uT,hb3⟩;have S2:=(bA uT hb3);clear uT hb3;go_wp2;go_ret;obtain⟨uT,hb3⟩:=S2.o;exact⟨v3,rfl,uT.mono (by simp;omega),S1.o.trans (((af w2 _).trans (hb3.mono aN)).mono hs2)⟩
theorem Jl{w:World}{b off:Nat}{l c:Nat}{X:Nat}(k:Nat)(h1:Arg w (some ⟨b,off,none⟩) l c (ws X))(hl:l<=2000000)(hk0:0<k)(hk:k<=64000000)(hkl:k/32<l) :
 As 113 #[.slice (some ⟨b,off,none⟩) l c,.int .i64 (-(k:Int))] w λr w'=>∃v,r=.returned v/\Nt w.heap.size w' v (X/2^k)/\An w w':=by
 obtain⟨q,hq⟩:=ah (k/32);obtain⟨s,hs⟩:=ah (k%32);have e1:(k:Int)/32=(q:Int):=ae
 have e2:(k:Int)%32=(s:Int):=ae
 have hql:q<l:=ae
 have RJ:s<32:=ae
 have hcl:=h1.cap;have hqc:¬ c=q:=ae
 obtain⟨p,hp⟩:=ah (2^s);have hps:=uZ s RJ
 have e3:(2:Int)^s=(p:Int):=by
  exact Qa1
 have hpl:p<4294967296:=ae
 have hd1:decide (l<=q)=false:=decide_eq_false ae;have hd2:decide ((-(k:Int)) < -1099511627776)=false:=decide_eq_false ae;have hd3:decide ((l:Int)<=(q:Int))=false:=decide_eq_false ae
 have hvd:val ((ws X).drop q)=X/pw q:=by
  have h5:=dU (ws X) q (by rw[<-h1.len];omega);have h6:=dh ((ws X).take q) ((gG X).take q);rw[aB] at h5;rw[fJ,iQ (by rw[<-h1.len];omega)] at h6;generalize val ((ws X).drop q)=Bv at h5 |-;generalize val ((ws X).take q)=Av at h5 h6;rw[h5,sP _ _ (iU q),iq h6,dA]
 have hpw:X/pw q/p=X/2^k:=by
  have h5:pw q=2^(32*q):=by unfold pw;rw[o7]
  rw[wC,h5,hp,<-aP];congr 2;omega
 have I6:(ws (X/pw q)).length<=2000000:=by
  have h5:X<pw l:=by rw[h1.len];exact gZ X
  have h6:X/pw q<=X:=o8 _ _;have h7:=(aS (X/pw q) l).2 ae;omega
 have hp0:0<p:=by rw[hp];exact wy ae
 have YW:Hid (∀u,An w u->As 164 #[.slice (some ⟨b,off+q,none⟩) (l-q) (c-q)] u λr w'=>∃v,r=.returned v/\Nt u.heap.size w' v (X/pw q)/\An u w'):=by
  intro u hu;have h5:=jQ ((ws X).drop q) (some ⟨b,off+q,none⟩) (l-q) (c-q) w.heap.size u (by rw[oU,<-h1.len]) ae ae ((gG X).drop q) ((h1.rd.drop q).below hu) (λe=>by cases e);rw[hvd] at h5;exact h5
 have HP:=(bA hpw I6);have e7:IntKind.i64.wrap (k:Int)=(k:Int):=by simp[IntKind.wrap,IntKind.bits,IntKind.signed] <;> omega
 have e8:(k:Int).tmod 32=(s:Int):=by rw[Int.tmod_eq_emod_of_nonneg ae];exact e2
 have e6:IntKind.u32.wrap (p:Int)=(p:Int):=by simp[IntKind.wrap,IntKind.bits,IntKind.signed] <;> omega
 clear h1 hq hs hp hvd hpw I6 hps;go_enter Tryz.func113,Tryz.ntmps113;go_wp2
 go_region_with (first
  | (go_at_call 164
     refine(YW.o _ ((aD _ _).drew)).mono ?_;rintro r u1 ⟨v1,rfl,hN1,hb1⟩;obtain⟨a1,c1,rfl,A1⟩:=hN1.arg (by have:=HP.o.2;omega);have hbw:An w u1:=((aD w.heap.size w).drew).trans (hb1.mono (aA _));have S1:=(bA hbw A1)
     clear hN1 hb1 A1 hbw)
  | (go_at_call 164
     refine(YW.o _ ((af w _).drew)).mono ?_;rintro r u1 ⟨v1,rfl,hN1,hb1⟩;obtain⟨a1,c1,rfl,A1⟩:=hN1.arg (by have:=HP.o.2;omega);have hbw:An w u1:=((af w _).drew).trans (hb1.mono aN);have L1:=ak ((Arg.drew' (tT w p hpl)).below hb1);have S1:=(bA hbw A1)
     clear hN1 hb1 A1 hbw)
  | (go_at_call 166
     refine(qG S1.o.2 L1.o (by have:=HP.o.2;omega) ae (by simp[val];exact hp0)).mono ?_;rintro r u2 ⟨v2,v3,rfl,Ex,uT,hb2⟩;have hbw:An w u2:=S1.o.1.trans (hb2.mono S1.o.1.size);have hNw:=Ex.mono (lo':=w.heap.size) S1.o.1.size;have S2:=(bA hNw hbw)
     clear Ex uT hb2 hbw hNw)
  | (go_at_call 166
     refine(qG (S1.o.2.below (af u1 _)) (tT u1 p hpl) (by have:=HP.o.2;omega) ae (by simp[val];exact hp0)).mono ?_;rintro r u2 ⟨v2,v3,rfl,Ex,uT,hb2⟩;have hbw:An w u2:=S1.o.1.trans (((af u1 _).trans (hb2.mono aN)).mono S1.o.1.size);have hNw:=Ex.mono (lo':=w.heap.size) (by have:=S1.o.1.size;simp;omega);have S2:=(bA hNw hbw)
     clear Ex uT hb2 hbw hNw))
 all_goals (
  go_wp2;go_ret;obtain⟨Ex,hb2⟩:=S2.o;have e5:val [p]=p:=by simp[val]
  rw[aB,e5,HP.o.1] at Ex
  exact⟨v2,rfl,Ex,hb2⟩)
theorem N7(a:Option Addr)(l c k:Nat)(w:World)(hl:l<=2000000)(hk:k<=9223372036854775807)(hk0:0<k)(hkl:l<=k/32) :
 Ax 113 #[.slice a l c,.int .i64 (-(k:Int))] w (.slice none 0 0):=by
 obtain⟨q,hq⟩:=ah (k/32);have e1:(k:Int)/32=(q:Int):=ae
 have e7:IntKind.i64.wrap (k:Int)=(k:Int):=by simp[IntKind.wrap,IntKind.bits,IntKind.signed] <;> omega
 have hql:l<=q:=ae
 clear hq hkl;go_enter Tryz.func113,Tryz.ntmps113;go_wp2;go_ret;exact⟨rfl,rfl⟩
theorem FO(a:Option Addr)(l c:Nat)(w:World)(hl:l<=2000000) :
 Ax 113 #[.slice a l c,.int .i64 (-9223372036854775808)] w (.slice none 0 0):=by
 go_enter Tryz.func113,Tryz.ntmps113;go_wp2
 all_goals (
  go_ret
  exact⟨rfl,rfl⟩)
theorem yR(X k l:Nat)(h:X<pw l)(hk:32*l<=k):X/2^k=0:=by
 apply iq;have h1:pw l=2^(32*l):=by unfold pw;rw[o7]
 have h2:2^(32*l)<=2^k:=fD ae hk;omega
theorem Nt.some{lo:Nat}{w:World}{v:Value}{X:Nat}(h:Nt lo w v X)(hX:X≠0):∃g c,v=.slice (some ⟨g,0,none⟩) (ws X).length c:=by
 rcases h.2 with ⟨_,h0⟩|⟨g,cap,cur,rfl,_⟩
 . exact absurd ((bT X).1 h0) hX
 . exact⟨g,cap,rfl⟩
theorem qH{w:World}{v:Value}{X lo:Nat}(hN:Nt lo w v X)(by':Int)(hb0:-9223372036854775808<=by')(hb1:by'<=64000000)(hX:X≠0)(hl:(ws X).length<=2000000) :
 As 113 #[v,.int .i64 by'] w λr w'=>∃v,r=.returned v/\Nt w.heap.size w' v (if by'<0 then X/2^(-by').toNat else X*2^by'.toNat)/\An w w':=by
 obtain⟨g,c,rfl⟩:=hN.some hX;obtain⟨_,_,e,A⟩:=hN.arg ae
 cases e
 by_cases h:by'<0
 . rw[if_pos h]
   by_cases hmin:by'=-9223372036854775808
   . subst hmin;rw[yR X _ (ws X).length (gZ X) ae];exact(FO _ _ _ w hl).mono λr w' ⟨h1,h2⟩=>⟨_,h1,Nt.nil _ _,by rw[h2];exact aD _ _⟩
   . obtain⟨k,hk⟩:∃k:Nat,by'=-(k:Int):=⟨(-by').toNat,ae⟩
     subst hk;rw[show(- -(k:Int)).toNat=k by omega]
     by_cases hkl:k/32<(ws X).length
     . exact Jl k A hl ae ae hkl
     . rw[yR X k (ws X).length (gZ X) ae];exact(N7 _ _ _ k w hl ae ae ae).mono λr w' ⟨h1,h2⟩=>⟨_,h1,Nt.nil _ _,by rw[h2];exact aD _ _⟩
 . rw[if_neg h];obtain⟨k,hk⟩:∃k:Nat,by'=(k:Int):=⟨by'.toNat,ae⟩
   subst hk;rw[show((k:Int)).toNat=k by omega];exact RI k A hl ae
def mkS(neg:Bool)(X:Nat)(e:Int):Option (Bool×Nat×Int) :=
 if X=0 then some (false,0,0)
 else if 262144<bl X-lo X\/1048576-(lo X:Int)<e\/e < -1048576-(lo X:Int) then none
 else some (neg,X/2^lo X,e+lo X)
def dN(o:Option (Bool×Nat×Int)):Bool:=(o.getD (false,0,0)).1
def dX(o:Option (Bool×Nat×Int)):Nat:=(o.getD (false,0,0)).2.1
def dE(o:Option (Bool×Nat×Int)):Int:=(o.getD (false,0,0)).2.2
def xG(o:Option (Bool×Nat×Int)):Int:=if o.isSome then 0 else 2
theorem wO(X m:Nat):m<bl X↔2^m<=X:=by
 constructor
 . intro h;have h0:X≠0:=by rintro rfl;rw[dI] at h;omega
   exact dB (fD ae (by omega:m<=bl X-1)) (iw X h0)
 . intro h;exact(kH ae).1 (iC h (iT X))
theorem Jm(X k m:Nat)(hm:m=32*k):k<(ws X).length↔m<bl X:=by
 rw[wO,hm,o7];have h:=aS X k;unfold pw at h;rw[show(2:Nat)^32=4294967296 from rfl];generalize 4294967296^k=P at h |-;omega
theorem pV(X:Nat):LG X↔262144<bl X:=Jm X 8192 262144 rfl
theorem rX(k Y:Nat)(h:Y≠0):bl (2^k*Y)=k+bl Y:=by
 have h1:=iT Y;have h2:=iw Y h;have h3:=dM Y h;have e:k+bl Y=(k+(bl Y-1))+1:=ae
 rw[e];apply E5
 . rw[aP];exact fG _ h2
 . rw[show k+(bl Y-1)+1=k+bl Y by omega,aP];exact Ao h1 (bG k)
theorem iI(X:Nat)(h:X≠0):∃m,X=2^lo X*(2*m+1)/\X/2^lo X=2*m+1/\bl X=lo X+bl (X/2^lo X):=by
 obtain⟨m,hm⟩:=tV X h
 have e:X/2^lo X=2*m+1:=by
  obtain⟨k,hk⟩:∃k,lo X=k:=⟨_,rfl⟩;rw[hk] at hm |-;rw[hm,wB _ (bG k)]
 refine⟨m,hm,e,?_⟩;rw[e];obtain⟨k,hk⟩:∃k,lo X=k:=⟨_,rfl⟩;rw[hk] at hm |-;rw[hm];exact rX k _ ae
theorem N8(X:Nat)(h:X≠0):lo (2*X)=lo X+1:=by
 obtain⟨m,hm⟩:=tV X h;obtain⟨k,hk⟩:∃k,lo X=k:=⟨_,rfl⟩;rw[hk] at hm |-;have e:2*X=2^(k+1)*(2*m+1):=by rw[hm,dS];grind
 rw[e];exact Lc (k+1) m
theorem N9(X:Nat)(h:X≠0):bl (2*X)=bl X+1:=by
 have:=rX 1 X h;rw[mr] at this;omega
theorem yS(n:Bool)(X:Nat)(e:Int):mkS n (2*X) e=mkS n X (e+1):=by
 unfold mkS
 by_cases h:X=0
 . subst h;simp
 . rw[if_neg ae,if_neg h,N8 X h,N9 X h]
   have e1:2*X/2^(lo X+1)=X/2^lo X:=by
    rw[dS,cK (2^lo X) 2,Nat.mul_div_mul_left _ _ ae]
   rw[e1];have e2:(262144<bl X+1-(lo X+1)\/1048576-((lo X+1:Nat):Int)<e\/e < -1048576-((lo X+1:Nat):Int))↔(262144<bl X-lo X\/1048576-(lo X:Int)<e+1\/e+1 < -1048576-(lo X:Int)):=ae
   by_cases h2:262144<bl X-lo X\/1048576-(lo X:Int)<e+1\/e+1 < -1048576-(lo X:Int)
   . rw[if_pos h2,if_pos (e2.2 h2)]
   . rw[if_neg h2,if_neg (λh3=>h2 (e2.1 h3))];congr 3;omega
theorem fP(n:Bool)(e:Int):mkS n 0 e=some (false,0,0):=by unfold mkS;rw[if_pos rfl]
theorem Wl(X:Nat)(h:X%2=1):lo X=0:=by
 have:=QK (X/2);rw[show 2*(X/2)+1=X by omega] at this;exact this
theorem Lx(n:Bool)(X:Nat)(e:Int)(h:X%2=1):mkS n X e=if 262144<bl X\/1048576<e\/e < -1048576 then none else some (n,X,e):=by
 have h0:X≠0:=ae
 unfold mkS;rw[if_neg h0,Wl X h];simp only[Nat.sub_zero,fO,Nat.div_one]
 by_cases h2:262144<bl X\/1048576<e\/e < -1048576
 . rw[if_pos h2,if_pos ae]
 . rw[if_neg h2,if_neg ae];congr 3;omega
structure wR (n:Bool) (X:Nat) (e:Int):Prop where
 odd:X%2=1\/(X=0/\n=false/\e=0)
 size:bl X<=262144
 up:e<=1048576
 down:-1048576<=e
theorem cO{n n':Bool}{X Y:Nat}{e f:Int}(h:mkS n X e=some (n',Y,f)):wR n' Y f:=by
 unfold mkS at h
 split at h
 . cases h
   exact⟨.inr ⟨rfl,rfl,rfl⟩,by rw[dI];omega,ae,ae⟩
 . next h0 =>
   split at h
   . cases h
   . next h1 =>
     obtain⟨m,hm,e1,hb⟩:=iI X h0
     cases h
     refine⟨.inl (by rw[e1];omega),ae,ae,ae⟩
theorem wR.self{n:Bool}{X:Nat}{e:Int}(h:wR n X e):mkS n X e=some (n,X,e):=by
 rcases h.odd with h1|⟨rfl,rfl,rfl⟩
 . rw[Lx n X e h1,if_neg];have:=h.size;have:=h.up;have:=h.down;omega
 . exact fP _ _
theorem fw{n:Bool}{X:Nat}{e:Int}(h:wR n X e):(ws X).length<=8192:=by
 have h1:=pV X;have h2:=h.size;unfold LG at h1;omega
theorem aR(n:Bool)(X:Nat)(e:Int):(ws (dX (mkS n X e))).length<=8192:=by
 unfold dX
 cases h:mkS n X e with
 | none=>simp[cB]
 | some d =>
   obtain⟨n',Y,f⟩:=d;exact fw (cO h)
theorem Wm(xs:List Nat)(ao:Option Addr)(n cap B i:Nat)(w:World)(hn:n=xs.length)(hm:n<=70368744177664)(hx:Wf xs)(hR:Rd B w ao xs)(hi:i<n) :
 Ax 214 #[.slice ao n cap,.int .i64 (i:Nat)] w (.int .u32 ((xs.getD i 0:Nat):Int)):=by
 obtain⟨b,off,hb,rfl,hc⟩:=hR (by intro e;subst e;simp at hn;omega);have hcell:=hc i ae;obtain⟨x,hx2⟩:∃x,xs.getD i 0=x:=⟨_,rfl⟩;rw[hx2] at hcell |-;have hi1:decide (n<=i)=false:=decide_eq_false ae;clear hc hx hn hx2;go_enter Tryz.func214,Tryz.ntmps214;go_wp2;go_ret;exact⟨rfl,rfl⟩
theorem FP(xs:List Nat)(ao:Option Addr)(n cap:Nat)(i:Int)(w:World)(hn:n=xs.length)(hm:n<=70368744177664)(hi:i<0\/(n:Int)<=i) :
 Ax 214 #[.slice ao n cap,.int .i64 i] w (.int .u32 0):=by
 clear hn;rcases hi with h|h
 . go_enter Tryz.func214,Tryz.ntmps214;go_wp2;go_ret;exact⟨rfl,rfl⟩
 . have h0:decide (i<0)=false:=decide_eq_false ae;go_enter Tryz.func214,Tryz.ntmps214;go_wp2;go_ret;exact⟨rfl,rfl⟩
def wd(xs:List Nat)(i:Int):Nat:=if i<0 then 0 else xs.getD i.toNat 0
theorem Y0(xs:List Nat)(hx:Wf xs)(i:Int):wd xs i<4294967296:=by
 unfold wd;split
 . omega
 . exact hx.get _
theorem FQ(xs:List Nat)(ao:Option Addr)(n cap B:Nat)(i:Int)(w:World)(hn:n=xs.length)(hm:n<=70368744177664)(hx:Wf xs)(hR:Rd B w ao xs) :
 Ax 214 #[.slice ao n cap,.int .i64 i] w (.int .u32 ((wd xs i:Nat):Int)):=by
 by_cases h:i<0
 . unfold wd;rw[if_pos h];exact FP xs ao n cap i w hn hm (.inl h)
 . obtain⟨k,rfl⟩:∃k:Nat,i=(k:Int):=⟨i.toNat,ae⟩;unfold wd;rw[if_neg h,lC]
   by_cases hk:k<n
   . exact Wm xs ao n cap B k w hn hm hx hR hk
   . rw[bF,oN ae];exact FP xs ao n cap k w hn hm (.inr ae)
def win(X:Nat)(i:Int):Nat:=if i<0 then X*2^(-i).toNat%4294967296 else X/2^i.toNat%4294967296
theorem val_mod(xs:List Nat):val xs%4294967296=xs.getD 0 0%4294967296:=by
 cases xs with
 | nil=>simp[val]
 | cons x xs=>simp[val]
theorem RL(xs:List Nat)(hx:Wf xs)(q:Nat):∃R,val xs/pw q=xs.getD q 0+4294967296*(xs.getD (q+1) 0+4294967296*R):=by
 by_cases h:q<xs.length
 . have h1:val xs/pw q=val (xs.drop q):=by
    have h5:=dU xs q ae;have h6:=dh (xs.take q) (hx.take q);rw[fJ,iQ ae] at h6;rw[h5,sP _ _ (iU q),iq h6,dA]
   obtain⟨R,hR⟩:∃R,val (xs.drop (q+1))=xs.getD (q+1) 0+4294967296*R:=by
    by_cases h:q+1<xs.length
    . exact⟨_,dz xs (q+1) h⟩
    . refine⟨0,?_⟩;rw[wD ae,bF,oN ae];rfl
   exact⟨R,by rw[h1,dz xs q h,hR]⟩
 . refine⟨0,?_⟩;have h1:=dh xs hx;have h2:=kM (show xs.length<=q by omega);rw[iq ae,bF,oN ae,bF,oN ae];rfl
theorem Wn(xs:List Nat)(hx:Wf xs)(q r:Nat)(hr:r<32):(xs.getD (q+1) 0*4294967296+xs.getD q 0)/2^r%4294967296=val xs/2^(32*q+r)%4294967296:=by
 rw[nR,<-wC];obtain⟨R,hR⟩:=RL xs hx q;rw[hR]
 have e:xs.getD q 0+4294967296*(xs.getD (q+1) 0+4294967296*R)=(xs.getD (q+1) 0*4294967296+xs.getD q 0)+2^r*(4294967296*(2^(32-r)*R)):=by
  have h1:=kN r hr;have:2^r*(4294967296*(2^(32-r)*R))=4294967296*(4294967296*R):=by rw[<-h1];grind
  rw[this];omega
 rw[e,sP _ _ (bG _),Aq]
theorem LA(V k:Nat):V*2^k%4294967296=V%4294967296*2^k%4294967296:=by
 simp[Nat.mul_mod]
theorem ZY(xs:List Nat)(hx:Wf xs)(i at':Int)(rest:Nat)(h1:at'=i/32)(h2:(rest:Int)=i%32) :
 (wd xs (at'+1)*4294967296+wd xs at')/2^rest%4294967296=win (val xs) i:=by
 have hr:rest<32:=ae
 by_cases h:i<0
 . unfold win;rw[if_pos h]
   by_cases h3:at'=-1
   . subst h3;have e1:wd xs (-1)=0:=by unfold wd;rw[if_pos ae]
     have e2:wd xs (-1+1)=xs.getD 0 0:=by unfold wd;rw[if_neg ae];rfl
     rw[e1,e2,il];obtain⟨k,hk⟩:∃k,(-i).toNat=k:=⟨_,rfl⟩;have e3:k=32-rest:=ae
     rw[hk,LA,val_mod,<-LA,<-kN rest hr,e3];rw[show xs.getD 0 0*(2^rest*2^(32-rest))=2^rest*(xs.getD 0 0*2^(32-rest)) by grind,wB _ (bG rest)]
   . have e1:wd xs at'=0:=by unfold wd;rw[if_pos ae]
     have e2:wd xs (at'+1)=0:=by unfold wd;rw[if_pos ae]
     rw[e1,e2];obtain⟨k,hk⟩:∃k,(-i).toNat=k+32:=⟨(-i).toNat-32,ae⟩;rw[hk,aP,show(2:Nat)^32=4294967296 from rfl,<-aQ,Nat.mul_mod_left];simp
 . obtain⟨n,rfl⟩:∃n:Nat,i=(n:Int):=⟨i.toNat,ae⟩;obtain⟨q,rfl⟩:∃q:Nat,at'=(q:Int):=⟨at'.toNat,ae⟩;have e1:wd xs ((q:Int)+1)=xs.getD (q+1) 0:=by unfold wd;rw[if_neg ae];rfl
   have e2:wd xs (q:Int)=xs.getD q 0:=by unfold wd;rw[if_neg ae];rfl
   unfold win;rw[if_neg h,e1,e2,lC,Wn xs hx q rest hr];rw[show 32*q+rest=n by omega]
theorem and31(i:Int)(h0:-9223372036854775808<=i)(h1:i<=9223372036854775807):bits BinOp.and IntKind.i64 i 31=i%32:=by
 unfold bits;simp[IntKind.bits,IntKind.signed,IntKind.wrap]
 have e:(BitVec.ofInt 64 i &&& 31#64).toNat=(i%18446744073709551616).toNat%32:=by
  rw[BitVec.toNat_and,BitVec.toNat_ofInt];exact IM _ 5
 show(if 9223372036854775808<=(((BitVec.ofInt 64 i &&& 31#64:BitVec 64).toNat:Nat):Int)%18446744073709551616 then(((BitVec.ofInt 64 i &&& 31#64:BitVec 64).toNat:Nat):Int)%18446744073709551616-18446744073709551616 else(((BitVec.ofInt 64 i &&& 31#64:BitVec 64).toNat:Nat):Int)%18446744073709551616)=i%32;rw[e];generalize hz:(i%18446744073709551616).toNat=z;have hz2:(z:Int)=i%18446744073709551616:=ae
 split <;> omega
theorem Jn(xs:List Nat)(ao:Option Addr)(n cap B:Nat)(i:Int)(w:World)(hn:n=xs.length)(hm:n<=70368744177664)(hx:Wf xs)(hR:Rd B w ao xs)(h0:-9223372036854775808<=i)(h1:i<=9223372036854775807) :
 Ax 188 #[.slice ao n cap,.int .i64 i] w (.int .u32 ((win (val xs) i:Nat):Int)):=by
 obtain⟨at',hat⟩:∃a,a=i/32:=⟨_,rfl⟩;obtain⟨rest,hrest⟩:∃r:Nat,(r:Int)=i%32:=⟨(i%32).toNat,ae⟩;have hw:=ZY xs hx i at' rest hat hrest;have W1:=hid (FQ xs ao n cap B (at'+1) w hn hm hx hR);have W2:=hid (FQ xs ao n cap B at' w hn hm hx hR);have l1:=Y0 xs hx (at'+1);have l2:=Y0 xs hx at';generalize wd xs (at'+1)=a at *;generalize wd xs at'=b at *;generalize win (val xs) i=v at *;have e1:i/32=at':=hat.symm;have e2:bits BinOp.and IntKind.i64 i 31=(rest:Int):=by rw[and31 i h0 h1,hrest]
 have e3:=qz a b l1 l2;have hr:rest<32:=ae
 have ha0:-288230376151711744<=at':=ae
 have ha1:at'<=288230376151711744:=ae
 obtain⟨t,ht⟩:∃t:Nat,a*4294967296+b=t:=⟨_,rfl⟩;rw[ht] at e3 hw;have e4:(t:Int)/2^rest%4294967296=(v:Int):=by rw[<-hw];simp
 clear hat hrest hw hn hx hR ht;go_enter Tryz.func188,Tryz.ntmps188;go_wp2_with fail;refine W1.o.mono ?_;rintro r w1 ⟨rfl,rfl⟩;go_wp2_with fail;refine W2.o.mono ?_;rintro r w2 ⟨rfl,rfl⟩;go_wp2;go_ret;exact⟨by simp[e4],rfl⟩
theorem Wo(Y i:Nat):(ws Y).getD i 0=Y/pw i%4294967296:=by
 induction i generalizing Y with
 | zero =>
   by_cases h:Y=0
   . subst h;simp[cB]
   . rw[pF Y h,jA];simp
 | succ i ih =>
   by_cases h:Y=0
   . subst h;simp[cB]
   . rw[pF Y h,bK,<-wC,<-ih];simp
theorem RN(X low i:Nat):win X ((low:Int)+32*(i:Int))=(ws (X/2^low)).getD i 0:=by
 rw[Wo,wC];unfold win;rw[if_neg ae,show((low:Int)+32*(i:Int)).toNat=low+32*i by omega,aP,o7];rfl
theorem RO(Ys:List Nat)(k:Nat)(hk:k<Ys.length) :
 (Ys.take k++List.replicate (Ys.length-k) 0).set k (Ys.getD k 0)=Ys.take (k+1)++List.replicate (Ys.length-(k+1)) 0:=by
 apply List.ext_getElem?;intro j;rw[xV]
 by_cases hj:k=j
 . subst hj;rw[if_pos rfl,if_pos (by simp;omega),sQ (by simp;omega)];simp[bF,hk]
 . rw[if_neg hj]
   by_cases h1:j<k
   . rw[sQ (by simp;omega),sQ (by simp;omega)];simp[h1,show j<k+1 by omega]
   . rw[pq (by simp;omega),pq (by simp;omega)];simp only[II,fJ];congr 1;simp only[eq_iff_iff];omega
theorem Wp{w:World}{a:Option Addr}{n c:Nat}{xs:List Nat}(h1:Arg w a n c xs)(low size:Nat)(hle:low<=size)(hsz:size<=1125899906842624)(hlen:(size-low+31)/32=(ws (val xs/2^low)).length) :
 As 147 #[.slice a n c,.int .i64 (low:Nat),.int .i64 (size:Nat)] w λr w'=>∃v,r=.returned v/\Nt w.heap.size w' v (val xs/2^low)/\An w w':=by
 obtain⟨m,hm⟩:=ah ((size-low+31)/32);rw[<-hm] at hlen;have e1:((size:Int)-low+32-1)/32=(m:Int):=ae
 have hmb:m<=35184372088832:=ae
 obtain⟨W1,hW1⟩:=ah (w.alloc (.cells (madeCells #[.int .u32 0] m) 162));have kD:Own W1 w.heap.size (List.replicate m 0):=by rw[hW1];exact Own.made w m
 have hB1:An w W1:=by rw[hW1];exact(aD _ _).alloc (aA _) _
 have hmk:=dO (m:Int) m rfl ae w;rw[<-hW1] at hmk;have A1:=h1.below hB1;obtain⟨g,hg⟩:=ah (w.heap.size);rw[<-hg] at kD hmk;obtain⟨Ys,hYs⟩:∃Ys,ws (val xs/2^low)=Ys:=⟨_,rfl⟩;have hYw:Wf Ys:=hYs ▸ gG _;rw[hYs] at hlen
 have WN:Hid (∀wr,But g W1 wr->∀i:Nat,i<m->Ax 188 #[.slice a n c,.int .i64 ((low:Int)+32*(i:Int))] wr (.int .u32 ((Ys.getD i 0:Nat):Int))):=by
  intro wr hb i hi;have hR:Rd w.heap.size wr a xs:=(h1.rd.below hB1).but hb (by rw[hg] at *;have:=hB1.size;omega) ae;have:=Jn xs a n c w.heap.size ((low:Int)+32*(i:Int)) wr h1.len (by have:=h1.big;omega) h1.wf hR ae ae;rw[RN,hYs] at this;exact this
 have HR:=(gy hB1 hg hYs hYw hlen)
 have HO:Hid (Own W1 g (Ys.take 0++List.replicate (Ys.length-0) 0)):=by
  rw[<-hlen];exact hid (by simpa using kD)
 clear hm h1 kD hB1 A1 hg hYs hYw hW1 hlen;go_enter Tryz.func147,Tryz.ntmps147;go_wp2
 go_loopg [18] m (λgk iv wr=>∃(k:Nat),gk+k=m/\iv=.int .i64 (k:Nat)/\Hid (Own wr g (Ys.take k++List.replicate (Ys.length-k) 0))/\Aside (But g W1 wr))
 case atStart=>exact⟨0,ae,rfl,HO,But.refl _ _⟩
 case round =>
  clear HO e1;obtain⟨k,jo,rfl,HM,HA⟩:=hrel
  by_cases hk:k<m
  . have hlen:=HR.o.r4;have hgc:=HM.o.cell k (by simp;omega);have hgf:=HM.o.frozen k;obtain⟨old,hold⟩:∃o:Nat,(Ys.take k++List.replicate (Ys.length-k) 0).getD k 0=o:=⟨_,rfl⟩;rw[hold] at hgc;obtain⟨y,hy⟩:∃y:Nat,Ys.getD k 0=y:=⟨_,rfl⟩;have W2:=hid (WN.o wr HA.o k hk);rw[hy] at W2;have HY:=ak hy;clear hlen hold hy;go_wp2_with fail;refine W2.o.mono ?_;rintro r w2 ⟨rfl,rfl⟩;go_wp2;go_roundg (gk-1)
    case measure=>omega
    case rel =>
     refine⟨k+1,ae,by first | go_num | (congr 1;omega),?_,HA.o.set _ _⟩;rw[<-RO Ys k (by have:=HR.o.r4;omega),HY.o];exact HM.o.set _ _
  . obtain rfl:k=m:=ae
    go_wp2;go_ret;obtain⟨hB1,hg,hYs,hYw,hlen⟩:=HR.o;have hO:=HM.o;rw[hlen,List.take_length,wE,List.replicate_zero,Cr] at hO;have hN:=Nt.gW hO (lo:=w.heap.size) ae hYw (by unfold maxLen;omega);have e2:nl Ys=Ys.length:=by rw[<-hYs];exact KO _
    rw[e2,<-hYs,aB] at hN;rw[hlen,<-hYs];exact⟨_,rfl,hN,But.below hB1 HA.o hB1.size ae⟩
def dm(lo:Nat)(w:World)(r:Ending)(o:Option (Bool×Nat×Int)):Prop :=
 ∃v,r=.returned (.tuple #[.agg #[.bool (dN o),v,.int .i64 (dE o)],.int .i64 (xG o)])/\Nt lo w v (dX o)
theorem bz{W w1:World}(hb:An W w1):(∀b o,b<W.heap.size->w1.cell? ⟨b,o,none⟩=W.cell? ⟨b,o,none⟩)/\(∀b o,b<W.heap.size->w1.frozen? ⟨b,o,none⟩=W.frozen? ⟨b,o,none⟩) :=
 ⟨λb o h=>hb.cell (p:=⟨b,o,none⟩) h,λb o h=>hb.frozen (p:=⟨b,o,none⟩) h⟩
theorem ic(X:Nat):(ws X).length=(bl X+31)/32:=by
 by_cases h:X=0
 . subst h;simp[cB,dI]
 . have h1:=Jm X ((ws X).length-1) _ rfl;have h2:=Jm X (ws X).length _ rfl;have h3:(ws X).length≠0:=λe=>h ((bT X).1 e);omega
theorem Jo(X:Nat)(h:X≠0):(bl X-lo X+31)/32=(ws (X/2^lo X)).length:=by
 obtain⟨m,_,_,hb⟩:=iI X h;rw[ic];congr 2;omega
theorem pW(g:Nat)(w:World)(x y z:Value):But g w (((w.setCell ⟨g,0,none⟩ x).setCell ⟨g,1,none⟩ y).setCell ⟨g,2,none⟩ z):=(((But.refl g w).set _ _).set _ _).set _ _
theorem yT{w W1 w2:World}{v:Value}{Y:Nat}(hB:An w W1)(hs:w.heap.size<W1.heap.size)(hN:Nt W1.heap.size w2 v Y)(hb:An W1 w2)(x y z:Value) :
 Nt w.heap.size (((w2.setCell ⟨w.heap.size,0,none⟩ x).setCell ⟨w.heap.size,1,none⟩ y).setCell ⟨w.heap.size,2,none⟩ z) v Y/\An w (((w2.setCell ⟨w.heap.size,0,none⟩ x).setCell ⟨w.heap.size,1,none⟩ y).setCell ⟨w.heap.size,2,none⟩ z) :=
 ⟨(hN.but (pW _ _ _ _ _) hs).mono ae,But.below (hB.trans (hb.mono ae)) (pW _ _ _ _ _) (by have:=hb.size;omega) (aA _)⟩
theorem qe{P:Prop}(h:P:=by
 clear hb hl hX h0 hB1 A1 hT1 hT h1 SZ H3 h2 hOD;subst hW1;go_enter Tryz.func94,Tryz.ntmps94;go_wp2_with fail;refine H1.o.mono ?_;rintro r w1 ⟨rfl,rfl⟩;go_wp2_with fail;refine H2.o.mono ?_;rintro r w1 ⟨rfl,rfl⟩;go_wp2;refine aH (v:=.tuple #[.agg zD3,.int .i64 2]) (by simp[results,Tryz.results94,go_sem]) rfl ⟨⟨_,rfl,Nt.nil _ _⟩,HB.o⟩):P:=h
theorem fZ{w:World}{a:Option Addr}{n c:Nat}{xs:List Nat}(h1:Arg w a n c xs)(hT:gP w)(neg:Bool)(e:Int)(he0:-9223372036854775808<=e)(he1:e<=9223372036854775807) :
 As 94 #[.bool neg,.slice a n c,.int .i64 e] w λr w'=>dm w.heap.size w' r (mkS neg (val xs) e)/\An w w':=by
 obtain⟨W1,hW1⟩:=ah (w.alloc (.cells zD3 79));have hB1:An w W1:=by rw[hW1];exact(aD _ _).alloc (aA _) _
 have A1:=h1.below hB1;have hT1:=hT.belows hB1;have hbig:=h1.big;have H1:=hid (tH xs a n c W1.heap.size W1 A1.len A1.cap ae A1.wf A1.rd);have H2:=hid (VG xs a n c W1.heap.size W1 A1.len ae A1.wf A1.rd hT1)
 have hbl:bl (val xs)<=32*n:=by
  have:=dh xs h1.wf;rw[<-h1.len] at this;exact RA _ _ this
 obtain⟨X,hX⟩:∃X,val xs=X:=⟨_,rfl⟩;rw[hX] at H1 H2 hbl |-;obtain⟨b,hb⟩:∃b,bl X=b:=⟨_,rfl⟩;obtain⟨l,hl⟩:∃l,lo X=l:=⟨_,rfl⟩;rw[hb] at H1 hbl;rw[hl] at H2;unfold mkS;rw[hb,hl]
 have hlb:l<=b:=by
  by_cases h0:X=0
  . subst h0;rw[CU] at hl;omega
  . obtain⟨m,_,_,hbb⟩:=iI X h0;omega
 have HB:=ak hB1;have SZ:W1.heap.size=w.heap.size+1:=by rw[hW1];simp
 by_cases h0:X=0
 . have hb0:b=0:=by rw[<-hb,h0,dI]
   subst hb0;rw[if_pos h0];clear hb hl hX h0 hB1 A1 hT1 hT h1 hlb hbl SZ;subst hW1;go_enter Tryz.func94,Tryz.ntmps94;go_wp2_with fail;refine H1.o.mono ?_;rintro r w1 ⟨rfl,rfl⟩;go_wp2_with fail;refine H2.o.mono ?_;rintro r w1 ⟨rfl,rfl⟩;go_wp2;refine aH (v:=.tuple #[.agg zD3,.int .i64 0]) (by simp[results,Tryz.results94,go_sem]) rfl ⟨⟨_,rfl,Nt.nil _ _⟩,HB.o⟩
 . rw[if_neg h0];have hb0:((b:Int)==0)=false:=by have:=dM X h0;simp;omega
   have hOD:=Wp A1 l b hlb ae (by rw[hX,<-hb,<-hl];exact Jo X h0);rw[hX] at hOD;have H3:=hid hOD
   by_cases h2:262144<b-l
   . rw[if_pos (.inl h2)];have h2':(262144:Int)<(b:Int)-l:=ae
     exact qe
   . have h2':decide ((262144:Int)<(b:Int)-l)=false:=decide_eq_false ae
     by_cases h3:1048576-(l:Int)<e
     . rw[if_pos (.inr (.inl h3))];exact qe
     . have h3':decide (1048576-(l:Int)<e)=false:=decide_eq_false h3
       by_cases h4:e < -1048576-(l:Int)
       . rw[if_pos (.inr (.inr h4))];exact qe
       . have h4':decide (e < -1048576-(l:Int))=false:=decide_eq_false h4;rw[if_neg ae];obtain⟨Y,hY⟩:∃Y,X/2^l=Y:=⟨_,rfl⟩;rw[hY] at H3 |-;have hs:(ws Y).length<=35184372088832:=by rw[<-hY,<-hl,<-Jo X h0];omega
         have h5:e+l<=1048576:=ae
         have h6:-1048576<=e+l:=ae
         clear hb hl hX h0 hB1 A1 hT1 hT h1 hOD h2 h3 h4;subst hW1;go_enter Tryz.func94,Tryz.ntmps94;go_wp2_with fail;refine H1.o.mono ?_;rintro r w1 ⟨rfl,rfl⟩;go_wp2_with fail;refine H2.o.mono ?_;rintro r w1 ⟨rfl,rfl⟩;go_wp2_with fail;refine H3.o.mono ?_;rintro r w2 ⟨v,rfl,hN,hb⟩;obtain⟨a2,c2,rfl,_⟩:=hN.arg hs;obtain⟨hc,hf⟩:=bz hb;have HN:=(bA hN hb);have hz:=hb.size;clear hN hb;go_wp2;obtain⟨q1,q2⟩:=yT HB.o aN HN.o.1 HN.o.2 (.bool neg) (.slice a2 (ws Y).length c2) (.int .i64 (e+l));exact aH (v:=.tuple #[.agg #[.bool neg,.slice a2 (ws Y).length c2,.int .i64 (e+l)],.int .i64 0]) (by simp[results,Tryz.results94,go_sem,hc]) rfl ⟨⟨_,rfl,q1⟩,q2⟩
def Dh(lo:Nat)(w:World)(r:Ending)(o:Option (Bool×Nat×Int)):Prop :=
 ∃v,r=.returned (.tuple #[.agg #[.bool (dN o),v,.int .i64 (dE o)],.bool o.isSome])/\Nt lo w v (dX o)
theorem Oa{w:World}{v:Value}{X lo':Nat}(hN:Nt lo' w v X)(hX:X≠0)(hl:(ws X).length<=2000000) :
 As 113 #[v,.int .i64 (-(lo X:Int))] w λr w'=>∃v,r=.returned v/\Nt w.heap.size w' v (X/2^lo X)/\An w w':=by
 have hb:=RG X hX (ws X).length (gZ X);have h:=qH hN (-(lo X:Int)) ae ae hX hl
 have e:(if -(lo X:Int)<0 then X/2^(- -(lo X:Int)).toNat else X*2^(-(lo X:Int)).toNat)=X/2^lo X:=by
  by_cases h0:lo X=0
  . rw[h0];simp
  . rw[if_pos ae,show(- -(lo X:Int)).toNat=lo X by omega]
 rw[e] at h;exact h
theorem Qab{P:Prop}(h:P:=by
 rw[aB] at this;exact this):P:=h
theorem Kf{P:Prop}(h:P:=by
 clear h3;go_enter Tryz.func111,Tryz.ntmps111;go_wp2_with fail;refine H1.o.mono ?_;rintro r w2 ⟨v,rfl,hN,hb⟩;obtain⟨a2,c2,rfl,A2⟩:=hN.arg ae;obtain⟨hc,hf⟩:=bz hb;have HN:=(bA hN hb);have hz:=hb.size;have Wq:=hid (H2.o a2 c2 w2 A2);clear hN hb A2;go_wp2_with fail;refine(eG Wq.o) ?_;rintro r w3 ⟨rfl,rfl⟩;go_wp2;obtain⟨q1,q2⟩:=yT HB.o aN HN.o.1 HN.o.2 (.bool false) (.slice none 0 0) (.int .i64 0);exact aH (v:=.tuple #[.agg zD3,.bool false]) (by simp[results,Tryz.results111,go_sem,hc]) rfl ⟨⟨_,rfl,Nt.nil _ _⟩,q2⟩):P:=h
theorem qI{w:World}{a:Option Addr}{n c:Nat}{xs:List Nat}(h1:Arg w a n c xs)(hn:n<=2000000)(neg:Bool)(e:Int)(he0:-9223372036854775808<=e)(he1:e<=9223372036854775807) :
 As 111 #[.bool neg,.slice a n c,.int .i64 e] w λr w'=>Dh w.heap.size w' r (mkS neg (val xs) e)/\An w w':=by
 have hB1:An w (w.alloc (.cells zD3 79)):=af w _;obtain⟨X,hX⟩:∃X,val xs=X:=⟨_,rfl⟩;have H1:=hid (Bi (h1.below hB1) hX);rw[hX];have hXp:X<pw n:=by rw[<-hX,h1.len];exact dh xs h1.wf
 have I6:(ws X).length<=2000000:=by have:=(aS X n).2 hXp;omega
 have HB:=ak hB1;clear h1 hX hB1 hXp;unfold mkS
 by_cases h0:X=0
 . rw[if_pos h0];have hl0:(ws X).length=0:=by rw[h0,cB];rfl
   go_enter Tryz.func111,Tryz.ntmps111;go_wp2_with fail;refine H1.o.mono ?_;rintro r w2 ⟨v,rfl,hN,hb⟩;obtain⟨a2,c2,rfl,_⟩:=hN.arg ae;obtain⟨hc,hf⟩:=bz hb;have HN:=(bA hN hb);have hz:=hb.size;clear hN hb;rw[hl0];go_wp2;obtain⟨q1,q2⟩:=yT HB.o aN HN.o.1 HN.o.2 (.bool false) (.slice none 0 0) (.int .i64 0);exact aH (v:=.tuple #[.agg zD3,.bool true]) (by simp[results,Tryz.results111,go_sem,hc]) rfl ⟨⟨_,rfl,Nt.nil _ _⟩,q2⟩
 . rw[if_neg h0];have hlo:=RG X h0 (ws X).length (gZ X);have IY:=Jo X h0;have hbl:=dM X h0
   have hL0:((((ws X).length:Nat):Int)==0)=false:=by
    have:(ws X).length≠0:=λe=>h0 ((bT X).1 e);exact beq_eq_false_iff_ne.2 ae
   have H2:Hid (∀(a2:Option Addr) (c2:Nat) (u:World),Arg u a2 (ws X).length c2 (ws X)->Ax 165 #[.slice a2 (ws X).length c2] u (.int .i64 (lo X:Nat))):=by
    intro a2 c2 u A;have:=RH (ws X) a2 (ws X).length c2 u.heap.size u A.len ae A.wf A.rd;exact Qab
   have H3:Hid (∀(lo':Nat) (v:Value) (u:World),Nt lo' u v X->As 113 #[v,.int .i64 (-(lo X:Int))] u λr w'=>∃v,r=.returned v/\Nt u.heap.size w' v (X/2^lo X)/\An u w') :=
    λlo' v u hN=>Oa hN h0 I6
   obtain⟨l,hl⟩:∃l,lo X=l:=⟨_,rfl⟩;obtain⟨b,hb⟩:∃b,bl X=b:=⟨_,rfl⟩;obtain⟨Y,hY⟩:∃Y,X/2^l=Y:=⟨_,rfl⟩;rw[hl] at H2 H3 hlo IY;rw[hb] at IY hbl;rw[hY] at H3 IY;rw[hl,hb,hY];have hYl:(ws Y).length<=2000000:=by rw[<-hY];have:=wK (o8 X (2^l));omega
   by_cases h3:1048576-(l:Int)<e\/e < -1048576-(l:Int)
   . rw[if_pos (.inr h3)];clear IY hbl hY hl hb h0
     by_cases g1:1048576<e
     . exact Kf
     . have g1':decide (1048576<e)=false:=decide_eq_false g1
       by_cases g2:1048576<e+(l:Int)
       . exact Kf
       . have g2':decide (1048576<e+(l:Int))=false:=decide_eq_false g2;have g3:e+(l:Int) < -1048576:=ae
         exact Kf
   . have g1':decide (1048576<e)=false:=decide_eq_false ae;have g2':decide (1048576<e+(l:Int))=false:=decide_eq_false ae;have g3':decide (e+(l:Int) < -1048576)=false:=decide_eq_false ae;have g4:e+(l:Int)<=1048576:=ae
     have g5:-1048576<=e+(l:Int):=ae
     have hdec:(262144<b-l)↔8192<(ws Y).length:=ae
     by_cases h4:262144<b-l
     . rw[if_pos (.inl h4)];have h5:8192<(ws Y).length:=hdec.1 h4;clear IY hbl hY hl hb h0 h3 hdec h4;go_enter Tryz.func111,Tryz.ntmps111;go_wp2_with fail;refine H1.o.mono ?_;rintro r w2 ⟨v,rfl,hN,hb⟩;obtain⟨a2,c2,rfl,A2⟩:=hN.arg ae;have hz:=hb.size;have Wq:=hid (H2.o a2 c2 w2 A2);have H3':=hid (H3.o _ _ w2 hN);have HN:=(bA hN hb);clear hN hb A2;go_wp2_with fail;refine(eG Wq.o) ?_;rintro r w3 ⟨rfl,rfl⟩;go_wp2_with fail;refine(eG H3'.o) ?_;rintro r w4 ⟨v4,rfl,AZ,hb4⟩;obtain⟨a4,c4,rfl,_⟩:=AZ.arg ae;have hb:=HN.o.2.trans (hb4.mono hz);have YZ:=AZ.mono hz;obtain⟨hc,hf⟩:=bz hb;have HN:=(bA YZ hb);clear AZ hb4 hb YZ;go_wp2;obtain⟨q1,q2⟩:=yT HB.o aN HN.o.1 HN.o.2 (.bool false) (.slice none 0 0) (.int .i64 0);exact aH (v:=.tuple #[.agg zD3,.bool false]) (by simp[results,Tryz.results111,go_sem,hc]) rfl ⟨⟨_,rfl,Nt.nil _ _⟩,q2⟩
     . rw[if_neg ae];have h5:(ws Y).length<=8192:=ae
       clear IY hbl hY hl hb h0 h3 hdec h4;go_enter Tryz.func111,Tryz.ntmps111;go_wp2_with fail;refine H1.o.mono ?_;rintro r w2 ⟨v,rfl,hN,hb⟩;obtain⟨a2,c2,rfl,A2⟩:=hN.arg ae;have hz:=hb.size;have Wq:=hid (H2.o a2 c2 w2 A2);have H3':=hid (H3.o _ _ w2 hN);have HN:=(bA hN hb);clear hN hb A2;go_wp2_with fail;refine(eG Wq.o) ?_;rintro r w3 ⟨rfl,rfl⟩;go_wp2_with fail;refine(eG H3'.o) ?_;rintro r w4 ⟨v4,rfl,AZ,hb4⟩;obtain⟨a4,c4,rfl,_⟩:=AZ.arg ae;have hb:=HN.o.2.trans (hb4.mono hz);have YZ:=AZ.mono hz;obtain⟨hc,hf⟩:=bz hb;have HN:=(bA YZ hb);clear AZ hb4 hb YZ;go_wp2;obtain⟨q1,q2⟩:=yT HB.o aN HN.o.1 HN.o.2 (.bool neg) (.slice a4 (ws Y).length c4) (.int .i64 (e+l));exact aH (v:=.tuple #[.agg #[.bool neg,.slice a4 (ws Y).length c4,.int .i64 (e+l)],.bool true]) (by simp[results,Tryz.results111,go_sem,hc]) rfl ⟨⟨_,rfl,q1⟩,q2⟩
theorem But.ru{g:Nat}(w:World)(i:Nat)(u:Value):But g w (w.setCell ⟨g,i,none⟩ u):=(But.refl g w).set _ _
theorem Nt.ru{lo:Nat}{w:World}{v:Value}{X:Nat}(h:Nt lo w v X)(b i:Nat)(u:Value)(hb:b<lo):Nt lo (w.setCell ⟨b,i,none⟩ u) v X:=h.but (But.ru w i u) hb
theorem Nt.ZZ{lo:Nat}{w:World}{v:Value}{X:Nat}(h:Nt lo w v X)(o:Obj):Nt lo (w.alloc o) v X:=h.below (af w o)
theorem Below.ru{lo:Nat}{w0 w:World}(h:Below lo w0 w)(b i:Nat)(u:Value)(hb:lo<=b)(hs:lo<=w.heap.size):Below lo w0 (w.setCell ⟨b,i,none⟩ u):=But.below h (But.ru w i u) hs hb
structure Fin (lo m:Nat) (w0 w:World) (v:Value) (X:Nat):Prop where
 nt:Nt m w v X
 aF:Below lo w0 w
 size:lo<=w.heap.size
theorem Fin.set{lo m:Nat}{w0 w:World}{v:Value}{X:Nat}(H:Fin lo m w0 w v X)(b i:Nat)(u:Value)(h1:lo<=b)(h2:b<m):Fin lo m w0 (w.setCell ⟨b,i,none⟩ u) v X :=
 ⟨H.nt.ru b i u h2,Below.ru H.aF b i u h1 H.size,by simpa [World.setCell] using H.size⟩
theorem Fin.alloc{lo m:Nat}{w0 w:World}{v:Value}{X:Nat}(H:Fin lo m w0 w v X)(o:Obj):Fin lo m w0 (w.alloc o) v X :=
 ⟨H.nt.ZZ o,H.aF.alloc H.size o,by have:=H.size;simp;omega⟩
theorem Fin.of{lo:Nat}{w0 W1 w2:World}{v:Value}{X:Nat}(k:Nat)(hB:Below lo w0 W1)(hk:W1.heap.size=lo+k)(hN:Nt W1.heap.size w2 v X)(hb:An W1 w2):Fin lo (lo+k) w0 w2 v X :=
 ⟨hk ▸ hN,hB.trans (hb.mono ae),by have:=hb.size;omega⟩
theorem Fin.j4{lo m:Nat}{w0 w:World}{n:Bool}{v:Value}{X:Nat}{e:Int}{k:Value}(H:Fin lo m w0 w v X)(h:lo<=m) :
 (∃v',Ending.returned (.tuple #[.agg #[.bool n,v,.int .i64 e],k])=.returned (.tuple #[.agg #[.bool n,v',.int .i64 e],k])/\Nt lo w v' X)/\Below lo w0 w:=⟨⟨v,rfl,H.nt.mono h⟩,H.aF⟩
theorem Fin.dnil{lo m:Nat}{w0 w:World}{n:Bool}{v:Value}{X:Nat}{e:Int}{k:Value}(H:Fin lo m w0 w v X) :
 (∃v',Ending.returned (.tuple #[.agg #[.bool n,.slice none 0 0,.int .i64 e],k])=.returned (.tuple #[.agg #[.bool n,v',.int .i64 e],k])/\Nt lo w v' 0)/\Below lo w0 w:=⟨⟨_,rfl,Nt.nil _ _⟩,H.aF⟩
theorem qJ{w:World}{a:Option Addr}{n c:Nat}{xs:List Nat}(h1:Arg w a n c xs)(hn:n<=2000000)(neg:Bool)(e:Int)(he0:-9223372036854775808<=e)(he1:e<=9223372036854775807) :
 As 109 #[.bool neg,.slice a n c,.int .i64 e] w λr w'=>dm w.heap.size w' r (mkS neg (val xs) e)/\An w w':=by
 have H1:=hid (qI (h1.below (af w (.cells zD3 79))) hn neg e he0 he1);have hl:=aR neg (val xs) e;obtain⟨o,ho⟩:∃o,mkS neg (val xs) e=o:=⟨_,rfl⟩;rw[ho] at H1 hl |-;unfold Dh at H1;unfold dm;have HB:=ak (af w (.cells zD3 79));clear h1 ho hn he0 he1
 match o with
 | none =>
   simp only[dN,dX,dE,xG,Option.isSome,Option.getD] at H1 hl |-;go_enter Tryz.func109,Tryz.ntmps109;go_wp2_with fail;refine H1.o.mono ?_;rintro r w2 ⟨⟨v,rfl,hN⟩,hb⟩;obtain⟨a2,c2,rfl,_⟩:=hN.arg ae;obtain⟨hc,hf⟩:=bz hb;have HF:=ak (Fin.of 1 HB.o aN hN hb);have hz:w.heap.size<w2.heap.size:=by have:=hb.size;simp at this;omega
   clear hN hb;go_wp2;exact aH (v:=.tuple #[.agg zD3,.int .i64 2]) (by simp[results,Tryz.results109,go_sem,hc,hz]) rfl (Fin.dnil (m:=w.heap.size+1) (v:=.slice a2 (ws 0).length c2) (X:=0) (by repeat (first | exact HF.o | refine Fin.alloc ?_ _ | refine Fin.set ?_ _ _ _ ae ae)))
 | some (dn,X,de) =>
   simp only[dN,dX,dE,xG,Option.isSome,Option.getD] at H1 hl |-;go_enter Tryz.func109,Tryz.ntmps109;go_wp2_with fail;refine H1.o.mono ?_;rintro r w2 ⟨⟨v,rfl,hN⟩,hb⟩;obtain⟨a2,c2,rfl,_⟩:=hN.arg ae;obtain⟨hc,hf⟩:=bz hb;have HF:=ak (Fin.of 1 HB.o aN hN hb);have hz:w.heap.size<w2.heap.size:=by have:=hb.size;simp at this;omega
   clear hN hb;go_wp2;exact aH (v:=.tuple #[.agg #[.bool dn,.slice a2 (ws X).length c2,.int .i64 de],.int .i64 0]) (by simp[results,Tryz.results109,go_sem,hc,hz]) rfl (Fin.j4 (m:=w.heap.size+1) (by repeat (first | exact HF.o | refine Fin.alloc ?_ _ | refine Fin.set ?_ _ _ _ ae ae)) ae)
def Di(x:Nat)(n:Bool)(c e:Int)(f:Nat):Prop:=∀w:World,At 76 #[.float .f64 x] w (.agg #[.bool n,.int .i64 c,.int .i64 e,.int .u64 (f:Nat)])
def Th(lo:Nat)(w:World)(v:Value)(k:Nat)(T:Int):Prop :=
 ∃ng a n c p xs,(∀ad:Addr,a=some ad->lo<=ad.block)/\v=.agg #[.int .i64 (k:Nat),.bool ng,.slice a n c,.int .i64 ((p:Nat):Int)]/\Arg w a n c xs/\p+32*n<=4256/\lJ ng (val xs*2^p)=T
theorem Th.plain(lo:Nat)(w:World)(k:Nat):Th lo w (.agg #[.int .i64 (k:Nat),.bool false,.slice none 0 0,.int .i64 0]) k 0 :=
 ⟨false,none,0,0,0,[],λ_ e=>(by cases e),rfl,⟨rfl,aA _,aM,Wf.nil,Rd.nil _ _ _,λ_=>rfl⟩,aM,by simp[lJ,val]⟩
theorem FU{w:World}{g T:Nat}{a b c d v0 v1 v2 v3:Value}(h:Bl w g T [a,b,c,d]):Bl ((((w.setCell ⟨g,0,none⟩ v0).setCell ⟨g,1,none⟩ v1).setCell ⟨g,2,none⟩ v2).setCell ⟨g,3,none⟩ v3) g T [v0,v1,v2,v3] :=
 (((h.set 0 v0).set 1 v1).set 2 v2).set 3 v3
theorem Nt.RP{lo g:Nat}{w w':World}{v:Value}{X:Nat}(h:Nt lo w v X)(hb:But g w w')(hg:g<lo):Nt lo w' v X:=by
 refine⟨h.1,?_⟩;rcases h.2 with hn|⟨g',cap,cur,rfl,hlo,hgc,rest⟩
 . exact .inl hn
 . exact .inr ⟨g',cap,cur,rfl,hlo,(hb.block g' (dQ.1 hgc).1 ae).trans hgc,rest⟩
theorem Z0{w:World}{v1 v2:Value}{X Y V lo1 lo2:Nat}(N1:Nt lo1 w v1 X)(N2:Nt lo2 w v2 Y)(s1:(ws X).length<=1000)(s2:(ws Y).length<=1000)(e:jI X Y=(V,0)) :
 As 127 #[v1,v2] w λr w'=>∃v,r=.returned (.tuple #[v,.int .i64 0])/\Nt w.heap.size w' v V/\An w w':=by
 obtain⟨a,c,rfl,A1⟩:=N1.arg ae;obtain⟨b,d,rfl,A2⟩:=N2.arg ae;exact Ll A1 A2 (by rw[aB,aB];exact e)
theorem Bl.four{w:World}{g T:Nat}{a b c d:Value}(h:Bl w g T [a,b,c,d]):w.cell? ⟨g,0,none⟩=some a/\w.cell? ⟨g,1,none⟩=some b/\w.cell? ⟨g,2,none⟩=some c/\w.cell? ⟨g,3,none⟩=some d :=
 ⟨h.cell 0 _ rfl,h.cell 1 _ rfl,h.cell 2 _ rfl,h.cell 3 _ rfl⟩
theorem jd{B:Nat}{a w:World}{g:Nat}{v0 v1 v2 v3:Value}(h:Below B a w)(hB:B<=w.heap.size)(hg:B<=g):Below B a ((((w.setCell ⟨g,0,none⟩ v0).setCell ⟨g,1,none⟩ v1).setCell ⟨g,2,none⟩ v2).setCell ⟨g,3,none⟩ v3) :=
 But.below h (((((But.refl g w).set 0 v0).set 1 v1).set 2 v2).set 3 v3) hB hg
theorem Jp(f1 f2:Nat)(hf1:f1<9007199254740992)(hf2:f2<9007199254740992):jI f1 f2=(f1*f2,0)/\(ws (f1*f2)).length<=4:=by
 have h1:f1*f2<pw 4:=by
  have:f1*f2<=9007199254740992*9007199254740992:=kF ae ae;have e:pw 4=340282366920938463463374607431768211456:=aM
  omega
 have e4:pw 2=18446744073709551616:=aM
 have g1:=mF f1 2 ae;have g2:=mF f2 2 ae;have g3:=mF (f1*f2) 4 h1;refine⟨?_,(aS _ _).2 h1⟩;unfold jI;rw[if_neg (by rw[pV,pV];omega),if_neg (by rw[pV];omega)]
def pk(hi lo:Int)(ng:Bool):Nat:=if hi=4\/hi=3/\lo=0 then 1 else if hi=3 then(if ng then 3 else 2) else if lo=0 then(if ng then 4 else 5) else 0
def Y2(hi lo:Int)(ng:Bool)(f1 f2:Nat)(e:Int):Int:=if pk hi lo ng=0 then lJ ng (f1*f2*2^(e+2148).toNat) else 0
theorem p8{hi lo:Int}{ng:Bool}{f1 f2:Nat}{e:Int}(h:pk hi lo ng≠0):Y2 hi lo ng f1 f2 e=0:=by unfold Y2;rw[if_neg h]
theorem LB{hi lo:Int}{ng:Bool}{f1 f2:Nat}{e:Int}(h:pk hi lo ng=0):Y2 hi lo ng f1 f2 e=lJ ng (f1*f2*2^(e+2148).toNat):=by unfold Y2;rw[if_pos h]
theorem zE{P:Prop}(h:P:=by
 rw[p8 (by rw[hk];decide),hk];exact⟨_,rfl,Th.plain _ _ _,qb⟩):P:=h
theorem FW (x y:Nat) (n1 n2:Bool) (c1 c2 x1 x2:Int) (f1 f2:Nat) (w:World) (H1:Di x n1 c1 x1 f1) (H2:Di y n2 c2 x2 f2)
 (hx1:-1074<=x1/\x1<=971) (hx2:-1074<=x2/\x2<=971) (hf1:f1<9007199254740992) (hf2:f2<9007199254740992) :
 As 203 #[.float .f64 x,.float .f64 y] w λr w'=>∃v,r=.returned v /\
  Th w.heap.size w' v (pk (max c1 c2) (min c1 c2) (!n1==n2)) (Y2 (max c1 c2) (min c1 c2) (!n1==n2) f1 f2 (x1+x2))/\An w w':=by
 have H1:=hid H1;have H2:=hid H2;go_enter Tryz.func203,Tryz.ntmps203;go_wp2_with fail;refine eG (H1.o _) ?_;rintro r w1 ⟨rfl,hb1⟩;have B1:=ak hb1;clear hb1;go_wp2_with fail;refine eG (H2.o _) ?_;rintro r w2 ⟨rfl,hb2⟩;have B2:=ak hb2;clear hb2;go_wp2
 go_region
 obtain⟨w4,hw4⟩:=ah (((w2.alloc (Obj.cells #[Value.bool n1,Value.int IntKind.i64 c1,Value.int IntKind.i64 x1,Value.int IntKind.u64 (f1:Nat)] 98)).alloc (Obj.cells #[Value.bool n2,Value.int IntKind.i64 c2,Value.int IntKind.i64 x2,Value.int IntKind.u64 (f2:Nat)] 98)).drew);rw[<-hw4]
 have H4:Aside (Bl w4 w.heap.size 203 [Value.int .i64 0,Value.bool false,Value.slice none 0 0,Value.int .i64 0]/\Bl w4 w2.heap.size 98 [Value.bool n1,Value.int IntKind.i64 c1,Value.int IntKind.i64 x1,Value.int IntKind.u64 (f1:Nat)]/\Bl w4 (w2.heap.size+1) 98 [Value.bool n2,Value.int IntKind.i64 c2,Value.int IntKind.i64 x2,Value.int IntKind.u64 (f2:Nat)]/\An w w4/\w.heap.size<w2.heap.size/\w4.heap.size=w2.heap.size+2):=by
  subst hw4;have z0:=Bl.new w 203 [Value.int .i64 0,Value.bool false,Value.slice none 0 0,Value.int .i64 0];have s0:w.heap.size<w1.heap.size:=by have:=B1.o.size;simp at this;omega
  have z1:=z0.below B1.o aN;have z2:=z1.below B2.o s0;have s2:=B2.o.size;refine⟨((z2.alloc _).alloc _).drew,((Bl.new w2 98 [_,_,_,_]).alloc _).drew,(Bl.new' _ 98 _ [_,_,_,_] aN).drew,?_,ae,aN⟩;refine iG ?_;refine((((aC w _).trans (B1.o.mono aN)).trans (B2.o.mono ae)).trans ((aC _ _).mono ae)).trans ((aC _ _).mono (by simp;omega))
 clear hw4;obtain⟨ng,Iy⟩:=ah ((!n1==n2));obtain⟨hi,hhi⟩:=ah (max c1 c2);obtain⟨lo,hlo⟩:=ah (min c1 c2);rw[<-Iy,<-hhi,<-hlo];have HG:Aside (ng=(!n1==n2)/\hi=max c1 c2/\lo=min c1 c2):=⟨Iy,hhi,hlo⟩;clear Iy hhi hlo;have hne:w.heap.size≠w2.heap.size:=iR H4.o.r4.1;have hne2:w.heap.size≠w2.heap.size+1:=by have:=H4.o.r4.1;omega
 have z0:=H4.o.1.cell 0 _ rfl;have z1:=H4.o.1.cell 1 _ rfl;have z2:=H4.o.1.cell 2 _ rfl;have z3:=H4.o.1.cell 3 _ rfl;have g0:=H4.o.1.frozen 0;have g1:=H4.o.1.frozen 1;have g2:=H4.o.1.frozen 2;have g3:=H4.o.1.frozen 3
 by_cases hodd:hi=4
 . subst hodd;go_wp2;obtain⟨w5,nO⟩:=ah (((((w4.setCell ⟨w.heap.size,0,none⟩ (.int .i64 1)).setCell ⟨w.heap.size,1,none⟩ (.bool false)).setCell ⟨w.heap.size,2,none⟩ (.slice none 0 0)).setCell ⟨w.heap.size,3,none⟩ (.int .i64 0)));rw[<-nO];have q:Bl w5 w.heap.size 203 [.int .i64 1,.bool false,.slice none 0 0,.int .i64 0]:=by rw[nO];exact FU H4.o.1
   have qb:An w w5:=by rw[nO];exact jd H4.o.r3.1 H4.o.r3.1.size (aA _)
   skip;clear nO;obtain⟨q0,q1,q2,q3⟩:=q.four;refine aH (v:=.agg #[.int .i64 1,.bool false,.slice none 0 0,.int .i64 0]) (by simp[results,Tryz.results203,go_sem,q0,q1,q2,q3]) rfl ?_;rw[<-HG.o.1,<-HG.o.2.1,<-HG.o.r2];have hk:pk 4 lo ng=1:=by unfold pk;rw[if_pos (Or.inl rfl)]
   exact zE
 by_cases RS:hi=3
 . subst RS
   by_cases hz:lo=0
   . subst hz;go_wp2;obtain⟨w5,nO⟩:=ah (((((w4.setCell ⟨w.heap.size,0,none⟩ (.int .i64 1)).setCell ⟨w.heap.size,1,none⟩ (.bool false)).setCell ⟨w.heap.size,2,none⟩ (.slice none 0 0)).setCell ⟨w.heap.size,3,none⟩ (.int .i64 0)));rw[<-nO];have q:Bl w5 w.heap.size 203 [.int .i64 1,.bool false,.slice none 0 0,.int .i64 0]:=by rw[nO];exact FU H4.o.1
     have qb:An w w5:=by rw[nO];exact jd H4.o.r3.1 H4.o.r3.1.size (aA _)
     skip;clear nO;obtain⟨q0,q1,q2,q3⟩:=q.four;refine aH (v:=.agg #[.int .i64 1,.bool false,.slice none 0 0,.int .i64 0]) (by simp[results,Tryz.results203,go_sem,q0,q1,q2,q3]) rfl ?_;rw[<-HG.o.1,<-HG.o.2.1,<-HG.o.r2];have hk:pk 3 0 ng=1:=by unfold pk;rw[if_pos (Or.inr ⟨rfl,rfl⟩)]
     exact zE
   . have hz':(lo==0)=false:=by simpa using hz
     cases ng
     . go_wp2_with (go_at_call 220;refine(nU _ _ _ _).mono ?_;rintro r u ⟨rfl,rfl⟩)
       obtain⟨w5,nO⟩:=ah (((((u.setCell ⟨w.heap.size,0,none⟩ (.int .i64 2)).setCell ⟨w.heap.size,1,none⟩ (.bool false)).setCell ⟨w.heap.size,2,none⟩ (.slice none 0 0)).setCell ⟨w.heap.size,3,none⟩ (.int .i64 0)));rw[<-nO];have q:Bl w5 w.heap.size 203 [.int .i64 2,.bool false,.slice none 0 0,.int .i64 0]:=by rw[nO];exact FU H4.o.1
       have qb:An w w5:=by rw[nO];exact jd H4.o.r3.1 H4.o.r3.1.size (aA _)
       skip;clear nO;obtain⟨q0,q1,q2,q3⟩:=q.four;refine aH (v:=.agg #[.int .i64 2,.bool false,.slice none 0 0,.int .i64 0]) (by simp[results,Tryz.results203,go_sem,q0,q1,q2,q3]) rfl ?_;rw[<-HG.o.1,<-HG.o.2.1,<-HG.o.r2];have hk:pk 3 lo false=2:=by unfold pk;rw[if_neg ae,if_pos rfl];rfl
       exact zE
     . go_wp2_with (go_at_call 220;refine(nU _ _ _ _).mono ?_;rintro r u ⟨rfl,rfl⟩)
       obtain⟨w5,nO⟩:=ah (((((u.setCell ⟨w.heap.size,0,none⟩ (.int .i64 3)).setCell ⟨w.heap.size,1,none⟩ (.bool false)).setCell ⟨w.heap.size,2,none⟩ (.slice none 0 0)).setCell ⟨w.heap.size,3,none⟩ (.int .i64 0)));rw[<-nO];have q:Bl w5 w.heap.size 203 [.int .i64 3,.bool false,.slice none 0 0,.int .i64 0]:=by rw[nO];exact FU H4.o.1
       have qb:An w w5:=by rw[nO];exact jd H4.o.r3.1 H4.o.r3.1.size (aA _)
       skip;clear nO;obtain⟨q0,q1,q2,q3⟩:=q.four;refine aH (v:=.agg #[.int .i64 3,.bool false,.slice none 0 0,.int .i64 0]) (by simp[results,Tryz.results203,go_sem,q0,q1,q2,q3]) rfl ?_;rw[<-HG.o.1,<-HG.o.2.1,<-HG.o.r2];have hk:pk 3 lo true=3:=by unfold pk;rw[if_neg ae,if_pos rfl];rfl
       exact zE
 have ho':(hi==4)=false:=by simpa using hodd
 have hi':(hi==3)=false:=by simpa using RS
 by_cases hz:lo=0
 . subst hz
   cases ng
   . go_wp2_with (go_at_call 220;refine(nU _ _ _ _).mono ?_;rintro r u ⟨rfl,rfl⟩)
     obtain⟨w5,nO⟩:=ah (((((u.setCell ⟨w.heap.size,0,none⟩ (.int .i64 5)).setCell ⟨w.heap.size,1,none⟩ (.bool false)).setCell ⟨w.heap.size,2,none⟩ (.slice none 0 0)).setCell ⟨w.heap.size,3,none⟩ (.int .i64 0)));rw[<-nO];have q:Bl w5 w.heap.size 203 [.int .i64 5,.bool false,.slice none 0 0,.int .i64 0]:=by rw[nO];exact FU H4.o.1
     have qb:An w w5:=by rw[nO];exact jd H4.o.r3.1 H4.o.r3.1.size (aA _)
     skip;clear nO;obtain⟨q0,q1,q2,q3⟩:=q.four;refine aH (v:=.agg #[.int .i64 5,.bool false,.slice none 0 0,.int .i64 0]) (by simp[results,Tryz.results203,go_sem,q0,q1,q2,q3]) rfl ?_;rw[<-HG.o.1,<-HG.o.2.1,<-HG.o.r2];have hk:pk hi 0 false=5:=by unfold pk;rw[if_neg ae,if_neg ae,if_pos rfl];rfl
     exact zE
   . go_wp2_with (go_at_call 220;refine(nU _ _ _ _).mono ?_;rintro r u ⟨rfl,rfl⟩)
     obtain⟨w5,nO⟩:=ah (((((u.setCell ⟨w.heap.size,0,none⟩ (.int .i64 4)).setCell ⟨w.heap.size,1,none⟩ (.bool false)).setCell ⟨w.heap.size,2,none⟩ (.slice none 0 0)).setCell ⟨w.heap.size,3,none⟩ (.int .i64 0)));rw[<-nO];have q:Bl w5 w.heap.size 203 [.int .i64 4,.bool false,.slice none 0 0,.int .i64 0]:=by rw[nO];exact FU H4.o.1
     have qb:An w w5:=by rw[nO];exact jd H4.o.r3.1 H4.o.r3.1.size (aA _)
     skip;clear nO;obtain⟨q0,q1,q2,q3⟩:=q.four;refine aH (v:=.agg #[.int .i64 4,.bool false,.slice none 0 0,.int .i64 0]) (by simp[results,Tryz.results203,go_sem,q0,q1,q2,q3]) rfl ?_;rw[<-HG.o.1,<-HG.o.2.1,<-HG.o.r2];have hk:pk hi 0 true=4:=by unfold pk;rw[if_neg ae,if_neg ae,if_pos rfl];rfl
     exact zE
 have hz':(lo==0)=false:=by simpa using hz
 have hk0:pk hi lo ng=0:=by unfold pk;rw[if_neg ae,if_neg ae,if_neg ae]
 have HK:=ak hk0;clear hk0;have kS:Aside (w4.drew.cell? ⟨w2.heap.size,3,none⟩=some (.int .u64 (f1:Nat))/\w4.drew.cell? ⟨w2.heap.size+1,3,none⟩=some (.int .u64 (f2:Nat))):=⟨H4.o.2.1.drew.four.2.2.2,H4.o.r2.1.drew.four.2.2.2⟩;have BB:Aside (An w4 w4.drew):=(aD _ _).drew;have O1:=hid (λu:World=>nS f1 u ae);have O2:=hid (λu:World=>nS f2 u ae);have MS:=ak (Jp f1 f2 hf1 hf2)
 have hpw2:Aside ((ws f1).length<=1000/\(ws f2).length<=1000):=by
  have e:pw 2=18446744073709551616:=aM
  exact⟨dB ((aS f1 2).2 ae) aM,dB ((aS f2 2).2 ae) aM⟩
 clear hodd RS hz z0 z1 z2 z3 g0 g1 g2 g3;go_wp2
 go_region_held (λw'=>w'.cell? ⟨w2.heap.size,3,none⟩=some (.int .u64 (f1:Nat))/\w'.cell? ⟨w2.heap.size+1,3,none⟩=some (.int .u64 (f2:Nat))) (with_reducible exact kS.o) (first
  | (go_at_call 95
     with_reducible refine(O1.o _).mono ?_
     rintro r u ⟨v1,rfl,N1,hb⟩
     try have N2:=ak (N2.o.below hb)
     have BB:=ak (BB.o.trans (hb.mono BB.o.size));have kS:=bA (H4.o.2.1.below BB.o (by have:=H4.o.r5;omega)).four.2.2.2 (H4.o.r2.1.below BB.o (by have:=H4.o.r5;omega)).four.2.2.2;have N1:=ak N1
     clear hb)
  | (go_at_call 95
     with_reducible refine(O2.o _).mono ?_
     rintro r u ⟨v2,rfl,N2,hb⟩
     try have N1:=ak (N1.o.below hb)
     have BB:=ak (BB.o.trans (hb.mono BB.o.size));have kS:=bA (H4.o.2.1.below BB.o (by have:=H4.o.r5;omega)).four.2.2.2 (H4.o.r2.1.below BB.o (by have:=H4.o.r5;omega)).four.2.2.2;have N2:=ak N2
     clear hb)
  | (go_at_call 127
     with_reducible refine(Z0 N1.o N2.o hpw2.o.1 hpw2.o.2 MS.o.1).mono ?_
     rintro r u ⟨v,rfl,NV,hb⟩;have NV:=bA NV BB.o.size;have BB:=ak (BB.o.trans (hb.mono BB.o.size));have kS:=bA (H4.o.2.1.below BB.o (by have:=H4.o.r5;omega)).four.2.2.2 (H4.o.r2.1.below BB.o (by have:=H4.o.r5;omega)).four.2.2.2
     clear hb))
 all_goals (
  obtain⟨a,c,rfl,_⟩:=NV.o.1.arg (dB MS.o.2 aM);have Z:=ak (H4.o.1.below BB.o (by have:=H4.o.r4.1;have:=H4.o.r5;omega));obtain⟨z0,z1,z2,z3⟩:=Z.o.four;have g0:=Z.o.frozen 0;have g1:=Z.o.frozen 1;have g2:=Z.o.frozen 2;have g3:=Z.o.frozen 3;have p2:=(H4.o.2.1.below BB.o (by have:=H4.o.r5;omega)).four.2.2.1;have r2:=(H4.o.r2.1.below BB.o (by have:=H4.o.r5;omega)).four.2.2.1;have BW:=ak (H4.o.r3.1.trans (BB.o.mono H4.o.r3.1.size));clear kS BB N1 N2;go_wp2;obtain⟨w5,nO⟩:=ah (((((u.setCell ⟨w.heap.size,0,none⟩ (.int .i64 0)).setCell ⟨w.heap.size,1,none⟩ (.bool ng)).setCell ⟨w.heap.size,2,none⟩ (.slice a (ws (f1*f2)).length c)).setCell ⟨w.heap.size,3,none⟩ (.int .i64 (x1+x2+2148))));rw[<-nO];have q:Bl w5 w.heap.size 203 [.int .i64 0,.bool ng,.slice a (ws (f1*f2)).length c,.int .i64 (x1+x2+2148)]:=by rw[nO];exact FU Z.o
  have qb:An w w5:=by rw[nO];exact jd BW.o BW.o.size (aA _)
  have qn:=NV.o.1.RP (w':=w5) (g:=w.heap.size) (by rw[nO];exact((((But.refl _ u).set 0 _).set 1 _).set 2 _).set 3 _) (by have:=NV.o.2;have:=H4.o.r4.1;have:=H4.o.r5;omega);clear nO;obtain⟨q0,q1,q2,q3⟩:=q.four;refine aH (v:=.agg #[.int .i64 0,.bool ng,.slice a (ws (f1*f2)).length c,.int .i64 (x1+x2+2148)]) (by simp[results,Tryz.results203,go_sem,q0,q1,q2,q3]) rfl ?_;rw[<-HG.o.1,<-HG.o.2.1,<-HG.o.r2,LB HK.o,HK.o];obtain⟨a',c',e,AV⟩:=qn.arg (dB MS.o.2 aM)
  cases e
  refine⟨_,rfl,⟨ng,a,_,c,(x1+x2+2148).toNat,ws (f1*f2),λad e=>?_,?_,AV,?_,?_⟩,qb⟩
  . subst e;have h1:=(qn.lt ad.block rfl).1;have:=NV.o.2;have:=H4.o.r4.1;have:=H4.o.r5;omega
  . rw[Int.toNat_of_nonneg ae];rfl
  . have:=MS.o.2;omega
  . rw[aB])
theorem LC(s:Bool)(e f:Nat)(he:e<2048)(hf:f<4503599627370496):Di (B.bw s e f) (B.ng s e f) (B.cls e f) (B.xp e) (B.fr e f).toNat:=λw =>
 (B.nz s e f he hf w).mono λr w' ⟨h1,h2⟩=>⟨by rw[h1,Int.toNat_of_nonneg];unfold B.fr;split <;> (try split) <;> omega,h2⟩
theorem nC(e:Nat)(he:e<2048):-1074<=B.xp e/\B.xp e<=971:=by unfold B.xp;split <;> (try split) <;> omega
theorem nD(e f:Nat)(hf:f<4503599627370496):(B.fr e f).toNat<9007199254740992:=by unfold B.fr;split <;> (try split) <;> omega
end
end Go.Proofs.YtjppdacikihpdaaGreatDoor
