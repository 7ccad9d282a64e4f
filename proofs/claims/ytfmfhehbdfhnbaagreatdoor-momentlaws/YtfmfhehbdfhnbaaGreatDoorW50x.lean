import Derived.Test.YtfmfhehbdfhnbaaGreatDoorW25x
import Derived.Test.YtfmfhehbdfhnbaaGreatDoorBIeeex
import Derived.Laws.StructEq
set_option linter.unusedVariables false
set_option linter.unusedSimpArgs false
set_option maxHeartbeats 16000000
set_option maxRecDepth 20000
namespace Go.Proofs.YtfmfhehbdfhnbaaGreatDoor
section
open Go.RowKit
theorem Iy(P x Y B:Nat)(hY:0<Y):(x+B*P)/Y=(x+B*(P%Y))/Y+B*(P/Y)/\(x+B*P)%Y=(x+B*(P%Y))%Y:=by
 have h:=qh P Y
 have e:x+B*P=(x+B*(P%Y))+Y*(B*(P/Y)):=by
  conv=>lhs;rw[<-h]
  rw[kz,<-aM,cu B Y,aM];omega
 rw[e];exact⟨tq _ _ hY,Cy _ _ _⟩
theorem EN(P x Y B:Nat)(hY:0<Y)(hx:x<B):x+B*(P%Y)<Y*B:=by
 have h:=lU P hY;have h1:B*(P%Y+1)<=B*Y:=iw _ h;rw[kz] at h1;rw[cu Y];omega
theorem Di(M:List Nat)(k d:Nat)(hk:k<M.length):val ((M.set k d).drop k)=d+4294967296*val (M.drop (k+1)):=by
 rw[fD _ k (by simpa using hk),jr _ _ _ hk];rw[List.drop_set_of_lt ae]
theorem U8{w:World}{g:Nat}{x:Nat}(h:Own w g [x]):w.ownsRow g 51 1 (.slice (some ⟨g,0,none⟩) 1 1) 1 ([x].map U) :=
 ⟨aQ,.inr ⟨g,1,_,rfl,aC _,h,aC _,by unfold maxLen;omega,aQ,aQ⟩⟩
theorem Qu(w:World)(x:Nat):Own (w.alloc (.cells #[.int .u32 (x:Int)] 51)) w.heap.size [x]:=by
 unfold Own;rw[gY];rfl
set_option maxRecDepth 100000 in
theorem BO{w:World}{a b:Option Addr}{n c m d:Nat}{xs ys:List Nat}(h1:Arg w a n c xs)(h2:Arg w b m d ys)(hn:n<=35184372088000)(hm:m+1<=35184372088000)(hY:0<val ys) :
 Calls Tryz.prog 133 #[.slice a n c,.slice b m d] w fun r w'=>∃ v u,r=.returned (.tuple #[v,u])/\Nt w.heap.size w' v (val xs/val ys)/\Nt w.heap.size w' u (val xs%val ys)/\Below w.heap.size w w':=by
 obtain⟨W1,hW1⟩:=ah (w.alloc (.cells (madeCells #[.int .u32 0] n) 51));have oM:Own W1 w.heap.size (List.replicate n 0):=by rw[hW1];exact Own.made w n
 have hB1:Below w.heap.size w W1:=by rw[hW1];exact(aD _ _).alloc (aC _) _
 have hmk:=eF (n:Int) n rfl ae w;rw[<-hW1] at hmk;obtain⟨g,hg⟩:=ah (w.heap.size);rw[<-hg] at oM hmk hB1;obtain⟨Y,EO⟩:∃ Y,val ys=Y:=⟨_,rfl⟩;have yV:=bM ys h2.wf;rw[<-h2.len,EO] at yV;rw[EO] at hY |-;have hlen:=h1.len;have HX:=(nU h1 h2 EO yV hB1 hg hlen);have HO:=hid oM;clear h1 h2 EO yV hB1 oM hW1 hg hlen;go_enter Tryz.func133,Tryz.ntmps133;go_wp2
 go_loopg [7,8] n (fun k rv iv wr=>∃ (M:List Nat),k<=n/\iv=.int .i64 ((k:Int)-1)/\Hid (Own wr g M) /\
  Aside (Wf M/\M.length=n/\(∀ j,j<k->M.getD j 0=0)/\val (M.drop k)=val (xs.drop k)/Y/\Below g w wr/\Nt (g+1) wr rv (val (xs.drop k)%Y)))
 case atStart =>
  obtain⟨h1,h2,EO,yV,hB1,hg,hlen⟩:=HX.o;refine⟨List.replicate n 0,aC _,by first | rfl | go_num,HO,Wf.zeros _,aQ,fun j _=>yJ _ _,?_,hB1,?_⟩
  · rw[Bj aQ,Bj ae];simp[val]
  · rw[Bj ae];simp only[val,Nat.zero_mod];exact Nt.nil _ _
 case round =>
  obtain⟨M,hk,rfl,HM,HA⟩:=hrel
  by_cases hk0:gk=0
  · subst hk0;obtain⟨dQ,iF,BP,Al,hbel,Eh⟩:=HA.o;rw[List.drop_zero,List.drop_zero] at Al;rw[List.drop_zero] at Eh;have T:=hid (kH M (some ⟨g,0,none⟩) n n (g+1) wr iF.symm (aC _) ae dQ (by simpa [iF,iR] using Rd.iA HM.o 0 n) (fun e=>by cases e));rw[Al] at T;have S:=(aP hbel Eh);have hgl:=HM.o.lt;clear dQ iF BP Al hbel Eh;go_wp2_with fail;refine T.o.mono ?_;rintro r u1 ⟨v,rfl,hN,hb⟩;have S2:=(aP hN hb);clear hN hb;go_wp2
    go_ret2
    obtain⟨hN,hb⟩:=S2.o;obtain⟨hbel,Eh⟩:=S.o;obtain⟨h1,h2,EO,yV,hB1,hg,hlen⟩:=HX.o;rw[<-hg];exact⟨v,_,rfl,hN.mono ae,(Eh.below hb).mono ae,hbel.trans (hb.mono ae)⟩
  · obtain⟨k,rfl⟩:∃ k,gk=k+1:=⟨gk-1,ae⟩;obtain⟨h1,h2,EO,yV,hB1,hg,hlen⟩:=HX.o;obtain⟨dQ,iF,BP,Al,hbel,Eh⟩:=HA.o;have hgl:=HM.o.lt;obtain⟨ba,off,hBa,rfl,hcell⟩:=h1.rd (by intro e;subst e;simp at hlen;omega);have Pe:wr.cell? ⟨ba,off+k,none⟩=some (.int .u32 ((xs.getD k 0:Nat):Int)):=(hbel.cell (p:=⟨ba,off+k,none⟩) (by simp;omega)).trans (hcell k ae);obtain⟨x,hx⟩:∃ x,xs.getD k 0=x:=⟨_,rfl⟩;have hxl:x<4294967296:=hx ▸ h1.wf.get k;rw[hx] at Pe;obtain⟨P,hP⟩:∃ P,val (xs.drop (k+1))=P:=⟨_,rfl⟩;have hds:=fD xs k ae;rw[hx,hP] at hds;rw[hP] at Al Eh;obtain⟨st1,st2⟩:=Iy P x Y 4294967296 hY;rw[<-hds] at st1 st2;have hdl:=EN P x Y 4294967296 hY hxl;obtain⟨R,hR⟩:∃ R,P%Y=R:=⟨_,rfl⟩;have uW:R<Y:=hR ▸ lU _ hY;rw[hR] at st1 st2 hdl Eh;obtain⟨Z,hZ⟩:∃ Z,x+4294967296*R=Z:=⟨_,rfl⟩;rw[hZ] at st1 st2 hdl;have hwR:(ws R).length<=m:=(aW R m).2 ae;have hZp:Z<pw (m+1):=by rw[cO];rw[cu Y] at hdl;omega
    have hwZ:(ws Z).length<=m+1:=(aW Z (m+1)).2 hZp;obtain⟨ar,cr,rfl,AR⟩:=Eh.arg ae;have hLO:=Qu wr x;obtain⟨v',w2,hap,hown,hgrow⟩:=mg (wr.alloc (.cells #[.int .u32 (x:Int)] 51)) wr.heap.size (.slice (some ⟨wr.heap.size,0,none⟩) 1 1) 1 [x] (ws R) ar (ws R).length cr wr.heap.size 23 (U8 hLO) rfl (AR.rd.below (af wr _)) AR.nil ae aQ;have hb2:Below wr.heap.size wr w2:=(af wr _).grown hgrow aQ (fun k hk=>by simp[Value.ownBlock] at hk;omega);obtain⟨a2,c2,rfl,hc2,hl2,wC,EW⟩:=Rw.words hown;have hval:val ([x]++ws R)=Z:=by rw[<-hZ];simp[val,ak]
    have N1:=hid (kH ([x]++ws R) a2 (1+(ws R).length) c2 w2.heap.size w2 hl2 hc2 ae (Wf.append (Wf.cons hxl Wf.nil) (dP R)) EW wC);rw[hval] at N1;have Mj:=hid hap;have hs2:=hb2.size;have S1:=(Cs dQ iF BP Al (hbel.trans (hb2.mono ae)) (HM.o.below hb2 hgl) st1 st2 hdl hx);clear h1 h2 EO yV hB1 hg hlen dQ iF BP Al hbel Eh hcell hx hP hds st1 st2 hdl hR uW hZ hZp AR hLO hap hown hgrow hb2 hl2 wC EW hval HM HA
    go_wp2_with (at_builtin;refine dV rfl (.tmp 27) (.tmp 28) 23 rfl _ _ rfl rfl _ _ Mj.o ?_)
    refine N1.o.mono ?_;rintro r u3 ⟨v3,rfl,fV,hb3⟩;obtain⟨a3,c3,rfl,A3⟩:=fV.arg ae;obtain⟨dQ,iF,BP,Al,hbel,Mt,st1,st2,hdl,hx⟩:=S1.o;obtain⟨h1,h2,EO,yV,hB1,hg,hlen⟩:=HX.o;have hs3:=hb3.size;have EX:Below g w u3:=hbel.trans (hb3.mono ae);have hO3:=Mt.below hb3 ae;have U9:Below w.heap.size w u3:=hg ▸ EX
    by_cases hge:Y<=Z
    · obtain⟨z,hz⟩:∃ z,bJ Z Y=z:=⟨_,rfl⟩;have hz0:0<=z:=hz ▸ Kq hge;have C1:=hid (lg A3 (h2.below U9) z (by rw[ak,EO];exact hz));have S2:=(Cs dQ iF BP Al EX hO3 st1 st2 hdl fV);clear dQ iF BP Al hbel Mt st1 st2 hdl hx h1 h2 EO yV hB1 hg hlen EX hO3 U9 hb3 fV A3 hz S1 N1;go_wp2_with fail;refine C1.o.mono ?_;rintro r u4 ⟨rfl,hb4⟩;obtain⟨dQ,iF,BP,Al,hbel,Mt,st1,st2,hdl,fV⟩:=S2.o;obtain⟨h1,h2,EO,yV,hB1,hg,hlen⟩:=HX.o;have hs4:=hb4.size;have Qv:Below g w u4:=hbel.trans (hb4.mono ae);have hO4:=Mt.below hb4 ae;have hbw4:Below w.heap.size w u4:=hg ▸ Qv;have iX:=fV.below hb4;obtain⟨_,_,e4,A4⟩:=iX.arg ae
      cases e4
      have D0:=Ms A4 (h2.below hbw4) ae (by rw[ak,EO];exact hdl);rw[ak,EO] at D0;have hDl:Z/Y<4294967296:=Nat.div_lt_of_lt_mul hdl;have hmd:=Nat.mod_add_div Z Y;have hYD:Y*(Z/Y)<=Z:=ae
      have hwD:(ws (Y*(Z/Y))).length<=m+1:=by
       have h5:=(aW Z (m+1)).1 hwZ;exact(aW _ (m+1)).2 ae
      obtain⟨D,hD⟩:∃ D,Z/Y=D:=⟨_,rfl⟩;rw[hD] at D0 hDl hmd hYD hwD st1;have D1:=hid D0;have S3:=(Cs dQ iF BP Al Qv hO4 st1 st2 iX hmd);clear dQ iF BP Al hbel Mt st1 st2 hdl h1 h2 EO yV hB1 hg hlen Qv hO4 hbw4 hb4 fV iX A4 hmd hYD hD D0 S2 C1;go_wp2_with fail;refine D1.o.mono ?_;rintro r u5 ⟨v5,rfl,wX,hb5⟩;obtain⟨dQ,iF,BP,Al,hbel,Mt,st1,st2,iX,hmd⟩:=S3.o;have hs5:=hb5.size;have yX:Below g w u5:=hbel.trans (hb5.mono ae);have Kj:=Mt.below hb5 ae;have hgc:=Kj.cell k ae;have hgf:=Kj.frozen k;have hbt:But g u5 (u5.setCell ⟨g,k,none⟩ (.int .u32 (D:Nat))):=(But.refl g u5).set k _;have De:=(iX.below hb5).but hbt ae;have hN7:=wX.but hbt ae;obtain⟨_,_,e6,A6⟩:=De.arg ae
      cases e6
      obtain⟨a7,c7,rfl,A7⟩:=hN7.arg ae;have M1:=hid (si (V:=Z%Y) A6 A7 ae ae (by rw[ak,ak];exact hmd));have S4:=(XP dQ iF BP Al yX Kj st1 st2 hbt);clear dQ iF BP Al hbel Mt st1 st2 iX hmd yX Kj hbt De hN7 A6 A7 wX hb5 S3 D1;go_wp2_with fail;refine M1.o.mono ?_;rintro r u8 ⟨v8,rfl,G9,Ei⟩;have S5:=(aP G9 Ei);clear G9 Ei M1;go_wp2;go_roundg k
      case measure=>omega
      case rel =>
       obtain⟨dQ,iF,BP,Al,hbel,Mt,st1,st2,hbt⟩:=S4.o;obtain⟨G9,Ei⟩:=S5.o;have hs8:=Ei.size;have hss:(u5.setCell ⟨g,k,none⟩ (.int .u32 (D:Nat))).heap.size=u5.heap.size:=by simp[World.setCell]
       refine⟨M.set k D,ae,by first | go_num | (congr 1;omega),(Mt.set k D).below Ei ae,dQ.set _ _ hDl,by simp[iF],?_,?_,?_,?_⟩
       · intro j hj;rw[getD_set_ne _ _ _ _ ae];exact BP j ae
       · rw[Di M k D ae,Al,st1]
       · exact(But.below hbel hbt ae (aC _)).trans (Ei.mono ae)
       · rw[st2];exact G9.mono ae
    · have hz:bJ Z Y=-1:=o6 ae;have C1:=hid (lg A3 (h2.below U9) (-1) (by rw[ak,EO];exact hz));have S2:=(YF dQ iF BP Al EX hO3 st1 st2 hdl fV hlen);clear dQ iF BP Al hbel Mt st1 st2 hdl hx h1 h2 EO yV hB1 hg hlen EX hO3 U9 hb3 fV A3 hz S1 N1;go_wp2_with fail;refine C1.o.mono ?_;rintro r u4 ⟨rfl,hb4⟩;have S3:=aA hb4;clear hb4 C1;go_wp2;go_roundg k
      case measure=>omega
      case rel =>
       obtain⟨dQ,iF,BP,Al,hbel,Mt,st1,st2,hdl,fV,hlen⟩:=S2.o;have hb4:=S3.o;refine⟨M,ae,by first | go_num | (congr 1;omega),Mt.below hb4 ae,dQ,iF,fun j hj=>BP j ae,?_,hbel.trans (hb4.mono ae),?_⟩
       · rw[fD M k ae,BP k ae,Al,st1,iN (show Z<Y by omega)]
       · rw[st2,nk (show Z<Y by omega)];exact(fV.below hb4).mono ae
theorem Qw(w:World)(a b:Nat)(ha:a<4294967296)(hb:b<4294967296):Arg (w.alloc (.cells #[.int .u32 (a:Int),.int .u32 (b:Int)] 51)) (some ⟨w.heap.size,0,none⟩) 2 2 [a,b]:=by
 refine⟨rfl,aC _,ae,Wf.cons ha (Wf.cons hb Wf.nil),fun _=>⟨w.heap.size,0,aQ,rfl,fun i hi=>?_⟩,fun e=>by cases e⟩;have hi2:i=0\/i=1:=by simp at hi;omega
 unfold World.cell?;simp only[gY];rcases hi2 with rfl|rfl <;> rfl
theorem xR(x:Nat)(w:World)(hx:x<18446744073709551616) :
 Calls Tryz.prog 55 #[.int .u64 (x:Nat)] w fun r w'=>∃ v,r=.returned v/\Nt w.heap.size w' v x/\Below w.heap.size w w':=by
 obtain⟨a,ha⟩:=ah (x%4294967296);obtain⟨b,hb⟩:=ah (x/4294967296);have e1:(x:Int)%4294967296=(a:Int):=ae
 have e2:(x:Int)/4294967296=(b:Int):=ae
 have e3:(b:Int)%4294967296=(b:Int):=ae
 have N1:=hid (BN (V:=x) (Qw w a b ae ae) (by simp[val];omega));have hb3:b<4294967296:=ae
 clear ha hb;go_enter Tryz.func55,Tryz.ntmps55;go_wp2_with fail;refine N1.o.mono ?_;rintro r u1 ⟨v,rfl,hN,hbl⟩;have S:=(aP hN hbl);clear hN hbl;go_wp2;go_ret;exact⟨v,rfl,S.o.1.mono aQ,(af w _).trans (S.o.2.mono aQ)⟩
theorem tT(X:Nat)(h:X≠0):∃ m,X=2^lo X*(2*m+1):=by
 have key:∀ Y:Nat,Y≠0->∃ i m,Y=2^i*(2*m+1):=by
  intro Y
  induction Y using Nat.strongRecOn with
  | ind Y ih =>
    intro hY;rcases Ho Y with h0|h1
    · obtain⟨i,m,e⟩:=ih (Y/2) ae ae;refine⟨i+1,m,?_⟩;rw[fC,cu (2^i) 2,aM,<-e];omega
    · exact⟨0,Y/2,ae⟩
 obtain⟨i,m,e⟩:=key X h;refine⟨m,?_⟩;rw[e,Kh]
theorem Y4(X:Nat)(h:X≠0):X/2^lo X%2=1:=by
 obtain⟨m,e⟩:=tT X h;generalize lo X=i at e;rw[e,Bh _ (pW ae)];omega
theorem Va(X j:Nat)(h:X≠0)(hj:j<lo X):X/2^j%2=0:=by
 obtain⟨m,e⟩:=tT X h;generalize lo X=i at e hj;obtain⟨d,rfl⟩:∃ d,i=j+(d+1):=⟨i-j-1,ae⟩;rw[e,aJ,aM,Bh _ (pW ae),fC,cu (2^d) 2,aM];omega
theorem Qx(X:Nat)(h:X≠0)(n:Nat)(hp:X<pw n):lo X<32*n:=by
 obtain⟨m,e⟩:=tT X h;rcases jK (lo X) (32*n) with h1|h1
 · exact h1
 · exfalso;have h2:2^(32*n)<=2^lo X:=fe ae h1;have h3:pw n=2^(32*n):=by unfold pw;rw[kD]
   have h4:2^lo X*1<=2^lo X*(2*m+1):=iw _ ae;omega
theorem Qy(xs:List Nat)(ao:Option Addr)(n cap B:Nat)(w:World)(hn:n=xs.length)(hm:n<=70368744177664)(hx:Wf xs)(hR:Rd B w ao xs) :
 Calls Tryz.prog 96 #[.slice ao n cap] w fun r w'=>r=.returned (.int .i64 (lo (val xs):Nat))/\w'=w:=by
 have H:=hid (qz xs ao n cap B w hn ae hR)
 by_cases h0:val xs=0
 · rw[h0,CX];rw[(jN xs).2 h0] at H;clear hn hx hR h0;go_enter Tryz.func96,Tryz.ntmps96;go_wp2_with fail;refine H.o.mono ?_;rintro r w1 ⟨rfl,rfl⟩;go_wp2;go_ret;exact⟨rfl,rfl⟩
 · have hnl:nl xs≠0:=fun e=>h0 ((jN xs).1 e);have hv:=bM xs hx;rw[<-hn] at hv;have hlt:=Qx _ h0 n hv;obtain⟨k,hk⟩:∃ k,nl xs=k:=⟨_,rfl⟩;rw[hk] at H hnl;obtain⟨L,hL⟩:∃ L,lo (val xs)=L:=⟨_,rfl⟩;have hb1:=Y4 _ h0;have hb0:=Va (val xs) (h:=h0);rw[hL] at hb1 hb0 hlt |-
   have BT:Hid (∀ i:Nat,i<=9223372036854775807->∀ w1,w1=w->Calls Tryz.prog 132 #[.slice ao n cap,.int .i64 (i:Int)] w1 fun r w'=>r=.returned (.bool (decide (val xs/2^i%2=1)))/\w'=w1):=by
    intro i hi w1 hw;subst hw;exact Qs xs ao n cap B i w1 hn hx hR hi
   have HB:=(aP hb1 hb0);clear hb1 hb0 hn hx hR h0 hv hk hL;go_enter Tryz.func96,Tryz.ntmps96;go_wp2_with fail;refine H.o.mono ?_;rintro r w1 ⟨rfl,rfl⟩;have hkf:((k:Int)==0)=false:=by simp;omega
   go_wp2
   go_loopg [3] L (fun gk iv wr=>∃ (i:Nat),gk+i=L/\iv=.int .i64 (i:Nat)/\wr=w1)
   case atStart=>exact⟨0,ae,rfl,rfl⟩
   case round =>
    obtain⟨i,hi,rfl,rfl⟩:=hrel;have B1:=BT.o i ae _ rfl
    by_cases hiL:i=L
    · subst hiL;obtain rfl:gk=0:=ae
      rw[HB.o.1] at B1;have B2:=hid (show Calls Tryz.prog 132 #[.slice ao n cap,.int .i64 (i:Int)] wr fun r w'=>r=.returned (.bool true)/\w'=wr from B1);clear B1;go_wp2_with fail;refine B2.o.mono ?_;rintro r w2 ⟨rfl,rfl⟩;exact XS
    · rw[HB.o.2 i ae] at B1;have B2:=hid (show Calls Tryz.prog 132 #[.slice ao n cap,.int .i64 (i:Int)] wr fun r w'=>r=.returned (.bool false)/\w'=wr from B1);clear B1;go_wp2_with fail;refine B2.o.mono ?_;rintro r w2 ⟨rfl,rfl⟩;go_wp2;go_roundg (gk-1)
      case measure=>omega
      case rel=>exact⟨i+1,ae,by first | go_num | (congr 1;omega),rfl⟩
theorem tV{w:World}{g:Nat}{L:List Nat}(h:Own w g L)(hm:L.length<=35184372088832):w.ownsRow g 51 1 (.slice (some ⟨g,0,none⟩) L.length L.length) L.length (L.map U) :=
 ⟨aQ,.inr ⟨g,L.length,_,rfl,aC _,h,aC _,by unfold maxLen;omega,aQ,by simp[iR]⟩⟩
theorem Arg.drew'{w:World}{a:Option Addr}{n c:Nat}{xs:List Nat}(h:Arg w a n c xs):Arg w.drew a n c xs:=⟨h.len,h.cap,h.big,h.wf,h.rd,h.nil⟩
theorem uY(r:Nat)(hr:r<32):2^r<4294967296:=by
 have:2^r<=2^31:=fe ae ae;omega
theorem Qbe{P:Prop}(h:P:=by
 have:pw q=2^(32*q):=by unfold pw;rw[kD]
 rw[this,<-aJ];congr 1;omega):P:=h
theorem Qae{P:Prop}(h:P:=by
 have h5:((2^s:Nat):Int)=(2:Int)^s:=by simp
 rw[<-h5,<-hp]):P:=h
theorem Qz{w:World}{a:Option Addr}{l c:Nat}{X:Nat}(k:Nat)(h1:Arg w a l c (ws X))(hl:l<=2000000)(hk:k<=64000000) :
 Calls Tryz.prog 97 #[.slice a l c,.int .i64 (k:Nat)] w fun r w'=>∃ v,r=.returned v/\Nt w.heap.size w' v (X*2^k)/\Below w.heap.size w w':=by
 obtain⟨q,hq⟩:=ah (k/32);obtain⟨s,hs⟩:=ah (k%32);have e1:(k:Int)/32=(q:Int):=ae
 have e2:(k:Int)%32=(s:Int):=ae
 have hqb:q<=2000000:=ae
 have QA:s<32:=ae
 obtain⟨W1,hW1⟩:=ah (w.alloc (.cells (madeCells #[.int .u32 0] q) 51));have oM:Own W1 w.heap.size (List.replicate q 0):=by rw[hW1];exact Own.made w q
 have hB1:Below w.heap.size w W1:=by rw[hW1];exact(aD _ _).alloc (aC _) _
 have hmk:=eF (q:Int) q rfl ae w;rw[<-hW1] at hmk;have hR:=tV oM (by simp;omega);simp only[yz] at hR;have A1:=h1.below hB1;obtain⟨v',w2,hap,hown,hgrow⟩:=mg W1 w.heap.size _ q (List.replicate q 0) (ws X) a l c W1.heap.size 23 hR A1.len A1.rd A1.nil ae hB1.size;have hB2:Below w.heap.size w w2:=hB1.grown hgrow hB1.size (fun k hk=>by simp[Value.ownBlock] at hk;omega);obtain⟨a2,c2,rfl,hc2,hl2,wC,EW⟩:=Rw.words hown;have AO:Arg w2 a2 (q+l) c2 (List.replicate q 0++ws X):=⟨hl2,hc2,ae,(Wf.zeros q).append (dP X),EW,wC⟩
 have hval:val (List.replicate q 0++ws X)=X*pw q:=by
  rw[val_append,qM,ak,yz,eP,cu]
 have hpw:pw q*2^s=2^k:=by
  exact Qbe
 have hps:=uY s QA;obtain⟨p,hp⟩:=ah (2^s)
 have e3:(2:Int)^s=(p:Int):=by
  exact Qae
 have hpl:p<4294967296:=ae
 have T1:=hid (mR (V:=X*2^k) (AO.below (af w2 _)) (qR w2 p ae) ae (by rw[hval];simp only[val];rw[<-hpw,hp,aM];simp));have Mj:=hid hap;have hs2:=hB2.size;have S1:=aA hB2;clear hap hown hgrow hB2 hl2 wC EW AO hval hpw A1 hR oM hB1 h1 hW1 hq hs hps hp;go_enter Tryz.func97,Tryz.ntmps97
 go_wp2_with (at_builtin;refine dV rfl (.tmp 39) (.tmp 40) 23 rfl _ _ rfl rfl _ _ Mj.o ?_)
 refine T1.o.mono ?_;rintro r u3 ⟨v3,rfl,fV,hb3⟩;have S2:=(aP fV hb3);clear fV hb3;go_wp2;go_ret;obtain⟨fV,hb3⟩:=S2.o;exact⟨v3,rfl,fV.mono (by simp;omega),S1.o.trans (((af w2 _).trans (hb3.mono aQ)).mono hs2)⟩
theorem Iz{w:World}{b off:Nat}{l c:Nat}{X:Nat}(k:Nat)(h1:Arg w (some ⟨b,off,none⟩) l c (ws X))(hl:l<=2000000)(hk0:0<k)(hk:k<=64000000)(hkl:k/32<l) :
 Calls Tryz.prog 97 #[.slice (some ⟨b,off,none⟩) l c,.int .i64 (-(k:Int))] w fun r w'=>∃ v,r=.returned v/\Nt w.heap.size w' v (X/2^k)/\Below w.heap.size w w':=by
 obtain⟨q,hq⟩:=ah (k/32);obtain⟨s,hs⟩:=ah (k%32);have e1:(k:Int)/32=(q:Int):=ae
 have e2:(k:Int)%32=(s:Int):=ae
 have hql:q<l:=ae
 have QA:s<32:=ae
 have hcl:=h1.cap;have hqc:¬ c=q:=ae
 obtain⟨p,hp⟩:=ah (2^s);have hps:=uY s QA
 have e3:(2:Int)^s=(p:Int):=by
  exact Qae
 have hpl:p<4294967296:=ae
 have hd1:decide (l<=q)=false:=decide_eq_false ae;have hd2:decide ((-(k:Int)) < -1099511627776)=false:=decide_eq_false ae;have hd3:decide ((l:Int)<=(q:Int))=false:=decide_eq_false ae
 have hvd:val ((ws X).drop q)=X/pw q:=by
  have h5:=gZ (ws X) q (by rw[<-h1.len];omega);have h6:=bM ((ws X).take q) ((dP X).take q);rw[ak] at h5;rw[ig,iO (by rw[<-h1.len];omega)] at h6;generalize val ((ws X).drop q)=Bv at h5 |-;generalize val ((ws X).take q)=Av at h5 h6;rw[h5,tq _ _ (lI q),iN h6,eP]
 have hpw:X/pw q/p=X/2^k:=by
  have h5:pw q=2^(32*q):=by unfold pw;rw[kD]
  rw[p9,h5,hp,<-aJ];congr 2;omega
 have Ik:(ws (X/pw q)).length<=2000000:=by
  have h5:X<pw l:=by rw[h1.len];exact iy X
  have h6:X/pw q<=X:=p8 _ _;have h7:=(aW (X/pw q) l).2 ae;omega
 have hp0:0<p:=by rw[hp];exact pW ae
 have XT:Hid (∀ u,Below w.heap.size w u->Calls Tryz.prog 95 #[.slice (some ⟨b,off+q,none⟩) (l-q) (c-q)] u fun r w'=>∃ v,r=.returned v/\Nt u.heap.size w' v (X/pw q)/\Below u.heap.size u w'):=by
  intro u hu;have h5:=kH ((ws X).drop q) (some ⟨b,off+q,none⟩) (l-q) (c-q) w.heap.size u (by rw[sZ,<-h1.len]) ae ae ((dP X).drop q) ((h1.rd.drop q).below hu) (fun e=>by cases e);rw[hvd] at h5;exact h5
 have HP:=(aP hpw Ik);have e7:IntKind.i64.wrap (k:Int)=(k:Int):=by simp[IntKind.wrap,IntKind.bits,IntKind.signed] <;> omega
 have e8:(k:Int).tmod 32=(s:Int):=by rw[Hq ae];exact e2
 have e6:IntKind.u32.wrap (p:Int)=(p:Int):=by simp[IntKind.wrap,IntKind.bits,IntKind.signed] <;> omega
 clear h1 hq hs hp hvd hpw Ik hps;go_enter Tryz.func97,Tryz.ntmps97;go_wp2
 go_region_with (first
  | (go_at_call 95
     refine(XT.o _ ((aD _ _).drew)).mono ?_;rintro r u1 ⟨v1,rfl,hN1,hb1⟩;obtain⟨a1,c1,rfl,A1⟩:=hN1.arg (by have:=HP.o.2;omega);have hbw:Below w.heap.size w u1:=((aD w.heap.size w).drew).trans (hb1.mono (aC _));have S1:=(aP hbw A1)
     clear hN1 hb1 A1 hbw)
  | (go_at_call 95
     refine(XT.o _ ((af w _).drew)).mono ?_;rintro r u1 ⟨v1,rfl,hN1,hb1⟩;obtain⟨a1,c1,rfl,A1⟩:=hN1.arg (by have:=HP.o.2;omega);have hbw:Below w.heap.size w u1:=((af w _).drew).trans (hb1.mono aQ);have L1:=aA ((Arg.drew' (qR w p hpl)).below hb1);have S1:=(aP hbw A1)
     clear hN1 hb1 A1 hbw)
  | (go_at_call 133
     refine(BO S1.o.2 L1.o (by have:=HP.o.2;omega) ae (by simp[val];exact hp0)).mono ?_;rintro r u2 ⟨v2,v3,rfl,kQ,fV,hb2⟩;have hbw:Below w.heap.size w u2:=S1.o.1.trans (hb2.mono S1.o.1.size);have hNw:=kQ.mono (lo':=w.heap.size) S1.o.1.size;have S2:=(aP hNw hbw)
     clear kQ fV hb2 hbw hNw)
  | (go_at_call 133
     refine(BO (S1.o.2.below (af u1 _)) (qR u1 p hpl) (by have:=HP.o.2;omega) ae (by simp[val];exact hp0)).mono ?_;rintro r u2 ⟨v2,v3,rfl,kQ,fV,hb2⟩;have hbw:Below w.heap.size w u2:=S1.o.1.trans (((af u1 _).trans (hb2.mono aQ)).mono S1.o.1.size);have hNw:=kQ.mono (lo':=w.heap.size) (by have:=S1.o.1.size;simp;omega);have S2:=(aP hNw hbw)
     clear kQ fV hb2 hbw hNw))
 all_goals (
  go_wp2;go_ret;obtain⟨kQ,hb2⟩:=S2.o;have e5:val [p]=p:=by simp[val]
  rw[ak,e5,HP.o.1] at kQ
  exact⟨v2,rfl,kQ,hb2⟩)
theorem Mv(a:Option Addr)(l c k:Nat)(w:World)(hl:l<=2000000)(hk:k<=9223372036854775807)(hk0:0<k)(hkl:l<=k/32) :
 Calls Tryz.prog 97 #[.slice a l c,.int .i64 (-(k:Int))] w fun r w'=>r=.returned (.slice none 0 0)/\w'=w:=by
 obtain⟨q,hq⟩:=ah (k/32);have e1:(k:Int)/32=(q:Int):=ae
 have e7:IntKind.i64.wrap (k:Int)=(k:Int):=by simp[IntKind.wrap,IntKind.bits,IntKind.signed] <;> omega
 have hql:l<=q:=ae
 clear hq hkl;go_enter Tryz.func97,Tryz.ntmps97;go_wp2;go_ret;exact⟨rfl,rfl⟩
theorem EY(a:Option Addr)(l c:Nat)(w:World)(hl:l<=2000000) :
 Calls Tryz.prog 97 #[.slice a l c,.int .i64 (-9223372036854775808)] w fun r w'=>r=.returned (.slice none 0 0)/\w'=w:=by
 go_enter Tryz.func97,Tryz.ntmps97;go_wp2
 all_goals (
  go_ret
  exact⟨rfl,rfl⟩)
theorem yY(X k l:Nat)(h:X<pw l)(hk:32*l<=k):X/2^k=0:=by
 apply iN;have h1:pw l=2^(32*l):=by unfold pw;rw[kD]
 have h2:2^(32*l)<=2^k:=fe ae hk;omega
theorem Nt.some{lo:Nat}{w:World}{v:Value}{X:Nat}(h:Nt lo w v X)(hX:X≠0):∃ g c,v=.slice (some ⟨g,0,none⟩) (ws X).length c:=by
 rcases h.2 with ⟨_,h0⟩|⟨g,cap,cur,rfl,_⟩
 · exact absurd ((bU X).1 h0) hX
 · exact⟨g,cap,rfl⟩
theorem qU{w:World}{v:Value}{X lo:Nat}(hN:Nt lo w v X)(by':Int)(hb0:-9223372036854775808<=by')(hb1:by'<=64000000)(hX:X≠0)(hl:(ws X).length<=2000000) :
 Calls Tryz.prog 97 #[v,.int .i64 by'] w fun r w'=>∃ v,r=.returned v/\Nt w.heap.size w' v (if by'<0 then X/2^(-by').toNat else X*2^by'.toNat)/\Below w.heap.size w w':=by
 obtain⟨g,c,rfl⟩:=hN.some hX;obtain⟨_,_,e,A⟩:=hN.arg ae
 cases e
 by_cases h:by'<0
 · rw[if_pos h]
   by_cases hmin:by'=-9223372036854775808
   · subst hmin;rw[yY X _ (ws X).length (iy X) ae];exact(EY _ _ _ w hl).mono fun r w' ⟨h1,h2⟩=>⟨_,h1,Nt.nil _ _,by rw[h2];exact aD _ _⟩
   · obtain⟨k,hk⟩:∃ k:Nat,by'=-(k:Int):=⟨(-by').toNat,ae⟩
     subst hk;rw[show(- -(k:Int)).toNat=k by omega]
     by_cases hkl:k/32<(ws X).length
     · exact Iz k A hl ae ae hkl
     · rw[yY X k (ws X).length (iy X) ae];exact(Mv _ _ _ k w hl ae ae ae).mono fun r w' ⟨h1,h2⟩=>⟨_,h1,Nt.nil _ _,by rw[h2];exact aD _ _⟩
 · rw[if_neg h];obtain⟨k,hk⟩:∃ k:Nat,by'=(k:Int):=⟨by'.toNat,ae⟩
   subst hk;rw[show((k:Int)).toNat=k by omega];exact Qz k A hl ae
def mkS(neg:Bool)(X:Nat)(e:Int):Option (Bool×Nat×Int) :=
 if X=0 then some (false,0,0)
 else if 262144<bl X-lo X\/1048576-(lo X:Int)<e\/e < -1048576-(lo X:Int) then none
 else some (neg,X/2^lo X,e+lo X)
def dN(o:Option (Bool×Nat×Int)):Bool:=(o.getD (false,0,0)).1
def dX(o:Option (Bool×Nat×Int)):Nat:=(o.getD (false,0,0)).2.1
def dE(o:Option (Bool×Nat×Int)):Int:=(o.getD (false,0,0)).2.2
def o7(o:Option (Bool×Nat×Int)):Int:=if o.isSome then 0 else 2
theorem wD(X m:Nat):m<bl X↔2^m<=X:=by
 constructor
 · intro h;have h0:X≠0:=by rintro rfl;rw[dZ] at h;omega
   exact dW (fe ae (by omega:m<=bl X-1)) (iU X h0)
 · intro h;exact(ku ae).1 (iP h (iT X))
theorem IC(X k m:Nat)(hm:m=32*k):k<(ws X).length↔m<bl X:=by
 rw[wD,hm,kD];have h:=aW X k;unfold pw at h;rw[show(2:Nat)^32=4294967296 from rfl];generalize 4294967296^k=P at h |-;omega
theorem wE(X:Nat):LG X↔262144<bl X:=IC X 8192 262144 rfl
theorem sj(k Y:Nat)(h:Y≠0):bl (2^k*Y)=k+bl Y:=by
 have h1:=iT Y;have h2:=iU Y h;have h3:=eu Y h;have e:k+bl Y=(k+(bl Y-1))+1:=ae
 rw[e];apply Ez
 · rw[aJ];exact iw _ h2
 · rw[show k+(bl Y-1)+1=k+bl Y by omega,aJ];exact rG h1 (aZ k)
theorem jb(X:Nat)(h:X≠0):∃ m,X=2^lo X*(2*m+1)/\X/2^lo X=2*m+1/\bl X=lo X+bl (X/2^lo X):=by
 obtain⟨m,hm⟩:=tT X h
 have e:X/2^lo X=2*m+1:=by
  obtain⟨k,hk⟩:∃ k,lo X=k:=⟨_,rfl⟩;rw[hk] at hm |-;rw[hm,Bh _ (aZ k)]
 refine⟨m,hm,e,?_⟩;rw[e];obtain⟨k,hk⟩:∃ k,lo X=k:=⟨_,rfl⟩;rw[hk] at hm |-;rw[hm];exact sj k _ ae
theorem Mw(X:Nat)(h:X≠0):lo (2*X)=lo X+1:=by
 obtain⟨m,hm⟩:=tT X h;obtain⟨k,hk⟩:∃ k,lo X=k:=⟨_,rfl⟩;rw[hk] at hm |-;have e:2*X=2^(k+1)*(2*m+1):=by rw[hm,fC];grind
 rw[e];exact Kh (k+1) m
theorem Mx(X:Nat)(h:X≠0):bl (2*X)=bl X+1:=by
 have:=sj 1 X h;rw[rM] at this;omega
theorem IE(n:Bool)(X:Nat)(e:Int):mkS n (2*X) e=mkS n X (e+1):=by
 unfold mkS
 by_cases h:X=0
 · subst h;simp
 · rw[if_neg ae,if_neg h,Mw X h,Mx X h]
   have e1:2*X/2^(lo X+1)=X/2^lo X:=by
    rw[fC,cu (2^lo X) 2,Nat.mul_div_mul_left _ _ ae]
   rw[e1];have e2:(262144<bl X+1-(lo X+1)\/1048576-((lo X+1:Nat):Int)<e\/e < -1048576-((lo X+1:Nat):Int))↔(262144<bl X-lo X\/1048576-(lo X:Int)<e+1\/e+1 < -1048576-(lo X:Int)):=ae
   by_cases h2:262144<bl X-lo X\/1048576-(lo X:Int)<e+1\/e+1 < -1048576-(lo X:Int)
   · rw[if_pos h2,if_pos (e2.2 h2)]
   · rw[if_neg h2,if_neg (fun h3=>h2 (e2.1 h3))];congr 3;omega
theorem fq(n:Bool)(e:Int):mkS n 0 e=some (false,0,0):=by unfold mkS;rw[if_pos rfl]
theorem Vb(X:Nat)(h:X%2=1):lo X=0:=by
 have:=PV (X/2);rw[show 2*(X/2)+1=X by omega] at this;exact this
theorem Kr(n:Bool)(X:Nat)(e:Int)(h:X%2=1):mkS n X e=if 262144<bl X\/1048576<e\/e < -1048576 then none else some (n,X,e):=by
 have h0:X≠0:=ae
 unfold mkS;rw[if_neg h0,Vb X h];simp only[Nat.sub_zero,gK,wm]
 by_cases h2:262144<bl X\/1048576<e\/e < -1048576
 · rw[if_pos h2,if_pos ae]
 · rw[if_neg h2,if_neg ae];congr 3;omega
structure o8 (n:Bool) (X:Nat) (e:Int):Prop where
 odd:X%2=1\/(X=0/\n=false/\e=0)
 size:bl X<=262144
 up:e<=1048576
 down:-1048576<=e
theorem cK{n n':Bool}{X Y:Nat}{e f:Int}(h:mkS n X e=some (n',Y,f)):o8 n' Y f:=by
 unfold mkS at h
 split at h
 · cases h
   exact⟨.inr ⟨rfl,rfl,rfl⟩,by rw[dZ];omega,ae,ae⟩
 · next h0 =>
   split at h
   · cases h
   · next h1 =>
     obtain⟨m,hm,e1,hb⟩:=jb X h0
     cases h
     refine⟨.inl (by rw[e1];omega),ae,ae,ae⟩
theorem o8.self{n:Bool}{X:Nat}{e:Int}(h:o8 n X e):mkS n X e=some (n,X,e):=by
 rcases h.odd with h1|⟨rfl,rfl,rfl⟩
 · rw[Kr n X e h1,if_neg];have:=h.size;have:=h.up;have:=h.down;omega
 · exact fq _ _
theorem dS{n:Bool}{X:Nat}{e:Int}(h:o8 n X e):(ws X).length<=8192:=by
 have h1:=wE X;have h2:=h.size;unfold LG at h1;omega
theorem aR(n:Bool)(X:Nat)(e:Int):(ws (dX (mkS n X e))).length<=8192:=by
 unfold dX
 cases h:mkS n X e with
 | none=>simp[bO]
 | some d =>
   obtain⟨n',Y,f⟩:=d;exact dS (cK h)
theorem Vd(xs:List Nat)(ao:Option Addr)(n cap B i:Nat)(w:World)(hn:n=xs.length)(hm:n<=70368744177664)(hx:Wf xs)(hR:Rd B w ao xs)(hi:i<n) :
 Calls Tryz.prog 182 #[.slice ao n cap,.int .i64 (i:Nat)] w fun r w'=>r=.returned (.int .u32 ((xs.getD i 0:Nat):Int))/\w'=w:=by
 obtain⟨b,off,hb,rfl,hc⟩:=hR (by intro e;subst e;simp at hn;omega);have hcell:=hc i ae;obtain⟨x,hx2⟩:∃ x,xs.getD i 0=x:=⟨_,rfl⟩;rw[hx2] at hcell |-;have hi1:decide (n<=i)=false:=decide_eq_false ae;clear hc hx hn hx2;go_enter Tryz.func182,Tryz.ntmps182;go_wp2;go_ret;exact⟨rfl,rfl⟩
theorem EZ(xs:List Nat)(ao:Option Addr)(n cap:Nat)(i:Int)(w:World)(hn:n=xs.length)(hm:n<=70368744177664)(hi:i<0\/(n:Int)<=i) :
 Calls Tryz.prog 182 #[.slice ao n cap,.int .i64 i] w fun r w'=>r=.returned (.int .u32 0)/\w'=w:=by
 clear hn;rcases hi with h|h
 · go_enter Tryz.func182,Tryz.ntmps182;go_wp2;go_ret;exact⟨rfl,rfl⟩
 · have h0:decide (i<0)=false:=decide_eq_false ae;go_enter Tryz.func182,Tryz.ntmps182;go_wp2;go_ret;exact⟨rfl,rfl⟩
def wd(xs:List Nat)(i:Int):Nat:=if i<0 then 0 else xs.getD i.toNat 0
theorem XU(xs:List Nat)(hx:Wf xs)(i:Int):wd xs i<4294967296:=by
 unfold wd;split
 · omega
 · exact hx.get _
theorem E5(xs:List Nat)(ao:Option Addr)(n cap B:Nat)(i:Int)(w:World)(hn:n=xs.length)(hm:n<=70368744177664)(hx:Wf xs)(hR:Rd B w ao xs) :
 Calls Tryz.prog 182 #[.slice ao n cap,.int .i64 i] w fun r w'=>r=.returned (.int .u32 ((wd xs i:Nat):Int))/\w'=w:=by
 by_cases h:i<0
 · unfold wd;rw[if_pos h];exact EZ xs ao n cap i w hn hm (.inl h)
 · obtain⟨k,rfl⟩:∃ k:Nat,i=(k:Int):=⟨i.toNat,ae⟩;unfold wd;rw[if_neg h,nW]
   by_cases hk:k<n
   · exact Vd xs ao n cap B k w hn hm hx hR hk
   · rw[fF,qi ae];exact EZ xs ao n cap k w hn hm (.inr ae)
def win(X:Nat)(i:Int):Nat:=if i<0 then X*2^(-i).toNat%4294967296 else X/2^i.toNat%4294967296
theorem val_mod(xs:List Nat):val xs%4294967296=xs.getD 0 0%4294967296:=by
 cases xs with
 | nil=>simp[val]
 | cons x xs=>simp[val]
theorem QB(xs:List Nat)(hx:Wf xs)(q:Nat):∃ R,val xs/pw q=xs.getD q 0+4294967296*(xs.getD (q+1) 0+4294967296*R):=by
 by_cases h:q<xs.length
 · have h1:val xs/pw q=val (xs.drop q):=by
    have h5:=gZ xs q ae;have h6:=bM (xs.take q) (hx.take q);rw[ig,iO ae] at h6;rw[h5,tq _ _ (lI q),iN h6,eP]
   obtain⟨R,hR⟩:∃ R,val (xs.drop (q+1))=xs.getD (q+1) 0+4294967296*R:=by
    by_cases h:q+1<xs.length
    · exact⟨_,fD xs (q+1) h⟩
    · refine⟨0,?_⟩;rw[Bj ae,fF,qi ae];rfl
   exact⟨R,by rw[h1,fD xs q h,hR]⟩
 · refine⟨0,?_⟩;have h1:=bM xs hx;have h2:=kL (show xs.length<=q by omega);rw[iN ae,fF,qi ae,fF,qi ae];rfl
theorem Ve(xs:List Nat)(hx:Wf xs)(q r:Nat)(hr:r<32):(xs.getD (q+1) 0*4294967296+xs.getD q 0)/2^r%4294967296=val xs/2^(32*q+r)%4294967296:=by
 rw[nL,<-p9];obtain⟨R,hR⟩:=QB xs hx q;rw[hR]
 have e:xs.getD q 0+4294967296*(xs.getD (q+1) 0+4294967296*R)=(xs.getD (q+1) 0*4294967296+xs.getD q 0)+2^r*(4294967296*(2^(32-r)*R)):=by
  have h1:=mf r hr;have:2^r*(4294967296*(2^(32-r)*R))=4294967296*(4294967296*R):=by rw[<-h1];grind
  rw[this];omega
 rw[e,tq _ _ (aZ _),Cy]
theorem Kt(V k:Nat):V*2^k%4294967296=V%4294967296*2^k%4294967296:=by
 simp[Nat.mul_mod]
theorem Y5(xs:List Nat)(hx:Wf xs)(i at':Int)(rest:Nat)(h1:at'=i/32)(h2:(rest:Int)=i%32) :
 (wd xs (at'+1)*4294967296+wd xs at')/2^rest%4294967296=win (val xs) i:=by
 have hr:rest<32:=ae
 by_cases h:i<0
 · unfold win;rw[if_pos h]
   by_cases h3:at'=-1
   · subst h3;have e1:wd xs (-1)=0:=by unfold wd;rw[if_pos ae]
     have e2:wd xs (-1+1)=xs.getD 0 0:=by unfold wd;rw[if_neg ae];rfl
     rw[e1,e2,fT];obtain⟨k,hk⟩:∃ k,(-i).toNat=k:=⟨_,rfl⟩;have e3:k=32-rest:=ae
     rw[hk,Kt,val_mod,<-Kt,<-mf rest hr,e3];rw[show xs.getD 0 0*(2^rest*2^(32-rest))=2^rest*(xs.getD 0 0*2^(32-rest)) by grind,Bh _ (aZ rest)]
   · have e1:wd xs at'=0:=by unfold wd;rw[if_pos ae]
     have e2:wd xs (at'+1)=0:=by unfold wd;rw[if_pos ae]
     rw[e1,e2];obtain⟨k,hk⟩:∃ k,(-i).toNat=k+32:=⟨(-i).toNat-32,ae⟩;rw[hk,aJ,show(2:Nat)^32=4294967296 from rfl,<-aM,Nat.mul_mod_left];simp
 · obtain⟨n,rfl⟩:∃ n:Nat,i=(n:Int):=⟨i.toNat,ae⟩;obtain⟨q,rfl⟩:∃ q:Nat,at'=(q:Int):=⟨at'.toNat,ae⟩;have e1:wd xs ((q:Int)+1)=xs.getD (q+1) 0:=by unfold wd;rw[if_neg ae];rfl
   have e2:wd xs (q:Int)=xs.getD q 0:=by unfold wd;rw[if_neg ae];rfl
   unfold win;rw[if_neg h,e1,e2,nW,Ve xs hx q rest hr];rw[show 32*q+rest=n by omega]
theorem and31(i:Int)(h0:-9223372036854775808<=i)(h1:i<=9223372036854775807):bits BinOp.and IntKind.i64 i 31=i%32:=by
 unfold bits;simp[IntKind.bits,IntKind.signed,IntKind.wrap]
 have e:(BitVec.ofInt 64 i &&& 31#64).toNat=(i%18446744073709551616).toNat%32:=by
  rw[BitVec.toNat_and,BitVec.toNat_ofInt];exact Cu _ 5
 show(if 9223372036854775808<=(((BitVec.ofInt 64 i &&& 31#64:BitVec 64).toNat:Nat):Int)%18446744073709551616 then(((BitVec.ofInt 64 i &&& 31#64:BitVec 64).toNat:Nat):Int)%18446744073709551616-18446744073709551616 else(((BitVec.ofInt 64 i &&& 31#64:BitVec 64).toNat:Nat):Int)%18446744073709551616)=i%32;rw[e];generalize hz:(i%18446744073709551616).toNat=z;have hz2:(z:Int)=i%18446744073709551616:=ae
 split <;> omega
theorem IG(xs:List Nat)(ao:Option Addr)(n cap B:Nat)(i:Int)(w:World)(hn:n=xs.length)(hm:n<=70368744177664)(hx:Wf xs)(hR:Rd B w ao xs)(h0:-9223372036854775808<=i)(h1:i<=9223372036854775807) :
 Calls Tryz.prog 166 #[.slice ao n cap,.int .i64 i] w fun r w'=>r=.returned (.int .u32 ((win (val xs) i:Nat):Int))/\w'=w:=by
 obtain⟨at',hat⟩:∃ a,a=i/32:=⟨_,rfl⟩;obtain⟨rest,hrest⟩:∃ r:Nat,(r:Int)=i%32:=⟨(i%32).toNat,ae⟩;have hw:=Y5 xs hx i at' rest hat hrest;have W1:=hid (E5 xs ao n cap B (at'+1) w hn hm hx hR);have W2:=hid (E5 xs ao n cap B at' w hn hm hx hR);have l1:=XU xs hx (at'+1);have l2:=XU xs hx at';generalize wd xs (at'+1)=a at *;generalize wd xs at'=b at *;generalize win (val xs) i=v at *;have e1:i/32=at':=hat.symm;have e2:bits BinOp.and IntKind.i64 i 31=(rest:Int):=by rw[and31 i h0 h1,hrest]
 have e3:=qN a b l1 l2;have hr:rest<32:=ae
 have ha0:-288230376151711744<=at':=ae
 have ha1:at'<=288230376151711744:=ae
 obtain⟨t,ht⟩:∃ t:Nat,a*4294967296+b=t:=⟨_,rfl⟩;rw[ht] at e3 hw;have e4:(t:Int)/2^rest%4294967296=(v:Int):=by rw[<-hw];simp
 clear hat hrest hw hn hx hR ht;go_enter Tryz.func166,Tryz.ntmps166;go_wp2_with fail;refine W1.o.mono ?_;rintro r w1 ⟨rfl,rfl⟩;go_wp2_with fail;refine W2.o.mono ?_;rintro r w2 ⟨rfl,rfl⟩;go_wp2;go_ret;exact⟨by simp[e4],rfl⟩
theorem Vf(Y i:Nat):(ws Y).getD i 0=Y/pw i%4294967296:=by
 induction i generalizing Y with
 | zero =>
   by_cases h:Y=0
   · subst h;simp[bO]
   · rw[qw Y h,j3];simp
 | succ i ih =>
   by_cases h:Y=0
   · subst h;simp[bO]
   · rw[qw Y h,cO,<-p9,<-ih];simp
theorem QC(X low i:Nat):win X ((low:Int)+32*(i:Int))=(ws (X/2^low)).getD i 0:=by
 rw[Vf,p9];unfold win;rw[if_neg ae,show((low:Int)+32*(i:Int)).toNat=low+32*i by omega,aJ,kD];rfl
theorem QD(Ys:List Nat)(k:Nat)(hk:k<Ys.length) :
 (Ys.take k++List.replicate (Ys.length-k) 0).set k (Ys.getD k 0)=Ys.take (k+1)++List.replicate (Ys.length-(k+1)) 0:=by
 apply List.ext_getElem?;intro j;rw[List.getElem?_set]
 by_cases hj:k=j
 · subst hj;rw[if_pos rfl,if_pos (by simp;omega),CJ (by simp;omega)];simp[fF,hk]
 · rw[if_neg hj]
   by_cases h1:j<k
   · rw[CJ (by simp;omega),CJ (by simp;omega)];simp[h1,show j<k+1 by omega]
   · rw[List.getElem?_append_right (by simp;omega),List.getElem?_append_right (by simp;omega)];simp only[List.getElem?_replicate,ig];congr 1;simp only[eq_iff_iff];omega
theorem Vg{w:World}{a:Option Addr}{n c:Nat}{xs:List Nat}(h1:Arg w a n c xs)(low size:Nat)(hle:low<=size)(hsz:size<=1125899906842624)(hlen:(size-low+31)/32=(ws (val xs/2^low)).length) :
 Calls Tryz.prog 128 #[.slice a n c,.int .i64 (low:Nat),.int .i64 (size:Nat)] w fun r w'=>∃ v,r=.returned v/\Nt w.heap.size w' v (val xs/2^low)/\Below w.heap.size w w':=by
 obtain⟨m,hm⟩:=ah ((size-low+31)/32);rw[<-hm] at hlen;have e1:((size:Int)-low+32-1)/32=(m:Int):=ae
 have hmb:m<=35184372088832:=ae
 obtain⟨W1,hW1⟩:=ah (w.alloc (.cells (madeCells #[.int .u32 0] m) 51));have oM:Own W1 w.heap.size (List.replicate m 0):=by rw[hW1];exact Own.made w m
 have hB1:Below w.heap.size w W1:=by rw[hW1];exact(aD _ _).alloc (aC _) _
 have hmk:=eF (m:Int) m rfl ae w;rw[<-hW1] at hmk;have A1:=h1.below hB1;obtain⟨g,hg⟩:=ah (w.heap.size);rw[<-hg] at oM hmk;obtain⟨Ys,hYs⟩:∃ Ys,ws (val xs/2^low)=Ys:=⟨_,rfl⟩;have hYw:Wf Ys:=hYs ▸ dP _;rw[hYs] at hlen
 have WN:Hid (∀ wr,But g W1 wr->∀ i:Nat,i<m->Calls Tryz.prog 166 #[.slice a n c,.int .i64 ((low:Int)+32*(i:Int))] wr fun r w'=>r=.returned (.int .u32 ((Ys.getD i 0:Nat):Int))/\w'=wr):=by
  intro wr hb i hi;have hR:Rd w.heap.size wr a xs:=(h1.rd.below hB1).but hb (by rw[hg] at *;have:=hB1.size;omega) ae;have:=IG xs a n c w.heap.size ((low:Int)+32*(i:Int)) wr h1.len (by have:=h1.big;omega) h1.wf hR ae ae;rw[QC,hYs] at this;exact this
 have HR:=(fO hB1 hg hYs hYw hlen)
 have HO:Hid (Own W1 g (Ys.take 0++List.replicate (Ys.length-0) 0)):=by
  rw[<-hlen];exact hid (by simpa using oM)
 clear hm h1 oM hB1 A1 hg hYs hYw hW1 hlen;go_enter Tryz.func128,Tryz.ntmps128;go_wp2
 go_loopg [18] m (fun gk iv wr=>∃ (k:Nat),gk+k=m/\iv=.int .i64 (k:Nat)/\Hid (Own wr g (Ys.take k++List.replicate (Ys.length-k) 0))/\Aside (But g W1 wr))
 case atStart=>exact⟨0,ae,rfl,HO,But.refl _ _⟩
 case round =>
  clear HO e1;obtain⟨k,Ex,rfl,HM,HA⟩:=hrel
  by_cases hk:k<m
  · have hlen:=HR.o.r4;have hgc:=HM.o.cell k (by simp;omega);have hgf:=HM.o.frozen k;obtain⟨old,hold⟩:∃ o:Nat,(Ys.take k++List.replicate (Ys.length-k) 0).getD k 0=o:=⟨_,rfl⟩;rw[hold] at hgc;obtain⟨y,hy⟩:∃ y:Nat,Ys.getD k 0=y:=⟨_,rfl⟩;have W2:=hid (WN.o wr HA.o k hk);rw[hy] at W2;have HY:=aA hy;clear hlen hold hy;go_wp2_with fail;refine W2.o.mono ?_;rintro r w2 ⟨rfl,rfl⟩;go_wp2;go_roundg (gk-1)
    case measure=>omega
    case rel =>
     refine⟨k+1,ae,by first | go_num | (congr 1;omega),?_,HA.o.set _ _⟩;rw[<-QD Ys k (by have:=HR.o.r4;omega),HY.o];exact HM.o.set _ _
  · obtain rfl:k=m:=ae
    go_wp2;go_ret;obtain⟨hB1,hg,hYs,hYw,hlen⟩:=HR.o;have hO:=HM.o;rw[hlen,List.take_length,Bn,List.replicate_zero,Cz] at hO;have hN:=Nt.iA hO (lo:=w.heap.size) ae hYw (by unfold maxLen;omega);have e2:nl Ys=Ys.length:=by rw[<-hYs];exact J7 _
    rw[e2,<-hYs,ak] at hN;rw[hlen,<-hYs];exact⟨_,rfl,hN,But.below hB1 HA.o hB1.size ae⟩
def dm(lo:Nat)(w:World)(r:Ending)(o:Option (Bool×Nat×Int)):Prop :=
 ∃ v,r=.returned (.tuple #[.agg #[.bool (dN o),v,.int .i64 (dE o)],.int .i64 (o7 o)])/\Nt lo w v (dX o)
theorem aU{W w1:World}(hb:Below W.heap.size W w1):(∀ b o,b<W.heap.size->w1.cell? ⟨b,o,none⟩=W.cell? ⟨b,o,none⟩)/\(∀ b o,b<W.heap.size->w1.frozen? ⟨b,o,none⟩=W.frozen? ⟨b,o,none⟩) :=
 ⟨fun b o h=>hb.cell (p:=⟨b,o,none⟩) h,fun b o h=>hb.frozen (p:=⟨b,o,none⟩) h⟩
theorem jg(X:Nat):(ws X).length=(bl X+31)/32:=by
 by_cases h:X=0
 · subst h;simp[bO,dZ]
 · have h1:=IC X ((ws X).length-1) _ rfl;have h2:=IC X (ws X).length _ rfl;have h3:(ws X).length≠0:=fun e=>h ((bU X).1 e);omega
theorem II(X:Nat)(h:X≠0):(bl X-lo X+31)/32=(ws (X/2^lo X)).length:=by
 obtain⟨m,_,_,hb⟩:=jb X h;rw[jg];congr 2;omega
theorem mU(g:Nat)(w:World)(x y z:Value):But g w (((w.setCell ⟨g,0,none⟩ x).setCell ⟨g,1,none⟩ y).setCell ⟨g,2,none⟩ z):=(((But.refl g w).set _ _).set _ _).set _ _
theorem yZ{w W1 w2:World}{v:Value}{Y:Nat}(hB:Below w.heap.size w W1)(hs:w.heap.size<W1.heap.size)(hN:Nt W1.heap.size w2 v Y)(hb:Below W1.heap.size W1 w2)(x y z:Value) :
 Nt w.heap.size (((w2.setCell ⟨w.heap.size,0,none⟩ x).setCell ⟨w.heap.size,1,none⟩ y).setCell ⟨w.heap.size,2,none⟩ z) v Y/\Below w.heap.size w (((w2.setCell ⟨w.heap.size,0,none⟩ x).setCell ⟨w.heap.size,1,none⟩ y).setCell ⟨w.heap.size,2,none⟩ z) :=
 ⟨(hN.but (mU _ _ _ _ _) hs).mono ae,But.below (hB.trans (hb.mono ae)) (mU _ _ _ _ _) (by have:=hb.size;omega) (aC _)⟩
theorem Kp{P:Prop}(h:P:=by
 clear hb hl hX h0 hB1 A1 hT1 hT h1 SZ H3 h2 hOD;subst hW1;go_enter Tryz.func90,Tryz.ntmps90;go_wp2_with fail;refine H1.o.mono ?_;rintro r w1 ⟨rfl,rfl⟩;go_wp2_with fail;refine H2.o.mono ?_;rintro r w1 ⟨rfl,rfl⟩;go_wp2;refine aG (v:=.tuple #[.agg zD3,.int .i64 2]) (by simp[results,Tryz.results90,go_sem]) rfl ⟨⟨_,rfl,Nt.nil _ _⟩,HB.o⟩):P:=h
theorem iV{w:World}{a:Option Addr}{n c:Nat}{xs:List Nat}(h1:Arg w a n c xs)(hT:dU w)(neg:Bool)(e:Int)(he0:-9223372036854775808<=e)(he1:e<=9223372036854775807) :
 Calls Tryz.prog 90 #[.bool neg,.slice a n c,.int .i64 e] w fun r w'=>dm w.heap.size w' r (mkS neg (val xs) e)/\Below w.heap.size w w':=by
 obtain⟨W1,hW1⟩:=ah (w.alloc (.cells zD3 25));have hB1:Below w.heap.size w W1:=by rw[hW1];exact(aD _ _).alloc (aC _) _
 have A1:=h1.below hB1;have hT1:=hT.belows hB1;have hbig:=h1.big;have H1:=hid (qO xs a n c W1.heap.size W1 A1.len A1.cap ae A1.wf A1.rd);have H2:=hid (UJ xs a n c W1.heap.size W1 A1.len ae A1.wf A1.rd hT1)
 have hbl:bl (val xs)<=32*n:=by
  have:=bM xs h1.wf;rw[<-h1.len] at this;exact Qt _ _ this
 obtain⟨X,hX⟩:∃ X,val xs=X:=⟨_,rfl⟩;rw[hX] at H1 H2 hbl |-;obtain⟨b,hb⟩:∃ b,bl X=b:=⟨_,rfl⟩;obtain⟨l,hl⟩:∃ l,lo X=l:=⟨_,rfl⟩;rw[hb] at H1 hbl;rw[hl] at H2;unfold mkS;rw[hb,hl]
 have hlb:l<=b:=by
  by_cases h0:X=0
  · subst h0;rw[CX] at hl;omega
  · obtain⟨m,_,_,hbb⟩:=jb X h0;omega
 have HB:=aA hB1;have SZ:W1.heap.size=w.heap.size+1:=by rw[hW1];simp
 by_cases h0:X=0
 · have hb0:b=0:=by rw[<-hb,h0,dZ]
   subst hb0;rw[if_pos h0];clear hb hl hX h0 hB1 A1 hT1 hT h1 hlb hbl SZ;subst hW1;go_enter Tryz.func90,Tryz.ntmps90;go_wp2_with fail;refine H1.o.mono ?_;rintro r w1 ⟨rfl,rfl⟩;go_wp2_with fail;refine H2.o.mono ?_;rintro r w1 ⟨rfl,rfl⟩;go_wp2;refine aG (v:=.tuple #[.agg zD3,.int .i64 0]) (by simp[results,Tryz.results90,go_sem]) rfl ⟨⟨_,rfl,Nt.nil _ _⟩,HB.o⟩
 · rw[if_neg h0];have hb0:((b:Int)==0)=false:=by have:=eu X h0;simp;omega
   have hOD:=Vg A1 l b hlb ae (by rw[hX,<-hb,<-hl];exact II X h0);rw[hX] at hOD;have H3:=hid hOD
   by_cases h2:262144<b-l
   · rw[if_pos (.inl h2)];have h2':(262144:Int)<(b:Int)-l:=ae
     exact Kp
   · have h2':decide ((262144:Int)<(b:Int)-l)=false:=decide_eq_false ae
     by_cases h3:1048576-(l:Int)<e
     · rw[if_pos (.inr (.inl h3))];exact Kp
     · have h3':decide (1048576-(l:Int)<e)=false:=decide_eq_false h3
       by_cases h4:e < -1048576-(l:Int)
       · rw[if_pos (.inr (.inr h4))];exact Kp
       · have h4':decide (e < -1048576-(l:Int))=false:=decide_eq_false h4;rw[if_neg ae];obtain⟨Y,hY⟩:∃ Y,X/2^l=Y:=⟨_,rfl⟩;rw[hY] at H3 |-;have hs:(ws Y).length<=35184372088832:=by rw[<-hY,<-hl,<-II X h0];omega
         have h5:e+l<=1048576:=ae
         have h6:-1048576<=e+l:=ae
         clear hb hl hX h0 hB1 A1 hT1 hT h1 hOD h2 h3 h4;subst hW1;go_enter Tryz.func90,Tryz.ntmps90;go_wp2_with fail;refine H1.o.mono ?_;rintro r w1 ⟨rfl,rfl⟩;go_wp2_with fail;refine H2.o.mono ?_;rintro r w1 ⟨rfl,rfl⟩;go_wp2_with fail;refine H3.o.mono ?_;rintro r w2 ⟨v,rfl,hN,hb⟩;obtain⟨a2,c2,rfl,_⟩:=hN.arg hs;obtain⟨hc,hf⟩:=aU hb;have HN:=(aP hN hb);have hz:=hb.size;clear hN hb;go_wp2;obtain⟨q1,q2⟩:=yZ HB.o aQ HN.o.1 HN.o.2 (.bool neg) (.slice a2 (ws Y).length c2) (.int .i64 (e+l));exact aG (v:=.tuple #[.agg #[.bool neg,.slice a2 (ws Y).length c2,.int .i64 (e+l)],.int .i64 0]) (by simp[results,Tryz.results90,go_sem,hc]) rfl ⟨⟨_,rfl,q1⟩,q2⟩
attribute [local go_sem] B.bF B.aH
def jh:Nat:=9221120237041090560
def sS(op:BinOp)(x y:Nat):Nat:=(floatBits op .f64 x y).getD jh
def qf(z:Nat):Bool:=decide (9218868437227405312<z%9223372036854775808)
theorem bwz(z:Nat)(h:z<18446744073709551616):∃ s e f,e<2048/\f<4503599627370496/\z=B.bw s e f/\B.odd e f=qf z:=by
 refine⟨decide (9223372036854775808<=z),z%9223372036854775808/4503599627370496,z%4503599627370496,ae,ae,?_,?_⟩
 · unfold B.bw
   by_cases h1:9223372036854775808<=z
   · simp only[h1,decide_true,kU];omega
   · simp only[h1,decide_false,kV];omega
 · unfold B.odd qf;rw[yf];simp only[vZ,beq_iff_eq,bne_iff_ne,ne_eq,decide_eq_true_eq];omega
end
section
open Go.RowKit
def Dj(lo:Nat)(w:World)(r:Ending)(o:Option (Bool×Nat×Int)):Prop :=
 ∃ v,r=.returned (.tuple #[.agg #[.bool (dN o),v,.int .i64 (dE o)],.bool o.isSome])/\Nt lo w v (dX o)
theorem MB{w:World}{v:Value}{X lo':Nat}(hN:Nt lo' w v X)(hX:X≠0)(hl:(ws X).length<=2000000) :
 Calls Tryz.prog 97 #[v,.int .i64 (-(lo X:Int))] w fun r w'=>∃ v,r=.returned v/\Nt w.heap.size w' v (X/2^lo X)/\Below w.heap.size w w':=by
 have hb:=Qx X hX (ws X).length (iy X);have h:=qU hN (-(lo X:Int)) ae ae hX hl
 have e:(if -(lo X:Int)<0 then X/2^(- -(lo X:Int)).toNat else X*2^(-(lo X:Int)).toNat)=X/2^lo X:=by
  by_cases h0:lo X=0
  · rw[h0];simp
  · rw[if_pos ae,show(- -(lo X:Int)).toNat=lo X by omega]
 rw[e] at h;exact h
theorem yy{P:Prop}(h:P:=by
 rw[ak] at this;exact this):P:=h
theorem UP{P:Prop}(h:P:=by
 clear h3;go_enter Tryz.func54,Tryz.ntmps54;go_wp2_with fail;refine H1.o.mono ?_;rintro r w2 ⟨v,rfl,hN,hb⟩;obtain⟨a2,c2,rfl,A2⟩:=hN.arg ae;obtain⟨hc,hf⟩:=aU hb;have HN:=(aP hN hb);have hz:=hb.size;have Vh:=hid (H2.o a2 c2 w2 A2);clear hN hb A2;go_wp2_with fail;refine(aF Vh.o) ?_;rintro r w3 ⟨rfl,rfl⟩;go_wp2;obtain⟨q1,q2⟩:=yZ HB.o aQ HN.o.1 HN.o.2 (.bool false) (.slice none 0 0) (.int .i64 0);exact aG (v:=.tuple #[.agg zD3,.bool false]) (by simp[results,Tryz.results54,go_sem,hc]) rfl ⟨⟨_,rfl,Nt.nil _ _⟩,q2⟩):P:=h
theorem qV{w:World}{a:Option Addr}{n c:Nat}{xs:List Nat}(h1:Arg w a n c xs)(hn:n<=2000000)(neg:Bool)(e:Int)(he0:-9223372036854775808<=e)(he1:e<=9223372036854775807) :
 Calls Tryz.prog 54 #[.bool neg,.slice a n c,.int .i64 e] w fun r w'=>Dj w.heap.size w' r (mkS neg (val xs) e)/\Below w.heap.size w w':=by
 have hB1:Below w.heap.size w (w.alloc (.cells zD3 25)):=af w _;obtain⟨X,hX⟩:∃ X,val xs=X:=⟨_,rfl⟩;have H1:=hid (BN (h1.below hB1) hX);rw[hX];have hXp:X<pw n:=by rw[<-hX,h1.len];exact bM xs h1.wf
 have Ik:(ws X).length<=2000000:=by have:=(aW X n).2 hXp;omega
 have HB:=aA hB1;clear h1 hX hB1 hXp;unfold mkS
 by_cases h0:X=0
 · rw[if_pos h0];have hl0:(ws X).length=0:=by rw[h0,bO];rfl
   go_enter Tryz.func54,Tryz.ntmps54;go_wp2_with fail;refine H1.o.mono ?_;rintro r w2 ⟨v,rfl,hN,hb⟩;obtain⟨a2,c2,rfl,_⟩:=hN.arg ae;obtain⟨hc,hf⟩:=aU hb;have HN:=(aP hN hb);have hz:=hb.size;clear hN hb;rw[hl0];go_wp2;obtain⟨q1,q2⟩:=yZ HB.o aQ HN.o.1 HN.o.2 (.bool false) (.slice none 0 0) (.int .i64 0);exact aG (v:=.tuple #[.agg zD3,.bool true]) (by simp[results,Tryz.results54,go_sem,hc]) rfl ⟨⟨_,rfl,Nt.nil _ _⟩,q2⟩
 · rw[if_neg h0];have hlo:=Qx X h0 (ws X).length (iy X);have yM:=II X h0;have hbl:=eu X h0
   have hL0:((((ws X).length:Nat):Int)==0)=false:=by
    have:(ws X).length≠0:=fun e=>h0 ((bU X).1 e);exact beq_eq_false_iff_ne.2 ae
   have H2:Hid (∀ (a2:Option Addr) (c2:Nat) (u:World),Arg u a2 (ws X).length c2 (ws X)->Calls Tryz.prog 96 #[.slice a2 (ws X).length c2] u fun r w'=>r=.returned (.int .i64 (lo X:Nat))/\w'=u):=by
    intro a2 c2 u A;have:=Qy (ws X) a2 (ws X).length c2 u.heap.size u A.len ae A.wf A.rd;exact yy
   have H3:Hid (∀ (lo':Nat) (v:Value) (u:World),Nt lo' u v X->Calls Tryz.prog 97 #[v,.int .i64 (-(lo X:Int))] u fun r w'=>∃ v,r=.returned v/\Nt u.heap.size w' v (X/2^lo X)/\Below u.heap.size u w') :=
    fun lo' v u hN=>MB hN h0 Ik
   obtain⟨l,hl⟩:∃ l,lo X=l:=⟨_,rfl⟩;obtain⟨b,hb⟩:∃ b,bl X=b:=⟨_,rfl⟩;obtain⟨Y,hY⟩:∃ Y,X/2^l=Y:=⟨_,rfl⟩;rw[hl] at H2 H3 hlo yM;rw[hb] at yM hbl;rw[hY] at H3 yM;rw[hl,hb,hY];have hYl:(ws Y).length<=2000000:=by rw[<-hY];have:=jO (p8 X (2^l));omega
   by_cases h3:1048576-(l:Int)<e\/e < -1048576-(l:Int)
   · rw[if_pos (.inr h3)];clear yM hbl hY hl hb h0
     by_cases g1:1048576<e
     · exact UP
     · have g1':decide (1048576<e)=false:=decide_eq_false g1
       by_cases g2:1048576<e+(l:Int)
       · exact UP
       · have g2':decide (1048576<e+(l:Int))=false:=decide_eq_false g2;have g3:e+(l:Int) < -1048576:=ae
         exact UP
   · have g1':decide (1048576<e)=false:=decide_eq_false ae;have g2':decide (1048576<e+(l:Int))=false:=decide_eq_false ae;have g3':decide (e+(l:Int) < -1048576)=false:=decide_eq_false ae;have g4:e+(l:Int)<=1048576:=ae
     have g5:-1048576<=e+(l:Int):=ae
     have hdec:(262144<b-l)↔8192<(ws Y).length:=ae
     by_cases h4:262144<b-l
     · rw[if_pos (.inl h4)];have h5:8192<(ws Y).length:=hdec.1 h4;clear yM hbl hY hl hb h0 h3 hdec h4;go_enter Tryz.func54,Tryz.ntmps54;go_wp2_with fail;refine H1.o.mono ?_;rintro r w2 ⟨v,rfl,hN,hb⟩;obtain⟨a2,c2,rfl,A2⟩:=hN.arg ae;have hz:=hb.size;have Vh:=hid (H2.o a2 c2 w2 A2);have H3':=hid (H3.o _ _ w2 hN);have HN:=(aP hN hb);clear hN hb A2;go_wp2_with fail;refine(aF Vh.o) ?_;rintro r w3 ⟨rfl,rfl⟩;go_wp2_with fail;refine(aF H3'.o) ?_;rintro r w4 ⟨v4,rfl,iX,hb4⟩;obtain⟨a4,c4,rfl,_⟩:=iX.arg ae;have hb:=HN.o.2.trans (hb4.mono hz);have wX:=iX.mono hz;obtain⟨hc,hf⟩:=aU hb;have HN:=(aP wX hb);clear iX hb4 hb wX;go_wp2;obtain⟨q1,q2⟩:=yZ HB.o aQ HN.o.1 HN.o.2 (.bool false) (.slice none 0 0) (.int .i64 0);exact aG (v:=.tuple #[.agg zD3,.bool false]) (by simp[results,Tryz.results54,go_sem,hc]) rfl ⟨⟨_,rfl,Nt.nil _ _⟩,q2⟩
     · rw[if_neg ae];have h5:(ws Y).length<=8192:=ae
       clear yM hbl hY hl hb h0 h3 hdec h4;go_enter Tryz.func54,Tryz.ntmps54;go_wp2_with fail;refine H1.o.mono ?_;rintro r w2 ⟨v,rfl,hN,hb⟩;obtain⟨a2,c2,rfl,A2⟩:=hN.arg ae;have hz:=hb.size;have Vh:=hid (H2.o a2 c2 w2 A2);have H3':=hid (H3.o _ _ w2 hN);have HN:=(aP hN hb);clear hN hb A2;go_wp2_with fail;refine(aF Vh.o) ?_;rintro r w3 ⟨rfl,rfl⟩;go_wp2_with fail;refine(aF H3'.o) ?_;rintro r w4 ⟨v4,rfl,iX,hb4⟩;obtain⟨a4,c4,rfl,_⟩:=iX.arg ae;have hb:=HN.o.2.trans (hb4.mono hz);have wX:=iX.mono hz;obtain⟨hc,hf⟩:=aU hb;have HN:=(aP wX hb);clear iX hb4 hb wX;go_wp2;obtain⟨q1,q2⟩:=yZ HB.o aQ HN.o.1 HN.o.2 (.bool neg) (.slice a4 (ws Y).length c4) (.int .i64 (e+l));exact aG (v:=.tuple #[.agg #[.bool neg,.slice a4 (ws Y).length c4,.int .i64 (e+l)],.bool true]) (by simp[results,Tryz.results54,go_sem,hc]) rfl ⟨⟨_,rfl,q1⟩,q2⟩
theorem But.rA{g:Nat}(w:World)(i:Nat)(u:Value):But g w (w.setCell ⟨g,i,none⟩ u):=(But.refl g w).set _ _
theorem Nt.rA{lo:Nat}{w:World}{v:Value}{X:Nat}(h:Nt lo w v X)(b i:Nat)(u:Value)(hb:b<lo):Nt lo (w.setCell ⟨b,i,none⟩ u) v X:=h.but (But.rA w i u) hb
theorem Nt.Y6{lo:Nat}{w:World}{v:Value}{X:Nat}(h:Nt lo w v X)(o:Obj):Nt lo (w.alloc o) v X:=h.below (af w o)
theorem Below.rA{lo:Nat}{w0 w:World}(h:Below lo w0 w)(b i:Nat)(u:Value)(hb:lo<=b)(hs:lo<=w.heap.size):Below lo w0 (w.setCell ⟨b,i,none⟩ u):=But.below h (But.rA w i u) hs hb
structure Fin (lo m:Nat) (w0 w:World) (v:Value) (X:Nat):Prop where
 nt:Nt m w v X
 aB:Below lo w0 w
 size:lo<=w.heap.size
theorem Fin.set{lo m:Nat}{w0 w:World}{v:Value}{X:Nat}(H:Fin lo m w0 w v X)(b i:Nat)(u:Value)(h1:lo<=b)(h2:b<m):Fin lo m w0 (w.setCell ⟨b,i,none⟩ u) v X :=
 ⟨H.nt.rA b i u h2,Below.rA H.aB b i u h1 H.size,by simpa [World.setCell] using H.size⟩
theorem Fin.alloc{lo m:Nat}{w0 w:World}{v:Value}{X:Nat}(H:Fin lo m w0 w v X)(o:Obj):Fin lo m w0 (w.alloc o) v X :=
 ⟨H.nt.Y6 o,H.aB.alloc H.size o,by have:=H.size;simp;omega⟩
theorem Fin.of{lo:Nat}{w0 W1 w2:World}{v:Value}{X:Nat}(k:Nat)(hB:Below lo w0 W1)(hk:W1.heap.size=lo+k)(hN:Nt W1.heap.size w2 v X)(hb:Below W1.heap.size W1 w2):Fin lo (lo+k) w0 w2 v X :=
 ⟨hk ▸ hN,hB.trans (hb.mono ae),by have:=hb.size;omega⟩
theorem Fin.lh{lo m:Nat}{w0 w:World}{n:Bool}{v:Value}{X:Nat}{e:Int}{k:Value}(H:Fin lo m w0 w v X)(h:lo<=m) :
 (∃ v',Ending.returned (.tuple #[.agg #[.bool n,v,.int .i64 e],k])=.returned (.tuple #[.agg #[.bool n,v',.int .i64 e],k])/\Nt lo w v' X)/\Below lo w0 w:=⟨⟨v,rfl,H.nt.mono h⟩,H.aB⟩
theorem Fin.dnil{lo m:Nat}{w0 w:World}{n:Bool}{v:Value}{X:Nat}{e:Int}{k:Value}(H:Fin lo m w0 w v X) :
 (∃ v',Ending.returned (.tuple #[.agg #[.bool n,.slice none 0 0,.int .i64 e],k])=.returned (.tuple #[.agg #[.bool n,v',.int .i64 e],k])/\Nt lo w v' 0)/\Below lo w0 w:=⟨⟨_,rfl,Nt.nil _ _⟩,H.aB⟩
theorem qW{w:World}{a:Option Addr}{n c:Nat}{xs:List Nat}(h1:Arg w a n c xs)(hn:n<=2000000)(neg:Bool)(e:Int)(he0:-9223372036854775808<=e)(he1:e<=9223372036854775807) :
 Calls Tryz.prog 62 #[.bool neg,.slice a n c,.int .i64 e] w fun r w'=>dm w.heap.size w' r (mkS neg (val xs) e)/\Below w.heap.size w w':=by
 have H1:=hid (qV (h1.below (af w (.cells zD3 25))) hn neg e he0 he1);have hl:=aR neg (val xs) e;obtain⟨o,ho⟩:∃ o,mkS neg (val xs) e=o:=⟨_,rfl⟩;rw[ho] at H1 hl |-;unfold Dj at H1;unfold dm;have HB:=aA (af w (.cells zD3 25));clear h1 ho hn he0 he1
 match o with
 | none =>
   simp only[dN,dX,dE,o7,Option.isSome,Option.getD] at H1 hl |-;go_enter Tryz.func62,Tryz.ntmps62;go_wp2_with fail;refine H1.o.mono ?_;rintro r w2 ⟨⟨v,rfl,hN⟩,hb⟩;obtain⟨a2,c2,rfl,_⟩:=hN.arg ae;obtain⟨hc,hf⟩:=aU hb;have HF:=aA (Fin.of 1 HB.o aQ hN hb);have hz:w.heap.size<w2.heap.size:=by have:=hb.size;simp at this;omega
   clear hN hb;go_wp2;exact aG (v:=.tuple #[.agg zD3,.int .i64 2]) (by simp[results,Tryz.results62,go_sem,hc,hz]) rfl (Fin.dnil (m:=w.heap.size+1) (v:=.slice a2 (ws 0).length c2) (X:=0) (by repeat (first | exact HF.o | refine Fin.alloc ?_ _ | refine Fin.set ?_ _ _ _ ae ae)))
 | some (dn,X,de) =>
   simp only[dN,dX,dE,o7,Option.isSome,Option.getD] at H1 hl |-;go_enter Tryz.func62,Tryz.ntmps62;go_wp2_with fail;refine H1.o.mono ?_;rintro r w2 ⟨⟨v,rfl,hN⟩,hb⟩;obtain⟨a2,c2,rfl,_⟩:=hN.arg ae;obtain⟨hc,hf⟩:=aU hb;have HF:=aA (Fin.of 1 HB.o aQ hN hb);have hz:w.heap.size<w2.heap.size:=by have:=hb.size;simp at this;omega
   clear hN hb;go_wp2;exact aG (v:=.tuple #[.agg #[.bool dn,.slice a2 (ws X).length c2,.int .i64 de],.int .i64 0]) (by simp[results,Tryz.results62,go_sem,hc,hz]) rfl (Fin.lh (m:=w.heap.size+1) (by repeat (first | exact HF.o | refine Fin.alloc ?_ _ | refine Fin.set ?_ _ _ _ ae ae)) ae)
theorem og{w:World}{a:Option Addr}{n c:Nat}{xs:List Nat}(h1:Arg w a n c xs)(hn:n<=2000000)(neg:Bool)(e:Int)(he0:-9223372036854775808<=e)(he1:e<=9223372036854775807) :
 Calls Tryz.prog 61 #[.agg #[.bool neg,.slice a n c,.int .i64 e]] w fun r w'=>Dj w.heap.size w' r (mkS neg (val xs) e)/\Below w.heap.size w w':=by
 have HB:=aA (show Below w.heap.size w ((w.alloc (.cells #[.bool neg,.slice a n c,.int .i64 e] 25)).alloc (.cells zD3 25)) from(((aD _ _).alloc (aC _) _).alloc aQ _));have H1:=hid (qV (h1.below HB.o) hn neg e he0 he1);have hl:=aR neg (val xs) e;obtain⟨o,ho⟩:∃ o,mkS neg (val xs) e=o:=⟨_,rfl⟩;rw[ho] at H1 hl |-;unfold Dj at H1 |-;obtain⟨dn,hdn⟩:∃ d,dN o=d:=⟨_,rfl⟩;obtain⟨X,BQ⟩:∃ d,dX o=d:=⟨_,rfl⟩;obtain⟨de,hde⟩:∃ d,dE o=d:=⟨_,rfl⟩;obtain⟨er,her⟩:∃ d,o.isSome=d:=⟨_,rfl⟩;rw[hdn,BQ,hde,her] at H1 |-;rw[BQ] at hl;clear h1 ho hdn BQ hde her hn he0 he1;go_enter Tryz.func61,Tryz.ntmps61;go_wp2_with fail;refine H1.o.mono ?_;rintro r w2 ⟨⟨v,rfl,hN⟩,hb⟩;obtain⟨a2,c2,rfl,_⟩:=hN.arg ae;obtain⟨hc,hf⟩:=aU hb;have HF:=aA (Fin.of 2 HB.o aQ hN hb);have hz:w.heap.size+1<w2.heap.size:=by have:=hb.size;simp at this;omega
 clear hN hb;go_wp2;exact aG (v:=.tuple #[.agg #[.bool dn,.slice a2 (ws X).length c2,.int .i64 de],.bool er]) (by simp[results,Tryz.results61,go_sem,hc]) rfl (Fin.lh (m:=w.heap.size+2) (by repeat (first | exact HF.o | refine Fin.alloc ?_ _ | refine Fin.set ?_ _ _ _ ae ae)) ae)
theorem mV{w:World}{a:Option Addr}{n c:Nat}{xs:List Nat}(h1:Arg w a n c xs)(hT:dU w)(neg:Bool)(e:Int)(he0:-9223372036854775808<=e)(he1:e<=9223372036854775807) :
 Calls Tryz.prog 125 #[.agg #[.bool neg,.slice a n c,.int .i64 e]] w fun r w'=>dm w.heap.size w' r (mkS neg (val xs) e)/\Below w.heap.size w w':=by
 have HB:=aA (show Below w.heap.size w ((w.alloc (.cells #[.bool neg,.slice a n c,.int .i64 e] 25)).alloc (.cells zD3 25)) from(((aD _ _).alloc (aC _) _).alloc aQ _));have H1:=hid (iV (h1.below HB.o) (hT.belows HB.o) neg e he0 he1);have hl:=aR neg (val xs) e;obtain⟨o,ho⟩:∃ o,mkS neg (val xs) e=o:=⟨_,rfl⟩;rw[ho] at H1 hl |-;unfold dm at H1 |-;obtain⟨dn,hdn⟩:∃ d,dN o=d:=⟨_,rfl⟩;obtain⟨X,BQ⟩:∃ d,dX o=d:=⟨_,rfl⟩;obtain⟨de,hde⟩:∃ d,dE o=d:=⟨_,rfl⟩;obtain⟨er,her⟩:∃ d,o7 o=d:=⟨_,rfl⟩;rw[hdn,BQ,hde,her] at H1 |-;rw[BQ] at hl;clear h1 ho hdn BQ hde her hT he0 he1;go_enter Tryz.func125,Tryz.ntmps125;go_wp2_with fail;refine H1.o.mono ?_;rintro r w2 ⟨⟨v,rfl,hN⟩,hb⟩;obtain⟨a2,c2,rfl,_⟩:=hN.arg ae;obtain⟨hc,hf⟩:=aU hb;have HF:=aA (Fin.of 2 HB.o aQ hN hb);have hz:w.heap.size+1<w2.heap.size:=by have:=hb.size;simp at this;omega
 clear hN hb;go_wp2;exact aG (v:=.tuple #[.agg #[.bool dn,.slice a2 (ws X).length c2,.int .i64 de],.int .i64 er]) (by simp[results,Tryz.results125,go_sem,hc]) rfl (Fin.lh (m:=w.heap.size+2) (by repeat (first | exact HF.o | refine Fin.alloc ?_ _ | refine Fin.set ?_ _ _ _ ae ae)) ae)
def bI(lo:Nat)(w:World)(r:Ending)(o:Option (Bool×Nat×Int)):Prop :=
 ∃ v,r=.returned (.agg #[.bool (dN o),v,.int .i64 (dE o)])/\Nt lo w v (dX o)
theorem Fin.QE{lo m:Nat}{w0 w:World}{n:Bool}{v:Value}{X:Nat}{e:Int}(H:Fin lo m w0 w v X)(h:lo<=m) :
 (∃ v',Ending.returned (.agg #[.bool n,v,.int .i64 e])=.returned (.agg #[.bool n,v',.int .i64 e])/\Nt lo w v' X)/\Below lo w0 w:=⟨⟨v,rfl,H.nt.mono h⟩,H.aB⟩
theorem y7(a:Option Addr)(n c:Nat)(neg:Bool)(e:Int)(w:World) :
 Calls Tryz.prog 101 #[.agg #[.bool neg,.slice a n c,.int .i64 e]] w fun r w'=>r=.returned (.agg #[.bool (!neg),.slice a n c,.int .i64 e])/\Below w.heap.size w w':=by
 go_enter Tryz.func101,Tryz.ntmps101;go_wp2;exact aG (v:=.agg #[.bool (!neg),.slice a n c,.int .i64 e]) (by simp[results,Tryz.results101,go_sem]) rfl ⟨rfl,by repeat (first | exact aD _ _ | refine Below.alloc ?_ (by first | omega | simp) _ | refine Below.rA ?_ _ _ _ ae aQ)⟩
theorem Vi{w:World}{a:Option Addr}{n c:Nat}{xs:List Nat}(h1:Arg w a n c xs)(hT:dU w)(neg:Bool)(e:Int)(he0:-9223372036854775808<=e)(he1:e<=9223372036854775807) :
 Calls Tryz.prog 86 #[.agg #[.bool neg,.slice a n c,.int .i64 e]] w fun r w'=>bI w.heap.size w' r (mkS (!neg) (val xs) e)/\Below w.heap.size w w':=by
 have HB:=aA (show Below w.heap.size w ((w.alloc (.cells #[.bool neg,.slice a n c,.int .i64 e] 25)).alloc (.cells zD3 25)) from(((aD _ _).alloc (aC _) _).alloc aQ _));have T1:=hid (y7 a n c neg e ((w.alloc (.cells #[.bool neg,.slice a n c,.int .i64 e] 25)).alloc (.cells zD3 25)))
 have F1:Hid (∀ u,Below w.heap.size w u->Calls Tryz.prog 125 #[.agg #[.bool (!neg),.slice a n c,.int .i64 e]] u fun r w'=>dm u.heap.size w' r (mkS (!neg) (val xs) e)/\Below u.heap.size u w') :=
  fun u hu=>mV (h1.below hu) (hT.belows hu) (!neg) e he0 he1
 have hl:=aR (!neg) (val xs) e;obtain⟨o,ho⟩:∃ o,mkS (!neg) (val xs) e=o:=⟨_,rfl⟩;rw[ho] at F1 hl |-;unfold dm at F1;unfold bI;obtain⟨dn,hdn⟩:∃ d,dN o=d:=⟨_,rfl⟩;obtain⟨X,BQ⟩:∃ d,dX o=d:=⟨_,rfl⟩;obtain⟨de,hde⟩:∃ d,dE o=d:=⟨_,rfl⟩;obtain⟨er,her⟩:∃ d,o7 o=d:=⟨_,rfl⟩;rw[hdn,BQ,hde,her] at F1;rw[hdn,BQ,hde];rw[BQ] at hl;clear h1 ho hdn BQ hde her hT he0 he1;go_enter Tryz.func86,Tryz.ntmps86;go_wp2_with fail;refine T1.o.mono ?_;rintro r w1 ⟨rfl,hb1⟩;have hbw:=HB.o.trans (hb1.mono (by simp;omega));have H1:=hid (F1.o w1 hbw);have hz1:w.heap.size+2<=w1.heap.size:=by have:=hb1.size;simp at this;omega
 have SB1:=(aP hb1 hbw);clear hb1 hbw;go_wp2_with fail;refine H1.o.mono ?_;rintro r w2 ⟨⟨v,rfl,hN⟩,hb⟩;obtain⟨a2,c2,rfl,_⟩:=hN.arg ae;have hbb:=SB1.o.1.trans (hb.mono (by simp;omega));obtain⟨hc,hf⟩:=aU hbb;have HF:=aA (show Fin w.heap.size (w.heap.size+2) w w2 (.slice a2 (ws X).length c2) X from⟨hN.mono hz1,SB1.o.2.trans (hb.mono ae),by have:=hb.size;omega⟩);have hz:w.heap.size+1<w2.heap.size:=by have:=hb.size;omega
 clear hN hb hbb;go_wp2;exact aG (v:=.agg #[.bool dn,.slice a2 (ws X).length c2,.int .i64 de]) (by simp[results,Tryz.results86,go_sem,hc,hz]) rfl (Fin.QE (m:=w.heap.size+2) (by repeat (first | exact HF.o | refine Fin.alloc ?_ _ | refine Fin.set ?_ _ _ _ ae ae)) ae)
end
namespace B
open Go.RowKit
attribute [local go_sem] bF aH
theorem Ku(a c:Bool)(k l x y f g:Int)(w:World):(Op.equalIn 10000 146 (.agg #[.bool a,.int .i64 k,.int .i64 x,.int .u64 f]) (.agg #[.bool c,.int .i64 l,.int .i64 y,.int .u64 g])).run Tryz.prog w=.ok (a==c&&(k==l&&(x==y&&f==g))) w:=by
 have u3:=Tryz.underlying3;have u4:=Tryz.underlying4;have u23:=Tryz.underlying61;have hS:Tryz.prog.underlying 146=some (.struct (Tryz.prog.fieldsOf 146)):=by kernel_rfl
 have hp:Tryz.prog.stoodInHeld 146=false:=by kernel_rfl
 rw[show(10000:Nat)=9999+1 from rfl,run_equalIn_agg w 9999 146 _ _ hS hp];simp only[Program.fieldsOf,Tryz.underlying146];go_simp
 by_cases h1:a=c <;> by_cases h2:k=l <;> by_cases h3:x=y <;> by_cases h4:f=g <;> simp[h1,h2,h3,h4]
attribute [local go_sem] Ku
theorem fld0(a:Bool)(k x f:Int)(w:World):(Instr.field 146 (.agg #[.bool a,.int .i64 k,.int .i64 x,.int .u64 f]) 0).run Tryz.prog w=.ok (.bool a) w:=by kernel_rfl
theorem fld1(a:Bool)(k x f:Int)(w:World):(Instr.field 146 (.agg #[.bool a,.int .i64 k,.int .i64 x,.int .u64 f]) 1).run Tryz.prog w=.ok (.int .i64 k) w:=by kernel_rfl
theorem fld2(a:Bool)(k x f:Int)(w:World):(Instr.field 146 (.agg #[.bool a,.int .i64 k,.int .i64 x,.int .u64 f]) 2).run Tryz.prog w=.ok (.int .i64 x) w:=by kernel_rfl
theorem fld3(a:Bool)(k x f:Int)(w:World):(Instr.field 146 (.agg #[.bool a,.int .i64 k,.int .i64 x,.int .u64 f]) 3).run Tryz.prog w=.ok (.int .u64 f) w:=by kernel_rfl
attribute [local go_sem] fld0 fld1 fld2 fld3
end B
namespace B
open Go.RowKit
attribute [local go_sem] bF aH
theorem Dl(s:Bool)(e f:Nat)(he:e<2048)(hf:f<4503599627370496)(w:World) :
 Calls Tryz.prog 123 #[.float .f64 (bw s e f)] w fun r w'=>r=.returned (.float .f64 (bw false e f))/\w'=w:=by
 have h1:=Ia s e f he hf;go_enter Tryz.func123,Tryz.ntmps123;go_wp2;go_ret;exact⟨rfl,rfl⟩
end B
end Go.Proofs.YtfmfhehbdfhnbaaGreatDoor
