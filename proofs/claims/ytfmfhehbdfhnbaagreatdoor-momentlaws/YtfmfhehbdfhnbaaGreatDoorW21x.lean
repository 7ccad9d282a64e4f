import Derived.Test.YtfmfhehbdfhnbaaGreatDoorM7x
import Derived.Test.YtfmfhehbdfhnbaaGreatDoorBIeeex
import Derived.Deep.RegionWith
set_option linter.unusedVariables false
set_option linter.unusedSimpArgs false
set_option maxHeartbeats 16000000
set_option maxRecDepth 20000
namespace Go.Proofs.YtfmfhehbdfhnbaaGreatDoor
section
open Go.RowKit
theorem Md(X Y n m z:Nat)(hX:X<pw n)(hY:pw (m-1)*2^(31-z)<=Y)(hz:z<32)(hm:0<m)(hnm:m<=n):X*2^z<pw (n-m+1)*(Y*2^z):=by
 have h1:pw n=pw (n-m+1)*pw (m-1):=by rw[<-rX];congr 1;omega
 have h2:pw n<=pw (n-m+1)*Y:=by
  have h3:pw (m-1)*1<=pw (m-1)*2^(31-z):=iw _ (aZ _);rw[h1];exact iw _ ae
 have h3:X*2^z<pw (n-m+1)*Y*2^z:=dO ae (aZ z);rw[aM] at h3;exact h3
theorem Ij(ys:List Nat)(m:Nat)(hm:m=ys.length)(hy:Wf ys)(hm0:0<m)(htop:ys.getD (m-1) 0≠0) :
 ∃ z,z=32-bl (ys.getD (m-1) 0)/\z<32/\val ys≠0/\pw (m-1)*2^(31-z)<=val ys/\val ys<pw (m-1)*2^(32-z):=by
 have hl:=hy.get (m-1);have h1:=xJ _ hl;have h2:=eu _ htop;have h3:=iU _ htop;have h4:=iT (ys.getD (m-1) 0);have e:=bZ ys 0 (m-1) ae;rw[eP,show m-1+1=ys.length by omega,eQ] at e;have h5:=qb ys 0 (m-1) hy ae;generalize ys.getD (m-1) 0=t at *;have hp:=lI (m-1);have h6:pw (m-1)*2^(bl t-1)<=pw (m-1)*t:=iw _ h3;have h7:pw (m-1)*(t+1)<=pw (m-1)*2^bl t:=iw _ h4;rw[kz,fU] at h7;have h8:pw (m-1)*1<=pw (m-1)*t:=iw _ ae;refine⟨32-bl t,rfl,ae,ae,?_,?_⟩
 · rw[show 31-(32-bl t)=bl t-1 by omega];omega
 · rw[show 32-(32-bl t)=bl t by omega];omega
theorem Qa (xs ys:List Nat) (ao bo:Option Addr) (n cap m bG B:Nat) (w:World) (hn:n=xs.length) (hm:m=ys.length) (hm2:2<=m) (hnm:m<=n) (hc:n<=cap) (hcb:m<=bG) (hbig:n<=35184372088833)
 (hx:Wf xs) (hy:Wf ys) (htop:ys.getD (m-1) 0≠0) (hR:Rd B w ao xs) (hS:Rd B w bo ys) (hB:B<=w.heap.size) :
 Calls Tryz.prog 173 #[.slice ao n cap,.slice bo m bG] w fun r w'=>Two w.heap.size w' r (val xs/val ys) (val xs%val ys)/\Below w.heap.size w w':=by
 obtain⟨z,hz,hz32,hY0,jG,hY2⟩:=Ij ys m hm hy ae htop;obtain⟨Ke,yQ,Qb⟩:=UL (val ys) m z hY0 jG hY2 hz32 ae;obtain⟨b,ik,Pb,rfl,hbc⟩:=hS (by intro e;subst e;simp at hm;omega);have hbt:=hbc (m-1) ae;have htl:=hy.get (m-1);have L0:=Ii (ys.getD (m-1) 0) w htl;rw[<-hz] at L0;have U1:=hid (CY ys (some ⟨b,ik,none⟩) m bG B z 0 z w hm hcb ae hz32 ae hy hS hB);obtain⟨t,ht⟩:∃ t,ys.getD (m-1) 0=t:=⟨_,rfl⟩;rw[ht] at hbt L0 htl;have L1:=hid L0;obtain⟨V,hV⟩:∃ V,val ys*2^z=V:=⟨_,rfl⟩;rw[hV] at Ke yQ Qb U1
 have hX2:val xs*2^z<pw (n+1):=by
  have h1:=bM xs hx;rw[<-hn] at h1;have h2:=rZ z hz32;have h3:val xs*2^z<=pw n*2147483648:=kC ae h2;have h4:pw n*2147483648<pw (n+1):=by rw[cO,cu];exact dO aj (lI n)
  omega
 have Ik:=(aW _ _).2 hX2;have hst:=Md (val xs) (val ys) n m z (by rw[hn];exact bM xs hx) jG hz32 ae hnm;rw[hV] at hst;have HST:=(aA hst);have HH:=(qs12 hn hm hx hy hR hS Ke yQ Qb hV hY0 Ik);clear hst;clear L0 hn hm hx hy htop hR hS hz hY0 jG hY2 Ke yQ Qb hV hX2 Ik hbc ht;have hm1:(1:Int)<=(m:Int):=ae
 have hmne:((m:Int)==1)=false:=by simp;omega
 go_enter Tryz.func173,Tryz.ntmps173;go_wp2_with fail;refine L1.o.mono ?_;rintro r w0 ⟨rfl,rfl⟩;go_wp2_with fail;refine U1.o.mono ?_;rintro r w1 ⟨vv,rfl,hN1,hb1⟩;obtain⟨hn,hm,hx,hy,hR,hS,Ke,yQ,Qb,hV,hY0,Ik⟩:=HH.o;obtain⟨av,cv,rfl,hcv,hcm,hRv⟩:=hN1.shape;rw[Ke] at *;obtain⟨gu,hgu⟩:=ah (w1.heap.size);obtain⟨W2,hW2⟩:=ah (w1.alloc (.cells (madeCells #[.int .u32 0] (n+1)) 51));have hO2:Own W2 gu (List.replicate (n+1) 0):=by rw[hW2,hgu];exact Own.made w1 _
 have hB2:Below gu w1 W2:=by rw[hW2,hgu];exact(aD _ _).alloc (aC _) _
 have hmk:=eF ((n:Int)+1) (n+1) ae ae w1;rw[<-hW2,<-hgu] at hmk;have hs1:=hb1.size;have hs2:=hB2.size;have hg2:=hO2.lt;have U2:=hid (CY xs ao n cap B z 0 z W2 hn hc ae hz32 ae hx ((hR.below (hb1.mono hB)).below (hB2.mono ae)) ae);have H1:=(nU hN1 hb1 hRv hO2 hB2 hgu hg2);clear hn hm hx hy hR hS Ke yQ Qb hV hY0 Ik hN1 hb1 hRv hO2 hB2 hW2 hs1 hs2 L1 U1 hbt hg2 hgu;go_wp2_with fail;refine U2.o.mono ?_;rintro r W3 ⟨va,rfl,fV,hb3⟩;obtain⟨aa,ca,rfl,hca,hcam,hRa⟩:=fV.shape;obtain⟨hn,hm,hx,hy,hR,hS,Ke,yQ,Qb,hV,hY0,Ik⟩:=HH.o;obtain⟨hN1,hb1,hRv,hO2,hB2,Me,hg2⟩:=H1.o;obtain⟨W4,hcp,hO4,hb4⟩:=kG W3 gu (n+1) (n+1) aa (ws (val xs*2^z)).length ca W3.heap.size 3 (List.replicate (n+1) 0) (ws (val xs*2^z)) (hO2.below hb3 hg2) aQ rfl hRa Ik;obtain⟨gq,xK⟩:=ah (W4.heap.size);obtain⟨W5,Il⟩:=ah (W4.alloc (.cells (madeCells #[.int .u32 0] (n-m+1)) 51));have Kj:Own W5 gq (List.replicate (n-m+1) 0):=by rw[Il,xK];exact Own.made W4 _
 have hmk5:=eF ((n:Int)-m+1) (n-m+1) ae ae W4;rw[<-Il,<-xK] at hmk5;obtain⟨L,hL⟩:=ah (ws (val xs*2^z)++(List.replicate (n+1) 0).drop (ws (val xs*2^z)).length);rw[<-hL] at hO4;have uS:L.length=n+1:=by rw[hL,wh,sZ,yz];omega
 have uT:Wf L:=by rw[hL,Cw];exact(dP _).append (Wf.zeros _)
 have G7:val L=val xs*2^z:=by rw[hL,val_append,ak,Cw,qM];simp
 have hs3:=hb3.size;have hs4:=hb4.size;have Qc:gu<gq:=by rw[xK];have:=hO4.lt;omega
 have Qd:Below gu w1 W5:=by
  rw[Il];have a1:Below gu w1 W3:=hB2.trans (hb3.mono ae);have a2:Below gu w1 W4:=But.below a1 hb4 ae (aC _);exact a2.alloc ae _
 have Qe:Own W5 gu L:=by rw[Il];exact hO4.alloc _
 have H2:=(nU Kj Qe uS uT G7 Qc Qd);have hgq1:gu<gq:=Qc;clear hn hm hx hy hR hS Ke yQ Qb hV hY0 Ik hN1 hb1 hRv hO2 hB2 Me hg2 fV hb3 hRa hO4 hb4 xK Il Kj hL uS uT G7 hs3 hs4 Qd Qe U2 Qc hca hcam;have hca2:m<=cv:=ae
 have e5:((n-m:Nat):Int)=(n:Int)-m:=ae
 go_wp2
 go_loopg [10] (n-m+1) (fun k i wr=>∃ (M Q:List Nat),k<=n-m+1/\i=.int .i64 ((k:Int)-1)/\Hid (Own wr gu M)/\Hid (Own wr gq Q) /\
  Aside (Wf M/\Wf Q/\M.length=n+1/\Q.length=n-m+1/\val L=pw k*sg Q k (n-m+1-k)*V+val M/\val M<pw k*V/\Below gu w1 wr))
 case atStart =>
  obtain⟨Kj,Qe,uS,uT,G7,Qc,Qd⟩:=H2.o;refine⟨L,List.replicate (n-m+1) 0,aC _,?_,Qe,Kj,uT,Wf.zeros _,uS,aQ,?_,?_,Qd⟩
  · first | rfl | (congr 1;omega)
  · rw[Bn,fK];simp
  · rw[G7];exact HST.o
 case round =>
  obtain⟨M,Q,hk,rfl,HM,HQ,HA⟩:=hrel
  by_cases hk0:gk=0
  · subst hk0;obtain⟨dQ,YR,iF,Qf,hinv,CZ,hbel⟩:=HA.o;have T1:=hid (fG Q (some ⟨gq,0,none⟩) (n-m+1) (n-m+1) (gq+1) wr Qf.symm (aC _) ae (by simpa [Qf,iR] using Rd.iA HQ.o 0 (n-m+1)));have T2:=hid (fG M (some ⟨gu,0,none⟩) (n+1) (n+1) (gu+1) wr iF.symm (aC _) ae (by simpa [iF,iR] using Rd.iA HM.o 0 (n+1)));have hnlM:=kW M
    have hRM:Rd (gu+1) wr (some ⟨gu,0,none⟩) (M.take (nl M)):=by
     have:=Rd.iA HM.o 0 (nl M);simpa using this
    have D:=hid (yP (M.take (nl M)) (some ⟨gu,0,none⟩) (nl M) (n+1) (gu+1) z 0 z wr (by rw[ig,iO hnlM]) ae ae hz32 ae ae (dQ.take _) hRM (by have:=HM.o.lt;omega));rw[mP M dQ] at D;clear dQ YR iF Qf hinv CZ hbel hnlM hRM;go_wp2_with fail;refine T1.o.mono ?_;rintro r wt1 ⟨rfl,rfl⟩;go_wp2_with fail;refine T2.o.mono ?_;rintro r wt2 ⟨rfl,rfl⟩;go_wp2_with fail;refine D.o.mono ?_;rintro r wd ⟨vr,rfl,Eh,hbr⟩;have HD:=(aP Eh hbr);clear Eh hbr T1 T2 D;go_wp2
    go_ret2
    obtain⟨Eh,hbr⟩:=HD.o;obtain⟨hn,hm,hx,hy,hR,hS,Ke,yQ,Qb,hV,hY0,Ik⟩:=HH.o;obtain⟨hN1,hb1,hRv,hO2,hB2,Me,hg2⟩:=H1.o;obtain⟨Kj,Qe,uS,uT,G7,Qc,Qd⟩:=H2.o;obtain⟨dQ,YR,iF,Qf,hinv,CZ,hbel⟩:=HA.o;rw[j3,jq] at CZ hinv;rw[Nat.sub_zero,<-Qf,eQ,G7,<-hV] at hinv;rw[<-hV] at CZ;obtain⟨hq,hr⟩:=UM (val xs) (val ys) (2^z) (val Q) (val M) (aZ z) hinv CZ;rw[<-hq,<-hr];have hsz:w0.heap.size<=gu:=by rw[Me];exact hb1.size
    have NQ:=Nt.iA (lo:=w0.heap.size) HQ.o ae YR (by rw[Qf];unfold maxLen;omega);rw[Qf] at NQ;have hwr:gu<=wt2.heap.size:=by have:=HM.o.lt;omega
    refine⟨⟨_,_,rfl,NQ.below hbr,Eh.mono ae,tL (hi:=0) NQ Eh (aC _)⟩,?_⟩;exact((hb1.trans (hbel.mono hsz))).trans (hbr.mono ae)
  · obtain⟨i,rfl⟩:∃ i,gk=i+1:=⟨gk-1,ae⟩;obtain⟨hn,hm,hx,hy,hR,hS,Ke,yQ,Qb,hV,hY0,Ik⟩:=HH.o;obtain⟨hN1,hb1,hRv,hO2,hB2,Me,hg2⟩:=H1.o;obtain⟨dQ,YR,iF,Qf,hinv,CZ,hbel⟩:=HA.o;obtain⟨k,hk2⟩:∃ k,m=k+2:=⟨m-2,ae⟩;obtain⟨hz0,hhead⟩:=PZ M i m V dQ ae yQ CZ
    have T:=hid (Ey M (ws V) gu i (n+1-i) av m cv gu wr k hk2 HM.o ae ae ae ae dQ (dP V) ((Me ▸ hRv).below hbel) (aC _)
     (by rw[show k+1=m-1 by omega];exact Qb) (by rw[show k+3=m+1 by omega,ak];exact hhead))
    have hik:(i:Int)<(n:Int)-m+1:=ae
    have HI:=(aP hz0 hk2);clear hn hm hx hy hR hS Ke yQ Qb hV hY0 Ik hN1 hb1 hRv hO2 hB2 Me hg2 dQ YR iF Qf hinv CZ hbel hz0 hhead hk2 hk0;go_wp2_with fail;rw[show i+m+1-i=m+1 by omega];refine T.o.mono ?_;rintro r w2 ⟨o,M2,rfl,ho,UO,UQ,hout,hsum,hlt2,aI⟩;have Uu:=HQ.o.but aI ae;have hqc:=Uu.cell i (by rw[HA.o.r3.1];omega);have hqf:=Uu.frozen i;have HJ:=(uI ho UO UQ hout hsum hlt2 aI Uu);clear ho UO UQ hout hsum hlt2 aI Uu T;go_wp2;go_roundg i
    case measure=>omega
    case rel =>
     obtain⟨ho,UO,UQ,hout,hsum,hlt2,aI,Uu⟩:=HJ.o;obtain⟨dQ,YR,iF,Qf,hinv,CZ,hbel⟩:=HA.o;obtain⟨hz0,hk2⟩:=HI.o;rw[ak] at hsum hlt2;have hQr:i+1+(n-m+1-(i+1))=Q.length:=ae
     obtain⟨hX,hlt3⟩:=PY M M2 Q i m (n-m+1-(i+1)) V o (val L) dQ ae hout hinv hz0 hQr hsum hlt2;refine⟨M2,Q.set i o,ae,by first | go_num | (congr 1;omega),UO.setOther (by simp;omega) _,Uu.set i o,UQ,YR.set _ _ ho,by rw[hout.1,iF],by simp[Qf],?_,hlt3,(But.below hbel aI (by have:=HM.o.lt;omega) (aC _)).setCell (by simp;omega) _⟩;rw[show n-m+1-i=n-m+1-(i+1)+1 by omega];exact hX
theorem BJ(xs:List Nat):sg (xs++[0]) 0 xs.length=val xs:=by simp[sg]
theorem EI{xs:List Nat}(h:Wf xs):Wf (xs++[0]):=h.append (by intro x hx;simp at hx;omega)
theorem yR(n:Nat):(List.replicate (n+1) 0).drop n=[0]:=by rw[Cw,Nat.add_sub_cancel_left];rfl
theorem y6{P:Prop}(h:P:=by
 have e:val (M.set n c)=sg (M.set n c) 0 (n+1):=by rw[<-eQ];simp[hl]
 have e2:=di M 0 n c ae;rw[eP] at e2;rw[e,e2];rw[hn,BJ,<-hn] at hsum;rw[cu c] at hsum;exact hsum):P:=h
theorem YS (xs ys:List Nat) (ao bo:Option Addr) (n cap m bG B:Nat) (w:World) (hn:n=xs.length) (hm:m=ys.length) (hnm:m<=n) (hc:n<=cap) (hcb:m<=bG) (hbig:n<=35184372088833)
 (hx:Wf xs) (hy:Wf ys) (hR:Rd B w ao xs) (hS:Rd B w bo ys) (hB:B<=w.heap.size) :
 Calls Tryz.prog 172 #[.slice ao n cap,.slice bo m bG] w fun r w'=>∃ v,r=.returned v/\Nt w.heap.size w' v (val xs+val ys)/\Below w.heap.size w w':=by
 obtain⟨W1,hW1⟩:=ah (w.alloc (.cells (madeCells #[.int .u32 0] (n+1)) 51));have oM:Own W1 w.heap.size (List.replicate (n+1) 0):=by rw[hW1];exact Own.made w (n+1)
 have hB1:Below w.heap.size w W1:=by rw[hW1];exact(aD _ _).alloc (aC _) _
 obtain⟨W2,hcp,hO2,hb2⟩:=kG W1 w.heap.size (n+1) (n+1) ao n cap B 3 (List.replicate (n+1) 0) xs oM aQ hn (hR.below (hB1.mono hB)) ae;rw[yR] at hO2;have hB2:Below w.heap.size w W2:=But.below hB1 hb2 hB1.size (aC _);have H:=hid (uR (xs++[0]) ys w.heap.size 0 n (n+1) bo m bG B W2 hO2 (by simp;omega) hm ae ae ae (EI hx) hy (hS.below (hB2.mono hB)) hB);have hmk:=eF ((n:Int)+1) (n+1) ae ae w;rw[<-hW1] at hmk;have HH:=(fO hn hm hx hB2 hB);clear hn hm hx hy hR hS oM hB1 hO2 hb2 hB2 hB hW1;go_enter Tryz.func172,Tryz.ntmps172;go_wp2_with fail;refine H.o.mono ?_;rintro r W3 ⟨M,c,rfl,hc1,hO3,hM,hout,hsum,aI⟩;obtain⟨hn,hm,hx,hB2,hB⟩:=HH.o;have hl:M.length=n+1:=by rw[hout.1];simp;omega
 have hcl:=hO3.cell n ae;have hfr:=hO3.frozen n;have hO4:=hO3.set n c;have T:=hid (fG (M.set n c) (some ⟨w.heap.size,0,none⟩) (n+1) (n+1) (w.heap.size+1) _ (by simp[hl]) (aC _) ae (by simpa [hl,iR] using Rd.iA hO4 0 (n+1)));have HI:=(jJ hc1 hO4 hM hsum aI hl);clear hn hm hx hB2 hB hc1 hO3 hM hout hsum aI hO4 H hl;go_wp2_with fail;refine T.o.mono ?_;rintro r w1 ⟨rfl,rfl⟩;go_wp2;go_ret;obtain⟨hn,hm,hx,hB2,hB⟩:=HH.o;obtain⟨hc1,hO4,hM,hsum,aI,hl⟩:=HI.o
 have hv:val (M.set n c)=val xs+val ys:=by
  exact y6
 refine⟨_,rfl,?_,But.below hB2 (aI.set n _) hB2.size (aC _)⟩;have N:=Nt.iA (lo:=w.heap.size) hO4 (aC _) (hM.set _ _ ae) (by simp[hl];unfold maxLen;omega);rw[hv] at N;simpa [hl] using N
theorem add_lt (xs ys:List Nat) (ao bo:Option Addr) (n cap m bG B:Nat) (w:World) (hn:n=xs.length) (hm:m=ys.length) (hnm:m<n) (hc:n<=cap) (hcb:m<=bG) (hbig:n<=35184372088833)
 (hx:Wf xs) (hy:Wf ys) (hR:Rd B w ao xs) (hS:Rd B w bo ys) (hB:B<=w.heap.size) :
 Calls Tryz.prog 172 #[.slice bo m bG,.slice ao n cap] w fun r w'=>∃ v,r=.returned v/\Nt w.heap.size w' v (val xs+val ys)/\Below w.heap.size w w':=by
 obtain⟨W1,hW1⟩:=ah (w.alloc (.cells (madeCells #[.int .u32 0] (n+1)) 51));have oM:Own W1 w.heap.size (List.replicate (n+1) 0):=by rw[hW1];exact Own.made w (n+1)
 have hB1:Below w.heap.size w W1:=by rw[hW1];exact(aD _ _).alloc (aC _) _
 obtain⟨W2,hcp,hO2,hb2⟩:=kG W1 w.heap.size (n+1) (n+1) ao n cap B 3 (List.replicate (n+1) 0) xs oM aQ hn (hR.below (hB1.mono hB)) ae;rw[yR] at hO2;have hB2:Below w.heap.size w W2:=But.below hB1 hb2 hB1.size (aC _);have H:=hid (uR (xs++[0]) ys w.heap.size 0 n (n+1) bo m bG B W2 hO2 (by simp;omega) hm ae ae ae (EI hx) hy (hS.below (hB2.mono hB)) hB);have hmk:=eF ((n:Int)+1) (n+1) ae ae w;rw[<-hW1] at hmk;have HH:=(fO hn hm hx hB2 hB);clear hn hm hx hy hR hS oM hB1 hO2 hb2 hB2 hB hW1;go_enter Tryz.func172,Tryz.ntmps172;go_wp2_with fail;refine H.o.mono ?_;rintro r W3 ⟨M,c,rfl,hc1,hO3,hM,hout,hsum,aI⟩;obtain⟨hn,hm,hx,hB2,hB⟩:=HH.o;have hl:M.length=n+1:=by rw[hout.1];simp;omega
 have hcl:=hO3.cell n ae;have hfr:=hO3.frozen n;have hO4:=hO3.set n c;have T:=hid (fG (M.set n c) (some ⟨w.heap.size,0,none⟩) (n+1) (n+1) (w.heap.size+1) _ (by simp[hl]) (aC _) ae (by simpa [hl,iR] using Rd.iA hO4 0 (n+1)));have HI:=(jJ hc1 hO4 hM hsum aI hl);clear hn hm hx hB2 hB hc1 hO3 hM hout hsum aI hO4 H hl;go_wp2_with fail;refine T.o.mono ?_;rintro r w1 ⟨rfl,rfl⟩;go_wp2;go_ret;obtain⟨hn,hm,hx,hB2,hB⟩:=HH.o;obtain⟨hc1,hO4,hM,hsum,aI,hl⟩:=HI.o
 have hv:val (M.set n c)=val xs+val ys:=by
  exact y6
 refine⟨_,rfl,?_,But.below hB2 (aI.set n _) hB2.size (aC _)⟩;have N:=Nt.iA (lo:=w.heap.size) hO4 (aC _) (hM.set _ _ ae) (by simp[hl];unfold maxLen;omega);rw[hv] at N;simpa [hl] using N
theorem Kk (xs ys:List Nat) (ao bo:Option Addr) (n cap m bG B:Nat) (w:World) (hn:n=xs.length) (hm:m=ys.length) (hc:n<=cap) (hcb:m<=bG) (hbig:n<=35184372088833) (hbig2:m<=35184372088833)
 (hx:Wf xs) (hy:Wf ys) (hR:Rd B w ao xs) (hS:Rd B w bo ys) (hB:B<=w.heap.size) :
 Calls Tryz.prog 172 #[.slice ao n cap,.slice bo m bG] w fun r w'=>∃ v,r=.returned v/\Nt w.heap.size w' v (val xs+val ys)/\Below w.heap.size w w':=by
 by_cases h:m<=n
 · exact YS xs ys ao bo n cap m bG B w hn hm h hc hcb hbig hx hy hR hS hB
 · have:=add_lt ys xs bo ao m bG n cap B w hm hn ae hcb hc hbig2 hy hx hS hR hB;rw[pV] at this;exact this
end
section
theorem amgm(u v:Nat):4*u*v<=(u+v)*(u+v):=by
 rcases Nat.le_total u v with h|h
 · obtain⟨d,rfl⟩:∃ d,v=u+d:=⟨v-u,ae⟩;have:(u+(u+d))*(u+(u+d))=4*u*(u+d)+d*d:=by grind
   omega
 · obtain⟨d,rfl⟩:∃ d,u=v+d:=⟨u-v,ae⟩;have:(v+d+v)*(v+d+v)=4*(v+d)*v+d*d:=by grind
   omega
theorem Qao{P:Prop}(h:P:=by
 have h11:4*u*q+4*u*u=4*u*b+4*u:=by
  have:4*u*(q+u)=4*u*(b+1):=by rw[hq']
  rw[kz,kz] at this;omega
 omega):P:=h
theorem YT(N A p q:Nat)(hp:0<p)(hA:p<=A)(h1:4*p*p*((A-1)*(A-1))<N)(h2:N<4*p*p*((A+1)*(A+1)))(hq:q=N/(4*p*A)) :
 N<(p*A+q+1)*(p*A+q+1)/\(p*A+q-1)*(p*A+q-1)<N:=by
 obtain⟨u,hu⟩:=ah (p*A);have hup:p*p<=u:=by rw[hu];exact iw _ hA
 have hu0:0<u:=by rw[hu];exact iq hp ae
 have e4:4*p*A=4*u:=by rw[hu,aM]
 rw[e4] at hq;have hq1:4*u*q<=N:=by rw[hq];exact Nat.mul_div_le N (4*u)
 have hq2:N<4*u*(q+1):=by
  have:=Nat.lt_mul_div_succ N (show 0<4*u by omega);rw[hq];exact this
 rw[<-hu];constructor
 · have:=amgm u (q+1);rw[show u+q+1=u+(q+1) by omega];omega
 · obtain⟨b,hb⟩:=ah (u+q-1);rw[<-hb]
   by_cases hlt:b*b<N
   · exact hlt
   · exfalso;have hq':q+u=b+1:=ae
     have g1:4*p*p*((A-1)*(A-1))=2*(p*(A-1))*(2*(p*(A-1))):=by grind
     have g2:4*p*p*((A+1)*(A+1))=4*u*u+8*u*p+4*(p*p):=by rw[hu];grind
     have g3:p*(A-1)+p=u:=by
      rw[hu];obtain⟨a,rfl⟩:∃ a,A=a+1:=⟨A-1,ae⟩;rw[mI,kz];omega
     rw[g1] at h1;rw[g2] at h2
     by_cases hc:b<=2*(p*(A-1))
     · have:=kC hc hc;omega
     · -- above 2 (u-p)
       by_cases hc2:2*u+2*p<=b
       · have h5:u+2*p+1<=q:=ae
         have h6:4*u*(u+2*p+1)<=4*u*q:=iw _ h5;have h7:4*u*(u+2*p+1)=4*u*u+8*u*p+4*u:=by grind
         omega
       · -- between: (b-2u)^2<4 p^2 <= 4 u
         rcases Nat.le_total b (2*u) with hl|hl
         · obtain⟨d,hd⟩:∃ d,2*u=b+d:=⟨2*u-b,ae⟩;have hd2:d<2*p:=ae
           have h8:d*d<2*p*(2*p):=rH hd2 hd2;have h9:2*p*(2*p)=4*(p*p):=by grind
           have h10:b*b+4*u*u=4*u*b+d*d:=by
            have:b=2*u-d:=ae
            have e:4*u*u=2*u*(2*u):=by grind
            rw[e,hd];have e2:4*u*b=2*(2*u)*b:=by grind
            rw[e2,hd]
            grind
           exact Qao
         · obtain⟨d,hd⟩:∃ d,b=2*u+d:=⟨b-2*u,ae⟩;have hd2:d<2*p:=ae
           have h8:d*d<2*p*(2*p):=rH hd2 hd2;have h9:2*p*(2*p)=4*(p*p):=by grind
           have h10:b*b+4*u*u=4*u*b+d*d:=by rw[hd];grind
           exact Qao
def Mf(X c e A:Nat):Prop:=(A-1)*(A-1)<X/4^(c-e)/\X/4^(c-e)<(A+1)*(A+1)/\2^e<=A/\0<A
theorem UR(X c e A:Nat)(he:e<=c)(hX:4^c<=X)(h:X/4^(c-e)<(A+1)*(A+1)):2^e<=A:=by
 have h1:4^e<=X/4^(c-e):=by
  rw[rF (pW aj),<-aJ,show e+(c-e)=c by omega];exact hX
 have h2:4^e=2^e*2^e:=by rw[<-rJ]
 by_cases hlt:2^e<=A
 · exact hlt
 · exfalso;have:=kC (show A+1<=2^e by omega) (show A+1<=2^e by omega);omega
theorem Im(X c:Nat)(h1:4^c<=X)(h2:X<4^(c+1)):Mf X c 0 1:=by
 have hp:0<4^c:=pW aj;have a:1<=X/4^c:=(rF hp).2 ae;have b:X/4^c<4:=(rE hp).2 (by rw[fC] at h2;omega);exact⟨by simpa using (by omega:0<X/4^c),by simpa using b,aQ,ae⟩
theorem Mg(X c e d A q:Nat)(hX:4^c<=X)(hed:e<d)(hd2:d<=2*e+1)(hdc:d<=c)(h:Mf X c e A)(hq:q=X/2^(2*c-e-d+1)/A):Mf X c d (A*2^(d-e-1)+q):=by
 obtain⟨h1,h2,h3,h4⟩:=h;obtain⟨k,hk⟩:∃ k,d=e+k+1:=⟨d-e-1,ae⟩;obtain⟨p,hp⟩:=ah (2^k);obtain⟨N,hN⟩:=ah (X/4^(c-d));have hp0:0<p:=by rw[hp];exact aZ _
 have e1:4^(k+1)=4*p*p:=by
  rw[hp,fC,cu,aM,<-rJ]
 have hNe:X/4^(c-e)=N/(4*p*p):=by
  rw[hN,<-e1,p9,<-aJ];congr 2;omega
 have hpp:0<4*p*p:=iq (iq aj hp0) hp0;rw[hNe] at h1 h2
 have g1:4*p*p*((A-1)*(A-1))<N:=by
  have:=(rF hpp).1 h1;rw[cu];rw[yo] at this;omega
 have g2:N<4*p*p*((A+1)*(A+1)):=by
  rw[cu];exact(rE hpp).1 h2
 have hq':q=N/(4*p*A):=by
  have e2:2^(2*c-e-d+1)=4^(c-d)*(4*p):=by
   have:(4:Nat)=2^2:=rfl;rw[hp,this,<-kD,<-aJ,<-aJ];congr 1;omega
  rw[hq,e2,hN,p9,p9];congr 1;rw[aM]
 have hpA:p<=A:=dW (by rw[hp];exact fe aj ae) h3;obtain⟨r1,r2⟩:=YT N A p q hp0 hpA g1 g2 hq';have ea:A*2^(d-e-1)+q=p*A+q:=by rw[show d-e-1=k by omega,<-hp,cu]
 rw[ea];refine⟨by rw[<-hN];exact r2,by rw[<-hN];exact r1,UR X c d _ hdc hX (by rw[<-hN];exact r1),?_⟩;have:=iq hp0 h4;omega
theorem C8(X c e A:Nat)(h:Mf X c e A):A<=X:=by
 obtain⟨h1,h2,h3,h4⟩:=h;have a:X/4^(c-e)<=X:=p8 _ _;rcases A with _|A
 · omega
 · rw[mI] at h1
   have:A<=A*A:=by
    rcases A with _|A
    · omega
    · exact Bo _ ae
   omega
theorem Qg(X c A:Nat)(h:Mf X c c A):(A-1)*(A-1)<X/\X<(A+1)*(A+1):=by
 obtain⟨h1,h2,h3,h4⟩:=h;rw[Bn,gK,wm] at h1 h2;exact⟨h1,h2⟩
def o5(X r:Nat):Prop:=r*r<=X/\X<(r+1)*(r+1)
theorem o5.unique{X r s:Nat}(h:o5 X r)(k:o5 X s):r=s:=by
 rcases lZ r s with h1|h1|h1
 · exfalso;have:=kC (show r+1<=s from h1) (show r+1<=s from h1);have:=h.2;have:=k.1;omega
 · exact h1
 · exfalso;have:=kC (show s+1<=r from h1) (show s+1<=r from h1);have:=k.2;have:=h.1;omega
end
section
open Go.RowKit
theorem Kl (xs ys:List Nat) (ao bo:Option Addr) (n cap m bG B:Nat) (w:World) (hn:n=xs.length) (hm:m=ys.length) (hm0:0<m) (hc:n<=cap) (hcb:m<=bG) (hbig:n<=35184372088833)
 (hx:Wf xs) (hy:Wf ys) (htop:ys.getD (m-1) 0≠0) (hR:Rd B w ao xs) (hS:Rd B w bo ys) (hB:B<=w.heap.size) :
 Calls Tryz.prog 173 #[.slice ao n cap,.slice bo m bG] w fun r w'=>Two w.heap.size w' r (val xs/val ys) (val xs%val ys)/\Below w.heap.size w w':=by
 by_cases h1:n<m
 · exact P9 xs ys ao bo n cap m bG B w hn hm h1 hc hbig hx hy htop hR hB
 · by_cases h2:m=1
   · subst h2;exact div_one xs ys ao bo n cap bG B w hn hm ae hc hcb hbig hx hy htop hR hS hB
   · exact Qa xs ys ao bo n cap m bG B w hn hm ae ae hc hcb hbig hx hy htop hR hS hB
theorem Qh(X:Nat)(h:X≠0):(ws X).getD ((ws X).length-1) 0≠0:=by
 have h1:nl (ws X)≠0:=by rw[J7];intro e;exact h ((bU X).1 e)
 have:=J8 (ws X) h1;rwa [J7] at this
theorem jO{X Y:Nat}(h:X<=Y):(ws X).length<=(ws Y).length:=(aW X _).2 (iP h (iy Y))
theorem Nt.one(w:World):Nt w.heap.size (w.alloc (.cells #[.int .u32 1] 51)) (.slice (some ⟨w.heap.size,0,none⟩) 1 1) 1:=by
 have hO:Own (w.alloc (.cells #[.int .u32 1] 51)) w.heap.size [1]:=by unfold Own;rw[gY];rfl
 have:=Nt.iA (lo:=w.heap.size) hO (aC _) (Wf.cons ae Wf.nil) (by simp[maxLen]);exact this
theorem uU:ws 1=[1]:=by rw[qw 1 ae,show 1/4294967296=0 from rfl,bO]
theorem C9(xs:List Nat)(ao:Option Addr)(n cap B:Nat)(w:World)(hn:n=xs.length)(hc:n<=cap)(hbig:n<=35184372088832)(hx:Wf xs)(hX0:val xs≠0)(hR:Rd B w ao xs)(hB:B<=w.heap.size) :
 Calls Tryz.prog 161 #[.slice ao n cap] w fun r w'=>∃ v A,r=.returned v/\Nt w.heap.size w' v A/\(A-1)*(A-1)<val xs/\val xs<(A+1)*(A+1)/\0<A/\A<=val xs/\Below w.heap.size w w':=by
 obtain⟨c,hc'⟩:∃ c,c=(bl (val xs)-1)/2:=⟨_,rfl⟩;have hb0:=eu _ hX0;have hb1:=iU _ hX0;have hb2:=iT (val xs)
 have hbn:bl (val xs)<=32*n:=by
  have h1:=bM xs hx;rw[<-hn] at h1;have h2:pw n=2^(32*n):=by rw[<-fT (32*n),nL];simp
  rw[h2] at h1;have:=(ku (a:=2) aj).1 (iP hb1 h1);omega
 have YU:4^c<=val xs:=by
  have:(4:Nat)=2^2:=rfl;rw[this,<-kD];exact dW (fe aj ae) hb1
 have hcX2:val xs<4^(c+1):=by
  have:(4:Nat)=2^2:=rfl;rw[this,<-kD];exact iQ hb2 (fe aj ae)
 have L1:=hid (qO xs ao n cap B w hn hc ae hx hR);have hbb:bl (val xs)<=1125899906842624:=ae
 have eL:((bl (val xs):Nat):Int)-1=((bl (val xs)-1:Nat):Int):=ae
 obtain⟨bb,hbbe⟩:∃ bb,bl (val xs)=bb:=⟨_,rfl⟩;rw[hbbe] at L1 hc' hb0 hbb hbn;have e1:((bb:Int)-1)/2=(c:Int):=ae
 have hcb:c<=562949953421312:=ae
 have L2:=hid (fun w=>PU c w ae);have hsp:=Im (val xs) c YU hcX2;have HH:=(jJ hn hx hX0 hR YU hsp);obtain⟨X,YV⟩:∃ X,val xs=X:=⟨_,rfl⟩;rw[YV] at HH |-;have HX:=(aP YV hbn)
 have hbc:bl c<=64:=by
  by_cases h0:c=0
  · rw[h0];decide
  · have h1:=iU c h0;have:2^(bl c-1)<2^63:=ae
    have:=(ku (a:=2) aj).1 this;omega
 have hbl1:=iT c;have yS:=iU c;have HC:=(aP hbl1 yS);obtain⟨t0,ht0⟩:∃ t,bl c=t:=⟨_,rfl⟩;rw[ht0] at L2 hbc HC;have HC0:Aside (0<t0->c≠0):=by intro h1 h2;rw[<-ht0,h2] at h1;exact absurd h1 aj
 clear hn hx hX0 hR YU hcX2 hb0 hb1 hb2 hbn eL hbbe hc' hsp YV ht0 hbl1 yS;go_enter Tryz.func161,Tryz.ntmps161;go_wp2_with fail;refine L1.o.mono ?_;rintro r w0 ⟨rfl,rfl⟩;go_wp2_with fail;refine(aF (L2.o _)) ?_;rintro r w1 ⟨rfl,rfl⟩;clear L1 L2;go_wp2
 go_loopg [4,5,6] t0 (fun gk rv ev sv wr=>∃ (A e:Nat) (ra:Option Addr) (rc:Nat),rv=.slice ra (ws A).length rc/\ev=.int .i64 (e:Nat)/\sv=.int .i64 ((gk:Int)-1)/\gk<=t0 /\
  Aside (e=c/2^gk/\Mf X c e A/\Nt w0.heap.size wr (.slice ra (ws A).length rc) A/\Below w0.heap.size w0 wr))
 case atStart =>
  obtain⟨hn,hx,hX0,hR,YU,hsp⟩:=HH.o;refine⟨1,0,some ⟨w0.heap.size,0,none⟩,1,by rw[uU];rfl,rfl,rfl,aC _,?_,hsp,?_,(aD _ _).alloc (aC _) _⟩
  · rw[iN HC.o.1]
  · rw[uU];exact Nt.one w0
 case round =>
  obtain⟨A,e,ra,rc,rfl,rfl,rfl,hk,HA⟩:=hrel
  by_cases hk0:gk=0
  · subst hk0;go_wp2;go_ret;obtain⟨he,hN,G8,hbel⟩:=HA.o;rw[gK,wm] at he;subst he;obtain⟨h1,h2⟩:=Qg X e A hN;exact⟨_,A,rfl,G8,h1,h2,hN.2.2.2,C8 _ _ _ _ hN,hbel⟩
  · obtain⟨s,rfl⟩:∃ s,gk=s+1:=⟨gk-1,ae⟩;obtain⟨d,hd⟩:=ah (c/2^s);have ed:(c:Int)/2^s=(d:Int):=by rw[hd];simp
    obtain⟨he,hN,G8,hbel⟩:=HA.o;have he2:e=d/2:=by rw[he,hd,fC,p9]
    have hd1:1<=d:=by
     have hc0:c≠0:=HC0.o ae;have:=HC.o.2 hc0;rw[hd,rF (aZ s),jq];exact dW (fe aj ae) this
    have hdc:d<=c:=by rw[hd];exact p8 _ _
    have hed:e<d:=ae
    have hd2:d<=2*e+1:=ae
    obtain⟨hn,hx,hX0,hR,YU,hsp⟩:=HH.o;obtain⟨YV,hbn⟩:=HX.o;obtain⟨D,hD⟩:=ah (2*c-e-d+1);obtain⟨sh,hsh⟩:=ah (d-e-1);have eD:2*(c:Int)-e-d+1=(D:Int):=ae
    have eS:(d:Int)-e-1=(sh:Int):=ae
    have hstep:=Mg X c e d A _ YU hed hd2 hdc hN rfl;rw[<-hD,<-hsh] at hstep;have hs0:=hbel.size;have D1:=hid (yP xs ao n cap B D (D/32) (D%32) wr hn hc ae ae ae ae hx (hR.below (hbel.mono hB)) ae);rw[YV] at D1;have hcn:c<=16*n:=ae
    have Mh:X<pw n:=by rw[<-YV,hn];exact bM xs hx
    have uV:=C8 _ _ _ _ hN;have uG:=hN.2.2.2;have HI:=(nU hd he2 hstep hs0 Mh uV uG);have hedi:(e:Int)<(d:Int):=ae
    have hdci:(d:Int)<=(c:Int):=ae
    clear hd he hN G8 hbel he2 hd1 hdc hed hd2 hn hx hX0 hR YU hsp YV hbn hD hsh hstep hs0 Mh uV uG hk0;go_wp2_with fail
    try rw[eD]
    refine D1.o.mono ?_;rintro r w2 ⟨v2,rfl,kQ,hb2⟩;obtain⟨a2,c2,rfl,hc2,hc2m,hR2⟩:=kQ.shape;obtain⟨he,hN,G8,hbel⟩:=HA.o;obtain⟨hd,he2,hstep,hs0,Mh,uV,uG⟩:=HI.o;have Io:=G8.below hb2;obtain⟨ra2,rc2,hsl,hrc,hrcm,hRr⟩:=Io.shape
    cases hsl
    have hT:=p8 X (2^D);have hlT:(ws (X/2^D)).length<=n:=(aW _ _).2 (iP hT Mh);have hlA:(ws A).length<=n:=(aW _ _).2 (iP uV Mh);have V2:=Kl (ws (X/2^D)) (ws A) a2 ra _ c2 _ rc w2.heap.size w2 rfl rfl (by have:=(bU A);omega) hc2 hrc ae (dP _) (dP _) (Qh A ae) hR2 hRr (aC _);rw[ak,ak] at V2;have V:=hid V2;have hs2:=hb2.size;have HJ:=(jJ hb2 Io hlA hlT hrc hs2);clear V2 he hN G8 hbel hd he2 hstep hs0 Mh uV uG kQ hb2 hR2 Io hRr hT hlT hlA D1 hs2;go_wp2_with fail;refine V.o.mono ?_;rintro r w3 ⟨⟨vq,vr,rfl,YW,Eh,hap⟩,hb3⟩;obtain⟨aq,cq,rfl,hcq,hcqm,hRq⟩:=YW.shape;obtain⟨hb2,Io,hlA,hlT,hrc',hs2⟩:=HJ.o;have hNt3:=Io.below hb3;obtain⟨ra3,rc3,hsl,hrc3,hrcm3,hRr⟩:=hNt3.shape
    cases hsl
    obtain⟨hd,he2,hstep,hs0,Mh,uV,uG⟩:=HI.o;have hle:=C8 _ _ _ _ hstep;have U2:=CY (ws A) ra _ rc w3.heap.size sh (sh/32) (sh%32) w3 rfl hrc ae ae ae (dP _) hRr (aC _);rw[ak] at U2;have U:=hid U2;have hs3:=hb3.size;have HK:=(fO hb3 YW hcq hle hs3);clear U2 YW Eh hap hb3 hRq hb2 Io hlA hlT hrc' hs2 hNt3 hRr hd he2 hstep hs0 Mh uV uG hle V hs3;go_wp2_with fail
    try rw[eS]
    refine U.o.mono ?_;rintro r w4 ⟨v4,rfl,iX,hb4⟩;obtain⟨a4,c4,rfl,hc4,hc4m,hR4⟩:=iX.shape;obtain⟨hb3,YW,hcq',hle,hs3⟩:=HK.o;obtain⟨hd,he2,hstep,hs0,Mh,uV,uG⟩:=HI.o;have hNq4:=YW.below hb4;obtain⟨aq4,cq4,hsl,hcq4,hcqm4,hRq⟩:=hNq4.shape
    cases hsl
    have hl1:(ws (A*2^sh)).length<=n:=(aW _ _).2 (iP (dW (Nat.le_add_right _ _) hle) Mh);have hl2:(ws (X/2^D/A)).length<=n:=(aW _ _).2 (iP (dW (Nat.le_add_left _ _) hle) Mh);have S2:=Kk (ws (A*2^sh)) (ws (X/2^D/A)) a4 aq _ c4 _ cq w4.heap.size w4 rfl rfl hc4 hcq ae ae (dP _) (dP _) hR4 hRq (aC _);rw[ak,ak] at S2;have S:=hid S2;have HL:=(aA hb4);clear S2 iX hb4 hR4 hb3 YW hle hs3 hd he2 hstep hs0 Mh uV uG hNq4 hRq hl1 hl2 U hcq';go_wp2_with fail;refine S.o.mono ?_;rintro r w5 ⟨v5,rfl,wX,hb5⟩;obtain⟨a5,c5,rfl,hc5,hc5m,hR5⟩:=wX.shape;have HM:=(aP wX hb5);clear wX hb5 hR5 S;go_wp2;go_roundg s
    case measure=>omega
    case rel =>
     obtain⟨he,hN,G8,hbel⟩:=HA.o;obtain⟨hd,he2,hstep,hs0,Mh,uV,uG⟩:=HI.o;obtain⟨hb2,Io,hlA,hlT,hrc',hs2⟩:=HJ.o;obtain⟨hb3,YW,hcq',hle,hs3⟩:=HK.o;obtain⟨wX,hb5⟩:=HM.o;have hb4:=HL.o;have hs4:=hb4.size;refine⟨_,d,a5,c5,rfl,by first | rfl | rw[ed],by first | go_num | (congr 1;omega),ae,hd,hstep,wX.mono ae,?_⟩;exact(((hbel.trans (hb2.mono hs0)).trans (hb3.mono ae)).trans (hb4.mono ae)).trans (hb5.mono ae)
theorem xL (xs bs:List Nat) (ao bo:Option Addr) (n cap m bG B:Nat) (w:World) (hn:n=xs.length) (hm:m=bs.length) (Ih:m<=n) (hc:n<=cap) (hcb:m<=bG) (hbig:n<=35184372088833)
 (hx:Wf xs) (hb:Wf bs) (hle:val bs<=val xs) (hR0:Rd B w ao xs) (hS:Rd B w bo bs) (hB:B<=w.heap.size) :
 Calls Tryz.prog 163 #[.slice ao n cap,.slice bo m bG] w fun r w'=>∃ v,r=.returned v/\Nt w.heap.size w' v (val xs-val bs)/\Below w.heap.size w w':=by
 obtain⟨W1,hW1⟩:=ah (w.alloc (.cells (madeCells #[.int .u32 0] n) 51));have oM:Own W1 w.heap.size (List.replicate n 0):=by rw[hW1];exact Own.made w n
 have hB1:Below w.heap.size w W1:=by rw[hW1];exact(aD _ _).alloc (aC _) _
 obtain⟨W2,hcp,hO2,hb2⟩:=kG W1 w.heap.size n n ao n cap B 3 (List.replicate n 0) xs oM aQ hn (hR0.below (hB1.mono hB)) ae;rw[Bj aQ,Cz] at hO2;have hB2:Below w.heap.size w W2:=But.below hB1 hb2 hB1.size (aC _);have hmk:=eF (n:Int) n rfl ae w;rw[<-hW1] at hmk;have hR:Rd B W2 bo bs:=hS.below (hB2.mono hB);obtain⟨g,hg⟩:=ah (w.heap.size);rw[<-hg] at hO2 hcp hmk hB2 hB;have HR:=(uI hR hm hb hx hn hle hB2 hg);have HO:=hid hO2;have Ew:Hid (∀ x y c s d w,_->_->_->_->_->_):=Bw;clear hn hm hx hb hR0 hS oM hB1 hO2 hb2 hB2 hW1 hle hR hg;go_enter Tryz.func163,Tryz.ntmps163;go_wp2
 go_loopg [6,18] m (fun gk c i wr=>∃ (k cv:Nat) (M:List Nat),gk+k=m/\c=.int .u32 (cv:Nat)/\cv<=1/\i=.int .i64 (k:Nat) /\
  Hid (Own wr g M)/\Aside (Wf M/\Out xs M 0 k/\sg M 0 k+sg bs 0 k=sg xs 0 k+cv*pw k/\But g W2 wr))
 case atStart=>exact⟨0,0,xs,ae,rfl,ae,rfl,HO,HR.o.r3.1,Out.refl _ _ _,by simp[fK],But.refl _ _⟩
 case round =>
  obtain⟨k,cv,M,Ex,rfl,hcv,rfl,HM,HA⟩:=hrel
  by_cases hk:k<m
  · obtain⟨hR,hm,hb,hx,hn,hle,hB2,hg⟩:=HR.o;obtain⟨dQ,ib,hMs,aI⟩:=HA.o;obtain⟨b,ik,Pb,rfl,hbc⟩:=hR (by intro e;subst e;simp at hm;omega)
    have hbk:wr.cell? ⟨b,ik+k,none⟩=some (.int .u32 ((bs.getD k 0:Nat):Int)):=by
     have h1:=aI.block b (mO W2 ⟨b,ik+k,none⟩ (hbc k ae)) ae;exact zj
    have hgc:=HM.o.cell k (by rw[ib.1];omega);have hgf:=HM.o.frozen k;obtain⟨x,iB⟩:∃ x:Nat,M.getD k 0=x:=⟨_,rfl⟩;obtain⟨y,hy⟩:∃ y:Nat,bs.getD k 0=y:=⟨_,rfl⟩;have hxl:x<4294967296:=iB ▸ dQ.get _;have hyl:y<4294967296:=hy ▸ hb.get _;rw[iB] at hgc;rw[hy] at hbk;obtain⟨s,hs⟩:∃ s:Nat,(s:Int)=((x:Int)-y-cv)%4294967296:=⟨(((x:Int)-y-cv)%4294967296).toNat,ae⟩;obtain⟨d,hd⟩:∃ d:Nat,d=if x<y+cv then 1 else 0:=⟨_,rfl⟩
    have HX:=(ic iB hy hs hd);clear iB hy hs hd hR hm hb hx hn hle hB2 hg dQ ib hMs aI hbc;go_wp2_with fail;refine(Ew.o x y cv s d _ hxl hyl hcv HX.o.r2.1 HX.o.r3).mono ?_;rintro r w1 ⟨rfl,rfl⟩;go_wp2;go_roundg (gk-1)
    case measure=>omega
    case rel =>
     obtain⟨iB,hy,hs,hd⟩:=HX.o;obtain⟨hR,hm,hb,hx,hn,hle,hB2,hg⟩:=HR.o;obtain⟨dQ,ib,hMs,aI⟩:=HA.o;have hd1:d<=1:=by rw[hd];split <;> omega
     have hsum:s+y+cv=x+d*4294967296:=by rw[hd];split <;> omega
     refine⟨k+1,d,M.set k s,ae,rfl,hd1,by go_num,HM.o.set _ _,dQ.set _ _ ae,(ib.mono ae).set _ _ ae ae,?_,aI.set _ _⟩;have e1:=di M 0 k s (by rw[ib.1];omega);rw[eP] at e1;rw[e1,bZ xs 0 k ae,bZ bs 0 k ae,eP,hy,cO];have e:xs.getD k 0=x:=by rw[<-iB];exact(ib.2 _ ae).symm
     rw[e];exact qB _ _ _ _ _ _ _ _ _ hMs hsum
  · obtain rfl:k=m:=ae
    have HA2:Aside (Wf M/\Out xs M 0 k/\sg M 0 k+val bs=sg xs 0 k+cv*pw k/\But g W2 wr):=by
     obtain⟨hR,hm,hb,hx,hn,hle,hB2,hg⟩:=HR.o;obtain⟨dQ,ib,hMs,aI⟩:=HA.o;refine⟨dQ,ib,?_,aI⟩;rw[<-hMs,hm,eQ]
    clear HA Ex HO hk;go_wp2
    go_loopg [6,9] (n-k+1) (fun g2 c i w2=>∃ (j cv:Nat) (M:List Nat),g2+j=n+1/\k<=j/\j<=n/\c=.int .u32 (cv:Nat)/\cv<=1/\i=.int .i64 (j:Nat) /\
     Hid (Own w2 g M)/\Aside (Wf M/\Out xs M 0 j/\sg M 0 j+val bs=sg xs 0 j+cv*pw j/\But g W2 w2))
    case atStart=>exact⟨k,cv,M,ae,aC _,Ih,rfl,hcv,rfl,HM,HA2.o⟩
    case round =>
     clear HM HA2 hcv;obtain⟨j,cv,M,hgj,hkj,hjn,rfl,hcv,rfl,HM,HA⟩:=hrel
     by_cases h0:cv=0
     · subst h0;obtain⟨hR,hm,hb,hx,hn,hle,hB2,hg⟩:=HR.o;obtain⟨dQ,ib,hMs,aI⟩:=HA.o;have hl:M.length=n:=by rw[ib.1,hn]
       have T:=hid (fG M (some ⟨g,0,none⟩) n n (g+1) wr hl.symm (aC _) ae (by simpa [hl,iR] using Rd.iA HM.o 0 n));clear hR hm hb hx hn hle hB2 hg dQ ib hMs aI;go_wp2_with fail;refine T.o.mono ?_;rintro r w1 ⟨rfl,rfl⟩;go_wp2;go_ret;obtain⟨hR,hm,hb,hx,hn,hle,hB2,hg⟩:=HR.o;obtain⟨dQ,ib,hMs,aI⟩:=HA.o;rw[dL,fT] at hMs;have hv:=LW (n:=n) hjn ae ib hMs;have e1:sg M 0 n=val M:=by rw[<-hl];exact eQ M
       have e2:sg xs 0 n=val xs:=by rw[hn];exact eQ xs
       rw[e1,e2] at hv;refine⟨_,rfl,?_,?_⟩
       · have N:=Nt.iA (lo:=g) HM.o (aC _) dQ (by rw[hl];unfold maxLen;omega);rw[show val xs-val bs=val M by omega,<-hg];rw[hl] at N;exact N
       · rw[<-hg];exact But.below hB2 aI (by have:=hB2.size;omega) (aC _)
     · obtain rfl:cv=1:=ae
       obtain⟨hR,hm,hb,hx,hn,hle,hB2,hg⟩:=HR.o;obtain⟨dQ,ib,hMs,aI⟩:=HA.o
       have hj:j<n:=by
        by_cases hj:j=n
        · exfalso;subst hj;have h1:=qb M 0 j dQ (by rw[ib.1];omega);have e2:sg xs 0 j=val xs:=by rw[hn];exact eQ xs
          omega
        · omega
       have hgc:=HM.o.cell j (by rw[ib.1];omega);have hgf:=HM.o.frozen j;obtain⟨x,iB⟩:∃ x:Nat,M.getD j 0=x:=⟨_,rfl⟩;have hxl:x<4294967296:=iB ▸ dQ.get _;rw[iB] at hgc;obtain⟨s,hs⟩:∃ s:Nat,(s:Int)=((x:Int)-(0:Nat)-(1:Nat))%4294967296:=⟨(((x:Int)-(0:Nat)-(1:Nat))%4294967296).toNat,ae⟩;obtain⟨d,hd⟩:∃ d:Nat,d=if x<0+1 then 1 else 0:=⟨_,rfl⟩
       have HX:=(dC iB hs hd);clear iB hs hd hR hm hb hx hn hle hB2 hg dQ ib hMs aI h0;go_wp2_with fail;refine(Ew.o x 0 1 s d _ hxl ae ae HX.o.2.1 HX.o.r2).mono ?_;rintro r w1 ⟨rfl,rfl⟩;go_wp2;go_roundg (gk-1)
       case measure=>omega
       case rel =>
        obtain⟨iB,hs,hd⟩:=HX.o;obtain⟨hR,hm,hb,hx,hn,hle,hB2,hg⟩:=HR.o;obtain⟨dQ,ib,hMs,aI⟩:=HA.o;have hd1:d<=1:=by rw[hd];split <;> omega
        have hsum:s+0+1=x+d*4294967296:=by rw[hd];split <;> omega
        refine⟨j+1,d,M.set j s,ae,ae,ae,rfl,hd1,by go_num,HM.o.set _ _,dQ.set _ _ ae,(ib.mono ae).set _ _ ae ae,?_,aI.set _ _⟩;have e1:=di M 0 j s (by rw[ib.1];omega);rw[eP] at e1;rw[e1,bZ xs 0 j ae,eP,cO];have e:xs.getD j 0=x:=by rw[<-iB];exact(ib.2 _ ae).symm
        rw[e];have:=qB (pw j) _ _ _ _ x 0 s d hMs hsum;omega
theorem Da (L bs:List Nat) (g off n cap:Nat) (ao:Option Addr) (m bG B q:Nat) (w:World)
 (hO:Own w g L) (hoff:off+n<=L.length) (hm:m=bs.length) (Ih:m<=n) (hcap:n<=cap) (hbig:n<=4611686018427387904) (hL:Wf L) (hb:Wf bs) (hR:Rd B w ao bs) (hB:B<=g) (hq:q<4294967296) :
 Calls Tryz.prog 168 #[.slice (some ⟨g,off,none⟩) n cap,.slice ao m bG,.int .u32 (q:Nat)] w fun r w' =>
  ∃ M c,r=.returned (.int .u32 (c:Nat))/\c<4294967296/\Own w' g M/\Wf M/\Out L M off m/\sg M off m+c*pw m=sg L off m+val bs*q/\But g w w':=by
 have HR:Aside (Rd B w ao bs/\m=bs.length/\Wf bs/\Wf L/\off+n<=L.length):=⟨hR,hm,hb,hL,hoff⟩;have HO:Hid (Own w g L):=hO;clear hR hm hb hL hO hoff;go_enter Tryz.func168,Tryz.ntmps168;go_wp2
 go_loopg [7,13] m (fun gk c i wr=>∃ (k cv:Nat) (M:List Nat),gk+k=m/\c=.int .u64 (cv:Nat)/\cv<4294967296/\i=.int .i64 (k:Nat) /\
  Hid (Own wr g M)/\Aside (Wf M/\Out L M off k/\sg M off k+cv*pw k=sg L off k+sg bs 0 k*q/\But g w wr))
 case atStart=>exact⟨0,0,L,ae,rfl,ae,rfl,HO,HR.o.r3.1,Out.refl _ _ _,by simp[fK],But.refl _ _⟩
 case round =>
  obtain⟨k,cv,M,Ex,rfl,hcv,rfl,HM,HA⟩:=hrel
  by_cases hk:k<m
  · obtain⟨hR,hm,hb,hL,hoff⟩:=HR.o;obtain⟨dQ,ib,hMs,aI⟩:=HA.o;obtain⟨b,ik,Pb,rfl,hbc⟩:=hR (by intro e;subst e;simp at hm;omega)
    have hbk:wr.cell? ⟨b,ik+k,none⟩=some (.int .u32 ((bs.getD k 0:Nat):Int)):=by
     have h1:=aI.block b (mO w ⟨b,ik+k,none⟩ (hbc k ae)) ae;exact zj
    have hgc:=HM.o.cell (off+k) (by rw[ib.1];omega);have hgf:=HM.o.frozen (off+k);obtain⟨x,hx⟩:∃ x:Nat,M.getD (off+k) 0=x:=⟨_,rfl⟩;obtain⟨y,hy⟩:∃ y:Nat,bs.getD k 0=y:=⟨_,rfl⟩;have hxl:x<4294967296:=hx ▸ dQ.get _;have hyl:y<4294967296:=hy ▸ hb.get _;rw[hx] at hgc;rw[hy] at hbk;have hp0:=uQ y q hyl hq;have hp2:(y:Int)*(q:Int)<=18446744065119617025:=by rw[<-gM];omega
    have hp1:0<=(y:Int)*(q:Int):=by rw[<-gM];omega
    obtain⟨s,hs⟩:∃ s:Nat,s=(y*q+x+cv)%4294967296:=⟨_,rfl⟩;obtain⟨d,hd⟩:∃ d:Nat,d=(y*q+x+cv)/4294967296:=⟨_,rfl⟩;have e0:((y*q+x+cv:Nat):Int)=(y:Int)*q+x+cv:=by simp only[Cx,gM]
    have e1:((y:Int)*q+x+cv)%4294967296=(s:Int):=by rw[<-e0];omega
    have e2:((y:Int)*q+x+cv)/4294967296=(d:Int):=by rw[<-e0];omega
    have HX:Aside (M.getD (off+k) 0=x/\bs.getD k 0=y/\s+d*4294967296=y*q+x+cv/\s<4294967296/\d<4294967296):=⟨hx,hy,ae,ae,ae⟩;clear hx hy hs hd hR hm hb hL hoff dQ ib hMs aI hbc e0 hp0;go_wp2;go_roundg (gk-1)
    case measure=>omega
    case rel =>
     obtain⟨hx,hy,he,hs,hd⟩:=HX.o;obtain⟨hR,hm,hb,hL,hoff⟩:=HR.o;obtain⟨dQ,ib,hMs,aI⟩:=HA.o;refine⟨k+1,d,M.set (off+k) s,ae,rfl,hd,by go_num,HM.o.set _ _,dQ.set _ _ hs,(ib.mono ae).set _ _ ae ae,?_,aI.set _ _⟩;rw[di _ _ _ _ (by rw[ib.1];omega),bZ L off k ae,bZ bs 0 k ae,eP,hy,cO];have e:L.getD (off+k) 0=x:=by rw[<-hx];exact(ib.2 _ ae).symm
     rw[e];exact yK _ _ _ _ _ _ _ _ _ _ hMs he
  · obtain rfl:k=m:=ae
    go_wp2;go_ret;obtain⟨hR,hm,hb,hL,hoff⟩:=HR.o;obtain⟨dQ,ib,hMs,aI⟩:=HA.o;refine⟨M,cv,rfl,hcv,HM.o,dQ,ib,?_,aI⟩;rw[hMs,hm,eQ]
theorem EJ(p V b x r q c:Nat)(h:V+p*r=b*q):V+p*(r+q*x)=(b+p*x)*q:=by grind
theorem Db (xs bs:List Nat) (ao bo:Option Addr) (n cap m bG B:Nat) (w:World) (hn:n=xs.length) (hm:m=bs.length) (hc:n<=cap) (hcb:m<=bG) (hbig:n+m<=70368744177664)
 (hx:Wf xs) (hb:Wf bs) (hR:Rd B w ao xs) (hS:Rd B w bo bs) (hB:B<=w.heap.size) :
 Calls Tryz.prog 136 #[.slice ao n cap,.slice bo m bG] w fun r w'=>∃ v,r=.returned v/\Nt w.heap.size w' v (val xs*val bs)/\Below w.heap.size w w':=by
 obtain⟨W1,hW1⟩:=ah (w.alloc (.cells (madeCells #[.int .u32 0] (n+m)) 51));have oM:Own W1 w.heap.size (List.replicate (n+m) 0):=by rw[hW1];exact Own.made w (n+m)
 have hB1:Below w.heap.size w W1:=by rw[hW1];exact(aD _ _).alloc (aC _) _
 have hmk:=eF ((n:Int)+m) (n+m) ae ae w;rw[<-hW1] at hmk;have Ak:Rd B W1 ao xs:=hR.below (hB1.mono hB);have hS1:Rd B W1 bo bs:=hS.below (hB1.mono hB);obtain⟨g,hg⟩:=ah (w.heap.size);rw[<-hg] at oM hmk hB1 hB;have HR:=(uI Ak hS1 hm hb hx hn hB1 hg);have HO:=hid oM;clear hn hm hx hb hR hS oM hB1 hW1 Ak hS1 hg;go_enter Tryz.func136,Tryz.ntmps136;go_wp2
 go_loopg [16] n (fun gk i wr=>∃ (k:Nat) (M:List Nat),gk+k=n/\i=.int .i64 (k:Nat) /\
  Hid (Own wr g M)/\Aside (Wf M/\M.length=n+m/\sg M 0 (k+m)=sg xs 0 k*val bs/\But g W1 wr))
 case atStart=>exact⟨0,_,ae,rfl,HO,Wf.zeros _,aQ,by rw[tJ,fK];simp,But.refl _ _⟩
 case round =>
  obtain⟨k,M,Ex,rfl,HM,HA⟩:=hrel
  by_cases hk:k<n
  · obtain⟨hR,hS,hm,hb,hx,hn,hB1,hg⟩:=HR.o;obtain⟨dQ,iF,hMs,aI⟩:=HA.o;have UN:g<=W1.heap.size:=by have:=hB1.size;omega
    obtain⟨b,ik,Pb,rfl,hbc⟩:=hR (by intro e;subst e;simp at hn;omega)
    have hbk:wr.cell? ⟨b,ik+k,none⟩=some (.int .u32 ((xs.getD k 0:Nat):Int)):=by
     have h1:=aI.block b (mO W1 ⟨b,ik+k,none⟩ (hbc k ae)) ae;exact zj
    obtain⟨y,hy⟩:∃ y:Nat,xs.getD k 0=y:=⟨_,rfl⟩;have hyl:y<4294967296:=hy ▸ hx.get _;rw[hy] at hbk;have H:=hid (Da M bs g k m (n+m-k) bo m bG B y wr HM.o ae hm (aC _) ae ae dQ hb (hS.but aI ae hB) hB hyl);have HX:=(aP hy hn);clear hy hR hS hm hb hx hn hB1 hg dQ iF hMs aI hbc UN;go_wp2_with fail;refine H.o.mono ?_;rintro r W3 ⟨M2,c,rfl,hc1,hO3,hM2,hout,hsum,tK⟩;obtain⟨dQ,iF,hMs,aI⟩:=HA.o;have hgc:=hO3.cell (k+m) (by rw[hout.1];omega);have hgf:=hO3.frozen (k+m);have HI:=(jJ hc1 hO3 hM2 hout hsum tK);clear hc1 hO3 hM2 hout hsum tK dQ iF hMs aI H;go_wp2;go_roundg (gk-1)
    case measure=>omega
    case rel =>
     obtain⟨hy,hn⟩:=HX.o;obtain⟨dQ,iF,hMs,aI⟩:=HA.o;obtain⟨hc1,hO3,hM2,hout,hsum,tK⟩:=HI.o;refine⟨k+1,M2.set (k+m) c,ae,by go_num,hO3.set _ _,hM2.set _ _ hc1,by simp[hout.1,iF],?_,(aI.trans tK).set _ _⟩;have e1:=di M2 0 (k+m) c (by rw[hout.1];omega);rw[eP] at e1;have e2:=jF M2 0 k m (by rw[hout.1];omega);have e3:=jF M 0 k m ae;rw[eP] at e2 e3;have e4:=hout.below 0 k ae ae;rw[show k+1+m=k+m+1 by omega,e1,e2,e4,bZ xs 0 k ae,eP,hy,rX];rw[e3] at hMs;rw[cu c] at hsum;have:=EJ (pw k) _ _ y _ _ c hMs;rw[<-hsum] at this;rw[<-this,kz,aM,pR]
  · obtain rfl:k=n:=ae
    obtain⟨dQ,iF,hMs,aI⟩:=HA.o;have T:=hid (fG M (some ⟨g,0,none⟩) (k+m) (k+m) (g+1) wr iF.symm (aC _) ae (by simpa [iF,iR] using Rd.iA HM.o 0 (k+m)));clear dQ iF hMs aI;go_wp2_with fail;refine T.o.mono ?_;rintro r w1 ⟨rfl,rfl⟩;go_wp2;go_ret;obtain⟨hR,hS,hm,hb,hx,hn,hB1,hg⟩:=HR.o;obtain⟨dQ,iF,hMs,aI⟩:=HA.o;have e1:sg M 0 (k+m)=val M:=by rw[<-iF];exact eQ M
    have e2:sg xs 0 k=val xs:=by rw[hn];exact eQ xs
    rw[e1,e2] at hMs;refine⟨_,rfl,?_,?_⟩
    · have N:=Nt.iA (lo:=g) HM.o (aC _) dQ (by rw[iF];unfold maxLen;omega);rw[<-hMs,<-hg];rw[iF] at N;exact N
    · rw[<-hg];exact But.below hB1 aI (by have:=hB1.size;omega) (aC _)
theorem qP(xs ys:List Nat)(hx:Wf xs)(hy:Wf ys)(j d:Nat)(h1:j+1+d<=xs.length)(h2:j+1+d<=ys.length)(ht:sg xs (j+1) d=sg ys (j+1) d)(hlt:xs.getD j 0<ys.getD j 0) :
 sg xs 0 (j+1+d)<sg ys 0 (j+1+d):=by
 rw[jF xs 0 (j+1) d ae,jF ys 0 (j+1) d ae,eP,ht,bZ xs 0 j ae,bZ ys 0 j ae,eP];have h3:=qb xs 0 j hx ae;have h4:pw j*(xs.getD j 0+1)<=pw j*ys.getD j 0:=iw _ hlt;rw[kz] at h4;omega
theorem xM(xs ys:List Nat)(hx:Wf xs)(hy:Wf ys)(h:nl xs<nl ys):val xs<val ys:=by
 rw[gX xs hx,gX ys hy] at h;have h1:=iy (val xs);have h2:val ys≠0:=by intro e;rw[e,bO] at h;simp at h
 have h3:=uO (val ys) h2;have h4:=kL (show(ws (val xs)).length<=(ws (val ys)).length-1 by omega);omega
theorem o6{x y:Nat}(h:x<y):bJ x y=-1:=by simp[bJ,h]
theorem qQ{x y:Nat}(h:y<x):bJ x y=1:=by simp[bJ,h];omega
theorem Km{x y:Nat}(h:x=y):bJ x y=0:=by simp[bJ,h]
theorem Ip{a b x y:Nat}(h1:a<b↔x<y)(h2:b<a↔y<x):bJ a b=bJ x y:=by simp[bJ,h1,h2]
theorem xa{P:Prop}(h:P:=by
 subst hk0;go_wp2;go_ret;obtain⟨hR,hS,hn,hm,hx,hy,hl1,hl2,f1,f2⟩:=HR.o;have h:=HA.o;rw[Nat.sub_zero,f1,f2] at h;rw[Km h];exact⟨rfl,HB.o⟩):P:=h
theorem Dc (xs ys:List Nat) (ao bo:Option Addr) (n cap m bG B:Nat) (w:World) (hn:n=xs.length) (hm:m=ys.length) (hc:n<=cap) (hcb:m<=bG) (hbig:n<=70368744177664) (hbig2:m<=70368744177664)
 (hx:Wf xs) (hy:Wf ys) (hR:Rd B w ao xs) (hS:Rd B w bo ys) :
 Calls Tryz.prog 162 #[.slice ao n cap,.slice bo m bG] w fun r w'=>r=.returned (.int .i64 (bJ (val xs) (val ys)))/\Below w.heap.size w w':=by
 have H1:=hid (fG xs ao n cap B w hn hc ae hR);have H2:=hid (fG ys bo m bG B w hm hcb ae hS);have hl1:=kW xs;have hl2:=kW ys;have f1:=mP xs hx;have f2:=mP ys hy;rw[<-kX] at f1 f2
 by_cases he:nl xs=nl ys
 · obtain⟨k0,hk0⟩:∃ k,nl ys=k:=⟨_,rfl⟩;rw[he] at H1 hl1 f1;rw[hk0] at H1 H2 hl1 hl2 f1 f2;have HR:=(Cs hR hS hn hm hx hy hl1 hl2 f1 f2);have HC:Hid (∀ x y w,_):=Bz;have hkn:k0<=n:=ae
   have hkm:k0<=m:=ae
   clear hR hS hn hm hx hy hl1 hl2 f1 f2 he hk0;go_enter Tryz.func162,Tryz.ntmps162;go_wp2_with fail;refine H1.o.mono ?_;rintro r w1 ⟨rfl,rfl⟩;go_wp2_with fail;refine H2.o.mono ?_;rintro r w1 ⟨rfl,rfl⟩;go_wp2
   go_loopg [5] k0 (fun k i wr=>k<=k0/\i=.int .i64 ((k:Int)-1)/\Hid (Below w1.heap.size w1 wr)/\Aside (sg xs k (k0-k)=sg ys k (k0-k)))
   case atStart=>exact⟨aC _,rfl,aD _ _,by rw[Bn,fK,fK];exact rfl⟩
   case round =>
    obtain⟨hk,rfl,HB,HA⟩:=hrel
    by_cases hk0:gk=0
    · exact xa
    · obtain⟨k,rfl⟩:∃ k,gk=k+1:=⟨gk-1,ae⟩;obtain⟨hR,hS,hn,hm,hx,hy,hl1,hl2,f1,f2⟩:=HR.o;obtain⟨b,off,hB1,rfl,hc1⟩:=hR (by intro e;subst e;simp at hl1;omega);obtain⟨b2,Az,hB2,rfl,hc2⟩:=hS (by intro e;subst e;simp at hl2;omega)
      have g1:wr.cell? ⟨b,off+k,none⟩=some (.int .u32 ((xs.getD k 0:Nat):Int)) :=
       (HB.o.cell (p:=⟨b,off+k,none⟩) (mO w1 ⟨b,off+k,none⟩ (hc1 k ae))).trans (hc1 k ae)
      have g2:wr.cell? ⟨b2,Az+k,none⟩=some (.int .u32 ((ys.getD k 0:Nat):Int)) :=
       (HB.o.cell (p:=⟨b2,Az+k,none⟩) (mO w1 ⟨b2,Az+k,none⟩ (hc2 k ae))).trans (hc2 k ae)
      obtain⟨x,iB⟩:∃ x:Nat,xs.getD k 0=x:=⟨_,rfl⟩;obtain⟨y,rO⟩:∃ y:Nat,ys.getD k 0=y:=⟨_,rfl⟩;rw[iB] at g1;rw[rO] at g2;have HX:=(aP iB rO);clear hR hS hn hm hx hy hl1 hl2 f1 f2 hc1 hc2 iB rO hk0
      by_cases hxy:x=y
      · subst hxy;go_wp2
        go_region
        all_goals (
         go_wp2;go_roundg k
         case measure=>omega
         case rel =>
          obtain⟨hR,hS,hn,hm,hx,hy,hl1,hl2,f1,f2⟩:=HR.o;refine⟨ae,by first | go_num | (congr 1;omega),HB.o.drew,?_⟩;have h:=HA.o;obtain⟨r,hr⟩:∃ r,k0-k=r+1:=⟨k0-(k+1),ae⟩;rw[show k0-(k+1)=r by omega] at h
          rw[Aside,hr,mQ xs k r ae,mQ ys k r ae,h,HX.o.1,HX.o.2])
      · have hne:((x:Int)==(y:Int))=false:=by simp;omega
        have hki:(k:Int)<(k0:Int):=ae
        have hki0:0<=(k:Int):=ae
        have hki2:k<k0:=ae
        go_wp2
        go_region
        all_goals (
         go_wp2
         go_region_with (go_at_call 180;refine(Bz x y _).mono ?_;rintro r w2 ⟨rfl,rfl⟩))
        all_goals (
         go_wp2;go_ret;obtain⟨hR,hS,hn,hm,hx,hy,hl1,hl2,f1,f2⟩:=HR.o;have h:=HA.o
         have e:bJ (val xs) (val ys)=bJ x y:=by
          rw[<-f1,<-f2];have hk2:k+1+(k0-(k+1))=k0:=ae
          have t1:=qP xs ys hx hy k (k0-(k+1)) ae ae h;have t2:=qP ys xs hy hx k (k0-(k+1)) ae ae h.symm;rw[hk2,HX.o.1,HX.o.2] at t1 t2;apply Ip <;> omega
         rw[e]
         exact⟨rfl,by first | exact HB.o.drew.drew | exact HB.o.drew | skip⟩)
 · have e:bJ (val xs) (val ys)=bJ (nl xs) (nl ys):=by
    rcases Nat.lt_or_gt_of_ne he with h|h
    · rw[o6 h,o6 (xM xs ys hx hy h)]
    · rw[qQ h,qQ (xM ys xs hy hx h)]
   rw[e];obtain⟨k1,hk1⟩:∃ k,nl xs=k:=⟨_,rfl⟩;obtain⟨k2,hk2⟩:∃ k,nl ys=k:=⟨_,rfl⟩;rw[hk1] at H1 he |-;rw[hk2] at H2 he |-;have hne:((k1:Int)==(k2:Int))=false:=by simp;omega
   have hne2:¬ (k1:Int)=(k2:Int):=ae
   have H3:=hid (LV k1 k2 w);clear hR hS hn hm hx hy hl1 hl2 f1 f2 hk1 hk2 e he;go_enter Tryz.func162,Tryz.ntmps162;go_wp2_with fail;refine H1.o.mono ?_;rintro r w1 ⟨rfl,rfl⟩;go_wp2_with fail;refine H2.o.mono ?_;rintro r w1 ⟨rfl,rfl⟩;go_wp2_with fail;refine H3.o.mono ?_;rintro r w1 ⟨rfl,rfl⟩;go_wp2;go_ret;exact⟨rfl,aD _ _⟩
theorem Qi(xs:List Nat)(ao:Option Addr)(n cap B:Nat)(w:World)(hn:n=xs.length)(hc:n<=cap)(hbig:n<=35184372088832)(hx:Wf xs)(hR:Rd B w ao xs)(hB:B<=w.heap.size) :
 Calls Tryz.prog 121 #[.slice ao n cap] w fun r w'=>∃ q,o5 (val xs) q/\Two w.heap.size w' r q (val xs-q*q)/\Below w.heap.size w w':=by
 have T0:=fG xs ao n cap B w hn hc ae hR;have hl:=kW xs;have hform:=oU xs hx;have hlen:=gX xs hx;rw[hlen] at T0 hl hform;obtain⟨X,hX⟩:∃ X,val xs=X:=⟨_,rfl⟩;rw[hX] at T0 hl hform |-;have T:=hid T0;have kY:Rd B w ao (ws X):=by rw[<-hform];exact hR.take _
 by_cases h0:X=0
 · subst h0;rw[bO] at T;clear hX hlen hform hl hx hn hR T0 kY;go_enter Tryz.func121,Tryz.ntmps121;go_wp2_with fail;refine T.o.mono ?_;rintro r w1 ⟨rfl,rfl⟩;go_wp2
   go_ret2
   exact⟨0,⟨ae,ae⟩,⟨_,_,rfl,Nt.nil _ _,Nt.nil _ _,nZ _⟩,aD _ _⟩
 · have hk0:(ws X).length≠0:=fun e=>h0 ((bU X).1 e);obtain⟨k,hk⟩:∃ k,(ws X).length=k:=⟨_,rfl⟩;have NR:=C9 (ws X) ao k cap B w hk.symm ae ae (dP X) (by rw[ak];exact h0) kY hB;rw[ak] at NR;have N:=hid NR;rw[hk] at T hl hk0;have hkn:k<=n:=ae
   have hkne:((k:Int)==0)=false:=by simp;omega
   have HH:=(dC kY hk h0);clear hX hlen hform hl hx hn hR T0 kY NR hk h0 hk0;go_enter Tryz.func121,Tryz.ntmps121;go_wp2_with fail;refine T.o.mono ?_;rintro r w1 ⟨rfl,rfl⟩;go_wp2_with fail;refine N.o.mono ?_;rintro r w2 ⟨v2,A,rfl,kQ,hA1,hA2,uG,uV,hb2⟩;obtain⟨ra,rc,rfl,hrc,hrcm,hRr⟩:=kQ.shape;obtain⟨kY,hk,h0⟩:=HH.o;have hlA:(ws A).length<=k:=by rw[<-hk];exact jO uV
   have M0:=Db (ws A) (ws A) ra ra _ rc _ rc w2.heap.size w2 rfl rfl hrc hrc ae (dP _) (dP _) hRr hRr (aC _);rw[ak] at M0;have M:=hid M0;have H1:=(uI kQ hA1 hA2 uG uV hb2 hRr hlA);clear M0 kQ hA1 hA2 uG uV hb2 hRr kY hk h0 hlA T N;go_wp2_with fail;refine M.o.mono ?_;rintro r w3 ⟨v3,rfl,fV,hb3⟩;obtain⟨sa,sc,rfl,hsc,hscm,hRs⟩:=fV.shape;obtain⟨kY,hk,h0⟩:=HH.o;obtain⟨kQ,hA1,hA2,uG,uV,hb2,hRr,hlA⟩:=H1.o;have hs2:=hb2.size;have hs3:=hb3.size;have wY:Rd w3.heap.size w3 ao (ws X):=((kY.below (hb2.mono hB)).below (hb3.mono ae)).mono ae
   have hsq:A*A<pw (k+k):=by
    have:=iy A;have h2:=rH this this;rw[<-rX] at h2;exact iQ h2 (kL ae)
   have Uv:(ws (A*A)).length<=k+k:=(aW _ _).2 hsq;have C0:=Dc (ws (A*A)) (ws X) sa ao _ sc k cap w3.heap.size w3 rfl hk.symm hsc ae ae ae (dP _) (dP _) hRs wY;rw[ak,ak] at C0;have H2:=(fO fV hb3 hRs wY Uv)
   by_cases hgt:X<A*A
   · rw[qQ hgt] at C0;have C:=hid C0;have H3:=(aA hgt);clear C0 kQ hA1 hA2 uG uV hb2 hRr hlA fV hb3 hRs kY hk h0 hs2 hs3 wY hsq Uv M hgt;go_wp2_with fail;refine C.o.mono ?_;rintro r w4 ⟨rfl,hb4⟩
     -- the root less one
     obtain⟨kY,hk,h0⟩:=HH.o;obtain⟨kQ,hA1,hA2,uG,uV,hb2,hRr,hlA⟩:=H1.o;obtain⟨fV,hb3,hRs,wY,Uv⟩:=H2.o;have hs2:=hb2.size;have hs3:=hb3.size;have hs4:=hb4.size;obtain⟨W5,Il⟩:=ah (w4.alloc (.cells #[.int .u32 1] 51));have hb5:Below w4.heap.size w4 W5:=by rw[Il];exact(aD _ _).alloc (aC _) _
     have hs5:=hb5.size;have Kj:Own W5 w4.heap.size [1]:=by rw[Il];unfold Own;rw[gY];rfl
     have hg5:=Kj.lt
     have Ak:Rd W5.heap.size W5 (some ⟨w4.heap.size,0,none⟩) [1]:=by
      have:=Rd.iA Kj 0 1;exact(by simpa using this:Rd (w4.heap.size+1) W5 (some ⟨w4.heap.size,0,none⟩) [1]).mono ae
     have hRr5:Rd W5.heap.size W5 ra (ws A):=(((hRr.below hb3).below (hb4.mono hs3)).below (hb5.mono ae)).mono ae;have hlA1:1<=(ws A).length:=by have:=bU A;omega
     have S0:=xL (ws A) [1] ra (some ⟨w4.heap.size,0,none⟩) _ rc 1 1 W5.heap.size W5 rfl rfl hlA1 hrc ae ae (dP _) (Wf.cons ae Wf.nil) (by rw[ak];simp[val];omega) hRr5 Ak (aC _);rw[ak,show val [1]=1 from rfl] at S0;rw[Il] at S0;have S:=hid S0;have H4:=(dC hb4 Il hb5);clear S0 kQ hA1 hA2 uG uV hb2 hRr hlA fV hb3 hRs kY hk h0 hs2 hs3 wY Uv hb4 hs4 Il hb5 hs5 Kj hg5 Ak hRr5 hlA1 C;go_wp2_with fail;refine S.o.mono ?_;rintro r w6 ⟨v6,rfl,De,hb6⟩;obtain⟨ra6,rc6,rfl,hrc6,hrcm6,YX⟩:=De.shape;obtain⟨kQ,hA1,hA2,uG,uV,hb2,hRr,hlA⟩:=H1.o;have hlA6:(ws (A-1)).length<=(ws A).length:=jO ae;have M0:=Db (ws (A-1)) (ws (A-1)) ra6 ra6 _ rc6 _ rc6 w6.heap.size w6 rfl rfl hrc6 hrc6 ae (dP _) (dP _) YX YX (aC _);rw[ak] at M0;have M:=hid M0;have H5:=(aP De hb6);clear M0 kQ hA1 hA2 uG uV hb2 hRr hlA De hb6 YX hlA6 S;go_wp2_with fail;refine M.o.mono ?_;rintro r w7 ⟨v7,rfl,hN7,hb7⟩;obtain⟨sa7,sc7,rfl,hsc7,hscm7,hRs7⟩:=hN7.shape;obtain⟨kY,hk,h0⟩:=HH.o;obtain⟨kQ,hA1,hA2,uG,uV,hb2,hRr,hlA⟩:=H1.o;obtain⟨fV,hb3,hRs,wY,Uv⟩:=H2.o;obtain⟨hb4,Il,hb5⟩:=H4.o;obtain⟨De,hb6⟩:=H5.o;rw[<-Il] at De hb6;have hs2:=hb2.size;have hs3:=hb3.size;have hs4:=hb4.size;have hs5:=hb5.size;have hs6:=hb6.size;have hs7:=hb7.size;have Mi:Below w1.heap.size w1 w7:=(((((hb2.trans (hb3.mono hs2)).trans (hb4.mono ae)).trans (hb5.mono ae)).trans (hb6.mono ae))).trans (hb7.mono ae);have hRX7:Rd w7.heap.size w7 ao (ws X):=(kY.below (Mi.mono hB)).mono ae;have YY:(A-1)*(A-1)<=X:=ae
     have hl7:(ws ((A-1)*(A-1))).length<=k:=by rw[<-hk];exact jO YY
     have S0:=xL (ws X) (ws ((A-1)*(A-1))) ao sa7 k cap _ sc7 w7.heap.size w7 hk.symm rfl hl7 ae hsc7 ae (dP _) (dP _) (by rw[ak,ak];exact YY) hRX7 hRs7 (aC _);rw[ak,ak] at S0;have S:=hid S0;have Qj:=De.below hb7;have H6:=(aP Mi Qj);clear S0 kQ hA1 hA2 uG uV hb2 hRr hlA fV hb3 hRs kY hk h0 wY Uv hb4 Il hb5 De hb6 hN7 hb7 hRs7 hs2 hs3 hs4 hs5 hs6 hs7 Mi hRX7 YY hl7 Qj M;go_wp2_with fail;refine S.o.mono ?_;rintro r w8 ⟨v8,rfl,G9,Ei⟩;have H7:=(aP G9 Ei);clear G9 Ei S;go_wp2
     go_ret2
     obtain⟨G9,Ei⟩:=H7.o;obtain⟨Mi,Qj⟩:=H6.o;obtain⟨kQ,hA1,hA2,uG,uV,hb2,hRr,hlA⟩:=H1.o;obtain⟨hb4,Il,hb5⟩:=H4.o;obtain⟨fV,hb3,hRs,wY,Uv⟩:=H2.o;have hs2:=hb2.size;have hs3:=hb3.size;have hs4:=hb4.size;have hs5:=hb5.size;have hs7:=Mi.size;have hlow:w1.heap.size<=W5.heap.size:=ae
     refine⟨A-1,⟨ae,?_⟩,⟨_,_,rfl,(Qj.below Ei).mono hlow,G9.mono hs7,tL (hi:=0) Qj G9 (aC _)⟩,Mi.trans (Ei.mono hs7)⟩;rw[show A-1+1=A by omega];exact H3.o
   · have hle:A*A<=X:=ae
     have hC1:bJ (A*A) X<=0:=by unfold bJ;split <;> (try split) <;> omega
     obtain⟨cc,hcc⟩:∃ cc,bJ (A*A) X=cc:=⟨_,rfl⟩;rw[hcc] at C0 hC1;have C:=hid C0;have H3:=(aA hle);clear C0 kQ hA1 hA2 uG uV hb2 hRr hlA fV hb3 hRs kY hk h0 hs2 hs3 wY hsq Uv M hle hgt hcc;go_wp2_with fail;refine C.o.mono ?_;rintro r w4 ⟨rfl,hb4⟩;obtain⟨kY,hk,h0⟩:=HH.o;obtain⟨kQ,hA1,hA2,uG,uV,hb2,hRr,hlA⟩:=H1.o;obtain⟨fV,hb3,hRs,wY,Uv⟩:=H2.o;have hs2:=hb2.size;have hs3:=hb3.size;have hs4:=hb4.size;have Qk:Below w1.heap.size w1 w4:=(hb2.trans (hb3.mono hs2)).trans (hb4.mono ae);have hRX4:Rd w4.heap.size w4 ao (ws X):=(wY.below hb4).mono hs4;have hRs4:Rd w4.heap.size w4 sa (ws (A*A)):=(hRs.below hb4).mono hs4;have hl4:(ws (A*A)).length<=k:=by rw[<-hk];exact jO H3.o
     have S0:=xL (ws X) (ws (A*A)) ao sa k cap _ sc w4.heap.size w4 hk.symm rfl hl4 ae hsc ae (dP _) (dP _) (by rw[ak,ak];exact H3.o) hRX4 hRs4 (aC _);rw[ak,ak] at S0;have S:=hid S0;have Ql:=(kQ.below hb3).below hb4;have H6:=(aP Qk Ql);clear S0 kQ hA1 hA2 uG uV hb2 hRr hlA fV hb3 hRs kY hk h0 wY Uv hb4 hs2 hs3 hs4 Qk hRX4 hRs4 hl4 Ql C;go_wp2_with fail;refine S.o.mono ?_;rintro r w8 ⟨v8,rfl,G9,Ei⟩;have H7:=(aP G9 Ei);clear G9 Ei S;go_wp2
     go_ret2
     obtain⟨G9,Ei⟩:=H7.o;obtain⟨Qk,Ql⟩:=H6.o;obtain⟨kQ,hA1,hA2,uG,uV,hb2,hRr,hlA⟩:=H1.o;have hs4:=Qk.size;exact⟨A,⟨H3.o,hA2⟩,⟨_,_,rfl,Ql.below Ei,G9.mono hs4,tL (hi:=0) Ql G9 (aC _)⟩,Qk.trans (Ei.mono hs4)⟩
abbrev LG(X:Nat):Prop:=8192<(ws X).length
def wZ(X Y:Nat):Nat×Int:=if LG (X+Y) then(0,2) else(X+Y,0)
def qC(X Y:Nat):Nat×Int:=if LG X\/LG Y then(0,2) else if X<Y then(0,20) else(X-Y,0)
def lJ(X Y:Nat):Nat×Int:=if LG X\/LG Y then(0,2) else if LG (X*Y) then(0,2) else(X*Y,0)
def qD(X Y:Nat):Nat×Nat×Int:=if LG X\/LG Y then(0,0,2) else if Y=0 then(0,0,21) else(X/Y,X%Y,0)
def bz(X:Nat)(by':Int):Nat×Int:=if LG X then(0,2) else if X=0 then(0,0) else if by'<0 then(X/2^(-by').toNat,0) else if 262144-(bl X:Int)<by' then(0,2) else(X*2^by'.toNat,0)
def One(lo:Nat)(w:World)(r:Ending)(a:Nat×Int):Prop:=∃ v,r=.returned (.tuple #[v,.int .i64 a.2])/\Nt lo w v a.1
theorem tN(xs:List Nat)(ao:Option Addr)(n cap B:Nat)(w:World)(hn:n=xs.length)(hc:n<=cap)(hm:n<=70368744177664)(hx:Wf xs)(hR:Rd B w ao xs) :
 (Calls Tryz.prog 129 #[.slice ao n cap] w fun r w'=>r=.returned (.slice ao (ws (val xs)).length cap)/\w'=w)/\Rd B w ao (ws (val xs))/\(ws (val xs)).length<=n:=by
 have T:=fG xs ao n cap B w hn hc ae hR;have hl:=kW xs;have hf:=oU xs hx;have hlen:=gX xs hx;rw[hlen] at T hl hf;exact⟨T,by rw[<-hf];exact hR.take _,ae⟩
theorem Kn (xs ys:List Nat) (ao bo:Option Addr) (n cap m bG B:Nat) (w:World) (hn:n=xs.length) (hm:m=ys.length) (hc:n<=cap) (hcb:m<=bG) (hbig:n<=35184372088833) (hbig2:m<=35184372088833)
 (hx:Wf xs) (hy:Wf ys) (hR:Rd B w ao xs) (hS:Rd B w bo ys) (hB:B<=w.heap.size) :
 Calls Tryz.prog 141 #[.slice ao n cap,.slice bo m bG] w fun r w'=>One w.heap.size w' r (wZ (val xs) (val ys))/\Below w.heap.size w w':=by
 obtain⟨T1,kY,hl1⟩:=tN xs ao n cap B w hn hc ae hx hR;obtain⟨T2,uW,hl2⟩:=tN ys bo m bG B w hm hcb ae hy hS;generalize val xs=X at *;generalize val ys=Y at *;have A0:=Kk (ws X) (ws Y) ao bo _ cap _ bG B w rfl rfl ae ae ae ae (dP X) (dP Y) kY uW hB;rw[ak,ak] at A0;have H1:=(hid T1);have H2:=(hid T2);have H3:=(hid A0);clear T1 T2 A0 kY uW hn hm hx hy hR hS hl1 hl2;go_enter Tryz.func141,Tryz.ntmps141;go_wp2_with fail;refine H1.o.mono ?_;rintro r w1 ⟨rfl,rfl⟩;go_wp2_with fail;refine H2.o.mono ?_;rintro r w1 ⟨rfl,rfl⟩;go_wp2_with fail;refine H3.o.mono ?_;rintro r w2 ⟨v,rfl,hN,hb⟩;obtain⟨av,cv,rfl,hcv,hcm,hRv⟩:=hN.shape;have U0:=qA (ws (X+Y)).length av cv w2;have HN:=(aP hN hb);clear H1 H2 H3 hN hb hRv
 by_cases hL:LG (X+Y)
 · rw[if_pos (show 8192<(ws (X+Y)).length from hL)] at U0;have U:=(hid U0);clear U0;go_wp2_with fail;refine U.o.mono ?_;rintro r w3 ⟨rfl,rfl⟩;go_wp2
   go_ret2
   rw[show wZ X Y=(0,2) by simp[wZ,hL]];exact⟨⟨_,rfl,Nt.nil _ _⟩,HN.o.2⟩
 · rw[if_neg (show ¬ 8192<(ws (X+Y)).length from hL)] at U0;have U:=(hid U0);clear U0;go_wp2_with fail;refine U.o.mono ?_;rintro r w3 ⟨rfl,rfl⟩;go_wp2
   go_ret2
   rw[show wZ X Y=(X+Y,0) by simp[wZ,hL]];exact⟨⟨_,rfl,HN.o.1⟩,HN.o.2⟩
theorem nA(n:Nat)(ao:Option Addr)(cap:Nat)(w:World)(b:Bool)(hb:decide (8192<n)=b) :
 Calls Tryz.prog 134 #[.slice ao n cap] w fun r w'=>r=.returned (.bool b)/\w'=w:=by
 have h:=yI n ao cap w;have e:decide ((8192:Int)<(n:Int))=b:=by rw[<-hb];simp only[decide_eq_decide];omega
 rw[e] at h;exact h
theorem Up{P:Prop}(h:P:=by
 go_wp2_with fail;refine H1.o.mono ?_;rintro r w1 ⟨rfl,rfl⟩;go_wp2_with fail;refine H2.o.mono ?_;rintro r w1 ⟨rfl,rfl⟩;go_wp2_with fail;refine L.o.mono ?_;rintro r w1 ⟨rfl,rfl⟩;go_wp2
 go_ret2
 exact⟨⟨_,rfl,Nt.nil _ _⟩,aD _ _⟩):P:=h
theorem Vc{P:Prop}(h:P:=by
 go_wp2_with fail;refine H1.o.mono ?_;rintro r w1 ⟨rfl,rfl⟩;go_wp2_with fail;refine H2.o.mono ?_;rintro r w1 ⟨rfl,rfl⟩;go_wp2_with fail;refine L.o.mono ?_;rintro r w1 ⟨rfl,rfl⟩;go_wp2_with fail;refine L2.o.mono ?_;rintro r w1 ⟨rfl,rfl⟩;go_wp2
 go_ret2
 exact⟨⟨_,rfl,Nt.nil _ _⟩,aD _ _⟩):P:=h
theorem UT (xs ys:List Nat) (ao bo:Option Addr) (n cap m bG B:Nat) (w:World) (hn:n=xs.length) (hm:m=ys.length) (hc:n<=cap) (hcb:m<=bG) (hbig:n<=35184372088833) (hbig2:m<=35184372088833)
 (hx:Wf xs) (hy:Wf ys) (hR:Rd B w ao xs) (hS:Rd B w bo ys) (hB:B<=w.heap.size) :
 Calls Tryz.prog 144 #[.slice ao n cap,.slice bo m bG] w fun r w'=>One w.heap.size w' r (qC (val xs) (val ys))/\Below w.heap.size w w':=by
 obtain⟨T1,kY,hl1⟩:=tN xs ao n cap B w hn hc ae hx hR;obtain⟨T2,uW,hl2⟩:=tN ys bo m bG B w hm hcb ae hy hS;generalize val xs=X at *;generalize val ys=Y at *;have H1:=(hid T1);have H2:=(hid T2);have HR:=(ic kY uW hl1 hl2);clear T1 T2 kY uW hn hm hx hy hR hS hl1 hl2
 by_cases lK:LG X
 · have L:=hid (nA (ws X).length ao cap w true (by simpa [LG] using lK));have e:qC X Y=(0,2):=by simp[qC,lK]
   rw[e];clear e lK HR;go_enter Tryz.func144,Tryz.ntmps144;exact Up
 · have L:=hid (nA (ws X).length ao cap w false (by simpa [LG] using lK))
   by_cases rP:LG Y
   · have L2:=hid (nA (ws Y).length bo bG w true (by simpa [LG] using rP));have e:qC X Y=(0,2):=by simp[qC,rP]
     rw[e];clear e lK rP HR;go_enter Tryz.func144,Tryz.ntmps144;exact Vc
   · have L2:=hid (nA (ws Y).length bo bG w false (by simpa [LG] using rP));obtain⟨kY,uW,hl1,hl2⟩:=HR.o;have C0:=Dc (ws X) (ws Y) ao bo _ cap _ bG B w rfl rfl ae ae ae ae (dP X) (dP Y) kY uW;rw[ak,ak] at C0
     by_cases hlt:X<Y
     · rw[o6 hlt] at C0;have C:=hid C0;have e:qC X Y=(0,20):=by simp[qC,lK,rP,hlt]
       rw[e];clear e lK rP HR C0 hlt kY uW hl1 hl2;go_enter Tryz.func144,Tryz.ntmps144;go_wp2_with fail;refine H1.o.mono ?_;rintro r w1 ⟨rfl,rfl⟩;go_wp2_with fail;refine H2.o.mono ?_;rintro r w1 ⟨rfl,rfl⟩;go_wp2_with fail;refine L.o.mono ?_;rintro r w1 ⟨rfl,rfl⟩;go_wp2_with fail;refine L2.o.mono ?_;rintro r w1 ⟨rfl,rfl⟩;go_wp2_with fail;refine C.o.mono ?_;rintro r w2 ⟨rfl,hb⟩;have HB:=(aA hb);clear hb;go_wp2
       go_ret2
       exact⟨⟨_,rfl,Nt.nil _ _⟩,HB.o⟩
     · have hc1:0<=bJ X Y:=by unfold bJ;rw[if_neg hlt];split <;> omega
       obtain⟨cc,hcc⟩:∃ cc,bJ X Y=cc:=⟨_,rfl⟩;rw[hcc] at C0 hc1;have C:=hid C0;have e:qC X Y=(X-Y,0):=by simp[qC,lK,rP,hlt]
       rw[e];have HL:=(aA hlt);clear e lK rP C0 hlt kY uW hl1 hl2 hcc;go_enter Tryz.func144,Tryz.ntmps144;go_wp2_with fail;refine H1.o.mono ?_;rintro r w1 ⟨rfl,rfl⟩;go_wp2_with fail;refine H2.o.mono ?_;rintro r w1 ⟨rfl,rfl⟩;go_wp2_with fail;refine L.o.mono ?_;rintro r w1 ⟨rfl,rfl⟩;go_wp2_with fail;refine L2.o.mono ?_;rintro r w1 ⟨rfl,rfl⟩;go_wp2_with fail;refine C.o.mono ?_;rintro r w2 ⟨rfl,hb⟩;obtain⟨kY,uW,hl1,hl2⟩:=HR.o;have hs:=hb.size;have S0:=xL (ws X) (ws Y) ao bo _ cap _ bG B w2 rfl rfl (jO (by have:=HL.o;omega)) ae ae ae (dP X) (dP Y) (by rw[ak,ak];have:=HL.o;omega) (kY.below (hb.mono hB)) (uW.below (hb.mono hB)) ae;rw[ak,ak] at S0;have S:=hid S0;have HB:=(aP hb hs);clear hb kY uW hl1 hl2 S0 hs C;go_wp2_with fail;refine S.o.mono ?_;rintro r w3 ⟨v,rfl,hN,hb2⟩;have HN:=(aP hN hb2);clear hN hb2 S;go_wp2
       go_ret2
       obtain⟨hb,hs⟩:=HB.o;exact⟨⟨_,rfl,HN.o.1.mono hs⟩,hb.trans (HN.o.2.mono hs)⟩
end
end Go.Proofs.YtfmfhehbdfhnbaaGreatDoor
