import Derived.Test.YtfmfhehbdfhnbaaGreatDoorMC2x
import Derived.Test.YtfmfhehbdfhnbaaGreatDoorMO10x
import Derived.Test.YtfmfhehbdfhnbaaGreatDoorZ14x
import Derived.Test.YtfmfhehbdfhnbaaGreatDoorD32cx
import Derived.Deep.Cut
set_option linter.unusedVariables false
set_option linter.unusedSimpArgs false
set_option maxHeartbeats 16000000
set_option maxRecDepth 20000
namespace Go.Proofs.YtfmfhehbdfhnbaaGreatDoor
namespace J
end J
section
open Go Go.RowKit J
def aT(c S:Int)(f:Nat->Int)(m k j:Nat):Int:=Ph k j*((c^j*tS (fun i=>f i^j) m)*(-S)^(k-j))
theorem gJ(f:Nat->Int)(n:Nat):tS f (n+1)=tS f n+f n:=rfl
theorem Yn(c S:Int)(f:Nat->Int):∀ m,tS (fun i=>(c*f i-S)^1) m=1*((c^0*tS (fun i=>f i^0) m)*(-S)^(1-0))+1*((c^1*tS (fun i=>f i^1) m)*(-S)^(1-1))
 | 0=>by simp[tS]
 | m+1=>by
   have ih:=Yn c S f m;simp only[gJ,ih]
   grind
theorem Yo(c S:Int)(f:Nat->Int):∀ m,tS (fun i=>(c*f i-S)^2) m=1*((c^0*tS (fun i=>f i^0) m)*(-S)^(2-0))+2*((c^1*tS (fun i=>f i^1) m)*(-S)^(2-1))+1*((c^2*tS (fun i=>f i^2) m)*(-S)^(2-2))
 | 0=>by simp[tS]
 | m+1=>by
   have ih:=Yo c S f m;simp only[gJ,ih]
   grind
theorem Yp(c S:Int)(f:Nat->Int):∀ m,tS (fun i=>(c*f i-S)^3) m=1*((c^0*tS (fun i=>f i^0) m)*(-S)^(3-0))+3*((c^1*tS (fun i=>f i^1) m)*(-S)^(3-1))+3*((c^2*tS (fun i=>f i^2) m)*(-S)^(3-2))+1*((c^3*tS (fun i=>f i^3) m)*(-S)^(3-3))
 | 0=>by simp[tS]
 | m+1=>by
   have ih:=Yp c S f m;simp only[gJ,ih]
   grind
theorem Yq(c S:Int)(f:Nat->Int):∀ m,tS (fun i=>(c*f i-S)^4) m=1*((c^0*tS (fun i=>f i^0) m)*(-S)^(4-0))+4*((c^1*tS (fun i=>f i^1) m)*(-S)^(4-1))+6*((c^2*tS (fun i=>f i^2) m)*(-S)^(4-2))+4*((c^3*tS (fun i=>f i^3) m)*(-S)^(4-3))+1*((c^4*tS (fun i=>f i^4) m)*(-S)^(4-4))
 | 0=>by simp[tS]
 | m+1=>by
   have ih:=Yq c S f m;simp only[gJ,ih]
   grind
theorem Ty(c S:Int)(f:Nat->Int)(m k:Nat)(h1:1<=k)(h4:k<=4):tS (aT c S f m k) (k+1)=tS (fun i=>(c*f i-S)^k) m:=by
 obtain rfl|rfl|rfl|rfl:k=1\/k=2\/k=3\/k=4:=ae
 · rw[Yn];simp only[tS,aT,Ph,yB]
 · rw[Yo];simp only[tS,aT,Ph,yB]
 · rw[Yp];simp only[tS,aT,Ph,yB]
 · rw[Yq];simp only[tS,aT,Ph,yB]
theorem Yr{c S:Int}{f:Nat->Int}{m k j:Nat}(bc:Bd 16 c)(bS:Bd 2114 S)(bf:∀ i,i<m->Bd 2098 (f i))(hm:m<=65536)(h1:1<=k)(h4:k<=4)(hj:j<=k):Bd 20000 (aT c S f m k j):=by
 have bcb:Bd 3 (Ph k j):=by have:=K7 k j h1 h4 hj;unfold Bd;omega
 exact(bcb.mul (((bc.pow j).mul (xY bf hm ae m (aC _))).mul (bS.neg.pow (k-j)))).mono (by
  have:2114*(k-j)<=8456:=ae
  omega)
theorem Neg14{w:World}{a:Option Addr}{d:Nat}{S:Int}(bS:Bd 2114 S)(hT:dU w)(hN:Nt 0 w (.slice a (ws (dX (gV 1074 S))).length d) (dX (gV 1074 S))) :
 Calls Tryz.prog 86 #[.agg #[.bool (dN (gV 1074 S)),.slice a (ws (dX (gV 1074 S))).length d,.int .i64 (dE (gV 1074 S))]] w fun r w'=>bI 0 w' r (gV 1074 (-S))/\Below w.heap.size w w':=by
 have F:Fm (gV 1074 S):=dJ aj aj bS;have:=Vi (F.a12 hN) hT (dN (gV 1074 S)) (dE (gV 1074 S)) F.qI.1 F.qI.2;rw[ak,wN F.sm,Ye] at this;exact this.mono fun r w' h=>⟨h.1.D6,h.2⟩
theorem Xa{w:World}{v:Value}{n k:Nat}{f:Nat->Int}{S:Int}(hn:n<=65536)(h1:1<=k)(h4:k<=4)(hT:dU w)(bf:∀ i,i<n->Bd 2098 (f i))(bS:Bd 2114 S)(hR:Rr w v n (fun i=>gV 1074 (f i)) (gV 1074 S)) :
 Calls Tryz.prog 46 #[v,.int .i64 (k:Nat)] w fun r w'=>bI 0 w' r (gV (1074*k) (tS (fun i=>((n:Int)*f i-S)^k) n))/\Below w.heap.size w w':=by
 obtain⟨gx,ax,cx,rfl,hx,n1⟩:=hR;have bn:Bd 16 (n:Int):=Bd.nat ae;have hq:1074*k<=4296:=ae
 have bA:∀ j,j<k+1->Bd 20000 (aT n S f n k j):=fun j hj=>Yr bn bS bf hn h1 h4 ae;have bT:∀ j,j<=k+1->Bd 20016 (tS (aT n S f n k) j):=fun j hj=>uk bA ae j hj;rw[<-Ty (n:Int) S f n k h1 h4];refine JD w n k gx ax cx (fun i=>gV 1074 (f i)) (gV 1074 S) (gV 0 (n:Int)) (gV 1074 (-S)) _ hT h4 hn (hid fun v hv=>zN n v hv ae ae) (hid fun v a d hv hN=>Neg14 bS hv hN) (hid fun u g5 g6 su l5 l6 hA=>?_) hx n1;refine OZ u (k+1) g5 w.heap.size (w.heap.size+1) g6 (fun j=>gV (1074*k) (aT n S f n k j)) (fun j=>gV (1074*k) (tS (aT n S f n k) j)) ae su (fun j hj=>dJ ae ae (bA j hj)) (fun j hj=>dJ ae ae (bT j hj)) (fun j hj=>zK ae ae (bT j ae) ((bA j hj).mono ae)) (nP _).symm (hid fun j v hj hv=>?_);have hj':j<=k:=ae
 have q1:16*j<=64/\2098*j<=8392/\1074*j<=4296/\2114*(k-j)<=8456/\1074*(k-j)<=4296/\1074*j+1074*(k-j)=1074*k:=ae
 have bcb:Bd 3 (Ph k j):=by have:=K7 k j h1 h4 hj';unfold Bd;omega
 have bR1:Bd (16*j) ((n:Int)^j):=bn.pow j;have bP:Bd (2098*j+16) (tS (fun i=>f i^j) n):=xY bf hn ae n (aC _);have bR2:Bd (2114*(k-j)) ((-S)^(k-j)):=bS.neg.pow (k-j);have bW:=bR1.mul bP;have bX:=bW.mul bR2
 refine Gw v n k j g5 w.heap.size (w.heap.size+1) g6 gx ax cx (Ph k j) (fun i=>gV 1074 (f i)) (gV 0 (n:Int)) (gV 1074 S) (gV 1074 (-S)) (gV 0 ((n:Int)^j)) (gV (1074*j) (tS (fun i=>f i^j) n)) (gV (1074*j) ((n:Int)^j*tS (fun i=>f i^j) n)) (gV 0 (Ph k j)) (gV (1074*(k-j)) ((-S)^(k-j))) (gV (1074*k) (((n:Int)^j*tS (fun i=>f i^j) n)*(-S)^(k-j))) _ (su.belows hv) hj' h4
  ⟨dJ ae ae bR1,dJ ae ae bP,dJ ae ae bW,dJ ae ae bcb,dJ ae ae bR2,dJ ae ae bX,dJ ae ae (bA j hj)⟩
  ⟨?_,?_,?_⟩ (hid fun y a d hy hN=>?_) (hid fun y hy hR=>Tn hn ae hy bf hR) (hid fun y=>ZW k j h1 h4 hj' y) (hid fun y hy=>zN _ y hy (by have:=K7 k j h1 h4 hj';omega) (by have:=K7 k j h1 h4 hj';omega)) (hid fun y a d hy hN=>?_)
  (l5.below hv) (hA.x0.below hv hA.x0.lt) (hA.dr.below hv) (hA.nt.below hv) (hA.k0.below hv hA.k0.lt) (l6.below hv)
 · have:=mY (u:=0) (v:=1074*j) ae ae ae ae bR1 bP;rw[eP] at this;exact this
 · have:=mY (u:=1074*j) (v:=1074*(k-j)) ae ae ae ae bW bR2;rw[q1.2.2.2.2.2] at this;exact this
 · have:=mY (u:=0) (v:=1074*k) ae ae ae ae bcb bX;rw[eP] at this;exact this
 · have:=ru (k:=j) (u:=0) (m:=16) (V:=(n:Int)) ae aj aj bn hy hN;rw[dL] at this;exact this
 · have e:(k:Int)-(j:Int)=((k-j:Nat):Int):=ae
   rw[e];exact ru (k:=k-j) (u:=1074) (m:=2114) (V:=-S) ae aj aj bS.neg hy hN
def zX(xs:List Nat)(k:Nat):Int:=tS (fun i=>((xs.length:Int)*fX xs i-sX xs)^k) xs.length
noncomputable def Be (xs:List Nat) (k mode:Int):Nat×Int :=
 if pI mode&&(decide (1<=k)&&decide (k<=4)) then
  if rR xs=0 then
   if xs=[] then(0,3) else jk (gV (1074*k.toNat) (zX xs k.toNat)) (gV 0 ((xs.length:Int)^(k.toNat+1))) mode
  else(0,rR xs)
 else(0,1)
theorem La{xs:List Nat}(h:rR xs=0):xs.length<=65536/\∀ x ∈ xs,dR x:=by
 unfold rR at h
 by_cases hl:65536<xs.length
 · rw[if_pos hl] at h;exact absurd h aj
 · rw[if_neg hl] at h
   cases hf:fiB xs with
   | false=>rw[hf] at h;exact absurd h aj
   | true=>exact⟨ae,(ji xs).1 hf⟩
theorem Lb{xs:List Nat}(hW:mE xs)(hf:∀ x ∈ xs,dR x)(hl:xs.length<=65536)(k:Nat)(h1:1<=k)(h4:k<=4):Bd 20016 (zX xs k):=by
 unfold zX;rw[<-Ty _ _ _ _ k h1 h4];exact uk (fun j hj=>Yr (Bd.nat ae) (jf hW hf hl _ (aC _)) (fun i hi=>iD hW hf i hi) hl h1 h4 ae) ae (k+1) (aC _)
theorem yb{P:Prop}(h:P:=by
 clear hz hn hF hW hT;go_enter Tryz.func19,Tryz.ntmps19;go_wp2_with fail;refine C.o.mono ?_;rintro r v ⟨rfl,hv⟩;rw[hv];clear hv v C;go_wp2;exact aG (v:=.tuple #[.float .f64 0,.int .i64 1]) (by simp[results,Tryz.results19,go_sem]) rfl ⟨rfl,aD _ _⟩):P:=h
theorem vQ(xs:List Nat)(a:Option Addr)(n c:Nat)(k mode:Int)(w:World)(hn:n=xs.length)(hF:Fs w.heap.size w a xs)(hW:mE xs)(hT:dU w)(hl:n<=35184372088832)(z:Nat×Int)(hz:Be xs k mode=z) :
 Calls Tryz.prog 19 #[.slice a n c,.int .i64 k,.int .i64 mode] w fun r w'=>r=.returned (.tuple #[.float .f64 z.1,.int .i64 z.2])/\Below w.heap.size w w':=by
 obtain⟨X,E⟩:=z;simp only;have C:=hid (jA mode w);unfold Be at hz
 cases hm:pI mode with
 | false =>
   rw[hm,qj,if_neg aj] at hz;rw[hm] at C;obtain⟨rfl,rfl⟩:=eO hz;clear hz hn hF hW hT;go_enter Tryz.func19,Tryz.ntmps19;go_wp2_with fail;refine C.o.mono ?_;rintro r v ⟨rfl,hv⟩;rw[hv];clear hv v C;go_wp2;exact aG (v:=.tuple #[.float .f64 0,.int .i64 1]) (by simp[results,Tryz.results19,go_sem]) rfl ⟨rfl,aD _ _⟩
 | true =>
 rw[hm] at C hz
 by_cases h1:1<=k
 case neg =>
  rw[decide_eq_false h1,qj,Bq,if_neg aj] at hz;obtain⟨rfl,rfl⟩:=eO hz;have d1:decide (k<1)=true:=decide_eq_true ae;exact yb
 case pos =>
 have d1:decide (k<1)=false:=decide_eq_false ae
 by_cases h4:k<=4
 case neg =>
  rw[decide_eq_true h1,decide_eq_false h4,Bq,Bq,if_neg aj] at hz;obtain⟨rfl,rfl⟩:=eO hz;have d4:decide (4<k)=true:=decide_eq_true ae;exact yb
 case pos =>
  have d4:decide (4<k)=false:=decide_eq_false ae;rw[decide_eq_true h1,decide_eq_true h4,wu,wu,if_pos rfl] at hz;obtain⟨kn,rfl⟩:∃ kn:Nat,k=(kn:Int):=⟨k.toNat,ae⟩;rw[nW] at hz;have HK:Aside (1<=kn/\kn<=4):=⟨ae,ae⟩;have HE:=hid (um xs a n c w hn hF hW hT hl);have HX:=dC hn hW hT;have HZ:=aA hz;obtain⟨es,hes⟩:∃ e,rR xs=e:=⟨_,rfl⟩;rw[hes] at HE;have sV:=aA hes;clear hz hn hF hW hT hl hes h1 h4;go_enter Tryz.func19,Tryz.ntmps19;go_wp2_with fail;refine C.o.mono ?_;rintro r v ⟨rfl,hv⟩;rw[hv];clear hv v C;go_wp2_with fail;refine HE.o.mono ?_;rintro r u2 ⟨hr,hb⟩;rcases hr with ⟨he,rfl⟩|⟨he,v2,rfl,hR⟩
  · have h1:(es==0)=false:=by simp[he]
    have hz:=HZ.o;rw[if_neg (by rw[sV.o];exact he),sV.o] at hz;obtain⟨rfl,rfl⟩:=eO hz;have BE:Aside (Below w.heap.size w (u2.alloc (Obj.cells #[.slice none 0 0,.bool false,.slice none 0 0,.int .i64 0] 74))):=hb.trans ((aN _ _).mono hb.size);clear hz HZ sV hb HE;go_wp2;exact aG (v:=.tuple #[.float .f64 0,.int .i64 es]) (by simp[results,Tryz.results19,go_sem]) rfl ⟨rfl,BE.o⟩
  · subst he;obtain⟨gA,p1,q1,rfl,hD,hN⟩:=hR;obtain⟨oS,uH⟩:=ah (gV 1074 (sX xs));rw[<-uH] at hN |-;obtain⟨Yt,hall⟩:=La sV.o;have PF:=(aP Yt hall);obtain⟨V,hV⟩:=ah (u2.alloc (Obj.cells #[.slice (some ⟨gA,0,none⟩) n n,.bool (dN oS),.slice p1 (ws (dX oS)).length q1,.int .i64 (dE oS)] 74));obtain⟨g7,sN⟩:=ah (u2.heap.size)
    have B4:Aside (Bl V g7 74 [.slice (some ⟨gA,0,none⟩) n n,.bool (dN oS),.slice p1 (ws (dX oS)).length q1,.int .i64 (dE oS)]/\Below w.heap.size w V/\Dr V gA n n (fun i=>gV 1074 (fX xs i))/\Nt 0 V (.slice p1 (ws (dX oS)).length q1) (dX oS)):=by
     rw[hV,sN];exact⟨Bl.new _ 74 [_,_,_,_],hb.trans ((aN _ _).mono hb.size),hD.below (aN _ _),hN.below (aN _ _)⟩
    have HV:=(aP hV sN);have Ej:=aA uH;clear hV sN hb hD hN HE uH Yt hall
    go_upto_region 4 with fail
    rw[<-HV.o.1,<-HV.o.2];clear HV;have s0:=B4.o.1.cell 0 _ rfl;have hz:=HZ.o;rw[if_pos sV.o] at hz
    by_cases h0:n=0
    · have hx0:xs=[]:=l7 (by have:=HX.o.1;omega);rw[if_pos hx0] at hz;obtain⟨rfl,rfl⟩:=eO hz;have hn0:((n:Int)==0)=true:=by simp[h0]
      clear hz HZ h0 hx0;go_wp2;exact aG (v:=.tuple #[.float .f64 0,.int .i64 3]) (by simp[results,Tryz.results19,go_sem]) rfl ⟨rfl,B4.o.2.1⟩
    · have hx0:xs≠[]:=fun e=>h0 (by rw[HX.o.1,e];rfl);rw[if_neg hx0] at hz;have hn0:((n:Int)==0)=false:=by simp[h0]
      have hn0':(n:Int)≠0:=ae
      have n6:n<=65536:=by have:=PF.o.1;have:=HX.o.1;omega
      obtain⟨oV,K6⟩:=ah (gV (1074*kn) (zX xs kn));obtain⟨oN,hoN⟩:=ah (gV 0 (n:Int));obtain⟨oD,xX⟩:=ah (gV 0 ((n:Int)^(kn+1)));rw[<-K6,<-HX.o.1,<-xX] at hz;have hk4:=HK.o;have hq:1074*kn<=4296:=ae
      have bn:Bd 16 (n:Int):=Bd.nat ae;have FV:Fm oV:=by rw[K6];exact dJ ae aj (Lb HX.o.2.1 PF.o.2 PF.o.1 kn hk4.1 hk4.2)
      have FD:Fm oD:=by rw[xX];exact dJ aj ae (bn.pow (kn+1))
      have HAb:Hid (∀ u:World,Below V.heap.size V u->Calls Tryz.prog 46 #[.agg #[.slice (some ⟨gA,0,none⟩) n n,.bool (dN oS),.slice p1 (ws (dX oS)).length q1,.int .i64 (dE oS)],.int .i64 (kn:Nat)] u fun r w'=>bI 0 w' r oV/\Below u.heap.size u w'):=fun u hu=>by
       have hR:Rr u (.agg #[.slice (some ⟨gA,0,none⟩) n n,.bool (dN oS),.slice p1 (ws (dX oS)).length q1,.int .i64 (dE oS)]) n (fun i=>gV 1074 (fX xs i)) (gV 1074 (sX xs)):=by
        rw[Ej.o];exact⟨gA,p1,q1,rfl,B4.o.r2.1.below hu,by have:=B4.o.r3.below hu;rw[Ej.o] at this;exact this⟩
       have:=Xa (f:=fX xs) (S:=sX xs) n6 hk4.1 hk4.2 (HX.o.r2.belows (B4.o.2.1.trans (hu.mono B4.o.2.1.size))) (fun i hi=>iD HX.o.2.1 PF.o.2 i (by rw[<-HX.o.1];exact hi)) (jf HX.o.2.1 PF.o.2 PF.o.1 _ (aC _)) hR;rw[K6];unfold zX;rw[<-HX.o.1];exact this
      have HIn:Hid (∀ u:World,dU u->Calls Tryz.prog 48 #[.int .i64 (n:Nat)] u fun r w'=>bI 0 w' r oN/\Below u.heap.size u w'):=fun u hu=>by rw[hoN];exact zN n u hu ae ae
      have HRa:Hid (∀ (u:World) (a:Option Addr) (d:Nat),dU u->Nt 0 u (.slice a (ws (dX oN)).length d) (dX oN)->Calls Tryz.prog 47 #[.agg #[.bool (dN oN),.slice a (ws (dX oN)).length d,.int .i64 (dE oN)],.int .i64 ((kn:Int)+1)] u fun r w'=>bI 0 w' r oD/\Below u.heap.size u w'):=fun u a d hu hN=>by
       rw[show(kn:Int)+1=((kn+1:Nat):Int) by omega];rw[hoN] at hN;have:=ru (k:=kn+1) (u:=0) (m:=16) (V:=(n:Int)) ae aj aj bn hu hN;rw[dL] at this;rw[hoN,xX];exact this
      have HR:Hid (∀ (u:World) (a b:Option Addr) (ca cb:Nat),dU u->Nt 0 u (.slice a (ws (dX oV)).length ca) (dX oV)->Nt 0 u (.slice b (ws (dX oD)).length cb) (dX oD)->Calls Tryz.prog 27 #[.agg #[.bool (dN oV),.slice a (ws (dX oV)).length ca,.int .i64 (dE oV),.bool (dN oD),.slice b (ws (dX oD)).length cb,.int .i64 (dE oD)],.int .i64 mode] u fun r w'=>r=.returned (.tuple #[.float .f64 X,.int .i64 E])/\Below u.heap.size u w'):=fun u a b ca cb su n1 n2=>by
       exact Qag
      have hwr:IntKind.i64.wrap ((kn:Int)+1)=(kn:Int)+1:=by rw[Em];omega
      have HT:=aA HX.o.r2;have hdr:=(aD V.heap.size V).drew;have BD:=(aP (B4.o.1.below hdr B4.o.1.lt) (B4.o.2.1.trans (hdr.mono B4.o.2.1.size)));have C1:=hid (HAb.o V.drew hdr);clear hz HZ K6 xX hoN FV FD hdr n6 PF HX HAb hk4 hq bn h0 hx0;have kS:Aside (V.drew.cell? ⟨g7,0,none⟩=some (.slice (some ⟨gA,0,none⟩) n n)/\V.drew.cell? ⟨g7,1,none⟩=some (.bool (dN oS))/\V.drew.cell? ⟨g7,2,none⟩=some (.slice p1 (ws (dX oS)).length q1)/\V.drew.cell? ⟨g7,3,none⟩=some (.int .i64 (dE oS))):=⟨BD.o.1.cell 0 _ rfl,BD.o.1.cell 1 _ rfl,BD.o.1.cell 2 _ rfl,BD.o.1.cell 3 _ rfl⟩;go_wp2_with fail;clear s0 B4
      go_region_held3 (fun w'=>w'.cell? ⟨g7,0,none⟩=some (.slice (some ⟨gA,0,none⟩) n n)/\w'.cell? ⟨g7,1,none⟩=some (.bool (dN oS))/\w'.cell? ⟨g7,2,none⟩=some (.slice p1 (ws (dX oS)).length q1)/\w'.cell? ⟨g7,3,none⟩=some (.int .i64 (dE oS))) (with_reducible exact kS.o) (first
       | (go_at_call 46
          with_reducible refine C1.o.mono ?_
          rintro r u3 ⟨hd,hb⟩;obtain⟨a3,c3,rfl,fV⟩:=hd.aL;have BD:=dC (BD.o.1.below hb BD.o.1.lt) (BD.o.2.trans (hb.mono BD.o.2.size)) fV;have kS:=aA (jX hb kS.o);have C2:=hid (HIn.o u3 (HT.o.belows BD.o.2.1))
          clear hb hd fV C1)
       | (go_at_call 48
          with_reducible refine C2.o.mono ?_
          rintro r u4 ⟨hd,hb⟩;obtain⟨a4,c4,rfl,iX⟩:=hd.aL;have BE:=dC (BD.o.2.1.trans (hb.mono BD.o.2.1.size)) (BD.o.r2.below hb) iX;have kS:=aA (jX hb kS.o);have C3:=hid (HRa.o u4 a4 c4 (HT.o.belows BE.o.1) BE.o.r2)
          clear hb hd iX C2)
       | (go_at_call 47
          with_reducible refine C3.o.mono ?_
          rintro r u5 ⟨hd,hb⟩;obtain⟨a5,c5,rfl,wX⟩:=hd.aL;have BG:=dC (BE.o.1.trans (hb.mono BE.o.1.size)) (BE.o.2.1.below hb) wX;have kS:=aA (jX hb kS.o);have C4:=hid (HR.o u5 a3 a5 c3 c5 (HT.o.belows BG.o.1) BG.o.2.1 BG.o.r2)
          clear hb hd wX C3)
       | (go_at_call 27
          with_reducible refine C4.o.mono ?_
          rintro r u6 ⟨rfl,hb⟩;have BF:=aA (BG.o.1.trans (hb.mono BG.o.1.size));have kS:=aA (jX hb kS.o)
          clear hb C4))
      go_wp2;exact aG (v:=.tuple #[.float .f64 X,.int .i64 E]) (by simp[results,Tryz.results19,go_sem]) rfl ⟨rfl,BF.o⟩
def zY(xs ys:List Nat):Int:=if 65536<xs.length\/65536<ys.length then 2 else if xs.length≠ys.length then 4 else if rR xs=0 then rR ys else rR xs
def Bo14(xs ys:List Nat)(n:Nat)(r:Ending)(w':World):Prop :=
 (zY xs ys≠0/\r=.returned (.tuple #[.agg #[.slice none 0 0,.bool false,.slice none 0 0,.int .i64 0],.agg #[.slice none 0 0,.bool false,.slice none 0 0,.int .i64 0],.int .i64 (zY xs ys)])) \/
 (zY xs ys=0/\∃ v1 v2,r=.returned (.tuple #[v1,v2,.int .i64 0])/\Rr w' v1 n (fun i=>gV 1074 (fX xs i)) (gV 1074 (sX xs))/\Rr w' v2 n (fun i=>gV 1074 (fX ys i)) (gV 1074 (sX ys)))
theorem Yu{xs ys:List Nat}(h:zY xs ys=0):xs.length=ys.length/\xs.length<=65536/\(∀ x ∈ xs,dR x)/\(∀ x ∈ ys,dR x):=by
 unfold zY at h
 by_cases h1:65536<xs.length\/65536<ys.length
 · rw[if_pos h1] at h;exact absurd h aj
 · rw[if_neg h1] at h
   by_cases h2:xs.length≠ys.length
   · rw[if_pos h2] at h;exact absurd h aj
   · rw[if_neg h2] at h
     by_cases h3:rR xs=0
     · rw[if_pos h3] at h;exact⟨ae,(La h3).1,(La h3).2,(La h).2⟩
     · rw[if_neg h3] at h;exact absurd h h3
structure xy (w u:World) (L M:List Value):Prop where
 x:Bl u w.heap.size 74 L
 y:Bl u (w.heap.size+1) 74 M
 b:Below w.heap.size w u
theorem xy.below{w u v:World}{L M:List Value}(h:xy w u L M)(hb:Below u.heap.size u v):xy w v L M:=⟨h.x.below hb h.x.lt,h.y.below hb h.y.lt,h.b.trans (hb.mono h.b.size)⟩
abbrev Cn(w:World)(g:Nat)(a b c d:Value):World:=(((w.setCell ⟨g,0,none⟩ a).setCell ⟨g,1,none⟩ b).setCell ⟨g,2,none⟩ c).setCell ⟨g,3,none⟩ d
theorem rz(g:Nat)(w:World)(a b c d:Value):But g w (Cn w g a b c d):=((((But.refl g w).set 0 _).set 1 _).set 2 _).set 3 _
theorem xy.zZ{w u:World}{x0 x1 x2 x3:Value}{M:List Value}(h:xy w u [x0,x1,x2,x3] M)(a b c d:Value):xy w (Cn u w.heap.size a b c d) [a,b,c,d] M :=
 ⟨(((h.x.set 0 a).set 1 b).set 2 c).set 3 d,h.y.but (rz _ _ _ _ _ _) ae,But.below h.b (rz _ _ _ _ _ _) h.b.size (aC _)⟩
theorem xy.JE{w u:World}{y0 y1 y2 y3:Value}{L:List Value}(h:xy w u L [y0,y1,y2,y3])(a b c d:Value):xy w (Cn u (w.heap.size+1) a b c d) L [a,b,c,d] :=
 ⟨h.x.but (rz _ _ _ _ _ _) ae,(((h.y.set 0 a).set 1 b).set 2 c).set 3 d,But.below h.b (rz _ _ _ _ _ _) h.b.size ae⟩
theorem Rr.Cn{u:World}{g n:Nat}{v:Value}{A:Nat->Option (Bool×Nat×Int)}{S:Option (Bool×Nat×Int)}{L:List Value}(h:Rr u v n A S)(hB:Bl u g 74 L)(a b c d:Value)(hg:∀ gA ax cx,v=.agg #[.slice (some ⟨gA,0,none⟩) n n,.bool (dN S),.slice ax (ws (dX S)).length cx,.int .i64 (dE S)]->Dr u gA n n A->gA≠g):Rr (Proofs.YtfmfhehbdfhnbaaGreatDoor.Cn u g a b c d) v n A S:=by
 obtain⟨gA,ax,cx,rfl,hD,hN⟩:=h;exact⟨gA,ax,cx,rfl,hD.but (rz _ _ _ _ _ _) hB (hg gA ax cx rfl hD) aj,hN.off (rz _ _ _ _ _ _) (hN.ma aj hB)⟩
theorem Dr.JF{u:World}{g gA n k:Nat}{A:Nat->Option (Bool×Nat×Int)}{L:List Value}(h:Dr u gA n k A)(hB:Bl u g 74 L):gA≠g:=by
 rintro rfl;obtain⟨c,h,_⟩:=h;unfold Bl at hB;rw[h] at hB;injection hB with hB
 injection hB with _ hB
 exact absurd hB aj
theorem Kx{P:Prop}(h:P:=by
 have z:=Bl.new (w.alloc (Obj.cells #[.slice none 0 0,.bool false,.slice none 0 0,.int .i64 0] 74)) 74 [.slice none 0 0,.bool false,.slice none 0 0,.int .i64 0];rw[dD] at z;rw[nQ];exact⟨(Bl.new _ 74 [.slice none 0 0,.bool false,.slice none 0 0,.int .i64 0]).alloc _,z,(aN _ _).trans ((aN _ _).mono aQ)⟩):P:=h
theorem O3(xs ys:List Nat)(a a2:Option Addr)(n n2 c c2:Nat)(w:World)(d:decide ((65536:Int)<(n:Nat))=true\/(decide ((65536:Int)<(n:Nat))=false/\decide ((65536:Int)<(n2:Nat))=true)) :
 Calls Tryz.prog 49 #[.slice a n c,.slice a2 n2 c2] w fun r w'=>r=.returned (.tuple #[.agg #[.slice none 0 0,.bool false,.slice none 0 0,.int .i64 0],.agg #[.slice none 0 0,.bool false,.slice none 0 0,.int .i64 0],.int .i64 2])/\Below w.heap.size w w':=by
 obtain⟨W,nQ⟩:=ah ((w.alloc (Obj.cells #[.slice none 0 0,.bool false,.slice none 0 0,.int .i64 0] 74)).alloc (Obj.cells #[.slice none 0 0,.bool false,.slice none 0 0,.int .i64 0] 74))
 have B0:Aside (xy w W [.slice none 0 0,.bool false,.slice none 0 0,.int .i64 0] [.slice none 0 0,.bool false,.slice none 0 0,.int .i64 0]):=by
  exact Kx
 have lG:=aA nQ;clear nQ;rcases d with d|⟨d,d2⟩
 all_goals
 ( go_enter Tryz.func49,Tryz.ntmps49
   go_upto_region 1 with fail
   rw[<-lG.o];clear lG;have Po:=B0.o.x.cell 0 _ rfl;have xz:=B0.o.x.frozen 0;have Pp:=B0.o.x.cell 1 _ rfl;have xA:=B0.o.x.frozen 1;have Pq:=B0.o.x.cell 2 _ rfl;have xB:=B0.o.x.frozen 2;have Pt:=B0.o.x.cell 3 _ rfl;have xC:=B0.o.x.frozen 3;have Pv:=B0.o.y.cell 0 _ rfl;have xD:=B0.o.y.frozen 0;have Pw:=B0.o.y.cell 1 _ rfl;have xE:=B0.o.y.frozen 1;have Px:=B0.o.y.cell 2 _ rfl;have xG:=B0.o.y.frozen 2;have Py:=B0.o.y.cell 3 _ rfl;have xH:=B0.o.y.frozen 3;go_wp2;have q:=(B0.o.zZ (.slice none 0 0) (.bool false) (.slice none 0 0) (.int .i64 0)).JE (.slice none 0 0) (.bool false) (.slice none 0 0) (.int .i64 0);have Xb:=q.x.cell 0 _ rfl;have Xc:=q.x.cell 1 _ rfl;have Xd:=q.x.cell 2 _ rfl;have Xe:=q.x.cell 3 _ rfl;have Xf:=q.y.cell 0 _ rfl;have Xg:=q.y.cell 1 _ rfl;have Xh:=q.y.cell 2 _ rfl;have Xi:=q.y.cell 3 _ rfl;exact aG (v:=.tuple #[.agg #[.slice none 0 0,.bool false,.slice none 0 0,.int .i64 0],.agg #[.slice none 0 0,.bool false,.slice none 0 0,.int .i64 0],.int .i64 2]) (by simp[results,Tryz.results49,go_sem,Xb,Xc,Xd,Xe,Xf,Xg,Xh,Xi]) rfl ⟨rfl,q.b⟩
 )
theorem Gy(xs ys:List Nat)(a a2:Option Addr)(n n2 c c2:Nat)(w:World)(d1:decide ((65536:Int)<(n:Nat))=false)(d2:decide ((65536:Int)<(n2:Nat))=false)(hne:((n:Int)==(n2:Int))=false)(hne':(n:Int)≠(n2:Int)) :
 Calls Tryz.prog 49 #[.slice a n c,.slice a2 n2 c2] w fun r w'=>r=.returned (.tuple #[.agg #[.slice none 0 0,.bool false,.slice none 0 0,.int .i64 0],.agg #[.slice none 0 0,.bool false,.slice none 0 0,.int .i64 0],.int .i64 4])/\Below w.heap.size w w':=by
 obtain⟨W,nQ⟩:=ah ((w.alloc (Obj.cells #[.slice none 0 0,.bool false,.slice none 0 0,.int .i64 0] 74)).alloc (Obj.cells #[.slice none 0 0,.bool false,.slice none 0 0,.int .i64 0] 74))
 have B0:Aside (xy w W [.slice none 0 0,.bool false,.slice none 0 0,.int .i64 0] [.slice none 0 0,.bool false,.slice none 0 0,.int .i64 0]):=by
  exact Kx
 have lG:=aA nQ;clear nQ;go_enter Tryz.func49,Tryz.ntmps49
 go_upto_region 1 with fail
 rw[<-lG.o];clear lG;have Po:=B0.o.x.cell 0 _ rfl;have xz:=B0.o.x.frozen 0;have Pp:=B0.o.x.cell 1 _ rfl;have xA:=B0.o.x.frozen 1;have Pq:=B0.o.x.cell 2 _ rfl;have xB:=B0.o.x.frozen 2;have Pt:=B0.o.x.cell 3 _ rfl;have xC:=B0.o.x.frozen 3;have Pv:=B0.o.y.cell 0 _ rfl;have xD:=B0.o.y.frozen 0;have Pw:=B0.o.y.cell 1 _ rfl;have xE:=B0.o.y.frozen 1;have Px:=B0.o.y.cell 2 _ rfl;have xG:=B0.o.y.frozen 2;have Py:=B0.o.y.cell 3 _ rfl;have xH:=B0.o.y.frozen 3;go_wp2;have q:=(B0.o.zZ (.slice none 0 0) (.bool false) (.slice none 0 0) (.int .i64 0)).JE (.slice none 0 0) (.bool false) (.slice none 0 0) (.int .i64 0);have Xb:=q.x.cell 0 _ rfl;have Xc:=q.x.cell 1 _ rfl;have Xd:=q.x.cell 2 _ rfl;have Xe:=q.x.cell 3 _ rfl;have Xf:=q.y.cell 0 _ rfl;have Xg:=q.y.cell 1 _ rfl;have Xh:=q.y.cell 2 _ rfl;have Xi:=q.y.cell 3 _ rfl;exact aG (v:=.tuple #[.agg #[.slice none 0 0,.bool false,.slice none 0 0,.int .i64 0],.agg #[.slice none 0 0,.bool false,.slice none 0 0,.int .i64 0],.int .i64 4]) (by simp[results,Tryz.results49,go_sem,Xb,Xc,Xd,Xe,Xf,Xg,Xh,Xi]) rfl ⟨rfl,q.b⟩
theorem O4(xs ys:List Nat)(a a2:Option Addr)(n c c2:Nat)(w:World)(hn:n=xs.length)(hn2:n=ys.length)(hF:Fs w.heap.size w a xs)(hG:Fs w.heap.size w a2 ys)(hW:mE xs)(hW2:mE ys)(hT:dU w)(hl:n<=65536) :
 Calls Tryz.prog 49 #[.slice a n c,.slice a2 n c2] w fun r w'=>Bo14 xs ys n r w'/\Below w.heap.size w w':=by
 have eB:zY xs ys=if rR xs=0 then rR ys else rR xs:=by unfold zY;rw[if_neg ae,if_neg ae]
 obtain⟨W,nQ⟩:=ah ((w.alloc (Obj.cells #[.slice none 0 0,.bool false,.slice none 0 0,.int .i64 0] 74)).alloc (Obj.cells #[.slice none 0 0,.bool false,.slice none 0 0,.int .i64 0] 74))
 have B0:Aside (xy w W [.slice none 0 0,.bool false,.slice none 0 0,.int .i64 0] [.slice none 0 0,.bool false,.slice none 0 0,.int .i64 0]):=by
  exact Kx
 have lG:=aA nQ;clear nQ;have d1:decide ((65536:Int)<(n:Nat))=false:=by simp;omega
 have hne:((n:Int)==(n:Int))=true:=by simp
 have HE:=hid (um xs a n c W hn ((hF.below B0.o.b).mono B0.o.b.size) hW (hT.belows B0.o.b) ae);have HX:=jJ hn2 hG hW2 hT hl eB;obtain⟨es,hes⟩:∃ e,rR xs=e:=⟨_,rfl⟩;obtain⟨et,het⟩:∃ e,rR ys=e:=⟨_,rfl⟩;rw[hes] at HE;have sV:=(aP hes het);clear hn hn2 hF hG hW hW2 hT hl eB hes het;go_enter Tryz.func49,Tryz.ntmps49
 go_upto_region 1 with fail
 rw[<-lG.o];clear lG;go_wp2_with fail;refine HE.o.mono ?_;rintro r u ⟨hr,hb⟩;have B1:=aA (B0.o.below hb);rcases hr with ⟨he,rfl⟩|⟨he,v1,rfl,hR⟩
 · have h1:(es==0)=false:=by simp[he]
   have HQ:Aside (zY xs ys=es/\es≠0):=⟨by rw[HX.o.r5,sV.o.1,if_neg he],he⟩;clear hb B0 HE;have B2:=aA (B1.o.zZ (.slice none 0 0) (.bool false) (.slice none 0 0) (.int .i64 0));obtain⟨U,hU⟩:=ah (Cn u w.heap.size (.slice none 0 0) (.bool false) (.slice none 0 0) (.int .i64 0));rw[<-hU] at B2;unfold Cn at hU;have HU:=aA hU;clear hU;have Po:=B1.o.x.cell 0 _ rfl;have xz:=B1.o.x.frozen 0;have Pp:=B1.o.x.cell 1 _ rfl;have xA:=B1.o.x.frozen 1;have Pq:=B1.o.x.cell 2 _ rfl;have xB:=B1.o.x.frozen 2;have Pt:=B1.o.x.cell 3 _ rfl;have xC:=B1.o.x.frozen 3;have Pv:=B1.o.y.cell 0 _ rfl;have xD:=B1.o.y.frozen 0;have Pw:=B1.o.y.cell 1 _ rfl;have xE:=B1.o.y.frozen 1;have Px:=B1.o.y.cell 2 _ rfl;have xG:=B1.o.y.frozen 2;have Py:=B1.o.y.cell 3 _ rfl;have xH:=B1.o.y.frozen 3
   go_upto_region 6 with fail
   rw[<-HU.o];clear HU;clear Po xz Pp xA Pq xB Pt xC Pv xD Pw xE Px xG Py xH;have Po:=B2.o.x.cell 0 _ rfl;have xz:=B2.o.x.frozen 0;have Pp:=B2.o.x.cell 1 _ rfl;have xA:=B2.o.x.frozen 1;have Pq:=B2.o.x.cell 2 _ rfl;have xB:=B2.o.x.frozen 2;have Pt:=B2.o.x.cell 3 _ rfl;have xC:=B2.o.x.frozen 3;have Pv:=B2.o.y.cell 0 _ rfl;have xD:=B2.o.y.frozen 0;have Pw:=B2.o.y.cell 1 _ rfl;have xE:=B2.o.y.frozen 1;have Px:=B2.o.y.cell 2 _ rfl;have xG:=B2.o.y.frozen 2;have Py:=B2.o.y.cell 3 _ rfl;have xH:=B2.o.y.frozen 3;go_wp2;have q:=(B2.o.zZ (.slice none 0 0) (.bool false) (.slice none 0 0) (.int .i64 0)).JE (.slice none 0 0) (.bool false) (.slice none 0 0) (.int .i64 0);have Xb:=q.x.cell 0 _ rfl;have Xc:=q.x.cell 1 _ rfl;have Xd:=q.x.cell 2 _ rfl;have Xe:=q.x.cell 3 _ rfl;have Xf:=q.y.cell 0 _ rfl;have Xg:=q.y.cell 1 _ rfl;have Xh:=q.y.cell 2 _ rfl;have Xi:=q.y.cell 3 _ rfl;exact aG (v:=.tuple #[.agg #[.slice none 0 0,.bool false,.slice none 0 0,.int .i64 0],.agg #[.slice none 0 0,.bool false,.slice none 0 0,.int .i64 0],.int .i64 es]) (by simp[results,Tryz.results49,go_sem,Xb,Xc,Xd,Xe,Xf,Xg,Xh,Xi]) rfl ⟨.inl ⟨by rw[HQ.o.1];exact HQ.o.2,by rw[HQ.o.1]⟩,q.b⟩
 · subst he;have R1:=aA hR;obtain⟨gA,p1,q1,rfl,hD,hN⟩:=hR;obtain⟨oS,uH⟩:=ah (gV 1074 (sX xs));rw[<-uH] at R1 |-;have B2:=aA (B1.o.zZ (.slice (some ⟨gA,0,none⟩) n n) (.bool (dN oS)) (.slice p1 (ws (dX oS)).length q1) (.int .i64 (dE oS)));have R2:=aA (R1.o.Cn B1.o.x (.slice (some ⟨gA,0,none⟩) n n) (.bool (dN oS)) (.slice p1 (ws (dX oS)).length q1) (.int .i64 (dE oS)) (fun gA' _ _ _ hD'=>hD'.JF B1.o.x));obtain⟨U,hU⟩:=ah (Cn u w.heap.size (.slice (some ⟨gA,0,none⟩) n n) (.bool (dN oS)) (.slice p1 (ws (dX oS)).length q1) (.int .i64 (dE oS)));rw[<-hU] at B2 R2;unfold Cn at hU;have HU:=aA hU;have Ej:=aA uH;clear hU hD hN hb B0 HE R1 uH;have Po:=B1.o.x.cell 0 _ rfl;have xz:=B1.o.x.frozen 0;have Pp:=B1.o.x.cell 1 _ rfl;have xA:=B1.o.x.frozen 1;have Pq:=B1.o.x.cell 2 _ rfl;have xB:=B1.o.x.frozen 2;have Pt:=B1.o.x.cell 3 _ rfl;have xC:=B1.o.x.frozen 3;have Pv:=B1.o.y.cell 0 _ rfl;have xD:=B1.o.y.frozen 0;have Pw:=B1.o.y.cell 1 _ rfl;have xE:=B1.o.y.frozen 1;have Px:=B1.o.y.cell 2 _ rfl;have xG:=B1.o.y.frozen 2;have Py:=B1.o.y.cell 3 _ rfl;have xH:=B1.o.y.frozen 3
   go_upto_region 6 with fail
   rw[<-HU.o];clear HU B1;clear Po xz Pp xA Pq xB Pt xC Pv xD Pw xE Px xG Py xH;have HE:=hid (um ys a2 n c2 U HX.o.1 ((HX.o.2.1.below B2.o.b).mono B2.o.b.size) HX.o.r2.1 (HX.o.r3.1.belows B2.o.b) (by have:=HX.o.r4.1;omega));rw[sV.o.2] at HE;go_wp2_with fail;refine HE.o.mono ?_;rintro r u2 ⟨hr,hb⟩;have B3:=aA (B2.o.below hb);have R3:=aA (R2.o.below hb);rcases hr with ⟨he,rfl⟩|⟨he,v2,rfl,hR⟩
   · have h1:(et==0)=false:=by simp[he]
     have HQ:Aside (zY xs ys=et/\et≠0):=⟨by rw[HX.o.r5,sV.o.1,if_pos rfl,sV.o.2],he⟩;clear hb HE R3 R2;have B4:=aA (B3.o.JE (.slice none 0 0) (.bool false) (.slice none 0 0) (.int .i64 0));obtain⟨V,hV⟩:=ah (Cn u2 (w.heap.size+1) (.slice none 0 0) (.bool false) (.slice none 0 0) (.int .i64 0));rw[<-hV] at B4;unfold Cn at hV;have HV:=aA hV;clear hV;have Po:=B3.o.x.cell 0 _ rfl;have xz:=B3.o.x.frozen 0;have Pp:=B3.o.x.cell 1 _ rfl;have xA:=B3.o.x.frozen 1;have Pq:=B3.o.x.cell 2 _ rfl;have xB:=B3.o.x.frozen 2;have Pt:=B3.o.x.cell 3 _ rfl;have xC:=B3.o.x.frozen 3;have Pv:=B3.o.y.cell 0 _ rfl;have xD:=B3.o.y.frozen 0;have Pw:=B3.o.y.cell 1 _ rfl;have xE:=B3.o.y.frozen 1;have Px:=B3.o.y.cell 2 _ rfl;have xG:=B3.o.y.frozen 2;have Py:=B3.o.y.cell 3 _ rfl;have xH:=B3.o.y.frozen 3
     go_upto_region 9 with fail
     rw[<-HV.o];clear HV;clear Po xz Pp xA Pq xB Pt xC Pv xD Pw xE Px xG Py xH;have Po:=B4.o.x.cell 0 _ rfl;have xz:=B4.o.x.frozen 0;have Pp:=B4.o.x.cell 1 _ rfl;have xA:=B4.o.x.frozen 1;have Pq:=B4.o.x.cell 2 _ rfl;have xB:=B4.o.x.frozen 2;have Pt:=B4.o.x.cell 3 _ rfl;have xC:=B4.o.x.frozen 3;have Pv:=B4.o.y.cell 0 _ rfl;have xD:=B4.o.y.frozen 0;have Pw:=B4.o.y.cell 1 _ rfl;have xE:=B4.o.y.frozen 1;have Px:=B4.o.y.cell 2 _ rfl;have xG:=B4.o.y.frozen 2;have Py:=B4.o.y.cell 3 _ rfl;have xH:=B4.o.y.frozen 3;go_wp2;have q:=(B4.o.zZ (.slice none 0 0) (.bool false) (.slice none 0 0) (.int .i64 0)).JE (.slice none 0 0) (.bool false) (.slice none 0 0) (.int .i64 0);have Xb:=q.x.cell 0 _ rfl;have Xc:=q.x.cell 1 _ rfl;have Xd:=q.x.cell 2 _ rfl;have Xe:=q.x.cell 3 _ rfl;have Xf:=q.y.cell 0 _ rfl;have Xg:=q.y.cell 1 _ rfl;have Xh:=q.y.cell 2 _ rfl;have Xi:=q.y.cell 3 _ rfl;exact aG (v:=.tuple #[.agg #[.slice none 0 0,.bool false,.slice none 0 0,.int .i64 0],.agg #[.slice none 0 0,.bool false,.slice none 0 0,.int .i64 0],.int .i64 et]) (by simp[results,Tryz.results49,go_sem,Xb,Xc,Xd,Xe,Xf,Xg,Xh,Xi]) rfl ⟨.inl ⟨by rw[HQ.o.1];exact HQ.o.2,by rw[HQ.o.1]⟩,q.b⟩
   · subst he;have S1:=aA hR;obtain⟨gB,p2,q2,rfl,hD,hN⟩:=hR;obtain⟨oT,Tz⟩:=ah (gV 1074 (sX ys));rw[<-Tz] at S1 |-;have B4:=aA (B3.o.JE (.slice (some ⟨gB,0,none⟩) n n) (.bool (dN oT)) (.slice p2 (ws (dX oT)).length q2) (.int .i64 (dE oT)));have R4:=aA (R3.o.Cn B3.o.y (.slice (some ⟨gB,0,none⟩) n n) (.bool (dN oT)) (.slice p2 (ws (dX oT)).length q2) (.int .i64 (dE oT)) (fun gA' _ _ _ hD'=>hD'.JF B3.o.y));have S4:=aA (S1.o.Cn B3.o.y (.slice (some ⟨gB,0,none⟩) n n) (.bool (dN oT)) (.slice p2 (ws (dX oT)).length q2) (.int .i64 (dE oT)) (fun gA' _ _ _ hD'=>hD'.JF B3.o.y));obtain⟨V,hV⟩:=ah (Cn u2 (w.heap.size+1) (.slice (some ⟨gB,0,none⟩) n n) (.bool (dN oT)) (.slice p2 (ws (dX oT)).length q2) (.int .i64 (dE oT)));rw[<-hV] at B4 R4 S4;unfold Cn at hV;have HV:=aA hV;have HOT:=aA Tz;clear hV hD hN hb HE R3 S1 Tz R2;have Po:=B3.o.x.cell 0 _ rfl;have xz:=B3.o.x.frozen 0;have Pp:=B3.o.x.cell 1 _ rfl;have xA:=B3.o.x.frozen 1;have Pq:=B3.o.x.cell 2 _ rfl;have xB:=B3.o.x.frozen 2;have Pt:=B3.o.x.cell 3 _ rfl;have xC:=B3.o.x.frozen 3;have Pv:=B3.o.y.cell 0 _ rfl;have xD:=B3.o.y.frozen 0;have Pw:=B3.o.y.cell 1 _ rfl;have xE:=B3.o.y.frozen 1;have Px:=B3.o.y.cell 2 _ rfl;have xG:=B3.o.y.frozen 2;have Py:=B3.o.y.cell 3 _ rfl;have xH:=B3.o.y.frozen 3
     go_upto_region 9 with fail
     rw[<-HV.o];clear HV B3 B2;clear Po xz Pp xA Pq xB Pt xC Pv xD Pw xE Px xG Py xH;have B6:=aA (((B4.o.zZ (.slice (some ⟨gA,0,none⟩) n n) (.bool (dN oS)) (.slice p1 (ws (dX oS)).length q1) (.int .i64 (dE oS))).JE (.slice (some ⟨gB,0,none⟩) n n) (.bool (dN oT)) (.slice p2 (ws (dX oT)).length q2) (.int .i64 (dE oT))).below (aD _ _).drew);have R6:=aA (((R4.o.Cn B4.o.x (.slice (some ⟨gA,0,none⟩) n n) (.bool (dN oS)) (.slice p1 (ws (dX oS)).length q1) (.int .i64 (dE oS)) (fun gA' _ _ _ hD'=>hD'.JF B4.o.x)).Cn (B4.o.zZ (.slice (some ⟨gA,0,none⟩) n n) (.bool (dN oS)) (.slice p1 (ws (dX oS)).length q1) (.int .i64 (dE oS))).y (.slice (some ⟨gB,0,none⟩) n n) (.bool (dN oT)) (.slice p2 (ws (dX oT)).length q2) (.int .i64 (dE oT)) (fun gA' _ _ _ hD'=>hD'.JF (B4.o.zZ (.slice (some ⟨gA,0,none⟩) n n) (.bool (dN oS)) (.slice p1 (ws (dX oS)).length q1) (.int .i64 (dE oS))).y)).below (aD _ _).drew);have S6:=aA (((S4.o.Cn B4.o.x (.slice (some ⟨gA,0,none⟩) n n) (.bool (dN oS)) (.slice p1 (ws (dX oS)).length q1) (.int .i64 (dE oS)) (fun gA' _ _ _ hD'=>hD'.JF B4.o.x)).Cn (B4.o.zZ (.slice (some ⟨gA,0,none⟩) n n) (.bool (dN oS)) (.slice p1 (ws (dX oS)).length q1) (.int .i64 (dE oS))).y (.slice (some ⟨gB,0,none⟩) n n) (.bool (dN oT)) (.slice p2 (ws (dX oT)).length q2) (.int .i64 (dE oT)) (fun gA' _ _ _ hD'=>hD'.JF (B4.o.zZ (.slice (some ⟨gA,0,none⟩) n n) (.bool (dN oS)) (.slice p1 (ws (dX oS)).length q1) (.int .i64 (dE oS))).y)).below (aD _ _).drew);have Po:=B4.o.x.cell 0 _ rfl;have xz:=B4.o.x.frozen 0;have Pp:=B4.o.x.cell 1 _ rfl;have xA:=B4.o.x.frozen 1;have Pq:=B4.o.x.cell 2 _ rfl;have xB:=B4.o.x.frozen 2;have Pt:=B4.o.x.cell 3 _ rfl;have xC:=B4.o.x.frozen 3;have Pv:=B4.o.y.cell 0 _ rfl;have xD:=B4.o.y.frozen 0;have Pw:=B4.o.y.cell 1 _ rfl;have xE:=B4.o.y.frozen 1;have Px:=B4.o.y.cell 2 _ rfl;have xG:=B4.o.y.frozen 2;have Py:=B4.o.y.cell 3 _ rfl;have xH:=B4.o.y.frozen 3;have HQ:Aside (zY xs ys=0):=by show _=_;rw[HX.o.r5,sV.o.1,if_pos rfl,sV.o.2]
     clear B4 R4 S4;go_wp2_with fail
     go_region
     go_wp2;have Xb:=B6.o.x.cell 0 _ rfl;have Xc:=B6.o.x.cell 1 _ rfl;have Xd:=B6.o.x.cell 2 _ rfl;have Xe:=B6.o.x.cell 3 _ rfl;have Xf:=B6.o.y.cell 0 _ rfl;have Xg:=B6.o.y.cell 1 _ rfl;have Xh:=B6.o.y.cell 2 _ rfl;have Xi:=B6.o.y.cell 3 _ rfl;refine aG (v:=.tuple #[.agg #[.slice (some ⟨gA,0,none⟩) n n,.bool (dN oS),.slice p1 (ws (dX oS)).length q1,.int .i64 (dE oS)],.agg #[.slice (some ⟨gB,0,none⟩) n n,.bool (dN oT),.slice p2 (ws (dX oT)).length q2,.int .i64 (dE oT)],.int .i64 0]) (by simp[results,Tryz.results49,go_sem,Xb,Xc,Xd,Xe,Xf,Xg,Xh,Xi]) rfl ⟨.inr ⟨HQ.o,_,_,rfl,?_,?_⟩,?_⟩
     · rw[<-Ej.o];exact R6.o
     · rw[<-HOT.o];exact S6.o
     · exact B6.o.b
theorem Qba{P:Prop}(h:P:=by
 rintro r w' ⟨rfl,hb⟩;exact⟨.inl ⟨by rw[e];decide,by rw[e]⟩,hb⟩):P:=h
theorem TA(xs ys:List Nat)(a a2:Option Addr)(n n2 c c2:Nat)(w:World)(hn:n=xs.length)(hn2:n2=ys.length)(hF:Fs w.heap.size w a xs)(hG:Fs w.heap.size w a2 ys)(hW:mE xs)(hW2:mE ys)(hT:dU w)(hl:n<=35184372088832)(hl2:n2<=35184372088832) :
 Calls Tryz.prog 49 #[.slice a n c,.slice a2 n2 c2] w fun r w'=>Bo14 xs ys n r w'/\Below w.heap.size w w':=by
 by_cases h1:65536<n\/65536<n2
 · have e:zY xs ys=2:=by unfold zY;rw[if_pos ae]
   refine(O3 xs ys a a2 n n2 c c2 w (by
    by_cases q:65536<n
    · exact .inl (by simp;omega)
    · exact .inr ⟨by simp;omega,by simp;omega⟩)).mono ?_
   exact Qba
 · by_cases h2:n=n2
   · subst h2;exact O4 xs ys a a2 n c c2 w hn hn2 hF hG hW hW2 hT ae
   · have e:zY xs ys=4:=by unfold zY;rw[if_neg ae,if_pos ae]
     refine(Gy xs ys a a2 n n2 c c2 w (by simp;omega) (by simp;omega) (by simp;omega) ae).mono ?_;exact Qba
noncomputable def Pz (xs ys:List Nat) (less mode:Int):Nat×Int :=
 if pI mode&&lsB less then
  if zY xs ys=0 then
   if (xs.length:Int)<=less then(0,3) else jk (gV 2148 (cS xs ys)) (gV 0 ((xs.length:Int)*((xs.length:Int)-less))) mode
  else(0,zY xs ys)
 else(0,1)
structure pJ (w v:World) (n gx gy gA gB:Nat) (p1 p2:Option Addr) (q1 q2:Nat) (A B:Nat->Option (Bool×Nat×Int)) (oS oT:Option (Bool×Nat×Int)):Prop where
 x:Bl v gx 74 [.slice (some ⟨gA,0,none⟩) n n,.bool (dN oS),.slice p1 (ws (dX oS)).length q1,.int .i64 (dE oS)]
 y:Bl v gy 74 [.slice (some ⟨gB,0,none⟩) n n,.bool (dN oT),.slice p2 (ws (dX oT)).length q2,.int .i64 (dE oT)]
 dx:Dr v gA n n A
 dy:Dr v gB n n B
 nx:Nt 0 v (.slice p1 (ws (dX oS)).length q1) (dX oS)
 ny:Nt 0 v (.slice p2 (ws (dX oT)).length q2) (dX oT)
 b:Below w.heap.size w v
theorem pJ.below{w v u:World}{n gx gy gA gB:Nat}{p1 p2:Option Addr}{q1 q2:Nat}{A B:Nat->Option (Bool×Nat×Int)}{oS oT:Option (Bool×Nat×Int)}(h:pJ w v n gx gy gA gB p1 p2 q1 q2 A B oS oT)(hb:Below v.heap.size v u):pJ w u n gx gy gA gB p1 p2 q1 q2 A B oS oT :=
 ⟨h.x.below hb h.x.lt,h.y.below hb h.y.lt,h.dx.below hb,h.dy.below hb,h.nx.below hb,h.ny.below hb,h.b.trans (hb.mono h.b.size)⟩
theorem pJ.rx{w v:World}{n gx gy gA gB:Nat}{p1 p2:Option Addr}{q1 q2:Nat}{A B:Nat->Option (Bool×Nat×Int)}{oS oT:Option (Bool×Nat×Int)}(h:pJ w v n gx gy gA gB p1 p2 q1 q2 A B oS oT):Rr v (.agg #[.slice (some ⟨gA,0,none⟩) n n,.bool (dN oS),.slice p1 (ws (dX oS)).length q1,.int .i64 (dE oS)]) n A oS:=⟨gA,p1,q1,rfl,h.dx,h.nx⟩
theorem pJ.ry{w v:World}{n gx gy gA gB:Nat}{p1 p2:Option Addr}{q1 q2:Nat}{A B:Nat->Option (Bool×Nat×Int)}{oS oT:Option (Bool×Nat×Int)}(h:pJ w v n gx gy gA gB p1 p2 q1 q2 A B oS oT):Rr v (.agg #[.slice (some ⟨gB,0,none⟩) n n,.bool (dN oT),.slice p2 (ws (dX oT)).length q2,.int .i64 (dE oT)]) n B oT:=⟨gB,p2,q2,rfl,h.dy,h.ny⟩
theorem pJ.cells{w v:World}{n gx gy gA gB:Nat}{p1 p2:Option Addr}{q1 q2:Nat}{A B:Nat->Option (Bool×Nat×Int)}{oS oT:Option (Bool×Nat×Int)}(h:pJ w v n gx gy gA gB p1 p2 q1 q2 A B oS oT):v.cell? ⟨gx,0,none⟩=some (.slice (some ⟨gA,0,none⟩) n n)/\v.cell? ⟨gx,1,none⟩=some (.bool (dN oS))/\v.cell? ⟨gx,2,none⟩=some (.slice p1 (ws (dX oS)).length q1)/\v.cell? ⟨gx,3,none⟩=some (.int .i64 (dE oS))/\v.cell? ⟨gy,0,none⟩=some (.slice (some ⟨gB,0,none⟩) n n)/\v.cell? ⟨gy,1,none⟩=some (.bool (dN oT))/\v.cell? ⟨gy,2,none⟩=some (.slice p2 (ws (dX oT)).length q2)/\v.cell? ⟨gy,3,none⟩=some (.int .i64 (dE oT)) :=
 ⟨h.x.cell 0 _ rfl,h.x.cell 1 _ rfl,h.x.cell 2 _ rfl,h.x.cell 3 _ rfl,h.y.cell 0 _ rfl,h.y.cell 1 _ rfl,h.y.cell 2 _ rfl,h.y.cell 3 _ rfl⟩
theorem qn{P:Prop}(h:P:=by
 have KU:Below u2.heap.size u2 V:=by rw[hV];exact(aN _ _).trans ((aN _ _).mono aQ)
 refine⟨?_,?_,hD1.below KU,hD2.below KU,hN1.below KU,kQ.below KU,hb.trans (KU.mono hb.size)⟩
 · rw[hV,hgx];exact(Bl.new _ 74 [_,_,_,_]).alloc _
 · have z:=Bl.new (u2.alloc (Obj.cells #[.slice (some ⟨gA,0,none⟩) n n,.bool (dN oS),.slice p1 (ws (dX oS)).length q1,.int .i64 (dE oS)] 74)) 74 [.slice (some ⟨gB,0,none⟩) n n,.bool (dN oT),.slice p2 (ws (dX oT)).length q2,.int .i64 (dE oT)];rw[dD] at z;rw[hV,Yv];exact z):P:=h
theorem O5(xs ys:List Nat)(a a2:Option Addr)(n n2 c c2:Nat)(less mode:Int)(w:World)(hn:n=xs.length)(hn2:n2=ys.length)(hF:Fs w.heap.size w a xs)(hG:Fs w.heap.size w a2 ys)(hW:mE xs)(hW2:mE ys)(hT:dU w)(hl:n<=35184372088832)(hl2:n2<=35184372088832)(z:Nat×Int)(hz:Pz xs ys less mode=z) :
 Calls Tryz.prog 20 #[.slice a n c,.slice a2 n2 c2,.int .i64 less,.int .i64 mode] w fun r w'=>r=.returned (.tuple #[.float .f64 z.1,.int .i64 z.2])/\Below w.heap.size w w':=by
 obtain⟨X,E⟩:=z;simp only;have C:=hid (jA mode w);have D:=hid (oH less w);unfold Pz at hz
 cases hm:pI mode with
 | false =>
   rw[hm,qj,if_neg aj] at hz;rw[hm] at C;obtain⟨rfl,rfl⟩:=eO hz;clear hz hn hF hW hT hn2 hG hW2;go_enter Tryz.func20,Tryz.ntmps20;go_wp2_with fail;refine C.o.mono ?_;rintro r v ⟨rfl,hv⟩;rw[hv];clear hv v C;go_wp2;exact aG (v:=.tuple #[.float .f64 0,.int .i64 1]) (by simp[results,Tryz.results20,go_sem]) rfl ⟨rfl,aD _ _⟩
 | true =>
 rw[hm] at C hz
 cases hs:lsB less with
 | false =>
   rw[hs,tC,if_neg aj] at hz;rw[hs] at D;obtain⟨rfl,rfl⟩:=eO hz;clear hz hn hF hW hT hn2 hG hW2;go_enter Tryz.func20,Tryz.ntmps20;go_wp2_with fail;refine C.o.mono ?_;rintro r v ⟨rfl,hv⟩;rw[hv];clear hv v C;go_wp2_with fail;refine D.o.mono ?_;rintro r v ⟨rfl,hv⟩;rw[hv];clear hv v D;go_wp2;exact aG (v:=.tuple #[.float .f64 0,.int .i64 1]) (by simp[results,Tryz.results20,go_sem]) rfl ⟨rfl,aD _ _⟩
 | true =>
   rw[hs,wu,if_pos rfl] at hz;rw[hs] at D;have HB:=hid (TA xs ys a a2 n n2 c c2 w hn hn2 hF hG hW hW2 hT hl hl2);have HX:=fO hn hn2 hW hW2 hT;have HLS:=aA (Gp hs);have HZ:=aA hz;clear hz hn hF hW hT hn2 hG hW2 hl hl2 hs hm;go_enter Tryz.func20,Tryz.ntmps20;go_wp2_with fail;refine C.o.mono ?_;rintro r v ⟨rfl,hv⟩;rw[hv];clear hv v C;go_wp2_with fail;refine D.o.mono ?_;rintro r v ⟨rfl,hv⟩;rw[hv];clear hv v D;go_wp2_with fail;refine HB.o.mono ?_;rintro r u2 ⟨hr,hb⟩;rcases hr with ⟨he,rfl⟩|⟨he,v1,v2,rfl,Ak,hR2⟩
   · have hz:=HZ.o;rw[if_neg he] at hz;obtain⟨rfl,hE⟩:=eO hz;rw[hE] at he |-;have h1:(E==0)=false:=by simp[he]
     have BE:Aside (Below w.heap.size w ((u2.alloc (Obj.cells #[.slice none 0 0,.bool false,.slice none 0 0,.int .i64 0] 74)).alloc (Obj.cells #[.slice none 0 0,.bool false,.slice none 0 0,.int .i64 0] 74))):=(hb.trans ((aN _ _).mono hb.size)).trans ((aN _ _).mono (by simp;have:=hb.size;omega));clear hz HZ hE hb HB;go_wp2;exact aG (v:=.tuple #[.float .f64 0,.int .i64 E]) (by simp[results,Tryz.results20,go_sem]) rfl ⟨rfl,BE.o⟩
   · have HBO:=aA he;obtain⟨hlen,Yt,hf1,hf2⟩:=Yu he;have PF:=(ic hlen Yt hf1 hf2);obtain⟨gA,p1,q1,rfl,hD1,hN1⟩:=Ak;obtain⟨gB,p2,q2,rfl,hD2,kQ⟩:=hR2;obtain⟨oS,uH⟩:=ah (gV 1074 (sX xs));obtain⟨oT,Tz⟩:=ah (gV 1074 (sX ys));rw[<-uH] at hN1 |-;rw[<-Tz] at kQ |-;obtain⟨V,hV⟩:=ah ((u2.alloc (Obj.cells #[.slice (some ⟨gA,0,none⟩) n n,.bool (dN oS),.slice p1 (ws (dX oS)).length q1,.int .i64 (dE oS)] 74)).alloc (Obj.cells #[.slice (some ⟨gB,0,none⟩) n n,.bool (dN oT),.slice p2 (ws (dX oT)).length q2,.int .i64 (dE oT)] 74));obtain⟨gx,hgx⟩:=ah (u2.heap.size);obtain⟨gy,Yv⟩:=ah (u2.heap.size+1)
     have B4:Aside (pJ w V n gx gy gA gB p1 p2 q1 q2 (fun i=>gV 1074 (fX xs i)) (fun i=>gV 1074 (fX ys i)) oS oT):=by
      exact qn
     have HV:=(dC hV hgx Yv);have Ej:=(aP uH Tz);clear hV hgx Yv hb hD1 hN1 hD2 kQ HB uH Tz hlen Yt hf1 hf2 he
     go_upto_region 4 with fail
     rw[<-HV.o.1]
     try rw[<-HV.o.r2]
     rw[<-HV.o.2.1];clear HV;have s0:=B4.o.x.cell 0 _ rfl;have hz:=HZ.o;rw[if_pos HBO.o] at hz;have n6:n<=65536:=by have:=PF.o.2.1;have:=HX.o.1;omega
     have Cm:0<=less/\less<=1:=by have:=HLS.o;omega
     by_cases hle:(n:Int)<=less
     · have ZV:decide ((n:Int)<=less)=true:=decide_eq_true hle;rw[if_pos (by rw[<-HX.o.1];exact hle)] at hz;obtain⟨rfl,rfl⟩:=eO hz;clear hz HZ;go_wp2;exact aG (v:=.tuple #[.float .f64 0,.int .i64 3]) (by simp[results,Tryz.results20,go_sem]) rfl ⟨rfl,B4.o.b⟩
     · have ZV:decide ((n:Int)<=less)=false:=decide_eq_false hle;rw[if_neg (by rw[<-HX.o.1];exact hle),<-HX.o.1] at hz;obtain⟨V0,Xj⟩:=ah (gV 2148 (cS xs ys));obtain⟨oD,xX⟩:=ah (gV 0 ((n:Int)*((n:Int)-less)));rw[<-Xj,<-xX] at hz;have FV:Fm V0:=by rw[Xj];exact dJ aj aj (lD HX.o.r2.1 PF.o.r2.1 HX.o.r3.1 PF.o.r3 PF.o.2.1 PF.o.1)
       have FD:Fm oD:=by rw[xX];exact dJ aj aj (zW ae Cm.1 Cm.2)
       have Yj:Hid (∀ u:World,pJ w u n gx gy gA gB p1 p2 q1 q2 (fun i=>gV 1074 (fX xs i)) (fun i=>gV 1074 (fX ys i)) oS oT->Calls Tryz.prog 50 #[.agg #[.slice (some ⟨gA,0,none⟩) n n,.bool (dN oS),.slice p1 (ws (dX oS)).length q1,.int .i64 (dE oS)],.agg #[.slice (some ⟨gB,0,none⟩) n n,.bool (dN oT),.slice p2 (ws (dX oT)).length q2,.int .i64 (dE oT)]] u fun r w'=>bI 0 w' r V0/\Below u.heap.size u w'):=fun u hu=>by
        have hR:=hu.rx;have hS:=hu.ry;rw[Ej.o.1] at hR |-;rw[Ej.o.2] at hS |-;have:=oG (f:=fX xs) (g:=fX ys) (S:=sX xs) (T:=sX ys) n6 (HX.o.r4.belows hu.b) (fun i hi=>iD HX.o.r2.1 PF.o.r2.1 i (by have:=HX.o.1;have:=PF.o.1;omega)) (fun i hi=>iD HX.o.r3.1 PF.o.r3 i (by have:=HX.o.1;have:=PF.o.1;omega)) (jf HX.o.r2.1 PF.o.r2.1 (by have:=HX.o.1;have:=PF.o.1;omega) _ (aC _)) (jf HX.o.r3.1 PF.o.r3 (by have:=HX.o.1;have:=PF.o.1;omega) _ (aC _)) hR hS;rw[Xj];unfold cS;rw[show(xs).length=n by have:=HX.o.1;have:=PF.o.1;omega];exact this
       have sw:Hid (∀ u:World,dU u->Calls Tryz.prog 28 #[.int .i64 (n:Nat),.int .i64 less] u fun r w'=>bI 0 w' r oD/\Below u.heap.size u w'):=fun u hu=>by
        rw[xX];exact uA n less u hu ae Cm.1 Cm.2 ae
       have HR:Hid (∀ (u:World) (a b:Option Addr) (ca cb:Nat),dU u->Nt 0 u (.slice a (ws (dX V0)).length ca) (dX V0)->Nt 0 u (.slice b (ws (dX oD)).length cb) (dX oD)->Calls Tryz.prog 27 #[.agg #[.bool (dN V0),.slice a (ws (dX V0)).length ca,.int .i64 (dE V0),.bool (dN oD),.slice b (ws (dX oD)).length cb,.int .i64 (dE oD)],.int .i64 mode] u fun r w'=>r=.returned (.tuple #[.float .f64 X,.int .i64 E])/\Below u.heap.size u w'):=fun u a b ca cb su n1 n2=>by
        exact Qag
       have HT:=aA HX.o.r4;have BD:=aA (B4.o.below (aD V.heap.size V).drew);have kS:=aA BD.o.cells;have C1:=hid (Yj.o V.drew BD.o);clear hz HZ Xj xX FV FD n6 Cm PF HX Yj;go_wp2_with fail;clear s0 B4
       go_region_held3 (fun w'=>w'.cell? ⟨gx,0,none⟩=some (.slice (some ⟨gA,0,none⟩) n n)/\w'.cell? ⟨gx,1,none⟩=some (.bool (dN oS))/\w'.cell? ⟨gx,2,none⟩=some (.slice p1 (ws (dX oS)).length q1)/\w'.cell? ⟨gx,3,none⟩=some (.int .i64 (dE oS))/\w'.cell? ⟨gy,0,none⟩=some (.slice (some ⟨gB,0,none⟩) n n)/\w'.cell? ⟨gy,1,none⟩=some (.bool (dN oT))/\w'.cell? ⟨gy,2,none⟩=some (.slice p2 (ws (dX oT)).length q2)/\w'.cell? ⟨gy,3,none⟩=some (.int .i64 (dE oT))) (with_reducible exact kS.o) (first
        | (go_at_call 50
           with_reducible refine C1.o.mono ?_
           rintro r u3 ⟨hd,hb⟩;obtain⟨a3,c3,rfl,fV⟩:=hd.aL;have BE:=aP (BD.o.below hb) fV;have kS:=aA BE.o.1.cells;have C2:=hid (sw.o u3 (HT.o.belows BE.o.1.b))
           clear hb hd fV C1)
        | (go_at_call 28
           with_reducible refine C2.o.mono ?_
           rintro r u4 ⟨hd,hb⟩;obtain⟨a4,c4,rfl,iX⟩:=hd.aL;have BG:=dC (BE.o.1.below hb) (BE.o.2.below hb) iX;have kS:=aA BG.o.1.cells;have C3:=hid (HR.o u4 a3 a4 c3 c4 (HT.o.belows BG.o.1.b) BG.o.2.1 BG.o.r2)
           clear hb hd iX C2)
        | (go_at_call 27
           with_reducible refine C3.o.mono ?_
           rintro r u5 ⟨rfl,hb⟩;have BF:=aA (BG.o.1.below hb);have kS:=aA BF.o.cells
           clear hb C3))
       go_wp2;exact aG (v:=.tuple #[.float .f64 X,.int .i64 E]) (by simp[results,Tryz.results20,go_sem]) rfl ⟨rfl,BF.o.b⟩
theorem pK{u k:Nat}{V:Int}(hu:u<=100000)(hV:V≠0)(hk:k<=90000)(hb:Bd k V):∃ X e,gV u V=some (decide (V<0),X,e)/\X%2=1/\-(u:Int)<=e/\e<=200000/\X*2^(e+(u:Int)).toNat=V.natAbs/\bl X<=262144/\o8 (decide (V<0)) X e:=by
 obtain⟨n,X,e,ho,F,hx⟩:=OL (u:=u) hu ae hb;have hm:mkS (decide (V<0)) V.natAbs (-(u:Int))=some (n,X,e):=ho;have hz:=nM hm (-(u:Int)) (.inr ae);unfold zv at hz;simp only at hz;rw[show(-(u:Int) - -(u:Int)).toNat=0 by omega,gK,fU] at hz
 have hX0:X≠0:=by
  rintro rfl;simp[qX] at hz
  split at hz <;> omega
 have hp:0<X*2^(e - -(u:Int)).toNat:=iq ae (aZ _);rcases hx with h|⟨h1,h2⟩
 · exact absurd h hX0
 have hn:n=decide (V<0):=by
  by_cases hs:V<0
  · rw[decide_eq_true hs] at hz |-
    cases n with
    | true=>rfl
    | false=>simp only[qX,if_true,fJ,if_false] at hz;omega
  · rw[decide_eq_false hs] at hz |-
    cases n with
    | false=>rfl
    | true=>simp only[qX,if_true,fJ,if_false] at hz;omega
 rw[hn] at hz ho F
 have hv:X*2^(e - -(u:Int)).toNat=V.natAbs:=by
  by_cases hs:V<0
  · rw[decide_eq_true hs] at hz;simp only[qX,if_true] at hz;omega
  · rw[decide_eq_false hs] at hz;simp only[qX,fJ,if_false] at hz;omega
 refine⟨X,e,ho,?_,h1,ae,?_,ae,F⟩
 · rcases F.odd with q | q
   · exact q
   · exact absurd q.1 hX0
 · rw[show(e+(u:Int)).toNat=(e - -(u:Int)).toNat by congr 1;omega];exact hv
theorem Gz{x S V S' V':Nat}(hS:0<S)(hS':0<S')(e:V*S'=V'*S):(x*S<V↔x*S'<V')/\(x*S=V↔x*S'=V')/\(V<x*S↔V'<x*S'):=by
 have a1:x*S*S'=x*S'*S:=by rw[aM,cu S,<-aM]
 have t1:x*S<V↔x*S*S'<V*S':=(mK hS').symm;have t2:x*S'<V'↔x*S'*S<V'*S:=(mK hS).symm;have t3:V<x*S↔V*S'<x*S*S':=(mK hS').symm;have t4:V'<x*S'↔V'*S<x*S'*S:=(mK hS).symm;rw[t1,t2,t3,t4,a1,e];refine⟨Iff.rfl,?_,Iff.rfl⟩;rw[a1,e] at t1;rw[a1,e] at t3;omega
theorem gN.uD{v:Nat->Nat}{top n K:Nat}{t:Bool}{m:Int}{V S V' S':Nat}(h:gN v top n K t m V S)(hS':0<S')(e:V*S'=V'*S):gN v top n K t m V' S':=by
 obtain⟨h1,h2,h3,h4,h5,h6⟩:=h;have e2:(2^n*V)*S'=(2^n*V')*S:=by rw[aM,e,aM]
 refine⟨h1,hS',fun a=>((Gz h2 hS' e).2.1.1 (h3 a).symm).symm,fun a=>(Gz h2 hS' e).1.1 (h4 a),fun a b=>?_,fun a=>?_⟩
 · have:=h5 a ((Gz h2 hS' e).2.2.2 b);obtain⟨r1,r2,r3⟩:=Gz (x:=(v K+v (K+1))^n) h2 hS' e2;rcases this with ⟨q,r⟩|⟨q,r⟩|⟨q,r⟩
   · exact .inl ⟨q,r3.1 r⟩
   · exact .inr (.inl ⟨q,(r2.1 r.symm).symm⟩)
   · exact .inr (.inr ⟨q,r1.1 r⟩)
 · rcases h6 a with q | q
   · exact .inl ((Gz h2 hS' e).2.2.1 q)
   · exact .inr q
theorem GA{u k:Nat}{V D:Int}(hu:u<=100000)(hk:k<=90000)(hV:0<=V)(hD:0<D)(bV:Bd k V)(bD:Bd k D) :
 ∃ K t m,gN vK 9218868437227405312 2 K t m (V.natAbs*2^2148) D.natAbs/\∀ mode:Int,0<=mode->mode<=4->jI (gV u V) (gV u D) mode=(rK mode false K t m,0):=by
 obtain⟨j,hj⟩:∃ j,j=2148:=⟨_,rfl⟩;rw[<-hj];obtain⟨Y,f,ho2,hY,hf0,hf1,hv2,yS,F2⟩:=pK (V:=D) hu ae hk bD;rw[decide_eq_false ae] at ho2 F2;have hm2:mkS false Y f=some (false,Y,f):=iW F2
 by_cases h0:V=0
 · subst h0;refine⟨0,true,0,⟨aj,ae,fun _=>by rw[xW];simp,fun h=>(by cases h),fun h=>(by cases h),fun h=>(by cases h)⟩,fun mode hm0 sU=>?_⟩;unfold jI;rw[nP,ho2];show xq iC ⟨false,.bool false,0,0,false,.bool false,Y,f⟩ mode=_;unfold xq;rw[if_neg ae,if_pos (by rw[qK];show xu 0 false 0 Y false f=0;unfold xu;rw[if_neg (by unfold xg;simp;split <;> omega),hm2,fq];simp[dX];omega),fq,hm2];show(if false=true then((0,110):Nat×Int) else iC (xn 0 0 Y f) mode)=_;rw[if_neg aj,Jp 0 Y f ae yS,qZ mode false 0 0 hm0 sU];rfl
 · obtain⟨X,e,ho,hX,he0,he1,hv,hbl,F⟩:=pK (V:=V) hu h0 hk bV;rw[decide_eq_false ae] at ho F;have hm1:mkS false X e=some (false,X,e):=iW F;obtain⟨K,t,m,hL,hR⟩:=Yc X e Y f hX ae hbl yS;refine⟨K,t,m,?_,fun mode hm0 sU=>?_⟩
   · refine hL.uD ae ?_;unfold uh nO;rw[<-hv,<-hv2]
     have e1:X*2^(e-f+((2*1074:Nat):Int)).toNat*(Y*2^(f+(u:Int)).toNat)=X*Y*(2^((e-f+((2*1074:Nat):Int)).toNat+(f+(u:Int)).toNat)):=by
      rw[aJ,wo]
     have e2:X*2^(e+(u:Int)).toNat*2^j*(Y*2^(-(e-f+((2*1074:Nat):Int))).toNat)=X*Y*(2^((e+(u:Int)).toNat+j+(-(e-f+((2*1074:Nat):Int))).toNat)):=by
      rw[aJ,aJ,aM X,wo]
     rw[e1,e2];congr 2;omega
   · unfold jI;rw[ho,ho2];show xq iC ⟨false,.bool false,X,e,false,.bool false,Y,f⟩ mode=_;unfold xq;rw[if_neg ae,if_pos (by rw[qK];show xu X false e Y false f=0;unfold xu;rw[if_neg (by unfold xg;simp;split <;> omega),hm1,hm2];simp[dX];omega),hm1,hm2];show(if false=true then((0,110):Nat×Int) else iC (xn X e Y f) mode)=_;rw[if_neg aj];exact hR mode hm0 sU
theorem GD(z:Nat)(hz:z<2^63):z ^^^ 2^63=2^63+z:=by
 apply Hr;intro i;rw[Nat.testBit_xor,Nat.testBit_two_pow];rcases lZ i 63 with h|h|h
 · rw[Nat.testBit_two_pow_add_gt h];simp[show ¬ 63=i by omega]
 · subst h;rw[Nat.testBit_two_pow_add_eq,yA hz];simp
 · have h1:z<2^i:=iQ hz (fe aj ae);have h2:2^63+z<2^i:=iQ (show 2^63+z<2^64 by omega) (fe aj ae);rw[yA h1,yA h2];simp[show ¬ 63=i by omega]
theorem JG(y:Nat)(hy:y<18446744073709551616):Op.negFloat .f64 y=nH y:=by
 show y ^^^ 2^63=nH y;unfold nH
 by_cases h:9223372036854775808<=y
 · rw[if_pos h];obtain⟨z,hz⟩:=ah (y-9223372036854775808);have e:y=z ^^^ 2^63:=by rw[GD z ae];omega
   rw[<-hz,e,Nat.xor_assoc,Nat.xor_self,Nat.xor_zero]
 · rw[if_neg h,GD y ae];omega
theorem neg14{P:Program}(w:World)(y:Nat)(hy:y<18446744073709551616):(Go.Op.unary .neg (.float .f64 y)).run P w=.ok (.float .f64 (nH y)) w:=by
 rw[<-JG y hy];rfl
def JH(mode:Int):Int:=if mode=2 then 3 else if mode=3 then 2 else mode
theorem z8(mode:Int)(w:World):Calls Tryz.prog 94 #[.int .i64 mode] w fun r w'=>r=.returned (.int .i64 (JH mode))/\w'=w:=by
 unfold JH
 by_cases h2:mode=2
 · subst h2;go_enter Tryz.func94,Tryz.ntmps94;exact XS
 · have d2:(mode==2)=false:=by simp[h2]
   rw[if_neg h2]
   by_cases h3:mode=3
   · subst h3;go_enter Tryz.func94,Tryz.ntmps94;exact XS
   · have d3:(mode==3)=false:=by simp[h3]
     rw[if_neg h3];go_enter Tryz.func94,Tryz.ntmps94;exact XS
theorem Yw{u m:Nat}{V:Int}(hu:u<=100000)(hm:m<=90000)(h:Bd m V):(xg (dN (gV u V)) (dX (gV u V))==0)=decide (V=0)/\decide (0<=xg (dN (gV u V)) (dX (gV u V)))=decide (0<=V):=by
 obtain⟨h1,h2⟩:=ZJ hu hm h;unfold xg
 by_cases h0:V=0
 · rw[if_pos (h1.2 h0)];subst h0;decide
 · rw[if_neg (fun q=>h0 (h1.1 q)),decide_eq_false h0]
   by_cases hn:V<0
   · rw[if_pos (h2.2 hn),decide_eq_false (by omega:¬ 0<=V)];decide
   · rw[if_neg (fun q=>hn (h2.1 q)),decide_eq_true (by omega:0<=V)];decide
noncomputable def PD (c q mode:Int):Nat×Int :=
 if 0<=c then jI (gV 4296 (c*c)) (gV 4296 q) mode
 else if (jI (gV 4296 (c*c)) (gV 4296 q) (JH mode)).2=0 then(nH (jI (gV 4296 (c*c)) (gV 4296 q) (JH mode)).1,0) else(0,(jI (gV 4296 (c*c)) (gV 4296 q) (JH mode)).2)
theorem wR(x:Int):0<=x*x:=by
 rcases Int.le_total 0 x with h|h
 · exact uL h h
 · exact Int.mul_nonneg_of_nonpos_of_nonpos h h
theorem JI{mode:Int}(h:pI mode=true):pI (JH mode)=true:=by
 have:=uz h;unfold JH pI
 split
 · decide
 · split
   · decide
   · simp;omega
theorem TB{c q mode:Int}{k:Nat}(hk:k<=90000)(hq:0<q)(b1:Bd k (c*c))(b2:Bd k q)(hm:pI mode=true):(jI (gV 4296 (c*c)) (gV 4296 q) mode).2=0/\(jI (gV 4296 (c*c)) (gV 4296 q) mode).1<18446744073709551616:=by
 obtain⟨K,t,m,hL,hR⟩:=GA (u:=4296) aj hk (wR c) hq b1 b2;obtain⟨m0,m4⟩:=uz hm;rw[hR mode m0 m4];refine⟨rfl,?_⟩;have:=hL.fin;simp only;unfold rK
 exact Qat
structure GG (w v:World) (a b:Option Addr) (ca cb:Nat) (oC oQ:Option (Bool×Nat×Int)):Prop where
 c:Dk v w.heap.size (dN oC) (.slice a (ws (dX oC)).length ca) (dE oC)
 q:Dk v (w.heap.size+1) (dN oQ) (.slice b (ws (dX oQ)).length cb) (dE oQ)
 nc:Nt 0 v (.slice a (ws (dX oC)).length ca) (dX oC)
 nq:Nt 0 v (.slice b (ws (dX oQ)).length cb) (dX oQ)
 b:Below w.heap.size w v
theorem GG.below{w v u:World}{a b:Option Addr}{ca cb:Nat}{oC oQ:Option (Bool×Nat×Int)}(h:GG w v a b ca cb oC oQ)(hb:Below v.heap.size v u):GG w u a b ca cb oC oQ :=
 ⟨h.c.below hb,h.q.below hb,h.nc.below hb,h.nq.below hb,h.b.trans (hb.mono h.b.size)⟩
theorem GG.but{w v u:World}{a b:Option Addr}{ca cb g T:Nat}{oC oQ:Option (Bool×Nat×Int)}{L:List Value}(h:GG w v a b ca cb oC oQ)(hb:But g v u)(hB:Bl v g T L)(hT:T≠51)(hg:w.heap.size+1<g):GG w u a b ca cb oC oQ :=
 ⟨by unfold Dk;rw[hb.block _ h.c.lt ae];exact h.c,by unfold Dk;rw[hb.block _ h.q.lt ae];exact h.q,h.nc.off hb (h.nc.ma hT hB),h.nq.off hb (h.nq.ma hT hB),But.below h.b hb h.b.size ae⟩
theorem wS (w:World) (a b:Option Addr) (ca cb:Nat) (oC oQ oP:Option (Bool×Nat×Int)) (mode sg mm:Int) (bg:Bool) (X:Nat) (z:Nat×Int) (hT:dU w) (FF:Aside (Fm oC/\Fm oQ/\Fm oP)) (EE:Aside (fu oC oC=oP))
 (HS:Hid (∀ (u:World) (p:Option Addr) (q:Nat),Nt 0 u (.slice p (ws (dX oC)).length q) (dX oC)->Calls Tryz.prog 52 #[.agg #[.bool (dN oC),.slice p (ws (dX oC)).length q,.int .i64 (dE oC)]] u fun r w'=>r=.returned (.int .i64 sg)/\Below u.heap.size u w')) (hsg:decide (0<=sg)=bg)
 (HM:Hid (∀ u:World,Calls Tryz.prog 94 #[.int .i64 mode] u fun r w'=>r=.returned (.int .i64 mm)/\w'=u))
 (HR:Hid (∀ (u:World) (ap b:Option Addr) (cp cb:Nat),dU u->Nt 0 u (.slice ap (ws (dX oP)).length cp) (dX oP)->Nt 0 u (.slice b (ws (dX oQ)).length cb) (dX oQ)->Calls Tryz.prog 44 #[.agg #[.bool (dN oP),.slice ap (ws (dX oP)).length cp,.int .i64 (dE oP),.bool (dN oQ),.slice b (ws (dX oQ)).length cb,.int .i64 (dE oQ)],.int .i64 (if bg then mode else mm)] u fun r w'=>r=.returned (.tuple #[.float .f64 X,.int .i64 0])/\Below u.heap.size u w'))
 (hX:X<18446744073709551616) (hz:z=(if bg then X else nH X,0))
 (N1:Nt 0 w (.slice a (ws (dX oC)).length ca) (dX oC)) (N2:Nt 0 w (.slice b (ws (dX oQ)).length cb) (dX oQ)) :
 Calls Tryz.prog 53 #[.agg #[.bool (dN oC),.slice a (ws (dX oC)).length ca,.int .i64 (dE oC)],.agg #[.bool (dN oQ),.slice b (ws (dX oQ)).length cb,.int .i64 (dE oQ)],.int .i64 mode] w fun r w'=>r=.returned (.tuple #[.float .f64 z.1,.int .i64 z.2])/\Below w.heap.size w w':=by
 subst hz;simp only;obtain⟨W,hW⟩:=ah ((w.alloc (Obj.cells #[.bool (dN oC),.slice a (ws (dX oC)).length ca,.int .i64 (dE oC)] 25)).alloc (Obj.cells #[.bool (dN oQ),.slice b (ws (dX oQ)).length cb,.int .i64 (dE oQ)] 25))
 have H0:Aside (GG w W a b ca cb oC oQ):=by
  have hbW:Below w.heap.size w W:=by rw[hW];exact(af _ _).trans ((af _ _).mono aQ)
  refine⟨?_,?_,N1.below hbW,N2.below hbW,hbW⟩
  · rw[hW];exact(Dk.new _ _ _ _).below (af _ _)
  · have z1:=Dk.new (w.alloc (Obj.cells #[.bool (dN oC),.slice a (ws (dX oC)).length ca,.int .i64 (dE oC)] 25)) (dN oQ) (.slice b (ws (dX oQ)).length cb) (dE oQ);rw[dD] at z1;rw[hW];exact z1
 have HW:=aA hW;have HT:=aA hT;have HN:=hid (fun u:World=>neg14 (P:=Tryz.prog) u X hX);clear hW hT N1 N2;go_enter Tryz.func53,Tryz.ntmps53
 go_upto_region 1 with fail
 rw[<-HW.o];clear HW
 go_cut [8] from 11 to 15 (fun q wx=>∃ (g8:Nat) (ap:Option Addr) (cp:Nat),q=.pointer (some ⟨g8,0,none⟩)/\Aside (Bl wx g8 58 [.bool (dN oP),.slice ap (ws (dX oP)).length cp,.int .i64 (dE oP),.bool (dN oQ),.slice b (ws (dX oQ)).length cb,.int .i64 (dE oQ)]/\GG w wx a b ca cb oC oQ/\Nt 0 wx (.slice ap (ws (dX oP)).length cp) (dX oP)))
 case first =>
  have BD:=aA (H0.o.below (aD W.heap.size W).drew);have kS:Aside (W.drew.cell? ⟨w.heap.size,0,none⟩=some (.bool (dN oC))/\W.drew.cell? ⟨w.heap.size,1,none⟩=some (.slice a (ws (dX oC)).length ca)/\W.drew.cell? ⟨w.heap.size,2,none⟩=some (.int .i64 (dE oC))/\W.drew.cell? ⟨w.heap.size+1,0,none⟩=some (.bool (dN oQ))/\W.drew.cell? ⟨w.heap.size+1,1,none⟩=some (.slice b (ws (dX oQ)).length cb)/\W.drew.cell? ⟨w.heap.size+1,2,none⟩=some (.int .i64 (dE oQ))):=⟨BD.o.c.facts.1,BD.o.c.facts.2.1,BD.o.c.facts.2.2.1,BD.o.q.facts.1,BD.o.q.facts.2.1,BD.o.q.facts.2.2.1⟩;clear H0;refine fE (fun w'=>w'.cell? ⟨w.heap.size,0,none⟩=some (.bool (dN oC))/\w'.cell? ⟨w.heap.size,1,none⟩=some (.slice a (ws (dX oC)).length ca)/\w'.cell? ⟨w.heap.size,2,none⟩=some (.int .i64 (dE oC))/\w'.cell? ⟨w.heap.size+1,0,none⟩=some (.bool (dN oQ))/\w'.cell? ⟨w.heap.size+1,1,none⟩=some (.slice b (ws (dX oQ)).length cb)/\w'.cell? ⟨w.heap.size+1,2,none⟩=some (.int .i64 (dE oQ))) 6 df ?_;obtain⟨Wd,hWd⟩:=ah (W.drew);rw[<-hWd] at BD kS |-;clear hWd
  refine tk 0 [2,4] rfl kS.o ?_;try simp only[Act.put,sa,sb,sc]
  refine tk 1 [2,4] rfl kS.o ?_;try simp only[Act.put,sa,sb,sc]
  refine tk 3 [4] rfl kS.o ?_;try simp only[Act.put,sa,sb,sc]
  refine dK (i:=2) (j:=5) df rfl rfl (fun K' hK=>?_) (fun K' hK=>?_)
  · skip;have C:=hid (iL FF.o.1 FF.o.1 FF.o.r2 BD.o.nc BD.o.nc (HT.o.belows BD.o.b) EE.o);go_simp;refine C.o.mono ?_;rintro r u1 ⟨hd,hb⟩;obtain⟨a1,c1,rfl,hN⟩:=hd.aL;have BD:=aP (BD.o.below hb) hN;have kS:=aA (ck hb kS.o fun h=>ck2 hb h);clear hb hd hN C;dsimp only;refine hK.out _ _ (fun _=>kS.o) ?_;clear hK K'
    try simp only[Act.put,sa,sb,sc]
    refine dK (i:=4) (j:=5) df rfl rfl (fun K' hK=>?_) (fun K' hK=>?_)
    · skip;go_simp;refine hK.out _ _ (fun _=>kS.o) ?_;clear hK K'
      try simp only[Act.put,sa,sb,sc]
      refine au (i:=5) df rfl (fun K' hK=>?_);go_simp;obtain⟨g2,hg2⟩:=ah (u1.heap.size);obtain⟨V2,hV2⟩:=ah (u1.alloc (Obj.cells #[.bool false,.slice none 0 0,.int .i64 0,.bool false,.slice none 0 0,.int .i64 0] 58));have hb:Below u1.heap.size u1 V2:=by rw[hV2];exact af _ _
      have hZ:Bl V2 g2 58 [.bool false,.slice none 0 0,.int .i64 0,.bool false,.slice none 0 0,.int .i64 0]:=by rw[hV2,hg2];exact Bl.new _ 58 [.bool false,.slice none 0 0,.int .i64 0,.bool false,.slice none 0 0,.int .i64 0]
      have BD:=ic (BD.o.1.below hb) (BD.o.2.below hb) hZ (show w.heap.size+1<g2 by rw[hg2];exact BD.o.1.q.lt);have kS:=aA (ck hb kS.o fun h=>ck2 hb h);have HV:=(aP hV2 hg2);clear hZ hb hV2 hg2;refine hK.out _ _ (fun _=>by rw[<-HV.o.1];exact kS.o) ?_;clear hK K';rw[<-HV.o.1,<-HV.o.2];clear HV
      try simp only[Act.put,sa,sb,sc]
      have z0:=BD.o.r2.1.cell 0 _ rfl;have gQ:=BD.o.r2.1.frozen 0;have z1:=BD.o.r2.1.cell 1 _ rfl;have gT:=BD.o.r2.1.frozen 1;have z2:=BD.o.r2.1.cell 2 _ rfl;have gU:=BD.o.r2.1.frozen 2;have z3:=BD.o.r2.1.cell 3 _ rfl;have zf3:=BD.o.r2.1.frozen 3;have z4:=BD.o.r2.1.cell 4 _ rfl;have zf4:=BD.o.r2.1.frozen 4;have z5:=BD.o.r2.1.cell 5 _ rfl;have zf5:=BD.o.r2.1.frozen 5;have hbt:But g2 V2 _:=(((((((But.refl g2 V2).set 0 (.bool (dN oP))).set 1 (.slice a1 (ws (dX oP)).length c1)).set 2 (.int .i64 (dE oP))).set 3 (.bool (dN oQ))).set 4 (.slice b (ws (dX oQ)).length cb)).set 5 (.int .i64 (dE oQ)));have BE:=dC ((((((BD.o.r2.1.set 0 (.bool (dN oP))).set 1 (.slice a1 (ws (dX oP)).length c1)).set 2 (.int .i64 (dE oP))).set 3 (.bool (dN oQ))).set 4 (.slice b (ws (dX oQ)).length cb)).set 5 (.int .i64 (dE oQ))) (BD.o.1.but hbt BD.o.r2.1 aj BD.o.r3) (BD.o.2.1.off hbt (BD.o.2.1.ma aj BD.o.r2.1));clear hbt;refine au (i:=6) df rfl (fun K' hK=>?_);go_simp;refine hK.out _ _ (fun h=>absurd h aj) ?_;clear hK K' z0 z1 z2 z3 z4 z5 gQ gT gU zf3 zf4 zf5 kS BD;refine aS df ?_ _;go_wp2_with fail
      go_meet
      case rel=>exact⟨g2,a1,c1,rfl,BE.o⟩
    · skip;go_simp;obtain⟨g3,hg3⟩:=ah (u1.heap.size);obtain⟨V3,WM⟩:=ah (u1.alloc (Obj.cells #[.bool false,.slice none 0 0,.int .i64 0,.bool false,.slice none 0 0,.int .i64 0] 58));have hb:Below u1.heap.size u1 V3:=by rw[WM];exact af _ _
      have hZ:Bl V3 g3 58 [.bool false,.slice none 0 0,.int .i64 0,.bool false,.slice none 0 0,.int .i64 0]:=by rw[WM,hg3];exact Bl.new _ 58 [.bool false,.slice none 0 0,.int .i64 0,.bool false,.slice none 0 0,.int .i64 0]
      have BD:=ic (BD.o.1.below hb) (BD.o.2.below hb) hZ (show w.heap.size+1<g3 by rw[hg3];exact BD.o.1.q.lt);have kS:=aA (ck hb kS.o fun h=>ck2 hb h);have HV:=(aP WM hg3);clear hZ hb WM hg3;refine hK.out _ _ (fun _=>by rw[<-HV.o.1];exact kS.o) ?_;clear hK K';rw[<-HV.o.1,<-HV.o.2];clear HV
      try simp only[Act.put,sa,sb,sc]
      refine au (i:=4) df rfl (fun K' hK=>?_);go_simp;refine hK.out _ _ (fun _=>kS.o) ?_;clear hK K'
      try simp only[Act.put,sa,sb,sc]
      have z0:=BD.o.r2.1.cell 0 _ rfl;have gQ:=BD.o.r2.1.frozen 0;have z1:=BD.o.r2.1.cell 1 _ rfl;have gT:=BD.o.r2.1.frozen 1;have z2:=BD.o.r2.1.cell 2 _ rfl;have gU:=BD.o.r2.1.frozen 2;have z3:=BD.o.r2.1.cell 3 _ rfl;have zf3:=BD.o.r2.1.frozen 3;have z4:=BD.o.r2.1.cell 4 _ rfl;have zf4:=BD.o.r2.1.frozen 4;have z5:=BD.o.r2.1.cell 5 _ rfl;have zf5:=BD.o.r2.1.frozen 5;have hbt:But g3 V3 _:=(((((((But.refl g3 V3).set 0 (.bool (dN oP))).set 1 (.slice a1 (ws (dX oP)).length c1)).set 2 (.int .i64 (dE oP))).set 3 (.bool (dN oQ))).set 4 (.slice b (ws (dX oQ)).length cb)).set 5 (.int .i64 (dE oQ)));have BE:=dC ((((((BD.o.r2.1.set 0 (.bool (dN oP))).set 1 (.slice a1 (ws (dX oP)).length c1)).set 2 (.int .i64 (dE oP))).set 3 (.bool (dN oQ))).set 4 (.slice b (ws (dX oQ)).length cb)).set 5 (.int .i64 (dE oQ))) (BD.o.1.but hbt BD.o.r2.1 aj BD.o.r3) (BD.o.2.1.off hbt (BD.o.2.1.ma aj BD.o.r2.1));clear hbt;refine au (i:=6) df rfl (fun K' hK=>?_);go_simp;refine hK.out _ _ (fun h=>absurd h aj) ?_;clear hK K' z0 z1 z2 z3 z4 z5 gQ gT gU zf3 zf4 zf5 kS BD;refine aS df ?_ _;go_wp2_with fail
      go_meet
      case rel=>exact⟨g3,a1,c1,rfl,BE.o⟩
  · skip;go_simp;obtain⟨g4,hg4⟩:=ah (Wd.heap.size);obtain⟨V4,Eb⟩:=ah (Wd.alloc (Obj.cells #[.bool false,.slice none 0 0,.int .i64 0,.bool false,.slice none 0 0,.int .i64 0] 58));have hb:Below Wd.heap.size Wd V4:=by rw[Eb];exact af _ _
    have hZ:Bl V4 g4 58 [.bool false,.slice none 0 0,.int .i64 0,.bool false,.slice none 0 0,.int .i64 0]:=by rw[Eb,hg4];exact Bl.new _ 58 [.bool false,.slice none 0 0,.int .i64 0,.bool false,.slice none 0 0,.int .i64 0]
    have BD:=dC (BD.o.below hb) hZ (show w.heap.size+1<g4 by rw[hg4];exact BD.o.q.lt);have kS:=aA (ck hb kS.o fun h=>ck2 hb h);have HV:=(aP Eb hg4);clear hZ hb Eb hg4;refine hK.out _ _ (fun _=>by rw[<-HV.o.1];exact kS.o) ?_;clear hK K';rw[<-HV.o.1,<-HV.o.2];clear HV
    try simp only[Act.put,sa,sb,sc]
    refine au (i:=2) df rfl (fun K' hK=>?_);have C:=hid (iL FF.o.1 FF.o.1 FF.o.r2 BD.o.1.nc BD.o.1.nc (HT.o.belows BD.o.1.b) EE.o);go_simp;refine C.o.mono ?_;rintro r u5 ⟨hd,hb⟩;obtain⟨a5,c5,rfl,hN⟩:=hd.aL;have BD:=ic (BD.o.1.below hb) (BD.o.2.1.below hb BD.o.2.1.lt) BD.o.r2 hN;have kS:=aA (ck hb kS.o fun h=>ck2 hb h);clear hb hd hN C;dsimp only;refine hK.out _ _ (fun _=>kS.o) ?_;clear hK K'
    try simp only[Act.put,sa,sb,sc]
    refine au (i:=4) df rfl (fun K' hK=>?_);go_simp;refine hK.out _ _ (fun _=>kS.o) ?_;clear hK K'
    try simp only[Act.put,sa,sb,sc]
    have z0:=BD.o.2.1.cell 0 _ rfl;have gQ:=BD.o.2.1.frozen 0;have z1:=BD.o.2.1.cell 1 _ rfl;have gT:=BD.o.2.1.frozen 1;have z2:=BD.o.2.1.cell 2 _ rfl;have gU:=BD.o.2.1.frozen 2;have z3:=BD.o.2.1.cell 3 _ rfl;have zf3:=BD.o.2.1.frozen 3;have z4:=BD.o.2.1.cell 4 _ rfl;have zf4:=BD.o.2.1.frozen 4;have z5:=BD.o.2.1.cell 5 _ rfl;have zf5:=BD.o.2.1.frozen 5;have hbt:But g4 u5 _:=(((((((But.refl g4 u5).set 0 (.bool (dN oP))).set 1 (.slice a5 (ws (dX oP)).length c5)).set 2 (.int .i64 (dE oP))).set 3 (.bool (dN oQ))).set 4 (.slice b (ws (dX oQ)).length cb)).set 5 (.int .i64 (dE oQ)));have BE:=dC ((((((BD.o.2.1.set 0 (.bool (dN oP))).set 1 (.slice a5 (ws (dX oP)).length c5)).set 2 (.int .i64 (dE oP))).set 3 (.bool (dN oQ))).set 4 (.slice b (ws (dX oQ)).length cb)).set 5 (.int .i64 (dE oQ))) (BD.o.1.but hbt BD.o.2.1 aj BD.o.r2.1) (BD.o.r3.off hbt (BD.o.r3.ma aj BD.o.2.1));clear hbt;refine au (i:=6) df rfl (fun K' hK=>?_);go_simp;refine hK.out _ _ (fun h=>absurd h aj) ?_;clear hK K' z0 z1 z2 z3 z4 z5 gQ gT gU zf3 zf4 zf5 kS BD;refine aS df ?_ _;go_wp2_with fail
    go_meet
    case rel=>exact⟨g4,a5,c5,rfl,BE.o⟩
 obtain⟨g8,ap,cp,rfl,K1⟩:=hcut;obtain⟨U,hU⟩:=ah wc;rw[<-hU] at K1 |-;clear hU H0;obtain⟨x0,x1,x2,dw,dz,dA⟩:=K1.o.2.1.c.facts;have C:=hid (HS.o U a ca K1.o.2.1.nc);go_wp2_with fail;refine C.o.mono ?_;rintro r v ⟨rfl,hb⟩;have K2:=dC (K1.o.1.below hb K1.o.1.lt) (K1.o.2.1.below hb) (K1.o.r2.below hb);clear hb C x0 x1 x2 dw dz dA K1 HS
 cases bg with
 | true =>
   simp only[if_true] at HR |-;have C:=hid (HR.o v ap b cp cb (HT.o.belows K2.o.2.1.b) K2.o.r2 K2.o.2.1.nq);have y0:=K2.o.1.cell 0 _ rfl;have y1:=K2.o.1.cell 1 _ rfl;have y2:=K2.o.1.cell 2 _ rfl;have y3:=K2.o.1.cell 3 _ rfl;have y4:=K2.o.1.cell 4 _ rfl;have y5:=K2.o.1.cell 5 _ rfl;go_wp2_with fail;refine C.o.mono ?_;rintro r v2 ⟨rfl,hb⟩;have K3:=aA (K2.o.2.1.b.trans (hb.mono K2.o.2.1.b.size));clear hb C y0 y1 y2 y3 y4 y5;go_wp2;exact aG (v:=.tuple #[.float .f64 X,.int .i64 0]) (by simp[results,Tryz.results53,go_sem]) rfl ⟨rfl,K3.o⟩
 | false =>
   simp only[fJ,if_false] at HR |-;have BD:=dC (K2.o.1.below (aD v.heap.size v).drew K2.o.1.lt) (K2.o.2.1.below (aD v.heap.size v).drew) (K2.o.r2.below (aD v.heap.size v).drew);have kS:Aside (v.drew.cell? ⟨g8,0,none⟩=some (.bool (dN oP))/\v.drew.cell? ⟨g8,1,none⟩=some (.slice ap (ws (dX oP)).length cp)/\v.drew.cell? ⟨g8,2,none⟩=some (.int .i64 (dE oP))/\v.drew.cell? ⟨g8,3,none⟩=some (.bool (dN oQ))/\v.drew.cell? ⟨g8,4,none⟩=some (.slice b (ws (dX oQ)).length cb)/\v.drew.cell? ⟨g8,5,none⟩=some (.int .i64 (dE oQ))):=⟨BD.o.1.cell 0 _ rfl,BD.o.1.cell 1 _ rfl,BD.o.1.cell 2 _ rfl,BD.o.1.cell 3 _ rfl,BD.o.1.cell 4 _ rfl,BD.o.1.cell 5 _ rfl⟩;have C1:=hid (HM.o v.drew);have C2:=hid (HR.o v.drew ap b cp cb (HT.o.belows BD.o.2.1.b) BD.o.r2 BD.o.2.1.nq);clear K2;go_wp2_with fail
   go_region_held3 (fun w'=>w'.cell? ⟨g8,0,none⟩=some (.bool (dN oP))/\w'.cell? ⟨g8,1,none⟩=some (.slice ap (ws (dX oP)).length cp)/\w'.cell? ⟨g8,2,none⟩=some (.int .i64 (dE oP))/\w'.cell? ⟨g8,3,none⟩=some (.bool (dN oQ))/\w'.cell? ⟨g8,4,none⟩=some (.slice b (ws (dX oQ)).length cb)/\w'.cell? ⟨g8,5,none⟩=some (.int .i64 (dE oQ))) (with_reducible exact kS.o) (first
    | (go_at_call 94
       with_reducible refine C1.o.mono ?_
       rintro r v3 ⟨rfl,hv⟩;rw[hv]
       clear hv v3 C1)
    | (go_at_call 44
       with_reducible refine C2.o.mono ?_
       rintro r v4 ⟨rfl,hb⟩;have K3:=aA (BD.o.2.1.b.trans (hb.mono BD.o.2.1.b.size));have kS:=aA (ck hb kS.o fun h=>ck2 hb h)
       clear hb C2))
   have hng:=HN.o;go_wp2;exact aG (v:=.tuple #[.float .f64 (nH X),.int .i64 0]) (by simp[results,Tryz.results53,go_sem]) rfl ⟨rfl,K3.o⟩
end
end Go.Proofs.YtfmfhehbdfhnbaaGreatDoor
