import Derived.Test.YtfmfhehbdfhnbaaGreatDoorMC2x
import Derived.Test.YtfmfhehbdfhnbaaGreatDoorMO11x
import Derived.Test.YtfmfhehbdfhnbaaGreatDoorZ41x
import Derived.Test.YtfmfhehbdfhnbaaGreatDoorZ14x
import Derived.RangeFuncNested
import Derived.RangeFuncBound
import Derived.RangeFuncCalls
import Derived.RangeFuncLeaves
import Derived.RangeFuncBox
import Derived.Shelf.Abstract
import Derived.Shelf.RegionOpen
import Derived.WalkKit
import Derived.OwnWalkIn
import Derived.TacticsInMore
import Derived.LoopNIn
import Derived.LoopIn
import Derived.Test.YtfmfhehbdfhnbaaGreatDoorW17x
import Derived.ChangeKeysEq
import Derived.Laws.OwnMore
import Derived.Lib.SliceRun
import Derived.Deep.RegionHeld
import Derived.Test.YtfmfhehbdfhnbaaGreatDoorW7x
import Derived.Test.YtfmfhehbdfhnbaaGreatDoorD2x
import Derived.Deep.RegionWith
import Derived.Test.YtfmfhehbdfhnbaaGreatDoorD21x
import Derived.Test.YtfmfhehbdfhnbaaGreatDoorD16x
import Derived.Test.YtfmfhehbdfhnbaaGreatDoorM1x
import Derived.Test.YtfmfhehbdfhnbaaGreatDoorJ19x
import Derived.Test.YtfmfhehbdfhnbaaGreatDoorD32ex
import Derived.Deep.RegionHeld3
import Derived.Test.YtfmfhehbdfhnbaaGreatDoorD8x
import Derived.Deep.CutRange
import Derived.Deep.Cut
set_option linter.unusedVariables false
set_option linter.unusedSimpArgs false
set_option maxHeartbeats 16000000
set_option maxRecDepth 20000
namespace Go.Proofs.YtfmfhehbdfhnbaaGreatDoor
namespace J
end J
section
open Go Go.RowKit J
def aT (c S:Int) (f:Nat->Int) (m k j:Nat):Int:=Ld k j*((c^j*tS (fun i=>f i^j) m)*(-S)^(k-j))
theorem kC (f:Nat->Int) (n:Nat):tS f (n+1)=tS f n+f n:=rfl
theorem Uv (c S:Int) (f:Nat->Int):∀ m,tS (fun i=>(c*f i-S)^1) m=1*((c^0*tS (fun i=>f i^0) m)*(-S)^(1-0))+1*((c^1*tS (fun i=>f i^1) m)*(-S)^(1-1))
 | 0=>by simp [tS]
 | m+1=>by
   have ih:=Uv c S f m;simp only [kC,ih]
   grind
theorem Uw (c S:Int) (f:Nat->Int):∀ m,tS (fun i=>(c*f i-S)^2) m=1*((c^0*tS (fun i=>f i^0) m)*(-S)^(2-0))+2*((c^1*tS (fun i=>f i^1) m)*(-S)^(2-1))+1*((c^2*tS (fun i=>f i^2) m)*(-S)^(2-2))
 | 0=>by simp [tS]
 | m+1=>by
   have ih:=Uw c S f m;simp only [kC,ih]
   grind
theorem Ux (c S:Int) (f:Nat->Int):∀ m,tS (fun i=>(c*f i-S)^3) m=1*((c^0*tS (fun i=>f i^0) m)*(-S)^(3-0))+3*((c^1*tS (fun i=>f i^1) m)*(-S)^(3-1))+3*((c^2*tS (fun i=>f i^2) m)*(-S)^(3-2))+1*((c^3*tS (fun i=>f i^3) m)*(-S)^(3-3))
 | 0=>by simp [tS]
 | m+1=>by
   have ih:=Ux c S f m;simp only [kC,ih]
   grind
theorem Uy (c S:Int) (f:Nat->Int):∀ m,tS (fun i=>(c*f i-S)^4) m=1*((c^0*tS (fun i=>f i^0) m)*(-S)^(4-0))+4*((c^1*tS (fun i=>f i^1) m)*(-S)^(4-1))+6*((c^2*tS (fun i=>f i^2) m)*(-S)^(4-2))+4*((c^3*tS (fun i=>f i^3) m)*(-S)^(4-3))+1*((c^4*tS (fun i=>f i^4) m)*(-S)^(4-4))
 | 0=>by simp [tS]
 | m+1=>by
   have ih:=Uy c S f m;simp only [kC,ih]
   grind
theorem Pw (c S:Int) (f:Nat->Int) (m k:Nat) (h1:1<=k) (h4:k<=4):tS (aT c S f m k) (k+1)=tS (fun i=>(c*f i-S)^k) m:=by
 obtain rfl|rfl|rfl|rfl:k=1\/k=2\/k=3\/k=4:=af
 · rw [Uv];simp only [tS,aT,Ld,Bh]
 · rw [Uw];simp only [tS,aT,Ld,Bh]
 · rw [Ux];simp only [tS,aT,Ld,Bh]
 · rw [Uy];simp only [tS,aT,Ld,Bh]
theorem Uz {c S:Int}{f:Nat->Int}{m k j:Nat}(bc:Bd 16 c) (bS:Bd 2114 S) (bf:∀ i,i<m->Bd 2098 (f i)) (hm:m<=65536) (h1:1<=k) (h4:k<=4) (hj:j<=k):Bd 20000 (aT c S f m k j):=by
 have Zf:Bd 3 (Ld k j):=by have:=Ie k j h1 h4 hj;unfold Bd;omega
 exact (Zf.mul (((bc.pow j).mul (vI bf hm af m (aC _))).mul (bS.neg.pow (k-j)))).mono (by
  have:2114*(k-j)<=8456:=af
  omega)
theorem Yz {w:World}{a:Option Addr}{d:Nat}{S:Int}(bS:Bd 2114 S) (hT:dJ w) (hN:Nt 0 w (.slice a (ws (dX (gV 1074 S))).length d) (dX (gV 1074 S))) :
 Calls Tryz.prog 86 #[.agg #[.bool (dN (gV 1074 S)),.slice a (ws (dX (gV 1074 S))).length d,.int .i64 (dE (gV 1074 S))]] w fun r w'=>bC 0 w' r (gV 1074 (-S))/\Below w.heap.size w w':=by
 have F:Fm (gV 1074 S):=dB au au bS;have:=QM (F.a12 hN) hT (dN (gV 1074 S)) (dE (gV 1074 S)) F.p9.1 F.p9.2;rw [aj,uB F.sm,Ul] at this;exact this.mono fun r w' h=>⟨h.1.Ao,h.2⟩
theorem Ti {w:World}{v:Value}{n k:Nat}{f:Nat->Int}{S:Int}(hn:n<=65536) (h1:1<=k) (h4:k<=4) (hT:dJ w) (bf:∀ i,i<n->Bd 2098 (f i)) (bS:Bd 2114 S) (hR:Rr w v n (fun i=>gV 1074 (f i)) (gV 1074 S)) :
 Calls Tryz.prog 46 #[v,.int .i64 (k:Nat)] w fun r w'=>bC 0 w' r (gV (1074*k) (tS (fun i=>((n:Int)*f i-S)^k) n))/\Below w.heap.size w w':=by
 obtain ⟨gx,ax,cx,rfl,hx,n1⟩:=hR;have bn:Bd 16 (n:Int):=Bd.nat af;have hq:1074*k<=4296:=af
 have bA:∀ j,j<k+1->Bd 20000 (aT n S f n k j):=fun j hj=>Uz bn bS bf hn h1 h4 af;have bT:∀ j,j<=k+1->Bd 20016 (tS (aT n S f n k) j):=fun j hj=>CS bA af j hj;rw [<-Pw (n:Int) S f n k h1 h4];refine FZ w n k gx ax cx (fun i=>gV 1074 (f i)) (gV 1074 S) (gV 0 (n:Int)) (gV 1074 (-S)) _ hT h4 hn (hid fun v hv=>xc n v hv af af) (hid fun v a d hv hN=>Yz bS hv hN) (hid fun u g5 g6 qi l5 l6 hA=>?_) hx n1;refine KP u (k+1) g5 w.heap.size (w.heap.size+1) g6 (fun j=>gV (1074*k) (aT n S f n k j)) (fun j=>gV (1074*k) (tS (aT n S f n k) j)) af qi (fun j hj=>dB af af (bA j hj)) (fun j hj=>dB af af (bT j hj)) (fun j hj=>CR af af (bT j af) ((bA j hj).mono af)) (wZ _).symm (hid fun j v hj hv=>?_);have hj':j<=k:=af
 have q1:16*j<=64/\2098*j<=8392/\1074*j<=4296/\2114*(k-j)<=8456/\1074*(k-j)<=4296/\1074*j+1074*(k-j)=1074*k:=af
 have Zf:Bd 3 (Ld k j):=by have:=Ie k j h1 h4 hj';unfold Bd;omega
 have bR1:Bd (16*j) ((n:Int)^j):=bn.pow j;have bP:Bd (2098*j+16) (tS (fun i=>f i^j) n):=vI bf hn af n (aC _);have bR2:Bd (2114*(k-j)) ((-S)^(k-j)):=bS.neg.pow (k-j);have bW:=bR1.mul bP;have bX:=bW.mul bR2
 refine Dp v n k j g5 w.heap.size (w.heap.size+1) g6 gx ax cx (Ld k j) (fun i=>gV 1074 (f i)) (gV 0 (n:Int)) (gV 1074 S) (gV 1074 (-S)) (gV 0 ((n:Int)^j)) (gV (1074*j) (tS (fun i=>f i^j) n)) (gV (1074*j) ((n:Int)^j*tS (fun i=>f i^j) n)) (gV 0 (Ld k j)) (gV (1074*(k-j)) ((-S)^(k-j))) (gV (1074*k) (((n:Int)^j*tS (fun i=>f i^j) n)*(-S)^(k-j))) _ (qi.belows hv) hj' h4
  ⟨dB af af bR1,dB af af bP,dB af af bW,dB af af Zf,dB af af bR2,dB af af bX,dB af af (bA j hj)⟩
  ⟨?_,?_,?_⟩ (hid fun y a d hy hN=>?_) (hid fun y hy hR=>Ph hn af hy bf hR) (hid fun y=>We k j h1 h4 hj' y) (hid fun y hy=>xc _ y hy (by have:=Ie k j h1 h4 hj';omega) (by have:=Ie k j h1 h4 hj';omega)) (hid fun y a d hy hN=>?_)
  (l5.below hv) (hA.x0.below hv hA.x0.lt) (hA.dr.below hv) (hA.nt.below hv) (hA.k0.below hv hA.k0.lt) (l6.below hv)
 · have:=mH (u:=0) (v:=1074*j) af af af af bR1 bP;rw [dS] at this;exact this
 · have:=mH (u:=1074*j) (v:=1074*(k-j)) af af af af bW bR2;rw [q1.2.2.2.2.2] at this;exact this
 · have:=mH (u:=0) (v:=1074*k) af af af af Zf bX;rw [dS] at this;exact this
 · have:=o6 (k:=j) (u:=0) (m:=16) (V:=(n:Int)) af au au bn hy hN;rw [eQ] at this;exact this
 · have e:(k:Int)-(j:Int)=((k-j:Nat):Int):=af
   rw [e];exact o6 (k:=k-j) (u:=1074) (m:=2114) (V:=-S) af au au bS.neg hy hN
def Px (xs:List Nat) (k:Nat):Int:=tS (fun i=>((xs.length:Int)*fX xs i-sX xs)^k) xs.length
noncomputable def Tj (xs:List Nat) (k mode:Int):Nat×Int :=
 if pE mode&&(decide (1<=k)&&decide (k<=4)) then
  if rA xs=0 then
   if xs=[] then (0,3) else pF (gV (1074*k.toNat) (Px xs k.toNat)) (gV 0 ((xs.length:Int)^(k.toNat+1))) mode
  else (0,rA xs)
 else (0,1)
theorem Ii {xs:List Nat}(h:rA xs=0):xs.length<=65536/\∀ x ∈ xs,iY x:=by
 unfold rA at h
 by_cases hl:65536<xs.length
 · rw [if_pos hl] at h;exact absurd h au
 · rw [if_neg hl] at h
   cases hf:Y8 xs with
   | false=>rw [hf] at h;exact absurd h au
   | true=>exact ⟨af,(iK xs).1 hf⟩
theorem Ij {xs:List Nat}(hW:nN xs) (hf:∀ x ∈ xs,iY x) (hl:xs.length<=65536) (k:Nat) (h1:1<=k) (h4:k<=4):Bd 20016 (Px xs k):=by
 unfold Px;rw [<-Pw _ _ _ _ k h1 h4];exact CS (fun j hj=>Uz (Bd.nat af) (jq hW hf hl _ (aC _)) (fun i hi=>jo hW hf i hi) hl h1 h4 af) af (k+1) (aC _)
theorem KT (xs:List Nat) (a:Option Addr) (n c:Nat) (k mode:Int) (w:World) (hn:n=xs.length) (hF:Fs w.heap.size w a xs) (hW:nN xs) (hT:dJ w) (hl:n<=35184372088832) (z:Nat×Int) (hz:Tj xs k mode=z) :
 Calls Tryz.prog 19 #[.slice a n c,.int .i64 k,.int .i64 mode] w fun r w'=>r=.returned (.tuple #[.float .f64 z.1,.int .i64 z.2])/\Below w.heap.size w w':=by
 obtain ⟨X,E⟩:=z;simp only;have C:=hid (iH mode w);unfold Tj at hz
 cases hm:pE mode with
 | false =>
   rw [hm,nJ,if_neg au] at hz;rw [hm] at C;obtain ⟨rfl,rfl⟩:=fu hz;clear hz hn hF hW hT;go_enter Tryz.func19,Tryz.ntmps19;go_wp2_with fail;refine C.o.mono ?_;rintro r v ⟨rfl,hv⟩;rw [hv];clear hv v C;go_wp2;exact aF (v:=.tuple #[.float .f64 0,.int .i64 1]) (by simp [results,Tryz.results19,go_sem]) rfl ⟨rfl,aD _ _⟩
 | true =>
 rw [hm] at C hz
 by_cases h1:1<=k
 case neg =>
  rw [decide_eq_false h1,nJ,Bi,if_neg au] at hz;obtain ⟨rfl,rfl⟩:=fu hz;have d1:decide (k<1)=true:=decide_eq_true af;clear hz hn hF hW hT;go_enter Tryz.func19,Tryz.ntmps19;go_wp2_with fail;refine C.o.mono ?_;rintro r v ⟨rfl,hv⟩;rw [hv];clear hv v C;go_wp2;exact aF (v:=.tuple #[.float .f64 0,.int .i64 1]) (by simp [results,Tryz.results19,go_sem]) rfl ⟨rfl,aD _ _⟩
 case pos =>
 have d1:decide (k<1)=false:=decide_eq_false af
 by_cases h4:k<=4
 case neg =>
  rw [decide_eq_true h1,decide_eq_false h4,Bi,Bi,if_neg au] at hz;obtain ⟨rfl,rfl⟩:=fu hz;have d4:decide (4<k)=true:=decide_eq_true af;clear hz hn hF hW hT;go_enter Tryz.func19,Tryz.ntmps19;go_wp2_with fail;refine C.o.mono ?_;rintro r v ⟨rfl,hv⟩;rw [hv];clear hv v C;go_wp2;exact aF (v:=.tuple #[.float .f64 0,.int .i64 1]) (by simp [results,Tryz.results19,go_sem]) rfl ⟨rfl,aD _ _⟩
 case pos =>
  have d4:decide (4<k)=false:=decide_eq_false af;rw [decide_eq_true h1,decide_eq_true h4,yj,yj,if_pos rfl] at hz;obtain ⟨kn,rfl⟩:∃ kn:Nat,k=(kn:Int):=⟨k.toNat,af⟩;rw [ma] at hz;have HK:Aside (1<=kn/\kn<=4):=⟨af,af⟩;have HE:=hid (rC xs a n c w hn hF hW hT hl);have HX:=aZ hn hW hT;have HZ:=ak hz;obtain ⟨es,hes⟩:∃ e,rA xs=e:=⟨_,rfl⟩;rw [hes] at HE;have qC:=ak hes;clear hz hn hF hW hT hl hes h1 h4;go_enter Tryz.func19,Tryz.ntmps19;go_wp2_with fail;refine C.o.mono ?_;rintro r v ⟨rfl,hv⟩;rw [hv];clear hv v C;go_wp2_with fail;refine HE.o.mono ?_;rintro r u2 ⟨hr,hb⟩;rcases hr with ⟨he,rfl⟩|⟨he,v2,rfl,hR⟩
  · have h1:(es==0)=false:=by simp [he]
    have hz:=HZ.o;rw [if_neg (by rw [qC.o];exact he),qC.o] at hz;obtain ⟨rfl,rfl⟩:=fu hz;have BE:Aside (Below w.heap.size w (u2.alloc (Obj.cells #[.slice none 0 0,.bool false,.slice none 0 0,.int .i64 0] 74))):=hb.trans ((aK _ _).mono hb.size);clear hz HZ qC hb HE;go_wp2;exact aF (v:=.tuple #[.float .f64 0,.int .i64 es]) (by simp [results,Tryz.results19,go_sem]) rfl ⟨rfl,BE.o⟩
  · subst he;obtain ⟨gA,p1,q1,rfl,hD,hN⟩:=hR;obtain ⟨oS,xx⟩:=ah (gV 1074 (sX xs));rw [<-xx] at hN |-;obtain ⟨UA,hall⟩:=Ii qC.o;have PF:=(aJ UA hall);obtain ⟨V,hV⟩:=ah (u2.alloc (Obj.cells #[.slice (some ⟨gA,0,none⟩) n n,.bool (dN oS),.slice p1 (ws (dX oS)).length q1,.int .i64 (dE oS)] 74));obtain ⟨g7,qz⟩:=ah (u2.heap.size)
    have B4:Aside (Bl V g7 74 [.slice (some ⟨gA,0,none⟩) n n,.bool (dN oS),.slice p1 (ws (dX oS)).length q1,.int .i64 (dE oS)]/\Below w.heap.size w V/\Dr V gA n n (fun i=>gV 1074 (fX xs i))/\Nt 0 V (.slice p1 (ws (dX oS)).length q1) (dX oS)):=by
     rw [hV,qz];exact ⟨Bl.new _ 74 [_,_,_,_],hb.trans ((aK _ _).mono hb.size),hD.below (aK _ _),hN.below (aK _ _)⟩
    have HV:=(aJ hV qz);have AV:=ak xx;clear hV qz hb hD hN HE xx UA hall
    go_upto_region 4 with fail
    rw [<-HV.o.1,<-HV.o.2];clear HV;have s0:=B4.o.1.cell 0 _ rfl;have hz:=HZ.o;rw [if_pos qC.o] at hz
    by_cases h0:n=0
    · have hx0:xs=[]:=Be (by have:=HX.o.1;omega);rw [if_pos hx0] at hz;obtain ⟨rfl,rfl⟩:=fu hz;have hn0:((n:Int)==0)=true:=by simp [h0]
      clear hz HZ h0 hx0;go_wp2;exact aF (v:=.tuple #[.float .f64 0,.int .i64 3]) (by simp [results,Tryz.results19,go_sem]) rfl ⟨rfl,B4.o.2.1⟩
    · have hx0:xs≠[]:=fun e=>h0 (by rw [HX.o.1,e];rfl);rw [if_neg hx0] at hz;have hn0:((n:Int)==0)=false:=by simp [h0]
      have hn0':(n:Int)≠0:=af
      have n6:n<=65536:=by have:=PF.o.1;have:=HX.o.1;omega
      obtain ⟨oV,H9⟩:=ah (gV (1074*kn) (Px xs kn));obtain ⟨oN,Zg⟩:=ah (gV 0 (n:Int));obtain ⟨oD,vH⟩:=ah (gV 0 ((n:Int)^(kn+1)));rw [<-H9,<-HX.o.1,<-vH] at hz;have hk4:=HK.o;have hq:1074*kn<=4296:=af
      have bn:Bd 16 (n:Int):=Bd.nat af;have FV:Fm oV:=by rw [H9];exact dB af au (Ij HX.o.2.1 PF.o.2 PF.o.1 kn hk4.1 hk4.2)
      have FD:Fm oD:=by rw [vH];exact dB au af (bn.pow (kn+1))
      have HAb:Hid (∀ u:World,Below V.heap.size V u->Calls Tryz.prog 46 #[.agg #[.slice (some ⟨gA,0,none⟩) n n,.bool (dN oS),.slice p1 (ws (dX oS)).length q1,.int .i64 (dE oS)],.int .i64 (kn:Nat)] u fun r w'=>bC 0 w' r oV/\Below u.heap.size u w'):=fun u hu=>by
       have hR:Rr u (.agg #[.slice (some ⟨gA,0,none⟩) n n,.bool (dN oS),.slice p1 (ws (dX oS)).length q1,.int .i64 (dE oS)]) n (fun i=>gV 1074 (fX xs i)) (gV 1074 (sX xs)):=by
        rw [AV.o];exact ⟨gA,p1,q1,rfl,B4.o.r2.1.below hu,by have:=B4.o.r3.below hu;rw [AV.o] at this;exact this⟩
       have:=Ti (f:=fX xs) (S:=sX xs) n6 hk4.1 hk4.2 (HX.o.r2.belows (B4.o.2.1.trans (hu.mono B4.o.2.1.size))) (fun i hi=>jo HX.o.2.1 PF.o.2 i (by rw [<-HX.o.1];exact hi)) (jq HX.o.2.1 PF.o.2 PF.o.1 _ (aC _)) hR;rw [H9];unfold Px;rw [<-HX.o.1];exact this
      have HIn:Hid (∀ u:World,dJ u->Calls Tryz.prog 48 #[.int .i64 (n:Nat)] u fun r w'=>bC 0 w' r oN/\Below u.heap.size u w'):=fun u hu=>by rw [Zg];exact xc n u hu af af
      have HRa:Hid (∀ (u:World) (a:Option Addr) (d:Nat),dJ u->Nt 0 u (.slice a (ws (dX oN)).length d) (dX oN)->Calls Tryz.prog 47 #[.agg #[.bool (dN oN),.slice a (ws (dX oN)).length d,.int .i64 (dE oN)],.int .i64 ((kn:Int)+1)] u fun r w'=>bC 0 w' r oD/\Below u.heap.size u w'):=fun u a d hu hN=>by
       rw [show (kn:Int)+1=((kn+1:Nat):Int) by omega];rw [Zg] at hN;have:=o6 (k:=kn+1) (u:=0) (m:=16) (V:=(n:Int)) af au au bn hu hN;rw [eQ] at this;rw [Zg,vH];exact this
      have HR:Hid (∀ (u:World) (a b:Option Addr) (ca cb:Nat),dJ u->Nt 0 u (.slice a (ws (dX oV)).length ca) (dX oV)->Nt 0 u (.slice b (ws (dX oD)).length cb) (dX oD)->Calls Tryz.prog 27 #[.agg #[.bool (dN oV),.slice a (ws (dX oV)).length ca,.int .i64 (dE oV),.bool (dN oD),.slice b (ws (dX oD)).length cb,.int .i64 (dE oD)],.int .i64 mode] u fun r w'=>r=.returned (.tuple #[.float .f64 X,.int .i64 E])/\Below u.heap.size u w'):=fun u a b ca cb qi n1 n2=>by
       have:=FL mode FV FD n1 n2 qi;rw [hz] at this;exact this
      have hwr:IntKind.i64.wrap ((kn:Int)+1)=(kn:Int)+1:=by rw [zx];omega
      have HT:=ak HX.o.r2;have hdr:=(aD V.heap.size V).drew;have BD:=(aJ (B4.o.1.below hdr B4.o.1.lt) (B4.o.2.1.trans (hdr.mono B4.o.2.1.size)));have C1:=hid (HAb.o V.drew hdr);clear hz HZ H9 vH Zg FV FD hdr n6 PF HX HAb hk4 hq bn h0 hx0;have kS:Aside (V.drew.cell? ⟨g7,0,none⟩=some (.slice (some ⟨gA,0,none⟩) n n)/\V.drew.cell? ⟨g7,1,none⟩=some (.bool (dN oS))/\V.drew.cell? ⟨g7,2,none⟩=some (.slice p1 (ws (dX oS)).length q1)/\V.drew.cell? ⟨g7,3,none⟩=some (.int .i64 (dE oS))):=⟨BD.o.1.cell 0 _ rfl,BD.o.1.cell 1 _ rfl,BD.o.1.cell 2 _ rfl,BD.o.1.cell 3 _ rfl⟩;go_wp2_with fail;clear s0 B4
      go_region_held3 (fun w'=>w'.cell? ⟨g7,0,none⟩=some (.slice (some ⟨gA,0,none⟩) n n)/\w'.cell? ⟨g7,1,none⟩=some (.bool (dN oS))/\w'.cell? ⟨g7,2,none⟩=some (.slice p1 (ws (dX oS)).length q1)/\w'.cell? ⟨g7,3,none⟩=some (.int .i64 (dE oS))) (with_reducible exact kS.o) (first
       | (go_at_call 46
          with_reducible refine C1.o.mono ?_
          rintro r u3 ⟨hd,hb⟩;obtain ⟨a3,c3,rfl,dF⟩:=hd.aG;have BD:=aZ (BD.o.1.below hb BD.o.1.lt) (BD.o.2.trans (hb.mono BD.o.2.size)) dF;have kS:=ak (jr hb kS.o);have C2:=hid (HIn.o u3 (HT.o.belows BD.o.2.1))
          clear hb hd dF C1)
       | (go_at_call 48
          with_reducible refine C2.o.mono ?_
          rintro r u4 ⟨hd,hb⟩;obtain ⟨a4,c4,rfl,fw⟩:=hd.aG;have BE:=aZ (BD.o.2.1.trans (hb.mono BD.o.2.1.size)) (BD.o.r2.below hb) fw;have kS:=ak (jr hb kS.o);have C3:=hid (HRa.o u4 a4 c4 (HT.o.belows BE.o.1) BE.o.r2)
          clear hb hd fw C2)
       | (go_at_call 47
          with_reducible refine C3.o.mono ?_
          rintro r u5 ⟨hd,hb⟩;obtain ⟨a5,c5,rfl,nM⟩:=hd.aG;have BG:=aZ (BE.o.1.trans (hb.mono BE.o.1.size)) (BE.o.2.1.below hb) nM;have kS:=ak (jr hb kS.o);have C4:=hid (HR.o u5 a3 a5 c3 c5 (HT.o.belows BG.o.1) BG.o.2.1 BG.o.r2)
          clear hb hd nM C3)
       | (go_at_call 27
          with_reducible refine C4.o.mono ?_
          rintro r u6 ⟨rfl,hb⟩;have BF:=ak (BG.o.1.trans (hb.mono BG.o.1.size));have kS:=ak (jr hb kS.o)
          clear hb C4))
      go_wp2;exact aF (v:=.tuple #[.float .f64 X,.int .i64 E]) (by simp [results,Tryz.results19,go_sem]) rfl ⟨rfl,BF.o⟩
def xV (xs ys:List Nat):Int:=if 65536<xs.length\/65536<ys.length then 2 else if xs.length≠ys.length then 4 else if rA xs=0 then rA ys else rA xs
def YA (xs ys:List Nat) (n:Nat) (r:Ending) (w':World):Prop :=
 (xV xs ys≠0/\r=.returned (.tuple #[.agg #[.slice none 0 0,.bool false,.slice none 0 0,.int .i64 0],.agg #[.slice none 0 0,.bool false,.slice none 0 0,.int .i64 0],.int .i64 (xV xs ys)])) \/
 (xV xs ys=0/\∃ v1 v2,r=.returned (.tuple #[v1,v2,.int .i64 0])/\Rr w' v1 n (fun i=>gV 1074 (fX xs i)) (gV 1074 (sX xs))/\Rr w' v2 n (fun i=>gV 1074 (fX ys i)) (gV 1074 (sX ys)))
theorem UB {xs ys:List Nat}(h:xV xs ys=0):xs.length=ys.length/\xs.length<=65536/\(∀ x ∈ xs,iY x)/\(∀ x ∈ ys,iY x):=by
 unfold xV at h
 by_cases h1:65536<xs.length\/65536<ys.length
 · rw [if_pos h1] at h;exact absurd h au
 · rw [if_neg h1] at h
   by_cases h2:xs.length≠ys.length
   · rw [if_pos h2] at h;exact absurd h au
   · rw [if_neg h2] at h
     by_cases h3:rA xs=0
     · rw [if_pos h3] at h;exact ⟨af,(Ii h3).1,(Ii h3).2,(Ii h).2⟩
     · rw [if_neg h3] at h;exact absurd h h3
structure uQ (w u:World) (L M:List Value):Prop where
 x:Bl u w.heap.size 74 L
 y:Bl u (w.heap.size+1) 74 M
 b:Below w.heap.size w u
theorem uQ.below {w u v:World}{L M:List Value}(h:uQ w u L M) (hb:Below u.heap.size u v):uQ w v L M:=⟨h.x.below hb h.x.lt,h.y.below hb h.y.lt,h.b.trans (hb.mono h.b.size)⟩
abbrev yY (w:World) (g:Nat) (a b c d:Value):World:=(((w.setCell ⟨g,0,none⟩ a).setCell ⟨g,1,none⟩ b).setCell ⟨g,2,none⟩ c).setCell ⟨g,3,none⟩ d
theorem o7 (g:Nat) (w:World) (a b c d:Value):But g w (yY w g a b c d):=((((But.refl g w).set 0 _).set 1 _).set 2 _).set 3 _
theorem uQ.xz {w u:World}{x0 x1 x2 x3:Value}{M:List Value}(h:uQ w u [x0,x1,x2,x3] M) (a b c d:Value):uQ w (yY u w.heap.size a b c d) [a,b,c,d] M :=
 ⟨(((h.x.set 0 a).set 1 b).set 2 c).set 3 d,h.y.but (o7 _ _ _ _ _ _) af,But.below h.b (o7 _ _ _ _ _ _) h.b.size (aC _)⟩
theorem uQ.F7 {w u:World}{y0 y1 y2 y3:Value}{L:List Value}(h:uQ w u L [y0,y1,y2,y3]) (a b c d:Value):uQ w (yY u (w.heap.size+1) a b c d) L [a,b,c,d] :=
 ⟨h.x.but (o7 _ _ _ _ _ _) af,(((h.y.set 0 a).set 1 b).set 2 c).set 3 d,But.below h.b (o7 _ _ _ _ _ _) h.b.size af⟩
theorem Rr.yY {u:World}{g n:Nat}{v:Value}{A:Nat->Option (Bool×Nat×Int)}{S:Option (Bool×Nat×Int)}{L:List Value}(h:Rr u v n A S) (hB:Bl u g 74 L) (a b c d:Value) (hg:∀ gA ax cx,v=.agg #[.slice (some ⟨gA,0,none⟩) n n,.bool (dN S),.slice ax (ws (dX S)).length cx,.int .i64 (dE S)]->Dr u gA n n A->gA≠g):Rr (Proofs.YtfmfhehbdfhnbaaGreatDoor.yY u g a b c d) v n A S:=by
 obtain ⟨gA,ax,cx,rfl,hD,hN⟩:=h;exact ⟨gA,ax,cx,rfl,hD.but (o7 _ _ _ _ _ _) hB (hg gA ax cx rfl hD) au,hN.off (o7 _ _ _ _ _ _) (hN.jA au hB)⟩
theorem Dr.F8 {u:World}{g gA n k:Nat}{A:Nat->Option (Bool×Nat×Int)}{L:List Value}(h:Dr u gA n k A) (hB:Bl u g 74 L):gA≠g:=by
 rintro rfl;obtain ⟨c,h,_⟩:=h;unfold Bl at hB;rw [h] at hB;injection hB with hB
 injection hB with _ hB
 exact absurd hB au
theorem KU (xs ys:List Nat) (a a2:Option Addr) (n n2 c c2:Nat) (w:World) (d:decide ((65536:Int)<(n:Nat))=true\/(decide ((65536:Int)<(n:Nat))=false/\decide ((65536:Int)<(n2:Nat))=true)) :
 Calls Tryz.prog 49 #[.slice a n c,.slice a2 n2 c2] w fun r w'=>r=.returned (.tuple #[.agg #[.slice none 0 0,.bool false,.slice none 0 0,.int .i64 0],.agg #[.slice none 0 0,.bool false,.slice none 0 0,.int .i64 0],.int .i64 2])/\Below w.heap.size w w':=by
 obtain ⟨W,mI⟩:=ah ((w.alloc (Obj.cells #[.slice none 0 0,.bool false,.slice none 0 0,.int .i64 0] 74)).alloc (Obj.cells #[.slice none 0 0,.bool false,.slice none 0 0,.int .i64 0] 74))
 have B0:Aside (uQ w W [.slice none 0 0,.bool false,.slice none 0 0,.int .i64 0] [.slice none 0 0,.bool false,.slice none 0 0,.int .i64 0]):=by
  have z:=Bl.new (w.alloc (Obj.cells #[.slice none 0 0,.bool false,.slice none 0 0,.int .i64 0] 74)) 74 [.slice none 0 0,.bool false,.slice none 0 0,.int .i64 0];rw [dL] at z;rw [mI];exact ⟨(Bl.new _ 74 [.slice none 0 0,.bool false,.slice none 0 0,.int .i64 0]).alloc _,z,(aK _ _).trans ((aK _ _).mono aO)⟩
 have kg:=ak mI;clear mI;rcases d with d|⟨d,d2⟩
 all_goals
 ( go_enter Tryz.func49,Tryz.ntmps49
   go_upto_region 1 with fail
   rw [<-kg.o];clear kg;have Lh:=B0.o.x.cell 0 _ rfl;have uR:=B0.o.x.frozen 0;have Li:=B0.o.x.cell 1 _ rfl;have uS:=B0.o.x.frozen 1;have Lj:=B0.o.x.cell 2 _ rfl;have uT:=B0.o.x.frozen 2;have Ll:=B0.o.x.cell 3 _ rfl;have uU:=B0.o.x.frozen 3;have Lm:=B0.o.y.cell 0 _ rfl;have uV:=B0.o.y.frozen 0;have Lp:=B0.o.y.cell 1 _ rfl;have uW:=B0.o.y.frozen 1;have Lr:=B0.o.y.cell 2 _ rfl;have uX:=B0.o.y.frozen 2;have Ls:=B0.o.y.cell 3 _ rfl;have uY:=B0.o.y.frozen 3;go_wp2;have q:=(B0.o.xz (.slice none 0 0) (.bool false) (.slice none 0 0) (.int .i64 0)).F7 (.slice none 0 0) (.bool false) (.slice none 0 0) (.int .i64 0);have Tm:=q.x.cell 0 _ rfl;have Tn:=q.x.cell 1 _ rfl;have Tp:=q.x.cell 2 _ rfl;have Tq:=q.x.cell 3 _ rfl;have Tt:=q.y.cell 0 _ rfl;have Tu:=q.y.cell 1 _ rfl;have Tv:=q.y.cell 2 _ rfl;have Tw:=q.y.cell 3 _ rfl;exact aF (v:=.tuple #[.agg #[.slice none 0 0,.bool false,.slice none 0 0,.int .i64 0],.agg #[.slice none 0 0,.bool false,.slice none 0 0,.int .i64 0],.int .i64 2]) (by simp [results,Tryz.results49,go_sem,Tm,Tn,Tp,Tq,Tt,Tu,Tv,Tw]) rfl ⟨rfl,q.b⟩
 )
theorem Dt (xs ys:List Nat) (a a2:Option Addr) (n n2 c c2:Nat) (w:World) (d1:decide ((65536:Int)<(n:Nat))=false) (d2:decide ((65536:Int)<(n2:Nat))=false) (hne:((n:Int)==(n2:Int))=false) (hne':(n:Int)≠(n2:Int)) :
 Calls Tryz.prog 49 #[.slice a n c,.slice a2 n2 c2] w fun r w'=>r=.returned (.tuple #[.agg #[.slice none 0 0,.bool false,.slice none 0 0,.int .i64 0],.agg #[.slice none 0 0,.bool false,.slice none 0 0,.int .i64 0],.int .i64 4])/\Below w.heap.size w w':=by
 obtain ⟨W,mI⟩:=ah ((w.alloc (Obj.cells #[.slice none 0 0,.bool false,.slice none 0 0,.int .i64 0] 74)).alloc (Obj.cells #[.slice none 0 0,.bool false,.slice none 0 0,.int .i64 0] 74))
 have B0:Aside (uQ w W [.slice none 0 0,.bool false,.slice none 0 0,.int .i64 0] [.slice none 0 0,.bool false,.slice none 0 0,.int .i64 0]):=by
  have z:=Bl.new (w.alloc (Obj.cells #[.slice none 0 0,.bool false,.slice none 0 0,.int .i64 0] 74)) 74 [.slice none 0 0,.bool false,.slice none 0 0,.int .i64 0];rw [dL] at z;rw [mI];exact ⟨(Bl.new _ 74 [.slice none 0 0,.bool false,.slice none 0 0,.int .i64 0]).alloc _,z,(aK _ _).trans ((aK _ _).mono aO)⟩
 have kg:=ak mI;clear mI;go_enter Tryz.func49,Tryz.ntmps49
 go_upto_region 1 with fail
 rw [<-kg.o];clear kg;have Lh:=B0.o.x.cell 0 _ rfl;have uR:=B0.o.x.frozen 0;have Li:=B0.o.x.cell 1 _ rfl;have uS:=B0.o.x.frozen 1;have Lj:=B0.o.x.cell 2 _ rfl;have uT:=B0.o.x.frozen 2;have Ll:=B0.o.x.cell 3 _ rfl;have uU:=B0.o.x.frozen 3;have Lm:=B0.o.y.cell 0 _ rfl;have uV:=B0.o.y.frozen 0;have Lp:=B0.o.y.cell 1 _ rfl;have uW:=B0.o.y.frozen 1;have Lr:=B0.o.y.cell 2 _ rfl;have uX:=B0.o.y.frozen 2;have Ls:=B0.o.y.cell 3 _ rfl;have uY:=B0.o.y.frozen 3;go_wp2;have q:=(B0.o.xz (.slice none 0 0) (.bool false) (.slice none 0 0) (.int .i64 0)).F7 (.slice none 0 0) (.bool false) (.slice none 0 0) (.int .i64 0);have Tm:=q.x.cell 0 _ rfl;have Tn:=q.x.cell 1 _ rfl;have Tp:=q.x.cell 2 _ rfl;have Tq:=q.x.cell 3 _ rfl;have Tt:=q.y.cell 0 _ rfl;have Tu:=q.y.cell 1 _ rfl;have Tv:=q.y.cell 2 _ rfl;have Tw:=q.y.cell 3 _ rfl;exact aF (v:=.tuple #[.agg #[.slice none 0 0,.bool false,.slice none 0 0,.int .i64 0],.agg #[.slice none 0 0,.bool false,.slice none 0 0,.int .i64 0],.int .i64 4]) (by simp [results,Tryz.results49,go_sem,Tm,Tn,Tp,Tq,Tt,Tu,Tv,Tw]) rfl ⟨rfl,q.b⟩
theorem KV (xs ys:List Nat) (a a2:Option Addr) (n c c2:Nat) (w:World) (hn:n=xs.length) (hn2:n=ys.length) (hF:Fs w.heap.size w a xs) (hG:Fs w.heap.size w a2 ys) (hW:nN xs) (hW2:nN ys) (hT:dJ w) (hl:n<=65536) :
 Calls Tryz.prog 49 #[.slice a n c,.slice a2 n c2] w fun r w'=>YA xs ys n r w'/\Below w.heap.size w w':=by
 have eB:xV xs ys=if rA xs=0 then rA ys else rA xs:=by unfold xV;rw [if_neg af,if_neg af]
 obtain ⟨W,mI⟩:=ah ((w.alloc (Obj.cells #[.slice none 0 0,.bool false,.slice none 0 0,.int .i64 0] 74)).alloc (Obj.cells #[.slice none 0 0,.bool false,.slice none 0 0,.int .i64 0] 74))
 have B0:Aside (uQ w W [.slice none 0 0,.bool false,.slice none 0 0,.int .i64 0] [.slice none 0 0,.bool false,.slice none 0 0,.int .i64 0]):=by
  have z:=Bl.new (w.alloc (Obj.cells #[.slice none 0 0,.bool false,.slice none 0 0,.int .i64 0] 74)) 74 [.slice none 0 0,.bool false,.slice none 0 0,.int .i64 0];rw [dL] at z;rw [mI];exact ⟨(Bl.new _ 74 [.slice none 0 0,.bool false,.slice none 0 0,.int .i64 0]).alloc _,z,(aK _ _).trans ((aK _ _).mono aO)⟩
 have kg:=ak mI;clear mI;have d1:decide ((65536:Int)<(n:Nat))=false:=by simp;omega
 have hne:((n:Int)==(n:Int))=true:=by simp
 have HE:=hid (rC xs a n c W hn ((hF.below B0.o.b).mono B0.o.b.size) hW (hT.belows B0.o.b) af);have HX:=iI hn2 hG hW2 hT hl eB;obtain ⟨es,hes⟩:∃ e,rA xs=e:=⟨_,rfl⟩;obtain ⟨et,het⟩:∃ e,rA ys=e:=⟨_,rfl⟩;rw [hes] at HE;have qC:=(aJ hes het);clear hn hn2 hF hG hW hW2 hT hl eB hes het;go_enter Tryz.func49,Tryz.ntmps49
 go_upto_region 1 with fail
 rw [<-kg.o];clear kg;go_wp2_with fail;refine HE.o.mono ?_;rintro r u ⟨hr,hb⟩;have B1:=ak (B0.o.below hb);rcases hr with ⟨he,rfl⟩|⟨he,v1,rfl,hR⟩
 · have h1:(es==0)=false:=by simp [he]
   have HQ:Aside (xV xs ys=es/\es≠0):=⟨by rw [HX.o.r5,qC.o.1,if_neg he],he⟩;clear hb B0 HE;have B2:=ak (B1.o.xz (.slice none 0 0) (.bool false) (.slice none 0 0) (.int .i64 0));obtain ⟨U,hU⟩:=ah (yY u w.heap.size (.slice none 0 0) (.bool false) (.slice none 0 0) (.int .i64 0));rw [<-hU] at B2;unfold yY at hU;have HU:=ak hU;clear hU;have Lh:=B1.o.x.cell 0 _ rfl;have uR:=B1.o.x.frozen 0;have Li:=B1.o.x.cell 1 _ rfl;have uS:=B1.o.x.frozen 1;have Lj:=B1.o.x.cell 2 _ rfl;have uT:=B1.o.x.frozen 2;have Ll:=B1.o.x.cell 3 _ rfl;have uU:=B1.o.x.frozen 3;have Lm:=B1.o.y.cell 0 _ rfl;have uV:=B1.o.y.frozen 0;have Lp:=B1.o.y.cell 1 _ rfl;have uW:=B1.o.y.frozen 1;have Lr:=B1.o.y.cell 2 _ rfl;have uX:=B1.o.y.frozen 2;have Ls:=B1.o.y.cell 3 _ rfl;have uY:=B1.o.y.frozen 3
   go_upto_region 6 with fail
   rw [<-HU.o];clear HU;clear Lh uR Li uS Lj uT Ll uU Lm uV Lp uW Lr uX Ls uY;have Lh:=B2.o.x.cell 0 _ rfl;have uR:=B2.o.x.frozen 0;have Li:=B2.o.x.cell 1 _ rfl;have uS:=B2.o.x.frozen 1;have Lj:=B2.o.x.cell 2 _ rfl;have uT:=B2.o.x.frozen 2;have Ll:=B2.o.x.cell 3 _ rfl;have uU:=B2.o.x.frozen 3;have Lm:=B2.o.y.cell 0 _ rfl;have uV:=B2.o.y.frozen 0;have Lp:=B2.o.y.cell 1 _ rfl;have uW:=B2.o.y.frozen 1;have Lr:=B2.o.y.cell 2 _ rfl;have uX:=B2.o.y.frozen 2;have Ls:=B2.o.y.cell 3 _ rfl;have uY:=B2.o.y.frozen 3;go_wp2;have q:=(B2.o.xz (.slice none 0 0) (.bool false) (.slice none 0 0) (.int .i64 0)).F7 (.slice none 0 0) (.bool false) (.slice none 0 0) (.int .i64 0);have Tm:=q.x.cell 0 _ rfl;have Tn:=q.x.cell 1 _ rfl;have Tp:=q.x.cell 2 _ rfl;have Tq:=q.x.cell 3 _ rfl;have Tt:=q.y.cell 0 _ rfl;have Tu:=q.y.cell 1 _ rfl;have Tv:=q.y.cell 2 _ rfl;have Tw:=q.y.cell 3 _ rfl;exact aF (v:=.tuple #[.agg #[.slice none 0 0,.bool false,.slice none 0 0,.int .i64 0],.agg #[.slice none 0 0,.bool false,.slice none 0 0,.int .i64 0],.int .i64 es]) (by simp [results,Tryz.results49,go_sem,Tm,Tn,Tp,Tq,Tt,Tu,Tv,Tw]) rfl ⟨.inl ⟨by rw [HQ.o.1];exact HQ.o.2,by rw [HQ.o.1]⟩,q.b⟩
 · subst he;have R1:=ak hR;obtain ⟨gA,p1,q1,rfl,hD,hN⟩:=hR;obtain ⟨oS,xx⟩:=ah (gV 1074 (sX xs));rw [<-xx] at R1 |-;have B2:=ak (B1.o.xz (.slice (some ⟨gA,0,none⟩) n n) (.bool (dN oS)) (.slice p1 (ws (dX oS)).length q1) (.int .i64 (dE oS)));have R2:=ak (R1.o.yY B1.o.x (.slice (some ⟨gA,0,none⟩) n n) (.bool (dN oS)) (.slice p1 (ws (dX oS)).length q1) (.int .i64 (dE oS)) (fun gA' _ _ _ hD'=>hD'.F8 B1.o.x));obtain ⟨U,hU⟩:=ah (yY u w.heap.size (.slice (some ⟨gA,0,none⟩) n n) (.bool (dN oS)) (.slice p1 (ws (dX oS)).length q1) (.int .i64 (dE oS)));rw [<-hU] at B2 R2;unfold yY at hU;have HU:=ak hU;have AV:=ak xx;clear hU hD hN hb B0 HE R1 xx;have Lh:=B1.o.x.cell 0 _ rfl;have uR:=B1.o.x.frozen 0;have Li:=B1.o.x.cell 1 _ rfl;have uS:=B1.o.x.frozen 1;have Lj:=B1.o.x.cell 2 _ rfl;have uT:=B1.o.x.frozen 2;have Ll:=B1.o.x.cell 3 _ rfl;have uU:=B1.o.x.frozen 3;have Lm:=B1.o.y.cell 0 _ rfl;have uV:=B1.o.y.frozen 0;have Lp:=B1.o.y.cell 1 _ rfl;have uW:=B1.o.y.frozen 1;have Lr:=B1.o.y.cell 2 _ rfl;have uX:=B1.o.y.frozen 2;have Ls:=B1.o.y.cell 3 _ rfl;have uY:=B1.o.y.frozen 3
   go_upto_region 6 with fail
   rw [<-HU.o];clear HU B1;clear Lh uR Li uS Lj uT Ll uU Lm uV Lp uW Lr uX Ls uY;have HE:=hid (rC ys a2 n c2 U HX.o.1 ((HX.o.2.1.below B2.o.b).mono B2.o.b.size) HX.o.r2.1 (HX.o.r3.1.belows B2.o.b) (by have:=HX.o.r4.1;omega));rw [qC.o.2] at HE;go_wp2_with fail;refine HE.o.mono ?_;rintro r u2 ⟨hr,hb⟩;have B3:=ak (B2.o.below hb);have R3:=ak (R2.o.below hb);rcases hr with ⟨he,rfl⟩|⟨he,v2,rfl,hR⟩
   · have h1:(et==0)=false:=by simp [he]
     have HQ:Aside (xV xs ys=et/\et≠0):=⟨by rw [HX.o.r5,qC.o.1,if_pos rfl,qC.o.2],he⟩;clear hb HE R3 R2;have B4:=ak (B3.o.F7 (.slice none 0 0) (.bool false) (.slice none 0 0) (.int .i64 0));obtain ⟨V,hV⟩:=ah (yY u2 (w.heap.size+1) (.slice none 0 0) (.bool false) (.slice none 0 0) (.int .i64 0));rw [<-hV] at B4;unfold yY at hV;have HV:=ak hV;clear hV;have Lh:=B3.o.x.cell 0 _ rfl;have uR:=B3.o.x.frozen 0;have Li:=B3.o.x.cell 1 _ rfl;have uS:=B3.o.x.frozen 1;have Lj:=B3.o.x.cell 2 _ rfl;have uT:=B3.o.x.frozen 2;have Ll:=B3.o.x.cell 3 _ rfl;have uU:=B3.o.x.frozen 3;have Lm:=B3.o.y.cell 0 _ rfl;have uV:=B3.o.y.frozen 0;have Lp:=B3.o.y.cell 1 _ rfl;have uW:=B3.o.y.frozen 1;have Lr:=B3.o.y.cell 2 _ rfl;have uX:=B3.o.y.frozen 2;have Ls:=B3.o.y.cell 3 _ rfl;have uY:=B3.o.y.frozen 3
     go_upto_region 9 with fail
     rw [<-HV.o];clear HV;clear Lh uR Li uS Lj uT Ll uU Lm uV Lp uW Lr uX Ls uY;have Lh:=B4.o.x.cell 0 _ rfl;have uR:=B4.o.x.frozen 0;have Li:=B4.o.x.cell 1 _ rfl;have uS:=B4.o.x.frozen 1;have Lj:=B4.o.x.cell 2 _ rfl;have uT:=B4.o.x.frozen 2;have Ll:=B4.o.x.cell 3 _ rfl;have uU:=B4.o.x.frozen 3;have Lm:=B4.o.y.cell 0 _ rfl;have uV:=B4.o.y.frozen 0;have Lp:=B4.o.y.cell 1 _ rfl;have uW:=B4.o.y.frozen 1;have Lr:=B4.o.y.cell 2 _ rfl;have uX:=B4.o.y.frozen 2;have Ls:=B4.o.y.cell 3 _ rfl;have uY:=B4.o.y.frozen 3;go_wp2;have q:=(B4.o.xz (.slice none 0 0) (.bool false) (.slice none 0 0) (.int .i64 0)).F7 (.slice none 0 0) (.bool false) (.slice none 0 0) (.int .i64 0);have Tm:=q.x.cell 0 _ rfl;have Tn:=q.x.cell 1 _ rfl;have Tp:=q.x.cell 2 _ rfl;have Tq:=q.x.cell 3 _ rfl;have Tt:=q.y.cell 0 _ rfl;have Tu:=q.y.cell 1 _ rfl;have Tv:=q.y.cell 2 _ rfl;have Tw:=q.y.cell 3 _ rfl;exact aF (v:=.tuple #[.agg #[.slice none 0 0,.bool false,.slice none 0 0,.int .i64 0],.agg #[.slice none 0 0,.bool false,.slice none 0 0,.int .i64 0],.int .i64 et]) (by simp [results,Tryz.results49,go_sem,Tm,Tn,Tp,Tq,Tt,Tu,Tv,Tw]) rfl ⟨.inl ⟨by rw [HQ.o.1];exact HQ.o.2,by rw [HQ.o.1]⟩,q.b⟩
   · subst he;have S1:=ak hR;obtain ⟨gB,p2,q2,rfl,hD,hN⟩:=hR;obtain ⟨oT,Py⟩:=ah (gV 1074 (sX ys));rw [<-Py] at S1 |-;have B4:=ak (B3.o.F7 (.slice (some ⟨gB,0,none⟩) n n) (.bool (dN oT)) (.slice p2 (ws (dX oT)).length q2) (.int .i64 (dE oT)));have R4:=ak (R3.o.yY B3.o.y (.slice (some ⟨gB,0,none⟩) n n) (.bool (dN oT)) (.slice p2 (ws (dX oT)).length q2) (.int .i64 (dE oT)) (fun gA' _ _ _ hD'=>hD'.F8 B3.o.y));have S4:=ak (S1.o.yY B3.o.y (.slice (some ⟨gB,0,none⟩) n n) (.bool (dN oT)) (.slice p2 (ws (dX oT)).length q2) (.int .i64 (dE oT)) (fun gA' _ _ _ hD'=>hD'.F8 B3.o.y));obtain ⟨V,hV⟩:=ah (yY u2 (w.heap.size+1) (.slice (some ⟨gB,0,none⟩) n n) (.bool (dN oT)) (.slice p2 (ws (dX oT)).length q2) (.int .i64 (dE oT)));rw [<-hV] at B4 R4 S4;unfold yY at hV;have HV:=ak hV;have HOT:=ak Py;clear hV hD hN hb HE R3 S1 Py R2;have Lh:=B3.o.x.cell 0 _ rfl;have uR:=B3.o.x.frozen 0;have Li:=B3.o.x.cell 1 _ rfl;have uS:=B3.o.x.frozen 1;have Lj:=B3.o.x.cell 2 _ rfl;have uT:=B3.o.x.frozen 2;have Ll:=B3.o.x.cell 3 _ rfl;have uU:=B3.o.x.frozen 3;have Lm:=B3.o.y.cell 0 _ rfl;have uV:=B3.o.y.frozen 0;have Lp:=B3.o.y.cell 1 _ rfl;have uW:=B3.o.y.frozen 1;have Lr:=B3.o.y.cell 2 _ rfl;have uX:=B3.o.y.frozen 2;have Ls:=B3.o.y.cell 3 _ rfl;have uY:=B3.o.y.frozen 3
     go_upto_region 9 with fail
     rw [<-HV.o];clear HV B3 B2;clear Lh uR Li uS Lj uT Ll uU Lm uV Lp uW Lr uX Ls uY;have B6:=ak (((B4.o.xz (.slice (some ⟨gA,0,none⟩) n n) (.bool (dN oS)) (.slice p1 (ws (dX oS)).length q1) (.int .i64 (dE oS))).F7 (.slice (some ⟨gB,0,none⟩) n n) (.bool (dN oT)) (.slice p2 (ws (dX oT)).length q2) (.int .i64 (dE oT))).below (aD _ _).drew);have R6:=ak (((R4.o.yY B4.o.x (.slice (some ⟨gA,0,none⟩) n n) (.bool (dN oS)) (.slice p1 (ws (dX oS)).length q1) (.int .i64 (dE oS)) (fun gA' _ _ _ hD'=>hD'.F8 B4.o.x)).yY (B4.o.xz (.slice (some ⟨gA,0,none⟩) n n) (.bool (dN oS)) (.slice p1 (ws (dX oS)).length q1) (.int .i64 (dE oS))).y (.slice (some ⟨gB,0,none⟩) n n) (.bool (dN oT)) (.slice p2 (ws (dX oT)).length q2) (.int .i64 (dE oT)) (fun gA' _ _ _ hD'=>hD'.F8 (B4.o.xz (.slice (some ⟨gA,0,none⟩) n n) (.bool (dN oS)) (.slice p1 (ws (dX oS)).length q1) (.int .i64 (dE oS))).y)).below (aD _ _).drew);have S6:=ak (((S4.o.yY B4.o.x (.slice (some ⟨gA,0,none⟩) n n) (.bool (dN oS)) (.slice p1 (ws (dX oS)).length q1) (.int .i64 (dE oS)) (fun gA' _ _ _ hD'=>hD'.F8 B4.o.x)).yY (B4.o.xz (.slice (some ⟨gA,0,none⟩) n n) (.bool (dN oS)) (.slice p1 (ws (dX oS)).length q1) (.int .i64 (dE oS))).y (.slice (some ⟨gB,0,none⟩) n n) (.bool (dN oT)) (.slice p2 (ws (dX oT)).length q2) (.int .i64 (dE oT)) (fun gA' _ _ _ hD'=>hD'.F8 (B4.o.xz (.slice (some ⟨gA,0,none⟩) n n) (.bool (dN oS)) (.slice p1 (ws (dX oS)).length q1) (.int .i64 (dE oS))).y)).below (aD _ _).drew);have Lh:=B4.o.x.cell 0 _ rfl;have uR:=B4.o.x.frozen 0;have Li:=B4.o.x.cell 1 _ rfl;have uS:=B4.o.x.frozen 1;have Lj:=B4.o.x.cell 2 _ rfl;have uT:=B4.o.x.frozen 2;have Ll:=B4.o.x.cell 3 _ rfl;have uU:=B4.o.x.frozen 3;have Lm:=B4.o.y.cell 0 _ rfl;have uV:=B4.o.y.frozen 0;have Lp:=B4.o.y.cell 1 _ rfl;have uW:=B4.o.y.frozen 1;have Lr:=B4.o.y.cell 2 _ rfl;have uX:=B4.o.y.frozen 2;have Ls:=B4.o.y.cell 3 _ rfl;have uY:=B4.o.y.frozen 3;have HQ:Aside (xV xs ys=0):=by show _=_;rw [HX.o.r5,qC.o.1,if_pos rfl,qC.o.2]
     clear B4 R4 S4;go_wp2_with fail
     go_region
     go_wp2;have Tm:=B6.o.x.cell 0 _ rfl;have Tn:=B6.o.x.cell 1 _ rfl;have Tp:=B6.o.x.cell 2 _ rfl;have Tq:=B6.o.x.cell 3 _ rfl;have Tt:=B6.o.y.cell 0 _ rfl;have Tu:=B6.o.y.cell 1 _ rfl;have Tv:=B6.o.y.cell 2 _ rfl;have Tw:=B6.o.y.cell 3 _ rfl;refine aF (v:=.tuple #[.agg #[.slice (some ⟨gA,0,none⟩) n n,.bool (dN oS),.slice p1 (ws (dX oS)).length q1,.int .i64 (dE oS)],.agg #[.slice (some ⟨gB,0,none⟩) n n,.bool (dN oT),.slice p2 (ws (dX oT)).length q2,.int .i64 (dE oT)],.int .i64 0]) (by simp [results,Tryz.results49,go_sem,Tm,Tn,Tp,Tq,Tt,Tu,Tv,Tw]) rfl ⟨.inr ⟨HQ.o,_,_,rfl,?_,?_⟩,?_⟩
     · rw [<-AV.o];exact R6.o
     · rw [<-HOT.o];exact S6.o
     · exact B6.o.b
theorem Pz (xs ys:List Nat) (a a2:Option Addr) (n n2 c c2:Nat) (w:World) (hn:n=xs.length) (hn2:n2=ys.length) (hF:Fs w.heap.size w a xs) (hG:Fs w.heap.size w a2 ys) (hW:nN xs) (hW2:nN ys) (hT:dJ w) (hl:n<=35184372088832) (hl2:n2<=35184372088832) :
 Calls Tryz.prog 49 #[.slice a n c,.slice a2 n2 c2] w fun r w'=>YA xs ys n r w'/\Below w.heap.size w w':=by
 by_cases h1:65536<n\/65536<n2
 · have e:xV xs ys=2:=by unfold xV;rw [if_pos af]
   refine (KU xs ys a a2 n n2 c c2 w (by
    by_cases q:65536<n
    · exact .inl (by simp;omega)
    · exact .inr ⟨by simp;omega,by simp;omega⟩)).mono ?_
   rintro r w' ⟨rfl,hb⟩;exact ⟨.inl ⟨by rw [e];decide,by rw [e]⟩,hb⟩
 · by_cases h2:n=n2
   · subst h2;exact KV xs ys a a2 n c c2 w hn hn2 hF hG hW hW2 hT af
   · have e:xV xs ys=4:=by unfold xV;rw [if_neg af,if_pos af]
     refine (Dt xs ys a a2 n n2 c c2 w (by simp;omega) (by simp;omega) (by simp;omega) af).mono ?_;rintro r w' ⟨rfl,hb⟩;exact ⟨.inl ⟨by rw [e];decide,by rw [e]⟩,hb⟩
noncomputable def Zh (xs ys:List Nat) (less mode:Int):Nat×Int :=
 if pE mode&&lsB less then
  if xV xs ys=0 then
   if (xs.length:Int)<=less then (0,3) else pF (gV 2148 (cS xs ys)) (gV 0 ((xs.length:Int)*((xs.length:Int)-less))) mode
  else (0,xV xs ys)
 else (0,1)
structure nC (w v:World) (n gx gy gA gB:Nat) (p1 p2:Option Addr) (q1 q2:Nat) (A B:Nat->Option (Bool×Nat×Int)) (oS oT:Option (Bool×Nat×Int)):Prop where
 x:Bl v gx 74 [.slice (some ⟨gA,0,none⟩) n n,.bool (dN oS),.slice p1 (ws (dX oS)).length q1,.int .i64 (dE oS)]
 y:Bl v gy 74 [.slice (some ⟨gB,0,none⟩) n n,.bool (dN oT),.slice p2 (ws (dX oT)).length q2,.int .i64 (dE oT)]
 dx:Dr v gA n n A
 dy:Dr v gB n n B
 nx:Nt 0 v (.slice p1 (ws (dX oS)).length q1) (dX oS)
 ny:Nt 0 v (.slice p2 (ws (dX oT)).length q2) (dX oT)
 b:Below w.heap.size w v
theorem nC.below {w v u:World}{n gx gy gA gB:Nat}{p1 p2:Option Addr}{q1 q2:Nat}{A B:Nat->Option (Bool×Nat×Int)}{oS oT:Option (Bool×Nat×Int)}(h:nC w v n gx gy gA gB p1 p2 q1 q2 A B oS oT) (hb:Below v.heap.size v u):nC w u n gx gy gA gB p1 p2 q1 q2 A B oS oT :=
 ⟨h.x.below hb h.x.lt,h.y.below hb h.y.lt,h.dx.below hb,h.dy.below hb,h.nx.below hb,h.ny.below hb,h.b.trans (hb.mono h.b.size)⟩
theorem nC.rx {w v:World}{n gx gy gA gB:Nat}{p1 p2:Option Addr}{q1 q2:Nat}{A B:Nat->Option (Bool×Nat×Int)}{oS oT:Option (Bool×Nat×Int)}(h:nC w v n gx gy gA gB p1 p2 q1 q2 A B oS oT):Rr v (.agg #[.slice (some ⟨gA,0,none⟩) n n,.bool (dN oS),.slice p1 (ws (dX oS)).length q1,.int .i64 (dE oS)]) n A oS:=⟨gA,p1,q1,rfl,h.dx,h.nx⟩
theorem nC.ry {w v:World}{n gx gy gA gB:Nat}{p1 p2:Option Addr}{q1 q2:Nat}{A B:Nat->Option (Bool×Nat×Int)}{oS oT:Option (Bool×Nat×Int)}(h:nC w v n gx gy gA gB p1 p2 q1 q2 A B oS oT):Rr v (.agg #[.slice (some ⟨gB,0,none⟩) n n,.bool (dN oT),.slice p2 (ws (dX oT)).length q2,.int .i64 (dE oT)]) n B oT:=⟨gB,p2,q2,rfl,h.dy,h.ny⟩
theorem nC.cells {w v:World}{n gx gy gA gB:Nat}{p1 p2:Option Addr}{q1 q2:Nat}{A B:Nat->Option (Bool×Nat×Int)}{oS oT:Option (Bool×Nat×Int)}(h:nC w v n gx gy gA gB p1 p2 q1 q2 A B oS oT):v.cell? ⟨gx,0,none⟩=some (.slice (some ⟨gA,0,none⟩) n n)/\v.cell? ⟨gx,1,none⟩=some (.bool (dN oS))/\v.cell? ⟨gx,2,none⟩=some (.slice p1 (ws (dX oS)).length q1)/\v.cell? ⟨gx,3,none⟩=some (.int .i64 (dE oS))/\v.cell? ⟨gy,0,none⟩=some (.slice (some ⟨gB,0,none⟩) n n)/\v.cell? ⟨gy,1,none⟩=some (.bool (dN oT))/\v.cell? ⟨gy,2,none⟩=some (.slice p2 (ws (dX oT)).length q2)/\v.cell? ⟨gy,3,none⟩=some (.int .i64 (dE oT)) :=
 ⟨h.x.cell 0 _ rfl,h.x.cell 1 _ rfl,h.x.cell 2 _ rfl,h.x.cell 3 _ rfl,h.y.cell 0 _ rfl,h.y.cell 1 _ rfl,h.y.cell 2 _ rfl,h.y.cell 3 _ rfl⟩
theorem Co14 (xs ys:List Nat) (a a2:Option Addr) (n n2 c c2:Nat) (less mode:Int) (w:World) (hn:n=xs.length) (hn2:n2=ys.length) (hF:Fs w.heap.size w a xs) (hG:Fs w.heap.size w a2 ys) (hW:nN xs) (hW2:nN ys) (hT:dJ w) (hl:n<=35184372088832) (hl2:n2<=35184372088832) (z:Nat×Int) (hz:Zh xs ys less mode=z) :
 Calls Tryz.prog 20 #[.slice a n c,.slice a2 n2 c2,.int .i64 less,.int .i64 mode] w fun r w'=>r=.returned (.tuple #[.float .f64 z.1,.int .i64 z.2])/\Below w.heap.size w w':=by
 obtain ⟨X,E⟩:=z;simp only;have C:=hid (iH mode w);have D:=hid (mQ less w);unfold Zh at hz
 cases hm:pE mode with
 | false =>
   rw [hm,nJ,if_neg au] at hz;rw [hm] at C;obtain ⟨rfl,rfl⟩:=fu hz;clear hz hn hF hW hT hn2 hG hW2;go_enter Tryz.func20,Tryz.ntmps20;go_wp2_with fail;refine C.o.mono ?_;rintro r v ⟨rfl,hv⟩;rw [hv];clear hv v C;go_wp2;exact aF (v:=.tuple #[.float .f64 0,.int .i64 1]) (by simp [results,Tryz.results20,go_sem]) rfl ⟨rfl,aD _ _⟩
 | true =>
 rw [hm] at C hz
 cases hs:lsB less with
 | false =>
   rw [hs,qJ,if_neg au] at hz;rw [hs] at D;obtain ⟨rfl,rfl⟩:=fu hz;clear hz hn hF hW hT hn2 hG hW2;go_enter Tryz.func20,Tryz.ntmps20;go_wp2_with fail;refine C.o.mono ?_;rintro r v ⟨rfl,hv⟩;rw [hv];clear hv v C;go_wp2_with fail;refine D.o.mono ?_;rintro r v ⟨rfl,hv⟩;rw [hv];clear hv v D;go_wp2;exact aF (v:=.tuple #[.float .f64 0,.int .i64 1]) (by simp [results,Tryz.results20,go_sem]) rfl ⟨rfl,aD _ _⟩
 | true =>
   rw [hs,yj,if_pos rfl] at hz;rw [hs] at D;have HB:=hid (Pz xs ys a a2 n n2 c c2 w hn hn2 hF hG hW hW2 hT hl hl2);have HX:=eu hn hn2 hW hW2 hT;have HLS:=ak (Dh hs);have HZ:=ak hz;clear hz hn hF hW hT hn2 hG hW2 hl hl2 hs hm;go_enter Tryz.func20,Tryz.ntmps20;go_wp2_with fail;refine C.o.mono ?_;rintro r v ⟨rfl,hv⟩;rw [hv];clear hv v C;go_wp2_with fail;refine D.o.mono ?_;rintro r v ⟨rfl,hv⟩;rw [hv];clear hv v D;go_wp2_with fail;refine HB.o.mono ?_;rintro r u2 ⟨hr,hb⟩;rcases hr with ⟨he,rfl⟩|⟨he,v1,v2,rfl,uf,hR2⟩
   · have hz:=HZ.o;rw [if_neg he] at hz;obtain ⟨rfl,hE⟩:=fu hz;rw [hE] at he |-;have h1:(E==0)=false:=by simp [he]
     have BE:Aside (Below w.heap.size w ((u2.alloc (Obj.cells #[.slice none 0 0,.bool false,.slice none 0 0,.int .i64 0] 74)).alloc (Obj.cells #[.slice none 0 0,.bool false,.slice none 0 0,.int .i64 0] 74))):=(hb.trans ((aK _ _).mono hb.size)).trans ((aK _ _).mono (by simp;have:=hb.size;omega));clear hz HZ hE hb HB;go_wp2;exact aF (v:=.tuple #[.float .f64 0,.int .i64 E]) (by simp [results,Tryz.results20,go_sem]) rfl ⟨rfl,BE.o⟩
   · have HBO:=ak he;obtain ⟨hlen,UA,hf1,hf2⟩:=UB he;have PF:=(gK hlen UA hf1 hf2);obtain ⟨gA,p1,q1,rfl,hD1,hN1⟩:=uf;obtain ⟨gB,p2,q2,rfl,hD2,ko⟩:=hR2;obtain ⟨oS,xx⟩:=ah (gV 1074 (sX xs));obtain ⟨oT,Py⟩:=ah (gV 1074 (sX ys));rw [<-xx] at hN1 |-;rw [<-Py] at ko |-;obtain ⟨V,hV⟩:=ah ((u2.alloc (Obj.cells #[.slice (some ⟨gA,0,none⟩) n n,.bool (dN oS),.slice p1 (ws (dX oS)).length q1,.int .i64 (dE oS)] 74)).alloc (Obj.cells #[.slice (some ⟨gB,0,none⟩) n n,.bool (dN oT),.slice p2 (ws (dX oT)).length q2,.int .i64 (dE oT)] 74));obtain ⟨gx,hgx⟩:=ah (u2.heap.size);obtain ⟨gy,UC⟩:=ah (u2.heap.size+1)
     have B4:Aside (nC w V n gx gy gA gB p1 p2 q1 q2 (fun i=>gV 1074 (fX xs i)) (fun i=>gV 1074 (fX ys i)) oS oT):=by
      have Hq:Below u2.heap.size u2 V:=by rw [hV];exact (aK _ _).trans ((aK _ _).mono aO)
      refine ⟨?_,?_,hD1.below Hq,hD2.below Hq,hN1.below Hq,ko.below Hq,hb.trans (Hq.mono hb.size)⟩
      · rw [hV,hgx];exact (Bl.new _ 74 [_,_,_,_]).alloc _
      · have z:=Bl.new (u2.alloc (Obj.cells #[.slice (some ⟨gA,0,none⟩) n n,.bool (dN oS),.slice p1 (ws (dX oS)).length q1,.int .i64 (dE oS)] 74)) 74 [.slice (some ⟨gB,0,none⟩) n n,.bool (dN oT),.slice p2 (ws (dX oT)).length q2,.int .i64 (dE oT)];rw [dL] at z;rw [hV,UC];exact z
     have HV:=(aZ hV hgx UC);have AV:=(aJ xx Py);clear hV hgx UC hb hD1 hN1 hD2 ko HB xx Py hlen UA hf1 hf2 he
     go_upto_region 4 with fail
     rw [<-HV.o.1]
     try rw [<-HV.o.r2]
     rw [<-HV.o.2.1];clear HV;have s0:=B4.o.x.cell 0 _ rfl;have hz:=HZ.o;rw [if_pos HBO.o] at hz;have n6:n<=65536:=by have:=PF.o.2.1;have:=HX.o.1;omega
     have yX:0<=less/\less<=1:=by have:=HLS.o;omega
     by_cases hle:(n:Int)<=less
     · have VZ:decide ((n:Int)<=less)=true:=decide_eq_true hle;rw [if_pos (by rw [<-HX.o.1];exact hle)] at hz;obtain ⟨rfl,rfl⟩:=fu hz;clear hz HZ;go_wp2;exact aF (v:=.tuple #[.float .f64 0,.int .i64 3]) (by simp [results,Tryz.results20,go_sem]) rfl ⟨rfl,B4.o.b⟩
     · have VZ:decide ((n:Int)<=less)=false:=decide_eq_false hle;rw [if_neg (by rw [<-HX.o.1];exact hle),<-HX.o.1] at hz;obtain ⟨V0,Tx⟩:=ah (gV 2148 (cS xs ys));obtain ⟨oD,vH⟩:=ah (gV 0 ((n:Int)*((n:Int)-less)));rw [<-Tx,<-vH] at hz;have FV:Fm V0:=by rw [Tx];exact dB au au (mR HX.o.r2.1 PF.o.r2.1 HX.o.r3.1 PF.o.r3 PF.o.2.1 PF.o.1)
       have FD:Fm oD:=by rw [vH];exact dB au au (xw af yX.1 yX.2)
       have Ur:Hid (∀ u:World,nC w u n gx gy gA gB p1 p2 q1 q2 (fun i=>gV 1074 (fX xs i)) (fun i=>gV 1074 (fX ys i)) oS oT->Calls Tryz.prog 50 #[.agg #[.slice (some ⟨gA,0,none⟩) n n,.bool (dN oS),.slice p1 (ws (dX oS)).length q1,.int .i64 (dE oS)],.agg #[.slice (some ⟨gB,0,none⟩) n n,.bool (dN oT),.slice p2 (ws (dX oT)).length q2,.int .i64 (dE oT)]] u fun r w'=>bC 0 w' r V0/\Below u.heap.size u w'):=fun u hu=>by
        have hR:=hu.rx;have hS:=hu.ry;rw [AV.o.1] at hR |-;rw [AV.o.2] at hS |-;have:=mO (f:=fX xs) (g:=fX ys) (S:=sX xs) (T:=sX ys) n6 (HX.o.r4.belows hu.b) (fun i hi=>jo HX.o.r2.1 PF.o.r2.1 i (by have:=HX.o.1;have:=PF.o.1;omega)) (fun i hi=>jo HX.o.r3.1 PF.o.r3 i (by have:=HX.o.1;have:=PF.o.1;omega)) (jq HX.o.r2.1 PF.o.r2.1 (by have:=HX.o.1;have:=PF.o.1;omega) _ (aC _)) (jq HX.o.r3.1 PF.o.r3 (by have:=HX.o.1;have:=PF.o.1;omega) _ (aC _)) hR hS;rw [Tx];unfold cS;rw [show (xs).length=n by have:=HX.o.1;have:=PF.o.1;omega];exact this
       have qj:Hid (∀ u:World,dJ u->Calls Tryz.prog 28 #[.int .i64 (n:Nat),.int .i64 less] u fun r w'=>bC 0 w' r oD/\Below u.heap.size u w'):=fun u hu=>by
        rw [vH];exact rM n less u hu af yX.1 yX.2 af
       have HR:Hid (∀ (u:World) (a b:Option Addr) (ca cb:Nat),dJ u->Nt 0 u (.slice a (ws (dX V0)).length ca) (dX V0)->Nt 0 u (.slice b (ws (dX oD)).length cb) (dX oD)->Calls Tryz.prog 27 #[.agg #[.bool (dN V0),.slice a (ws (dX V0)).length ca,.int .i64 (dE V0),.bool (dN oD),.slice b (ws (dX oD)).length cb,.int .i64 (dE oD)],.int .i64 mode] u fun r w'=>r=.returned (.tuple #[.float .f64 X,.int .i64 E])/\Below u.heap.size u w'):=fun u a b ca cb qi n1 n2=>by
        have:=FL mode FV FD n1 n2 qi;rw [hz] at this;exact this
       have HT:=ak HX.o.r4;have BD:=ak (B4.o.below (aD V.heap.size V).drew);have kS:=ak BD.o.cells;have C1:=hid (Ur.o V.drew BD.o);clear hz HZ Tx vH FV FD n6 yX PF HX Ur;go_wp2_with fail;clear s0 B4
       go_region_held3 (fun w'=>w'.cell? ⟨gx,0,none⟩=some (.slice (some ⟨gA,0,none⟩) n n)/\w'.cell? ⟨gx,1,none⟩=some (.bool (dN oS))/\w'.cell? ⟨gx,2,none⟩=some (.slice p1 (ws (dX oS)).length q1)/\w'.cell? ⟨gx,3,none⟩=some (.int .i64 (dE oS))/\w'.cell? ⟨gy,0,none⟩=some (.slice (some ⟨gB,0,none⟩) n n)/\w'.cell? ⟨gy,1,none⟩=some (.bool (dN oT))/\w'.cell? ⟨gy,2,none⟩=some (.slice p2 (ws (dX oT)).length q2)/\w'.cell? ⟨gy,3,none⟩=some (.int .i64 (dE oT))) (with_reducible exact kS.o) (first
        | (go_at_call 50
           with_reducible refine C1.o.mono ?_
           rintro r u3 ⟨hd,hb⟩;obtain ⟨a3,c3,rfl,dF⟩:=hd.aG;have BE:=aJ (BD.o.below hb) dF;have kS:=ak BE.o.1.cells;have C2:=hid (qj.o u3 (HT.o.belows BE.o.1.b))
           clear hb hd dF C1)
        | (go_at_call 28
           with_reducible refine C2.o.mono ?_
           rintro r u4 ⟨hd,hb⟩;obtain ⟨a4,c4,rfl,fw⟩:=hd.aG;have BG:=aZ (BE.o.1.below hb) (BE.o.2.below hb) fw;have kS:=ak BG.o.1.cells;have C3:=hid (HR.o u4 a3 a4 c3 c4 (HT.o.belows BG.o.1.b) BG.o.2.1 BG.o.r2)
           clear hb hd fw C2)
        | (go_at_call 27
           with_reducible refine C3.o.mono ?_
           rintro r u5 ⟨rfl,hb⟩;have BF:=ak (BG.o.1.below hb);have kS:=ak BF.o.cells
           clear hb C3))
       go_wp2;exact aF (v:=.tuple #[.float .f64 X,.int .i64 E]) (by simp [results,Tryz.results20,go_sem]) rfl ⟨rfl,BF.o.b⟩
theorem o8 {u k:Nat}{V:Int}(hu:u<=100000) (hV:V≠0) (hk:k<=90000) (hb:Bd k V):∃ X e,gV u V=some (decide (V<0),X,e)/\X%2=1/\-(u:Int)<=e/\e<=200000/\X*2^(e+(u:Int)).toNat=V.natAbs/\bl X<=262144/\sN (decide (V<0)) X e:=by
 obtain ⟨n,X,e,ho,F,hx⟩:=Kw (u:=u) hu af hb;have hm:mkS (decide (V<0)) V.natAbs (-(u:Int))=some (n,X,e):=ho;have hz:=lT hm (-(u:Int)) (.inr af);unfold zv at hz;simp only at hz;rw [show (-(u:Int) - -(u:Int)).toNat=0 by omega,fC,fo] at hz
 have hX0:X≠0:=by
  rintro rfl;simp [p8] at hz
  split at hz <;> omega
 have hp:0<X*2^(e - -(u:Int)).toNat:=ik af (bu _);rcases hx with h|⟨h1,h2⟩
 · exact absurd h hX0
 have hn:n=decide (V<0):=by
  by_cases hs:V<0
  · rw [decide_eq_true hs] at hz |-
    cases n with
    | true=>rfl
    | false=>simp only [p8,if_true,fq,if_false] at hz;omega
  · rw [decide_eq_false hs] at hz |-
    cases n with
    | false=>rfl
    | true=>simp only [p8,if_true,fq,if_false] at hz;omega
 rw [hn] at hz ho F
 have hv:X*2^(e - -(u:Int)).toNat=V.natAbs:=by
  by_cases hs:V<0
  · rw [decide_eq_true hs] at hz;simp only [p8,if_true] at hz;omega
  · rw [decide_eq_false hs] at hz;simp only [p8,fq,if_false] at hz;omega
 refine ⟨X,e,ho,?_,h1,af,?_,af,F⟩
 · rcases F.odd with q | q
   · exact q
   · exact absurd q.1 hX0
 · rw [show (e+(u:Int)).toNat=(e - -(u:Int)).toNat by congr 1;omega];exact hv
theorem Du {x S V S' V':Nat}(hS:0<S) (hS':0<S') (e:V*S'=V'*S):(x*S<V↔x*S'<V')/\(x*S=V↔x*S'=V')/\(V<x*S↔V'<x*S'):=by
 have a1:x*S*S'=x*S'*S:=by rw [aN,df S,<-aN]
 have t1:x*S<V↔x*S*S'<V*S':=(nK hS').symm;have t2:x*S'<V'↔x*S'*S<V'*S:=(nK hS).symm;have t3:V<x*S↔V*S'<x*S*S':=(nK hS').symm;have t4:V'<x*S'↔V'*S<x*S'*S:=(nK hS).symm;rw [t1,t2,t3,t4,a1,e];refine ⟨Iff.rfl,?_,Iff.rfl⟩;rw [a1,e] at t1;rw [a1,e] at t3;omega
theorem ig.AJ {v:Nat->Nat}{top n K:Nat}{t:Bool}{m:Int}{V S V' S':Nat}(h:ig v top n K t m V S) (hS':0<S') (e:V*S'=V'*S):ig v top n K t m V' S':=by
 obtain ⟨h1,h2,h3,h4,h5,h6⟩:=h;have e2:(2^n*V)*S'=(2^n*V')*S:=by rw [aN,e,aN]
 refine ⟨h1,hS',fun a=>((Du h2 hS' e).2.1.1 (h3 a).symm).symm,fun a=>(Du h2 hS' e).1.1 (h4 a),fun a b=>?_,fun a=>?_⟩
 · have:=h5 a ((Du h2 hS' e).2.2.2 b);obtain ⟨r1,r2,r3⟩:=Du (x:=(v K+v (K+1))^n) h2 hS' e2;rcases this with ⟨q,r⟩|⟨q,r⟩|⟨q,r⟩
   · exact .inl ⟨q,r3.1 r⟩
   · exact .inr (.inl ⟨q,(r2.1 r.symm).symm⟩)
   · exact .inr (.inr ⟨q,r1.1 r⟩)
 · rcases h6 a with q | q
   · exact .inl ((Du h2 hS' e).2.2.1 q)
   · exact .inr q
theorem YB {u k:Nat}{V D:Int}(hu:u<=100000) (hk:k<=90000) (hV:0<=V) (hD:0<D) (bV:Bd k V) (bD:Bd k D) :
 ∃ K t m,ig vK 9218868437227405312 2 K t m (V.natAbs*2^2148) D.natAbs/\∀ mode:Int,0<=mode->mode<=4->nA (gV u V) (gV u D) mode=(rK mode false K t m,0):=by
 obtain ⟨j,hj⟩:∃ j,j=2148:=⟨_,rfl⟩;rw [<-hj];obtain ⟨Y,f,ho2,hY,hf0,hf1,hv2,zD,F2⟩:=o8 (V:=D) hu af hk bD;rw [decide_eq_false af] at ho2 F2;have hm2:mkS false Y f=some (false,Y,f):=kX F2
 by_cases h0:V=0
 · subst h0;refine ⟨0,true,0,⟨au,af,fun _=>by rw [RS];simp,fun h=>(by cases h),fun h=>(by cases h),fun h=>(by cases h)⟩,fun mode hm0 o9=>?_⟩;unfold nA;rw [wZ,ho2];show uM gW ⟨false,.bool false,0,0,false,.bool false,Y,f⟩ mode=_;unfold uM;rw [if_neg af,if_pos (by rw [ou];show ll 0 false 0 Y false f=0;unfold ll;rw [if_neg (by unfold q8;simp;split <;> omega),hm2,eY];simp [dX];omega),eY,hm2];show (if false=true then ((0,110):Nat×Int) else gW (uL 0 0 Y f) mode)=_;rw [if_neg au,Fg 0 Y f af zD,Kc mode false 0 0 hm0 o9];rfl
 · obtain ⟨X,e,ho,hX,he0,he1,hv,hbl,F⟩:=o8 (V:=V) hu h0 hk bV;rw [decide_eq_false af] at ho F;have hm1:mkS false X e=some (false,X,e):=kX F;obtain ⟨K,t,m,hL,hR⟩:=Uj X e Y f hX af hbl zD;refine ⟨K,t,m,?_,fun mode hm0 o9=>?_⟩
   · refine hL.AJ af ?_;unfold iR gX;rw [<-hv,<-hv2]
     have e1:X*2^(e-f+((2*1074:Nat):Int)).toNat*(Y*2^(f+(u:Int)).toNat)=X*Y*(2^((e-f+((2*1074:Nat):Int)).toNat+(f+(u:Int)).toNat)):=by
      rw [aL,nS]
     have e2:X*2^(e+(u:Int)).toNat*2^j*(Y*2^(-(e-f+((2*1074:Nat):Int))).toNat)=X*Y*(2^((e+(u:Int)).toNat+j+(-(e-f+((2*1074:Nat):Int))).toNat)):=by
      rw [aL,aL,aN X,nS]
     rw [e1,e2];congr 2;omega
   · unfold nA;rw [ho,ho2];show uM gW ⟨false,.bool false,X,e,false,.bool false,Y,f⟩ mode=_;unfold uM;rw [if_neg af,if_pos (by rw [ou];show ll X false e Y false f=0;unfold ll;rw [if_neg (by unfold q8;simp;split <;> omega),hm1,hm2];simp [dX];omega),hm1,hm2];show (if false=true then ((0,110):Nat×Int) else gW (uL X e Y f) mode)=_;rw [if_neg au];exact hR mode hm0 o9
theorem Dv (z:Nat) (hz:z<2^63):z ^^^ 2^63=2^63+z:=by
 apply Nat.eq_of_testBit_eq;intro i;rw [Nat.testBit_xor,Nat.testBit_two_pow];rcases nI i 63 with h|h|h
 · rw [Nat.testBit_two_pow_add_gt h];simp [show ¬ 63=i by omega]
 · subst h;rw [Nat.testBit_two_pow_add_eq,zn hz];simp
 · have h1:z<2^i:=iC hz (fB au af);have h2:2^63+z<2^i:=iC (show 2^63+z<2^64 by omega) (fB au af);rw [zn h1,zn h2];simp [show ¬ 63=i by omega]
theorem F9 (y:Nat) (hy:y<18446744073709551616):Op.negFloat .f64 y=uq y:=by
 show y ^^^ 2^63=uq y;unfold uq
 by_cases h:9223372036854775808<=y
 · rw [if_pos h];obtain ⟨z,hz⟩:=ah (y-9223372036854775808);have e:y=z ^^^ 2^63:=by rw [Dv z af];omega
   rw [<-hz,e,Nat.xor_assoc,Nat.xor_self,Nat.xor_zero]
 · rw [if_neg h,Dv y af];omega
theorem YC {P:Program}(w:World) (y:Nat) (hy:y<18446744073709551616):(Go.Op.unary .neg (.float .f64 y)).run P w=.ok (.float .f64 (uq y)) w:=by
 rw [<-F9 y hy];rfl
def KW (mode:Int):Int:=if mode=2 then 3 else if mode=3 then 2 else mode
theorem xA (mode:Int) (w:World):Calls Tryz.prog 94 #[.int .i64 mode] w fun r w'=>r=.returned (.int .i64 (KW mode))/\w'=w:=by
 unfold KW
 by_cases h2:mode=2
 · subst h2;go_enter Tryz.func94,Tryz.ntmps94;go_wp2;go_ret;exact ⟨rfl,rfl⟩
 · have d2:(mode==2)=false:=by simp [h2]
   rw [if_neg h2]
   by_cases h3:mode=3
   · subst h3;go_enter Tryz.func94,Tryz.ntmps94;go_wp2;go_ret;exact ⟨rfl,rfl⟩
   · have d3:(mode==3)=false:=by simp [h3]
     rw [if_neg h3];go_enter Tryz.func94,Tryz.ntmps94;go_wp2;go_ret;exact ⟨rfl,rfl⟩
theorem UD {u m:Nat}{V:Int}(hu:u<=100000) (hm:m<=90000) (h:Bd m V):(q8 (dN (gV u V)) (dX (gV u V))==0)=decide (V=0)/\decide (0<=q8 (dN (gV u V)) (dX (gV u V)))=decide (0<=V):=by
 obtain ⟨h1,h2⟩:=VN hu hm h;unfold q8
 by_cases h0:V=0
 · rw [if_pos (h1.2 h0)];subst h0;decide
 · rw [if_neg (fun q=>h0 (h1.1 q)),decide_eq_false h0]
   by_cases hn:V<0
   · rw [if_pos (h2.2 hn),decide_eq_false (by omega:¬ 0<=V)];decide
   · rw [if_neg (fun q=>hn (h2.1 q)),decide_eq_true (by omega:0<=V)];decide
noncomputable def Wz (c q mode:Int):Nat×Int :=
 if 0<=c then nA (gV 4296 (c*c)) (gV 4296 q) mode
 else if (nA (gV 4296 (c*c)) (gV 4296 q) (KW mode)).2=0 then (uq (nA (gV 4296 (c*c)) (gV 4296 q) (KW mode)).1,0) else (0,(nA (gV 4296 (c*c)) (gV 4296 q) (KW mode)).2)
theorem UE (x:Int):0<=x*x:=by
 rcases Int.le_total 0 x with h|h
 · exact Int.mul_nonneg h h
 · exact Int.mul_nonneg_of_nonpos_of_nonpos h h
theorem Wl {mode:Int}(h:pE mode=true):pE (KW mode)=true:=by
 have:=Hy h;unfold KW pE
 split
 · decide
 · split
   · decide
   · simp;omega
theorem PD {c q mode:Int}{k:Nat}(hk:k<=90000) (hq:0<q) (b1:Bd k (c*c)) (b2:Bd k q) (hm:pE mode=true):(nA (gV 4296 (c*c)) (gV 4296 q) mode).2=0/\(nA (gV 4296 (c*c)) (gV 4296 q) mode).1<18446744073709551616:=by
 obtain ⟨K,t,m,hL,hR⟩:=YB (u:=4296) au hk (UE c) hq b1 b2;obtain ⟨m0,m4⟩:=Hy hm;rw [hR mode m0 m4];refine ⟨rfl,?_⟩;have:=hL.fin;simp only;unfold rK
 split
 · omega
 · split <;> omega
structure Dw (w v:World) (a b:Option Addr) (ca cb:Nat) (oC oQ:Option (Bool×Nat×Int)):Prop where
 c:Dk v w.heap.size (dN oC) (.slice a (ws (dX oC)).length ca) (dE oC)
 q:Dk v (w.heap.size+1) (dN oQ) (.slice b (ws (dX oQ)).length cb) (dE oQ)
 nc:Nt 0 v (.slice a (ws (dX oC)).length ca) (dX oC)
 nq:Nt 0 v (.slice b (ws (dX oQ)).length cb) (dX oQ)
 b:Below w.heap.size w v
theorem Dw.below {w v u:World}{a b:Option Addr}{ca cb:Nat}{oC oQ:Option (Bool×Nat×Int)}(h:Dw w v a b ca cb oC oQ) (hb:Below v.heap.size v u):Dw w u a b ca cb oC oQ :=
 ⟨h.c.below hb,h.q.below hb,h.nc.below hb,h.nq.below hb,h.b.trans (hb.mono h.b.size)⟩
theorem Dw.but {w v u:World}{a b:Option Addr}{ca cb g T:Nat}{oC oQ:Option (Bool×Nat×Int)}{L:List Value}(h:Dw w v a b ca cb oC oQ) (hb:But g v u) (hB:Bl v g T L) (hT:T≠51) (hg:w.heap.size+1<g):Dw w u a b ca cb oC oQ :=
 ⟨by unfold Dk;rw [hb.block _ h.c.lt af];exact h.c,by unfold Dk;rw [hb.block _ h.q.lt af];exact h.q,h.nc.off hb (h.nc.jA hT hB),h.nq.off hb (h.nq.jA hT hB),But.below h.b hb h.b.size af⟩
theorem uE (w:World) (a b:Option Addr) (ca cb:Nat) (oC oQ oP:Option (Bool×Nat×Int)) (mode sg mm:Int) (bg:Bool) (X:Nat) (z:Nat×Int) (hT:dJ w) (FF:Aside (Fm oC/\Fm oQ/\Fm oP)) (EE:Aside (dK oC oC=oP))
 (HS:Hid (∀ (u:World) (p:Option Addr) (q:Nat),Nt 0 u (.slice p (ws (dX oC)).length q) (dX oC)->Calls Tryz.prog 52 #[.agg #[.bool (dN oC),.slice p (ws (dX oC)).length q,.int .i64 (dE oC)]] u fun r w'=>r=.returned (.int .i64 sg)/\Below u.heap.size u w')) (hsg:decide (0<=sg)=bg)
 (HM:Hid (∀ u:World,Calls Tryz.prog 94 #[.int .i64 mode] u fun r w'=>r=.returned (.int .i64 mm)/\w'=u))
 (HR:Hid (∀ (u:World) (ap b:Option Addr) (cp cb:Nat),dJ u->Nt 0 u (.slice ap (ws (dX oP)).length cp) (dX oP)->Nt 0 u (.slice b (ws (dX oQ)).length cb) (dX oQ)->Calls Tryz.prog 44 #[.agg #[.bool (dN oP),.slice ap (ws (dX oP)).length cp,.int .i64 (dE oP),.bool (dN oQ),.slice b (ws (dX oQ)).length cb,.int .i64 (dE oQ)],.int .i64 (if bg then mode else mm)] u fun r w'=>r=.returned (.tuple #[.float .f64 X,.int .i64 0])/\Below u.heap.size u w'))
 (hX:X<18446744073709551616) (hz:z=(if bg then X else uq X,0))
 (N1:Nt 0 w (.slice a (ws (dX oC)).length ca) (dX oC)) (N2:Nt 0 w (.slice b (ws (dX oQ)).length cb) (dX oQ)) :
 Calls Tryz.prog 53 #[.agg #[.bool (dN oC),.slice a (ws (dX oC)).length ca,.int .i64 (dE oC)],.agg #[.bool (dN oQ),.slice b (ws (dX oQ)).length cb,.int .i64 (dE oQ)],.int .i64 mode] w fun r w'=>r=.returned (.tuple #[.float .f64 z.1,.int .i64 z.2])/\Below w.heap.size w w':=by
 subst hz;simp only;obtain ⟨W,hW⟩:=ah ((w.alloc (Obj.cells #[.bool (dN oC),.slice a (ws (dX oC)).length ca,.int .i64 (dE oC)] 25)).alloc (Obj.cells #[.bool (dN oQ),.slice b (ws (dX oQ)).length cb,.int .i64 (dE oQ)] 25))
 have H0:Aside (Dw w W a b ca cb oC oQ):=by
  have hbW:Below w.heap.size w W:=by rw [hW];exact (ae _ _).trans ((ae _ _).mono aO)
  refine ⟨?_,?_,N1.below hbW,N2.below hbW,hbW⟩
  · rw [hW];exact (Dk.new _ _ _ _).below (ae _ _)
  · have z1:=Dk.new (w.alloc (Obj.cells #[.bool (dN oC),.slice a (ws (dX oC)).length ca,.int .i64 (dE oC)] 25)) (dN oQ) (.slice b (ws (dX oQ)).length cb) (dE oQ);rw [dL] at z1;rw [hW];exact z1
 have HW:=ak hW;have HT:=ak hT;have HN:=hid (fun u:World=>YC (P:=Tryz.prog) u X hX);clear hW hT N1 N2;go_enter Tryz.func53,Tryz.ntmps53
 go_upto_region 1 with fail
 rw [<-HW.o];clear HW
 go_cut [8] from 11 to 15 (fun q wx=>∃ (g8:Nat) (ap:Option Addr) (cp:Nat),q=.pointer (some ⟨g8,0,none⟩)/\Aside (Bl wx g8 58 [.bool (dN oP),.slice ap (ws (dX oP)).length cp,.int .i64 (dE oP),.bool (dN oQ),.slice b (ws (dX oQ)).length cb,.int .i64 (dE oQ)]/\Dw w wx a b ca cb oC oQ/\Nt 0 wx (.slice ap (ws (dX oP)).length cp) (dX oP)))
 case first =>
  have BD:=ak (H0.o.below (aD W.heap.size W).drew);have kS:Aside (W.drew.cell? ⟨w.heap.size,0,none⟩=some (.bool (dN oC))/\W.drew.cell? ⟨w.heap.size,1,none⟩=some (.slice a (ws (dX oC)).length ca)/\W.drew.cell? ⟨w.heap.size,2,none⟩=some (.int .i64 (dE oC))/\W.drew.cell? ⟨w.heap.size+1,0,none⟩=some (.bool (dN oQ))/\W.drew.cell? ⟨w.heap.size+1,1,none⟩=some (.slice b (ws (dX oQ)).length cb)/\W.drew.cell? ⟨w.heap.size+1,2,none⟩=some (.int .i64 (dE oQ))):=⟨BD.o.c.facts.1,BD.o.c.facts.2.1,BD.o.c.facts.2.2.1,BD.o.q.facts.1,BD.o.q.facts.2.1,BD.o.q.facts.2.2.1⟩;clear H0;refine fI (fun w'=>w'.cell? ⟨w.heap.size,0,none⟩=some (.bool (dN oC))/\w'.cell? ⟨w.heap.size,1,none⟩=some (.slice a (ws (dX oC)).length ca)/\w'.cell? ⟨w.heap.size,2,none⟩=some (.int .i64 (dE oC))/\w'.cell? ⟨w.heap.size+1,0,none⟩=some (.bool (dN oQ))/\w'.cell? ⟨w.heap.size+1,1,none⟩=some (.slice b (ws (dX oQ)).length cb)/\w'.cell? ⟨w.heap.size+1,2,none⟩=some (.int .i64 (dE oQ))) 6 dm ?_;obtain ⟨Wd,hWd⟩:=ah (W.drew);rw [<-hWd] at BD kS |-;clear hWd
  refine tk 0 [2,4] rfl kS.o ?_;try simp only [Act.put,sa,sb,sc]
  refine tk 1 [2,4] rfl kS.o ?_;try simp only [Act.put,sa,sb,sc]
  refine tk 3 [4] rfl kS.o ?_;try simp only [Act.put,sa,sb,sc]
  refine di (i:=2) (j:=5) dm rfl rfl (fun K' hK=>?_) (fun K' hK=>?_)
  · skip;have C:=hid (gL FF.o.1 FF.o.1 FF.o.r2 BD.o.nc BD.o.nc (HT.o.belows BD.o.b) EE.o);go_simp;refine C.o.mono ?_;rintro r u1 ⟨hd,hb⟩;obtain ⟨a1,c1,rfl,hN⟩:=hd.aG;have BD:=aJ (BD.o.below hb) hN;have kS:=ak (ck hb kS.o fun h=>ck2 hb h);clear hb hd hN C;dsimp only;refine hK.out _ _ (fun _=>kS.o) ?_;clear hK K'
    try simp only [Act.put,sa,sb,sc]
    refine di (i:=4) (j:=5) dm rfl rfl (fun K' hK=>?_) (fun K' hK=>?_)
    · skip;go_simp;refine hK.out _ _ (fun _=>kS.o) ?_;clear hK K'
      try simp only [Act.put,sa,sb,sc]
      refine aA (i:=5) dm rfl (fun K' hK=>?_);go_simp;obtain ⟨g2,hg2⟩:=ah (u1.heap.size);obtain ⟨V2,hV2⟩:=ah (u1.alloc (Obj.cells #[.bool false,.slice none 0 0,.int .i64 0,.bool false,.slice none 0 0,.int .i64 0] 58));have hb:Below u1.heap.size u1 V2:=by rw [hV2];exact ae _ _
      have hZ:Bl V2 g2 58 [.bool false,.slice none 0 0,.int .i64 0,.bool false,.slice none 0 0,.int .i64 0]:=by rw [hV2,hg2];exact Bl.new _ 58 [.bool false,.slice none 0 0,.int .i64 0,.bool false,.slice none 0 0,.int .i64 0]
      have BD:=gK (BD.o.1.below hb) (BD.o.2.below hb) hZ (show w.heap.size+1<g2 by rw [hg2];exact BD.o.1.q.lt);have kS:=ak (ck hb kS.o fun h=>ck2 hb h);have HV:=(aJ hV2 hg2);clear hZ hb hV2 hg2;refine hK.out _ _ (fun _=>by rw [<-HV.o.1];exact kS.o) ?_;clear hK K';rw [<-HV.o.1,<-HV.o.2];clear HV
      try simp only [Act.put,sa,sb,sc]
      have z0:=BD.o.r2.1.cell 0 _ rfl;have eF:=BD.o.r2.1.frozen 0;have z1:=BD.o.r2.1.cell 1 _ rfl;have eG:=BD.o.r2.1.frozen 1;have z2:=BD.o.r2.1.cell 2 _ rfl;have eO:=BD.o.r2.1.frozen 2;have z3:=BD.o.r2.1.cell 3 _ rfl;have YD:=BD.o.r2.1.frozen 3;have z4:=BD.o.r2.1.cell 4 _ rfl;have YE:=BD.o.r2.1.frozen 4;have z5:=BD.o.r2.1.cell 5 _ rfl;have YF:=BD.o.r2.1.frozen 5;have hbt:But g2 V2 _:=(((((((But.refl g2 V2).set 0 (.bool (dN oP))).set 1 (.slice a1 (ws (dX oP)).length c1)).set 2 (.int .i64 (dE oP))).set 3 (.bool (dN oQ))).set 4 (.slice b (ws (dX oQ)).length cb)).set 5 (.int .i64 (dE oQ)));have BE:=aZ ((((((BD.o.r2.1.set 0 (.bool (dN oP))).set 1 (.slice a1 (ws (dX oP)).length c1)).set 2 (.int .i64 (dE oP))).set 3 (.bool (dN oQ))).set 4 (.slice b (ws (dX oQ)).length cb)).set 5 (.int .i64 (dE oQ))) (BD.o.1.but hbt BD.o.r2.1 au BD.o.r3) (BD.o.2.1.off hbt (BD.o.2.1.jA au BD.o.r2.1));clear hbt;refine aA (i:=6) dm rfl (fun K' hK=>?_);go_simp;refine hK.out _ _ (fun h=>absurd h au) ?_;clear hK K' z0 z1 z2 z3 z4 z5 eF eG eO YD YE YF kS BD;refine aQ dm ?_ _;go_wp2_with fail
      go_meet
      case rel=>exact ⟨g2,a1,c1,rfl,BE.o⟩
    · skip;go_simp;obtain ⟨g3,hg3⟩:=ah (u1.heap.size);obtain ⟨V3,SH⟩:=ah (u1.alloc (Obj.cells #[.bool false,.slice none 0 0,.int .i64 0,.bool false,.slice none 0 0,.int .i64 0] 58));have hb:Below u1.heap.size u1 V3:=by rw [SH];exact ae _ _
      have hZ:Bl V3 g3 58 [.bool false,.slice none 0 0,.int .i64 0,.bool false,.slice none 0 0,.int .i64 0]:=by rw [SH,hg3];exact Bl.new _ 58 [.bool false,.slice none 0 0,.int .i64 0,.bool false,.slice none 0 0,.int .i64 0]
      have BD:=gK (BD.o.1.below hb) (BD.o.2.below hb) hZ (show w.heap.size+1<g3 by rw [hg3];exact BD.o.1.q.lt);have kS:=ak (ck hb kS.o fun h=>ck2 hb h);have HV:=(aJ SH hg3);clear hZ hb SH hg3;refine hK.out _ _ (fun _=>by rw [<-HV.o.1];exact kS.o) ?_;clear hK K';rw [<-HV.o.1,<-HV.o.2];clear HV
      try simp only [Act.put,sa,sb,sc]
      refine aA (i:=4) dm rfl (fun K' hK=>?_);go_simp;refine hK.out _ _ (fun _=>kS.o) ?_;clear hK K'
      try simp only [Act.put,sa,sb,sc]
      have z0:=BD.o.r2.1.cell 0 _ rfl;have eF:=BD.o.r2.1.frozen 0;have z1:=BD.o.r2.1.cell 1 _ rfl;have eG:=BD.o.r2.1.frozen 1;have z2:=BD.o.r2.1.cell 2 _ rfl;have eO:=BD.o.r2.1.frozen 2;have z3:=BD.o.r2.1.cell 3 _ rfl;have YD:=BD.o.r2.1.frozen 3;have z4:=BD.o.r2.1.cell 4 _ rfl;have YE:=BD.o.r2.1.frozen 4;have z5:=BD.o.r2.1.cell 5 _ rfl;have YF:=BD.o.r2.1.frozen 5;have hbt:But g3 V3 _:=(((((((But.refl g3 V3).set 0 (.bool (dN oP))).set 1 (.slice a1 (ws (dX oP)).length c1)).set 2 (.int .i64 (dE oP))).set 3 (.bool (dN oQ))).set 4 (.slice b (ws (dX oQ)).length cb)).set 5 (.int .i64 (dE oQ)));have BE:=aZ ((((((BD.o.r2.1.set 0 (.bool (dN oP))).set 1 (.slice a1 (ws (dX oP)).length c1)).set 2 (.int .i64 (dE oP))).set 3 (.bool (dN oQ))).set 4 (.slice b (ws (dX oQ)).length cb)).set 5 (.int .i64 (dE oQ))) (BD.o.1.but hbt BD.o.r2.1 au BD.o.r3) (BD.o.2.1.off hbt (BD.o.2.1.jA au BD.o.r2.1));clear hbt;refine aA (i:=6) dm rfl (fun K' hK=>?_);go_simp;refine hK.out _ _ (fun h=>absurd h au) ?_;clear hK K' z0 z1 z2 z3 z4 z5 eF eG eO YD YE YF kS BD;refine aQ dm ?_ _;go_wp2_with fail
      go_meet
      case rel=>exact ⟨g3,a1,c1,rfl,BE.o⟩
  · skip;go_simp;obtain ⟨g4,hg4⟩:=ah (Wd.heap.size);obtain ⟨V4,Ay⟩:=ah (Wd.alloc (Obj.cells #[.bool false,.slice none 0 0,.int .i64 0,.bool false,.slice none 0 0,.int .i64 0] 58));have hb:Below Wd.heap.size Wd V4:=by rw [Ay];exact ae _ _
    have hZ:Bl V4 g4 58 [.bool false,.slice none 0 0,.int .i64 0,.bool false,.slice none 0 0,.int .i64 0]:=by rw [Ay,hg4];exact Bl.new _ 58 [.bool false,.slice none 0 0,.int .i64 0,.bool false,.slice none 0 0,.int .i64 0]
    have BD:=aZ (BD.o.below hb) hZ (show w.heap.size+1<g4 by rw [hg4];exact BD.o.q.lt);have kS:=ak (ck hb kS.o fun h=>ck2 hb h);have HV:=(aJ Ay hg4);clear hZ hb Ay hg4;refine hK.out _ _ (fun _=>by rw [<-HV.o.1];exact kS.o) ?_;clear hK K';rw [<-HV.o.1,<-HV.o.2];clear HV
    try simp only [Act.put,sa,sb,sc]
    refine aA (i:=2) dm rfl (fun K' hK=>?_);have C:=hid (gL FF.o.1 FF.o.1 FF.o.r2 BD.o.1.nc BD.o.1.nc (HT.o.belows BD.o.1.b) EE.o);go_simp;refine C.o.mono ?_;rintro r u5 ⟨hd,hb⟩;obtain ⟨a5,c5,rfl,hN⟩:=hd.aG;have BD:=gK (BD.o.1.below hb) (BD.o.2.1.below hb BD.o.2.1.lt) BD.o.r2 hN;have kS:=ak (ck hb kS.o fun h=>ck2 hb h);clear hb hd hN C;dsimp only;refine hK.out _ _ (fun _=>kS.o) ?_;clear hK K'
    try simp only [Act.put,sa,sb,sc]
    refine aA (i:=4) dm rfl (fun K' hK=>?_);go_simp;refine hK.out _ _ (fun _=>kS.o) ?_;clear hK K'
    try simp only [Act.put,sa,sb,sc]
    have z0:=BD.o.2.1.cell 0 _ rfl;have eF:=BD.o.2.1.frozen 0;have z1:=BD.o.2.1.cell 1 _ rfl;have eG:=BD.o.2.1.frozen 1;have z2:=BD.o.2.1.cell 2 _ rfl;have eO:=BD.o.2.1.frozen 2;have z3:=BD.o.2.1.cell 3 _ rfl;have YD:=BD.o.2.1.frozen 3;have z4:=BD.o.2.1.cell 4 _ rfl;have YE:=BD.o.2.1.frozen 4;have z5:=BD.o.2.1.cell 5 _ rfl;have YF:=BD.o.2.1.frozen 5;have hbt:But g4 u5 _:=(((((((But.refl g4 u5).set 0 (.bool (dN oP))).set 1 (.slice a5 (ws (dX oP)).length c5)).set 2 (.int .i64 (dE oP))).set 3 (.bool (dN oQ))).set 4 (.slice b (ws (dX oQ)).length cb)).set 5 (.int .i64 (dE oQ)));have BE:=aZ ((((((BD.o.2.1.set 0 (.bool (dN oP))).set 1 (.slice a5 (ws (dX oP)).length c5)).set 2 (.int .i64 (dE oP))).set 3 (.bool (dN oQ))).set 4 (.slice b (ws (dX oQ)).length cb)).set 5 (.int .i64 (dE oQ))) (BD.o.1.but hbt BD.o.2.1 au BD.o.r2.1) (BD.o.r3.off hbt (BD.o.r3.jA au BD.o.2.1));clear hbt;refine aA (i:=6) dm rfl (fun K' hK=>?_);go_simp;refine hK.out _ _ (fun h=>absurd h au) ?_;clear hK K' z0 z1 z2 z3 z4 z5 eF eG eO YD YE YF kS BD;refine aQ dm ?_ _;go_wp2_with fail
    go_meet
    case rel=>exact ⟨g4,a5,c5,rfl,BE.o⟩
 obtain ⟨g8,ap,cp,rfl,K1⟩:=hcut;obtain ⟨U,hU⟩:=ah wc;rw [<-hU] at K1 |-;clear hU H0;obtain ⟨x0,x1,x2,bE,bF,bG⟩:=K1.o.2.1.c.facts;have C:=hid (HS.o U a ca K1.o.2.1.nc);go_wp2_with fail;refine C.o.mono ?_;rintro r v ⟨rfl,hb⟩;have K2:=aZ (K1.o.1.below hb K1.o.1.lt) (K1.o.2.1.below hb) (K1.o.r2.below hb);clear hb C x0 x1 x2 bE bF bG K1 HS
 cases bg with
 | true =>
   simp only [if_true] at HR |-;have C:=hid (HR.o v ap b cp cb (HT.o.belows K2.o.2.1.b) K2.o.r2 K2.o.2.1.nq);have y0:=K2.o.1.cell 0 _ rfl;have y1:=K2.o.1.cell 1 _ rfl;have y2:=K2.o.1.cell 2 _ rfl;have y3:=K2.o.1.cell 3 _ rfl;have y4:=K2.o.1.cell 4 _ rfl;have y5:=K2.o.1.cell 5 _ rfl;go_wp2_with fail;refine C.o.mono ?_;rintro r v2 ⟨rfl,hb⟩;have K3:=ak (K2.o.2.1.b.trans (hb.mono K2.o.2.1.b.size));clear hb C y0 y1 y2 y3 y4 y5;go_wp2;exact aF (v:=.tuple #[.float .f64 X,.int .i64 0]) (by simp [results,Tryz.results53,go_sem]) rfl ⟨rfl,K3.o⟩
 | false =>
   simp only [fq,if_false] at HR |-;have BD:=aZ (K2.o.1.below (aD v.heap.size v).drew K2.o.1.lt) (K2.o.2.1.below (aD v.heap.size v).drew) (K2.o.r2.below (aD v.heap.size v).drew);have kS:Aside (v.drew.cell? ⟨g8,0,none⟩=some (.bool (dN oP))/\v.drew.cell? ⟨g8,1,none⟩=some (.slice ap (ws (dX oP)).length cp)/\v.drew.cell? ⟨g8,2,none⟩=some (.int .i64 (dE oP))/\v.drew.cell? ⟨g8,3,none⟩=some (.bool (dN oQ))/\v.drew.cell? ⟨g8,4,none⟩=some (.slice b (ws (dX oQ)).length cb)/\v.drew.cell? ⟨g8,5,none⟩=some (.int .i64 (dE oQ))):=⟨BD.o.1.cell 0 _ rfl,BD.o.1.cell 1 _ rfl,BD.o.1.cell 2 _ rfl,BD.o.1.cell 3 _ rfl,BD.o.1.cell 4 _ rfl,BD.o.1.cell 5 _ rfl⟩;have C1:=hid (HM.o v.drew);have C2:=hid (HR.o v.drew ap b cp cb (HT.o.belows BD.o.2.1.b) BD.o.r2 BD.o.2.1.nq);clear K2;go_wp2_with fail
   go_region_held3 (fun w'=>w'.cell? ⟨g8,0,none⟩=some (.bool (dN oP))/\w'.cell? ⟨g8,1,none⟩=some (.slice ap (ws (dX oP)).length cp)/\w'.cell? ⟨g8,2,none⟩=some (.int .i64 (dE oP))/\w'.cell? ⟨g8,3,none⟩=some (.bool (dN oQ))/\w'.cell? ⟨g8,4,none⟩=some (.slice b (ws (dX oQ)).length cb)/\w'.cell? ⟨g8,5,none⟩=some (.int .i64 (dE oQ))) (with_reducible exact kS.o) (first
    | (go_at_call 94
       with_reducible refine C1.o.mono ?_
       rintro r v3 ⟨rfl,hv⟩;rw [hv]
       clear hv v3 C1)
    | (go_at_call 44
       with_reducible refine C2.o.mono ?_
       rintro r v4 ⟨rfl,hb⟩;have K3:=ak (BD.o.2.1.b.trans (hb.mono BD.o.2.1.b.size));have kS:=ak (ck hb kS.o fun h=>ck2 hb h)
       clear hb C2))
   have Wt:=HN.o;go_wp2;exact aF (v:=.tuple #[.float .f64 (uq X),.int .i64 0]) (by simp [results,Tryz.results53,go_sem]) rfl ⟨rfl,K3.o⟩
end
end Go.Proofs.YtfmfhehbdfhnbaaGreatDoor
