import Derived.Test.YtfmfhehbdfhnbaaGreatDoorMC4x
import Derived.Test.YtfmfhehbdfhnbaaGreatDoorD32ex
import Derived.Test.YtfmfhehbdfhnbaaGreatDoorMDOkx
import Derived.Test.YtfmfhehbdfhnbaaGreatDoorMO11x
import Derived.Test.YtfmfhehbdfhnbaaGreatDoorZ14x
import Derived.RangeFuncNested
import Derived.RangeFuncBound
import Derived.RangeFuncCalls
import Derived.RangeFuncLeaves
import Derived.RangeFuncBox
import Derived.Shelf.Abstract
import Derived.Shelf.RegionOpen
import Derived.WalkKit
import Derived.OwnWalkIn
import Derived.TacticsInMore
import Derived.LoopNIn
import Derived.LoopIn
import Derived.Test.YtfmfhehbdfhnbaaGreatDoorW17x
import Derived.ChangeKeysEq
import Derived.Laws.OwnMore
import Derived.Lib.SliceRun
import Derived.Deep.RegionHeld
import Derived.Test.YtfmfhehbdfhnbaaGreatDoorW7x
import Derived.Test.YtfmfhehbdfhnbaaGreatDoorD2x
import Derived.Deep.RegionWith
import Derived.Test.YtfmfhehbdfhnbaaGreatDoorD21x
import Derived.Test.YtfmfhehbdfhnbaaGreatDoorD16x
import Derived.Test.YtfmfhehbdfhnbaaGreatDoorZ41x
import Derived.Deep.LoopGhost
import Derived.Deep.RegionHeld3
import Derived.Deep.CutRange
import Derived.Test.YtfmfhehbdfhnbaaGreatDoorW40x
import Derived.ProofKit
import Derived.OpenShut
import Derived.ChangeOld
import Derived.ChangeArms
set_option linter.unusedVariables false
set_option linter.unusedSimpArgs false
set_option maxHeartbeats 16000000
set_option maxRecDepth 20000
namespace Go.Proofs.YtfmfhehbdfhnbaaGreatDoor
namespace J
end J
section
open Go Go.RowKit J
noncomputable def WA (xs ys:List Nat) (mode:Int):Nat×Int :=
 if pE mode then
  if xV xs ys=0 then
   if xs=[] then (0,3) else if cS xs xs*cS ys ys=0 then (0,190) else Wz (cS xs ys) (cS xs xs*cS ys ys) mode
  else (0,xV xs ys)
 else (0,1)
theorem PE {w:World}{a b:Option Addr}{ca cb:Nat}{c q:Int}(mode:Int) (hm:pE mode=true) (hq:0<q) (bc:Bd 4229 c) (bq:Bd 8458 q) (hT:dJ w) (N1:Nt 0 w (.slice a (ws (dX (gV 2148 c))).length ca) (dX (gV 2148 c))) (N2:Nt 0 w (.slice b (ws (dX (gV 4296 q))).length cb) (dX (gV 4296 q))) :
 Calls Tryz.prog 53 #[.agg #[.bool (dN (gV 2148 c)),.slice a (ws (dX (gV 2148 c))).length ca,.int .i64 (dE (gV 2148 c))],.agg #[.bool (dN (gV 4296 q)),.slice b (ws (dX (gV 4296 q))).length cb,.int .i64 (dE (gV 4296 q))],.int .i64 mode] w fun r w'=>r=.returned (.tuple #[.float .f64 (Wz c q mode).1,.int .i64 (Wz c q mode).2])/\Below w.heap.size w w':=by
 have FC:Fm (gV 2148 c):=dB au au bc;have FQ:Fm (gV 4296 q):=dB au au bq;have FP:Fm (gV 4296 (c*c)):=dB au au (bc.mul bc);have E:dK (gV 2148 c) (gV 2148 c)=gV 4296 (c*c):=mH au au au au bc bc;obtain ⟨s1,s2⟩:=UD (u:=2148) au au bc
 have hS:∀ (u:World) (p:Option Addr) (k:Nat),Nt 0 u (.slice p (ws (dX (gV 2148 c))).length k) (dX (gV 2148 c))->Calls Tryz.prog 52 #[.agg #[.bool (dN (gV 2148 c)),.slice p (ws (dX (gV 2148 c))).length k,.int .i64 (dE (gV 2148 c))]] u fun r w'=>r=.returned (.int .i64 (q8 (dN (gV 2148 c)) (dX (gV 2148 c))))/\Below u.heap.size u w':=fun u p k hN=>by
  have:=sZ (FC.a12 hN) (dN (gV 2148 c)) (dE (gV 2148 c));rw [aj] at this;exact this
 by_cases h0:0<=c
 · obtain ⟨k1,k2⟩:=PD (c:=c) (q:=q) (mode:=mode) (k:=8458) au hq (bc.mul bc) bq hm;refine uE w a b ca cb (gV 2148 c) (gV 4296 q) (gV 4296 (c*c)) mode _ (KW mode) true (nA (gV 4296 (c*c)) (gV 4296 q) mode).1 _ hT ⟨FC,FQ,FP⟩ E (hid hS) (by rw [s2];exact decide_eq_true h0) (hid fun u=>xA mode u) (hid fun u ap b cp cb qi n1 n2=>?_) k2 ?_ N1 N2
   · have:=FM mode FP FQ n1 n2 qi;rw [k1] at this;exact this
   · unfold Wz;rw [if_pos h0];exact Prod.ext rfl k1
 · obtain ⟨k1,k2⟩:=PD (c:=c) (q:=q) (mode:=KW mode) (k:=8458) au hq (bc.mul bc) bq (Wl hm);refine uE w a b ca cb (gV 2148 c) (gV 4296 q) (gV 4296 (c*c)) mode _ (KW mode) false (nA (gV 4296 (c*c)) (gV 4296 q) (KW mode)).1 _ hT ⟨FC,FQ,FP⟩ E (hid hS) (by rw [s2];exact decide_eq_false h0) (hid fun u=>xA mode u) (hid fun u ap b cp cb qi n1 n2=>?_) k2 ?_ N1 N2
   · have:=FM (KW mode) FP FQ n1 n2 qi;rw [k1] at this;exact this
   · unfold Wz;rw [if_neg h0,if_pos k1];rfl
theorem UF (f:Nat->Int):∀ n:Nat,0<=(n:Int)*tS (fun i=>f i*f i) n-tS f n*tS f n
 | 0=>by simp [tS]
 | n+1=>by
   have ih:=UF f n
   have h2:∀ m:Nat,0<=(m:Int)*f n*f n-2*f n*tS f m+tS (fun i=>f i*f i) m:=by
    intro m
    induction m with
    | zero=>simp [tS]
    | succ m ihm =>
      have:=UE (f n-f m);simp only [kC]
      grind
   have:=h2 n;simp only [kC]
   grind
theorem UG (xs:List Nat):0<=cS xs xs:=UF (fX xs) xs.length
theorem nC.other {w v:World}{n gx gy gA gB g:Nat}{p1 p2:Option Addr}{q1 q2:Nat}{A B:Nat->Option (Bool×Nat×Int)}{oS oT q:Option (Bool×Nat×Int)}(h:nC w v n gx gy gA gB p1 p2 q1 q2 A B oS oT) (hL:Lo v g q) (h1:gx≠g) (h2:gy≠g) (h3:w.heap.size<=gx/\gA<gx/\gB<gx/\gx<gy) (x y z:Value) (hgg:w.heap.size<=g:=by first | omega | assumption) (hA:gA≠g:=by omega) (hB:gB≠g:=by omega):nC w (cZ v g x y z) n gx gy gA gB p1 p2 q1 q2 A B oS oT:=by
 have hb:=ku g v x y z;obtain ⟨a0,c0,hD,hM⟩:=hL;exact ⟨h.x.but hb h1,h.y.but hb h2,h.dx.but (T:=25) (L:=[_,_,_]) hb hD hA au,h.dy.but (T:=25) (L:=[_,_,_]) hb hD hB au,h.nx.rz hD _ _ _,h.ny.rz hD _ _ _,dY h.b h.b.size hgg _ _ _⟩
theorem PG (xs ys:List Nat) (a a2:Option Addr) (n n2 c c2:Nat) (mode:Int) (w:World) (hn:n=xs.length) (hn2:n2=ys.length) (hF:Fs w.heap.size w a xs) (hG:Fs w.heap.size w a2 ys) (hW:nN xs) (hW2:nN ys) (hT:dJ w) (hl:n<=35184372088832) (hl2:n2<=35184372088832) (z:Nat×Int) (hz:WA xs ys mode=z) :
 Calls Tryz.prog 21 #[.slice a n c,.slice a2 n2 c2,.int .i64 mode] w fun r w'=>r=.returned (.tuple #[.float .f64 z.1,.int .i64 z.2])/\Below w.heap.size w w':=by
 obtain ⟨X,E⟩:=z;simp only;have C:=hid (iH mode w);unfold WA at hz
 cases hm:pE mode with
 | false =>
   rw [hm,if_neg au] at hz;rw [hm] at C;obtain ⟨rfl,rfl⟩:=fu hz;clear hz hn hF hW hT hn2 hG hW2;go_enter Tryz.func21,Tryz.ntmps21;go_wp2_with fail;refine C.o.mono ?_;rintro r v ⟨rfl,hv⟩;rw [hv];clear hv v C;go_wp2;exact aF (v:=.tuple #[.float .f64 0,.int .i64 1]) (by simp [results,Tryz.results21,go_sem]) rfl ⟨rfl,aD _ _⟩
 | true =>
   rw [hm,if_pos rfl] at hz;rw [hm] at C;have HB:=hid (Pz xs ys a a2 n n2 c c2 w hn hn2 hF hG hW hW2 hT hl hl2);have HX:=eu hn hn2 hW hW2 hT;have HZ:=ak hz;have HMD:=ak hm;clear hz hn hF hW hT hn2 hG hW2 hl hl2 hm;go_enter Tryz.func21,Tryz.ntmps21;go_wp2_with fail;refine C.o.mono ?_;rintro r v ⟨rfl,hv⟩;rw [hv];clear hv v C;go_wp2_with fail;refine HB.o.mono ?_;rintro r u2 ⟨hr,hb⟩;rcases hr with ⟨he,rfl⟩|⟨he,v1,v2,rfl,uf,hR2⟩
   · have hz:=HZ.o;rw [if_neg he] at hz;obtain ⟨rfl,hE⟩:=fu hz;rw [hE] at he |-;have h1:(E==0)=false:=by simp [he]
     have BE:Aside (Below w.heap.size w ((u2.alloc (Obj.cells #[.slice none 0 0,.bool false,.slice none 0 0,.int .i64 0] 74)).alloc (Obj.cells #[.slice none 0 0,.bool false,.slice none 0 0,.int .i64 0] 74))):=(hb.trans ((aK _ _).mono hb.size)).trans ((aK _ _).mono (by simp;have:=hb.size;omega));clear hz HZ hE hb HB;go_wp2;exact aF (v:=.tuple #[.float .f64 0,.int .i64 E]) (by simp [results,Tryz.results21,go_sem]) rfl ⟨rfl,BE.o⟩
   · have HBO:=ak he;obtain ⟨hlen,UA,hf1,hf2⟩:=UB he;have PF:=(gK hlen UA hf1 hf2);obtain ⟨gA,p1,q1,rfl,hD1,hN1⟩:=uf;obtain ⟨gB,p2,q2,rfl,hD2,ko⟩:=hR2;obtain ⟨oS,xx⟩:=ah (gV 1074 (sX xs));obtain ⟨oT,Py⟩:=ah (gV 1074 (sX ys));rw [<-xx] at hN1 |-;rw [<-Py] at ko |-;obtain ⟨V,hV⟩:=ah ((u2.alloc (Obj.cells #[.slice (some ⟨gA,0,none⟩) n n,.bool (dN oS),.slice p1 (ws (dX oS)).length q1,.int .i64 (dE oS)] 74)).alloc (Obj.cells #[.slice (some ⟨gB,0,none⟩) n n,.bool (dN oT),.slice p2 (ws (dX oT)).length q2,.int .i64 (dE oT)] 74));obtain ⟨gx,hgx⟩:=ah (u2.heap.size);obtain ⟨gy,UC⟩:=ah (u2.heap.size+1)
     have B4:Aside (nC w V n gx gy gA gB p1 p2 q1 q2 (fun i=>gV 1074 (fX xs i)) (fun i=>gV 1074 (fX ys i)) oS oT):=by
      have Hq:Below u2.heap.size u2 V:=by rw [hV];exact (aK _ _).trans ((aK _ _).mono aO)
      refine ⟨?_,?_,hD1.below Hq,hD2.below Hq,hN1.below Hq,ko.below Hq,hb.trans (Hq.mono hb.size)⟩
      · rw [hV,hgx];exact (Bl.new _ 74 [_,_,_,_]).alloc _
      · have z:=Bl.new (u2.alloc (Obj.cells #[.slice (some ⟨gA,0,none⟩) n n,.bool (dN oS),.slice p1 (ws (dX oS)).length q1,.int .i64 (dE oS)] 74)) 74 [.slice (some ⟨gB,0,none⟩) n n,.bool (dN oT),.slice p2 (ws (dX oT)).length q2,.int .i64 (dE oT)];rw [dL] at z;rw [hV,UC];exact z
     have HGG:Aside (w.heap.size<=gx/\gA<gx/\gB<gx/\gx<gy):=by rw [hgx,UC];exact ⟨hb.size,hD1.lt,hD2.lt,af⟩
     have HV:=(aZ hV hgx UC);have AV:=(aJ xx Py);clear hV hgx UC hb hD1 hN1 hD2 ko HB xx Py hlen UA hf1 hf2 he
     go_upto_region 4 with fail
     rw [<-HV.o.1]
     try rw [<-HV.o.r2]
     rw [<-HV.o.2.1];clear HV;have s0:=B4.o.x.cell 0 _ rfl;have hz:=HZ.o;rw [if_pos HBO.o] at hz;have n6:n<=65536:=by have:=PF.o.2.1;have:=HX.o.1;omega
     by_cases h0:n=0
     · have hx0:xs=[]:=Be (by have:=HX.o.1;omega);rw [if_pos hx0] at hz;obtain ⟨rfl,rfl⟩:=fu hz;have hn0:((n:Int)==0)=true:=by simp [h0]
       clear hz HZ h0 hx0;go_wp2;exact aF (v:=.tuple #[.float .f64 0,.int .i64 3]) (by simp [results,Tryz.results21,go_sem]) rfl ⟨rfl,B4.o.b⟩
     · have hx0:xs≠[]:=fun e=>h0 (by rw [HX.o.1,e];rfl);rw [if_neg hx0] at hz;have hn0:((n:Int)==0)=false:=by simp [h0]
       have hn0':(n:Int)≠0:=af
       obtain ⟨A0,Ty⟩:=ah (gV 2148 (cS xs xs));obtain ⟨B0',Ik⟩:∃ o,o=gV 2148 (cS ys ys):=⟨_,rfl⟩;obtain ⟨C0,Tz⟩:=ah (gV 2148 (cS xs ys));have b1:=mR HX.o.r2.1 PF.o.r2.1 HX.o.r2.1 PF.o.r2.1 PF.o.2.1 rfl;have b2:=mR HX.o.r3.1 PF.o.r3 HX.o.r3.1 PF.o.r3 (by rw [<-PF.o.1];exact PF.o.2.1) rfl;have b3:=mR HX.o.r2.1 PF.o.r2.1 HX.o.r3.1 PF.o.r3 PF.o.2.1 PF.o.1;obtain ⟨q,hq⟩:=ah (cS xs xs*cS ys ys);have bq:Bd 8458 q:=by rw [hq];exact b1.mul b2
       have hq0:0<=q:=by rw [hq];exact Int.mul_nonneg (UG xs) (UG ys)
       obtain ⟨oQ,YG⟩:=ah (gV 4296 q);rw [<-hq] at hz;have FF:Aside (Fm A0/\Fm B0'/\Fm oQ/\Fm C0):=by rw [Ty,Ik,YG,Tz];exact ⟨dB au au b1,dB au au b2,dB au au bq,dB au au b3⟩
       have EE:Aside (dK A0 B0'=oQ):=by show _=_;rw [Ty,Ik,YG,hq];exact mH au au au au b1 b2
       have HSX:Hid (∀ u:World,nC w u n gx gy gA gB p1 p2 q1 q2 (fun i=>gV 1074 (fX xs i)) (fun i=>gV 1074 (fX ys i)) oS oT->Calls Tryz.prog 50 #[.agg #[.slice (some ⟨gA,0,none⟩) n n,.bool (dN oS),.slice p1 (ws (dX oS)).length q1,.int .i64 (dE oS)],.agg #[.slice (some ⟨gA,0,none⟩) n n,.bool (dN oS),.slice p1 (ws (dX oS)).length q1,.int .i64 (dE oS)]] u fun r w'=>bC 0 w' r A0/\Below u.heap.size u w'):=fun u hu=>by
        have hR:=hu.rx;have hS:=hu.rx;rw [AV.o.1] at hR hS |-;have:=mO (f:=fX xs) (g:=fX xs) (S:=sX xs) (T:=sX xs) n6 (HX.o.r4.belows hu.b) (fun i hi=>jo HX.o.r2.1 PF.o.r2.1 i (by have:=HX.o.1;have:=PF.o.1;omega)) (fun i hi=>jo HX.o.r2.1 PF.o.r2.1 i (by have:=HX.o.1;have:=PF.o.1;omega)) (jq HX.o.r2.1 PF.o.r2.1 (by have:=HX.o.1;have:=PF.o.1;omega) _ (aC _)) (jq HX.o.r2.1 PF.o.r2.1 (by have:=HX.o.1;have:=PF.o.1;omega) _ (aC _)) hR hS;rw [Ty];unfold cS;rw [show (xs).length=n by have:=HX.o.1;have:=PF.o.1;omega];exact this
       have Zi:Hid (∀ u:World,nC w u n gx gy gA gB p1 p2 q1 q2 (fun i=>gV 1074 (fX xs i)) (fun i=>gV 1074 (fX ys i)) oS oT->Calls Tryz.prog 50 #[.agg #[.slice (some ⟨gB,0,none⟩) n n,.bool (dN oT),.slice p2 (ws (dX oT)).length q2,.int .i64 (dE oT)],.agg #[.slice (some ⟨gB,0,none⟩) n n,.bool (dN oT),.slice p2 (ws (dX oT)).length q2,.int .i64 (dE oT)]] u fun r w'=>bC 0 w' r B0'/\Below u.heap.size u w'):=fun u hu=>by
        have hR:=hu.ry;have hS:=hu.ry;rw [AV.o.2] at hR hS |-;have:=mO (f:=fX ys) (g:=fX ys) (S:=sX ys) (T:=sX ys) n6 (HX.o.r4.belows hu.b) (fun i hi=>jo HX.o.r3.1 PF.o.r3 i (by have:=HX.o.1;have:=PF.o.1;omega)) (fun i hi=>jo HX.o.r3.1 PF.o.r3 i (by have:=HX.o.1;have:=PF.o.1;omega)) (jq HX.o.r3.1 PF.o.r3 (by have:=HX.o.1;have:=PF.o.1;omega) _ (aC _)) (jq HX.o.r3.1 PF.o.r3 (by have:=HX.o.1;have:=PF.o.1;omega) _ (aC _)) hR hS;rw [Ik];unfold cS;rw [show (ys).length=n by have:=HX.o.1;have:=PF.o.1;omega];exact this
       have HSXY:Hid (∀ u:World,nC w u n gx gy gA gB p1 p2 q1 q2 (fun i=>gV 1074 (fX xs i)) (fun i=>gV 1074 (fX ys i)) oS oT->Calls Tryz.prog 50 #[.agg #[.slice (some ⟨gA,0,none⟩) n n,.bool (dN oS),.slice p1 (ws (dX oS)).length q1,.int .i64 (dE oS)],.agg #[.slice (some ⟨gB,0,none⟩) n n,.bool (dN oT),.slice p2 (ws (dX oT)).length q2,.int .i64 (dE oT)]] u fun r w'=>bC 0 w' r C0/\Below u.heap.size u w'):=fun u hu=>by
        have hR:=hu.rx;have hS:=hu.ry;rw [AV.o.1] at hR |-;rw [AV.o.2] at hS |-;have:=mO (f:=fX xs) (g:=fX ys) (S:=sX xs) (T:=sX ys) n6 (HX.o.r4.belows hu.b) (fun i hi=>jo HX.o.r2.1 PF.o.r2.1 i (by have:=HX.o.1;have:=PF.o.1;omega)) (fun i hi=>jo HX.o.r3.1 PF.o.r3 i (by have:=HX.o.1;have:=PF.o.1;omega)) (jq HX.o.r2.1 PF.o.r2.1 (by have:=HX.o.1;have:=PF.o.1;omega) _ (aC _)) (jq HX.o.r3.1 PF.o.r3 (by have:=HX.o.1;have:=PF.o.1;omega) _ (aC _)) hR hS;rw [Tz];unfold cS;rw [show (xs).length=n by have:=HX.o.1;have:=PF.o.1;omega];exact this
       obtain ⟨s1,s2⟩:=UD (u:=4296) au au bq
       have HSg:Hid (∀ (u:World) (p:Option Addr) (k:Nat),Nt 0 u (.slice p (ws (dX oQ)).length k) (dX oQ)->Calls Tryz.prog 52 #[.agg #[.bool (dN oQ),.slice p (ws (dX oQ)).length k,.int .i64 (dE oQ)]] u fun r w'=>r=.returned (.int .i64 (q8 (dN oQ) (dX oQ)))/\Below u.heap.size u w'):=fun u p k hN=>by
        have:=sZ (FF.o.r2.1.a12 hN) (dN oQ) (dE oQ);rw [aj] at this;exact this
       rw [<-YG] at s1;obtain ⟨sg,hsg⟩:∃ s,q8 (dN oQ) (dX oQ)=s:=⟨_,rfl⟩;rw [hsg] at HSg s1
       have HBR:q≠0->Hid (∀ (u:World) (a b:Option Addr) (ca cb:Nat),dJ u->Nt 0 u (.slice a (ws (dX C0)).length ca) (dX C0)->Nt 0 u (.slice b (ws (dX oQ)).length cb) (dX oQ)->Calls Tryz.prog 53 #[.agg #[.bool (dN C0),.slice a (ws (dX C0)).length ca,.int .i64 (dE C0)],.agg #[.bool (dN oQ),.slice b (ws (dX oQ)).length cb,.int .i64 (dE oQ)],.int .i64 mode] u fun r w'=>r=.returned (.tuple #[.float .f64 X,.int .i64 E])/\Below u.heap.size u w'):=fun hqn u a b ca cb qi n1 n2=>by
        rw [if_neg hqn] at hz;rw [Tz] at n1 |-;rw [YG] at n2 |-;have:=PE mode HMD.o af b3 bq qi n1 n2;rw [hz] at this;exact this
       have HZ2:=ak hz;have Zj:=ak s1;have YH:=ak HBR;have HT:=ak HX.o.r4;have HG:Aside (w.heap.size<=gx/\gA<gx/\gB<gx/\gx<gy):=HGG.o;clear hz HZ Ty Ik Tz YG hq b1 b2 b3 bq hq0 s1 s2 hsg HBR h0 hx0 n6;go_wp2_with fail
       go_cut [11] from 31 to 37 (fun q wx=>∃ g11:Nat,q=.pointer (some ⟨g11,0,none⟩)/\Aside (Lo wx g11 oQ/\nC w wx n gx gy gA gB p1 p2 q1 q2 (fun i=>gV 1074 (fX xs i)) (fun i=>gV 1074 (fX ys i)) oS oT))
       case first =>
        have BD:=ak (B4.o.below (aD V.heap.size V).drew);have kS:=ak BD.o.cells;clear B4 s0;refine fI (fun w'=>w'.cell? ⟨gx,0,none⟩=some (.slice (some ⟨gA,0,none⟩) n n)/\w'.cell? ⟨gx,1,none⟩=some (.bool (dN oS))/\w'.cell? ⟨gx,2,none⟩=some (.slice p1 (ws (dX oS)).length q1)/\w'.cell? ⟨gx,3,none⟩=some (.int .i64 (dE oS))/\w'.cell? ⟨gy,0,none⟩=some (.slice (some ⟨gB,0,none⟩) n n)/\w'.cell? ⟨gy,1,none⟩=some (.bool (dN oT))/\w'.cell? ⟨gy,2,none⟩=some (.slice p2 (ws (dX oT)).length q2)/\w'.cell? ⟨gy,3,none⟩=some (.int .i64 (dE oT))) 8 dm ?_;obtain ⟨Wd,hWd⟩:=ah (V.drew);rw [<-hWd] at BD kS |-;clear hWd
        refine tk 0 [2,6] rfl kS.o ?_;try simp only [Act.put,sa,sb,sc]
        refine tk 1 [2,6] rfl kS.o ?_;try simp only [Act.put,sa,sb,sc]
        refine tk 3 [5,6] rfl kS.o ?_;try simp only [Act.put,sa,sb,sc]
        refine tk 4 [5,6] rfl kS.o ?_;try simp only [Act.put,sa,sb,sc]
        refine di (i:=2) (j:=7) dm rfl rfl (fun K' hK=>?_) (fun K' hK=>?_)
        · skip;have C:=hid (HSX.o Wd BD.o);go_simp;refine C.o.mono ?_;rintro r u1 ⟨hd,hb⟩;obtain ⟨a1,c1,rfl,hN⟩:=hd.aG;have BD:=aJ (BD.o.below hb) hN;have kS:=ak (ck hb kS.o fun h=>jr hb h);clear hb hd hN C;dsimp only;refine hK.out _ _ (fun _=>kS.o) ?_;clear hK K'
          try simp only [Act.put,sa,sb,sc]
          refine di (i:=5) (j:=7) dm rfl rfl (fun K' hK=>?_) (fun K' hK=>?_)
          · skip;have C:=hid (Zi.o u1 BD.o.1);go_simp;refine C.o.mono ?_;rintro r u2 ⟨hd,hb⟩;obtain ⟨a2,c2,rfl,hN⟩:=hd.aG;have BD:=aZ (BD.o.1.below hb) (BD.o.2.below hb) hN;have kS:=ak (ck hb kS.o fun h=>jr hb h);clear hb hd hN C;dsimp only;refine hK.out _ _ (fun _=>kS.o) ?_;clear hK K'
            try simp only [Act.put,sa,sb,sc]
            refine di (i:=6) (j:=7) dm rfl rfl (fun K' hK=>?_) (fun K' hK=>?_)
            · skip;have C:=hid (gL FF.o.1 FF.o.2.1 FF.o.r2.1 BD.o.2.1 BD.o.r2 (HT.o.belows BD.o.1.b) EE.o);go_simp;refine C.o.mono ?_;rintro r u3 ⟨hd,hb⟩;obtain ⟨a3,c3,rfl,hN⟩:=hd.aG;have BD:=gK (BD.o.1.below hb) (BD.o.2.1.below hb) (BD.o.r2.below hb) hN;have kS:=ak (ck hb kS.o fun h=>jr hb h);clear hb hd hN C;dsimp only;refine hK.out _ _ (fun _=>kS.o) ?_;clear hK K'
              try simp only [Act.put,sa,sb,sc]
              refine aA (i:=7) dm rfl (fun K' hK=>?_);go_simp;obtain ⟨g4,hg4⟩:=ah (u3.heap.size);obtain ⟨V4,Ay⟩:=ah (u3.alloc (Obj.cells #[.bool false,.slice none 0 0,.int .i64 0] 25));have hb:Below u3.heap.size u3 V4:=by rw [Ay];exact ae _ _
              have hZ:Lo V4 g4 iX:=by rw [Ay,hg4];exact Lo.zero _
              have BD:=l7 (BD.o.1.below hb) (BD.o.2.1.below hb) (BD.o.r2.1.below hb) (BD.o.r3.below hb) hZ (show gx<g4 by rw [hg4];exact BD.o.1.x.lt) (show gy<g4 by rw [hg4];exact BD.o.1.y.lt);have kS:=ak (ck hb kS.o fun h=>jr hb h);have HV:=(aJ Ay hg4);clear hZ hb Ay hg4;refine hK.out _ _ (fun _=>by rw [<-HV.o.1];exact kS.o) ?_;clear hK K';rw [<-HV.o.1,<-HV.o.2];clear HV
              try simp only [Act.put,sa,sb,sc]
              obtain ⟨zp,zq,DZ,MZ⟩:=BD.o.r4.1;obtain ⟨z0,z1,z2,eF,eG,eO⟩:=DZ.facts;clear DZ MZ;refine aA (i:=8) dm rfl (fun K' hK=>?_);go_simp;refine hK.out _ _ (fun h=>absurd h au) ?_;clear hK K' z0 z1 z2 eF eG eO kS;refine aQ dm ?_ _;go_wp2_with fail
              go_meet
              case rel=>exact ⟨g4,rfl,BD.o.r4.1.set BD.o.r3.1,BD.o.1.other BD.o.r4.1 (gZ BD.o.r5.1) (gZ BD.o.r6) HG.o _ _ _ (by have:=HG.o;have:=BD.o.r5.1;omega) (by have:=HG.o;have:=BD.o.r5.1;omega) (by have:=HG.o;have:=BD.o.r5.1;omega)⟩
            · skip;go_simp;obtain ⟨g5,hg5⟩:=ah (u2.heap.size);obtain ⟨V5,Ig⟩:=ah (u2.alloc (Obj.cells #[.bool false,.slice none 0 0,.int .i64 0] 25));have hb:Below u2.heap.size u2 V5:=by rw [Ig];exact ae _ _
              have hZ:Lo V5 g5 iX:=by rw [Ig,hg5];exact Lo.zero _
              have BD:=iI (BD.o.1.below hb) (BD.o.2.1.below hb) (BD.o.r2.below hb) hZ (show gx<g5 by rw [hg5];exact BD.o.1.x.lt) (show gy<g5 by rw [hg5];exact BD.o.1.y.lt);have kS:=ak (ck hb kS.o fun h=>jr hb h);have HV:=(aJ Ig hg5);clear hZ hb Ig hg5;refine hK.out _ _ (fun _=>by rw [<-HV.o.1];exact kS.o) ?_;clear hK K';rw [<-HV.o.1,<-HV.o.2];clear HV
              try simp only [Act.put,sa,sb,sc]
              refine aA (i:=6) dm rfl (fun K' hK=>?_);have C:=hid (gL FF.o.1 FF.o.2.1 FF.o.r2.1 BD.o.2.1 BD.o.r2.1 (HT.o.belows BD.o.1.b) EE.o);go_simp;refine C.o.mono ?_;rintro r u6 ⟨hd,hb⟩;obtain ⟨a6,c6,rfl,hN⟩:=hd.aG;have BD:=l7 (BD.o.1.below hb) (BD.o.2.1.below hb) (BD.o.r2.1.below hb) (BD.o.r3.1.below hb) BD.o.r4.1 BD.o.r5 hN;have kS:=ak (ck hb kS.o fun h=>jr hb h);clear hb hd hN C;dsimp only;refine hK.out _ _ (fun _=>kS.o) ?_;clear hK K'
              try simp only [Act.put,sa,sb,sc]
              obtain ⟨zp,zq,DZ,MZ⟩:=BD.o.r3.1;obtain ⟨z0,z1,z2,eF,eG,eO⟩:=DZ.facts;clear DZ MZ;refine aA (i:=8) dm rfl (fun K' hK=>?_);go_simp;refine hK.out _ _ (fun h=>absurd h au) ?_;clear hK K' z0 z1 z2 eF eG eO kS;refine aQ dm ?_ _;go_wp2_with fail
              go_meet
              case rel=>exact ⟨g5,rfl,BD.o.r3.1.set BD.o.r6,BD.o.1.other BD.o.r3.1 (gZ BD.o.r4.1) (gZ BD.o.r5.1) HG.o _ _ _ (by have:=HG.o;have:=BD.o.r4.1;omega) (by have:=HG.o;have:=BD.o.r4.1;omega) (by have:=HG.o;have:=BD.o.r4.1;omega)⟩
          · skip;go_simp;obtain ⟨g7,qz⟩:=ah (u1.heap.size);obtain ⟨V7,Ih⟩:=ah (u1.alloc (Obj.cells #[.bool false,.slice none 0 0,.int .i64 0] 25));have hb:Below u1.heap.size u1 V7:=by rw [Ih];exact ae _ _
            have hZ:Lo V7 g7 iX:=by rw [Ih,qz];exact Lo.zero _
            have BD:=eu (BD.o.1.below hb) (BD.o.2.below hb) hZ (show gx<g7 by rw [qz];exact BD.o.1.x.lt) (show gy<g7 by rw [qz];exact BD.o.1.y.lt);have kS:=ak (ck hb kS.o fun h=>jr hb h);have HV:=(aJ Ih qz);clear hZ hb Ih qz;refine hK.out _ _ (fun _=>by rw [<-HV.o.1];exact kS.o) ?_;clear hK K';rw [<-HV.o.1,<-HV.o.2];clear HV
            try simp only [Act.put,sa,sb,sc]
            refine aA (i:=5) dm rfl (fun K' hK=>?_);have C:=hid (Zi.o V7 BD.o.1);go_simp;refine C.o.mono ?_;rintro r u8 ⟨hd,hb⟩;obtain ⟨a8,c8,rfl,hN⟩:=hd.aG;have BD:=iI (BD.o.1.below hb) (BD.o.2.1.below hb) (BD.o.r2.1.below hb) BD.o.r3.1 BD.o.r4 hN;have kS:=ak (ck hb kS.o fun h=>jr hb h);clear hb hd hN C;dsimp only;refine hK.out _ _ (fun _=>kS.o) ?_;clear hK K'
            try simp only [Act.put,sa,sb,sc]
            refine aA (i:=6) dm rfl (fun K' hK=>?_);have C:=hid (gL FF.o.1 FF.o.2.1 FF.o.r2.1 BD.o.2.1 BD.o.r5 (HT.o.belows BD.o.1.b) EE.o);go_simp;refine C.o.mono ?_;rintro r u9 ⟨hd,hb⟩;obtain ⟨a9,c9,rfl,hN⟩:=hd.aG;have BD:=l7 (BD.o.1.below hb) (BD.o.2.1.below hb) (BD.o.r2.1.below hb) BD.o.r3.1 BD.o.r4.1 (BD.o.r5.below hb) hN;have kS:=ak (ck hb kS.o fun h=>jr hb h);clear hb hd hN C;dsimp only;refine hK.out _ _ (fun _=>kS.o) ?_;clear hK K'
            try simp only [Act.put,sa,sb,sc]
            obtain ⟨zp,zq,DZ,MZ⟩:=BD.o.r2.1;obtain ⟨z0,z1,z2,eF,eG,eO⟩:=DZ.facts;clear DZ MZ;refine aA (i:=8) dm rfl (fun K' hK=>?_);go_simp;refine hK.out _ _ (fun h=>absurd h au) ?_;clear hK K' z0 z1 z2 eF eG eO kS;refine aQ dm ?_ _;go_wp2_with fail
            go_meet
            case rel=>exact ⟨g7,rfl,BD.o.r2.1.set BD.o.r6,BD.o.1.other BD.o.r2.1 (gZ BD.o.r3.1) (gZ BD.o.r4.1) HG.o _ _ _ (by have:=HG.o;have:=BD.o.r3.1;omega) (by have:=HG.o;have:=BD.o.r3.1;omega) (by have:=HG.o;have:=BD.o.r3.1;omega)⟩
        · skip;go_simp;obtain ⟨g10,lZ⟩:=ah (Wd.heap.size);obtain ⟨Pj,rP⟩:=ah (Wd.alloc (Obj.cells #[.bool false,.slice none 0 0,.int .i64 0] 25));have hb:Below Wd.heap.size Wd Pj:=by rw [rP];exact ae _ _
          have hZ:Lo Pj g10 iX:=by rw [rP,lZ];exact Lo.zero _
          have BD:=gK (BD.o.below hb) hZ (show gx<g10 by rw [lZ];exact BD.o.x.lt) (show gy<g10 by rw [lZ];exact BD.o.y.lt);have kS:=ak (ck hb kS.o fun h=>jr hb h);have HV:=(aJ rP lZ);clear hZ hb rP lZ;refine hK.out _ _ (fun _=>by rw [<-HV.o.1];exact kS.o) ?_;clear hK K';rw [<-HV.o.1,<-HV.o.2];clear HV
          try simp only [Act.put,sa,sb,sc]
          refine aA (i:=2) dm rfl (fun K' hK=>?_);have C:=hid (HSX.o Pj BD.o.1);go_simp;refine C.o.mono ?_;rintro r KS ⟨hd,hb⟩;obtain ⟨WC,c11,rfl,hN⟩:=hd.aG;have BD:=eu (BD.o.1.below hb) (BD.o.2.1.below hb) BD.o.r2.1 BD.o.r3 hN;have kS:=ak (ck hb kS.o fun h=>jr hb h);clear hb hd hN C;dsimp only;refine hK.out _ _ (fun _=>kS.o) ?_;clear hK K'
          try simp only [Act.put,sa,sb,sc]
          refine aA (i:=5) dm rfl (fun K' hK=>?_);have C:=hid (Zi.o KS BD.o.1);go_simp;refine C.o.mono ?_;rintro r u12 ⟨hd,hb⟩;obtain ⟨a12,c12,rfl,hN⟩:=hd.aG;have BD:=iI (BD.o.1.below hb) (BD.o.2.1.below hb) BD.o.r2.1 BD.o.r3.1 (BD.o.r4.below hb) hN;have kS:=ak (ck hb kS.o fun h=>jr hb h);clear hb hd hN C;dsimp only;refine hK.out _ _ (fun _=>kS.o) ?_;clear hK K'
          try simp only [Act.put,sa,sb,sc]
          refine aA (i:=6) dm rfl (fun K' hK=>?_);have C:=hid (gL FF.o.1 FF.o.2.1 FF.o.r2.1 BD.o.r4.1 BD.o.r5 (HT.o.belows BD.o.1.b) EE.o);go_simp;refine C.o.mono ?_;rintro r Pm ⟨hd,hb⟩;obtain ⟨a13,c13,rfl,hN⟩:=hd.aG;have BD:=l7 (BD.o.1.below hb) (BD.o.2.1.below hb) BD.o.r2.1 BD.o.r3.1 (BD.o.r4.1.below hb) (BD.o.r5.below hb) hN;have kS:=ak (ck hb kS.o fun h=>jr hb h);clear hb hd hN C;dsimp only;refine hK.out _ _ (fun _=>kS.o) ?_;clear hK K'
          try simp only [Act.put,sa,sb,sc]
          obtain ⟨zp,zq,DZ,MZ⟩:=BD.o.2.1;obtain ⟨z0,z1,z2,eF,eG,eO⟩:=DZ.facts;clear DZ MZ;refine aA (i:=8) dm rfl (fun K' hK=>?_);go_simp;refine hK.out _ _ (fun h=>absurd h au) ?_;clear hK K' z0 z1 z2 eF eG eO kS;refine aQ dm ?_ _;go_wp2_with fail
          go_meet
          case rel=>exact ⟨g10,rfl,BD.o.2.1.set BD.o.r6,BD.o.1.other BD.o.2.1 (gZ BD.o.r2.1) (gZ BD.o.r3.1) HG.o _ _ _ (by have:=HG.o;have:=BD.o.r2.1;omega) (by have:=HG.o;have:=BD.o.r2.1;omega) (by have:=HG.o;have:=BD.o.r2.1;omega)⟩
       obtain ⟨g11,rfl,K1⟩:=hcut;obtain ⟨U,hU⟩:=ah wc;rw [<-hU] at K1 |-;clear hU B4 s0 HSX Zi;obtain ⟨pq,cq,DQ,MQ⟩:=K1.o.1;obtain ⟨x0,x1,x2,bE,bF,bG⟩:=DQ.facts;have C:=hid (HSg.o U pq cq MQ);clear DQ MQ;go_wp2_with fail;refine C.o.mono ?_;rintro r v ⟨rfl,hb⟩;have K2:=aJ (K1.o.1.below hb) (K1.o.2.below hb);clear hb C x0 x1 x2 bE bF bG K1 HSg
       by_cases hq:q=0
       · have hz:=HZ2.o;rw [if_pos hq] at hz;obtain ⟨rfl,rfl⟩:=fu hz;have e0:(sg==0)=true:=by rw [Zj.o];exact decide_eq_true hq
         have e1:sg=0:=by simpa using e0
         subst e1;clear hz HZ2 Zj e0;go_wp2;exact aF (v:=.tuple #[.float .f64 0,.int .i64 190]) (by simp [results,Tryz.results21,go_sem]) rfl ⟨rfl,K2.o.2.b⟩
       · have e0:(sg==0)=false:=by rw [Zj.o];exact decide_eq_false hq
         have HBr:=YH.o hq;have BD:=aJ (K2.o.1.below (aD v.heap.size v).drew) (K2.o.2.below (aD v.heap.size v).drew);obtain ⟨pq,cq,DQ,MQ⟩:=BD.o.1;have kS:=gK DQ.facts.1 DQ.facts.2.1 DQ.facts.2.2.1 BD.o.2.cells;have BD:=aJ BD.o.2 MQ;have C1:=hid (HSXY.o v.drew BD.o.1);clear K2 HZ2 Zj YH hq DQ MQ;go_wp2_with fail
         go_region_held3 (fun w'=>w'.cell? ⟨g11,0,none⟩=some (.bool (dN oQ))/\w'.cell? ⟨g11,1,none⟩=some (.slice pq (ws (dX oQ)).length cq)/\w'.cell? ⟨g11,2,none⟩=some (.int .i64 (dE oQ))/\w'.cell? ⟨gx,0,none⟩=some (.slice (some ⟨gA,0,none⟩) n n)/\w'.cell? ⟨gx,1,none⟩=some (.bool (dN oS))/\w'.cell? ⟨gx,2,none⟩=some (.slice p1 (ws (dX oS)).length q1)/\w'.cell? ⟨gx,3,none⟩=some (.int .i64 (dE oS))/\w'.cell? ⟨gy,0,none⟩=some (.slice (some ⟨gB,0,none⟩) n n)/\w'.cell? ⟨gy,1,none⟩=some (.bool (dN oT))/\w'.cell? ⟨gy,2,none⟩=some (.slice p2 (ws (dX oT)).length q2)/\w'.cell? ⟨gy,3,none⟩=some (.int .i64 (dE oT))) (with_reducible exact kS.o) (first
          | (go_at_call 50
             with_reducible refine C1.o.mono ?_
             rintro r u3 ⟨hd,hb⟩;obtain ⟨a3,c3,rfl,dF⟩:=hd.aG;have BE:=aZ (BD.o.1.below hb) (BD.o.2.below hb) dF;have kS:=ak (ck hb kS.o fun h=>ck hb h fun h=>vG hb h);have C2:=hid (HBr.o u3 a3 pq c3 cq (HT.o.belows BE.o.1.b) BE.o.r2 BE.o.2.1)
             clear hb hd dF C1)
          | (go_at_call 53
             with_reducible refine C2.o.mono ?_
             rintro r u5 ⟨rfl,hb⟩;have BF:=ak (BE.o.1.below hb);have kS:=ak (ck hb kS.o fun h=>ck hb h fun h=>vG hb h)
             clear hb C2))
         go_wp2;exact aF (v:=.tuple #[.float .f64 X,.int .i64 E]) (by simp [results,Tryz.results21,go_sem]) rfl ⟨rfl,BF.o.b⟩
theorem YI {u v k:Nat}{V D:Int}(hu:u<=100000) (hv:v<=100000) (hk:k<=90000) (hV:V≠0) (hD:0<D) (bV:Bd k V) (bD:Bd k D) :
 ∃ K t m,(∀ j,j=1074->ig vK 9218868437227405312 1 K t m (V.natAbs*2^(j+v)) (D.natAbs*2^u))/\∀ mode:Int,0<=mode->mode<=4->pF (gV u V) (gV v D) mode=(rK mode (decide (V<0)) K t m+(if V<0 then 9223372036854775808 else 0),0):=by
 obtain ⟨Y,f,ho2,hY,hf0,hf1,hv2,zD,F2⟩:=o8 (u:=v) (V:=D) hv af hk bD;rw [decide_eq_false af] at ho2 F2;obtain ⟨X,e,ho,hX,he0,he1,hvv,hbl,F⟩:=o8 (u:=u) (V:=V) hu hV hk bV;have hm1:mkS (decide (V<0)) X e=some (decide (V<0),X,e):=kX F;have hm2:mkS false Y f=some (false,Y,f):=kX F2;obtain ⟨K,t,m,hL,hR⟩:=Ui (decide (V<0)) X e Y f hX af hbl zD;refine ⟨K,t,m,fun j hj=>?_,fun mode hm0 o9=>?_⟩
 · refine hL.AJ (ik af (bu _)) ?_;unfold iR gX;rw [<-hvv,<-hv2]
   have e1:X*2^(e-f+((1*1074:Nat):Int)).toNat*(Y*2^(f+(v:Int)).toNat*2^u)=X*Y*(2^((e-f+((1*1074:Nat):Int)).toNat+((f+(v:Int)).toNat+u))):=by
    rw [aL,aL,aN Y,nS]
   have e2:X*2^(e+(u:Int)).toNat*2^(j+v)*(Y*2^(-(e-f+((1*1074:Nat):Int))).toNat)=X*Y*(2^((e+(u:Int)).toNat+(j+v)+(-(e-f+((1*1074:Nat):Int))).toNat)):=by
    rw [aL _ (_+_),aL _ (e+(u:Int)).toNat,aN X,nS]
   rw [e1,e2];congr 2;omega
 · unfold pF;rw [ho,ho2];show ru gW ⟨decide (V<0),.bool false,X,e,false,.bool false,Y,f⟩ mode=_;unfold ru;rw [if_neg af,if_pos (by rw [ou];show ll X (decide (V<0)) e Y false f=0;unfold ll;rw [if_neg (by unfold q8;simp;split <;> omega),hm1,hm2];simp [dX];omega),hm1,hm2];have:=hR mode hm0 o9;simp only [decide_eq_true_eq] at this;exact this
theorem Wm {u v k:Nat}{V D:Int}(hu:u<=100000) (hv:v<=100000) (hk:k<=90000) (hV:0<V) (hD:0<D) (bV:Bd k V) (bD:Bd k D) :
 ∃ K t m,(∀ j,j=2148->ig vK 9218868437227405312 2 K t m (V.natAbs*2^(j+v)) (D.natAbs*2^u))/\∀ mode:Int,0<=mode->mode<=4->nA (gV u V) (gV v D) mode=(rK mode false K t m,0):=by
 obtain ⟨Y,f,ho2,hY,hf0,hf1,hv2,zD,F2⟩:=o8 (u:=v) (V:=D) hv af hk bD;rw [decide_eq_false af] at ho2 F2;obtain ⟨X,e,ho,hX,he0,he1,hvv,hbl,F⟩:=o8 (u:=u) (V:=V) hu af hk bV;rw [decide_eq_false af] at ho F;have hm1:mkS false X e=some (false,X,e):=kX F;have hm2:mkS false Y f=some (false,Y,f):=kX F2;obtain ⟨K,t,m,hL,hR⟩:=Uj X e Y f hX af hbl zD;refine ⟨K,t,m,fun j hj=>?_,fun mode hm0 o9=>?_⟩
 · refine hL.AJ (ik af (bu _)) ?_;unfold iR gX;rw [<-hvv,<-hv2]
   have e1:X*2^(e-f+((2*1074:Nat):Int)).toNat*(Y*2^(f+(v:Int)).toNat*2^u)=X*Y*(2^((e-f+((2*1074:Nat):Int)).toNat+((f+(v:Int)).toNat+u))):=by
    rw [aL,aL,aN Y,nS]
   have e2:X*2^(e+(u:Int)).toNat*2^(j+v)*(Y*2^(-(e-f+((2*1074:Nat):Int))).toNat)=X*Y*(2^((e+(u:Int)).toNat+(j+v)+(-(e-f+((2*1074:Nat):Int))).toNat)):=by
    rw [aL _ (_+_),aL _ (e+(u:Int)).toNat,aN X,nS]
   rw [e1,e2];congr 2;omega
 · unfold nA;rw [ho,ho2];show uM gW ⟨false,.bool false,X,e,false,.bool false,Y,f⟩ mode=_;unfold uM;rw [if_neg af,if_pos (by rw [ou];show ll X false e Y false f=0;unfold ll;rw [if_neg (by unfold q8;simp;split <;> omega),hm1,hm2];simp [dX];omega),hm1,hm2];show (if false=true then ((0,110):Nat×Int) else gW (uL X e Y f) mode)=_;rw [if_neg au];exact hR mode hm0 o9
def TA (n K:Nat) (t:Bool) (m:Int) (V S:Nat):Bool :=
 decide (K<9218868437227405312)&&decide (0<S) &&
 (if t then decide (V=vK K^n*S) else decide (vK K^n*S<V) &&
  ((decide (V<vK (K+1)^n*S)&&((m==-1&&decide (2^n*V<(vK K+vK (K+1))^n*S)) || (m==0&&decide (2^n*V=(vK K+vK (K+1))^n*S)) || (m==1&&decide ((vK K+vK (K+1))^n*S<2^n*V)))) || (decide (¬ V<vK (K+1)^n*S)&&(decide (K+1=9218868437227405312)&&m==1))))
theorem Dx {n K:Nat}{t:Bool}{m:Int}{V S:Nat}(h:TA n K t m V S=true):ig vK 9218868437227405312 n K t m V S:=by
 unfold TA at h;simp only [nT,decide_eq_true_eq] at h;obtain ⟨⟨h1,h2⟩,h3⟩:=h
 cases t with
 | true =>
   simp only [if_true,decide_eq_true_eq] at h3;exact ⟨h1,h2,fun _=>h3,fun q=>(by cases q),fun q=>(by cases q),fun q=>(by cases q)⟩
 | false =>
   simp only [fq,if_false,nT,Bool.or_eq_true,decide_eq_true_eq,beq_iff_eq] at h3;refine ⟨h1,h2,fun q=>(by cases q),fun _=>h3.1,fun _ hv=>?_,fun _=>?_⟩
   · rcases h3.2 with ⟨_,(q | q) | q⟩ | ⟨q,_⟩
     · exact .inl q
     · exact .inr (.inl q)
     · exact .inr (.inr q)
     · exact absurd hv q
   · rcases h3.2 with ⟨q,_⟩ | ⟨_,q⟩
     · exact .inl q
     · exact .inr q
theorem ig.PH {n K K':Nat}{t t':Bool}{m m':Int}{V S:Nat}(hn:n≠0) (h:ig vK 9218868437227405312 n K t m V S) (h':ig vK 9218868437227405312 n K' t' m' V S):K=K'/\t=t'/\(t=false->m=m'):=by
 have a1:vK K^n*S<=V:=by
  cases t with
  | true=>have:=h.one rfl;omega
  | false=>have:=h.low rfl;omega
 have a2:K+1=9218868437227405312\/V<vK (K+1)^n*S:=by
  cases t with
  | true =>
    have:=h.one rfl;have:=fD (Nat.pow_lt_pow_left (qy.mono (show K<K+1 by omega)) hn) h.pos;omega
  | false =>
    rcases h.high rfl with q|q
    · exact .inr q
    · omega
 obtain ⟨e1,e2,e3⟩:=ig.doc qy (Nat.pos_of_ne_zero hn) h' K h.fin a1 a2;obtain ⟨_,f2,f3⟩:=ig.doc qy (Nat.pos_of_ne_zero hn) h K h.fin a1 a2;subst e1;rw [<-f2] at e2;refine ⟨rfl,e2.symm,fun ht=>?_⟩;rw [f3 ht,e3 (by rw [e2];exact ht)]
theorem yZ {mode:Int}{n:Bool}{K K':Nat}{t t':Bool}{m m':Int}(h:K=K'/\t=t'/\(t=false->m=m')):rK mode n K t m=rK mode n K' t' m':=by
 obtain ⟨rfl,rfl,h⟩:=h
 cases t with
 | true=>rfl
 | false=>rw [h rfl]
theorem PI {u v k:Nat}{V D:Int}(hu:u<=100000) (hv:v<=100000) (hk:k<=90000) (hD:decide (0<D)=true) (bV:Bd k V) (bD:Bd k D) (mode:Int) (hm:decide (0<=mode/\mode<=4)=true) (K:Nat) (t:Bool) (m:Int) (ng:Bool) (hV:(decide (V≠0)&&(decide (V<0)==ng))=true) (hc:TA 1 K t m (V.natAbs*2^(1074+v)) (D.natAbs*2^u)=true) :
 pF (gV u V) (gV v D) mode=(rK mode ng K t m+(if ng then 9223372036854775808 else 0),0):=by
 have hD:=of_decide_eq_true hD;have hm:=of_decide_eq_true hm;rw [nT,beq_iff_eq] at hV;obtain ⟨K',t',m',hL,hR⟩:=YI hu hv hk (of_decide_eq_true hV.1) hD bV bD;rw [hR mode hm.1 hm.2,yZ ((hL 1074 rfl).PH au (Dx hc)),<-hV.2];simp only [decide_eq_true_eq]
theorem s_at {u v k:Nat}{V D:Int}(hu:u<=100000) (hv:v<=100000) (hk:k<=90000) (hD:decide (0<D)=true) (hV:decide (0<V)=true) (bV:Bd k V) (bD:Bd k D) (mode:Int) (hm:decide (0<=mode/\mode<=4)=true) (K:Nat) (t:Bool) (m:Int) (hc:TA 2 K t m (V.natAbs*2^(2148+v)) (D.natAbs*2^u)=true) :
 nA (gV u V) (gV v D) mode=(rK mode false K t m,0):=by
 have hD:=of_decide_eq_true hD;have hV:=of_decide_eq_true hV;have hm:=of_decide_eq_true hm;obtain ⟨K',t',m',hL,hR⟩:=Wm hu hv hk hV hD bV bD;rw [hR mode hm.1 hm.2,yZ ((hL 2148 rfl).PH au (Dx hc))]
theorem gm {xs:List Nat}(h:xs.all (fun x=>decide (x<18446744073709551616))=true):nN xs:=fun x hx=>of_decide_eq_true (zu.1 h x hx)
theorem cVa:pG pF [4607182418800017408,4611686018427387904,4613937818241073152,4616189618054758400] 0 0 0 0=(rK 0 false 4608308318706860032 true (0),0):=by
 have e1:(pE 0&&lsB 0)=true:=au
 have e2:Ps.fG 0 0 [4607182418800017408,4611686018427387904,4613937818241073152,4616189618054758400]=0:=by decide +kernel
 have e3:PZ 0 0 [4607182418800017408,4611686018427387904,4613937818241073152,4616189618054758400]=false:=by decide +kernel
 have e4:Ps.fin [4607182418800017408,4611686018427387904,4613937818241073152,4616189618054758400]=[4607182418800017408,4611686018427387904,4613937818241073152,4616189618054758400]:=by decide +kernel
 have w:nN [4607182418800017408,4611686018427387904,4613937818241073152,4616189618054758400]:=gm au;have f:∀ x ∈ [4607182418800017408,4611686018427387904,4613937818241073152,4616189618054758400],iY x:=(iK _).1 (by decide +kernel);unfold pG;rw [e1,if_pos rfl,e2,if_pos rfl,e3,if_neg au,e4,if_neg au];exact (PI (k:=4229) au au au au (mR w f w f au rfl) ((xw au au au).mono au) 0 au 4608308318706860032 true (0) false (by decide +kernel) (by decide +kernel)).trans (by rfl)
theorem cVb:pG pF [4607182418800017408,4611686018427387904,4613937818241073152,4616189618054758400] 1 0 0 0=(rK 0 false 4610184818551597738 false (1),0):=by
 have e1:(pE 0&&lsB 1)=true:=au
 have e2:Ps.fG 0 0 [4607182418800017408,4611686018427387904,4613937818241073152,4616189618054758400]=0:=by decide +kernel
 have e3:PZ 0 0 [4607182418800017408,4611686018427387904,4613937818241073152,4616189618054758400]=false:=by decide +kernel
 have e4:Ps.fin [4607182418800017408,4611686018427387904,4613937818241073152,4616189618054758400]=[4607182418800017408,4611686018427387904,4613937818241073152,4616189618054758400]:=by decide +kernel
 have w:nN [4607182418800017408,4611686018427387904,4613937818241073152,4616189618054758400]:=gm au;have f:∀ x ∈ [4607182418800017408,4611686018427387904,4613937818241073152,4616189618054758400],iY x:=(iK _).1 (by decide +kernel);unfold pG;rw [e1,if_pos rfl,e2,if_pos rfl,e3,if_neg au,e4,if_neg au];exact (PI (k:=4229) au au au au (mR w f w f au rfl) ((xw au au au).mono au) 0 au 4610184818551597738 false (1) false (by decide +kernel) (by decide +kernel)).trans (by rfl)
theorem cSc:pG nA [4607182418800017408,4611686018427387904,4613937818241073152,4616189618054758400] 1 0 0 0=(rK 0 false 4608492941290910865 false (-1),0):=by
 have e1:(pE 0&&lsB 1)=true:=au
 have e2:Ps.fG 0 0 [4607182418800017408,4611686018427387904,4613937818241073152,4616189618054758400]=0:=by decide +kernel
 have e3:PZ 0 0 [4607182418800017408,4611686018427387904,4613937818241073152,4616189618054758400]=false:=by decide +kernel
 have e4:Ps.fin [4607182418800017408,4611686018427387904,4613937818241073152,4616189618054758400]=[4607182418800017408,4611686018427387904,4613937818241073152,4616189618054758400]:=by decide +kernel
 have w:nN [4607182418800017408,4611686018427387904,4613937818241073152,4616189618054758400]:=gm au;have f:∀ x ∈ [4607182418800017408,4611686018427387904,4613937818241073152,4616189618054758400],iY x:=(iK _).1 (by decide +kernel);unfold pG;rw [e1,if_pos rfl,e2,if_pos rfl,e3,if_neg au,e4,if_neg au];exact s_at (k:=4229) au au au au (by decide +kernel) (mR w f w f au rfl) ((xw au au au).mono au) 0 au 4608492941290910865 false (-1) (by decide +kernel)
theorem Wn:pG pF [4617315517961601024] 1 0 0 0=(0,3):=by
 have e2:Ps.fG 0 0 [4617315517961601024]=0:=by decide +kernel
 have e3:PZ 0 0 [4617315517961601024]=false:=by decide +kernel
 have e4:Ps.fin [4617315517961601024]=[4617315517961601024]:=by decide +kernel
 unfold pG;rw [if_pos au,e2,if_pos rfl,e3,if_neg au,e4,if_pos au]
theorem YJ:pG pF [4617315517961601024] 2 0 0 0=(0,1):=by
 unfold pG;rw [if_neg au]
theorem cCen:Tj [4607182418800017408,4611686018427387904,4618441417868443648] 3 0=(rK 0 false 4618441417868443648 true (0),0):=by
 have e2:rA [4607182418800017408,4611686018427387904,4618441417868443648]=0:=by decide +kernel
 have w:nN [4607182418800017408,4611686018427387904,4618441417868443648]:=gm au;have f:∀ x ∈ [4607182418800017408,4611686018427387904,4618441417868443648],iY x:=(iK _).1 (by decide +kernel);unfold Tj;rw [if_pos au,e2,if_pos rfl,if_neg au];exact (PI (u:=1074*3) (k:=20016) au au au au (Ij w f au 3 au au) (Bd.mono (m:=64) ((Bd.nat (k:=16) (n:=3) au).pow 4) au) 0 au 4618441417868443648 true (0) false (by decide +kernel) (by decide +kernel)).trans (by rfl)
theorem cCo:Zh [4607182418800017408,4611686018427387904,4613937818241073152] [4611686018427387904,4616189618054758400,4619567317775286272] 1 0=(rK 0 false 4612811918334230528 true (0),0):=by
 have e2:xV [4607182418800017408,4611686018427387904,4613937818241073152] [4611686018427387904,4616189618054758400,4619567317775286272]=0:=by decide +kernel
 have w:nN [4607182418800017408,4611686018427387904,4613937818241073152]:=gm au;have f:∀ x ∈ [4607182418800017408,4611686018427387904,4613937818241073152],iY x:=(iK _).1 (by decide +kernel);have w2:nN [4611686018427387904,4616189618054758400,4619567317775286272]:=gm au;have f2:∀ x ∈ [4611686018427387904,4616189618054758400,4619567317775286272],iY x:=(iK _).1 (by decide +kernel);unfold Zh;rw [if_pos au,e2,if_pos rfl,if_neg au];exact (PI (k:=4229) au au au au (mR w f w2 f2 au rfl) ((xw (n:=3) au au au).mono au) 0 au 4612811918334230528 true (0) false (by decide +kernel) (by decide +kernel)).trans (by rfl)
theorem cLi:WA [4607182418800017408,4611686018427387904,4613937818241073152] [4613937818241073152,4611686018427387904,4607182418800017408] 2=(uq (rK 3 false 4607182418800017408 true (0)),0):=by
 have e2:xV [4607182418800017408,4611686018427387904,4613937818241073152] [4613937818241073152,4611686018427387904,4607182418800017408]=0:=by decide +kernel
 have w:nN [4607182418800017408,4611686018427387904,4613937818241073152]:=gm au;have f:∀ x ∈ [4607182418800017408,4611686018427387904,4613937818241073152],iY x:=(iK _).1 (by decide +kernel);have w2:nN [4613937818241073152,4611686018427387904,4607182418800017408]:=gm au;have f2:∀ x ∈ [4613937818241073152,4611686018427387904,4607182418800017408],iY x:=(iK _).1 (by decide +kernel);have hq:decide (cS [4607182418800017408,4611686018427387904,4613937818241073152] [4607182418800017408,4611686018427387904,4613937818241073152]*cS [4613937818241073152,4611686018427387904,4607182418800017408] [4613937818241073152,4611686018427387904,4607182418800017408]=0)=false:=by decide +kernel
 have hc:decide (0<=cS [4607182418800017408,4611686018427387904,4613937818241073152] [4613937818241073152,4611686018427387904,4607182418800017408])=false:=by decide +kernel
 have bc:=mR w f w2 f2 au rfl;have bq:=(mR w f w f au rfl).mul (mR w2 f2 w2 f2 au rfl);have hs:=s_at (u:=4296) (v:=4296) (k:=8458) au au au (by decide +kernel) (by decide +kernel) (bc.mul bc) bq 3 au 4607182418800017408 true (0) (by decide +kernel);unfold WA;rw [if_pos au,e2,if_pos rfl,if_neg au,if_neg (of_decide_eq_false hq)];unfold Wz;rw [if_neg (of_decide_eq_false hc),show KW 2=3 by decide,hs,if_pos rfl]
theorem YK:WA [4607182418800017408,4607182418800017408] [4607182418800017408,4611686018427387904] 0=(0,190):=by
 have e2:xV [4607182418800017408,4607182418800017408] [4607182418800017408,4611686018427387904]=0:=by decide +kernel
 have hq:decide (cS [4607182418800017408,4607182418800017408] [4607182418800017408,4607182418800017408]*cS [4607182418800017408,4611686018427387904] [4607182418800017408,4611686018427387904]=0)=true:=by decide +kernel
 unfold WA;rw [if_pos au,e2,if_pos rfl,if_neg au,if_pos (of_decide_eq_true hq)]
theorem cOf:rO 4 (rD (dK (gV 0 4) (gV 0 30)) (dK (gV 0 10) (gV 0 10))) 0 0=(rK 0 false 4608308318706860032 true (0),0):=by
 have b:∀ x:Nat,x<=64->Bd 6 (x:Int):=fun x hx=>Bd.nat af;have e1:dK (gV 0 4) (gV 0 30)=gV 0 120:=mH (u:=0) (v:=0) au au au au (b 4 au) (b 30 au);have e2:dK (gV 0 10) (gV 0 10)=gV 0 100:=mH (u:=0) (v:=0) au au au au (b 10 au) (b 10 au);have b1:Bd 12 (120:Int):=Bd.nat (n:=120) au;have b2:Bd 12 (100:Int):=Bd.nat (n:=100) au
 have e3:rD (gV 0 120) (gV 0 100)=gV 0 (20):=by
  unfold rD;rw [(dB (u:=0) au au b1).sm,(dB (u:=0) au au b2).sm];exact Um (u:=0) au au b1 b2
 have b3:Bd 13 (20:Int):=Bd.sub b1 b2;rw [e1,e2,e3];unfold rO;rw [if_pos au,(dB (u:=0) au au b3).sm,if_pos rfl,if_neg au];exact (PI (u:=0) (v:=0) (k:=13) au au au au b3 (Bd.nat (k:=13) (n:=16) au) 0 au 4608308318706860032 true (0) false au (by decide +kernel)).trans (by rfl)
theorem TB:∃ d:TypeDesc,Tryz.prog.underlying 44=some d/\d.isRow=true:=by
 have h:(Tryz.prog.underlying 44).any (·.isRow)=true:=by kernel_rfl
 cases hd:Tryz.prog.underlying 44 with
 | none=>rw [hd] at h;cases h
 | some d=>rw [hd] at h;exact ⟨d,rfl,h⟩
theorem PK:(Tryz.prog.info? 44).map (·.size)=some 2:=by kernel_rfl
theorem Ga {fn:Func}{p:Tmp}(h:fn.results=#[.cell p 44]) (tmps:Array Value) (W:World) (g:Nat) (x y:Value) (hp:tmps.getD p undef=.pointer (some ⟨g,0,none⟩)) (hD:W.heap[g]?=some (.cells #[x,y] 44 (0,0))) :
 (results fn tmps).run Tryz.prog W=.ok (.agg #[x,y]) W:=by
 obtain ⟨d,h1,h2⟩:=TB
 cases d <;> first
  | exact results_cell_row (P:=Tryz.prog) h tmps W g 44 _ _ _ hp hD h1 rfl (by rw [PK];rfl)
  | exact absurd h2 (by simp [TypeDesc.isRow])
theorem rQ (w:World):Calls Tryz.prog 17 #[] w fun r w'=>r=.returned (.agg #[.int .i64 0,.int .i64 0])/\Below w.heap.size w w':=by
 go_enter Tryz.func17,Tryz.ntmps17;go_wp2;exact aF (v:=.agg #[.int .i64 0,.int .i64 0]) (Ga Tryz.results17 _ _ w.heap.size _ _ rfl (ib _ _)) rfl ⟨rfl,ae _ _⟩
theorem qB (x y:Nat) (h:x=y) (w:World):Calls Tryz.prog 23 #[.float .f64 x,.int .i64 0,.float .f64 y] w fun r w'=>r=.returned (.bool true)/\w'=w:=by
 have C:Hid (Calls Tryz.prog 10 #[.float .f64 x,.float .f64 y] w fun r w'=>r=.returned (.bool true)/\w'=w):=by
  have:=Hd x y w;rw [h,beq_self_eq_true] at this;rw [h];exact this
 clear h;go_enter Tryz.func23,Tryz.ntmps23;go_wp2_with fail;refine C.o.mono ?_;rintro r u ⟨rfl,rfl⟩;go_wp2;go_ret;exact ⟨rfl,rfl⟩
theorem uF (w:World) (xs:List Nat):Fs (w.alloc (Obj.cells (xs.map FJ).toArray 28)).heap.size (w.alloc (Obj.cells (xs.map FJ).toArray 28)) (some ⟨w.heap.size,0,none⟩) xs:=by
 intro _;refine ⟨w.heap.size,0,aO,rfl,fun i hi=>?_⟩;have hO:Sl (w.alloc (Obj.cells (xs.map FJ).toArray 28)) w.heap.size xs:=ib _ _;rw [dS];exact hO.cell i hi
theorem Gb (w:World) (xs:List Nat) (g:Nat) (hg:g=w.heap.size):Fs (w.alloc (Obj.cells (xs.map FJ).toArray 28)).heap.size (w.alloc (Obj.cells (xs.map FJ).toArray 28)) (some ⟨g,0,none⟩) xs:=by subst hg;exact uF w xs
theorem TC {w:World}{as' ap:Option Addr}{cs cp:Nat}(n s q less mode:Int) (hs:0<=s/\s<=100) (hq:0<=q/\q<=100) (h1:Nt 0 w (.slice as' (ws (dX (gV 0 s))).length cs) (dX (gV 0 s))) (h2:Nt 0 w (.slice ap (ws (dX (gV 0 q))).length cp) (dX (gV 0 q))) (hT:dJ w) (hn:-9223372036854775808<=n/\n<=9223372036854775807)
 (z:Nat×Int) (hz:rO n (rD (dK (gV 0 n) (gV 0 q)) (dK (gV 0 s) (gV 0 s))) less mode=z) :
 Calls Tryz.prog 7 #[.int .i64 n,.agg #[.bool (dN (gV 0 s)),.slice as' (ws (dX (gV 0 s))).length cs,.int .i64 (dE (gV 0 s))],.agg #[.bool (dN (gV 0 q)),.slice ap (ws (dX (gV 0 q))).length cp,.int .i64 (dE (gV 0 q))],.int .i64 less,.int .i64 mode] w fun r w'=>r=.returned (.tuple #[.float .f64 z.1,.int .i64 z.2])/\Below w.heap.size w w':=by
 have F:∀ x:Int,0<=x/\x<=100->Fm (gV 0 x):=fun x hx=>by
  obtain ⟨k,rfl⟩:=Int.eq_ofNat_of_zero_le hx.1;exact dB (m:=7) au au (Bd.nat af)
 have F1:=F s hs;have F2:=F q hq;refine Yr n (dN (gV 0 s)) (dN (gV 0 q)) (dE (gV 0 s)) (dE (gV 0 q)) less mode (F1.a12 h1) (F2.a12 h2) hT hn ?_ ?_ z ?_
 · have:=F1.p9;omega
 · have:=F2.p9;omega
 · rw [aj,aj,F1.re,F2.re];exact hz
set_option maxRecDepth 100000 in
theorem TE (w:World) (hT:dJ w):Calls Tryz.prog 5 #[] w fun r w'=>r=.returned (.bool true)/\Below w.heap.size w w':=by
 have HT:=ak hT;have BD:=ak (aD w.heap.size w);clear hT;go_enter Tryz.func5,Tryz.ntmps5;obtain ⟨W1,hW1⟩:=ah ((w.alloc (Obj.cells #[.float .f64 4607182418800017408,.float .f64 4611686018427387904,.float .f64 4613937818241073152,.float .f64 4616189618054758400] 28)));obtain ⟨g1,hg1⟩:=ah (w.heap.size);have BE:=ak BD.o;have q0:Below w.heap.size w W1:=by rw [hW1];exact ae _ _
 have q1:Fs W1.heap.size W1 (some ⟨g1,0,none⟩) [4607182418800017408,4611686018427387904,4613937818241073152,4616189618054758400]:=by rw [hW1,hg1];exact uF w [4607182418800017408,4611686018427387904,4613937818241073152,4616189618054758400]
 have BD:=aJ (BD.o.trans (q0.mono BD.o.size)) q1;have HE:=(aJ hW1 hg1);clear hW1 hg1 q0 q1 BE;go_wp2_with fail;rw [<-HE.o.1,<-HE.o.2];clear HE;refine (rQ W1).mono ?_;rintro r u2 ⟨rfl,hb⟩;have BD:=aJ (BD.o.1.trans (hb.mono BD.o.1.size)) ((BD.o.2.below hb).mono hb.size);clear hb;have C:Hid (Calls Tryz.prog 16 #[.slice (some ⟨g1,0,none⟩) 4 4,.int .i64 0,.int .i64 0,.agg #[.int .i64 0,.int .i64 0]] u2 fun r w'=>r=.returned (.tuple #[.float .f64 4608308318706860032,.int .i64 0])/\Below u2.heap.size u2 w'):=hid (Ia [4607182418800017408,4611686018427387904,4613937818241073152,4616189618054758400] _ 4 4 0 0 0 0 u2 rfl BD.o.2 (gm au) (HT.o.belows BD.o.1) au (4608308318706860032,0) (cVa.trans (by decide +kernel)));go_wp2_with fail;refine C.o.mono ?_;rintro r u3 ⟨rfl,hb⟩;have BD:=aJ (BD.o.1.trans (hb.mono BD.o.1.size)) ((BD.o.2.below hb).mono hb.size);clear hb C;go_wp2_with fail;refine (rQ u3).mono ?_;rintro r u4 ⟨rfl,hb⟩;have BD:=aJ (BD.o.1.trans (hb.mono BD.o.1.size)) ((BD.o.2.below hb).mono hb.size);clear hb;have C:Hid (Calls Tryz.prog 16 #[.slice (some ⟨g1,0,none⟩) 4 4,.int .i64 1,.int .i64 0,.agg #[.int .i64 0,.int .i64 0]] u4 fun r w'=>r=.returned (.tuple #[.float .f64 4610184818551597739,.int .i64 0])/\Below u4.heap.size u4 w'):=hid (Ia [4607182418800017408,4611686018427387904,4613937818241073152,4616189618054758400] _ 4 4 1 0 0 0 u4 rfl BD.o.2 (gm au) (HT.o.belows BD.o.1) au (4610184818551597739,0) (cVb.trans (by decide +kernel)));go_wp2_with fail;refine C.o.mono ?_;rintro r u5 ⟨rfl,hb⟩;have BD:=aJ (BD.o.1.trans (hb.mono BD.o.1.size)) ((BD.o.2.below hb).mono hb.size);clear hb C;go_wp2_with fail;refine (rQ u5).mono ?_;rintro r u6 ⟨rfl,hb⟩;have BD:=aJ (BD.o.1.trans (hb.mono BD.o.1.size)) ((BD.o.2.below hb).mono hb.size);clear hb;have C:Hid (Calls Tryz.prog 18 #[.slice (some ⟨g1,0,none⟩) 4 4,.int .i64 1,.int .i64 0,.agg #[.int .i64 0,.int .i64 0]] u6 fun r w'=>r=.returned (.tuple #[.float .f64 4608492941290910865,.int .i64 0])/\Below u6.heap.size u6 w'):=hid (Yu [4607182418800017408,4611686018427387904,4613937818241073152,4616189618054758400] _ 4 4 1 0 0 0 u6 rfl BD.o.2 (gm au) (HT.o.belows BD.o.1) au (4608492941290910865,0) (cSc.trans (by decide +kernel)));go_wp2_with fail;refine C.o.mono ?_;rintro r u7 ⟨rfl,hb⟩;have BD:=aJ (BD.o.1.trans (hb.mono BD.o.1.size)) ((BD.o.2.below hb).mono hb.size);clear hb C;have BD:=ak BD.o.1;obtain ⟨W8,Zl⟩:=ah ((u7.alloc (Obj.cells #[.float .f64 4607182418800017408,.float .f64 4611686018427387904,.float .f64 4618441417868443648] 28)));obtain ⟨g8,hg8⟩:=ah (u7.heap.size);have BE:=ak BD.o;have q0:Below u7.heap.size u7 W8:=by rw [Zl];exact ae _ _
 have q1:Fs W8.heap.size W8 (some ⟨g8,0,none⟩) [4607182418800017408,4611686018427387904,4618441417868443648]:=by rw [Zl,hg8];exact uF u7 [4607182418800017408,4611686018427387904,4618441417868443648]
 have BD:=aJ (BD.o.trans (q0.mono BD.o.size)) q1;have HE:=(aJ Zl hg8);clear Zl hg8 q0 q1 BE;have C:Hid (Calls Tryz.prog 19 #[.slice (some ⟨g8,0,none⟩) 3 3,.int .i64 3,.int .i64 0] W8 fun r w'=>r=.returned (.tuple #[.float .f64 4618441417868443648,.int .i64 0])/\Below W8.heap.size W8 w'):=hid (KT [4607182418800017408,4611686018427387904,4618441417868443648] _ 3 3 3 0 W8 rfl BD.o.2 (gm au) (HT.o.belows BD.o.1) au (4618441417868443648,0) (cCen.trans (by decide +kernel)));go_wp2_with fail;rw [<-HE.o.1,<-HE.o.2];clear HE;refine C.o.mono ?_;rintro r u9 ⟨rfl,hb⟩;have BD:=aJ (BD.o.1.trans (hb.mono BD.o.1.size)) ((BD.o.2.below hb).mono hb.size);clear hb C;have BD:=ak BD.o.1;obtain ⟨TF,PL⟩:=ah (((u9.alloc (Obj.cells #[.float .f64 4607182418800017408,.float .f64 4611686018427387904,.float .f64 4613937818241073152] 28)).alloc (Obj.cells #[.float .f64 4611686018427387904,.float .f64 4616189618054758400,.float .f64 4619567317775286272] 28)));obtain ⟨g10,lZ⟩:=ah (u9.heap.size);have BE:=ak BD.o;have q0:Below u9.heap.size u9 TF:=by rw [PL];exact (ae _ _).trans ((ae _ _).mono aO)
 have q1:Fs TF.heap.size TF (some ⟨g10,0,none⟩) [4607182418800017408,4611686018427387904,4613937818241073152]:=by rw [PL,lZ];exact ((uF u9 [4607182418800017408,4611686018427387904,4613937818241073152]).below (ae _ _)).mono aO
 have q2:Fs TF.heap.size TF (some ⟨g10+1,0,none⟩) [4611686018427387904,4616189618054758400,4619567317775286272]:=by rw [PL,lZ];exact Gb (u9.alloc (Obj.cells #[.float .f64 4607182418800017408,.float .f64 4611686018427387904,.float .f64 4613937818241073152] 28)) [4611686018427387904,4616189618054758400,4619567317775286272] (u9.heap.size+1) aO
 have BD:=aZ (BD.o.trans (q0.mono BD.o.size)) q1 q2;have HE:=(aJ PL lZ);clear PL lZ q0 q1 q2 BE;have C:Hid (Calls Tryz.prog 20 #[.slice (some ⟨g10,0,none⟩) 3 3,.slice (some ⟨g10+1,0,none⟩) 3 3,.int .i64 1,.int .i64 0] TF fun r w'=>r=.returned (.tuple #[.float .f64 4612811918334230528,.int .i64 0])/\Below TF.heap.size TF w'):=hid (Co14 [4607182418800017408,4611686018427387904,4613937818241073152] [4611686018427387904,4616189618054758400,4619567317775286272] _ _ 3 3 3 3 1 0 TF rfl rfl BD.o.2.1 BD.o.r2 (gm au) (gm au) (HT.o.belows BD.o.1) au au (4612811918334230528,0) (cCo.trans (by decide +kernel)));go_wp2_with fail;rw [<-HE.o.1,<-HE.o.2];clear HE;refine C.o.mono ?_;rintro r KS ⟨rfl,hb⟩;have BD:=aZ (BD.o.1.trans (hb.mono BD.o.1.size)) ((BD.o.2.1.below hb).mono hb.size) ((BD.o.r2.below hb).mono hb.size);clear hb C;have BD:=ak BD.o.1;obtain ⟨TG,PM⟩:=ah (((KS.alloc (Obj.cells #[.float .f64 4607182418800017408,.float .f64 4611686018427387904,.float .f64 4613937818241073152] 28)).alloc (Obj.cells #[.float .f64 4613937818241073152,.float .f64 4611686018427387904,.float .f64 4607182418800017408] 28)));obtain ⟨g12,nz⟩:=ah (KS.heap.size);have BE:=ak BD.o;have q0:Below KS.heap.size KS TG:=by rw [PM];exact (ae _ _).trans ((ae _ _).mono aO)
 have q1:Fs TG.heap.size TG (some ⟨g12,0,none⟩) [4607182418800017408,4611686018427387904,4613937818241073152]:=by rw [PM,nz];exact ((uF KS [4607182418800017408,4611686018427387904,4613937818241073152]).below (ae _ _)).mono aO
 have q2:Fs TG.heap.size TG (some ⟨g12+1,0,none⟩) [4613937818241073152,4611686018427387904,4607182418800017408]:=by rw [PM,nz];exact Gb (KS.alloc (Obj.cells #[.float .f64 4607182418800017408,.float .f64 4611686018427387904,.float .f64 4613937818241073152] 28)) [4613937818241073152,4611686018427387904,4607182418800017408] (KS.heap.size+1) aO
 have BD:=aZ (BD.o.trans (q0.mono BD.o.size)) q1 q2;have HE:=(aJ PM nz);clear PM nz q0 q1 q2 BE;have C:Hid (Calls Tryz.prog 21 #[.slice (some ⟨g12,0,none⟩) 3 3,.slice (some ⟨g12+1,0,none⟩) 3 3,.int .i64 2] TG fun r w'=>r=.returned (.tuple #[.float .f64 13830554455654793216,.int .i64 0])/\Below TG.heap.size TG w'):=hid (PG [4607182418800017408,4611686018427387904,4613937818241073152] [4613937818241073152,4611686018427387904,4607182418800017408] _ _ 3 3 3 3 2 TG rfl rfl BD.o.2.1 BD.o.r2 (gm au) (gm au) (HT.o.belows BD.o.1) au au (13830554455654793216,0) (cLi.trans (by decide +kernel)));go_wp2_with fail;rw [<-HE.o.1,<-HE.o.2];clear HE;refine C.o.mono ?_;rintro r Pm ⟨rfl,hb⟩;have BD:=aZ (BD.o.1.trans (hb.mono BD.o.1.size)) ((BD.o.2.1.below hb).mono hb.size) ((BD.o.r2.below hb).mono hb.size);clear hb C;have BD:=ak BD.o.1;go_wp2_with fail;obtain ⟨oa,hoa⟩:=ah (gV 0 10);obtain ⟨ob,Wv⟩:=ah (gV 0 30);have C:Hid (Calls Tryz.prog 22 #[.int .i64 10] Pm fun r w'=>bC 0 w' r oa/\Below Pm.heap.size Pm w'):=by rw [hoa];exact xe 10 Pm au au
 refine C.o.mono ?_;rintro r TH ⟨hd,hb⟩;obtain ⟨ja,jc,rfl,hN⟩:=hd.aG;have BD:=aJ (BD.o.trans (hb.mono BD.o.size)) hN;clear hb hd hN C;have C:Hid (Calls Tryz.prog 22 #[.int .i64 30] TH fun r w'=>bC 0 w' r ob/\Below TH.heap.size TH w'):=by rw [Wv];exact xe 30 TH au au
 have HO:=(aJ hoa Wv);clear hoa Wv;go_wp2_with fail;refine C.o.mono ?_;rintro r Wo ⟨hd,hb⟩;obtain ⟨ka,kc,rfl,hN⟩:=hd.aG;have BD:=aZ (BD.o.1.trans (hb.mono BD.o.1.size)) (BD.o.2.below hb) hN;clear hb hd hN C
 have C:Hid (Calls Tryz.prog 7 #[.int .i64 4,.agg #[.bool (dN oa),.slice ja (ws (dX oa)).length jc,.int .i64 (dE oa)],.agg #[.bool (dN ob),.slice ka (ws (dX ob)).length kc,.int .i64 (dE ob)],.int .i64 0,.int .i64 0] Wo fun r w'=>r=.returned (.tuple #[.float .f64 4608308318706860032,.int .i64 0])/\Below Wo.heap.size Wo w'):=by
  have h1:=BD.o.2.1;have h2:=BD.o.r2;rw [HO.o.1] at h1;rw [HO.o.2] at h2;rw [HO.o.1,HO.o.2];exact TC 4 10 30 0 0 au au h1 h2 (HT.o.belows BD.o.1) au (4608308318706860032,0) (cOf.trans (by decide +kernel))
 clear HO;go_wp2_with fail;refine C.o.mono ?_;rintro r Gc ⟨rfl,hb⟩;have BD:=ak (BD.o.1.trans (hb.mono BD.o.1.size));clear hb C;obtain ⟨TI,PN⟩:=ah (((Gc.alloc (Obj.cells #[.float .f64 4607182418800017408,.float .f64 4607182418800017408] 28)).alloc (Obj.cells #[.float .f64 4607182418800017408,.float .f64 4611686018427387904] 28)));obtain ⟨g15,xU⟩:=ah (Gc.heap.size);have BE:=ak BD.o;have q0:Below Gc.heap.size Gc TI:=by rw [PN];exact (ae _ _).trans ((ae _ _).mono aO)
 have q1:Fs TI.heap.size TI (some ⟨g15,0,none⟩) [4607182418800017408,4607182418800017408]:=by rw [PN,xU];exact ((uF Gc [4607182418800017408,4607182418800017408]).below (ae _ _)).mono aO
 have q2:Fs TI.heap.size TI (some ⟨g15+1,0,none⟩) [4607182418800017408,4611686018427387904]:=by rw [PN,xU];exact Gb (Gc.alloc (Obj.cells #[.float .f64 4607182418800017408,.float .f64 4607182418800017408] 28)) [4607182418800017408,4611686018427387904] (Gc.heap.size+1) aO
 have BD:=aZ (BD.o.trans (q0.mono BD.o.size)) q1 q2;have HE:=(aJ PN xU);clear PN xU q0 q1 q2 BE;have C:Hid (Calls Tryz.prog 21 #[.slice (some ⟨g15,0,none⟩) 2 2,.slice (some ⟨g15+1,0,none⟩) 2 2,.int .i64 0] TI fun r w'=>r=.returned (.tuple #[.float .f64 0,.int .i64 190])/\Below TI.heap.size TI w'):=hid (PG [4607182418800017408,4607182418800017408] [4607182418800017408,4611686018427387904] _ _ 2 2 2 2 0 TI rfl rfl BD.o.2.1 BD.o.r2 (gm au) (gm au) (HT.o.belows BD.o.1) au au (0,190) (YK.trans (by decide +kernel)));go_wp2_with fail;rw [<-HE.o.1,<-HE.o.2];clear HE;refine C.o.mono ?_;rintro r u16 ⟨rfl,hb⟩;have BD:=aZ (BD.o.1.trans (hb.mono BD.o.1.size)) ((BD.o.2.1.below hb).mono hb.size) ((BD.o.r2.below hb).mono hb.size);clear hb C;have BD:=ak BD.o.1;obtain ⟨Zm,TJ⟩:=ah ((u16.alloc (Obj.cells #[.float .f64 4617315517961601024] 28)));obtain ⟨g17,Dq⟩:=ah (u16.heap.size);have BE:=ak BD.o;have q0:Below u16.heap.size u16 Zm:=by rw [TJ];exact ae _ _
 have q1:Fs Zm.heap.size Zm (some ⟨g17,0,none⟩) [4617315517961601024]:=by rw [TJ,Dq];exact uF u16 [4617315517961601024]
 have BD:=aJ (BD.o.trans (q0.mono BD.o.size)) q1;have HE:=(aJ TJ Dq);clear TJ Dq q0 q1 BE;go_wp2_with fail;rw [<-HE.o.1,<-HE.o.2];clear HE;refine (rQ Zm).mono ?_;rintro r P5 ⟨rfl,hb⟩;have BD:=aJ (BD.o.1.trans (hb.mono BD.o.1.size)) ((BD.o.2.below hb).mono hb.size);clear hb;have C:Hid (Calls Tryz.prog 16 #[.slice (some ⟨g17,0,none⟩) 1 1,.int .i64 1,.int .i64 0,.agg #[.int .i64 0,.int .i64 0]] P5 fun r w'=>r=.returned (.tuple #[.float .f64 0,.int .i64 3])/\Below P5.heap.size P5 w'):=hid (Ia [4617315517961601024] _ 1 1 1 0 0 0 P5 rfl BD.o.2 (gm au) (HT.o.belows BD.o.1) au (0,3) (Wn.trans (by decide +kernel)));go_wp2_with fail;refine C.o.mono ?_;rintro r P6 ⟨rfl,hb⟩;have BD:=aJ (BD.o.1.trans (hb.mono BD.o.1.size)) ((BD.o.2.below hb).mono hb.size);clear hb C;have BD:=ak BD.o.1;obtain ⟨Zn,TK⟩:=ah ((P6.alloc (Obj.cells #[.float .f64 4617315517961601024] 28)));obtain ⟨g20,AB⟩:=ah (P6.heap.size);have BE:=ak BD.o;have q0:Below P6.heap.size P6 Zn:=by rw [TK];exact ae _ _
 have q1:Fs Zn.heap.size Zn (some ⟨g20,0,none⟩) [4617315517961601024]:=by rw [TK,AB];exact uF P6 [4617315517961601024]
 have BD:=aJ (BD.o.trans (q0.mono BD.o.size)) q1;have HE:=(aJ TK AB);clear TK AB q0 q1 BE;go_wp2_with fail;rw [<-HE.o.1,<-HE.o.2];clear HE;refine (rQ Zn).mono ?_;rintro r u21 ⟨rfl,hb⟩;have BD:=aJ (BD.o.1.trans (hb.mono BD.o.1.size)) ((BD.o.2.below hb).mono hb.size);clear hb;have C:Hid (Calls Tryz.prog 16 #[.slice (some ⟨g20,0,none⟩) 1 1,.int .i64 2,.int .i64 0,.agg #[.int .i64 0,.int .i64 0]] u21 fun r w'=>r=.returned (.tuple #[.float .f64 0,.int .i64 1])/\Below u21.heap.size u21 w'):=hid (Ia [4617315517961601024] _ 1 1 2 0 0 0 u21 rfl BD.o.2 (gm au) (HT.o.belows BD.o.1) au (0,1) (YJ.trans (by decide +kernel)));go_wp2_with fail;refine C.o.mono ?_;rintro r u22 ⟨rfl,hb⟩;have BD:=aJ (BD.o.1.trans (hb.mono BD.o.1.size)) ((BD.o.2.below hb).mono hb.size);clear hb C;have BD:=ak BD.o.1;have C:=hid (qB 4608308318706860032 4608308318706860032 rfl u22);go_wp2_with fail;refine C.o.mono ?_;rintro r u23 ⟨rfl,hq⟩;rw [hq];clear hq C u23;have C:=hid (qB 4610184818551597739 4610184818551597739 rfl u22);go_wp2_with fail;refine C.o.mono ?_;rintro r u24 ⟨rfl,hq⟩;rw [hq];clear hq C u24;have C:=hid (qB 4608492941290910865 4608492941290910865 rfl u22);go_wp2_with fail;refine C.o.mono ?_;rintro r u25 ⟨rfl,hq⟩;rw [hq];clear hq C u25;have C:=hid (qB 4618441417868443648 4618441417868443648 rfl u22);go_wp2_with fail;refine C.o.mono ?_;rintro r u26 ⟨rfl,hq⟩;rw [hq];clear hq C u26;have C:=hid (qB 4612811918334230528 4612811918334230528 rfl u22);go_wp2_with fail;refine C.o.mono ?_;rintro r u27 ⟨rfl,hq⟩;rw [hq];clear hq C u27;have C:=hid (qB 13830554455654793216 13830554455654793216 rfl u22);go_wp2_with fail;refine C.o.mono ?_;rintro r u28 ⟨rfl,hq⟩;rw [hq];clear hq C u28;have C:=hid (qB 4608308318706860032 4608308318706860032 rfl u22);go_wp2_with fail;refine C.o.mono ?_;rintro r u29 ⟨rfl,hq⟩;rw [hq];clear hq C u29;go_wp2;go_ret;exact ⟨rfl,BD.o⟩
end
section
open Go.ChangeShapes Go.WideShapes Go.ChangeAt Go.RowKit
theorem Il {H:Type}{enc:TypeId×Value->H}{W:World}{r:Reach}{b0:Nat}{v:Value}{d:DataW H}{p:List MemPlace}(hv:Value.okWide Tryz.prog W r b0 25 v) (h:DataW.Trod enc Tryz.prog W 0 (fun _=>true) true 25 v d p) :
 ∃ (ng:Bool) (a:Option Addr) (n c:Nat) (e:Int) (xs:List Nat) (d1:DataW H),v=.agg #[.bool ng,.slice a n c,.int .i64 e]/\Oy W a n c xs e/\d=.agg [.lit (.bool ng),d1,.lit (.int .i64 e)] /\
   ((d1=.nil/\c=0)\/∃ elems spare:List (DataW H),d1=.slice elems spare/\elems.length+spare.length=c/\(∀ e ∈ elems,∃ l,e=.lit (.int .u32 l))/\∀ e ∈ spare,∃ l,e=.lit (.int .u32 l)):=by
 obtain ⟨cs,rfl,hsz⟩:=okWide_struct Tryz.underlying25 hv;obtain ⟨fuel,hf⟩:=h;have hC:Tryz.prog.cellsOf 25=3:=by kernel_rfl
 have c4:Tryz.prog.cellsOf 4=1:=by kernel_rfl
 have c3:Tryz.prog.cellsOf 3=1:=by kernel_rfl
 have cN:Tryz.prog.cellsOf 23=1:=by kernel_rfl
 obtain ⟨xs,k,rfl,hx,hl,hxl,hfs⟩:=DataW.trod_struct Tryz.underlying25 hf;rw [hC] at hsz
 obtain ⟨c0,c1,c2,rfl⟩:∃ c0 c1 c2,cs=#[c0,c1,c2]:=by
  obtain ⟨l⟩:=cs
  match l,hsz with
  | [a,b,c],_=>exact ⟨a,b,c,rfl⟩
 have h0:DataW.trod enc Tryz.prog W 0 (fun _=>true) true k 4 (List.take (Tryz.prog.cellsOf 4) (List.drop 0 [c0,c1,c2]))=xs[0]?:=hfs 0 _ rfl;have h1:DataW.trod enc Tryz.prog W 0 (fun _=>true) true k 23 (List.take (Tryz.prog.cellsOf 23) (List.drop 1 [c0,c1,c2]))=xs[1]?:=hfs 1 _ rfl;have h2:DataW.trod enc Tryz.prog W 0 (fun _=>true) true k 3 (List.take (Tryz.prog.cellsOf 3) (List.drop 2 [c0,c1,c2]))=xs[2]?:=hfs 2 _ rfl;rw [c4] at h0;rw [cN] at h1;rw [c3] at h2;replace h0:DataW.trod enc Tryz.prog W 0 (fun _=>true) true k 4 [c0]=xs[0]?:=h0;replace h1:DataW.trod enc Tryz.prog W 0 (fun _=>true) true k 23 [c1]=xs[1]?:=h1;replace h2:DataW.trod enc Tryz.prog W 0 (fun _=>true) true k 3 [c2]=xs[2]?:=h2
 match xs,hxl with
 | [x0,x1,x2],_ =>
   obtain ⟨ng,e0,rfl⟩:=DataW.trod_bool Tryz.underlying4 h0;obtain ⟨e,e2,rfl,hw⟩:=DataW.trod_int Tryz.underlying3 h2
   cases e0
   cases e2
   have hs:∃ a n c,c1=.slice a n c:=by
    rcases DataW.trod_slice Tryz.underlying23 h1 with ⟨q,_⟩|⟨a,len,cap,_,_,_,_,q,_⟩
    · cases q;exact ⟨_,_,_,rfl⟩
    · cases q;exact ⟨_,_,_,rfl⟩
   obtain ⟨a,n,c,rfl⟩:=hs;obtain ⟨ys,hy,hd⟩:=Qx (a:=a) (n:=n) (c:=c) (d:=x1.1) (p:=x1.2) ⟨k,h1⟩
   have hw':-9223372036854775808<=e/\e<=9223372036854775807:=by
    simp [Lit.wf,IntKind.min,IntKind.max,IntKind.signed,IntKind.bits] at hw;omega
   refine ⟨ng,a,n,c,e,ys,x1.1,rfl,⟨hy,hw'.1,hw'.2⟩,?_,hd⟩;have:=(fu hx).1;simpa using this
end
end Go.Proofs.YtfmfhehbdfhnbaaGreatDoor
