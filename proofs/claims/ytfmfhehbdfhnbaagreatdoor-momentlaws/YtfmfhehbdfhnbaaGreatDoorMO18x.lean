import Derived.Test.YtfmfhehbdfhnbaaGreatDoorMC4x
import Derived.Test.YtfmfhehbdfhnbaaGreatDoorD32cx
import Derived.Test.YtfmfhehbdfhnbaaGreatDoorMO10x
import Derived.Test.YtfmfhehbdfhnbaaGreatDoorZ14x
import Derived.Test.YtfmfhehbdfhnbaaGreatDoorD39x
import Derived.ChangeKeysEq
import Derived.Laws.OwnMore
import Derived.Lib.SliceRun
import Derived.Deep.RegionHeld
import Derived.Test.YtfmfhehbdfhnbaaGreatDoorM7x
import Derived.Test.YtfmfhehbdfhnbaaGreatDoorW25x
import Derived.Test.YtfmfhehbdfhnbaaGreatDoorBIeeex
import Derived.Test.YtfmfhehbdfhnbaaGreatDoorW50x
import Derived.Deep.RegionWith
import Derived.Test.YtfmfhehbdfhnbaaGreatDoorD20x
import Derived.Deep.LoopGhost
set_option linter.unusedVariables false
set_option linter.unusedSimpArgs false
set_option maxHeartbeats 16000000
set_option maxRecDepth 20000
namespace Go.Proofs.YtfmfhehbdfhnbaaGreatDoor
namespace J
end J
section
open Go Go.RowKit J
noncomputable def Bf (xs ys:List Nat) (mode:Int):Nat×Int :=
 if pI mode then
  if zY xs ys=0 then
   if xs=[] then(0,3) else if cS xs xs*cS ys ys=0 then(0,190) else PD (cS xs ys) (cS xs xs*cS ys ys) mode
  else(0,zY xs ys)
 else(0,1)
theorem TC{w:World}{a b:Option Addr}{ca cb:Nat}{c q:Int}(mode:Int)(hm:pI mode=true)(hq:0<q)(bc:Bd 4229 c)(bq:Bd 8458 q)(hT:dU w)(N1:Nt 0 w (.slice a (ws (dX (gV 2148 c))).length ca) (dX (gV 2148 c)))(N2:Nt 0 w (.slice b (ws (dX (gV 4296 q))).length cb) (dX (gV 4296 q))) :
 Calls Tryz.prog 53 #[.agg #[.bool (dN (gV 2148 c)),.slice a (ws (dX (gV 2148 c))).length ca,.int .i64 (dE (gV 2148 c))],.agg #[.bool (dN (gV 4296 q)),.slice b (ws (dX (gV 4296 q))).length cb,.int .i64 (dE (gV 4296 q))],.int .i64 mode] w fun r w'=>r=.returned (.tuple #[.float .f64 (PD c q mode).1,.int .i64 (PD c q mode).2])/\Below w.heap.size w w':=by
 have FC:Fm (gV 2148 c):=dJ aj aj bc;have FQ:Fm (gV 4296 q):=dJ aj aj bq;have FP:Fm (gV 4296 (c*c)):=dJ aj aj (bc.mul bc);have E:fu (gV 2148 c) (gV 2148 c)=gV 4296 (c*c):=mY aj aj aj aj bc bc;obtain⟨s1,s2⟩:=Yw (u:=2148) aj aj bc
 have hS:∀ (u:World) (p:Option Addr) (k:Nat),Nt 0 u (.slice p (ws (dX (gV 2148 c))).length k) (dX (gV 2148 c))->Calls Tryz.prog 52 #[.agg #[.bool (dN (gV 2148 c)),.slice p (ws (dX (gV 2148 c))).length k,.int .i64 (dE (gV 2148 c))]] u fun r w'=>r=.returned (.int .i64 (xg (dN (gV 2148 c)) (dX (gV 2148 c))))/\Below u.heap.size u w':=fun u p k hN=>by
  have:=vB (FC.a12 hN) (dN (gV 2148 c)) (dE (gV 2148 c));exact yy
 by_cases h0:0<=c
 · obtain⟨k1,k2⟩:=TB (c:=c) (q:=q) (mode:=mode) (k:=8458) aj hq (bc.mul bc) bq hm;refine wS w a b ca cb (gV 2148 c) (gV 4296 q) (gV 4296 (c*c)) mode _ (JH mode) true (jI (gV 4296 (c*c)) (gV 4296 q) mode).1 _ hT ⟨FC,FQ,FP⟩ E (hid hS) (by rw[s2];exact decide_eq_true h0) (hid fun u=>z8 mode u) (hid fun u ap b cp cb su n1 n2=>?_) k2 ?_ N1 N2
   · have:=Jw mode FP FQ n1 n2 su;rw[k1] at this;exact this
   · unfold PD;rw[if_pos h0];exact Prod.ext rfl k1
 · obtain⟨k1,k2⟩:=TB (c:=c) (q:=q) (mode:=JH mode) (k:=8458) aj hq (bc.mul bc) bq (JI hm);refine wS w a b ca cb (gV 2148 c) (gV 4296 q) (gV 4296 (c*c)) mode _ (JH mode) false (jI (gV 4296 (c*c)) (gV 4296 q) (JH mode)).1 _ hT ⟨FC,FQ,FP⟩ E (hid hS) (by rw[s2];exact decide_eq_false h0) (hid fun u=>z8 mode u) (hid fun u ap b cp cb su n1 n2=>?_) k2 ?_ N1 N2
   · have:=Jw (JH mode) FP FQ n1 n2 su;rw[k1] at this;exact this
   · unfold PD;rw[if_neg h0,if_pos k1];rfl
theorem TE(f:Nat->Int):∀ n:Nat,0<=(n:Int)*tS (fun i=>f i*f i) n-tS f n*tS f n
 | 0=>by simp[tS]
 | n+1=>by
   have ih:=TE f n
   have h2:∀ m:Nat,0<=(m:Int)*f n*f n-2*f n*tS f m+tS (fun i=>f i*f i) m:=by
    intro m
    induction m with
    | zero=>simp[tS]
    | succ m ihm =>
      have:=wR (f n-f m);simp only[gJ]
      grind
   have:=h2 n;simp only[gJ]
   grind
theorem GH(xs:List Nat):0<=cS xs xs:=TE (fX xs) xs.length
theorem pJ.other{w v:World}{n gx gy gA gB g:Nat}{p1 p2:Option Addr}{q1 q2:Nat}{A B:Nat->Option (Bool×Nat×Int)}{oS oT q:Option (Bool×Nat×Int)}(h:pJ w v n gx gy gA gB p1 p2 q1 q2 A B oS oT)(hL:Lo v g q)(h1:gx≠g)(h2:gy≠g)(h3:w.heap.size<=gx/\gA<gx/\gB<gx/\gx<gy)(x y z:Value)(hgg:w.heap.size<=g:=by first | omega | assumption)(hA:gA≠g:=by omega)(hB:gB≠g:=by omega):pJ w (dM v g x y z) n gx gy gA gB p1 p2 q1 q2 A B oS oT:=by
 have hb:=mG g v x y z;obtain⟨a0,c0,hD,hM⟩:=hL;exact⟨h.x.but hb h1,h.y.but hb h2,h.dx.but (T:=25) (L:=[_,_,_]) hb hD hA aj,h.dy.but (T:=25) (L:=[_,_,_]) hb hD hB aj,h.nx.uj hD _ _ _,h.ny.uj hD _ _ _,fB h.b h.b.size hgg _ _ _⟩
theorem nT(xs ys:List Nat)(a a2:Option Addr)(n n2 c c2:Nat)(mode:Int)(w:World)(hn:n=xs.length)(hn2:n2=ys.length)(hF:Fs w.heap.size w a xs)(hG:Fs w.heap.size w a2 ys)(hW:mE xs)(hW2:mE ys)(hT:dU w)(hl:n<=35184372088832)(hl2:n2<=35184372088832)(z:Nat×Int)(hz:Bf xs ys mode=z) :
 Calls Tryz.prog 21 #[.slice a n c,.slice a2 n2 c2,.int .i64 mode] w fun r w'=>r=.returned (.tuple #[.float .f64 z.1,.int .i64 z.2])/\Below w.heap.size w w':=by
 obtain⟨X,E⟩:=z;simp only;have C:=hid (jA mode w);unfold Bf at hz
 cases hm:pI mode with
 | false =>
   rw[hm,if_neg aj] at hz;rw[hm] at C;obtain⟨rfl,rfl⟩:=eO hz;clear hz hn hF hW hT hn2 hG hW2;go_enter Tryz.func21,Tryz.ntmps21;go_wp2_with fail;refine C.o.mono ?_;rintro r v ⟨rfl,hv⟩;rw[hv];clear hv v C;go_wp2;exact aG (v:=.tuple #[.float .f64 0,.int .i64 1]) (by simp[results,Tryz.results21,go_sem]) rfl ⟨rfl,aD _ _⟩
 | true =>
   rw[hm,if_pos rfl] at hz;rw[hm] at C;have HB:=hid (TA xs ys a a2 n n2 c c2 w hn hn2 hF hG hW hW2 hT hl hl2);have HX:=fO hn hn2 hW hW2 hT;have HZ:=aA hz;have HMD:=aA hm;clear hz hn hF hW hT hn2 hG hW2 hl hl2 hm;go_enter Tryz.func21,Tryz.ntmps21;go_wp2_with fail;refine C.o.mono ?_;rintro r v ⟨rfl,hv⟩;rw[hv];clear hv v C;go_wp2_with fail;refine HB.o.mono ?_;rintro r u2 ⟨hr,hb⟩;rcases hr with ⟨he,rfl⟩|⟨he,v1,v2,rfl,Ak,hR2⟩
   · have hz:=HZ.o;rw[if_neg he] at hz;obtain⟨rfl,hE⟩:=eO hz;rw[hE] at he |-;have h1:(E==0)=false:=by simp[he]
     have BE:Aside (Below w.heap.size w ((u2.alloc (Obj.cells #[.slice none 0 0,.bool false,.slice none 0 0,.int .i64 0] 74)).alloc (Obj.cells #[.slice none 0 0,.bool false,.slice none 0 0,.int .i64 0] 74))):=(hb.trans ((aN _ _).mono hb.size)).trans ((aN _ _).mono (by simp;have:=hb.size;omega));clear hz HZ hE hb HB;go_wp2;exact aG (v:=.tuple #[.float .f64 0,.int .i64 E]) (by simp[results,Tryz.results21,go_sem]) rfl ⟨rfl,BE.o⟩
   · have HBO:=aA he;obtain⟨hlen,Yt,hf1,hf2⟩:=Yu he;have PF:=(ic hlen Yt hf1 hf2);obtain⟨gA,p1,q1,rfl,hD1,hN1⟩:=Ak;obtain⟨gB,p2,q2,rfl,hD2,kQ⟩:=hR2;obtain⟨oS,uH⟩:=ah (gV 1074 (sX xs));obtain⟨oT,Tz⟩:=ah (gV 1074 (sX ys));rw[<-uH] at hN1 |-;rw[<-Tz] at kQ |-;obtain⟨V,hV⟩:=ah ((u2.alloc (Obj.cells #[.slice (some ⟨gA,0,none⟩) n n,.bool (dN oS),.slice p1 (ws (dX oS)).length q1,.int .i64 (dE oS)] 74)).alloc (Obj.cells #[.slice (some ⟨gB,0,none⟩) n n,.bool (dN oT),.slice p2 (ws (dX oT)).length q2,.int .i64 (dE oT)] 74));obtain⟨gx,hgx⟩:=ah (u2.heap.size);obtain⟨gy,Yv⟩:=ah (u2.heap.size+1)
     have B4:Aside (pJ w V n gx gy gA gB p1 p2 q1 q2 (fun i=>gV 1074 (fX xs i)) (fun i=>gV 1074 (fX ys i)) oS oT):=by
      exact qn
     have HGG:Aside (w.heap.size<=gx/\gA<gx/\gB<gx/\gx<gy):=by rw[hgx,Yv];exact⟨hb.size,hD1.lt,hD2.lt,ae⟩
     have HV:=(dC hV hgx Yv);have Ej:=(aP uH Tz);clear hV hgx Yv hb hD1 hN1 hD2 kQ HB uH Tz hlen Yt hf1 hf2 he
     go_upto_region 4 with fail
     rw[<-HV.o.1]
     try rw[<-HV.o.r2]
     rw[<-HV.o.2.1];clear HV;have s0:=B4.o.x.cell 0 _ rfl;have hz:=HZ.o;rw[if_pos HBO.o] at hz;have n6:n<=65536:=by have:=PF.o.2.1;have:=HX.o.1;omega
     by_cases h0:n=0
     · have hx0:xs=[]:=l7 (by have:=HX.o.1;omega);rw[if_pos hx0] at hz;obtain⟨rfl,rfl⟩:=eO hz;have hn0:((n:Int)==0)=true:=by simp[h0]
       clear hz HZ h0 hx0;go_wp2;exact aG (v:=.tuple #[.float .f64 0,.int .i64 3]) (by simp[results,Tryz.results21,go_sem]) rfl ⟨rfl,B4.o.b⟩
     · have hx0:xs≠[]:=fun e=>h0 (by rw[HX.o.1,e];rfl);rw[if_neg hx0] at hz;have hn0:((n:Int)==0)=false:=by simp[h0]
       have hn0':(n:Int)≠0:=ae
       obtain⟨A0,Xk⟩:=ah (gV 2148 (cS xs xs));obtain⟨B0',Lc⟩:∃ o,o=gV 2148 (cS ys ys):=⟨_,rfl⟩;obtain⟨C0,Xl⟩:=ah (gV 2148 (cS xs ys));have b1:=lD HX.o.r2.1 PF.o.r2.1 HX.o.r2.1 PF.o.r2.1 PF.o.2.1 rfl;have b2:=lD HX.o.r3.1 PF.o.r3 HX.o.r3.1 PF.o.r3 (by rw[<-PF.o.1];exact PF.o.2.1) rfl;have b3:=lD HX.o.r2.1 PF.o.r2.1 HX.o.r3.1 PF.o.r3 PF.o.2.1 PF.o.1;obtain⟨q,hq⟩:=ah (cS xs xs*cS ys ys);have bq:Bd 8458 q:=by rw[hq];exact b1.mul b2
       have hq0:0<=q:=by rw[hq];exact uL (GH xs) (GH ys)
       obtain⟨oQ,hoQ⟩:=ah (gV 4296 q);rw[<-hq] at hz;have FF:Aside (Fm A0/\Fm B0'/\Fm oQ/\Fm C0):=by rw[Xk,Lc,hoQ,Xl];exact⟨dJ aj aj b1,dJ aj aj b2,dJ aj aj bq,dJ aj aj b3⟩
       have EE:Aside (fu A0 B0'=oQ):=by show _=_;rw[Xk,Lc,hoQ,hq];exact mY aj aj aj aj b1 b2
       have HSX:Hid (∀ u:World,pJ w u n gx gy gA gB p1 p2 q1 q2 (fun i=>gV 1074 (fX xs i)) (fun i=>gV 1074 (fX ys i)) oS oT->Calls Tryz.prog 50 #[.agg #[.slice (some ⟨gA,0,none⟩) n n,.bool (dN oS),.slice p1 (ws (dX oS)).length q1,.int .i64 (dE oS)],.agg #[.slice (some ⟨gA,0,none⟩) n n,.bool (dN oS),.slice p1 (ws (dX oS)).length q1,.int .i64 (dE oS)]] u fun r w'=>bI 0 w' r A0/\Below u.heap.size u w'):=fun u hu=>by
        have hR:=hu.rx;have hS:=hu.rx;rw[Ej.o.1] at hR hS |-;have:=oG (f:=fX xs) (g:=fX xs) (S:=sX xs) (T:=sX xs) n6 (HX.o.r4.belows hu.b) (fun i hi=>iD HX.o.r2.1 PF.o.r2.1 i (by have:=HX.o.1;have:=PF.o.1;omega)) (fun i hi=>iD HX.o.r2.1 PF.o.r2.1 i (by have:=HX.o.1;have:=PF.o.1;omega)) (jf HX.o.r2.1 PF.o.r2.1 (by have:=HX.o.1;have:=PF.o.1;omega) _ (aC _)) (jf HX.o.r2.1 PF.o.r2.1 (by have:=HX.o.1;have:=PF.o.1;omega) _ (aC _)) hR hS;rw[Xk];unfold cS;rw[show(xs).length=n by have:=HX.o.1;have:=PF.o.1;omega];exact this
       have HSY:Hid (∀ u:World,pJ w u n gx gy gA gB p1 p2 q1 q2 (fun i=>gV 1074 (fX xs i)) (fun i=>gV 1074 (fX ys i)) oS oT->Calls Tryz.prog 50 #[.agg #[.slice (some ⟨gB,0,none⟩) n n,.bool (dN oT),.slice p2 (ws (dX oT)).length q2,.int .i64 (dE oT)],.agg #[.slice (some ⟨gB,0,none⟩) n n,.bool (dN oT),.slice p2 (ws (dX oT)).length q2,.int .i64 (dE oT)]] u fun r w'=>bI 0 w' r B0'/\Below u.heap.size u w'):=fun u hu=>by
        have hR:=hu.ry;have hS:=hu.ry;rw[Ej.o.2] at hR hS |-;have:=oG (f:=fX ys) (g:=fX ys) (S:=sX ys) (T:=sX ys) n6 (HX.o.r4.belows hu.b) (fun i hi=>iD HX.o.r3.1 PF.o.r3 i (by have:=HX.o.1;have:=PF.o.1;omega)) (fun i hi=>iD HX.o.r3.1 PF.o.r3 i (by have:=HX.o.1;have:=PF.o.1;omega)) (jf HX.o.r3.1 PF.o.r3 (by have:=HX.o.1;have:=PF.o.1;omega) _ (aC _)) (jf HX.o.r3.1 PF.o.r3 (by have:=HX.o.1;have:=PF.o.1;omega) _ (aC _)) hR hS;rw[Lc];unfold cS;rw[show(ys).length=n by have:=HX.o.1;have:=PF.o.1;omega];exact this
       have HSXY:Hid (∀ u:World,pJ w u n gx gy gA gB p1 p2 q1 q2 (fun i=>gV 1074 (fX xs i)) (fun i=>gV 1074 (fX ys i)) oS oT->Calls Tryz.prog 50 #[.agg #[.slice (some ⟨gA,0,none⟩) n n,.bool (dN oS),.slice p1 (ws (dX oS)).length q1,.int .i64 (dE oS)],.agg #[.slice (some ⟨gB,0,none⟩) n n,.bool (dN oT),.slice p2 (ws (dX oT)).length q2,.int .i64 (dE oT)]] u fun r w'=>bI 0 w' r C0/\Below u.heap.size u w'):=fun u hu=>by
        have hR:=hu.rx;have hS:=hu.ry;rw[Ej.o.1] at hR |-;rw[Ej.o.2] at hS |-;have:=oG (f:=fX xs) (g:=fX ys) (S:=sX xs) (T:=sX ys) n6 (HX.o.r4.belows hu.b) (fun i hi=>iD HX.o.r2.1 PF.o.r2.1 i (by have:=HX.o.1;have:=PF.o.1;omega)) (fun i hi=>iD HX.o.r3.1 PF.o.r3 i (by have:=HX.o.1;have:=PF.o.1;omega)) (jf HX.o.r2.1 PF.o.r2.1 (by have:=HX.o.1;have:=PF.o.1;omega) _ (aC _)) (jf HX.o.r3.1 PF.o.r3 (by have:=HX.o.1;have:=PF.o.1;omega) _ (aC _)) hR hS;rw[Xl];unfold cS;rw[show(xs).length=n by have:=HX.o.1;have:=PF.o.1;omega];exact this
       obtain⟨s1,s2⟩:=Yw (u:=4296) aj aj bq
       have HSg:Hid (∀ (u:World) (p:Option Addr) (k:Nat),Nt 0 u (.slice p (ws (dX oQ)).length k) (dX oQ)->Calls Tryz.prog 52 #[.agg #[.bool (dN oQ),.slice p (ws (dX oQ)).length k,.int .i64 (dE oQ)]] u fun r w'=>r=.returned (.int .i64 (xg (dN oQ) (dX oQ)))/\Below u.heap.size u w'):=fun u p k hN=>by
        have:=vB (FF.o.r2.1.a12 hN) (dN oQ) (dE oQ);exact yy
       rw[<-hoQ] at s1;obtain⟨sg,hsg⟩:∃ s,xg (dN oQ) (dX oQ)=s:=⟨_,rfl⟩;rw[hsg] at HSg s1
       have HBR:q≠0->Hid (∀ (u:World) (a b:Option Addr) (ca cb:Nat),dU u->Nt 0 u (.slice a (ws (dX C0)).length ca) (dX C0)->Nt 0 u (.slice b (ws (dX oQ)).length cb) (dX oQ)->Calls Tryz.prog 53 #[.agg #[.bool (dN C0),.slice a (ws (dX C0)).length ca,.int .i64 (dE C0)],.agg #[.bool (dN oQ),.slice b (ws (dX oQ)).length cb,.int .i64 (dE oQ)],.int .i64 mode] u fun r w'=>r=.returned (.tuple #[.float .f64 X,.int .i64 E])/\Below u.heap.size u w'):=fun Zt u a b ca cb su n1 n2=>by
        rw[if_neg Zt] at hz;rw[Xl] at n1 |-;rw[hoQ] at n2 |-;have:=TC mode HMD.o ae b3 bq su n1 n2;rw[hz] at this;exact this
       have HZ2:=aA hz;have HS1:=aA s1;have HBRA:=aA HBR;have HT:=aA HX.o.r4;have HG:Aside (w.heap.size<=gx/\gA<gx/\gB<gx/\gx<gy):=HGG.o;clear hz HZ Xk Lc Xl hoQ hq b1 b2 b3 bq hq0 s1 s2 hsg HBR h0 hx0 n6;go_wp2_with fail
       go_cut [11] from 31 to 37 (fun q wx=>∃ g11:Nat,q=.pointer (some ⟨g11,0,none⟩)/\Aside (Lo wx g11 oQ/\pJ w wx n gx gy gA gB p1 p2 q1 q2 (fun i=>gV 1074 (fX xs i)) (fun i=>gV 1074 (fX ys i)) oS oT))
       case first =>
        have BD:=aA (B4.o.below (aD V.heap.size V).drew);have kS:=aA BD.o.cells;clear B4 s0;refine fE (fun w'=>w'.cell? ⟨gx,0,none⟩=some (.slice (some ⟨gA,0,none⟩) n n)/\w'.cell? ⟨gx,1,none⟩=some (.bool (dN oS))/\w'.cell? ⟨gx,2,none⟩=some (.slice p1 (ws (dX oS)).length q1)/\w'.cell? ⟨gx,3,none⟩=some (.int .i64 (dE oS))/\w'.cell? ⟨gy,0,none⟩=some (.slice (some ⟨gB,0,none⟩) n n)/\w'.cell? ⟨gy,1,none⟩=some (.bool (dN oT))/\w'.cell? ⟨gy,2,none⟩=some (.slice p2 (ws (dX oT)).length q2)/\w'.cell? ⟨gy,3,none⟩=some (.int .i64 (dE oT))) 8 df ?_;obtain⟨Wd,hWd⟩:=ah (V.drew);rw[<-hWd] at BD kS |-;clear hWd
        refine tk 0 [2,6] rfl kS.o ?_;try simp only[Act.put,sa,sb,sc]
        refine tk 1 [2,6] rfl kS.o ?_;try simp only[Act.put,sa,sb,sc]
        refine tk 3 [5,6] rfl kS.o ?_;try simp only[Act.put,sa,sb,sc]
        refine tk 4 [5,6] rfl kS.o ?_;try simp only[Act.put,sa,sb,sc]
        refine dK (i:=2) (j:=7) df rfl rfl (fun K' hK=>?_) (fun K' hK=>?_)
        · skip;have C:=hid (HSX.o Wd BD.o);go_simp;refine C.o.mono ?_;rintro r u1 ⟨hd,hb⟩;obtain⟨a1,c1,rfl,hN⟩:=hd.aL;have BD:=aP (BD.o.below hb) hN;have kS:=aA (ck hb kS.o fun h=>jX hb h);clear hb hd hN C;dsimp only;refine hK.out _ _ (fun _=>kS.o) ?_;clear hK K'
          try simp only[Act.put,sa,sb,sc]
          refine dK (i:=5) (j:=7) df rfl rfl (fun K' hK=>?_) (fun K' hK=>?_)
          · skip;have C:=hid (HSY.o u1 BD.o.1);go_simp;refine C.o.mono ?_;rintro r u2 ⟨hd,hb⟩;obtain⟨a2,c2,rfl,hN⟩:=hd.aL;have BD:=dC (BD.o.1.below hb) (BD.o.2.below hb) hN;have kS:=aA (ck hb kS.o fun h=>jX hb h);clear hb hd hN C;dsimp only;refine hK.out _ _ (fun _=>kS.o) ?_;clear hK K'
            try simp only[Act.put,sa,sb,sc]
            refine dK (i:=6) (j:=7) df rfl rfl (fun K' hK=>?_) (fun K' hK=>?_)
            · skip;have C:=hid (iL FF.o.1 FF.o.2.1 FF.o.r2.1 BD.o.2.1 BD.o.r2 (HT.o.belows BD.o.1.b) EE.o);go_simp;refine C.o.mono ?_;rintro r u3 ⟨hd,hb⟩;obtain⟨a3,c3,rfl,hN⟩:=hd.aL;have BD:=ic (BD.o.1.below hb) (BD.o.2.1.below hb) (BD.o.r2.below hb) hN;have kS:=aA (ck hb kS.o fun h=>jX hb h);clear hb hd hN C;dsimp only;refine hK.out _ _ (fun _=>kS.o) ?_;clear hK K'
              try simp only[Act.put,sa,sb,sc]
              refine au (i:=7) df rfl (fun K' hK=>?_);go_simp;obtain⟨g4,hg4⟩:=ah (u3.heap.size);obtain⟨V4,Eb⟩:=ah (u3.alloc (Obj.cells zD3 25));have hb:Below u3.heap.size u3 V4:=by rw[Eb];exact af _ _
              have hZ:Lo V4 g4 iY:=by rw[Eb,hg4];exact Lo.zero _
              have BD:=nU (BD.o.1.below hb) (BD.o.2.1.below hb) (BD.o.r2.1.below hb) (BD.o.r3.below hb) hZ (show gx<g4 by rw[hg4];exact BD.o.1.x.lt) (show gy<g4 by rw[hg4];exact BD.o.1.y.lt);have kS:=aA (ck hb kS.o fun h=>jX hb h);have HV:=(aP Eb hg4);clear hZ hb Eb hg4;refine hK.out _ _ (fun _=>by rw[<-HV.o.1];exact kS.o) ?_;clear hK K';rw[<-HV.o.1,<-HV.o.2];clear HV
              try simp only[Act.put,sa,sb,sc]
              obtain⟨zp,zq,DZ,MZ⟩:=BD.o.r4.1;obtain⟨z0,z1,z2,gQ,gT,gU⟩:=DZ.facts;clear DZ MZ;refine au (i:=8) df rfl (fun K' hK=>?_);go_simp;refine hK.out _ _ (fun h=>absurd h aj) ?_;clear hK K' z0 z1 z2 gQ gT gU kS;refine aS df ?_ _;go_wp2_with fail
              go_meet
              case rel=>exact⟨g4,rfl,BD.o.r4.1.set BD.o.r3.1,BD.o.1.other BD.o.r4.1 (fo BD.o.r5.1) (fo BD.o.r6) HG.o _ _ _ (by have:=HG.o;have:=BD.o.r5.1;omega) (by have:=HG.o;have:=BD.o.r5.1;omega) (by have:=HG.o;have:=BD.o.r5.1;omega)⟩
            · skip;go_simp;obtain⟨g5,hg5⟩:=ah (u2.heap.size);obtain⟨V5,K8⟩:=ah (u2.alloc (Obj.cells zD3 25));have hb:Below u2.heap.size u2 V5:=by rw[K8];exact af _ _
              have hZ:Lo V5 g5 iY:=by rw[K8,hg5];exact Lo.zero _
              have BD:=jJ (BD.o.1.below hb) (BD.o.2.1.below hb) (BD.o.r2.below hb) hZ (show gx<g5 by rw[hg5];exact BD.o.1.x.lt) (show gy<g5 by rw[hg5];exact BD.o.1.y.lt);have kS:=aA (ck hb kS.o fun h=>jX hb h);have HV:=(aP K8 hg5);clear hZ hb K8 hg5;refine hK.out _ _ (fun _=>by rw[<-HV.o.1];exact kS.o) ?_;clear hK K';rw[<-HV.o.1,<-HV.o.2];clear HV
              try simp only[Act.put,sa,sb,sc]
              refine au (i:=6) df rfl (fun K' hK=>?_);have C:=hid (iL FF.o.1 FF.o.2.1 FF.o.r2.1 BD.o.2.1 BD.o.r2.1 (HT.o.belows BD.o.1.b) EE.o);go_simp;refine C.o.mono ?_;rintro r u6 ⟨hd,hb⟩;obtain⟨a6,c6,rfl,hN⟩:=hd.aL;have BD:=nU (BD.o.1.below hb) (BD.o.2.1.below hb) (BD.o.r2.1.below hb) (BD.o.r3.1.below hb) BD.o.r4.1 BD.o.r5 hN;have kS:=aA (ck hb kS.o fun h=>jX hb h);clear hb hd hN C;dsimp only;refine hK.out _ _ (fun _=>kS.o) ?_;clear hK K'
              try simp only[Act.put,sa,sb,sc]
              obtain⟨zp,zq,DZ,MZ⟩:=BD.o.r3.1;obtain⟨z0,z1,z2,gQ,gT,gU⟩:=DZ.facts;clear DZ MZ;refine au (i:=8) df rfl (fun K' hK=>?_);go_simp;refine hK.out _ _ (fun h=>absurd h aj) ?_;clear hK K' z0 z1 z2 gQ gT gU kS;refine aS df ?_ _;go_wp2_with fail
              go_meet
              case rel=>exact⟨g5,rfl,BD.o.r3.1.set BD.o.r6,BD.o.1.other BD.o.r3.1 (fo BD.o.r4.1) (fo BD.o.r5.1) HG.o _ _ _ (by have:=HG.o;have:=BD.o.r4.1;omega) (by have:=HG.o;have:=BD.o.r4.1;omega) (by have:=HG.o;have:=BD.o.r4.1;omega)⟩
          · skip;go_simp;obtain⟨g7,sN⟩:=ah (u1.heap.size);obtain⟨V7,K9⟩:=ah (u1.alloc (Obj.cells zD3 25));have hb:Below u1.heap.size u1 V7:=by rw[K9];exact af _ _
            have hZ:Lo V7 g7 iY:=by rw[K9,sN];exact Lo.zero _
            have BD:=fO (BD.o.1.below hb) (BD.o.2.below hb) hZ (show gx<g7 by rw[sN];exact BD.o.1.x.lt) (show gy<g7 by rw[sN];exact BD.o.1.y.lt);have kS:=aA (ck hb kS.o fun h=>jX hb h);have HV:=(aP K9 sN);clear hZ hb K9 sN;refine hK.out _ _ (fun _=>by rw[<-HV.o.1];exact kS.o) ?_;clear hK K';rw[<-HV.o.1,<-HV.o.2];clear HV
            try simp only[Act.put,sa,sb,sc]
            refine au (i:=5) df rfl (fun K' hK=>?_);have C:=hid (HSY.o V7 BD.o.1);go_simp;refine C.o.mono ?_;rintro r u8 ⟨hd,hb⟩;obtain⟨a8,c8,rfl,hN⟩:=hd.aL;have BD:=jJ (BD.o.1.below hb) (BD.o.2.1.below hb) (BD.o.r2.1.below hb) BD.o.r3.1 BD.o.r4 hN;have kS:=aA (ck hb kS.o fun h=>jX hb h);clear hb hd hN C;dsimp only;refine hK.out _ _ (fun _=>kS.o) ?_;clear hK K'
            try simp only[Act.put,sa,sb,sc]
            refine au (i:=6) df rfl (fun K' hK=>?_);have C:=hid (iL FF.o.1 FF.o.2.1 FF.o.r2.1 BD.o.2.1 BD.o.r5 (HT.o.belows BD.o.1.b) EE.o);go_simp;refine C.o.mono ?_;rintro r u9 ⟨hd,hb⟩;obtain⟨a9,c9,rfl,hN⟩:=hd.aL;have BD:=nU (BD.o.1.below hb) (BD.o.2.1.below hb) (BD.o.r2.1.below hb) BD.o.r3.1 BD.o.r4.1 (BD.o.r5.below hb) hN;have kS:=aA (ck hb kS.o fun h=>jX hb h);clear hb hd hN C;dsimp only;refine hK.out _ _ (fun _=>kS.o) ?_;clear hK K'
            try simp only[Act.put,sa,sb,sc]
            obtain⟨zp,zq,DZ,MZ⟩:=BD.o.r2.1;obtain⟨z0,z1,z2,gQ,gT,gU⟩:=DZ.facts;clear DZ MZ;refine au (i:=8) df rfl (fun K' hK=>?_);go_simp;refine hK.out _ _ (fun h=>absurd h aj) ?_;clear hK K' z0 z1 z2 gQ gT gU kS;refine aS df ?_ _;go_wp2_with fail
            go_meet
            case rel=>exact⟨g7,rfl,BD.o.r2.1.set BD.o.r6,BD.o.1.other BD.o.r2.1 (fo BD.o.r3.1) (fo BD.o.r4.1) HG.o _ _ _ (by have:=HG.o;have:=BD.o.r3.1;omega) (by have:=HG.o;have:=BD.o.r3.1;omega) (by have:=HG.o;have:=BD.o.r3.1;omega)⟩
        · skip;go_simp;obtain⟨g10,nR⟩:=ah (Wd.heap.size);obtain⟨Tp,uC⟩:=ah (Wd.alloc (Obj.cells zD3 25));have hb:Below Wd.heap.size Wd Tp:=by rw[uC];exact af _ _
          have hZ:Lo Tp g10 iY:=by rw[uC,nR];exact Lo.zero _
          have BD:=ic (BD.o.below hb) hZ (show gx<g10 by rw[nR];exact BD.o.x.lt) (show gy<g10 by rw[nR];exact BD.o.y.lt);have kS:=aA (ck hb kS.o fun h=>jX hb h);have HV:=(aP uC nR);clear hZ hb uC nR;refine hK.out _ _ (fun _=>by rw[<-HV.o.1];exact kS.o) ?_;clear hK K';rw[<-HV.o.1,<-HV.o.2];clear HV
          try simp only[Act.put,sa,sb,sc]
          refine au (i:=2) df rfl (fun K' hK=>?_);have C:=hid (HSX.o Tp BD.o.1);go_simp;refine C.o.mono ?_;rintro r El ⟨hd,hb⟩;obtain⟨a11,c11,rfl,hN⟩:=hd.aL;have BD:=fO (BD.o.1.below hb) (BD.o.2.1.below hb) BD.o.r2.1 BD.o.r3 hN;have kS:=aA (ck hb kS.o fun h=>jX hb h);clear hb hd hN C;dsimp only;refine hK.out _ _ (fun _=>kS.o) ?_;clear hK K'
          try simp only[Act.put,sa,sb,sc]
          refine au (i:=5) df rfl (fun K' hK=>?_);have C:=hid (HSY.o El BD.o.1);go_simp;refine C.o.mono ?_;rintro r u12 ⟨hd,hb⟩;obtain⟨a12,c12,rfl,hN⟩:=hd.aL;have BD:=jJ (BD.o.1.below hb) (BD.o.2.1.below hb) BD.o.r2.1 BD.o.r3.1 (BD.o.r4.below hb) hN;have kS:=aA (ck hb kS.o fun h=>jX hb h);clear hb hd hN C;dsimp only;refine hK.out _ _ (fun _=>kS.o) ?_;clear hK K'
          try simp only[Act.put,sa,sb,sc]
          refine au (i:=6) df rfl (fun K' hK=>?_);have C:=hid (iL FF.o.1 FF.o.2.1 FF.o.r2.1 BD.o.r4.1 BD.o.r5 (HT.o.belows BD.o.1.b) EE.o);go_simp;refine C.o.mono ?_;rintro r JC ⟨hd,hb⟩;obtain⟨a13,c13,rfl,hN⟩:=hd.aL;have BD:=nU (BD.o.1.below hb) (BD.o.2.1.below hb) BD.o.r2.1 BD.o.r3.1 (BD.o.r4.1.below hb) (BD.o.r5.below hb) hN;have kS:=aA (ck hb kS.o fun h=>jX hb h);clear hb hd hN C;dsimp only;refine hK.out _ _ (fun _=>kS.o) ?_;clear hK K'
          try simp only[Act.put,sa,sb,sc]
          obtain⟨zp,zq,DZ,MZ⟩:=BD.o.2.1;obtain⟨z0,z1,z2,gQ,gT,gU⟩:=DZ.facts;clear DZ MZ;refine au (i:=8) df rfl (fun K' hK=>?_);go_simp;refine hK.out _ _ (fun h=>absurd h aj) ?_;clear hK K' z0 z1 z2 gQ gT gU kS;refine aS df ?_ _;go_wp2_with fail
          go_meet
          case rel=>exact⟨g10,rfl,BD.o.2.1.set BD.o.r6,BD.o.1.other BD.o.2.1 (fo BD.o.r2.1) (fo BD.o.r3.1) HG.o _ _ _ (by have:=HG.o;have:=BD.o.r2.1;omega) (by have:=HG.o;have:=BD.o.r2.1;omega) (by have:=HG.o;have:=BD.o.r2.1;omega)⟩
       obtain⟨g11,rfl,K1⟩:=hcut;obtain⟨U,hU⟩:=ah wc;rw[<-hU] at K1 |-;clear hU B4 s0 HSX HSY;obtain⟨pq,cq,DQ,MQ⟩:=K1.o.1;obtain⟨x0,x1,x2,dw,dz,dA⟩:=DQ.facts;have C:=hid (HSg.o U pq cq MQ);clear DQ MQ;go_wp2_with fail;refine C.o.mono ?_;rintro r v ⟨rfl,hb⟩;have K2:=aP (K1.o.1.below hb) (K1.o.2.below hb);clear hb C x0 x1 x2 dw dz dA K1 HSg
       by_cases hq:q=0
       · have hz:=HZ2.o;rw[if_pos hq] at hz;obtain⟨rfl,rfl⟩:=eO hz;have e0:(sg==0)=true:=by rw[HS1.o];exact decide_eq_true hq
         have e1:sg=0:=by simpa using e0
         subst e1;clear hz HZ2 HS1 e0;go_wp2;exact aG (v:=.tuple #[.float .f64 0,.int .i64 190]) (by simp[results,Tryz.results21,go_sem]) rfl ⟨rfl,K2.o.2.b⟩
       · have e0:(sg==0)=false:=by rw[HS1.o];exact decide_eq_false hq
         have HBr:=HBRA.o hq;have BD:=aP (K2.o.1.below (aD v.heap.size v).drew) (K2.o.2.below (aD v.heap.size v).drew);obtain⟨pq,cq,DQ,MQ⟩:=BD.o.1;have kS:=ic DQ.facts.1 DQ.facts.2.1 DQ.facts.2.2.1 BD.o.2.cells;have BD:=aP BD.o.2 MQ;have C1:=hid (HSXY.o v.drew BD.o.1);clear K2 HZ2 HS1 HBRA hq DQ MQ;go_wp2_with fail
         go_region_held3 (fun w'=>w'.cell? ⟨g11,0,none⟩=some (.bool (dN oQ))/\w'.cell? ⟨g11,1,none⟩=some (.slice pq (ws (dX oQ)).length cq)/\w'.cell? ⟨g11,2,none⟩=some (.int .i64 (dE oQ))/\w'.cell? ⟨gx,0,none⟩=some (.slice (some ⟨gA,0,none⟩) n n)/\w'.cell? ⟨gx,1,none⟩=some (.bool (dN oS))/\w'.cell? ⟨gx,2,none⟩=some (.slice p1 (ws (dX oS)).length q1)/\w'.cell? ⟨gx,3,none⟩=some (.int .i64 (dE oS))/\w'.cell? ⟨gy,0,none⟩=some (.slice (some ⟨gB,0,none⟩) n n)/\w'.cell? ⟨gy,1,none⟩=some (.bool (dN oT))/\w'.cell? ⟨gy,2,none⟩=some (.slice p2 (ws (dX oT)).length q2)/\w'.cell? ⟨gy,3,none⟩=some (.int .i64 (dE oT))) (with_reducible exact kS.o) (first
          | (go_at_call 50
             with_reducible refine C1.o.mono ?_
             rintro r u3 ⟨hd,hb⟩;obtain⟨a3,c3,rfl,fV⟩:=hd.aL;have BE:=dC (BD.o.1.below hb) (BD.o.2.below hb) fV;have kS:=aA (ck hb kS.o fun h=>ck hb h fun h=>Bb hb h);have C2:=hid (HBr.o u3 a3 pq c3 cq (HT.o.belows BE.o.1.b) BE.o.r2 BE.o.2.1)
             clear hb hd fV C1)
          | (go_at_call 53
             with_reducible refine C2.o.mono ?_
             rintro r u5 ⟨rfl,hb⟩;have BF:=aA (BE.o.1.below hb);have kS:=aA (ck hb kS.o fun h=>ck hb h fun h=>Bb hb h)
             clear hb C2))
         go_wp2;exact aG (v:=.tuple #[.float .f64 X,.int .i64 E]) (by simp[results,Tryz.results21,go_sem]) rfl ⟨rfl,BF.o.b⟩
theorem Xm{o1 o2:Option (Bool×Nat×Int)}(r1:mkS (dN o1) (dX o1) (dE o1)=o1)(h:(jv o1 (mkS (!dN o2) (dX o2) (dE o2))).isSome=true):mkS (dN (jv o1 (mkS (!dN o2) (dX o2) (dE o2)))) (dX (jv o1 (mkS (!dN o2) (dX o2) (dE o2)))) (dE (jv o1 (mkS (!dN o2) (dX o2) (dE o2))))=jv o1 (mkS (!dN o2) (dX o2) (dE o2)):=by
 cases h1:o1 with
 | none=>rw[h1] at h;cases h
 | some x =>
   cases h2:mkS (!dN o2) (dX o2) (dE o2) with
   | none=>rw[h1,h2] at h;cases h
   | some y =>
     obtain⟨n,X,e⟩:=x;obtain⟨m,Y,f⟩:=y
     have F1:o8 n X e:=by
      have:=lN (n:=dN o1) (X:=dX o1) (e:=dE o1) (by rw[r1,h1];rfl);rw[r1,h1] at this;exact this
     have F2:o8 m Y f:=cK h2
     cases h3:jv (some (n,X,e)) (some (m,Y,f)) with
     | none=>rw[h1,h2,h3] at h;cases h
     | some z =>
       obtain⟨n',Z,g⟩:=z;exact iW (Fx F1 F2 h3)
noncomputable def wT (n:Int) (o:Option (Bool×Nat×Int)) (less mode:Int):Nat×Int :=
 if pI mode&&lsB less&&(decide (1<=n)&&decide (n<=1099511627776)) then
  if o.isSome then(if n<=less then(0,3) else jk o (gV 0 (n*(n-less))) mode) else(0,2)
 else(0,1)
theorem Xn{n:Nat}{less:Int}(hn:n<=1099511627776)(h0:0<=less)(h1:less<=1):Bd 82 ((n:Int)*((n:Int)-less)) :=
 (Bd.mul (a:=41) (b:=41) (Bd.nat ae) (by unfold Bd;omega))
theorem Xo{u:World}{a b:Option Addr}{ca cb:Nat}{V D:Option (Bool×Nat×Int)}(mode:Int)(hV:V.isSome=true)(rV:mkS (dN V) (dX V) (dE V)=V)(FD:Fm D)(n1:Nt 0 u (.slice a (ws (dX V)).length ca) (dX V))(n2:Nt 0 u (.slice b (ws (dX D)).length cb) (dX D))(hT:dU u) :
 Calls Tryz.prog 27 #[.agg #[.bool (dN V),.slice a (ws (dX V)).length ca,.int .i64 (dE V),.bool (dN D),.slice b (ws (dX D)).length cb,.int .i64 (dE D)],.int .i64 mode] u fun r w'=>r=.returned (.tuple #[.float .f64 (jk V D mode).1,.int .i64 (jk V D mode).2])/\Below u.heap.size u w':=by
 obtain⟨l1,r1,r2⟩:=vM hV rV;exact R8 (w:=u) (n:=dN V) (m:=dN D) (X:=dX V) (Y:=dX D) (e:=dE V) (f:=dE D) mode ⟨n1.av ae,n2.av (dW FD.len aj),⟨r1,r2⟩,FD.qI⟩ hT
theorem q6{P:Prop}(h:P:=by
 obtain⟨rfl,rfl⟩:=eO hz;clear hz HD;go_enter Tryz.func7,Tryz.ntmps7
 go_upto_region 1 with fail
 rw[<-lG.o];clear lG;go_wp2_with fail;refine C.o.mono ?_;rintro r v ⟨rfl,hv⟩;rw[hv];clear hv v C;go_wp2_with fail;refine D.o.mono ?_;rintro r v ⟨rfl,hv⟩;rw[hv];clear hv v D;go_wp2;exact aG (v:=.tuple #[.float .f64 0,.int .i64 1]) (by simp[results,Tryz.results7,go_sem]) rfl ⟨rfl,B0.o.r2⟩):P:=h
theorem Xp (w:World) (n:Int) (ns np:Bool) (as' ap:Option Addr) (ls cs lp cp:Nat) (es ep less mode:Int) (oV:Option (Bool×Nat×Int)) (hT:dU w) (rV:oV.isSome=true->mkS (dN oV) (dX oV) (dE oV)=oV)
 (HD:Hid (∀ u:World,Below w.heap.size w u->Calls Tryz.prog 26 #[.int .i64 n,.agg #[.bool np,.slice ap lp cp,.int .i64 ep],.agg #[.bool ns,.slice as' ls cs,.int .i64 es],.agg #[.bool ns,.slice as' ls cs,.int .i64 es]] u fun r w'=>pG w' r oV (o7 oV)/\Below u.heap.size u w')) (z:Nat×Int) (hz:wT n oV less mode=z) :
 Calls Tryz.prog 7 #[.int .i64 n,.agg #[.bool ns,.slice as' ls cs,.int .i64 es],.agg #[.bool np,.slice ap lp cp,.int .i64 ep],.int .i64 less,.int .i64 mode] w fun r w'=>r=.returned (.tuple #[.float .f64 z.1,.int .i64 z.2])/\Below w.heap.size w w':=by
 obtain⟨X,E⟩:=z;simp only;obtain⟨W,nQ⟩:=ah ((w.alloc (Obj.cells #[.bool ns,.slice as' ls cs,.int .i64 es] 25)).alloc (Obj.cells #[.bool np,.slice ap lp cp,.int .i64 ep] 25))
 have B0:Aside (Dk W w.heap.size ns (.slice as' ls cs) es/\Dk W (w.heap.size+1) np (.slice ap lp cp) ep/\Below w.heap.size w W):=by
  have z1:=Dk.new (w.alloc (Obj.cells #[.bool ns,.slice as' ls cs,.int .i64 es] 25)) np (.slice ap lp cp) ep;rw[dD] at z1;rw[nQ];exact⟨(Dk.new _ _ _ _).below (af _ _),z1,(af _ _).trans ((af _ _).mono aQ)⟩
 have lG:=aA nQ;have HT:=aA hT;have HRV:=aA rV;clear nQ hT rV;have C:=hid (jA mode W);have D:=hid (oH less W);unfold wT at hz
 cases hm:pI mode with
 | false =>
   rw[hm,qj,qj,if_neg aj] at hz;rw[hm] at C;obtain⟨rfl,rfl⟩:=eO hz;clear hz HD;go_enter Tryz.func7,Tryz.ntmps7
   go_upto_region 1 with fail
   rw[<-lG.o];clear lG;go_wp2_with fail;refine C.o.mono ?_;rintro r v ⟨rfl,hv⟩;rw[hv];clear hv v C;go_wp2;exact aG (v:=.tuple #[.float .f64 0,.int .i64 1]) (by simp[results,Tryz.results7,go_sem]) rfl ⟨rfl,B0.o.r2⟩
 | true =>
 rw[hm] at C hz
 cases hs:lsB less with
 | false =>
   rw[hs,tC,qj,if_neg aj] at hz;rw[hs] at D;obtain⟨rfl,rfl⟩:=eO hz;clear hz HD;go_enter Tryz.func7,Tryz.ntmps7
   go_upto_region 1 with fail
   rw[<-lG.o];clear lG;go_wp2_with fail;refine C.o.mono ?_;rintro r v ⟨rfl,hv⟩;rw[hv];clear hv v C;go_wp2_with fail;refine D.o.mono ?_;rintro r v ⟨rfl,hv⟩;rw[hv];clear hv v D;go_wp2;exact aG (v:=.tuple #[.float .f64 0,.int .i64 1]) (by simp[results,Tryz.results7,go_sem]) rfl ⟨rfl,B0.o.r2⟩
 | true =>
 rw[hs] at D hz;rw[wu,tC] at hz
 by_cases h1:1<=n
 case neg =>
  rw[decide_eq_false h1,qj,if_neg aj] at hz;have d1:decide (n<1)=true:=decide_eq_true ae;exact q6
 case pos =>
 have d1:decide (n<1)=false:=decide_eq_false ae
 by_cases h2:n<=1099511627776
 case neg =>
  rw[decide_eq_true h1,decide_eq_false h2,Bq,if_neg aj] at hz;have d2:decide (1099511627776<n)=true:=decide_eq_true ae;exact q6
 case pos =>
  have d2:decide (1099511627776<n)=false:=decide_eq_false ae;rw[decide_eq_true h1,decide_eq_true h2,wu,if_pos rfl] at hz;have Cm:0<=less/\less<=1:=by have:=Gp hs;omega
  obtain⟨N,rfl⟩:∃ N:Nat,n=(N:Int):=⟨n.toNat,ae⟩;have C3:=hid (HD.o W B0.o.r2);have HZ:=aA hz;have HL:=(dC Cm h1 h2);clear hz HD hs hm Cm h1 h2;go_enter Tryz.func7,Tryz.ntmps7
  go_upto_region 1 with fail
  rw[<-lG.o];clear lG;go_wp2_with fail;refine C.o.mono ?_;rintro r v ⟨rfl,hv⟩;rw[hv];clear hv v C;go_wp2_with fail;refine D.o.mono ?_;rintro r v ⟨rfl,hv⟩;rw[hv];clear hv v D;obtain⟨x0,x1,x2,dw,dz,dA⟩:=B0.o.1.facts;obtain⟨y0,y1,y2,dF,dG,dH⟩:=B0.o.2.1.facts;go_wp2_with fail;refine C3.o.mono ?_;rintro r u ⟨hd,hb⟩;obtain⟨p1,q1,rfl,hN⟩:=hd.aL;obtain⟨U,hU⟩:=ah (u.alloc (Obj.cells #[.bool (dN oV),.slice p1 (ws (dX oV)).length q1,.int .i64 (dE oV)] 25));obtain⟨g12,pF⟩:=ah (u.heap.size)
  have B1:Aside (Dk U g12 (dN oV) (.slice p1 (ws (dX oV)).length q1) (dE oV)/\Nt 0 U (.slice p1 (ws (dX oV)).length q1) (dX oV)/\Below w.heap.size w U):=by
   rw[hU,pF];have b:=B0.o.r2.trans (hb.mono B0.o.r2.size);exact⟨Dk.new _ _ _ _,hN.below (af _ _),b.trans ((af _ _).mono b.size)⟩
  have HU:=(aP hU pF);clear hU pF hN hd hb C3 x0 x1 x2 dw dz dA y0 y1 y2 dF dG dH B0;have hz:=HZ.o
  cases hso:oV.isSome with
  | false =>
    rw[hso,if_neg aj] at hz;rw[zS hso];obtain⟨rfl,rfl⟩:=eO hz;clear hz HZ hso
    go_upto_region 4 with fail
    rw[<-HU.o.1];clear HU;go_wp2;exact aG (v:=.tuple #[.float .f64 0,.int .i64 2]) (by simp[results,Tryz.results7,go_sem]) rfl ⟨rfl,B1.o.r2⟩
  | true =>
    rw[hso,if_pos rfl] at hz;rw[zR hso];have HSO:=aA hso
    go_upto_region 4 with fail
    rw[<-HU.o.1,<-HU.o.2];clear HU hso
    by_cases hle:(N:Int)<=less
    · have ZV:decide ((N:Int)<=less)=true:=decide_eq_true hle;rw[if_pos hle] at hz;obtain⟨rfl,rfl⟩:=eO hz;clear hz HZ;go_wp2;exact aG (v:=.tuple #[.float .f64 0,.int .i64 3]) (by simp[results,Tryz.results7,go_sem]) rfl ⟨rfl,B1.o.r2⟩
    · have ZV:decide ((N:Int)<=less)=false:=decide_eq_false hle;rw[if_neg hle] at hz;obtain⟨oD,xX⟩:=ah (gV 0 ((N:Int)*((N:Int)-less)));rw[<-xX] at hz;have De:N<=1099511627776:=by have:=HL.o.r2;omega
      have FD:Fm oD:=by rw[xX];exact dJ aj aj (Xn De HL.o.1.1 HL.o.1.2)
      have sw:Hid (∀ u:World,dU u->Calls Tryz.prog 28 #[.int .i64 (N:Nat),.int .i64 less] u fun r w'=>bI 0 w' r oD/\Below u.heap.size u w'):=fun u hu=>by
       rw[xX];exact uA N less u hu De HL.o.1.1 HL.o.1.2 ae
      have HR:Hid (∀ (u:World) (b:Option Addr) (cb:Nat),dU u->Nt 0 u (.slice p1 (ws (dX oV)).length q1) (dX oV)->Nt 0 u (.slice b (ws (dX oD)).length cb) (dX oD)->Calls Tryz.prog 27 #[.agg #[.bool (dN oV),.slice p1 (ws (dX oV)).length q1,.int .i64 (dE oV),.bool (dN oD),.slice b (ws (dX oD)).length cb,.int .i64 (dE oD)],.int .i64 mode] u fun r w'=>r=.returned (.tuple #[.float .f64 X,.int .i64 E])/\Below u.heap.size u w'):=fun u b cb su n1 n2=>by
       have:=Xo mode HSO.o (HRV.o HSO.o) FD n1 n2 su;rw[hz] at this;exact this
      have hdr:=(aD U.heap.size U).drew;have BD:=aP (B1.o.2.1.below hdr) (B1.o.r2.trans (hdr.mono B1.o.r2.size));have kS:Aside (U.drew.cell? ⟨g12,0,none⟩=some (.bool (dN oV))/\U.drew.cell? ⟨g12,1,none⟩=some (.slice p1 (ws (dX oV)).length q1)/\U.drew.cell? ⟨g12,2,none⟩=some (.int .i64 (dE oV))):=⟨(B1.o.1.below hdr).facts.1,(B1.o.1.below hdr).facts.2.1,(B1.o.1.below hdr).facts.2.2.1⟩;have C1:=hid (sw.o U.drew (HT.o.belows BD.o.2));clear hz HZ xX FD hdr De hle HSO HRV HL B1;go_wp2_with fail
      go_region_held3 (fun w'=>w'.cell? ⟨g12,0,none⟩=some (.bool (dN oV))/\w'.cell? ⟨g12,1,none⟩=some (.slice p1 (ws (dX oV)).length q1)/\w'.cell? ⟨g12,2,none⟩=some (.int .i64 (dE oV))) (with_reducible exact kS.o) (first
       | (go_at_call 28
          with_reducible refine C1.o.mono ?_
          rintro r u4 ⟨hd,hb⟩;obtain⟨a4,c4,rfl,iX⟩:=hd.aL;have BG:=dC (BD.o.1.below hb) (BD.o.2.trans (hb.mono BD.o.2.size)) iX;have kS:=aA (Bb hb kS.o);have C3:=hid (HR.o u4 a4 c4 (HT.o.belows BG.o.2.1) BG.o.1 BG.o.r2)
          clear hb hd iX C1)
       | (go_at_call 27
          with_reducible refine C3.o.mono ?_
          rintro r u5 ⟨rfl,hb⟩;have BF:=aA (BG.o.2.1.trans (hb.mono BG.o.2.1.size));have kS:=aA (Bb hb kS.o)
          clear hb C3))
      go_wp2;exact aG (v:=.tuple #[.float .f64 X,.int .i64 E]) (by simp[results,Tryz.results7,go_sem]) rfl ⟨rfl,BF.o⟩
theorem Of14 {w:World}{as' ap:Option Addr}{ls cs lp cp:Nat}{xs ys:List Nat}(n:Int) (ns np:Bool) (es ep less mode:Int) (h1:Arg w as' ls cs xs) (h2:Arg w ap lp cp ys) (hT:dU w) (hn:-9223372036854775808<=n/\n<=9223372036854775807) (b1:-9223372036854775808<=es/\es<=9223372036854775807) (b2:-9223372036854775808<=ep/\ep<=9223372036854775807)
 (z:Nat×Int) (hz:wT n (uo (fu (gV 0 n) (mkS np (val ys) ep)) (fu (mkS ns (val xs) es) (mkS ns (val xs) es))) less mode=z) :
 Calls Tryz.prog 7 #[.int .i64 n,.agg #[.bool ns,.slice as' ls cs,.int .i64 es],.agg #[.bool np,.slice ap lp cp,.int .i64 ep],.int .i64 less,.int .i64 mode] w fun r w'=>r=.returned (.tuple #[.float .f64 z.1,.int .i64 z.2])/\Below w.heap.size w w':=by
 refine Xp w n ns np as' ap ls cs lp cp es ep less mode _ hT (fun h=>?_) (hid fun u hu=>uw n np ns ns ep es es (h2.below hu) (h1.below hu) (h1.below hu) (hT.belows hu) hn b2 b1 b1) z hz;unfold uo at h |-
 split at h
 · rename_i q;rw[if_pos q];rw[vZ] at q;exact Xm (Ea q.1) h
 · cases h
theorem GI{u v k:Nat}{V D:Int}(hu:u<=100000)(hv:v<=100000)(hk:k<=90000)(hV:V≠0)(hD:0<D)(bV:Bd k V)(bD:Bd k D) :
 ∃ K t m,(∀ j,j=1074->gN vK 9218868437227405312 1 K t m (V.natAbs*2^(j+v)) (D.natAbs*2^u))/\∀ mode:Int,0<=mode->mode<=4->jk (gV u V) (gV v D) mode=(rK mode (decide (V<0)) K t m+(if V<0 then 9223372036854775808 else 0),0):=by
 obtain⟨Y,f,ho2,hY,hf0,hf1,hv2,yS,F2⟩:=pK (u:=v) (V:=D) hv ae hk bD;rw[decide_eq_false ae] at ho2 F2;obtain⟨X,e,ho,hX,he0,he1,hvv,hbl,F⟩:=pK (u:=u) (V:=V) hu hV hk bV;have hm1:mkS (decide (V<0)) X e=some (decide (V<0),X,e):=iW F;have hm2:mkS false Y f=some (false,Y,f):=iW F2;obtain⟨K,t,m,hL,hR⟩:=quo64 (decide (V<0)) X e Y f hX ae hbl yS;refine⟨K,t,m,fun j hj=>?_,fun mode hm0 sU=>?_⟩
 · refine hL.uD (iq ae (aZ _)) ?_;unfold uh nO;rw[<-hvv,<-hv2]
   have e1:X*2^(e-f+((1*1074:Nat):Int)).toNat*(Y*2^(f+(v:Int)).toNat*2^u)=X*Y*(2^((e-f+((1*1074:Nat):Int)).toNat+((f+(v:Int)).toNat+u))):=by
    rw[aJ,aJ,aM Y,wo]
   have e2:X*2^(e+(u:Int)).toNat*2^(j+v)*(Y*2^(-(e-f+((1*1074:Nat):Int))).toNat)=X*Y*(2^((e+(u:Int)).toNat+(j+v)+(-(e-f+((1*1074:Nat):Int))).toNat)):=by
    rw[aJ _ (_+_),aJ _ (e+(u:Int)).toNat,aM X,wo]
   rw[e1,e2];congr 2;omega
 · unfold jk;rw[ho,ho2];show Gb iC ⟨decide (V<0),.bool false,X,e,false,.bool false,Y,f⟩ mode=_;unfold Gb;rw[if_neg ae,if_pos (by rw[qK];show xu X (decide (V<0)) e Y false f=0;unfold xu;rw[if_neg (by unfold xg;simp;split <;> omega),hm1,hm2];simp[dX];omega),hm1,hm2];have:=hR mode hm0 sU;simp only[decide_eq_true_eq] at this;exact this
theorem xZ{u v k:Nat}{D:Int}(hv:v<=100000)(hk:k<=90000)(hD:0<D)(bD:Bd k D)(mode:Int)(m0:0<=mode)(m4:mode<=4):jk (gV u 0) (gV v D) mode=(0,0):=by
 obtain⟨Y,f,ho2,hY,hf0,hf1,hv2,yS,F2⟩:=pK (u:=v) (V:=D) hv ae hk bD;rw[decide_eq_false ae] at ho2 F2;have hm2:mkS false Y f=some (false,Y,f):=iW F2;unfold jk;rw[nP,ho2];show Gb iC ⟨false,.bool false,0,0,false,.bool false,Y,f⟩ mode=_;unfold Gb;rw[if_neg ae,if_pos (by rw[qK];show xu 0 false 0 Y false f=0;unfold xu;rw[if_neg (by unfold xg;simp;split <;> omega),hm2,fq];simp[dX];omega),fq,hm2];show iC (oz false 0 0 Y f) mode=_;rw[F9 _ _ _ _ ae yS,qZ mode false 0 0 m0 m4];rfl
theorem JJ{u v k:Nat}{V D:Int}(hu:u<=100000)(hv:v<=100000)(hk:k<=90000)(hV:0<V)(hD:0<D)(bV:Bd k V)(bD:Bd k D) :
 ∃ K t m,(∀ j,j=2148->gN vK 9218868437227405312 2 K t m (V.natAbs*2^(j+v)) (D.natAbs*2^u))/\∀ mode:Int,0<=mode->mode<=4->jI (gV u V) (gV v D) mode=(rK mode false K t m,0):=by
 obtain⟨Y,f,ho2,hY,hf0,hf1,hv2,yS,F2⟩:=pK (u:=v) (V:=D) hv ae hk bD;rw[decide_eq_false ae] at ho2 F2;obtain⟨X,e,ho,hX,he0,he1,hvv,hbl,F⟩:=pK (u:=u) (V:=V) hu ae hk bV;rw[decide_eq_false ae] at ho F;have hm1:mkS false X e=some (false,X,e):=iW F;have hm2:mkS false Y f=some (false,Y,f):=iW F2;obtain⟨K,t,m,hL,hR⟩:=Yc X e Y f hX ae hbl yS;refine⟨K,t,m,fun j hj=>?_,fun mode hm0 sU=>?_⟩
 · refine hL.uD (iq ae (aZ _)) ?_;unfold uh nO;rw[<-hvv,<-hv2]
   have e1:X*2^(e-f+((2*1074:Nat):Int)).toNat*(Y*2^(f+(v:Int)).toNat*2^u)=X*Y*(2^((e-f+((2*1074:Nat):Int)).toNat+((f+(v:Int)).toNat+u))):=by
    rw[aJ,aJ,aM Y,wo]
   have e2:X*2^(e+(u:Int)).toNat*2^(j+v)*(Y*2^(-(e-f+((2*1074:Nat):Int))).toNat)=X*Y*(2^((e+(u:Int)).toNat+(j+v)+(-(e-f+((2*1074:Nat):Int))).toNat)):=by
    rw[aJ _ (_+_),aJ _ (e+(u:Int)).toNat,aM X,wo]
   rw[e1,e2];congr 2;omega
 · unfold jI;rw[ho,ho2];show xq iC ⟨false,.bool false,X,e,false,.bool false,Y,f⟩ mode=_;unfold xq;rw[if_neg ae,if_pos (by rw[qK];show xu X false e Y false f=0;unfold xu;rw[if_neg (by unfold xg;simp;split <;> omega),hm1,hm2];simp[dX];omega),hm1,hm2];show(if false=true then((0,110):Nat×Int) else iC (xn X e Y f) mode)=_;rw[if_neg aj];exact hR mode hm0 sU
def Xq(n K:Nat)(t:Bool)(m:Int)(V S:Nat):Bool :=
 decide (K<9218868437227405312)&&decide (0<S) &&
 (if t then decide (V=vK K^n*S) else decide (vK K^n*S<V) &&
  ((decide (V<vK (K+1)^n*S)&&((m==-1&&decide (2^n*V<(vK K+vK (K+1))^n*S)) || (m==0&&decide (2^n*V=(vK K+vK (K+1))^n*S)) || (m==1&&decide ((vK K+vK (K+1))^n*S<2^n*V)))) || (decide (¬ V<vK (K+1)^n*S)&&(decide (K+1=9218868437227405312)&&m==1))))
theorem GJ{n K:Nat}{t:Bool}{m:Int}{V S:Nat}(h:Xq n K t m V S=true):gN vK 9218868437227405312 n K t m V S:=by
 unfold Xq at h;simp only[vZ,decide_eq_true_eq] at h;obtain⟨⟨h1,h2⟩,h3⟩:=h
 cases t with
 | true =>
   simp only[if_true,decide_eq_true_eq] at h3;exact⟨h1,h2,fun _=>h3,fun q=>(by cases q),fun q=>(by cases q),fun q=>(by cases q)⟩
 | false =>
   simp only[fJ,if_false,vZ,Bool.or_eq_true,decide_eq_true_eq,beq_iff_eq] at h3;refine⟨h1,h2,fun q=>(by cases q),fun _=>h3.1,fun _ hv=>?_,fun _=>?_⟩
   · rcases h3.2 with ⟨_,(q | q) | q⟩ | ⟨q,_⟩
     · exact .inl q
     · exact .inr (.inl q)
     · exact .inr (.inr q)
     · exact absurd hv q
   · rcases h3.2 with ⟨q,_⟩ | ⟨_,q⟩
     · exact .inl q
     · exact .inr q
theorem gN.sP{n K K':Nat}{t t':Bool}{m m':Int}{V S:Nat}(hn:n≠0)(h:gN vK 9218868437227405312 n K t m V S)(h':gN vK 9218868437227405312 n K' t' m' V S):K=K'/\t=t'/\(t=false->m=m'):=by
 have a1:vK K^n*S<=V:=by
  cases t with
  | true=>have:=h.one rfl;omega
  | false=>have:=h.low rfl;omega
 have a2:K+1=9218868437227405312\/V<vK (K+1)^n*S:=by
  cases t with
  | true =>
    have:=h.one rfl;have:=dO (Nat.pow_lt_pow_left (vL.mono (show K<K+1 by omega)) hn) h.pos;omega
  | false =>
    rcases h.high rfl with q|q
    · exact .inr q
    · omega
 obtain⟨e1,e2,e3⟩:=gN.doc vL (Nat.pos_of_ne_zero hn) h' K h.fin a1 a2;obtain⟨_,f2,f3⟩:=gN.doc vL (Nat.pos_of_ne_zero hn) h K h.fin a1 a2;subst e1;rw[<-f2] at e2;refine⟨rfl,e2.symm,fun ht=>?_⟩;rw[f3 ht,e3 (by rw[e2];exact ht)]
theorem kK{mode:Int}{n:Bool}{K K':Nat}{t t':Bool}{m m':Int}(h:K=K'/\t=t'/\(t=false->m=m')):rK mode n K t m=rK mode n K' t' m':=by
 obtain⟨rfl,rfl,h⟩:=h
 cases t with
 | true=>rfl
 | false=>rw[h rfl]
theorem TF{u v k:Nat}{V D:Int}(hu:u<=100000)(hv:v<=100000)(hk:k<=90000)(hD:decide (0<D)=true)(bV:Bd k V)(bD:Bd k D)(mode:Int)(hm:decide (0<=mode/\mode<=4)=true)(K:Nat)(t:Bool)(m:Int)(ng:Bool)(hV:(decide (V≠0)&&(decide (V<0)==ng))=true)(hc:Xq 1 K t m (V.natAbs*2^(1074+v)) (D.natAbs*2^u)=true) :
 jk (gV u V) (gV v D) mode=(rK mode ng K t m+(if ng then 9223372036854775808 else 0),0):=by
 have hD:=of_decide_eq_true hD;have hm:=of_decide_eq_true hm;rw[vZ,beq_iff_eq] at hV;obtain⟨K',t',m',hL,hR⟩:=GI hu hv hk (of_decide_eq_true hV.1) hD bV bD;rw[hR mode hm.1 hm.2,kK ((hL 1074 rfl).sP aj (GJ hc)),<-hV.2];simp only[decide_eq_true_eq]
theorem s_at{u v k:Nat}{V D:Int}(hu:u<=100000)(hv:v<=100000)(hk:k<=90000)(hD:decide (0<D)=true)(hV:decide (0<V)=true)(bV:Bd k V)(bD:Bd k D)(mode:Int)(hm:decide (0<=mode/\mode<=4)=true)(K:Nat)(t:Bool)(m:Int)(hc:Xq 2 K t m (V.natAbs*2^(2148+v)) (D.natAbs*2^u)=true) :
 jI (gV u V) (gV v D) mode=(rK mode false K t m,0):=by
 have hD:=of_decide_eq_true hD;have hV:=of_decide_eq_true hV;have hm:=of_decide_eq_true hm;obtain⟨K',t',m',hL,hR⟩:=JJ hu hv hk hV hD bV bD;rw[hR mode hm.1 hm.2,kK ((hL 2148 rfl).sP aj (GJ hc))]
theorem iE{xs:List Nat}(h:xs.all (fun x=>decide (x<18446744073709551616))=true):mE xs:=fun x hx=>of_decide_eq_true (CP.1 h x hx)
theorem cVa:kr jk [4607182418800017408,4611686018427387904,4613937818241073152,4616189618054758400] 0 0 0 0=(rK 0 false 4608308318706860032 true (0),0):=by
 have e1:(pI 0&&lsB 0)=true:=aj
 have e2:Ps.gG 0 0 [4607182418800017408,4611686018427387904,4613937818241073152,4616189618054758400]=0:=by decide +kernel
 have e3:Pg 0 0 [4607182418800017408,4611686018427387904,4613937818241073152,4616189618054758400]=false:=by decide +kernel
 have e4:Ps.fin [4607182418800017408,4611686018427387904,4613937818241073152,4616189618054758400]=[4607182418800017408,4611686018427387904,4613937818241073152,4616189618054758400]:=by decide +kernel
 have w:mE [4607182418800017408,4611686018427387904,4613937818241073152,4616189618054758400]:=iE aj;have f:∀ x ∈ [4607182418800017408,4611686018427387904,4613937818241073152,4616189618054758400],dR x:=(ji _).1 (by decide +kernel);unfold kr;rw[e1,if_pos rfl,e2,if_pos rfl,e3,if_neg aj,e4,if_neg aj];exact(TF (k:=4229) aj aj aj aj (lD w f w f aj rfl) ((zW aj aj aj).mono aj) 0 aj 4608308318706860032 true (0) false (by decide +kernel) (by decide +kernel)).trans (by rfl)
theorem cVb:kr jk [4607182418800017408,4611686018427387904,4613937818241073152,4616189618054758400] 1 0 0 0=(rK 0 false 4610184818551597738 false (1),0):=by
 have e1:(pI 0&&lsB 1)=true:=aj
 have e2:Ps.gG 0 0 [4607182418800017408,4611686018427387904,4613937818241073152,4616189618054758400]=0:=by decide +kernel
 have e3:Pg 0 0 [4607182418800017408,4611686018427387904,4613937818241073152,4616189618054758400]=false:=by decide +kernel
 have e4:Ps.fin [4607182418800017408,4611686018427387904,4613937818241073152,4616189618054758400]=[4607182418800017408,4611686018427387904,4613937818241073152,4616189618054758400]:=by decide +kernel
 have w:mE [4607182418800017408,4611686018427387904,4613937818241073152,4616189618054758400]:=iE aj;have f:∀ x ∈ [4607182418800017408,4611686018427387904,4613937818241073152,4616189618054758400],dR x:=(ji _).1 (by decide +kernel);unfold kr;rw[e1,if_pos rfl,e2,if_pos rfl,e3,if_neg aj,e4,if_neg aj];exact(TF (k:=4229) aj aj aj aj (lD w f w f aj rfl) ((zW aj aj aj).mono aj) 0 aj 4610184818551597738 false (1) false (by decide +kernel) (by decide +kernel)).trans (by rfl)
theorem cSc:kr jI [4607182418800017408,4611686018427387904,4613937818241073152,4616189618054758400] 1 0 0 0=(rK 0 false 4608492941290910865 false (-1),0):=by
 have e1:(pI 0&&lsB 1)=true:=aj
 have e2:Ps.gG 0 0 [4607182418800017408,4611686018427387904,4613937818241073152,4616189618054758400]=0:=by decide +kernel
 have e3:Pg 0 0 [4607182418800017408,4611686018427387904,4613937818241073152,4616189618054758400]=false:=by decide +kernel
 have e4:Ps.fin [4607182418800017408,4611686018427387904,4613937818241073152,4616189618054758400]=[4607182418800017408,4611686018427387904,4613937818241073152,4616189618054758400]:=by decide +kernel
 have w:mE [4607182418800017408,4611686018427387904,4613937818241073152,4616189618054758400]:=iE aj;have f:∀ x ∈ [4607182418800017408,4611686018427387904,4613937818241073152,4616189618054758400],dR x:=(ji _).1 (by decide +kernel);unfold kr;rw[e1,if_pos rfl,e2,if_pos rfl,e3,if_neg aj,e4,if_neg aj];exact s_at (k:=4229) aj aj aj aj (by decide +kernel) (lD w f w f aj rfl) ((zW aj aj aj).mono aj) 0 aj 4608492941290910865 false (-1) (by decide +kernel)
theorem Z0:kr jk [4617315517961601024] 1 0 0 0=(0,3):=by
 have e2:Ps.gG 0 0 [4617315517961601024]=0:=by decide +kernel
 have e3:Pg 0 0 [4617315517961601024]=false:=by decide +kernel
 have e4:Ps.fin [4617315517961601024]=[4617315517961601024]:=by decide +kernel
 unfold kr;rw[if_pos aj,e2,if_pos rfl,e3,if_neg aj,e4,if_pos aj]
theorem cVarg:kr jk [4617315517961601024] 2 0 0 0=(0,1):=by
 unfold kr;rw[if_neg aj]
theorem cCen:Be [4607182418800017408,4611686018427387904,4618441417868443648] 3 0=(rK 0 false 4618441417868443648 true (0),0):=by
 have e2:rR [4607182418800017408,4611686018427387904,4618441417868443648]=0:=by decide +kernel
 have w:mE [4607182418800017408,4611686018427387904,4618441417868443648]:=iE aj;have f:∀ x ∈ [4607182418800017408,4611686018427387904,4618441417868443648],dR x:=(ji _).1 (by decide +kernel);unfold Be;rw[if_pos aj,e2,if_pos rfl,if_neg aj];exact(TF (u:=1074*3) (k:=20016) aj aj aj aj (Lb w f aj 3 aj aj) (Bd.mono (m:=64) ((Bd.nat (k:=16) (n:=3) aj).pow 4) aj) 0 aj 4618441417868443648 true (0) false (by decide +kernel) (by decide +kernel)).trans (by rfl)
theorem cCo:Pz [4607182418800017408,4611686018427387904,4613937818241073152] [4611686018427387904,4616189618054758400,4619567317775286272] 1 0=(rK 0 false 4612811918334230528 true (0),0):=by
 have e2:zY [4607182418800017408,4611686018427387904,4613937818241073152] [4611686018427387904,4616189618054758400,4619567317775286272]=0:=by decide +kernel
 have w:mE [4607182418800017408,4611686018427387904,4613937818241073152]:=iE aj;have f:∀ x ∈ [4607182418800017408,4611686018427387904,4613937818241073152],dR x:=(ji _).1 (by decide +kernel);have w2:mE [4611686018427387904,4616189618054758400,4619567317775286272]:=iE aj;have f2:∀ x ∈ [4611686018427387904,4616189618054758400,4619567317775286272],dR x:=(ji _).1 (by decide +kernel);unfold Pz;rw[if_pos aj,e2,if_pos rfl,if_neg aj];exact(TF (k:=4229) aj aj aj aj (lD w f w2 f2 aj rfl) ((zW (n:=3) aj aj aj).mono aj) 0 aj 4612811918334230528 true (0) false (by decide +kernel) (by decide +kernel)).trans (by rfl)
theorem cLi:Bf [4607182418800017408,4611686018427387904,4613937818241073152] [4613937818241073152,4611686018427387904,4607182418800017408] 2=(nH (rK 3 false 4607182418800017408 true (0)),0):=by
 have e2:zY [4607182418800017408,4611686018427387904,4613937818241073152] [4613937818241073152,4611686018427387904,4607182418800017408]=0:=by decide +kernel
 have w:mE [4607182418800017408,4611686018427387904,4613937818241073152]:=iE aj;have f:∀ x ∈ [4607182418800017408,4611686018427387904,4613937818241073152],dR x:=(ji _).1 (by decide +kernel);have w2:mE [4613937818241073152,4611686018427387904,4607182418800017408]:=iE aj;have f2:∀ x ∈ [4613937818241073152,4611686018427387904,4607182418800017408],dR x:=(ji _).1 (by decide +kernel);have hq:decide (cS [4607182418800017408,4611686018427387904,4613937818241073152] [4607182418800017408,4611686018427387904,4613937818241073152]*cS [4613937818241073152,4611686018427387904,4607182418800017408] [4613937818241073152,4611686018427387904,4607182418800017408]=0)=false:=by decide +kernel
 have hc:decide (0<=cS [4607182418800017408,4611686018427387904,4613937818241073152] [4613937818241073152,4611686018427387904,4607182418800017408])=false:=by decide +kernel
 have bc:=lD w f w2 f2 aj rfl;have bq:=(lD w f w f aj rfl).mul (lD w2 f2 w2 f2 aj rfl);have hs:=s_at (u:=4296) (v:=4296) (k:=8458) aj aj aj (by decide +kernel) (by decide +kernel) (bc.mul bc) bq 3 aj 4607182418800017408 true (0) (by decide +kernel);unfold Bf;rw[if_pos aj,e2,if_pos rfl,if_neg aj,if_neg (of_decide_eq_false hq)];unfold PD;rw[if_neg (of_decide_eq_false hc),show JH 2=3 by decide,hs,if_pos rfl]
theorem cFlat:Bf [4607182418800017408,4607182418800017408] [4607182418800017408,4611686018427387904] 0=(0,190):=by
 have e2:zY [4607182418800017408,4607182418800017408] [4607182418800017408,4611686018427387904]=0:=by decide +kernel
 have hq:decide (cS [4607182418800017408,4607182418800017408] [4607182418800017408,4607182418800017408]*cS [4607182418800017408,4611686018427387904] [4607182418800017408,4611686018427387904]=0)=true:=by decide +kernel
 unfold Bf;rw[if_pos aj,e2,if_pos rfl,if_neg aj,if_pos (of_decide_eq_true hq)]
theorem cOf:wT 4 (uo (fu (gV 0 4) (gV 0 30)) (fu (gV 0 10) (gV 0 10))) 0 0=(rK 0 false 4608308318706860032 true (0),0):=by
 have b:∀ x:Nat,x<=64->Bd 6 (x:Int):=fun x hx=>Bd.nat ae;have e1:fu (gV 0 4) (gV 0 30)=gV 0 120:=mY (u:=0) (v:=0) aj aj aj aj (b 4 aj) (b 30 aj);have e2:fu (gV 0 10) (gV 0 10)=gV 0 100:=mY (u:=0) (v:=0) aj aj aj aj (b 10 aj) (b 10 aj);have b1:Bd 12 (120:Int):=Bd.nat (n:=120) aj;have b2:Bd 12 (100:Int):=Bd.nat (n:=100) aj
 have e3:uo (gV 0 120) (gV 0 100)=gV 0 (20):=by
  unfold uo;rw[(dJ (u:=0) aj aj b1).sm,(dJ (u:=0) aj aj b2).sm];exact Sg (u:=0) aj aj b1 b2
 have b3:Bd 13 (20:Int):=Bd.sub b1 b2;rw[e1,e2,e3];unfold wT;rw[if_pos aj,(dJ (u:=0) aj aj b3).sm,if_pos rfl,if_neg aj];exact(TF (u:=0) (v:=0) (k:=13) aj aj aj aj b3 (Bd.nat (k:=13) (n:=16) aj) 0 aj 4608308318706860032 true (0) false aj (by decide +kernel)).trans (by rfl)
theorem Xr:∃ d:TypeDesc,Tryz.prog.underlying 44=some d/\d.isRow=true:=by
 have h:(Tryz.prog.underlying 44).any (·.isRow)=true:=by kernel_rfl
 cases hd:Tryz.prog.underlying 44 with
 | none=>rw[hd] at h;cases h
 | some d=>rw[hd] at h;exact⟨d,rfl,h⟩
theorem TG:(Tryz.prog.info? 44).map (·.size)=some 2:=by kernel_rfl
theorem JK{fn:Func}{p:Tmp}(h:fn.results=#[.cell p 44])(tmps:Array Value)(W:World)(g:Nat)(x y:Value)(hp:tmps.getD p undef=.pointer (some ⟨g,0,none⟩))(hD:W.heap[g]?=some (.cells #[x,y] 44 (0,0))) :
 (results fn tmps).run Tryz.prog W=.ok (.agg #[x,y]) W:=by
 obtain⟨d,h1,h2⟩:=Xr
 cases d <;> first
  | exact results_cell_row (P:=Tryz.prog) h tmps W g 44 _ _ _ hp hD h1 rfl (by rw[TG];rfl)
  | exact absurd h2 (by simp[TypeDesc.isRow])
theorem pM(w:World):Calls Tryz.prog 17 #[] w fun r w'=>r=.returned (.agg #[.int .i64 0,.int .i64 0])/\Below w.heap.size w w':=by
 go_enter Tryz.func17,Tryz.ntmps17;go_wp2;exact aG (v:=.agg #[.int .i64 0,.int .i64 0]) (JK Tryz.results17 _ _ w.heap.size _ _ rfl (gY _ _)) rfl ⟨rfl,af _ _⟩
theorem pO(x y:Nat)(h:x=y)(w:World):Calls Tryz.prog 23 #[.float .f64 x,.int .i64 0,.float .f64 y] w fun r w'=>r=.returned (.bool true)/\w'=w:=by
 have C:Hid (Calls Tryz.prog 10 #[.float .f64 x,.float .f64 y] w fun r w'=>r=.returned (.bool true)/\w'=w):=by
  have:=KJ x y w;rw[h,beq_self_eq_true] at this;rw[h];exact this
 clear h;go_enter Tryz.func23,Tryz.ntmps23;go_wp2_with fail;refine C.o.mono ?_;rintro r u ⟨rfl,rfl⟩;exact XS
theorem wU(w:World)(xs:List Nat):Fs (w.alloc (Obj.cells (xs.map vD).toArray 28)).heap.size (w.alloc (Obj.cells (xs.map vD).toArray 28)) (some ⟨w.heap.size,0,none⟩) xs:=by
 intro _;refine⟨w.heap.size,0,aQ,rfl,fun i hi=>?_⟩;have hO:VZ (w.alloc (Obj.cells (xs.map vD).toArray 28)) w.heap.size xs:=gY _ _;rw[eP];exact hO.cell i hi
theorem JL(w:World)(xs:List Nat)(g:Nat)(hg:g=w.heap.size):Fs (w.alloc (Obj.cells (xs.map vD).toArray 28)).heap.size (w.alloc (Obj.cells (xs.map vD).toArray 28)) (some ⟨g,0,none⟩) xs:=by subst hg;exact wU w xs
end
end Go.Proofs.YtfmfhehbdfhnbaaGreatDoor
