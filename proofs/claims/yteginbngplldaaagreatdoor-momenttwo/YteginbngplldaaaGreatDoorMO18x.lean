import Derived.Test.YteginbngplldaaaGreatDoorMO14x
import Derived.Test.YteginbngplldaaaGreatDoorD32cx
import Derived.Test.YteginbngplldaaaGreatDoorZ47x
import Derived.Test.YteginbngplldaaaGreatDoorZ22x
import Derived.Test.YteginbngplldaaaGreatDoorW17x
import Derived.ChangeKeysEq
import Derived.Laws.OwnMore
import Derived.Lib.SliceRun
import Derived.Deep.RegionHeld
import Derived.Test.YteginbngplldaaaGreatDoorW7x
import Derived.Test.YteginbngplldaaaGreatDoorD2x
import Derived.Deep.RegionWith
import Derived.Test.YteginbngplldaaaGreatDoorD19x
import Derived.Test.YteginbngplldaaaGreatDoorF2x
import Derived.Deep.LoopGhost
set_option linter.unusedVariables false
set_option linter.unusedSimpArgs false
set_option maxHeartbeats 16000000
set_option maxRecDepth 20000
namespace Go.Proofs.YteginbngplldaaaGreatDoor
namespace J
end J
section
open Go Go.RowKit J
noncomputable def QM (xs ys:List Nat) (mode:Int):Nat×Int :=
 if p9 mode then
  if nW xs ys=0 then
   if xs=[] then(0,3) else if cS xs xs*cS ys ys=0 then(0,190) else VM (cS xs ys) (cS xs xs*cS ys ys) mode
  else(0,nW xs ys)
 else(0,1)
theorem QN{w:World}{a b:Option Addr}{ca cb:Nat}{c q:Int}(mode:Int)(hm:p9 mode=true)(hq:0<q)(bc:Bd 4229 c)(bq:Bd 8458 q)(hT:dH w)(N1:Nt 0 w (.slice a (ws (dX (gV 2148 c))).length ca) (dX (gV 2148 c)))(N2:Nt 0 w (.slice b (ws (dX (gV 4296 q))).length cb) (dX (gV 4296 q))) :
 At 43 #[.agg #[.bool (dN (gV 2148 c)),.slice a (ws (dX (gV 2148 c))).length ca,.int .i64 (dE (gV 2148 c))],.agg #[.bool (dN (gV 4296 q)),.slice b (ws (dX (gV 4296 q))).length cb,.int .i64 (dE (gV 4296 q))],.int .i64 mode] w (.tuple #[.float .f64 (VM c q mode).1,.int .i64 (VM c q mode).2]):=by
 have FC:Fm (gV 2148 c):=aZ (by decide) (by decide) bc;have FQ:Fm (gV 4296 q):=aZ (by decide) (by decide) bq;have FP:Fm (gV 4296 (c*c)):=aZ (by decide) (by decide) (bc.mul bc);have E:dY (gV 2148 c) (gV 2148 c)=gV 4296 (c*c):=iR (by decide) (by decide) (by decide) (by decide) bc bc;obtain⟨s1,s2⟩:=VL (u:=2148) (by decide) (by decide) bc
 have hS:∀ (u:World) (p:Option Addr) (k:Nat),Nt 0 u (.slice p (ws (dX (gV 2148 c))).length k) (dX (gV 2148 c))->At 42 #[.agg #[.bool (dN (gV 2148 c)),.slice p (ws (dX (gV 2148 c))).length k,.int .i64 (dE (gV 2148 c))]] u (.int .i64 (rO (dN (gV 2148 c)) (dX (gV 2148 c)))):=fun u p k hN=>by
  have:=tN (FC.a12 hN) (dN (gV 2148 c)) (dE (gV 2148 c));exact yy
 by_cases h0:0<=c
 · obtain⟨k1,k2⟩:=QL (c:=c) (q:=q) (mode:=mode) (k:=8458) (by decide) hq (bc.mul bc) bq hm;refine uT w a b ca cb (gV 2148 c) (gV 4296 q) (gV 4296 (c*c)) mode _ (zD mode) true (mr (gV 4296 (c*c)) (gV 4296 q) mode).1 _ hT ⟨FC,FQ,FP⟩ E (hid hS) (by rw[s2];exact decide_eq_true h0) (hid fun u=>xV mode u) (hid fun u ap b cp cb qD n1 n2=>?_) k2 ?_ N1 N2
   · have:=G6 mode FP FQ n1 n2 qD;rw[k1] at this;exact this
   · unfold VM;rw[if_pos h0];exact Prod.ext rfl k1
 · obtain⟨k1,k2⟩:=QL (c:=c) (q:=q) (mode:=zD mode) (k:=8458) (by decide) hq (bc.mul bc) bq (QK hm);refine uT w a b ca cb (gV 2148 c) (gV 4296 q) (gV 4296 (c*c)) mode _ (zD mode) false (mr (gV 4296 (c*c)) (gV 4296 q) (zD mode)).1 _ hT ⟨FC,FQ,FP⟩ E (hid hS) (by rw[s2];exact decide_eq_false h0) (hid fun u=>xV mode u) (hid fun u ap b cp cb qD n1 n2=>?_) k2 ?_ N1 N2
   · have:=G6 (zD mode) FP FQ n1 n2 qD;rw[k1] at this;exact this
   · unfold VM;rw[if_neg h0,if_pos k1];rfl
theorem VN(f:Nat->Int):∀ n:Nat,0<=(n:Int)*tS (fun i=>f i*f i) n-tS f n*tS f n
 | 0=>by simp[tS]
 | n+1=>by
   have ih:=VN f n
   have h2:∀ m:Nat,0<=(m:Int)*f n*f n-2*f n*tS f m+tS (fun i=>f i*f i) m:=by
    intro m
    induction m with
    | zero=>simp[tS]
    | succ m ihm =>
      have:=QJ (f n-f m);simp only[kL]
      grind
   have:=h2 n;simp only[kL]
   grind
theorem Jz(xs:List Nat):0<=cS xs xs:=VN (fX xs) xs.length
theorem nM.other{w v:World}{n gx gy gA gB g:Nat}{p1 p2:Option Addr}{q1 q2:Nat}{A B:Nat->Option (Bool×Nat×Int)}{oS oT q:Option (Bool×Nat×Int)}(h:nM w v n gx gy gA gB p1 p2 q1 q2 A B oS oT)(hL:Lo v g q)(h1:gx≠g)(h2:gy≠g)(h3:w.heap.size<=gx/\gA<gx/\gB<gx/\gx<gy)(x y z:Value)(hgg:w.heap.size<=g:=by first | omega | assumption)(hA:gA≠g:=by omega)(hB:gB≠g:=by omega):nM w (dh v g x y z) n gx gy gA gB p1 p2 q1 q2 A B oS oT:=by
 have hb:=kI g v x y z;obtain⟨a0,c0,hD,hM⟩:=hL;exact⟨h.x.but hb h1,h.y.but hb h2,h.dx.but (T:=37) (L:=[_,_,_]) hb hD hA (by decide),h.dy.but (T:=37) (L:=[_,_,_]) hb hD hB (by decide),h.nx.rR hD _ _ _,h.ny.rR hD _ _ _,di h.b h.b.size hgg _ _ _⟩
theorem BQ(xs ys:List Nat)(a a2:Option Addr)(n n2 c c2:Nat)(mode:Int)(w:World)(hn:n=xs.length)(hn2:n2=ys.length)(hF:Fs w.heap.size w a xs)(hG:Fs w.heap.size w a2 ys)(hW:j4 xs)(hW2:j4 ys)(hT:dH w)(hl:n<=35184372088832)(hl2:n2<=35184372088832)(z:Nat×Int)(hz:QM xs ys mode=z) :
 At 12 #[.slice a n c,.slice a2 n2 c2,.int .i64 mode] w (.tuple #[.float .f64 z.1,.int .i64 z.2]):=by
 obtain⟨X,E⟩:=z;simp only;have C:=hid (iT mode w);unfold QM at hz
 cases hm:p9 mode with
 | false =>
   rw[hm,if_neg (by decide)] at hz;rw[hm] at C;obtain⟨rfl,rfl⟩:=eP hz;clear hz hn hF hW hT hn2 hG hW2;go_enter Tryz.func12,Tryz.ntmps12;go_wp2_with fail;refine C.o.mono ?_;rintro r v ⟨rfl,hv⟩;rw[hv];clear hv v C;go_wp2;exact aC (v:=.tuple #[.float .f64 0,.int .i64 1]) (by simp[results,Tryz.results12,go_sem]) rfl ⟨rfl,aB _ _⟩
 | true =>
   rw[hm,if_pos rfl] at hz;rw[hm] at C;have HB:=hid (QI xs ys a a2 n n2 c c2 w hn hn2 hF hG hW hW2 hT hl hl2);have HX:=dJ hn hn2 hW hW2 hT;have HZ:=ak hz;have HMD:=ak hm;clear hz hn hF hW hT hn2 hG hW2 hl hl2 hm;go_enter Tryz.func12,Tryz.ntmps12;go_wp2_with fail;refine C.o.mono ?_;rintro r v ⟨rfl,hv⟩;rw[hv];clear hv v C;go_wp2_with fail;refine HB.o.mono ?_;rintro r u2 ⟨hr,hb⟩;rcases hr with ⟨he,rfl⟩|⟨he,v1,v2,rfl,qO,hR2⟩
   · have hz:=HZ.o;rw[if_neg he] at hz;obtain⟨rfl,hE⟩:=eP hz;rw[hE] at he |-;have h1:(E==0)=false:=by simp[he]
     have BE:Aside (An w ((u2.alloc (Obj.cells #[.slice none 0 0,.bool false,.slice none 0 0,.int .i64 0] 62)).alloc (Obj.cells #[.slice none 0 0,.bool false,.slice none 0 0,.int .i64 0] 62))):=(hb.trans ((aK _ _).mono hb.size)).trans ((aK _ _).mono (by simp;have:=hb.size;omega));clear hz HZ hE hb HB;go_wp2;exact aC (v:=.tuple #[.float .f64 0,.int .i64 E]) (by simp[results,Tryz.results12,go_sem]) rfl ⟨rfl,BE.o⟩
   · have HBO:=ak he;obtain⟨hlen,VH,hf1,hf2⟩:=Jy he;have PF:=(fE hlen VH hf1 hf2);obtain⟨gA,p1,q1,rfl,hD1,hN1⟩:=qO;obtain⟨gB,p2,q2,rfl,hD2,j5⟩:=hR2;obtain⟨oS,xS⟩:=af (gV 1074 (sX xs));obtain⟨oT,QH⟩:=af (gV 1074 (sX ys));rw[<-xS] at hN1 |-;rw[<-QH] at j5 |-;obtain⟨V,hV⟩:=af ((u2.alloc (Obj.cells #[.slice (some ⟨gA,0,none⟩) n n,.bool (dN oS),.slice p1 (ws (dX oS)).length q1,.int .i64 (dE oS)] 62)).alloc (Obj.cells #[.slice (some ⟨gB,0,none⟩) n n,.bool (dN oT),.slice p2 (ws (dX oT)).length q2,.int .i64 (dE oT)] 62));obtain⟨gx,hgx⟩:=af (u2.heap.size);obtain⟨gy,VJ⟩:=af (u2.heap.size+1)
     have B4:Aside (nM w V n gx gy gA gB p1 p2 q1 q2 (fun i=>gV 1074 (fX xs i)) (fun i=>gV 1074 (fX ys i)) oS oT):=by
      exact KB
     have HGG:Aside (w.heap.size<=gx/\gA<gx/\gB<gx/\gx<gy):=by rw[hgx,VJ];exact⟨hb.size,hD1.lt,hD2.lt,by omega⟩
     have HV:=(bO hV hgx VJ);have Ca:=(aJ xS QH);clear hV hgx VJ hb hD1 hN1 hD2 j5 HB xS QH hlen VH hf1 hf2 he
     go_upto_region 4 with fail
     rw[<-HV.o.1]
     try rw[<-HV.o.r2]
     rw[<-HV.o.2.1];clear HV;have s0:=B4.o.x.cell 0 _ rfl;have hz:=HZ.o;rw[if_pos HBO.o] at hz;have n6:n<=65536:=by have:=PF.o.2.1;have:=HX.o.1;omega
     by_cases h0:n=0
     · have hx0:xs=[]:=uy (by have:=HX.o.1;omega);rw[if_pos hx0] at hz;obtain⟨rfl,rfl⟩:=eP hz;have hn0:((n:Int)==0)=true:=by simp[h0]
       clear hz HZ h0 hx0;go_wp2;exact aC (v:=.tuple #[.float .f64 0,.int .i64 3]) (by simp[results,Tryz.results12,go_sem]) rfl ⟨rfl,B4.o.b⟩
     · have hx0:xs≠[]:=fun e=>h0 (by rw[HX.o.1,e];rfl);rw[if_neg hx0] at hz;have hn0:((n:Int)==0)=false:=by simp[h0]
       have hn0':(n:Int)≠0:=by omega
       obtain⟨A0,UF⟩:=af (gV 2148 (cS xs xs));obtain⟨B0',JC⟩:∃ o,o=gV 2148 (cS ys ys):=⟨_,rfl⟩;obtain⟨C0,UG⟩:=af (gV 2148 (cS xs ys));have b1:=jW HX.o.r2.1 PF.o.r2.1 HX.o.r2.1 PF.o.r2.1 PF.o.2.1 rfl;have b2:=jW HX.o.r3.1 PF.o.r3 HX.o.r3.1 PF.o.r3 (by rw[<-PF.o.1];exact PF.o.2.1) rfl;have b3:=jW HX.o.r2.1 PF.o.r2.1 HX.o.r3.1 PF.o.r3 PF.o.2.1 PF.o.1;obtain⟨q,hq⟩:=af (cS xs xs*cS ys ys);have bq:Bd 8458 q:=by rw[hq];exact b1.mul b2
       have hq0:0<=q:=by rw[hq];exact Int.mul_nonneg (Jz xs) (Jz ys)
       obtain⟨oQ,ZP⟩:=af (gV 4296 q);rw[<-hq] at hz;have FF:Aside (Fm A0/\Fm B0'/\Fm oQ/\Fm C0):=by rw[UF,JC,ZP,UG];exact⟨aZ (by decide) (by decide) b1,aZ (by decide) (by decide) b2,aZ (by decide) (by decide) bq,aZ (by decide) (by decide) b3⟩
       have EE:Aside (dY A0 B0'=oQ):=by show _=_;rw[UF,JC,ZP,hq];exact iR (by decide) (by decide) (by decide) (by decide) b1 b2
       have HSX:Hid (∀ u:World,nM w u n gx gy gA gB p1 p2 q1 q2 (fun i=>gV 1074 (fX xs i)) (fun i=>gV 1074 (fX ys i)) oS oT->As 41 #[.agg #[.slice (some ⟨gA,0,none⟩) n n,.bool (dN oS),.slice p1 (ws (dX oS)).length q1,.int .i64 (dE oS)],.agg #[.slice (some ⟨gA,0,none⟩) n n,.bool (dN oS),.slice p1 (ws (dX oS)).length q1,.int .i64 (dE oS)]] u fun r w'=>aN 0 w' r A0/\An u w'):=fun u hu=>by
        have hR:=hu.rx;have hS:=hu.rx;rw[Ca.o.1] at hR hS |-;have:=mY (f:=fX xs) (g:=fX xs) (S:=sX xs) (T:=sX xs) n6 (HX.o.r4.belows hu.b) (fun i hi=>gP HX.o.r2.1 PF.o.r2.1 i (by have:=HX.o.1;have:=PF.o.1;omega)) (fun i hi=>gP HX.o.r2.1 PF.o.r2.1 i (by have:=HX.o.1;have:=PF.o.1;omega)) (iA HX.o.r2.1 PF.o.r2.1 (by have:=HX.o.1;have:=PF.o.1;omega) _ (aA _)) (iA HX.o.r2.1 PF.o.r2.1 (by have:=HX.o.1;have:=PF.o.1;omega) _ (aA _)) hR hS;rw[UF];unfold cS;rw[show(xs).length=n by have:=HX.o.1;have:=PF.o.1;omega];exact this
       have HSY:Hid (∀ u:World,nM w u n gx gy gA gB p1 p2 q1 q2 (fun i=>gV 1074 (fX xs i)) (fun i=>gV 1074 (fX ys i)) oS oT->As 41 #[.agg #[.slice (some ⟨gB,0,none⟩) n n,.bool (dN oT),.slice p2 (ws (dX oT)).length q2,.int .i64 (dE oT)],.agg #[.slice (some ⟨gB,0,none⟩) n n,.bool (dN oT),.slice p2 (ws (dX oT)).length q2,.int .i64 (dE oT)]] u fun r w'=>aN 0 w' r B0'/\An u w'):=fun u hu=>by
        have hR:=hu.ry;have hS:=hu.ry;rw[Ca.o.2] at hR hS |-;have:=mY (f:=fX ys) (g:=fX ys) (S:=sX ys) (T:=sX ys) n6 (HX.o.r4.belows hu.b) (fun i hi=>gP HX.o.r3.1 PF.o.r3 i (by have:=HX.o.1;have:=PF.o.1;omega)) (fun i hi=>gP HX.o.r3.1 PF.o.r3 i (by have:=HX.o.1;have:=PF.o.1;omega)) (iA HX.o.r3.1 PF.o.r3 (by have:=HX.o.1;have:=PF.o.1;omega) _ (aA _)) (iA HX.o.r3.1 PF.o.r3 (by have:=HX.o.1;have:=PF.o.1;omega) _ (aA _)) hR hS;rw[JC];unfold cS;rw[show(ys).length=n by have:=HX.o.1;have:=PF.o.1;omega];exact this
       have HSXY:Hid (∀ u:World,nM w u n gx gy gA gB p1 p2 q1 q2 (fun i=>gV 1074 (fX xs i)) (fun i=>gV 1074 (fX ys i)) oS oT->As 41 #[.agg #[.slice (some ⟨gA,0,none⟩) n n,.bool (dN oS),.slice p1 (ws (dX oS)).length q1,.int .i64 (dE oS)],.agg #[.slice (some ⟨gB,0,none⟩) n n,.bool (dN oT),.slice p2 (ws (dX oT)).length q2,.int .i64 (dE oT)]] u fun r w'=>aN 0 w' r C0/\An u w'):=fun u hu=>by
        have hR:=hu.rx;have hS:=hu.ry;rw[Ca.o.1] at hR |-;rw[Ca.o.2] at hS |-;have:=mY (f:=fX xs) (g:=fX ys) (S:=sX xs) (T:=sX ys) n6 (HX.o.r4.belows hu.b) (fun i hi=>gP HX.o.r2.1 PF.o.r2.1 i (by have:=HX.o.1;have:=PF.o.1;omega)) (fun i hi=>gP HX.o.r3.1 PF.o.r3 i (by have:=HX.o.1;have:=PF.o.1;omega)) (iA HX.o.r2.1 PF.o.r2.1 (by have:=HX.o.1;have:=PF.o.1;omega) _ (aA _)) (iA HX.o.r3.1 PF.o.r3 (by have:=HX.o.1;have:=PF.o.1;omega) _ (aA _)) hR hS;rw[UG];unfold cS;rw[show(xs).length=n by have:=HX.o.1;have:=PF.o.1;omega];exact this
       obtain⟨s1,s2⟩:=VL (u:=4296) (by decide) (by decide) bq
       have HSg:Hid (∀ (u:World) (p:Option Addr) (k:Nat),Nt 0 u (.slice p (ws (dX oQ)).length k) (dX oQ)->At 42 #[.agg #[.bool (dN oQ),.slice p (ws (dX oQ)).length k,.int .i64 (dE oQ)]] u (.int .i64 (rO (dN oQ) (dX oQ)))):=fun u p k hN=>by
        have:=tN (FF.o.r2.1.a12 hN) (dN oQ) (dE oQ);exact yy
       rw[<-ZP] at s1;obtain⟨sg,hsg⟩:∃ s,rO (dN oQ) (dX oQ)=s:=⟨_,rfl⟩;rw[hsg] at HSg s1
       have HBR:q≠0->Hid (∀ (u:World) (a b:Option Addr) (ca cb:Nat),dH u->Nt 0 u (.slice a (ws (dX C0)).length ca) (dX C0)->Nt 0 u (.slice b (ws (dX oQ)).length cb) (dX oQ)->At 43 #[.agg #[.bool (dN C0),.slice a (ws (dX C0)).length ca,.int .i64 (dE C0)],.agg #[.bool (dN oQ),.slice b (ws (dX oQ)).length cb,.int .i64 (dE oQ)],.int .i64 mode] u (.tuple #[.float .f64 X,.int .i64 E])):=fun hqn u a b ca cb qD n1 n2=>by
        rw[if_neg hqn] at hz;rw[UG] at n1 |-;rw[ZP] at n2 |-;have:=QN mode HMD.o (by omega) b3 bq qD n1 n2;rw[hz] at this;exact this
       have HZ2:=ak hz;have XV:=ak s1;have ZQ:=ak HBR;have HT:=ak HX.o.r4;have HG:Aside (w.heap.size<=gx/\gA<gx/\gB<gx/\gx<gy):=HGG.o;clear hz HZ UF JC UG ZP hq b1 b2 b3 bq hq0 s1 s2 hsg HBR h0 hx0 n6;go_wp2_with fail
       go_cut [11] from 31 to 37 (fun q wx=>∃ g11:Nat,q=.pointer (some ⟨g11,0,none⟩)/\Aside (Lo wx g11 oQ/\nM w wx n gx gy gA gB p1 p2 q1 q2 (fun i=>gV 1074 (fX xs i)) (fun i=>gV 1074 (fX ys i)) oS oT))
       case first =>
        have BD:=ak (B4.o.below (aB V.heap.size V).drew);have kS:=ak BD.o.cells;clear B4 s0;refine dz (fun w'=>w'.cell? ⟨gx,0,none⟩=some (.slice (some ⟨gA,0,none⟩) n n)/\w'.cell? ⟨gx,1,none⟩=some (.bool (dN oS))/\w'.cell? ⟨gx,2,none⟩=some (.slice p1 (ws (dX oS)).length q1)/\w'.cell? ⟨gx,3,none⟩=some (.int .i64 (dE oS))/\w'.cell? ⟨gy,0,none⟩=some (.slice (some ⟨gB,0,none⟩) n n)/\w'.cell? ⟨gy,1,none⟩=some (.bool (dN oT))/\w'.cell? ⟨gy,2,none⟩=some (.slice p2 (ws (dX oT)).length q2)/\w'.cell? ⟨gy,3,none⟩=some (.int .i64 (dE oT))) 8 (by kernel_rfl) ?_;obtain⟨Wd,hWd⟩:=af (V.drew);rw[<-hWd] at BD kS |-;clear hWd
        refine tk 0 [2,6] rfl kS.o ?_;try simp only[Act.put,sa,sb,sc]
        refine tk 1 [2,6] rfl kS.o ?_;try simp only[Act.put,sa,sb,sc]
        refine tk 3 [5,6] rfl kS.o ?_;try simp only[Act.put,sa,sb,sc]
        refine tk 4 [5,6] rfl kS.o ?_;try simp only[Act.put,sa,sb,sc]
        refine aU (i:=2) (j:=7) (by kernel_rfl) rfl rfl (fun K' hK=>?_) (fun K' hK=>?_)
        · skip;have C:=hid (HSX.o Wd BD.o);go_simp;refine C.o.mono ?_;rintro r u1 ⟨hd,hb⟩;obtain⟨a1,c1,rfl,hN⟩:=hd.aD;have BD:=aJ (BD.o.below hb) hN;have kS:=ak (ck hb kS.o fun h=>jm hb h);clear hb hd hN C;dsimp only;refine hK.out _ _ (fun _=>kS.o) ?_;clear hK K'
          try simp only[Act.put,sa,sb,sc]
          refine aU (i:=5) (j:=7) (by kernel_rfl) rfl rfl (fun K' hK=>?_) (fun K' hK=>?_)
          · skip;have C:=hid (HSY.o u1 BD.o.1);go_simp;refine C.o.mono ?_;rintro r u2 ⟨hd,hb⟩;obtain⟨a2,c2,rfl,hN⟩:=hd.aD;have BD:=bO (BD.o.1.below hb) (BD.o.2.below hb) hN;have kS:=ak (ck hb kS.o fun h=>jm hb h);clear hb hd hN C;dsimp only;refine hK.out _ _ (fun _=>kS.o) ?_;clear hK K'
            try simp only[Act.put,sa,sb,sc]
            refine aU (i:=6) (j:=7) (by kernel_rfl) rfl rfl (fun K' hK=>?_) (fun K' hK=>?_)
            · skip;have C:=hid (gT FF.o.1 FF.o.2.1 FF.o.r2.1 BD.o.2.1 BD.o.r2 (HT.o.belows BD.o.1.b) EE.o);go_simp;refine C.o.mono ?_;rintro r u3 ⟨hd,hb⟩;obtain⟨a3,c3,rfl,hN⟩:=hd.aD;have BD:=fE (BD.o.1.below hb) (BD.o.2.1.below hb) (BD.o.r2.below hb) hN;have kS:=ak (ck hb kS.o fun h=>jm hb h);clear hb hd hN C;dsimp only;refine hK.out _ _ (fun _=>kS.o) ?_;clear hK K'
              try simp only[Act.put,sa,sb,sc]
              refine ah (i:=7) (by kernel_rfl) rfl (fun K' hK=>?_);go_simp;obtain⟨g4,hg4⟩:=af (u3.heap.size);obtain⟨V4,su⟩:=af (u3.alloc (Obj.cells #[.bool false,.slice none 0 0,.int .i64 0] 37));have hb:Below u3.heap.size u3 V4:=by rw[su];exact ae _ _
              have hZ:Lo V4 g4 gG:=by rw[su,hg4];exact Lo.zero _
              have BD:=jY (BD.o.1.below hb) (BD.o.2.1.below hb) (BD.o.r2.1.below hb) (BD.o.r3.below hb) hZ (show gx<g4 by rw[hg4];exact BD.o.1.x.lt) (show gy<g4 by rw[hg4];exact BD.o.1.y.lt);have kS:=ak (ck hb kS.o fun h=>jm hb h);have HV:=(aJ su hg4);clear hZ hb su hg4;refine hK.out _ _ (fun _=>by rw[<-HV.o.1];exact kS.o) ?_;clear hK K';rw[<-HV.o.1,<-HV.o.2];clear HV
              try simp only[Act.put,sa,sb,sc]
              obtain⟨zp,zq,DZ,MZ⟩:=BD.o.r4.1;obtain⟨z0,z1,z2,dO,dP,dQ⟩:=DZ.facts;clear DZ MZ;refine ah (i:=8) (by kernel_rfl) rfl (fun K' hK=>?_);go_simp;refine hK.out _ _ (fun h=>absurd h (by decide)) ?_;clear hK K' z0 z1 z2 dO dP dQ kS;refine aH (by kernel_rfl) ?_ _;go_wp2_with fail
              go_meet
              case rel=>exact⟨g4,rfl,BD.o.r4.1.set BD.o.r3.1,BD.o.1.other BD.o.r4.1 (dR BD.o.r5.1) (dR BD.o.r6) HG.o _ _ _ (by have:=HG.o;have:=BD.o.r5.1;omega) (by have:=HG.o;have:=BD.o.r5.1;omega) (by have:=HG.o;have:=BD.o.r5.1;omega)⟩
            · skip;go_simp;obtain⟨g5,hg5⟩:=af (u2.heap.size);obtain⟨V5,vX⟩:=af (u2.alloc (Obj.cells #[.bool false,.slice none 0 0,.int .i64 0] 37));have hb:Below u2.heap.size u2 V5:=by rw[vX];exact ae _ _
              have hZ:Lo V5 g5 gG:=by rw[vX,hg5];exact Lo.zero _
              have BD:=iC (BD.o.1.below hb) (BD.o.2.1.below hb) (BD.o.r2.below hb) hZ (show gx<g5 by rw[hg5];exact BD.o.1.x.lt) (show gy<g5 by rw[hg5];exact BD.o.1.y.lt);have kS:=ak (ck hb kS.o fun h=>jm hb h);have HV:=(aJ vX hg5);clear hZ hb vX hg5;refine hK.out _ _ (fun _=>by rw[<-HV.o.1];exact kS.o) ?_;clear hK K';rw[<-HV.o.1,<-HV.o.2];clear HV
              try simp only[Act.put,sa,sb,sc]
              refine ah (i:=6) (by kernel_rfl) rfl (fun K' hK=>?_);have C:=hid (gT FF.o.1 FF.o.2.1 FF.o.r2.1 BD.o.2.1 BD.o.r2.1 (HT.o.belows BD.o.1.b) EE.o);go_simp;refine C.o.mono ?_;rintro r u6 ⟨hd,hb⟩;obtain⟨a6,c6,rfl,hN⟩:=hd.aD;have BD:=jY (BD.o.1.below hb) (BD.o.2.1.below hb) (BD.o.r2.1.below hb) (BD.o.r3.1.below hb) BD.o.r4.1 BD.o.r5 hN;have kS:=ak (ck hb kS.o fun h=>jm hb h);clear hb hd hN C;dsimp only;refine hK.out _ _ (fun _=>kS.o) ?_;clear hK K'
              try simp only[Act.put,sa,sb,sc]
              obtain⟨zp,zq,DZ,MZ⟩:=BD.o.r3.1;obtain⟨z0,z1,z2,dO,dP,dQ⟩:=DZ.facts;clear DZ MZ;refine ah (i:=8) (by kernel_rfl) rfl (fun K' hK=>?_);go_simp;refine hK.out _ _ (fun h=>absurd h (by decide)) ?_;clear hK K' z0 z1 z2 dO dP dQ kS;refine aH (by kernel_rfl) ?_ _;go_wp2_with fail
              go_meet
              case rel=>exact⟨g5,rfl,BD.o.r3.1.set BD.o.r6,BD.o.1.other BD.o.r3.1 (dR BD.o.r4.1) (dR BD.o.r5.1) HG.o _ _ _ (by have:=HG.o;have:=BD.o.r4.1;omega) (by have:=HG.o;have:=BD.o.r4.1;omega) (by have:=HG.o;have:=BD.o.r4.1;omega)⟩
          · skip;go_simp;obtain⟨g7,mo⟩:=af (u1.heap.size);obtain⟨V7,vY⟩:=af (u1.alloc (Obj.cells #[.bool false,.slice none 0 0,.int .i64 0] 37));have hb:Below u1.heap.size u1 V7:=by rw[vY];exact ae _ _
            have hZ:Lo V7 g7 gG:=by rw[vY,mo];exact Lo.zero _
            have BD:=dJ (BD.o.1.below hb) (BD.o.2.below hb) hZ (show gx<g7 by rw[mo];exact BD.o.1.x.lt) (show gy<g7 by rw[mo];exact BD.o.1.y.lt);have kS:=ak (ck hb kS.o fun h=>jm hb h);have HV:=(aJ vY mo);clear hZ hb vY mo;refine hK.out _ _ (fun _=>by rw[<-HV.o.1];exact kS.o) ?_;clear hK K';rw[<-HV.o.1,<-HV.o.2];clear HV
            try simp only[Act.put,sa,sb,sc]
            refine ah (i:=5) (by kernel_rfl) rfl (fun K' hK=>?_);have C:=hid (HSY.o V7 BD.o.1);go_simp;refine C.o.mono ?_;rintro r u8 ⟨hd,hb⟩;obtain⟨a8,c8,rfl,hN⟩:=hd.aD;have BD:=iC (BD.o.1.below hb) (BD.o.2.1.below hb) (BD.o.r2.1.below hb) BD.o.r3.1 BD.o.r4 hN;have kS:=ak (ck hb kS.o fun h=>jm hb h);clear hb hd hN C;dsimp only;refine hK.out _ _ (fun _=>kS.o) ?_;clear hK K'
            try simp only[Act.put,sa,sb,sc]
            refine ah (i:=6) (by kernel_rfl) rfl (fun K' hK=>?_);have C:=hid (gT FF.o.1 FF.o.2.1 FF.o.r2.1 BD.o.2.1 BD.o.r5 (HT.o.belows BD.o.1.b) EE.o);go_simp;refine C.o.mono ?_;rintro r u9 ⟨hd,hb⟩;obtain⟨a9,c9,rfl,hN⟩:=hd.aD;have BD:=jY (BD.o.1.below hb) (BD.o.2.1.below hb) (BD.o.r2.1.below hb) BD.o.r3.1 BD.o.r4.1 (BD.o.r5.below hb) hN;have kS:=ak (ck hb kS.o fun h=>jm hb h);clear hb hd hN C;dsimp only;refine hK.out _ _ (fun _=>kS.o) ?_;clear hK K'
            try simp only[Act.put,sa,sb,sc]
            obtain⟨zp,zq,DZ,MZ⟩:=BD.o.r2.1;obtain⟨z0,z1,z2,dO,dP,dQ⟩:=DZ.facts;clear DZ MZ;refine ah (i:=8) (by kernel_rfl) rfl (fun K' hK=>?_);go_simp;refine hK.out _ _ (fun h=>absurd h (by decide)) ?_;clear hK K' z0 z1 z2 dO dP dQ kS;refine aH (by kernel_rfl) ?_ _;go_wp2_with fail
            go_meet
            case rel=>exact⟨g7,rfl,BD.o.r2.1.set BD.o.r6,BD.o.1.other BD.o.r2.1 (dR BD.o.r3.1) (dR BD.o.r4.1) HG.o _ _ _ (by have:=HG.o;have:=BD.o.r3.1;omega) (by have:=HG.o;have:=BD.o.r3.1;omega) (by have:=HG.o;have:=BD.o.r3.1;omega)⟩
        · skip;go_simp;obtain⟨g10,jX⟩:=af (Wd.heap.size);obtain⟨G9,nL⟩:=af (Wd.alloc (Obj.cells #[.bool false,.slice none 0 0,.int .i64 0] 37));have hb:Below Wd.heap.size Wd G9:=by rw[nL];exact ae _ _
          have hZ:Lo G9 g10 gG:=by rw[nL,jX];exact Lo.zero _
          have BD:=fE (BD.o.below hb) hZ (show gx<g10 by rw[jX];exact BD.o.x.lt) (show gy<g10 by rw[jX];exact BD.o.y.lt);have kS:=ak (ck hb kS.o fun h=>jm hb h);have HV:=(aJ nL jX);clear hZ hb nL jX;refine hK.out _ _ (fun _=>by rw[<-HV.o.1];exact kS.o) ?_;clear hK K';rw[<-HV.o.1,<-HV.o.2];clear HV
          try simp only[Act.put,sa,sb,sc]
          refine ah (i:=2) (by kernel_rfl) rfl (fun K' hK=>?_);have C:=hid (HSX.o G9 BD.o.1);go_simp;refine C.o.mono ?_;rintro r Eo ⟨hd,hb⟩;obtain⟨VS,c11,rfl,hN⟩:=hd.aD;have BD:=dJ (BD.o.1.below hb) (BD.o.2.1.below hb) BD.o.r2.1 BD.o.r3 hN;have kS:=ak (ck hb kS.o fun h=>jm hb h);clear hb hd hN C;dsimp only;refine hK.out _ _ (fun _=>kS.o) ?_;clear hK K'
          try simp only[Act.put,sa,sb,sc]
          refine ah (i:=5) (by kernel_rfl) rfl (fun K' hK=>?_);have C:=hid (HSY.o Eo BD.o.1);go_simp;refine C.o.mono ?_;rintro r ZG ⟨hd,hb⟩;obtain⟨a12,c12,rfl,hN⟩:=hd.aD;have BD:=iC (BD.o.1.below hb) (BD.o.2.1.below hb) BD.o.r2.1 BD.o.r3.1 (BD.o.r4.below hb) hN;have kS:=ak (ck hb kS.o fun h=>jm hb h);clear hb hd hN C;dsimp only;refine hK.out _ _ (fun _=>kS.o) ?_;clear hK K'
          try simp only[Act.put,sa,sb,sc]
          refine ah (i:=6) (by kernel_rfl) rfl (fun K' hK=>?_);have C:=hid (gT FF.o.1 FF.o.2.1 FF.o.r2.1 BD.o.r4.1 BD.o.r5 (HT.o.belows BD.o.1.b) EE.o);go_simp;refine C.o.mono ?_;rintro r Ep ⟨hd,hb⟩;obtain⟨a13,c13,rfl,hN⟩:=hd.aD;have BD:=jY (BD.o.1.below hb) (BD.o.2.1.below hb) BD.o.r2.1 BD.o.r3.1 (BD.o.r4.1.below hb) (BD.o.r5.below hb) hN;have kS:=ak (ck hb kS.o fun h=>jm hb h);clear hb hd hN C;dsimp only;refine hK.out _ _ (fun _=>kS.o) ?_;clear hK K'
          try simp only[Act.put,sa,sb,sc]
          obtain⟨zp,zq,DZ,MZ⟩:=BD.o.2.1;obtain⟨z0,z1,z2,dO,dP,dQ⟩:=DZ.facts;clear DZ MZ;refine ah (i:=8) (by kernel_rfl) rfl (fun K' hK=>?_);go_simp;refine hK.out _ _ (fun h=>absurd h (by decide)) ?_;clear hK K' z0 z1 z2 dO dP dQ kS;refine aH (by kernel_rfl) ?_ _;go_wp2_with fail
          go_meet
          case rel=>exact⟨g10,rfl,BD.o.2.1.set BD.o.r6,BD.o.1.other BD.o.2.1 (dR BD.o.r2.1) (dR BD.o.r3.1) HG.o _ _ _ (by have:=HG.o;have:=BD.o.r2.1;omega) (by have:=HG.o;have:=BD.o.r2.1;omega) (by have:=HG.o;have:=BD.o.r2.1;omega)⟩
       obtain⟨g11,rfl,K1⟩:=hcut;obtain⟨U,hU⟩:=af wc;rw[<-hU] at K1 |-;clear hU B4 s0 HSX HSY;obtain⟨pq,cq,DQ,MQ⟩:=K1.o.1;obtain⟨x0,x1,x2,bE,bF,bG⟩:=DQ.facts;have C:=hid (HSg.o U pq cq MQ);clear DQ MQ;go_wp2_with fail;refine C.o.mono ?_;rintro r v ⟨rfl,hb⟩;have K2:=aJ (K1.o.1.below hb) (K1.o.2.below hb);clear hb C x0 x1 x2 bE bF bG K1 HSg
       by_cases hq:q=0
       · have hz:=HZ2.o;rw[if_pos hq] at hz;obtain⟨rfl,rfl⟩:=eP hz;have e0:(sg==0)=true:=by rw[XV.o];exact decide_eq_true hq
         have e1:sg=0:=by simpa using e0
         subst e1;clear hz HZ2 XV e0;go_wp2;exact aC (v:=.tuple #[.float .f64 0,.int .i64 190]) (by simp[results,Tryz.results12,go_sem]) rfl ⟨rfl,K2.o.2.b⟩
       · have e0:(sg==0)=false:=by rw[XV.o];exact decide_eq_false hq
         have HBr:=ZQ.o hq;have BD:=aJ (K2.o.1.below (aB v.heap.size v).drew) (K2.o.2.below (aB v.heap.size v).drew);obtain⟨pq,cq,DQ,MQ⟩:=BD.o.1;have kS:=fE DQ.facts.1 DQ.facts.2.1 DQ.facts.2.2.1 BD.o.2.cells;have BD:=aJ BD.o.2 MQ;have C1:=hid (HSXY.o v.drew BD.o.1);clear K2 HZ2 XV ZQ hq DQ MQ;go_wp2_with fail
         go_region_held3 (fun w'=>w'.cell? ⟨g11,0,none⟩=some (.bool (dN oQ))/\w'.cell? ⟨g11,1,none⟩=some (.slice pq (ws (dX oQ)).length cq)/\w'.cell? ⟨g11,2,none⟩=some (.int .i64 (dE oQ))/\w'.cell? ⟨gx,0,none⟩=some (.slice (some ⟨gA,0,none⟩) n n)/\w'.cell? ⟨gx,1,none⟩=some (.bool (dN oS))/\w'.cell? ⟨gx,2,none⟩=some (.slice p1 (ws (dX oS)).length q1)/\w'.cell? ⟨gx,3,none⟩=some (.int .i64 (dE oS))/\w'.cell? ⟨gy,0,none⟩=some (.slice (some ⟨gB,0,none⟩) n n)/\w'.cell? ⟨gy,1,none⟩=some (.bool (dN oT))/\w'.cell? ⟨gy,2,none⟩=some (.slice p2 (ws (dX oT)).length q2)/\w'.cell? ⟨gy,3,none⟩=some (.int .i64 (dE oT))) (with_reducible exact kS.o) (first
          | (go_at_call 41
             with_reducible refine C1.o.mono ?_
             rintro r u3 ⟨hd,hb⟩;obtain⟨a3,c3,rfl,eu⟩:=hd.aD;have BE:=bO (BD.o.1.below hb) (BD.o.2.below hb) eu;have kS:=ak (ck hb kS.o fun h=>ck hb h fun h=>l9 hb h);have C2:=hid (HBr.o u3 a3 pq c3 cq (HT.o.belows BE.o.1.b) BE.o.r2 BE.o.2.1)
             clear hb hd eu C1)
          | (go_at_call 43
             with_reducible refine C2.o.mono ?_
             rintro r u5 ⟨rfl,hb⟩;have BF:=ak (BE.o.1.below hb);have kS:=ak (ck hb kS.o fun h=>ck hb h fun h=>l9 hb h)
             clear hb C2))
         go_wp2;exact aC (v:=.tuple #[.float .f64 X,.int .i64 E]) (by simp[results,Tryz.results12,go_sem]) rfl ⟨rfl,BF.o.b⟩
theorem UH{o1 o2:Option (Bool×Nat×Int)}(r1:mkS (dN o1) (dX o1) (dE o1)=o1)(h:(iB o1 (mkS (!dN o2) (dX o2) (dE o2))).isSome=true):mkS (dN (iB o1 (mkS (!dN o2) (dX o2) (dE o2)))) (dX (iB o1 (mkS (!dN o2) (dX o2) (dE o2)))) (dE (iB o1 (mkS (!dN o2) (dX o2) (dE o2))))=iB o1 (mkS (!dN o2) (dX o2) (dE o2)):=by
 cases h1:o1 with
 | none=>rw[h1] at h;cases h
 | some x =>
   cases h2:mkS (!dN o2) (dX o2) (dE o2) with
   | none=>rw[h1,h2] at h;cases h
   | some y =>
     obtain⟨n,X,e⟩:=x;obtain⟨m,Y,f⟩:=y
     have F1:tC n X e:=by
      have:=iN (n:=dN o1) (X:=dX o1) (e:=dE o1) (by rw[r1,h1];rfl);rw[r1,h1] at this;exact this
     have F2:tC m Y f:=bZ h2
     cases h3:iB (some (n,X,e)) (some (m,Y,f)) with
     | none=>rw[h1,h2,h3] at h;cases h
     | some z =>
       obtain⟨n',Z,g⟩:=z;exact lC (Di F1 F2 h3)
noncomputable def zF (n:Int) (o:Option (Bool×Nat×Int)) (less mode:Int):Nat×Int :=
 if p9 mode&&lsB less&&(decide (1<=n)&&decide (n<=1099511627776)) then
  if o.isSome then(if n<=less then(0,3) else nK o (gV 0 (n*(n-less))) mode) else(0,2)
 else(0,1)
theorem UI{n:Nat}{less:Int}(hn:n<=1099511627776)(h0:0<=less)(h1:less<=1):Bd 82 ((n:Int)*((n:Int)-less)) :=
 (Bd.mul (a:=41) (b:=41) (Bd.nat (by omega)) (by unfold Bd;omega))
theorem UJ{u:World}{a b:Option Addr}{ca cb:Nat}{V D:Option (Bool×Nat×Int)}(mode:Int)(hV:V.isSome=true)(rV:mkS (dN V) (dX V) (dE V)=V)(FD:Fm D)(n1:Nt 0 u (.slice a (ws (dX V)).length ca) (dX V))(n2:Nt 0 u (.slice b (ws (dX D)).length cb) (dX D))(hT:dH u) :
 At 37 #[.agg #[.bool (dN V),.slice a (ws (dX V)).length ca,.int .i64 (dE V),.bool (dN D),.slice b (ws (dX D)).length cb,.int .i64 (dE D)],.int .i64 mode] u (.tuple #[.float .f64 (nK V D mode).1,.int .i64 (nK V D mode).2]):=by
 obtain⟨l1,r1,r2⟩:=tZ hV rV;exact PN (w:=u) (n:=dN V) (m:=dN D) (X:=dX V) (Y:=dX D) (e:=dE V) (f:=dE D) mode ⟨n1.av (by omega),n2.av (cB FD.len (by decide)),⟨r1,r2⟩,FD.mV⟩ hT
theorem qu{P:Prop}(h:P:=by
 obtain⟨rfl,rfl⟩:=eP hz;clear hz HD;go_enter Tryz.func13,Tryz.ntmps13
 go_upto_region 1 with fail
 rw[<-jB.o];clear jB;go_wp2_with fail;refine C.o.mono ?_;rintro r v ⟨rfl,hv⟩;rw[hv];clear hv v C;go_wp2_with fail;refine D.o.mono ?_;rintro r v ⟨rfl,hv⟩;rw[hv];clear hv v D;go_wp2;exact aC (v:=.tuple #[.float .f64 0,.int .i64 1]) (by simp[results,Tryz.results13,go_sem]) rfl ⟨rfl,B0.o.r2⟩):P:=h
theorem UK (w:World) (n:Int) (ns np:Bool) (as' ap:Option Addr) (ls cs lp cp:Nat) (es ep less mode:Int) (oV:Option (Bool×Nat×Int)) (hT:dH w) (rV:oV.isSome=true->mkS (dN oV) (dX oV) (dE oV)=oV)
 (HD:Hid (∀ u:World,An w u->As 45 #[.int .i64 n,.agg #[.bool np,.slice ap lp cp,.int .i64 ep],.agg #[.bool ns,.slice as' ls cs,.int .i64 es],.agg #[.bool ns,.slice as' ls cs,.int .i64 es]] u fun r w'=>nJ w' r oV (nU oV)/\Below u.heap.size u w')) (z:Nat×Int) (hz:zF n oV less mode=z) :
 At 13 #[.int .i64 n,.agg #[.bool ns,.slice as' ls cs,.int .i64 es],.agg #[.bool np,.slice ap lp cp,.int .i64 ep],.int .i64 less,.int .i64 mode] w (.tuple #[.float .f64 z.1,.int .i64 z.2]):=by
 obtain⟨X,E⟩:=z;simp only;obtain⟨W,jV⟩:=af ((w.alloc (Obj.cells #[.bool ns,.slice as' ls cs,.int .i64 es] 37)).alloc (Obj.cells #[.bool np,.slice ap lp cp,.int .i64 ep] 37))
 have B0:Aside (Dk W w.heap.size ns (.slice as' ls cs) es/\Dk W (w.heap.size+1) np (.slice ap lp cp) ep/\An w W):=by
  have z1:=Dk.new (w.alloc (Obj.cells #[.bool ns,.slice as' ls cs,.int .i64 es] 37)) np (.slice ap lp cp) ep;rw[dA] at z1;rw[jV];exact⟨(Dk.new _ _ _ _).below (ae _ _),z1,(ae _ _).trans ((ae _ _).mono (by simp))⟩
 have jB:=ak jV;have HT:=ak hT;have HRV:=ak rV;clear jV hT rV;have C:=hid (iT mode W);have D:=hid (mZ less W);unfold zF at hz
 cases hm:p9 mode with
 | false =>
   rw[hm,nR,nR,if_neg (by decide)] at hz;rw[hm] at C;obtain⟨rfl,rfl⟩:=eP hz;clear hz HD;go_enter Tryz.func13,Tryz.ntmps13
   go_upto_region 1 with fail
   rw[<-jB.o];clear jB;go_wp2_with fail;refine C.o.mono ?_;rintro r v ⟨rfl,hv⟩;rw[hv];clear hv v C;go_wp2;exact aC (v:=.tuple #[.float .f64 0,.int .i64 1]) (by simp[results,Tryz.results13,go_sem]) rfl ⟨rfl,B0.o.r2⟩
 | true =>
 rw[hm] at C hz
 cases hs:lsB less with
 | false =>
   rw[hs,og,nR,if_neg (by decide)] at hz;rw[hs] at D;obtain⟨rfl,rfl⟩:=eP hz;clear hz HD;go_enter Tryz.func13,Tryz.ntmps13
   go_upto_region 1 with fail
   rw[<-jB.o];clear jB;go_wp2_with fail;refine C.o.mono ?_;rintro r v ⟨rfl,hv⟩;rw[hv];clear hv v C;go_wp2_with fail;refine D.o.mono ?_;rintro r v ⟨rfl,hv⟩;rw[hv];clear hv v D;go_wp2;exact aC (v:=.tuple #[.float .f64 0,.int .i64 1]) (by simp[results,Tryz.results13,go_sem]) rfl ⟨rfl,B0.o.r2⟩
 | true =>
 rw[hs] at D hz;rw[Cm,og] at hz
 by_cases h1:1<=n
 case neg =>
  rw[decide_eq_false h1,nR,if_neg (by decide)] at hz;have d1:decide (n<1)=true:=decide_eq_true (by omega);exact qu
 case pos =>
 have d1:decide (n<1)=false:=decide_eq_false (by omega)
 by_cases h2:n<=1099511627776
 case neg =>
  rw[decide_eq_true h1,decide_eq_false h2,Ck,if_neg (by decide)] at hz;have d2:decide (1099511627776<n)=true:=decide_eq_true (by omega);exact qu
 case pos =>
  have d2:decide (1099511627776<n)=false:=decide_eq_false (by omega);rw[decide_eq_true h1,decide_eq_true h2,Cm,if_pos rfl] at hz;have xY:0<=less/\less<=1:=by have:=Ef hs;omega
  obtain⟨N,rfl⟩:∃ N:Nat,n=(N:Int):=⟨n.toNat,by omega⟩;have C3:=hid (HD.o W B0.o.r2);have HZ:=ak hz;have HL:=(bO xY h1 h2);clear hz HD hs hm xY h1 h2;go_enter Tryz.func13,Tryz.ntmps13
  go_upto_region 1 with fail
  rw[<-jB.o];clear jB;go_wp2_with fail;refine C.o.mono ?_;rintro r v ⟨rfl,hv⟩;rw[hv];clear hv v C;go_wp2_with fail;refine D.o.mono ?_;rintro r v ⟨rfl,hv⟩;rw[hv];clear hv v D;obtain⟨x0,x1,x2,bE,bF,bG⟩:=B0.o.1.facts;obtain⟨y0,y1,y2,bI,bJ,bK⟩:=B0.o.2.1.facts;go_wp2_with fail;refine C3.o.mono ?_;rintro r u ⟨hd,hb⟩;obtain⟨p1,q1,rfl,hN⟩:=hd.aD;obtain⟨U,hU⟩:=af (u.alloc (Obj.cells #[.bool (dN oV),.slice p1 (ws (dX oV)).length q1,.int .i64 (dE oV)] 37));obtain⟨g12,nI⟩:=af (u.heap.size)
  have B1:Aside (Dk U g12 (dN oV) (.slice p1 (ws (dX oV)).length q1) (dE oV)/\Nt 0 U (.slice p1 (ws (dX oV)).length q1) (dX oV)/\An w U):=by
   rw[hU,nI];have b:=B0.o.r2.trans (hb.mono B0.o.r2.size);exact⟨Dk.new _ _ _ _,hN.below (ae _ _),b.trans ((ae _ _).mono b.size)⟩
  have HU:=(aJ hU nI);clear hU nI hN hd hb C3 x0 x1 x2 bE bF bG y0 y1 y2 bI bJ bK B0;have hz:=HZ.o
  cases hso:oV.isSome with
  | false =>
    rw[hso,if_neg (by decide)] at hz;rw[xJ hso];obtain⟨rfl,rfl⟩:=eP hz;clear hz HZ hso
    go_upto_region 4 with fail
    rw[<-HU.o.1];clear HU;go_wp2;exact aC (v:=.tuple #[.float .f64 0,.int .i64 2]) (by simp[results,Tryz.results13,go_sem]) rfl ⟨rfl,B1.o.r2⟩
  | true =>
    rw[hso,if_pos rfl] at hz;rw[xI hso];have HSO:=ak hso
    go_upto_region 4 with fail
    rw[<-HU.o.1,<-HU.o.2];clear HU hso
    by_cases hle:(N:Int)<=less
    · have XA:decide ((N:Int)<=less)=true:=decide_eq_true hle;rw[if_pos hle] at hz;obtain⟨rfl,rfl⟩:=eP hz;clear hz HZ;go_wp2;exact aC (v:=.tuple #[.float .f64 0,.int .i64 3]) (by simp[results,Tryz.results13,go_sem]) rfl ⟨rfl,B1.o.r2⟩
    · have XA:decide ((N:Int)<=less)=false:=decide_eq_false hle;rw[if_neg hle] at hz;obtain⟨oD,sj⟩:=af (gV 0 ((N:Int)*((N:Int)-less)));rw[<-sj] at hz;have Ah:N<=1099511627776:=by have:=HL.o.r2;omega
      have FD:Fm oD:=by rw[sj];exact aZ (by decide) (by decide) (UI Ah HL.o.1.1 HL.o.1.2)
      have qE:Hid (∀ u:World,dH u->As 46 #[.int .i64 (N:Nat),.int .i64 less] u fun r w'=>aN 0 w' r oD/\Below u.heap.size u w'):=fun u hu=>by
       rw[sj];exact si N less u hu Ah HL.o.1.1 HL.o.1.2 (by omega)
      have HR:Hid (∀ (u:World) (b:Option Addr) (cb:Nat),dH u->Nt 0 u (.slice p1 (ws (dX oV)).length q1) (dX oV)->Nt 0 u (.slice b (ws (dX oD)).length cb) (dX oD)->As 37 #[.agg #[.bool (dN oV),.slice p1 (ws (dX oV)).length q1,.int .i64 (dE oV),.bool (dN oD),.slice b (ws (dX oD)).length cb,.int .i64 (dE oD)],.int .i64 mode] u fun r w'=>r=.returned (.tuple #[.float .f64 X,.int .i64 E])/\Below u.heap.size u w'):=fun u b cb qD n1 n2=>by
       have:=UJ mode HSO.o (HRV.o HSO.o) FD n1 n2 qD;exact js
      have hdr:=(aB U.heap.size U).drew;have BD:=aJ (B1.o.2.1.below hdr) (B1.o.r2.trans (hdr.mono B1.o.r2.size));have kS:Aside (U.drew.cell? ⟨g12,0,none⟩=some (.bool (dN oV))/\U.drew.cell? ⟨g12,1,none⟩=some (.slice p1 (ws (dX oV)).length q1)/\U.drew.cell? ⟨g12,2,none⟩=some (.int .i64 (dE oV))):=⟨(B1.o.1.below hdr).facts.1,(B1.o.1.below hdr).facts.2.1,(B1.o.1.below hdr).facts.2.2.1⟩;have C1:=hid (qE.o U.drew (HT.o.belows BD.o.2));clear hz HZ sj FD hdr Ah hle HSO HRV HL B1;go_wp2_with fail
      go_region_held3 (fun w'=>w'.cell? ⟨g12,0,none⟩=some (.bool (dN oV))/\w'.cell? ⟨g12,1,none⟩=some (.slice p1 (ws (dX oV)).length q1)/\w'.cell? ⟨g12,2,none⟩=some (.int .i64 (dE oV))) (with_reducible exact kS.o) (first
       | (go_at_call 46
          with_reducible refine C1.o.mono ?_
          rintro r u4 ⟨hd,hb⟩;obtain⟨a4,c4,rfl,iD⟩:=hd.aD;have BG:=bO (BD.o.1.below hb) (BD.o.2.trans (hb.mono BD.o.2.size)) iD;have kS:=ak (l9 hb kS.o);have C3:=hid (HR.o u4 a4 c4 (HT.o.belows BG.o.2.1) BG.o.1 BG.o.r2)
          clear hb hd iD C1)
       | (go_at_call 37
          with_reducible refine C3.o.mono ?_
          rintro r u5 ⟨rfl,hb⟩;have BF:=ak (BG.o.2.1.trans (hb.mono BG.o.2.1.size));have kS:=ak (l9 hb kS.o)
          clear hb C3))
      go_wp2;exact aC (v:=.tuple #[.float .f64 X,.int .i64 E]) (by simp[results,Tryz.results13,go_sem]) rfl ⟨rfl,BF.o⟩
theorem Of14 {w:World}{as' ap:Option Addr}{ls cs lp cp:Nat}{xs ys:List Nat}(n:Int) (ns np:Bool) (es ep less mode:Int) (h1:Arg w as' ls cs xs) (h2:Arg w ap lp cp ys) (hT:dH w) (hn:-9223372036854775808<=n/\n<=9223372036854775807) (b1:-9223372036854775808<=es/\es<=9223372036854775807) (b2:-9223372036854775808<=ep/\ep<=9223372036854775807)
 (z:Nat×Int) (hz:zF n (xE (dY (gV 0 n) (mkS np (val ys) ep)) (dY (mkS ns (val xs) es) (mkS ns (val xs) es))) less mode=z) :
 At 13 #[.int .i64 n,.agg #[.bool ns,.slice as' ls cs,.int .i64 es],.agg #[.bool np,.slice ap lp cp,.int .i64 ep],.int .i64 less,.int .i64 mode] w (.tuple #[.float .f64 z.1,.int .i64 z.2]):=by
 refine UK w n ns np as' ap ls cs lp cp es ep less mode _ hT (fun h=>?_) (hid fun u hu=>rX n np ns ns ep es es (h2.below hu) (h1.below hu) (h1.below hu) (hT.belows hu) hn b2 b1 b1) z hz;unfold xE at h |-
 split at h
 · rename_i q;rw[if_pos q];rw[oo] at q;exact UH (BI q.1) h
 · cases h
theorem ZR{u v k:Nat}{V D:Int}(hu:u<=100000)(hv:v<=100000)(hk:k<=90000)(hV:V≠0)(hD:0<D)(bV:Bd k V)(bD:Bd k D) :
 ∃ K t m,(∀ j,j=1074->ik vK 9218868437227405312 1 K t m (V.natAbs*2^(j+v)) (D.natAbs*2^u))/\∀ mode:Int,0<=mode->mode<=4->nK (gV u V) (gV v D) mode=(rK mode (decide (V<0)) K t m+(if V<0 then 9223372036854775808 else 0),0):=by
 obtain⟨Y,f,ho2,hY,hf0,hf1,hv2,Ad,F2⟩:=pU (u:=v) (V:=D) hv (by omega) hk bD;rw[decide_eq_false (by omega)] at ho2 F2;obtain⟨X,e,ho,hX,he0,he1,hvv,hbl,F⟩:=pU (u:=u) (V:=V) hu hV hk bV;have hm1:mkS (decide (V<0)) X e=some (decide (V<0),X,e):=lC F;have hm2:mkS false Y f=some (false,Y,f):=lC F2;obtain⟨K,t,m,hL,hR⟩:=Vq (decide (V<0)) X e Y f hX (by omega) hbl Ad;refine⟨K,t,m,fun j hj=>?_,fun mode hm0 mO=>?_⟩
 · refine hL.BP (iE (by omega) (bz _)) ?_;unfold iQ gQ;rw[<-hvv,<-hv2]
   have e1:X*2^(e-f+((1*1074:Nat):Int)).toNat*(Y*2^(f+(v:Int)).toNat*2^u)=X*Y*(2^((e-f+((1*1074:Nat):Int)).toNat+((f+(v:Int)).toNat+u))):=by
    rw[aL,aL,aM Y,om]
   have e2:X*2^(e+(u:Int)).toNat*2^(j+v)*(Y*2^(-(e-f+((1*1074:Nat):Int))).toNat)=X*Y*(2^((e+(u:Int)).toNat+(j+v)+(-(e-f+((1*1074:Nat):Int))).toNat)):=by
    rw[aL _ (_+_),aL _ (e+(u:Int)).toNat,aM X,om]
   rw[e1,e2];congr 2;omega
 · unfold nK;rw[ho,ho2];show rQ fC ⟨decide (V<0),.bool false,X,e,false,.bool false,Y,f⟩ mode=_;unfold rQ;rw[if_neg (by omega),if_pos (by rw[mX];show jU X (decide (V<0)) e Y false f=0;unfold jU;rw[if_neg (by unfold rO;simp;split <;> omega),hm1,hm2];simp[dX];omega),hm1,hm2];have:=hR mode hm0 mO;simp only[decide_eq_true_eq] at this;exact this
theorem XF{u v k:Nat}{V D:Int}(hu:u<=100000)(hv:v<=100000)(hk:k<=90000)(hV:0<V)(hD:0<D)(bV:Bd k V)(bD:Bd k D) :
 ∃ K t m,(∀ j,j=2148->ik vK 9218868437227405312 2 K t m (V.natAbs*2^(j+v)) (D.natAbs*2^u))/\∀ mode:Int,0<=mode->mode<=4->mr (gV u V) (gV v D) mode=(rK mode false K t m,0):=by
 obtain⟨Y,f,ho2,hY,hf0,hf1,hv2,Ad,F2⟩:=pU (u:=v) (V:=D) hv (by omega) hk bD;rw[decide_eq_false (by omega)] at ho2 F2;obtain⟨X,e,ho,hX,he0,he1,hvv,hbl,F⟩:=pU (u:=u) (V:=V) hu (by omega) hk bV;rw[decide_eq_false (by omega)] at ho F;have hm1:mkS false X e=some (false,X,e):=lC F;have hm2:mkS false Y f=some (false,Y,f):=lC F2;obtain⟨K,t,m,hL,hR⟩:=PL X e Y f hX (by omega) hbl Ad;refine⟨K,t,m,fun j hj=>?_,fun mode hm0 mO=>?_⟩
 · refine hL.BP (iE (by omega) (bz _)) ?_;unfold iQ gQ;rw[<-hvv,<-hv2]
   have e1:X*2^(e-f+((2*1074:Nat):Int)).toNat*(Y*2^(f+(v:Int)).toNat*2^u)=X*Y*(2^((e-f+((2*1074:Nat):Int)).toNat+((f+(v:Int)).toNat+u))):=by
    rw[aL,aL,aM Y,om]
   have e2:X*2^(e+(u:Int)).toNat*2^(j+v)*(Y*2^(-(e-f+((2*1074:Nat):Int))).toNat)=X*Y*(2^((e+(u:Int)).toNat+(j+v)+(-(e-f+((2*1074:Nat):Int))).toNat)):=by
    rw[aL _ (_+_),aL _ (e+(u:Int)).toNat,aM X,om]
   rw[e1,e2];congr 2;omega
 · unfold mr;rw[ho,ho2];show lN fC ⟨false,.bool false,X,e,false,.bool false,Y,f⟩ mode=_;unfold lN;rw[if_neg (by omega),if_pos (by rw[mX];show jU X false e Y false f=0;unfold jU;rw[if_neg (by unfold rO;simp;split <;> omega),hm1,hm2];simp[dX];omega),hm1,hm2];show(if false=true then((0,110):Nat×Int) else fC (uL X e Y f) mode)=_;rw[if_neg (by decide)];exact hR mode hm0 mO
def UL(n K:Nat)(t:Bool)(m:Int)(V S:Nat):Bool :=
 decide (K<9218868437227405312)&&decide (0<S) &&
 (if t then decide (V=vK K^n*S) else decide (vK K^n*S<V) &&
  ((decide (V<vK (K+1)^n*S)&&((m==-1&&decide (2^n*V<(vK K+vK (K+1))^n*S)) || (m==0&&decide (2^n*V=(vK K+vK (K+1))^n*S)) || (m==1&&decide ((vK K+vK (K+1))^n*S<2^n*V)))) || (decide (¬ V<vK (K+1)^n*S)&&(decide (K+1=9218868437227405312)&&m==1))))
theorem Ex{n K:Nat}{t:Bool}{m:Int}{V S:Nat}(h:UL n K t m V S=true):ik vK 9218868437227405312 n K t m V S:=by
 unfold UL at h;simp only[oo,decide_eq_true_eq] at h;obtain⟨⟨h1,h2⟩,h3⟩:=h
 cases t with
 | true =>
   simp only[if_true,decide_eq_true_eq] at h3;exact⟨h1,h2,fun _=>h3,fun q=>(by cases q),fun q=>(by cases q),fun q=>(by cases q)⟩
 | false =>
   simp only[fe,if_false,oo,Bool.or_eq_true,decide_eq_true_eq,beq_iff_eq] at h3;refine⟨h1,h2,fun q=>(by cases q),fun _=>h3.1,fun _ hv=>?_,fun _=>?_⟩
   · rcases h3.2 with ⟨_,(q | q) | q⟩ | ⟨q,_⟩
     · exact .inl q
     · exact .inr (.inl q)
     · exact .inr (.inr q)
     · exact absurd hv q
   · rcases h3.2 with ⟨q,_⟩ | ⟨_,q⟩
     · exact .inl q
     · exact .inr q
theorem ik.QO{n K K':Nat}{t t':Bool}{m m':Int}{V S:Nat}(hn:n≠0)(h:ik vK 9218868437227405312 n K t m V S)(h':ik vK 9218868437227405312 n K' t' m' V S):K=K'/\t=t'/\(t=false->m=m'):=by
 have a1:vK K^n*S<=V:=by
  cases t with
  | true=>have:=h.one rfl;omega
  | false=>have:=h.low rfl;omega
 have a2:K+1=9218868437227405312\/V<vK (K+1)^n*S:=by
  cases t with
  | true =>
    have:=h.one rfl;have:=fA (Nat.pow_lt_pow_left (o5.mono (show K<K+1 by omega)) hn) h.pos;omega
  | false =>
    rcases h.high rfl with q|q
    · exact .inr q
    · omega
 obtain⟨e1,e2,e3⟩:=ik.doc o5 (Nat.pos_of_ne_zero hn) h' K h.fin a1 a2;obtain⟨_,f2,f3⟩:=ik.doc o5 (Nat.pos_of_ne_zero hn) h K h.fin a1 a2;subst e1;rw[<-f2] at e2;refine⟨rfl,e2.symm,fun ht=>?_⟩;rw[f3 ht,e3 (by rw[e2];exact ht)]
theorem zG{mode:Int}{n:Bool}{K K':Nat}{t t':Bool}{m m':Int}(h:K=K'/\t=t'/\(t=false->m=m')):rK mode n K t m=rK mode n K' t' m':=by
 obtain⟨rfl,rfl,h⟩:=h
 cases t with
 | true=>rfl
 | false=>rw[h rfl]
theorem QP{u v k:Nat}{V D:Int}(hu:u<=100000)(hv:v<=100000)(hk:k<=90000)(hD:decide (0<D)=true)(bV:Bd k V)(bD:Bd k D)(mode:Int)(hm:decide (0<=mode/\mode<=4)=true)(K:Nat)(t:Bool)(m:Int)(ng:Bool)(hV:(decide (V≠0)&&(decide (V<0)==ng))=true)(hc:UL 1 K t m (V.natAbs*2^(1074+v)) (D.natAbs*2^u)=true) :
 nK (gV u V) (gV v D) mode=(rK mode ng K t m+(if ng then 9223372036854775808 else 0),0):=by
 have hD:=of_decide_eq_true hD;have hm:=of_decide_eq_true hm;rw[oo,beq_iff_eq] at hV;obtain⟨K',t',m',hL,hR⟩:=ZR hu hv hk (of_decide_eq_true hV.1) hD bV bD;rw[hR mode hm.1 hm.2,zG ((hL 1074 rfl).QO (by decide) (Ex hc)),<-hV.2];simp only[decide_eq_true_eq]
theorem s_at{u v k:Nat}{V D:Int}(hu:u<=100000)(hv:v<=100000)(hk:k<=90000)(hD:decide (0<D)=true)(hV:decide (0<V)=true)(bV:Bd k V)(bD:Bd k D)(mode:Int)(hm:decide (0<=mode/\mode<=4)=true)(K:Nat)(t:Bool)(m:Int)(hc:UL 2 K t m (V.natAbs*2^(2148+v)) (D.natAbs*2^u)=true) :
 mr (gV u V) (gV v D) mode=(rK mode false K t m,0):=by
 have hD:=of_decide_eq_true hD;have hV:=of_decide_eq_true hV;have hm:=of_decide_eq_true hm;obtain⟨K',t',m',hL,hR⟩:=XF hu hv hk hV hD bV bD;rw[hR mode hm.1 hm.2,zG ((hL 2148 rfl).QO (by decide) (Ex hc))]
theorem gH{xs:List Nat}(h:xs.all (fun x=>decide (x<18446744073709551616))=true):j4 xs:=fun x hx=>of_decide_eq_true (zX.1 h x hx)
theorem cVa:qa nK [4607182418800017408,4611686018427387904,4613937818241073152,4616189618054758400] 0 0 0 0=(rK 0 false 4608308318706860032 true (0),0):=by
 have e1:(p9 0&&lsB 0)=true:=by decide
 have e2:Ps.fG 0 0 [4607182418800017408,4611686018427387904,4613937818241073152,4616189618054758400]=0:=by decide +kernel
 have e3:Re 0 0 [4607182418800017408,4611686018427387904,4613937818241073152,4616189618054758400]=false:=by decide +kernel
 have e4:Ps.fin [4607182418800017408,4611686018427387904,4613937818241073152,4616189618054758400]=[4607182418800017408,4611686018427387904,4613937818241073152,4616189618054758400]:=by decide +kernel
 have w:j4 [4607182418800017408,4611686018427387904,4613937818241073152,4616189618054758400]:=gH (by decide);have f:∀ x ∈ [4607182418800017408,4611686018427387904,4613937818241073152,4616189618054758400],fD x:=(gU _).1 (by decide +kernel);unfold qa;rw[e1,if_pos rfl,e2,if_pos rfl,e3,if_neg (by decide),e4,if_neg (by decide)];exact(QP (k:=4229) (by decide) (by decide) (by decide) (by decide) (jW w f w f (by decide) rfl) ((uS (by decide) (by decide) (by decide)).mono (by decide)) 0 (by decide) 4608308318706860032 true (0) false (by decide +kernel) (by decide +kernel)).trans (by rfl)
theorem cVb:qa nK [4607182418800017408,4611686018427387904,4613937818241073152,4616189618054758400] 1 0 0 0=(rK 0 false 4610184818551597738 false (1),0):=by
 have e1:(p9 0&&lsB 1)=true:=by decide
 have e2:Ps.fG 0 0 [4607182418800017408,4611686018427387904,4613937818241073152,4616189618054758400]=0:=by decide +kernel
 have e3:Re 0 0 [4607182418800017408,4611686018427387904,4613937818241073152,4616189618054758400]=false:=by decide +kernel
 have e4:Ps.fin [4607182418800017408,4611686018427387904,4613937818241073152,4616189618054758400]=[4607182418800017408,4611686018427387904,4613937818241073152,4616189618054758400]:=by decide +kernel
 have w:j4 [4607182418800017408,4611686018427387904,4613937818241073152,4616189618054758400]:=gH (by decide);have f:∀ x ∈ [4607182418800017408,4611686018427387904,4613937818241073152,4616189618054758400],fD x:=(gU _).1 (by decide +kernel);unfold qa;rw[e1,if_pos rfl,e2,if_pos rfl,e3,if_neg (by decide),e4,if_neg (by decide)];exact(QP (k:=4229) (by decide) (by decide) (by decide) (by decide) (jW w f w f (by decide) rfl) ((uS (by decide) (by decide) (by decide)).mono (by decide)) 0 (by decide) 4610184818551597738 false (1) false (by decide +kernel) (by decide +kernel)).trans (by rfl)
theorem cSc:qa mr [4607182418800017408,4611686018427387904,4613937818241073152,4616189618054758400] 1 0 0 0=(rK 0 false 4608492941290910865 false (-1),0):=by
 have e1:(p9 0&&lsB 1)=true:=by decide
 have e2:Ps.fG 0 0 [4607182418800017408,4611686018427387904,4613937818241073152,4616189618054758400]=0:=by decide +kernel
 have e3:Re 0 0 [4607182418800017408,4611686018427387904,4613937818241073152,4616189618054758400]=false:=by decide +kernel
 have e4:Ps.fin [4607182418800017408,4611686018427387904,4613937818241073152,4616189618054758400]=[4607182418800017408,4611686018427387904,4613937818241073152,4616189618054758400]:=by decide +kernel
 have w:j4 [4607182418800017408,4611686018427387904,4613937818241073152,4616189618054758400]:=gH (by decide);have f:∀ x ∈ [4607182418800017408,4611686018427387904,4613937818241073152,4616189618054758400],fD x:=(gU _).1 (by decide +kernel);unfold qa;rw[e1,if_pos rfl,e2,if_pos rfl,e3,if_neg (by decide),e4,if_neg (by decide)];exact s_at (k:=4229) (by decide) (by decide) (by decide) (by decide) (by decide +kernel) (jW w f w f (by decide) rfl) ((uS (by decide) (by decide) (by decide)).mono (by decide)) 0 (by decide) 4608492941290910865 false (-1) (by decide +kernel)
theorem XG:qa nK [4617315517961601024] 1 0 0 0=(0,3):=by
 have e2:Ps.fG 0 0 [4617315517961601024]=0:=by decide +kernel
 have e3:Re 0 0 [4617315517961601024]=false:=by decide +kernel
 have e4:Ps.fin [4617315517961601024]=[4617315517961601024]:=by decide +kernel
 unfold qa;rw[if_pos (by decide),e2,if_pos rfl,e3,if_neg (by decide),e4,if_pos (by decide)]
theorem ZT:qa nK [4617315517961601024] 2 0 0 0=(0,1):=by
 unfold qa;rw[if_neg (by decide)]
theorem cCen:He [4607182418800017408,4611686018427387904,4618441417868443648] 3 0=(rK 0 false 4618441417868443648 true (0),0):=by
 have e2:nV [4607182418800017408,4611686018427387904,4618441417868443648]=0:=by decide +kernel
 have w:j4 [4607182418800017408,4611686018427387904,4618441417868443648]:=gH (by decide);have f:∀ x ∈ [4607182418800017408,4611686018427387904,4618441417868443648],fD x:=(gU _).1 (by decide +kernel);unfold He;rw[if_pos (by decide),e2,if_pos rfl,if_neg (by decide)];exact(QP (u:=1074*3) (k:=20016) (by decide) (by decide) (by decide) (by decide) (Jw w f (by decide) 3 (by decide) (by decide)) (Bd.mono (m:=64) ((Bd.nat (k:=16) (n:=3) (by decide)).pow 4) (by decide)) 0 (by decide) 4618441417868443648 true (0) false (by decide +kernel) (by decide +kernel)).trans (by rfl)
theorem cCo:VI [4607182418800017408,4611686018427387904,4613937818241073152] [4611686018427387904,4616189618054758400,4619567317775286272] 1 0=(rK 0 false 4612811918334230528 true (0),0):=by
 have e2:nW [4607182418800017408,4611686018427387904,4613937818241073152] [4611686018427387904,4616189618054758400,4619567317775286272]=0:=by decide +kernel
 have w:j4 [4607182418800017408,4611686018427387904,4613937818241073152]:=gH (by decide);have f:∀ x ∈ [4607182418800017408,4611686018427387904,4613937818241073152],fD x:=(gU _).1 (by decide +kernel);have w2:j4 [4611686018427387904,4616189618054758400,4619567317775286272]:=gH (by decide);have f2:∀ x ∈ [4611686018427387904,4616189618054758400,4619567317775286272],fD x:=(gU _).1 (by decide +kernel);unfold VI;rw[if_pos (by decide),e2,if_pos rfl,if_neg (by decide)];exact(QP (k:=4229) (by decide) (by decide) (by decide) (by decide) (jW w f w2 f2 (by decide) rfl) ((uS (n:=3) (by decide) (by decide) (by decide)).mono (by decide)) 0 (by decide) 4612811918334230528 true (0) false (by decide +kernel) (by decide +kernel)).trans (by rfl)
theorem cLi:QM [4607182418800017408,4611686018427387904,4613937818241073152] [4613937818241073152,4611686018427387904,4607182418800017408] 2=(mP (rK 3 false 4607182418800017408 true (0)),0):=by
 have e2:nW [4607182418800017408,4611686018427387904,4613937818241073152] [4613937818241073152,4611686018427387904,4607182418800017408]=0:=by decide +kernel
 have w:j4 [4607182418800017408,4611686018427387904,4613937818241073152]:=gH (by decide);have f:∀ x ∈ [4607182418800017408,4611686018427387904,4613937818241073152],fD x:=(gU _).1 (by decide +kernel);have w2:j4 [4613937818241073152,4611686018427387904,4607182418800017408]:=gH (by decide);have f2:∀ x ∈ [4613937818241073152,4611686018427387904,4607182418800017408],fD x:=(gU _).1 (by decide +kernel);have hq:decide (cS [4607182418800017408,4611686018427387904,4613937818241073152] [4607182418800017408,4611686018427387904,4613937818241073152]*cS [4613937818241073152,4611686018427387904,4607182418800017408] [4613937818241073152,4611686018427387904,4607182418800017408]=0)=false:=by decide +kernel
 have hc:decide (0<=cS [4607182418800017408,4611686018427387904,4613937818241073152] [4613937818241073152,4611686018427387904,4607182418800017408])=false:=by decide +kernel
 have bc:=jW w f w2 f2 (by decide) rfl;have bq:=(jW w f w f (by decide) rfl).mul (jW w2 f2 w2 f2 (by decide) rfl);have hs:=s_at (u:=4296) (v:=4296) (k:=8458) (by decide) (by decide) (by decide) (by decide +kernel) (by decide +kernel) (bc.mul bc) bq 3 (by decide) 4607182418800017408 true (0) (by decide +kernel);unfold QM;rw[if_pos (by decide),e2,if_pos rfl,if_neg (by decide),if_neg (of_decide_eq_false hq)];unfold VM;rw[if_neg (of_decide_eq_false hc),show zD 2=3 by decide,hs,if_pos rfl]
theorem ZU:QM [4607182418800017408,4607182418800017408] [4607182418800017408,4611686018427387904] 0=(0,190):=by
 have e2:nW [4607182418800017408,4607182418800017408] [4607182418800017408,4611686018427387904]=0:=by decide +kernel
 have hq:decide (cS [4607182418800017408,4607182418800017408] [4607182418800017408,4607182418800017408]*cS [4607182418800017408,4611686018427387904] [4607182418800017408,4611686018427387904]=0)=true:=by decide +kernel
 unfold QM;rw[if_pos (by decide),e2,if_pos rfl,if_neg (by decide),if_pos (of_decide_eq_true hq)]
theorem cOf:zF 4 (xE (dY (gV 0 4) (gV 0 30)) (dY (gV 0 10) (gV 0 10))) 0 0=(rK 0 false 4608308318706860032 true (0),0):=by
 have b:∀ x:Nat,x<=64->Bd 6 (x:Int):=fun x hx=>Bd.nat (by omega);have e1:dY (gV 0 4) (gV 0 30)=gV 0 120:=iR (u:=0) (v:=0) (by decide) (by decide) (by decide) (by decide) (b 4 (by decide)) (b 30 (by decide));have e2:dY (gV 0 10) (gV 0 10)=gV 0 100:=iR (u:=0) (v:=0) (by decide) (by decide) (by decide) (by decide) (b 10 (by decide)) (b 10 (by decide));have b1:Bd 12 (120:Int):=Bd.nat (n:=120) (by decide);have b2:Bd 12 (100:Int):=Bd.nat (n:=100) (by decide)
 have e3:xE (gV 0 120) (gV 0 100)=gV 0 (20):=by
  unfold xE;rw[(aZ (u:=0) (by decide) (by decide) b1).sm,(aZ (u:=0) (by decide) (by decide) b2).sm];exact Je (u:=0) (by decide) (by decide) b1 b2
 have b3:Bd 13 (20:Int):=Bd.sub b1 b2;rw[e1,e2,e3];unfold zF;rw[if_pos (by decide),(aZ (u:=0) (by decide) (by decide) b3).sm,if_pos rfl,if_neg (by decide)];exact(QP (u:=0) (v:=0) (k:=13) (by decide) (by decide) (by decide) (by decide) b3 (Bd.nat (k:=13) (n:=16) (by decide)) 0 (by decide) 4608308318706860032 true (0) false (by decide) (by decide +kernel)).trans (by rfl)
theorem UM:∃ d:TypeDesc,Tryz.prog.underlying 26=some d/\d.isRow=true:=by
 have h:(Tryz.prog.underlying 26).any (·.isRow)=true:=by kernel_rfl
 cases hd:Tryz.prog.underlying 26 with
 | none=>rw[hd] at h;cases h
 | some d=>rw[hd] at h;exact⟨d,rfl,h⟩
theorem QQ:(Tryz.prog.info? 26).map (·.size)=some 2:=by kernel_rfl
theorem Ho{fn:Func}{p:Tmp}(h:fn.results=#[.cell p 26])(tmps:Array Value)(W:World)(g:Nat)(x y:Value)(hp:tmps.getD p undef=.pointer (some ⟨g,0,none⟩))(hD:W.heap[g]?=some (.cells #[x,y] 26 (0,0))) :
 (results fn tmps).run Tryz.prog W=.ok (.agg #[x,y]) W:=by
 obtain⟨d,h1,h2⟩:=UM
 cases d <;> first
  | exact results_cell_row (P:=Tryz.prog) h tmps W g 26 _ _ _ hp hD h1 rfl (by rw[QQ];rfl)
  | exact absurd h2 (by simp[TypeDesc.isRow])
theorem sw(w:World):At 11 #[] w (.agg #[.int .i64 0,.int .i64 0]):=by
 go_enter Tryz.func11,Tryz.ntmps11;go_wp2;exact aC (v:=.agg #[.int .i64 0,.int .i64 0]) (Ho Tryz.results11 _ _ w.heap.size _ _ rfl (gZ _ _)) rfl ⟨rfl,ae _ _⟩
theorem qN(x y:Nat)(h:x=y)(w:World):Ax 16 #[.float .f64 x,.int .i64 0,.float .f64 y] w (.bool true):=by
 have C:Hid (Ax 23 #[.float .f64 x,.float .f64 y] w (.bool true)):=by
  have:=I8 x y w;rw[h,beq_self_eq_true] at this;rw[h];exact this
 clear h;go_enter Tryz.func16,Tryz.ntmps16;go_wp2_with fail;refine C.o.mono ?_;rintro r u ⟨rfl,rfl⟩;exact Jx
theorem uU(w:World)(xs:List Nat):Fs (w.alloc (Obj.cells (xs.map ug).toArray 23)).heap.size (w.alloc (Obj.cells (xs.map ug).toArray 23)) (some ⟨w.heap.size,0,none⟩) xs:=by
 intro _;refine⟨w.heap.size,0,by simp,rfl,fun i hi=>?_⟩;have hO:fK (w.alloc (Obj.cells (xs.map ug).toArray 23)) w.heap.size xs:=gZ _ _;rw[dK];exact hO.cell i hi
theorem Hq(w:World)(xs:List Nat)(g:Nat)(hg:g=w.heap.size):Fs (w.alloc (Obj.cells (xs.map ug).toArray 23)).heap.size (w.alloc (Obj.cells (xs.map ug).toArray 23)) (some ⟨g,0,none⟩) xs:=by subst hg;exact uU w xs
end
end Go.Proofs.YteginbngplldaaaGreatDoor
