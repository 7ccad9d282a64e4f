import Derived.Test.YtflkmfdlpfimcaaGreatDoorMO14x
import Derived.Test.YtflkmfdlpfimcaaGreatDoorD30x
import Derived.Test.YtflkmfdlpfimcaaGreatDoorMO10x
import Derived.Test.YtflkmfdlpfimcaaGreatDoorZ14x
import Derived.RangeFuncNested
import Derived.RangeFuncBound
import Derived.RangeFuncCalls
import Derived.RangeFuncLeaves
import Derived.RangeFuncBox
import Derived.Shelf.Abstract
import Derived.Shelf.RegionOpen
import Derived.WalkKit
import Derived.OwnWalkIn
import Derived.TacticsInMore
import Derived.LoopNIn
import Derived.LoopIn
import Derived.Test.YtflkmfdlpfimcaaGreatDoorW10x
import Derived.ChangeKeysEq
import Derived.Laws.OwnMore
import Derived.Lib.SliceRun
import Derived.Deep.RegionHeld
import Derived.Test.YtflkmfdlpfimcaaGreatDoorM5x
import Derived.Test.YtflkmfdlpfimcaaGreatDoorD4x
import Derived.Deep.RegionWith
import Derived.Test.YtflkmfdlpfimcaaGreatDoorD21x
import Derived.Test.YtflkmfdlpfimcaaGreatDoorD16x
import Derived.Test.YtflkmfdlpfimcaaGreatDoorMO7ox
import Derived.Deep.LoopGhost
set_option linter.unusedVariables false
set_option linter.unusedSimpArgs false
set_option maxHeartbeats 16000000
set_option maxRecDepth 20000
namespace Go.Proofs.YtflkmfdlpfimcaaGreatDoor
namespace J
end J
section
open Go Go.RowKit J
noncomputable def liR (xs ys:List Nat) (mode:Int):Nat×Int :=
 if mdB mode then
  if boE xs ys=0 then
   if xs=[] then (0,3) else if cS xs xs*cS ys ys=0 then (0,190) else byR (cS xs ys) (cS xs xs*cS ys ys) mode
  else (0,boE xs ys)
 else (0,1)
theorem byRoot14 {w:World}{a b:Option Addr}{ca cb:Nat}{c q:Int}(mode:Int) (hm:mdB mode=true) (hq:0<q) (bc:Bd 4229 c) (bq:Bd 8458 q) (hT:Tab w) (N1:Nt 0 w (.slice a (ws (dX (gV 2148 c))).length ca) (dX (gV 2148 c))) (N2:Nt 0 w (.slice b (ws (dX (gV 4296 q))).length cb) (dX (gV 4296 q))) :
 Calls Tryz.prog 43 #[.agg #[.bool (dN (gV 2148 c)),.slice a (ws (dX (gV 2148 c))).length ca,.int .i64 (dE (gV 2148 c))],.agg #[.bool (dN (gV 4296 q)),.slice b (ws (dX (gV 4296 q))).length cb,.int .i64 (dE (gV 4296 q))],.int .i64 mode] w fun r w'=>r=.returned (.tuple #[.float .f64 (byR c q mode).1,.int .i64 (byR c q mode).2])∧Below w.heap.size w w':=by
 have FC:Fm (gV 2148 c):=g_fm (by decide) (by decide) bc
 have FQ:Fm (gV 4296 q):=g_fm (by decide) (by decide) bq
 have FP:Fm (gV 4296 (c*c)):=g_fm (by decide) (by decide) (bc.mul bc)
 have E:mulD (gV 2148 c) (gV 2148 c)=gV 4296 (c*c):=g_mul (by decide) (by decide) (by decide) (by decide) bc bc
 obtain ⟨s1,s2⟩:=sgn14 (u:=2148) (by decide) (by decide) bc
 have hS:∀ (u:World) (p:Option Addr) (k:Nat),Nt 0 u (.slice p (ws (dX (gV 2148 c))).length k) (dX (gV 2148 c))→Calls Tryz.prog 42 #[.agg #[.bool (dN (gV 2148 c)),.slice p (ws (dX (gV 2148 c))).length k,.int .i64 (dE (gV 2148 c))]] u fun r w'=>r=.returned (.int .i64 (sgn (dN (gV 2148 c)) (dX (gV 2148 c))))∧Below u.heap.size u w':=fun u p k hN=>by
  have:=Sign_any3 (FC.a12 hN) (dN (gV 2148 c)) (dE (gV 2148 c));rw [val_ws] at this;exact this
 by_cases h0:0≤c
 · obtain ⟨k1,k2⟩:=byR_ok (c:=c) (q:=q) (mode:=mode) (k:=8458) (by decide) hq (bc.mul bc) bq hm
   refine byRoot_core w a b ca cb (gV 2148 c) (gV 4296 q) (gV 4296 (c*c)) mode _ (mir mode) true (sR14 (gV 4296 (c*c)) (gV 4296 q) mode).1 _ hT ⟨FC,FQ,FP⟩ E (hid hS) (by rw [s2];exact decide_eq_true h0) (hid fun u=>mirrored14 mode u) (hid fun u ap b cp cb hTu n1 n2=>?_) k2 ?_ N1 N2
   · have:=Root14 mode FP FQ n1 n2 hTu
     rw [k1] at this;exact this
   · unfold byR
     rw [if_pos h0];exact Prod.ext rfl k1
 · obtain ⟨k1,k2⟩:=byR_ok (c:=c) (q:=q) (mode:=mir mode) (k:=8458) (by decide) hq (bc.mul bc) bq (md_mir hm)
   refine byRoot_core w a b ca cb (gV 2148 c) (gV 4296 q) (gV 4296 (c*c)) mode _ (mir mode) false (sR14 (gV 4296 (c*c)) (gV 4296 q) (mir mode)).1 _ hT ⟨FC,FQ,FP⟩ E (hid hS) (by rw [s2];exact decide_eq_false h0) (hid fun u=>mirrored14 mode u) (hid fun u ap b cp cb hTu n1 n2=>?_) k2 ?_ N1 N2
   · have:=Root14 (mir mode) FP FQ n1 n2 hTu
     rw [k1] at this;exact this
   · unfold byR
     rw [if_neg h0,if_pos k1];rfl
theorem cs_nn (f:Nat→Int):∀ n:Nat,0≤(n:Int)*tS (fun i=>f i*f i) n-tS f n*tS f n
 | 0=>by simp [tS]
 | n+1=>by
   have ih:=cs_nn f n
   have h2:∀ m:Nat,0≤(m:Int)*f n*f n-2*f n*tS f m+tS (fun i=>f i*f i) m:=by
    intro m
    induction m with
    | zero=>simp [tS]
    | succ m ihm =>
      have:=sqn14 (f n-f m);simp only [tS_succ14]
      grind
   have:=h2 n;simp only [tS_succ14]
   grind
theorem cS_nn (xs:List Nat):0≤cS xs xs:=cs_nn (fX xs) xs.length
theorem Tw14.other {w v:World}{n gx gy gA gB g:Nat}{p1 p2:Option Addr}{q1 q2:Nat}{A B:Nat→Option (Bool×Nat×Int)}{oS oT q:Option (Bool×Nat×Int)}(h:Tw14 w v n gx gy gA gB p1 p2 q1 q2 A B oS oT) (hL:Lo v g q) (h1:gx≠g) (h2:gy≠g) (h3:w.heap.size≤gx∧gA<gx∧gB<gx∧gx<gy) (x y z:Value) (hgg:w.heap.size≤g:=by first | omega | assumption) (hA:gA≠g:=by omega) (hB:gB≠g:=by omega):Tw14 w (st3 v g x y z) n gx gy gA gB p1 p2 q1 q2 A B oS oT:=by
 have hb:=st3_but12 g v x y z;obtain ⟨a0,c0,hD,hM⟩:=hL;exact ⟨h.x.but hb h1,h.y.but hb h2,h.dx.but (T:=37) (L:=[_,_,_]) hb hD hA (by decide),h.dy.but (T:=37) (L:=[_,_,_]) hb hD hB (by decide),h.nx.off12 hD _ _ _,h.ny.off12 hD _ _ _,st3_bel12 h.b h.b.size hgg _ _ _⟩
theorem Link14 (xs ys:List Nat) (a a2:Option Addr) (n n2 c c2:Nat) (mode:Int) (w:World) (hn:n=xs.length) (hn2:n2=ys.length) (hF:Fs w.heap.size w a xs) (hG:Fs w.heap.size w a2 ys) (hW:W64 xs) (hW2:W64 ys) (hT:Tab w) (hl:n≤35184372088832) (hl2:n2≤35184372088832) (z:Nat×Int) (hz:liR xs ys mode=z) :
 Calls Tryz.prog 12 #[.slice a n c,.slice a2 n2 c2,.int .i64 mode] w fun r w'=>r=.returned (.tuple #[.float .f64 z.1,.int .i64 z.2])∧Below w.heap.size w w':=by
 obtain ⟨X,E⟩:=z;simp only;have C:=hid (isMode14 mode w);unfold liR at hz
 cases hm:mdB mode with
 | false =>
   rw [hm,if_neg (by decide)] at hz
   rw [hm] at C;obtain ⟨rfl,rfl⟩:=Prod.mk.inj hz;clear hz hn hF hW hT hn2 hG hW2;go_enter Tryz.func12,Tryz.ntmps12
   go_wp2_with fail
   refine C.out.mono ?_;rintro r v ⟨rfl,hv⟩;rw [hv];clear hv v C;go_wp2;exact bodyPost_ret (v:=.tuple #[.float .f64 0,.int .i64 1]) (by simp [results,Tryz.results12,go_sem]) rfl ⟨rfl,Below.refl _ _⟩
 | true =>
   rw [hm,if_pos rfl] at hz;rw [hm] at C;have HB:=hid (both14 xs ys a a2 n n2 c c2 w hn hn2 hF hG hW hW2 hT hl hl2);have HX:=qsd (ai hn (ai hn2 (ai hW (ai hW2 hT))));have HZ:=qsd hz;have HMD:=qsd hm;clear hz hn hF hW hT hn2 hG hW2 hl hl2 hm;go_enter Tryz.func12,Tryz.ntmps12
   go_wp2_with fail
   refine C.out.mono ?_;rintro r v ⟨rfl,hv⟩;rw [hv];clear hv v C
   go_wp2_with fail
   refine HB.out.mono ?_;rintro r u2 ⟨hr,hb⟩
   rcases hr with ⟨he,rfl⟩|⟨he,v1,v2,rfl,hR1,hR2⟩
   · have hz:=HZ.out
     rw [if_neg he] at hz;obtain ⟨rfl,hE⟩:=Prod.mk.inj hz;rw [hE] at he ⊢;have h1:(E==0)=false:=by simp [he]
     have BE:Aside (Below w.heap.size w ((u2.alloc (Obj.cells #[.slice none 0 0,.bool false,.slice none 0 0,.int .i64 0] 62)).alloc (Obj.cells #[.slice none 0 0,.bool false,.slice none 0 0,.int .i64 0] 62))):=(hb.trans ((bel_alloc _ _).mono hb.size)).trans ((bel_alloc _ _).mono (by simp;have:=hb.size;omega))
     clear hz HZ hE hb HB;go_wp2;exact bodyPost_ret (v:=.tuple #[.float .f64 0,.int .i64 E]) (by simp [results,Tryz.results12,go_sem]) rfl ⟨rfl,BE.out⟩
   · have HBO:=qsd he
     obtain ⟨hlen,hl6,hf1,hf2⟩:=bo_ok he;have PF:=(qsd (ai hlen (ai hl6 (ai hf1 hf2))));obtain ⟨gA,p1,q1,rfl,hD1,hN1⟩:=hR1;obtain ⟨gB,p2,q2,rfl,hD2,hN2⟩:=hR2;obtain ⟨oS,hoS⟩:∃ o,o=gV 1074 (sX xs):=⟨_,rfl⟩;obtain ⟨oT,hoT⟩:∃ o,o=gV 1074 (sX ys):=⟨_,rfl⟩;rw [←hoS] at hN1 ⊢;rw [←hoT] at hN2 ⊢;obtain ⟨V,hV⟩:∃ V,V=(u2.alloc (Obj.cells #[.slice (some ⟨gA,0,none⟩) n n,.bool (dN oS),.slice p1 (ws (dX oS)).length q1,.int .i64 (dE oS)] 62)).alloc (Obj.cells #[.slice (some ⟨gB,0,none⟩) n n,.bool (dN oT),.slice p2 (ws (dX oT)).length q2,.int .i64 (dE oT)] 62):=⟨_,rfl⟩;obtain ⟨gx,hgx⟩:∃ g,g=u2.heap.size:=⟨_,rfl⟩;obtain ⟨gy,hgy⟩:∃ g,g=u2.heap.size+1:=⟨_,rfl⟩
     have B4:Aside (Tw14 w V n gx gy gA gB p1 p2 q1 q2 (fun i=>gV 1074 (fX xs i)) (fun i=>gV 1074 (fX ys i)) oS oT):=by
      have hbV:Below u2.heap.size u2 V:=by rw [hV];exact (bel_alloc _ _).trans ((bel_alloc _ _).mono (by simp))
      refine ⟨?_,?_,hD1.below hbV,hD2.below hbV,hN1.below hbV,hN2.below hbV,hb.trans (hbV.mono hb.size)⟩
      · rw [hV,hgx];exact (Bl.new _ 62 [_,_,_,_]).alloc _
      · have z:=Bl.new (u2.alloc (Obj.cells #[.slice (some ⟨gA,0,none⟩) n n,.bool (dN oS),.slice p1 (ws (dX oS)).length q1,.int .i64 (dE oS)] 62)) 62 [.slice (some ⟨gB,0,none⟩) n n,.bool (dN oT),.slice p2 (ws (dX oT)).length q2,.int .i64 (dE oT)]
        rw [World.size_alloc] at z;rw [hV,hgy];exact z
     have HGG:Aside (w.heap.size≤gx∧gA<gx∧gB<gx∧gx<gy):=by rw [hgx,hgy];exact ⟨hb.size,hD1.lt,hD2.lt,by omega⟩
     have HV:=(qsd (ai hV (ai hgx hgy)));have HOS:=(qsd (ai hoS hoT));clear hV hgx hgy hb hD1 hN1 hD2 hN2 HB hoS hoT hlen hl6 hf1 hf2 he
     go_upto_region 4 with fail
     rw [←HV.out.1]
     try rw [←HV.out.2.2]
     rw [←HV.out.2.1];clear HV;have s0:=B4.out.x.cell 0 _ rfl;have hz:=HZ.out;rw [if_pos HBO.out] at hz;have n6:n≤65536:=by have:=PF.out.2.1;have:=HX.out.1;omega
     by_cases h0:n=0
     · have hx0:xs=[]:=List.eq_nil_of_length_eq_zero (by have:=HX.out.1;omega)
       rw [if_pos hx0] at hz;obtain ⟨rfl,rfl⟩:=Prod.mk.inj hz;have hn0:((n:Int)==0)=true:=by simp [h0]
       clear hz HZ h0 hx0;go_wp2;exact bodyPost_ret (v:=.tuple #[.float .f64 0,.int .i64 3]) (by simp [results,Tryz.results12,go_sem]) rfl ⟨rfl,B4.out.b⟩
     · have hx0:xs≠[]:=fun e=>h0 (by rw [HX.out.1,e];rfl)
       rw [if_neg hx0] at hz;have hn0:((n:Int)==0)=false:=by simp [h0]
       have hn0':(n:Int)≠0:=by omega
       obtain ⟨A0,hoA0⟩:∃ o,o=gV 2148 (cS xs xs):=⟨_,rfl⟩;obtain ⟨B0',hoB0'⟩:∃ o,o=gV 2148 (cS ys ys):=⟨_,rfl⟩;obtain ⟨C0,hoC0⟩:∃ o,o=gV 2148 (cS xs ys):=⟨_,rfl⟩;have b1:=cS_bd HX.out.2.2.1 PF.out.2.2.1 HX.out.2.2.1 PF.out.2.2.1 PF.out.2.1 rfl;have b2:=cS_bd HX.out.2.2.2.1 PF.out.2.2.2 HX.out.2.2.2.1 PF.out.2.2.2 (by rw [←PF.out.1];exact PF.out.2.1) rfl
       have b3:=cS_bd HX.out.2.2.1 PF.out.2.2.1 HX.out.2.2.2.1 PF.out.2.2.2 PF.out.2.1 PF.out.1;obtain ⟨q,hq⟩:∃ q,q=cS xs xs*cS ys ys:=⟨_,rfl⟩;have bq:Bd 8458 q:=by rw [hq];exact b1.mul b2
       have hq0:0≤q:=by rw [hq];exact Int.mul_nonneg (cS_nn xs) (cS_nn ys)
       obtain ⟨oQ,hoQ⟩:∃ o,o=gV 4296 q:=⟨_,rfl⟩;rw [←hq] at hz;have FF:Aside (Fm A0∧Fm B0'∧Fm oQ∧Fm C0):=by rw [hoA0,hoB0',hoQ,hoC0];exact ⟨g_fm (by decide) (by decide) b1,g_fm (by decide) (by decide) b2,g_fm (by decide) (by decide) bq,g_fm (by decide) (by decide) b3⟩
       have EE:Aside (mulD A0 B0'=oQ):=by show _=_;rw [hoA0,hoB0',hoQ,hq];exact g_mul (by decide) (by decide) (by decide) (by decide) b1 b2
       have HSX:Hid (∀ u:World,Tw14 w u n gx gy gA gB p1 p2 q1 q2 (fun i=>gV 1074 (fX xs i)) (fun i=>gV 1074 (fX ys i)) oS oT→Calls Tryz.prog 41 #[.agg #[.slice (some ⟨gA,0,none⟩) n n,.bool (dN oS),.slice p1 (ws (dX oS)).length q1,.int .i64 (dE oS)],.agg #[.slice (some ⟨gA,0,none⟩) n n,.bool (dN oS),.slice p1 (ws (dX oS)).length q1,.int .i64 (dE oS)]] u fun r w'=>DVal 0 w' r A0∧Below u.heap.size u w'):=fun u hu=>by
        have hR:=hu.rx;have hS:=hu.rx;rw [HOS.out.1] at hR hS ⊢;have:=spread14 (f:=fX xs) (g:=fX xs) (S:=sX xs) (T:=sX xs) n6 (HX.out.2.2.2.2.belows hu.b) (fun i hi=>fX_bd HX.out.2.2.1 PF.out.2.2.1 i (by have:=HX.out.1;have:=PF.out.1;omega)) (fun i hi=>fX_bd HX.out.2.2.1 PF.out.2.2.1 i (by have:=HX.out.1;have:=PF.out.1;omega)) (sX_bd HX.out.2.2.1 PF.out.2.2.1 (by have:=HX.out.1;have:=PF.out.1;omega) _ (Nat.le_refl _)) (sX_bd HX.out.2.2.1 PF.out.2.2.1 (by have:=HX.out.1;have:=PF.out.1;omega) _ (Nat.le_refl _)) hR hS
        rw [hoA0];unfold cS;rw [show (xs).length=n by have:=HX.out.1;have:=PF.out.1;omega]
        exact this
       have HSY:Hid (∀ u:World,Tw14 w u n gx gy gA gB p1 p2 q1 q2 (fun i=>gV 1074 (fX xs i)) (fun i=>gV 1074 (fX ys i)) oS oT→Calls Tryz.prog 41 #[.agg #[.slice (some ⟨gB,0,none⟩) n n,.bool (dN oT),.slice p2 (ws (dX oT)).length q2,.int .i64 (dE oT)],.agg #[.slice (some ⟨gB,0,none⟩) n n,.bool (dN oT),.slice p2 (ws (dX oT)).length q2,.int .i64 (dE oT)]] u fun r w'=>DVal 0 w' r B0'∧Below u.heap.size u w'):=fun u hu=>by
        have hR:=hu.ry;have hS:=hu.ry;rw [HOS.out.2] at hR hS ⊢;have:=spread14 (f:=fX ys) (g:=fX ys) (S:=sX ys) (T:=sX ys) n6 (HX.out.2.2.2.2.belows hu.b) (fun i hi=>fX_bd HX.out.2.2.2.1 PF.out.2.2.2 i (by have:=HX.out.1;have:=PF.out.1;omega)) (fun i hi=>fX_bd HX.out.2.2.2.1 PF.out.2.2.2 i (by have:=HX.out.1;have:=PF.out.1;omega)) (sX_bd HX.out.2.2.2.1 PF.out.2.2.2 (by have:=HX.out.1;have:=PF.out.1;omega) _ (Nat.le_refl _)) (sX_bd HX.out.2.2.2.1 PF.out.2.2.2 (by have:=HX.out.1;have:=PF.out.1;omega) _ (Nat.le_refl _)) hR hS
        rw [hoB0'];unfold cS;rw [show (ys).length=n by have:=HX.out.1;have:=PF.out.1;omega]
        exact this
       have HSXY:Hid (∀ u:World,Tw14 w u n gx gy gA gB p1 p2 q1 q2 (fun i=>gV 1074 (fX xs i)) (fun i=>gV 1074 (fX ys i)) oS oT→Calls Tryz.prog 41 #[.agg #[.slice (some ⟨gA,0,none⟩) n n,.bool (dN oS),.slice p1 (ws (dX oS)).length q1,.int .i64 (dE oS)],.agg #[.slice (some ⟨gB,0,none⟩) n n,.bool (dN oT),.slice p2 (ws (dX oT)).length q2,.int .i64 (dE oT)]] u fun r w'=>DVal 0 w' r C0∧Below u.heap.size u w'):=fun u hu=>by
        have hR:=hu.rx;have hS:=hu.ry;rw [HOS.out.1] at hR ⊢;rw [HOS.out.2] at hS ⊢;have:=spread14 (f:=fX xs) (g:=fX ys) (S:=sX xs) (T:=sX ys) n6 (HX.out.2.2.2.2.belows hu.b) (fun i hi=>fX_bd HX.out.2.2.1 PF.out.2.2.1 i (by have:=HX.out.1;have:=PF.out.1;omega)) (fun i hi=>fX_bd HX.out.2.2.2.1 PF.out.2.2.2 i (by have:=HX.out.1;have:=PF.out.1;omega)) (sX_bd HX.out.2.2.1 PF.out.2.2.1 (by have:=HX.out.1;have:=PF.out.1;omega) _ (Nat.le_refl _)) (sX_bd HX.out.2.2.2.1 PF.out.2.2.2 (by have:=HX.out.1;have:=PF.out.1;omega) _ (Nat.le_refl _)) hR hS
        rw [hoC0];unfold cS;rw [show (xs).length=n by have:=HX.out.1;have:=PF.out.1;omega]
        exact this
       obtain ⟨s1,s2⟩:=sgn14 (u:=4296) (by decide) (by decide) bq
       have HSg:Hid (∀ (u:World) (p:Option Addr) (k:Nat),Nt 0 u (.slice p (ws (dX oQ)).length k) (dX oQ)→Calls Tryz.prog 42 #[.agg #[.bool (dN oQ),.slice p (ws (dX oQ)).length k,.int .i64 (dE oQ)]] u fun r w'=>r=.returned (.int .i64 (sgn (dN oQ) (dX oQ)))∧Below u.heap.size u w'):=fun u p k hN=>by
        have:=Sign_any3 (FF.out.2.2.1.a12 hN) (dN oQ) (dE oQ);rw [val_ws] at this;exact this
       rw [←hoQ] at s1;obtain ⟨sg,hsg⟩:∃ s,sgn (dN oQ) (dX oQ)=s:=⟨_,rfl⟩;rw [hsg] at HSg s1
       have HBR:q≠0→Hid (∀ (u:World) (a b:Option Addr) (ca cb:Nat),Tab u→Nt 0 u (.slice a (ws (dX C0)).length ca) (dX C0)→Nt 0 u (.slice b (ws (dX oQ)).length cb) (dX oQ)→Calls Tryz.prog 43 #[.agg #[.bool (dN C0),.slice a (ws (dX C0)).length ca,.int .i64 (dE C0)],.agg #[.bool (dN oQ),.slice b (ws (dX oQ)).length cb,.int .i64 (dE oQ)],.int .i64 mode] u fun r w'=>r=.returned (.tuple #[.float .f64 X,.int .i64 E])∧Below u.heap.size u w'):=fun hqn u a b ca cb hTu n1 n2=>by
        rw [if_neg hqn] at hz;rw [hoC0] at n1 ⊢;rw [hoQ] at n2 ⊢;have:=byRoot14 mode HMD.out (by omega) b3 bq hTu n1 n2
        rw [hz] at this;exact this
       have HZ2:=qsd hz;have HS1:=qsd s1;have HBRA:=qsd HBR;have HT:=qsd HX.out.2.2.2.2;have HG:Aside (w.heap.size≤gx∧gA<gx∧gB<gx∧gx<gy):=HGG.out;clear hz HZ hoA0 hoB0' hoC0 hoQ hq b1 b2 b3 bq hq0 s1 s2 hsg HBR h0 hx0 n6
       go_wp2_with fail
       go_cut [11] from 31 to 37 (fun q wx=>∃ g11:Nat,q=.pointer (some ⟨g11,0,none⟩)∧Aside (Lo wx g11 oQ∧Tw14 w wx n gx gy gA gB p1 p2 q1 q2 (fun i=>gV 1074 (fX xs i)) (fun i=>gV 1074 (fX ys i)) oS oT))
       case first =>
        have BD:=qsd (B4.out.below (Below.refl V.heap.size V).drew);have kS:=qsd BD.out.cells;clear B4 s0;refine until_region (fun w'=>w'.cell? ⟨gx,0,none⟩=some (.slice (some ⟨gA,0,none⟩) n n)∧w'.cell? ⟨gx,1,none⟩=some (.bool (dN oS))∧w'.cell? ⟨gx,2,none⟩=some (.slice p1 (ws (dX oS)).length q1)∧w'.cell? ⟨gx,3,none⟩=some (.int .i64 (dE oS))∧w'.cell? ⟨gy,0,none⟩=some (.slice (some ⟨gB,0,none⟩) n n)∧w'.cell? ⟨gy,1,none⟩=some (.bool (dN oT))∧w'.cell? ⟨gy,2,none⟩=some (.slice p2 (ws (dX oT)).length q2)∧w'.cell? ⟨gy,3,none⟩=some (.int .i64 (dE oT))) 8 (by kernel_rfl) ?_
        obtain ⟨Wd,hWd⟩:∃ Vq,Vq=V.drew:=⟨_,rfl⟩;rw [←hWd] at BD kS ⊢;clear hWd;refine until_take (i:=0) [2,6] (v:=?_) rfl (by kernel_rfl) (by kernel_rfl) (by kernel_rfl) (by kernel_rfl) (by kernel_rfl) (fun _ _ _ h=>h) (Or.inl ⟨by rfl,?_⟩) kS.out ?_
        rotate_left
        · intro u hSu
          try dsimp only at hSu
          first | (go_simp;done) | (go_simp;with_reducible rfl)
        try simp only [Act.put,List.setIfInBounds_toArray,List.set_cons_zero,List.set_cons_succ]
        refine until_take (i:=1) [2,6] (v:=?_) rfl (by kernel_rfl) (by kernel_rfl) (by kernel_rfl) (by kernel_rfl) (by kernel_rfl) (fun _ _ _ h=>h) (Or.inl ⟨by rfl,?_⟩) kS.out ?_
        rotate_left
        · intro u hSu
          try dsimp only at hSu
          first | (go_simp;done) | (go_simp;with_reducible rfl)
        try simp only [Act.put,List.setIfInBounds_toArray,List.set_cons_zero,List.set_cons_succ]
        refine until_take (i:=3) [5,6] (v:=?_) rfl (by kernel_rfl) (by kernel_rfl) (by kernel_rfl) (by kernel_rfl) (by kernel_rfl) (fun _ _ _ h=>h) (Or.inl ⟨by rfl,?_⟩) kS.out ?_
        rotate_left
        · intro u hSu
          try dsimp only at hSu
          first | (go_simp;done) | (go_simp;with_reducible rfl)
        try simp only [Act.put,List.setIfInBounds_toArray,List.set_cons_zero,List.set_cons_succ]
        refine until_take (i:=4) [5,6] (v:=?_) rfl (by kernel_rfl) (by kernel_rfl) (by kernel_rfl) (by kernel_rfl) (by kernel_rfl) (fun _ _ _ h=>h) (Or.inl ⟨by rfl,?_⟩) kS.out ?_
        rotate_left
        · intro u hSu
          try dsimp only at hSu
          first | (go_simp;done) | (go_simp;with_reducible rfl)
        try simp only [Act.put,List.setIfInBounds_toArray,List.set_cons_zero,List.set_cons_succ]
        refine until_two14 (i:=2) (j:=7) (by kernel_rfl) rfl rfl (fun K' hK=>?_) (fun K' hK=>?_)
        · skip
          have C:=hid (HSX.out Wd BD.out)
          go_simp
          refine C.out.mono ?_;rintro r u1 ⟨hd,hb⟩;obtain ⟨a1,c1,rfl,hN⟩:=hd.shp14;have BD:=qsd (ai (BD.out.below hb) hN);have kS:=qsd (ai (cb14 kS.out.1 hb) (ai (cb14 kS.out.2.1 hb) (ai (cb14 kS.out.2.2.1 hb) (ai (cb14 kS.out.2.2.2.1 hb) (ai (cb14 kS.out.2.2.2.2.1 hb) (ai (cb14 kS.out.2.2.2.2.2.1 hb) (ai (cb14 kS.out.2.2.2.2.2.2.1 hb) (cb14 kS.out.2.2.2.2.2.2.2 hb))))))));clear hb hd hN C
          dsimp only
          refine hK.out _ _ (fun _=>kS.out) ?_
          clear hK K'
          try simp only [Act.put,List.setIfInBounds_toArray,List.set_cons_zero,List.set_cons_succ]
          refine until_two14 (i:=5) (j:=7) (by kernel_rfl) rfl rfl (fun K' hK=>?_) (fun K' hK=>?_)
          · skip
            have C:=hid (HSY.out u1 BD.out.1)
            go_simp
            refine C.out.mono ?_;rintro r u2 ⟨hd,hb⟩;obtain ⟨a2,c2,rfl,hN⟩:=hd.shp14;have BD:=qsd (ai (BD.out.1.below hb) (ai (BD.out.2.below hb) hN));have kS:=qsd (ai (cb14 kS.out.1 hb) (ai (cb14 kS.out.2.1 hb) (ai (cb14 kS.out.2.2.1 hb) (ai (cb14 kS.out.2.2.2.1 hb) (ai (cb14 kS.out.2.2.2.2.1 hb) (ai (cb14 kS.out.2.2.2.2.2.1 hb) (ai (cb14 kS.out.2.2.2.2.2.2.1 hb) (cb14 kS.out.2.2.2.2.2.2.2 hb))))))));clear hb hd hN C
            dsimp only
            refine hK.out _ _ (fun _=>kS.out) ?_
            clear hK K'
            try simp only [Act.put,List.setIfInBounds_toArray,List.set_cons_zero,List.set_cons_succ]
            refine until_two14 (i:=6) (j:=7) (by kernel_rfl) rfl rfl (fun K' hK=>?_) (fun K' hK=>?_)
            · skip
              have C:=hid (times14 FF.out.1 FF.out.2.1 FF.out.2.2.1 BD.out.2.1 BD.out.2.2 (HT.out.belows BD.out.1.b) EE.out)
              go_simp
              refine C.out.mono ?_;rintro r u3 ⟨hd,hb⟩;obtain ⟨a3,c3,rfl,hN⟩:=hd.shp14;have BD:=qsd (ai (BD.out.1.below hb) (ai (BD.out.2.1.below hb) (ai (BD.out.2.2.below hb) hN)));have kS:=qsd (ai (cb14 kS.out.1 hb) (ai (cb14 kS.out.2.1 hb) (ai (cb14 kS.out.2.2.1 hb) (ai (cb14 kS.out.2.2.2.1 hb) (ai (cb14 kS.out.2.2.2.2.1 hb) (ai (cb14 kS.out.2.2.2.2.2.1 hb) (ai (cb14 kS.out.2.2.2.2.2.2.1 hb) (cb14 kS.out.2.2.2.2.2.2.2 hb))))))));clear hb hd hN C
              dsimp only
              refine hK.out _ _ (fun _=>kS.out) ?_
              clear hK K'
              try simp only [Act.put,List.setIfInBounds_toArray,List.set_cons_zero,List.set_cons_succ]
              refine until_one (i:=7) (by kernel_rfl) rfl (fun K' hK=>?_)
              go_simp
              obtain ⟨g4,hg4⟩:∃ g,g=u3.heap.size:=⟨_,rfl⟩;obtain ⟨V4,hV4⟩:∃ V,V=u3.alloc (Obj.cells #[.bool false,.slice none 0 0,.int .i64 0] 37):=⟨_,rfl⟩;have hb:Below u3.heap.size u3 V4:=by rw [hV4];exact below_alloc _ _
              have hZ:Lo V4 g4 o00:=by rw [hV4,hg4];exact Lo.zero _
              have BD:=qsd (ai (BD.out.1.below hb) (ai (BD.out.2.1.below hb) (ai (BD.out.2.2.1.below hb) (ai (BD.out.2.2.2.below hb) (ai hZ (ai (show gx<g4 by rw [hg4];exact BD.out.1.x.lt) (show gy<g4 by rw [hg4];exact BD.out.1.y.lt)))))))
              have kS:=qsd (ai (cb14 kS.out.1 hb) (ai (cb14 kS.out.2.1 hb) (ai (cb14 kS.out.2.2.1 hb) (ai (cb14 kS.out.2.2.2.1 hb) (ai (cb14 kS.out.2.2.2.2.1 hb) (ai (cb14 kS.out.2.2.2.2.2.1 hb) (ai (cb14 kS.out.2.2.2.2.2.2.1 hb) (cb14 kS.out.2.2.2.2.2.2.2 hb))))))));have HV:=(qsd (ai hV4 hg4));clear hZ hb hV4 hg4;refine hK.out _ _ (fun _=>by rw [←HV.out.1];exact kS.out) ?_
              clear hK K';rw [←HV.out.1,←HV.out.2];clear HV
              try simp only [Act.put,List.setIfInBounds_toArray,List.set_cons_zero,List.set_cons_succ]
              obtain ⟨zp,zq,DZ,MZ⟩:=BD.out.2.2.2.2.1;obtain ⟨z0,z1,z2,zf0,zf1,zf2⟩:=DZ.facts;clear DZ MZ;refine until_one (i:=8) (by kernel_rfl) rfl (fun K' hK=>?_)
              go_simp
              refine hK.out _ _ (fun h=>absurd h (by decide)) ?_
              clear hK K' z0 z1 z2 zf0 zf1 zf2 kS;refine until_done (by kernel_rfl) ?_ _
              go_wp2_with fail
              go_meet
              case rel=>exact ⟨g4,rfl,BD.out.2.2.2.2.1.set BD.out.2.2.2.1,BD.out.1.other BD.out.2.2.2.2.1 (Nat.ne_of_lt BD.out.2.2.2.2.2.1) (Nat.ne_of_lt BD.out.2.2.2.2.2.2) HG.out _ _ _ (by have:=HG.out;have:=BD.out.2.2.2.2.2.1;omega) (by have:=HG.out;have:=BD.out.2.2.2.2.2.1;omega) (by have:=HG.out;have:=BD.out.2.2.2.2.2.1;omega)⟩
            · skip
              go_simp
              obtain ⟨g5,hg5⟩:∃ g,g=u2.heap.size:=⟨_,rfl⟩;obtain ⟨V5,hV5⟩:∃ V,V=u2.alloc (Obj.cells #[.bool false,.slice none 0 0,.int .i64 0] 37):=⟨_,rfl⟩;have hb:Below u2.heap.size u2 V5:=by rw [hV5];exact below_alloc _ _
              have hZ:Lo V5 g5 o00:=by rw [hV5,hg5];exact Lo.zero _
              have BD:=qsd (ai (BD.out.1.below hb) (ai (BD.out.2.1.below hb) (ai (BD.out.2.2.below hb) (ai hZ (ai (show gx<g5 by rw [hg5];exact BD.out.1.x.lt) (show gy<g5 by rw [hg5];exact BD.out.1.y.lt))))))
              have kS:=qsd (ai (cb14 kS.out.1 hb) (ai (cb14 kS.out.2.1 hb) (ai (cb14 kS.out.2.2.1 hb) (ai (cb14 kS.out.2.2.2.1 hb) (ai (cb14 kS.out.2.2.2.2.1 hb) (ai (cb14 kS.out.2.2.2.2.2.1 hb) (ai (cb14 kS.out.2.2.2.2.2.2.1 hb) (cb14 kS.out.2.2.2.2.2.2.2 hb))))))));have HV:=(qsd (ai hV5 hg5));clear hZ hb hV5 hg5;refine hK.out _ _ (fun _=>by rw [←HV.out.1];exact kS.out) ?_
              clear hK K';rw [←HV.out.1,←HV.out.2];clear HV
              try simp only [Act.put,List.setIfInBounds_toArray,List.set_cons_zero,List.set_cons_succ]
              refine until_one (i:=6) (by kernel_rfl) rfl (fun K' hK=>?_)
              have C:=hid (times14 FF.out.1 FF.out.2.1 FF.out.2.2.1 BD.out.2.1 BD.out.2.2.1 (HT.out.belows BD.out.1.b) EE.out)
              go_simp
              refine C.out.mono ?_;rintro r u6 ⟨hd,hb⟩;obtain ⟨a6,c6,rfl,hN⟩:=hd.shp14;have BD:=qsd (ai (BD.out.1.below hb) (ai (BD.out.2.1.below hb) (ai (BD.out.2.2.1.below hb) (ai (BD.out.2.2.2.1.below hb) (ai BD.out.2.2.2.2.1 (ai BD.out.2.2.2.2.2 hN))))));have kS:=qsd (ai (cb14 kS.out.1 hb) (ai (cb14 kS.out.2.1 hb) (ai (cb14 kS.out.2.2.1 hb) (ai (cb14 kS.out.2.2.2.1 hb) (ai (cb14 kS.out.2.2.2.2.1 hb) (ai (cb14 kS.out.2.2.2.2.2.1 hb) (ai (cb14 kS.out.2.2.2.2.2.2.1 hb) (cb14 kS.out.2.2.2.2.2.2.2 hb))))))));clear hb hd hN C
              dsimp only
              refine hK.out _ _ (fun _=>kS.out) ?_
              clear hK K'
              try simp only [Act.put,List.setIfInBounds_toArray,List.set_cons_zero,List.set_cons_succ]
              obtain ⟨zp,zq,DZ,MZ⟩:=BD.out.2.2.2.1;obtain ⟨z0,z1,z2,zf0,zf1,zf2⟩:=DZ.facts;clear DZ MZ;refine until_one (i:=8) (by kernel_rfl) rfl (fun K' hK=>?_)
              go_simp
              refine hK.out _ _ (fun h=>absurd h (by decide)) ?_
              clear hK K' z0 z1 z2 zf0 zf1 zf2 kS;refine until_done (by kernel_rfl) ?_ _
              go_wp2_with fail
              go_meet
              case rel=>exact ⟨g5,rfl,BD.out.2.2.2.1.set BD.out.2.2.2.2.2.2,BD.out.1.other BD.out.2.2.2.1 (Nat.ne_of_lt BD.out.2.2.2.2.1) (Nat.ne_of_lt BD.out.2.2.2.2.2.1) HG.out _ _ _ (by have:=HG.out;have:=BD.out.2.2.2.2.1;omega) (by have:=HG.out;have:=BD.out.2.2.2.2.1;omega) (by have:=HG.out;have:=BD.out.2.2.2.2.1;omega)⟩
          · skip
            go_simp
            obtain ⟨g7,hg7⟩:∃ g,g=u1.heap.size:=⟨_,rfl⟩;obtain ⟨V7,hV7⟩:∃ V,V=u1.alloc (Obj.cells #[.bool false,.slice none 0 0,.int .i64 0] 37):=⟨_,rfl⟩;have hb:Below u1.heap.size u1 V7:=by rw [hV7];exact below_alloc _ _
            have hZ:Lo V7 g7 o00:=by rw [hV7,hg7];exact Lo.zero _
            have BD:=qsd (ai (BD.out.1.below hb) (ai (BD.out.2.below hb) (ai hZ (ai (show gx<g7 by rw [hg7];exact BD.out.1.x.lt) (show gy<g7 by rw [hg7];exact BD.out.1.y.lt)))))
            have kS:=qsd (ai (cb14 kS.out.1 hb) (ai (cb14 kS.out.2.1 hb) (ai (cb14 kS.out.2.2.1 hb) (ai (cb14 kS.out.2.2.2.1 hb) (ai (cb14 kS.out.2.2.2.2.1 hb) (ai (cb14 kS.out.2.2.2.2.2.1 hb) (ai (cb14 kS.out.2.2.2.2.2.2.1 hb) (cb14 kS.out.2.2.2.2.2.2.2 hb))))))));have HV:=(qsd (ai hV7 hg7));clear hZ hb hV7 hg7;refine hK.out _ _ (fun _=>by rw [←HV.out.1];exact kS.out) ?_
            clear hK K';rw [←HV.out.1,←HV.out.2];clear HV
            try simp only [Act.put,List.setIfInBounds_toArray,List.set_cons_zero,List.set_cons_succ]
            refine until_one (i:=5) (by kernel_rfl) rfl (fun K' hK=>?_)
            have C:=hid (HSY.out V7 BD.out.1)
            go_simp
            refine C.out.mono ?_;rintro r u8 ⟨hd,hb⟩;obtain ⟨a8,c8,rfl,hN⟩:=hd.shp14;have BD:=qsd (ai (BD.out.1.below hb) (ai (BD.out.2.1.below hb) (ai (BD.out.2.2.1.below hb) (ai BD.out.2.2.2.1 (ai BD.out.2.2.2.2 hN)))));have kS:=qsd (ai (cb14 kS.out.1 hb) (ai (cb14 kS.out.2.1 hb) (ai (cb14 kS.out.2.2.1 hb) (ai (cb14 kS.out.2.2.2.1 hb) (ai (cb14 kS.out.2.2.2.2.1 hb) (ai (cb14 kS.out.2.2.2.2.2.1 hb) (ai (cb14 kS.out.2.2.2.2.2.2.1 hb) (cb14 kS.out.2.2.2.2.2.2.2 hb))))))));clear hb hd hN C
            dsimp only
            refine hK.out _ _ (fun _=>kS.out) ?_
            clear hK K'
            try simp only [Act.put,List.setIfInBounds_toArray,List.set_cons_zero,List.set_cons_succ]
            refine until_one (i:=6) (by kernel_rfl) rfl (fun K' hK=>?_)
            have C:=hid (times14 FF.out.1 FF.out.2.1 FF.out.2.2.1 BD.out.2.1 BD.out.2.2.2.2.2 (HT.out.belows BD.out.1.b) EE.out)
            go_simp
            refine C.out.mono ?_;rintro r u9 ⟨hd,hb⟩;obtain ⟨a9,c9,rfl,hN⟩:=hd.shp14;have BD:=qsd (ai (BD.out.1.below hb) (ai (BD.out.2.1.below hb) (ai (BD.out.2.2.1.below hb) (ai BD.out.2.2.2.1 (ai BD.out.2.2.2.2.1 (ai (BD.out.2.2.2.2.2.below hb) hN))))));have kS:=qsd (ai (cb14 kS.out.1 hb) (ai (cb14 kS.out.2.1 hb) (ai (cb14 kS.out.2.2.1 hb) (ai (cb14 kS.out.2.2.2.1 hb) (ai (cb14 kS.out.2.2.2.2.1 hb) (ai (cb14 kS.out.2.2.2.2.2.1 hb) (ai (cb14 kS.out.2.2.2.2.2.2.1 hb) (cb14 kS.out.2.2.2.2.2.2.2 hb))))))));clear hb hd hN C
            dsimp only
            refine hK.out _ _ (fun _=>kS.out) ?_
            clear hK K'
            try simp only [Act.put,List.setIfInBounds_toArray,List.set_cons_zero,List.set_cons_succ]
            obtain ⟨zp,zq,DZ,MZ⟩:=BD.out.2.2.1;obtain ⟨z0,z1,z2,zf0,zf1,zf2⟩:=DZ.facts;clear DZ MZ;refine until_one (i:=8) (by kernel_rfl) rfl (fun K' hK=>?_)
            go_simp
            refine hK.out _ _ (fun h=>absurd h (by decide)) ?_
            clear hK K' z0 z1 z2 zf0 zf1 zf2 kS;refine until_done (by kernel_rfl) ?_ _
            go_wp2_with fail
            go_meet
            case rel=>exact ⟨g7,rfl,BD.out.2.2.1.set BD.out.2.2.2.2.2.2,BD.out.1.other BD.out.2.2.1 (Nat.ne_of_lt BD.out.2.2.2.1) (Nat.ne_of_lt BD.out.2.2.2.2.1) HG.out _ _ _ (by have:=HG.out;have:=BD.out.2.2.2.1;omega) (by have:=HG.out;have:=BD.out.2.2.2.1;omega) (by have:=HG.out;have:=BD.out.2.2.2.1;omega)⟩
        · skip
          go_simp
          obtain ⟨g10,hg10⟩:∃ g,g=Wd.heap.size:=⟨_,rfl⟩;obtain ⟨V10,hV10⟩:∃ V,V=Wd.alloc (Obj.cells #[.bool false,.slice none 0 0,.int .i64 0] 37):=⟨_,rfl⟩;have hb:Below Wd.heap.size Wd V10:=by rw [hV10];exact below_alloc _ _
          have hZ:Lo V10 g10 o00:=by rw [hV10,hg10];exact Lo.zero _
          have BD:=qsd (ai (BD.out.below hb) (ai hZ (ai (show gx<g10 by rw [hg10];exact BD.out.x.lt) (show gy<g10 by rw [hg10];exact BD.out.y.lt))))
          have kS:=qsd (ai (cb14 kS.out.1 hb) (ai (cb14 kS.out.2.1 hb) (ai (cb14 kS.out.2.2.1 hb) (ai (cb14 kS.out.2.2.2.1 hb) (ai (cb14 kS.out.2.2.2.2.1 hb) (ai (cb14 kS.out.2.2.2.2.2.1 hb) (ai (cb14 kS.out.2.2.2.2.2.2.1 hb) (cb14 kS.out.2.2.2.2.2.2.2 hb))))))));have HV:=(qsd (ai hV10 hg10));clear hZ hb hV10 hg10;refine hK.out _ _ (fun _=>by rw [←HV.out.1];exact kS.out) ?_
          clear hK K';rw [←HV.out.1,←HV.out.2];clear HV
          try simp only [Act.put,List.setIfInBounds_toArray,List.set_cons_zero,List.set_cons_succ]
          refine until_one (i:=2) (by kernel_rfl) rfl (fun K' hK=>?_)
          have C:=hid (HSX.out V10 BD.out.1)
          go_simp
          refine C.out.mono ?_;rintro r u11 ⟨hd,hb⟩;obtain ⟨a11,c11,rfl,hN⟩:=hd.shp14;have BD:=qsd (ai (BD.out.1.below hb) (ai (BD.out.2.1.below hb) (ai BD.out.2.2.1 (ai BD.out.2.2.2 hN))));have kS:=qsd (ai (cb14 kS.out.1 hb) (ai (cb14 kS.out.2.1 hb) (ai (cb14 kS.out.2.2.1 hb) (ai (cb14 kS.out.2.2.2.1 hb) (ai (cb14 kS.out.2.2.2.2.1 hb) (ai (cb14 kS.out.2.2.2.2.2.1 hb) (ai (cb14 kS.out.2.2.2.2.2.2.1 hb) (cb14 kS.out.2.2.2.2.2.2.2 hb))))))));clear hb hd hN C
          dsimp only
          refine hK.out _ _ (fun _=>kS.out) ?_
          clear hK K'
          try simp only [Act.put,List.setIfInBounds_toArray,List.set_cons_zero,List.set_cons_succ]
          refine until_one (i:=5) (by kernel_rfl) rfl (fun K' hK=>?_)
          have C:=hid (HSY.out u11 BD.out.1)
          go_simp
          refine C.out.mono ?_;rintro r u12 ⟨hd,hb⟩;obtain ⟨a12,c12,rfl,hN⟩:=hd.shp14;have BD:=qsd (ai (BD.out.1.below hb) (ai (BD.out.2.1.below hb) (ai BD.out.2.2.1 (ai BD.out.2.2.2.1 (ai (BD.out.2.2.2.2.below hb) hN)))));have kS:=qsd (ai (cb14 kS.out.1 hb) (ai (cb14 kS.out.2.1 hb) (ai (cb14 kS.out.2.2.1 hb) (ai (cb14 kS.out.2.2.2.1 hb) (ai (cb14 kS.out.2.2.2.2.1 hb) (ai (cb14 kS.out.2.2.2.2.2.1 hb) (ai (cb14 kS.out.2.2.2.2.2.2.1 hb) (cb14 kS.out.2.2.2.2.2.2.2 hb))))))));clear hb hd hN C
          dsimp only
          refine hK.out _ _ (fun _=>kS.out) ?_
          clear hK K'
          try simp only [Act.put,List.setIfInBounds_toArray,List.set_cons_zero,List.set_cons_succ]
          refine until_one (i:=6) (by kernel_rfl) rfl (fun K' hK=>?_)
          have C:=hid (times14 FF.out.1 FF.out.2.1 FF.out.2.2.1 BD.out.2.2.2.2.1 BD.out.2.2.2.2.2 (HT.out.belows BD.out.1.b) EE.out)
          go_simp
          refine C.out.mono ?_;rintro r u13 ⟨hd,hb⟩;obtain ⟨a13,c13,rfl,hN⟩:=hd.shp14;have BD:=qsd (ai (BD.out.1.below hb) (ai (BD.out.2.1.below hb) (ai BD.out.2.2.1 (ai BD.out.2.2.2.1 (ai (BD.out.2.2.2.2.1.below hb) (ai (BD.out.2.2.2.2.2.below hb) hN))))));have kS:=qsd (ai (cb14 kS.out.1 hb) (ai (cb14 kS.out.2.1 hb) (ai (cb14 kS.out.2.2.1 hb) (ai (cb14 kS.out.2.2.2.1 hb) (ai (cb14 kS.out.2.2.2.2.1 hb) (ai (cb14 kS.out.2.2.2.2.2.1 hb) (ai (cb14 kS.out.2.2.2.2.2.2.1 hb) (cb14 kS.out.2.2.2.2.2.2.2 hb))))))));clear hb hd hN C
          dsimp only
          refine hK.out _ _ (fun _=>kS.out) ?_
          clear hK K'
          try simp only [Act.put,List.setIfInBounds_toArray,List.set_cons_zero,List.set_cons_succ]
          obtain ⟨zp,zq,DZ,MZ⟩:=BD.out.2.1;obtain ⟨z0,z1,z2,zf0,zf1,zf2⟩:=DZ.facts;clear DZ MZ;refine until_one (i:=8) (by kernel_rfl) rfl (fun K' hK=>?_)
          go_simp
          refine hK.out _ _ (fun h=>absurd h (by decide)) ?_
          clear hK K' z0 z1 z2 zf0 zf1 zf2 kS;refine until_done (by kernel_rfl) ?_ _
          go_wp2_with fail
          go_meet
          case rel=>exact ⟨g10,rfl,BD.out.2.1.set BD.out.2.2.2.2.2.2,BD.out.1.other BD.out.2.1 (Nat.ne_of_lt BD.out.2.2.1) (Nat.ne_of_lt BD.out.2.2.2.1) HG.out _ _ _ (by have:=HG.out;have:=BD.out.2.2.1;omega) (by have:=HG.out;have:=BD.out.2.2.1;omega) (by have:=HG.out;have:=BD.out.2.2.1;omega)⟩
       obtain ⟨g11,rfl,K1⟩:=hcut;obtain ⟨U,hU⟩:∃ U,U=wc:=⟨_,rfl⟩;rw [←hU] at K1 ⊢;clear hU B4 s0 HSX HSY;obtain ⟨pq,cq,DQ,MQ⟩:=K1.out.1;obtain ⟨x0,x1,x2,xf0,xf1,xf2⟩:=DQ.facts;have C:=hid (HSg.out U pq cq MQ);clear DQ MQ
       go_wp2_with fail
       refine C.out.mono ?_;rintro r v ⟨rfl,hb⟩;have K2:=qsd (ai (K1.out.1.below hb) (K1.out.2.below hb));clear hb C x0 x1 x2 xf0 xf1 xf2 K1 HSg
       by_cases hq:q=0
       · have hz:=HZ2.out
         rw [if_pos hq] at hz;obtain ⟨rfl,rfl⟩:=Prod.mk.inj hz;have e0:(sg==0)=true:=by rw [HS1.out];exact decide_eq_true hq
         have e1:sg=0:=by simpa using e0
         subst e1;clear hz HZ2 HS1 e0;go_wp2;exact bodyPost_ret (v:=.tuple #[.float .f64 0,.int .i64 190]) (by simp [results,Tryz.results12,go_sem]) rfl ⟨rfl,K2.out.2.b⟩
       · have e0:(sg==0)=false:=by rw [HS1.out];exact decide_eq_false hq
         have HBr:=HBRA.out hq;have BD:=qsd (ai (K2.out.1.below (Below.refl v.heap.size v).drew) (K2.out.2.below (Below.refl v.heap.size v).drew));obtain ⟨pq,cq,DQ,MQ⟩:=BD.out.1;have kS:=qsd (ai DQ.facts.1 (ai DQ.facts.2.1 (ai DQ.facts.2.2.1 BD.out.2.cells)));have BD:=qsd (ai BD.out.2 MQ);have C1:=hid (HSXY.out v.drew BD.out.1);clear K2 HZ2 HS1 HBRA hq DQ MQ
         go_wp2_with fail
         go_region_held3 (fun w'=>w'.cell? ⟨g11,0,none⟩=some (.bool (dN oQ))∧w'.cell? ⟨g11,1,none⟩=some (.slice pq (ws (dX oQ)).length cq)∧w'.cell? ⟨g11,2,none⟩=some (.int .i64 (dE oQ))∧w'.cell? ⟨gx,0,none⟩=some (.slice (some ⟨gA,0,none⟩) n n)∧w'.cell? ⟨gx,1,none⟩=some (.bool (dN oS))∧w'.cell? ⟨gx,2,none⟩=some (.slice p1 (ws (dX oS)).length q1)∧w'.cell? ⟨gx,3,none⟩=some (.int .i64 (dE oS))∧w'.cell? ⟨gy,0,none⟩=some (.slice (some ⟨gB,0,none⟩) n n)∧w'.cell? ⟨gy,1,none⟩=some (.bool (dN oT))∧w'.cell? ⟨gy,2,none⟩=some (.slice p2 (ws (dX oT)).length q2)∧w'.cell? ⟨gy,3,none⟩=some (.int .i64 (dE oT))) (with_reducible exact kS.out) (first
          | (go_at_call 41
             with_reducible refine C1.out.mono ?_
             rintro r u3 ⟨hd,hb⟩;obtain ⟨a3,c3,rfl,hN3⟩:=hd.shp14;have BE:=qsd (ai (BD.out.1.below hb) (ai (BD.out.2.below hb) hN3));have kS:=qsd (ai (cb14 kS.out.1 hb) (ai (cb14 kS.out.2.1 hb) (ai (cb14 kS.out.2.2.1 hb) (ai (cb14 kS.out.2.2.2.1 hb) (ai (cb14 kS.out.2.2.2.2.1 hb) (ai (cb14 kS.out.2.2.2.2.2.1 hb) (ai (cb14 kS.out.2.2.2.2.2.2.1 hb) (ai (cb14 kS.out.2.2.2.2.2.2.2.1 hb) (ai (cb14 kS.out.2.2.2.2.2.2.2.2.1 hb) (ai (cb14 kS.out.2.2.2.2.2.2.2.2.2.1 hb) (cb14 kS.out.2.2.2.2.2.2.2.2.2.2 hb)))))))))));have C2:=hid (HBr.out u3 a3 pq c3 cq (HT.out.belows BE.out.1.b) BE.out.2.2 BE.out.2.1);clear hb hd hN3 C1)
          | (go_at_call 43
             with_reducible refine C2.out.mono ?_
             rintro r u5 ⟨rfl,hb⟩;have BF:=qsd (BE.out.1.below hb);have kS:=qsd (ai (cb14 kS.out.1 hb) (ai (cb14 kS.out.2.1 hb) (ai (cb14 kS.out.2.2.1 hb) (ai (cb14 kS.out.2.2.2.1 hb) (ai (cb14 kS.out.2.2.2.2.1 hb) (ai (cb14 kS.out.2.2.2.2.2.1 hb) (ai (cb14 kS.out.2.2.2.2.2.2.1 hb) (ai (cb14 kS.out.2.2.2.2.2.2.2.1 hb) (ai (cb14 kS.out.2.2.2.2.2.2.2.2.1 hb) (ai (cb14 kS.out.2.2.2.2.2.2.2.2.2.1 hb) (cb14 kS.out.2.2.2.2.2.2.2.2.2.2 hb)))))))))));clear hb C2))
         go_wp2;exact bodyPost_ret (v:=.tuple #[.float .f64 X,.int .i64 E]) (by simp [results,Tryz.results12,go_sem]) rfl ⟨rfl,BF.out.b⟩
end
section
open Go Go.RowKit J
theorem addD_re {o1 o2:Option (Bool×Nat×Int)}(r1:mkS (dN o1) (dX o1) (dE o1)=o1) (h:(addD o1 (mkS (!dN o2) (dX o2) (dE o2))).isSome=true):mkS (dN (addD o1 (mkS (!dN o2) (dX o2) (dE o2)))) (dX (addD o1 (mkS (!dN o2) (dX o2) (dE o2)))) (dE (addD o1 (mkS (!dN o2) (dX o2) (dE o2))))=addD o1 (mkS (!dN o2) (dX o2) (dE o2)):=by
 cases h1:o1 with
 | none=>rw [h1] at h;cases h
 | some x =>
   cases h2:mkS (!dN o2) (dX o2) (dE o2) with
   | none=>rw [h1,h2] at h;cases h
   | some y =>
     obtain ⟨n,X,e⟩:=x;obtain ⟨m,Y,f⟩:=y
     have F1:Frm n X e:=by
      have:=frm_of (n:=dN o1) (X:=dX o1) (e:=dE o1) (by rw [r1,h1];rfl)
      rw [r1,h1] at this;exact this
     have F2:Frm m Y f:=mkS_frm h2
     cases h3:addD (some (n,X,e)) (some (m,Y,f)) with
     | none=>rw [h1,h2,h3] at h;cases h
     | some z =>
       obtain ⟨n',Z,g⟩:=z;exact mkS_idem (addF_frm F1 F2 h3)
noncomputable def ofR14 (n:Int) (o:Option (Bool×Nat×Int)) (less mode:Int):Nat×Int :=
 if mdB mode&&lsB less&&(decide (1≤n)&&decide (n≤1099511627776)) then
  if o.isSome then (if n≤less then (0,3) else qR14 o (gV 0 (n*(n-less))) mode) else (0,2)
 else (0,1)
theorem sh14_bd {n:Nat}{less:Int}(hn:n≤1099511627776) (h0:0≤less) (h1:less≤1):Bd 82 ((n:Int)*((n:Int)-less)) :=
 (Bd.mul (a:=41) (b:=41) (Bd.nat (by omega)) (by unfold Bd;omega))
theorem QuotG14 {u:World}{a b:Option Addr}{ca cb:Nat}{V D:Option (Bool×Nat×Int)}(mode:Int) (hV:V.isSome=true) (rV:mkS (dN V) (dX V) (dE V)=V) (FD:Fm D) (n1:Nt 0 u (.slice a (ws (dX V)).length ca) (dX V)) (n2:Nt 0 u (.slice b (ws (dX D)).length cb) (dX D)) (hT:Tab u) :
 Calls Tryz.prog 37 #[.agg #[.bool (dN V),.slice a (ws (dX V)).length ca,.int .i64 (dE V),.bool (dN D),.slice b (ws (dX D)).length cb,.int .i64 (dE D)],.int .i64 mode] u fun r w'=>r=.returned (.tuple #[.float .f64 (qR14 V D mode).1,.int .i64 (qR14 V D mode).2])∧Below u.heap.size u w':=by
 obtain ⟨l1,r1,r2⟩:=len_rng14 hV rV;exact Quot11 (w:=u) (n:=dN V) (m:=dN D) (X:=dX V) (Y:=dX D) (e:=dE V) (f:=dE D) mode ⟨n1.av (by omega),n2.av (Nat.le_trans FD.len (by decide)),⟨r1,r2⟩,FD.rng⟩ hT
theorem Of_core (w:World) (n:Int) (ns np:Bool) (as' ap:Option Addr) (ls cs lp cp:Nat) (es ep less mode:Int) (oV:Option (Bool×Nat×Int)) (hT:Tab w) (rV:oV.isSome=true→mkS (dN oV) (dX oV) (dE oV)=oV)
 (HD:Hid (∀ u:World,Below w.heap.size w u→Calls Tryz.prog 45 #[.int .i64 n,.agg #[.bool np,.slice ap lp cp,.int .i64 ep],.agg #[.bool ns,.slice as' ls cs,.int .i64 es],.agg #[.bool ns,.slice as' ls cs,.int .i64 es]] u fun r w'=>DA14 w' r oV (erS oV)∧Below u.heap.size u w')) (z:Nat×Int) (hz:ofR14 n oV less mode=z) :
 Calls Tryz.prog 13 #[.int .i64 n,.agg #[.bool ns,.slice as' ls cs,.int .i64 es],.agg #[.bool np,.slice ap lp cp,.int .i64 ep],.int .i64 less,.int .i64 mode] w fun r w'=>r=.returned (.tuple #[.float .f64 z.1,.int .i64 z.2])∧Below w.heap.size w w':=by
 obtain ⟨X,E⟩:=z;simp only;obtain ⟨W,hWW⟩:∃ W,W=(w.alloc (Obj.cells #[.bool ns,.slice as' ls cs,.int .i64 es] 37)).alloc (Obj.cells #[.bool np,.slice ap lp cp,.int .i64 ep] 37):=⟨_,rfl⟩
 have B0:Aside (Dk W w.heap.size ns (.slice as' ls cs) es∧Dk W (w.heap.size+1) np (.slice ap lp cp) ep∧Below w.heap.size w W):=by
  have z1:=Dk.new (w.alloc (Obj.cells #[.bool ns,.slice as' ls cs,.int .i64 es] 37)) np (.slice ap lp cp) ep;rw [World.size_alloc] at z1;rw [hWW];exact ⟨(Dk.new _ _ _ _).below (below_alloc _ _),z1,(below_alloc _ _).trans ((below_alloc _ _).mono (by simp))⟩
 have HWW:=qsd hWW;have HT:=qsd hT;have HRV:=qsd rV;clear hWW hT rV;have C:=hid (isMode14 mode W);have D:=hid (isLess14 less W);unfold ofR14 at hz
 cases hm:mdB mode with
 | false =>
   rw [hm,Bool.false_and,Bool.false_and,if_neg (by decide)] at hz
   rw [hm] at C;obtain ⟨rfl,rfl⟩:=Prod.mk.inj hz;clear hz HD;go_enter Tryz.func13,Tryz.ntmps13
   go_upto_region 1 with fail
   rw [←HWW.out];clear HWW
   go_wp2_with fail
   refine C.out.mono ?_;rintro r v ⟨rfl,hv⟩;rw [hv];clear hv v C;go_wp2;exact bodyPost_ret (v:=.tuple #[.float .f64 0,.int .i64 1]) (by simp [results,Tryz.results13,go_sem]) rfl ⟨rfl,B0.out.2.2⟩
 | true =>
 rw [hm] at C hz
 cases hs:lsB less with
 | false =>
   rw [hs,Bool.true_and,Bool.false_and,if_neg (by decide)] at hz
   rw [hs] at D;obtain ⟨rfl,rfl⟩:=Prod.mk.inj hz;clear hz HD;go_enter Tryz.func13,Tryz.ntmps13
   go_upto_region 1 with fail
   rw [←HWW.out];clear HWW
   go_wp2_with fail
   refine C.out.mono ?_;rintro r v ⟨rfl,hv⟩;rw [hv];clear hv v C
   go_wp2_with fail
   refine D.out.mono ?_;rintro r v ⟨rfl,hv⟩;rw [hv];clear hv v D;go_wp2;exact bodyPost_ret (v:=.tuple #[.float .f64 0,.int .i64 1]) (by simp [results,Tryz.results13,go_sem]) rfl ⟨rfl,B0.out.2.2⟩
 | true =>
 rw [hs] at D hz;rw [Bool.and_self,Bool.true_and] at hz
 by_cases h1:1≤n
 case neg =>
  rw [decide_eq_false h1,Bool.false_and,if_neg (by decide)] at hz
  have d1:decide (n<1)=true:=decide_eq_true (by omega)
  obtain ⟨rfl,rfl⟩:=Prod.mk.inj hz;clear hz HD;go_enter Tryz.func13,Tryz.ntmps13
  go_upto_region 1 with fail
  rw [←HWW.out];clear HWW
  go_wp2_with fail
  refine C.out.mono ?_;rintro r v ⟨rfl,hv⟩;rw [hv];clear hv v C
  go_wp2_with fail
  refine D.out.mono ?_;rintro r v ⟨rfl,hv⟩;rw [hv];clear hv v D;go_wp2;exact bodyPost_ret (v:=.tuple #[.float .f64 0,.int .i64 1]) (by simp [results,Tryz.results13,go_sem]) rfl ⟨rfl,B0.out.2.2⟩
 case pos =>
 have d1:decide (n<1)=false:=decide_eq_false (by omega)
 by_cases h2:n≤1099511627776
 case neg =>
  rw [decide_eq_true h1,decide_eq_false h2,Bool.and_false,if_neg (by decide)] at hz
  have d2:decide (1099511627776<n)=true:=decide_eq_true (by omega)
  obtain ⟨rfl,rfl⟩:=Prod.mk.inj hz;clear hz HD;go_enter Tryz.func13,Tryz.ntmps13
  go_upto_region 1 with fail
  rw [←HWW.out];clear HWW
  go_wp2_with fail
  refine C.out.mono ?_;rintro r v ⟨rfl,hv⟩;rw [hv];clear hv v C
  go_wp2_with fail
  refine D.out.mono ?_;rintro r v ⟨rfl,hv⟩;rw [hv];clear hv v D;go_wp2;exact bodyPost_ret (v:=.tuple #[.float .f64 0,.int .i64 1]) (by simp [results,Tryz.results13,go_sem]) rfl ⟨rfl,B0.out.2.2⟩
 case pos =>
  have d2:decide (1099511627776<n)=false:=decide_eq_false (by omega)
  rw [decide_eq_true h1,decide_eq_true h2,Bool.and_self,if_pos rfl] at hz;have l01:0≤less∧less≤1:=by have:=ls_ok hs;omega
  obtain ⟨N,rfl⟩:∃ N:Nat,n=(N:Int):=⟨n.toNat,by omega⟩
  have C3:=hid (HD.out W B0.out.2.2);have HZ:=qsd hz;have HL:=(qsd (ai l01 (ai h1 h2)));clear hz HD hs hm l01 h1 h2;go_enter Tryz.func13,Tryz.ntmps13
  go_upto_region 1 with fail
  rw [←HWW.out];clear HWW
  go_wp2_with fail
  refine C.out.mono ?_;rintro r v ⟨rfl,hv⟩;rw [hv];clear hv v C
  go_wp2_with fail
  refine D.out.mono ?_;rintro r v ⟨rfl,hv⟩;rw [hv];clear hv v D;obtain ⟨x0,x1,x2,xf0,xf1,xf2⟩:=B0.out.1.facts;obtain ⟨y0,y1,y2,yf0,yf1,yf2⟩:=B0.out.2.1.facts
  go_wp2_with fail
  refine C3.out.mono ?_;rintro r u ⟨hd,hb⟩;obtain ⟨p1,q1,rfl,hN⟩:=hd.shp14;obtain ⟨U,hU⟩:∃ U,U=u.alloc (Obj.cells #[.bool (dN oV),.slice p1 (ws (dX oV)).length q1,.int .i64 (dE oV)] 37):=⟨_,rfl⟩;obtain ⟨g12,hg12⟩:∃ g,g=u.heap.size:=⟨_,rfl⟩
  have B1:Aside (Dk U g12 (dN oV) (.slice p1 (ws (dX oV)).length q1) (dE oV)∧Nt 0 U (.slice p1 (ws (dX oV)).length q1) (dX oV)∧Below w.heap.size w U):=by
   rw [hU,hg12];have b:=B0.out.2.2.trans (hb.mono B0.out.2.2.size);exact ⟨Dk.new _ _ _ _,hN.below (below_alloc _ _),b.trans ((below_alloc _ _).mono b.size)⟩
  have HU:=(qsd (ai hU hg12));clear hU hg12 hN hd hb C3 x0 x1 x2 xf0 xf1 xf2 y0 y1 y2 yf0 yf1 yf2 B0;have hz:=HZ.out
  cases hso:oV.isSome with
  | false =>
    rw [hso,if_neg (by decide)] at hz
    rw [erS_none hso];obtain ⟨rfl,rfl⟩:=Prod.mk.inj hz;clear hz HZ hso
    go_upto_region 4 with fail
    rw [←HU.out.1];clear HU;go_wp2;exact bodyPost_ret (v:=.tuple #[.float .f64 0,.int .i64 2]) (by simp [results,Tryz.results13,go_sem]) rfl ⟨rfl,B1.out.2.2⟩
  | true =>
    rw [hso,if_pos rfl] at hz;rw [erS_some hso];have HSO:=qsd hso
    go_upto_region 4 with fail
    rw [←HU.out.1,←HU.out.2];clear HU hso
    by_cases hle:(N:Int)≤less
    · have dle:decide ((N:Int)≤less)=true:=decide_eq_true hle
      rw [if_pos hle] at hz;obtain ⟨rfl,rfl⟩:=Prod.mk.inj hz;clear hz HZ;go_wp2;exact bodyPost_ret (v:=.tuple #[.float .f64 0,.int .i64 3]) (by simp [results,Tryz.results13,go_sem]) rfl ⟨rfl,B1.out.2.2⟩
    · have dle:decide ((N:Int)≤less)=false:=decide_eq_false hle
      rw [if_neg hle] at hz;obtain ⟨oD,hoD⟩:∃ o,o=gV 0 ((N:Int)*((N:Int)-less)):=⟨_,rfl⟩;rw [←hoD] at hz;have hN6:N≤1099511627776:=by have:=HL.out.2.2;omega
      have FD:Fm oD:=by rw [hoD];exact g_fm (by decide) (by decide) (sh14_bd hN6 HL.out.1.1 HL.out.1.2)
      have HSH:Hid (∀ u:World,Tab u→Calls Tryz.prog 46 #[.int .i64 (N:Nat),.int .i64 less] u fun r w'=>DVal 0 w' r oD∧Below u.heap.size u w'):=fun u hu=>by
       rw [hoD];exact shares14 N less u hu hN6 HL.out.1.1 HL.out.1.2 (by omega)
      have HR:Hid (∀ (u:World) (b:Option Addr) (cb:Nat),Tab u→Nt 0 u (.slice p1 (ws (dX oV)).length q1) (dX oV)→Nt 0 u (.slice b (ws (dX oD)).length cb) (dX oD)→Calls Tryz.prog 37 #[.agg #[.bool (dN oV),.slice p1 (ws (dX oV)).length q1,.int .i64 (dE oV),.bool (dN oD),.slice b (ws (dX oD)).length cb,.int .i64 (dE oD)],.int .i64 mode] u fun r w'=>r=.returned (.tuple #[.float .f64 X,.int .i64 E])∧Below u.heap.size u w'):=fun u b cb hTu n1 n2=>by
       have:=QuotG14 mode HSO.out (HRV.out HSO.out) FD n1 n2 hTu;rw [hz] at this;exact this
      have hdr:=(Below.refl U.heap.size U).drew;have BD:=qsd (ai (B1.out.2.1.below hdr) (B1.out.2.2.trans (hdr.mono B1.out.2.2.size)));have kS:Aside (U.drew.cell? ⟨g12,0,none⟩=some (.bool (dN oV))∧U.drew.cell? ⟨g12,1,none⟩=some (.slice p1 (ws (dX oV)).length q1)∧U.drew.cell? ⟨g12,2,none⟩=some (.int .i64 (dE oV))):=⟨(B1.out.1.below hdr).facts.1,(B1.out.1.below hdr).facts.2.1,(B1.out.1.below hdr).facts.2.2.1⟩;have C1:=hid (HSH.out U.drew (HT.out.belows BD.out.2));clear hz HZ hoD FD hdr hN6 hle HSO HRV HL B1
      go_wp2_with fail
      go_region_held3 (fun w'=>w'.cell? ⟨g12,0,none⟩=some (.bool (dN oV))∧w'.cell? ⟨g12,1,none⟩=some (.slice p1 (ws (dX oV)).length q1)∧w'.cell? ⟨g12,2,none⟩=some (.int .i64 (dE oV))) (with_reducible exact kS.out) (first
       | (go_at_call 46
          with_reducible refine C1.out.mono ?_
          rintro r u4 ⟨hd,hb⟩;obtain ⟨a4,c4,rfl,hN4⟩:=hd.shp14;have BG:=qsd (ai (BD.out.1.below hb) (ai (BD.out.2.trans (hb.mono BD.out.2.size)) hN4));have kS:=qsd (ai (cb14 kS.out.1 hb) (ai (cb14 kS.out.2.1 hb) (cb14 kS.out.2.2 hb)));have C3:=hid (HR.out u4 a4 c4 (HT.out.belows BG.out.2.1) BG.out.1 BG.out.2.2);clear hb hd hN4 C1)
       | (go_at_call 37
          with_reducible refine C3.out.mono ?_
          rintro r u5 ⟨rfl,hb⟩;have BF:=qsd (BG.out.2.1.trans (hb.mono BG.out.2.1.size));have kS:=qsd (ai (cb14 kS.out.1 hb) (ai (cb14 kS.out.2.1 hb) (cb14 kS.out.2.2 hb)));clear hb C3))
      go_wp2;exact bodyPost_ret (v:=.tuple #[.float .f64 X,.int .i64 E]) (by simp [results,Tryz.results13,go_sem]) rfl ⟨rfl,BF.out⟩
theorem Of14 {w:World}{as' ap:Option Addr}{ls cs lp cp:Nat}{xs ys:List Nat}(n:Int) (ns np:Bool) (es ep less mode:Int) (h1:Arg w as' ls cs xs) (h2:Arg w ap lp cp ys) (hT:Tab w) (hn:-9223372036854775808≤n∧n≤9223372036854775807) (b1:-9223372036854775808≤es∧es≤9223372036854775807) (b2:-9223372036854775808≤ep∧ep≤9223372036854775807)
 (z:Nat×Int) (hz:ofR14 n (difO (mulD (gV 0 n) (mkS np (val ys) ep)) (mulD (mkS ns (val xs) es) (mkS ns (val xs) es))) less mode=z) :
 Calls Tryz.prog 13 #[.int .i64 n,.agg #[.bool ns,.slice as' ls cs,.int .i64 es],.agg #[.bool np,.slice ap lp cp,.int .i64 ep],.int .i64 less,.int .i64 mode] w fun r w'=>r=.returned (.tuple #[.float .f64 z.1,.int .i64 z.2])∧Below w.heap.size w w':=by
 refine Of_core w n ns np as' ap ls cs lp cp es ep less mode _ hT (fun h=>?_) (hid fun u hu=>difference14 n np ns ns ep es es (h2.below hu) (h1.below hu) (h1.below hu) (hT.belows hu) hn b2 b1 b1) z hz
 unfold difO at h ⊢
 split at h
 · rename_i q
   rw [if_pos q];rw [Bool.and_eq_true] at q;exact addD_re (mulD_re q.1) h
 · cases h
end
section
open Go Go.RowKit J
theorem qR_ok {u v k:Nat}{V D:Int}(hu:u≤100000) (hv:v≤100000) (hk:k≤90000) (hV:V≠0) (hD:0<D) (bV:Bd k V) (bD:Bd k D) :
 ∃ K t m,(∀ j,j=1074→LiesG vK 9218868437227405312 1 K t m (V.natAbs*2^(j+v)) (D.natAbs*2^u))∧∀ mode:Int,0≤mode→mode≤4→qR14 (gV u V) (gV v D) mode=(rK mode (decide (V<0)) K t m+(if V<0 then 9223372036854775808 else 0),0):=by
 obtain ⟨Y,f,ho2,hY,hf0,hf1,hv2,hbl2,F2⟩:=g_parts (u:=v) (V:=D) hv (by omega) hk bD
 rw [decide_eq_false (by omega)] at ho2 F2
 obtain ⟨X,e,ho,hX,he0,he1,hvv,hbl,F⟩:=g_parts (u:=u) (V:=V) hu hV hk bV;have hm1:mkS (decide (V<0)) X e=some (decide (V<0),X,e):=mkS_idem F;have hm2:mkS false Y f=some (false,Y,f):=mkS_idem F2;obtain ⟨K,t,m,hL,hR⟩:=quo64 (decide (V<0)) X e Y f hX (by omega) hbl hbl2
 refine ⟨K,t,m,fun j hj=>?_,fun mode hm0 hm4=>?_⟩
 · refine hL.ratio14 (Nat.mul_pos (by omega) (Nat.two_pow_pos _)) ?_
   unfold rV11 rS11;rw [←hvv,←hv2]
   have e1:X*2^(e-f+((1*1074:Nat):Int)).toNat*(Y*2^(f+(v:Int)).toNat*2^u)=X*Y*(2^((e-f+((1*1074:Nat):Int)).toNat+((f+(v:Int)).toNat+u))):=by
    rw [Nat.pow_add,Nat.pow_add,Nat.mul_assoc Y,Nat.mul_mul_mul_comm]
   have e2:X*2^(e+(u:Int)).toNat*2^(j+v)*(Y*2^(-(e-f+((1*1074:Nat):Int))).toNat)=X*Y*(2^((e+(u:Int)).toNat+(j+v)+(-(e-f+((1*1074:Nat):Int))).toNat)):=by
    rw [Nat.pow_add _ (_+_),Nat.pow_add _ (e+(u:Int)).toNat,Nat.mul_assoc X,Nat.mul_mul_mul_comm]
   rw [e1,e2]
   congr 2
   omega
 · unfold qR14
   rw [ho,ho2]
   show quoR rndS ⟨decide (V<0),.bool false,X,e,false,.bool false,Y,f⟩ mode=_
   unfold quoR;rw [if_neg (by omega),if_pos (by rw [errL_one];show errN X (decide (V<0)) e Y false f=0;unfold errN;rw [if_neg (by unfold sgn;simp;split <;> omega),hm1,hm2];simp [dX];omega),hm1,hm2]
   have:=hR mode hm0 hm4;simp only [decide_eq_true_eq] at this;exact this
theorem qR_zero {u v k:Nat}{D:Int}(hv:v≤100000) (hk:k≤90000) (hD:0<D) (bD:Bd k D) (mode:Int) (m0:0≤mode) (m4:mode≤4):qR14 (gV u 0) (gV v D) mode=(0,0):=by
 obtain ⟨Y,f,ho2,hY,hf0,hf1,hv2,hbl2,F2⟩:=g_parts (u:=v) (V:=D) hv (by omega) hk bD
 rw [decide_eq_false (by omega)] at ho2 F2
 have hm2:mkS false Y f=some (false,Y,f):=mkS_idem F2;unfold qR14;rw [g_zero,ho2]
 show quoR rndS ⟨false,.bool false,0,0,false,.bool false,Y,f⟩ mode=_
 unfold quoR;rw [if_neg (by omega),if_pos (by rw [errL_one];show errN 0 false 0 Y false f=0;unfold errN;rw [if_neg (by unfold sgn;simp;split <;> omega),hm2,mkS_zero];simp [dX];omega),mkS_zero,hm2]
 show rndS (quoZ false 0 0 Y f) mode=_
 rw [quoZ_nought _ _ _ _ (by omega) hbl2,rndS_form mode false 0 0 m0 m4]
 rfl
theorem sR_ok2 {u v k:Nat}{V D:Int}(hu:u≤100000) (hv:v≤100000) (hk:k≤90000) (hV:0<V) (hD:0<D) (bV:Bd k V) (bD:Bd k D) :
 ∃ K t m,(∀ j,j=2148→LiesG vK 9218868437227405312 2 K t m (V.natAbs*2^(j+v)) (D.natAbs*2^u))∧∀ mode:Int,0≤mode→mode≤4→sR14 (gV u V) (gV v D) mode=(rK mode false K t m,0):=by
 obtain ⟨Y,f,ho2,hY,hf0,hf1,hv2,hbl2,F2⟩:=g_parts (u:=v) (V:=D) hv (by omega) hk bD
 rw [decide_eq_false (by omega)] at ho2 F2
 obtain ⟨X,e,ho,hX,he0,he1,hvv,hbl,F⟩:=g_parts (u:=u) (V:=V) hu (by omega) hk bV
 rw [decide_eq_false (by omega)] at ho F
 have hm1:mkS false X e=some (false,X,e):=mkS_idem F;have hm2:mkS false Y f=some (false,Y,f):=mkS_idem F2;obtain ⟨K,t,m,hL,hR⟩:=sqr64 X e Y f hX (by omega) hbl hbl2
 refine ⟨K,t,m,fun j hj=>?_,fun mode hm0 hm4=>?_⟩
 · refine hL.ratio14 (Nat.mul_pos (by omega) (Nat.two_pow_pos _)) ?_
   unfold rV11 rS11;rw [←hvv,←hv2]
   have e1:X*2^(e-f+((2*1074:Nat):Int)).toNat*(Y*2^(f+(v:Int)).toNat*2^u)=X*Y*(2^((e-f+((2*1074:Nat):Int)).toNat+((f+(v:Int)).toNat+u))):=by
    rw [Nat.pow_add,Nat.pow_add,Nat.mul_assoc Y,Nat.mul_mul_mul_comm]
   have e2:X*2^(e+(u:Int)).toNat*2^(j+v)*(Y*2^(-(e-f+((2*1074:Nat):Int))).toNat)=X*Y*(2^((e+(u:Int)).toNat+(j+v)+(-(e-f+((2*1074:Nat):Int))).toNat)):=by
    rw [Nat.pow_add _ (_+_),Nat.pow_add _ (e+(u:Int)).toNat,Nat.mul_assoc X,Nat.mul_mul_mul_comm]
   rw [e1,e2]
   congr 2
   omega
 · unfold sR14
   rw [ho,ho2]
   show sqrR rndS ⟨false,.bool false,X,e,false,.bool false,Y,f⟩ mode=_
   unfold sqrR;rw [if_neg (by omega),if_pos (by rw [errL_one];show errN X false e Y false f=0;unfold errN;rw [if_neg (by unfold sgn;simp;split <;> omega),hm1,hm2];simp [dX];omega),hm1,hm2]
   show (if false=true then ((0,110):Nat×Int) else rndS (sqZ X e Y f) mode)=_
   rw [if_neg (by decide)]
   exact hR mode hm0 hm4
def chkG (n K:Nat) (t:Bool) (m:Int) (V S:Nat):Bool :=
 decide (K<9218868437227405312)&&decide (0<S) &&
 (if t then decide (V=vK K^n*S) else decide (vK K^n*S<V) &&
  ((decide (V<vK (K+1)^n*S)&&((m==-1&&decide (2^n*V<(vK K+vK (K+1))^n*S)) || (m==0&&decide (2^n*V=(vK K+vK (K+1))^n*S)) || (m==1&&decide ((vK K+vK (K+1))^n*S<2^n*V)))) || (decide (¬ V<vK (K+1)^n*S)&&(decide (K+1=9218868437227405312)&&m==1))))
theorem chk_lies {n K:Nat}{t:Bool}{m:Int}{V S:Nat}(h:chkG n K t m V S=true):LiesG vK 9218868437227405312 n K t m V S:=by
 unfold chkG at h;simp only [Bool.and_eq_true,decide_eq_true_eq] at h;obtain ⟨⟨h1,h2⟩,h3⟩:=h
 cases t with
 | true =>
   simp only [if_true,decide_eq_true_eq] at h3;exact ⟨h1,h2,fun _=>h3,fun q=>(by cases q),fun q=>(by cases q),fun q=>(by cases q)⟩
 | false =>
   simp only [Bool.false_eq_true,if_false,Bool.and_eq_true,Bool.or_eq_true,decide_eq_true_eq,beq_iff_eq] at h3;refine ⟨h1,h2,fun q=>(by cases q),fun _=>h3.1,fun _ hv=>?_,fun _=>?_⟩
   · rcases h3.2 with ⟨_,(q | q) | q⟩ | ⟨q,_⟩
     · exact .inl q
     · exact .inr (.inl q)
     · exact .inr (.inr q)
     · exact absurd hv q
   · rcases h3.2 with ⟨q,_⟩ | ⟨_,q⟩
     · exact .inl q
     · exact .inr q
theorem LiesG.uniq14 {n K K':Nat}{t t':Bool}{m m':Int}{V S:Nat}(hn:n≠0) (h:LiesG vK 9218868437227405312 n K t m V S) (h':LiesG vK 9218868437227405312 n K' t' m' V S):K=K'∧t=t'∧(t=false→m=m'):=by
 have a1:vK K^n*S≤V:=by
  cases t with
  | true=>have:=h.one rfl;omega
  | false=>have:=h.low rfl;omega
 have a2:K+1=9218868437227405312∨V<vK (K+1)^n*S:=by
  cases t with
  | true =>
    have:=h.one rfl;have:=Nat.mul_lt_mul_of_pos_right (Nat.pow_lt_pow_left (grid64.mono (show K<K+1 by omega)) hn) h.pos
    omega
  | false =>
    rcases h.high rfl with q|q
    · exact .inr q
    · omega
 obtain ⟨e1,e2,e3⟩:=LiesG.doc grid64 (Nat.pos_of_ne_zero hn) h' K h.fin a1 a2;obtain ⟨_,f2,f3⟩:=LiesG.doc grid64 (Nat.pos_of_ne_zero hn) h K h.fin a1 a2;subst e1;rw [←f2] at e2;refine ⟨rfl,e2.symm,fun ht=>?_⟩
 rw [f3 ht,e3 (by rw [e2];exact ht)]
theorem rK_same14 {mode:Int}{n:Bool}{K K':Nat}{t t':Bool}{m m':Int}(h:K=K'∧t=t'∧(t=false→m=m')):rK mode n K t m=rK mode n K' t' m':=by
 obtain ⟨rfl,rfl,h⟩:=h
 cases t with
 | true=>rfl
 | false=>rw [h rfl]
theorem q_at {u v k:Nat}{V D:Int}(hu:u≤100000) (hv:v≤100000) (hk:k≤90000) (hD:decide (0<D)=true) (bV:Bd k V) (bD:Bd k D) (mode:Int) (hm:decide (0≤mode∧mode≤4)=true) (K:Nat) (t:Bool) (m:Int) (ng:Bool) (hV:(decide (V≠0)&&(decide (V<0)==ng))=true) (hc:chkG 1 K t m (V.natAbs*2^(1074+v)) (D.natAbs*2^u)=true) :
 qR14 (gV u V) (gV v D) mode=(rK mode ng K t m+(if ng then 9223372036854775808 else 0),0):=by
 have hD:=of_decide_eq_true hD;have hm:=of_decide_eq_true hm;rw [Bool.and_eq_true,beq_iff_eq] at hV;obtain ⟨K',t',m',hL,hR⟩:=qR_ok hu hv hk (of_decide_eq_true hV.1) hD bV bD;rw [hR mode hm.1 hm.2,rK_same14 ((hL 1074 rfl).uniq14 (by decide) (chk_lies hc)),←hV.2]
 simp only [decide_eq_true_eq]
theorem s_at {u v k:Nat}{V D:Int}(hu:u≤100000) (hv:v≤100000) (hk:k≤90000) (hD:decide (0<D)=true) (hV:decide (0<V)=true) (bV:Bd k V) (bD:Bd k D) (mode:Int) (hm:decide (0≤mode∧mode≤4)=true) (K:Nat) (t:Bool) (m:Int) (hc:chkG 2 K t m (V.natAbs*2^(2148+v)) (D.natAbs*2^u)=true) :
 sR14 (gV u V) (gV v D) mode=(rK mode false K t m,0):=by
 have hD:=of_decide_eq_true hD;have hV:=of_decide_eq_true hV;have hm:=of_decide_eq_true hm;obtain ⟨K',t',m',hL,hR⟩:=sR_ok2 hu hv hk hV hD bV bD;rw [hR mode hm.1 hm.2,rK_same14 ((hL 2148 rfl).uniq14 (by decide) (chk_lies hc))]
theorem w64_of {xs:List Nat}(h:xs.all (fun x=>decide (x<18446744073709551616))=true):W64 xs:=fun x hx=>of_decide_eq_true (List.all_eq_true.1 h x hx)
theorem cVa:varR qR14 [4607182418800017408,4611686018427387904,4613937818241073152,4616189618054758400] 0 0 0 0=(rK 0 false 4608308318706860032 true (0),0):=by
 have e1:(mdB 0&&lsB 0)=true:=by decide
 have e2:Ps.siftE 0 0 [4607182418800017408,4611686018427387904,4613937818241073152,4616189618054758400]=0:=by decide +kernel
 have e3:crB 0 0 [4607182418800017408,4611686018427387904,4613937818241073152,4616189618054758400]=false:=by decide +kernel
 have e4:Ps.fin [4607182418800017408,4611686018427387904,4613937818241073152,4616189618054758400]=[4607182418800017408,4611686018427387904,4613937818241073152,4616189618054758400]:=by decide +kernel
 have w:W64 [4607182418800017408,4611686018427387904,4613937818241073152,4616189618054758400]:=w64_of (by decide)
 have f:∀ x ∈ [4607182418800017408,4611686018427387904,4613937818241073152,4616189618054758400],finW x:=(fiB_iff _).1 (by decide +kernel)
 unfold varR;rw [e1,if_pos rfl,e2,if_pos rfl,e3,if_neg (by decide),e4,if_neg (by decide)]
 exact (q_at (k:=4229) (by decide) (by decide) (by decide) (by decide) (cS_bd w f w f (by decide) rfl) ((sh_bd (by decide) (by decide) (by decide)).mono (by decide)) 0 (by decide) 4608308318706860032 true (0) false (by decide +kernel) (by decide +kernel)).trans (by rfl)
theorem cVb:varR qR14 [4607182418800017408,4611686018427387904,4613937818241073152,4616189618054758400] 1 0 0 0=(rK 0 false 4610184818551597738 false (1),0):=by
 have e1:(mdB 0&&lsB 1)=true:=by decide
 have e2:Ps.siftE 0 0 [4607182418800017408,4611686018427387904,4613937818241073152,4616189618054758400]=0:=by decide +kernel
 have e3:crB 0 0 [4607182418800017408,4611686018427387904,4613937818241073152,4616189618054758400]=false:=by decide +kernel
 have e4:Ps.fin [4607182418800017408,4611686018427387904,4613937818241073152,4616189618054758400]=[4607182418800017408,4611686018427387904,4613937818241073152,4616189618054758400]:=by decide +kernel
 have w:W64 [4607182418800017408,4611686018427387904,4613937818241073152,4616189618054758400]:=w64_of (by decide)
 have f:∀ x ∈ [4607182418800017408,4611686018427387904,4613937818241073152,4616189618054758400],finW x:=(fiB_iff _).1 (by decide +kernel)
 unfold varR;rw [e1,if_pos rfl,e2,if_pos rfl,e3,if_neg (by decide),e4,if_neg (by decide)]
 exact (q_at (k:=4229) (by decide) (by decide) (by decide) (by decide) (cS_bd w f w f (by decide) rfl) ((sh_bd (by decide) (by decide) (by decide)).mono (by decide)) 0 (by decide) 4610184818551597738 false (1) false (by decide +kernel) (by decide +kernel)).trans (by rfl)
theorem cSc:varR sR14 [4607182418800017408,4611686018427387904,4613937818241073152,4616189618054758400] 1 0 0 0=(rK 0 false 4608492941290910865 false (-1),0):=by
 have e1:(mdB 0&&lsB 1)=true:=by decide
 have e2:Ps.siftE 0 0 [4607182418800017408,4611686018427387904,4613937818241073152,4616189618054758400]=0:=by decide +kernel
 have e3:crB 0 0 [4607182418800017408,4611686018427387904,4613937818241073152,4616189618054758400]=false:=by decide +kernel
 have e4:Ps.fin [4607182418800017408,4611686018427387904,4613937818241073152,4616189618054758400]=[4607182418800017408,4611686018427387904,4613937818241073152,4616189618054758400]:=by decide +kernel
 have w:W64 [4607182418800017408,4611686018427387904,4613937818241073152,4616189618054758400]:=w64_of (by decide)
 have f:∀ x ∈ [4607182418800017408,4611686018427387904,4613937818241073152,4616189618054758400],finW x:=(fiB_iff _).1 (by decide +kernel)
 unfold varR;rw [e1,if_pos rfl,e2,if_pos rfl,e3,if_neg (by decide),e4,if_neg (by decide)]
 exact s_at (k:=4229) (by decide) (by decide) (by decide) (by decide) (by decide +kernel) (cS_bd w f w f (by decide) rfl) ((sh_bd (by decide) (by decide) (by decide)).mono (by decide)) 0 (by decide) 4608492941290910865 false (-1) (by decide +kernel)
theorem cVn2:varR qR14 [4607182418800017408,9221120237041090560,4613937818241073152] 0 0 1 0=(rK 0 false 4607182418800017408 true (0),0):=by
 have e1:(mdB 0&&lsB 0)=true:=by decide
 have e2:Ps.siftE 1 0 [4607182418800017408,9221120237041090560,4613937818241073152]=0:=by decide +kernel
 have e3:crB 1 0 [4607182418800017408,9221120237041090560,4613937818241073152]=false:=by decide +kernel
 have e4:Ps.fin [4607182418800017408,9221120237041090560,4613937818241073152]=[4607182418800017408,4613937818241073152]:=by decide +kernel
 have w:W64 [4607182418800017408,4613937818241073152]:=w64_of (by decide)
 have f:∀ x ∈ [4607182418800017408,4613937818241073152],finW x:=(fiB_iff _).1 (by decide +kernel)
 unfold varR;rw [e1,if_pos rfl,e2,if_pos rfl,e3,if_neg (by decide),e4,if_neg (by decide)]
 exact (q_at (k:=4229) (by decide) (by decide) (by decide) (by decide) (cS_bd w f w f (by decide) rfl) ((sh_bd (by decide) (by decide) (by decide)).mono (by decide)) 0 (by decide) 4607182418800017408 true (0) false (by decide +kernel) (by decide +kernel)).trans (by rfl)
theorem cVbig:varR qR14 [7598952565167317594,16822324602022093402] 0 0 0 0=(rK 0 false 9218868437227405311 false (1),0):=by
 have e1:(mdB 0&&lsB 0)=true:=by decide
 have e2:Ps.siftE 0 0 [7598952565167317594,16822324602022093402]=0:=by decide +kernel
 have e3:crB 0 0 [7598952565167317594,16822324602022093402]=false:=by decide +kernel
 have e4:Ps.fin [7598952565167317594,16822324602022093402]=[7598952565167317594,16822324602022093402]:=by decide +kernel
 have w:W64 [7598952565167317594,16822324602022093402]:=w64_of (by decide)
 have f:∀ x ∈ [7598952565167317594,16822324602022093402],finW x:=(fiB_iff _).1 (by decide +kernel)
 unfold varR;rw [e1,if_pos rfl,e2,if_pos rfl,e3,if_neg (by decide),e4,if_neg (by decide)]
 exact (q_at (k:=4229) (by decide) (by decide) (by decide) (by decide) (cS_bd w f w f (by decide) rfl) ((sh_bd (by decide) (by decide) (by decide)).mono (by decide)) 0 (by decide) 9218868437227405311 false (1) false (by decide +kernel) (by decide +kernel)).trans (by rfl)
theorem cVnear:varR qR14 [4726483295951388672,4726483296018497536,4726483296085606400] 0 0 0 0=(rK 0 false 4604180019048437077 false (-1),0):=by
 have e1:(mdB 0&&lsB 0)=true:=by decide
 have e2:Ps.siftE 0 0 [4726483295951388672,4726483296018497536,4726483296085606400]=0:=by decide +kernel
 have e3:crB 0 0 [4726483295951388672,4726483296018497536,4726483296085606400]=false:=by decide +kernel
 have e4:Ps.fin [4726483295951388672,4726483296018497536,4726483296085606400]=[4726483295951388672,4726483296018497536,4726483296085606400]:=by decide +kernel
 have w:W64 [4726483295951388672,4726483296018497536,4726483296085606400]:=w64_of (by decide)
 have f:∀ x ∈ [4726483295951388672,4726483296018497536,4726483296085606400],finW x:=(fiB_iff _).1 (by decide +kernel)
 unfold varR;rw [e1,if_pos rfl,e2,if_pos rfl,e3,if_neg (by decide),e4,if_neg (by decide)]
 exact (q_at (k:=4229) (by decide) (by decide) (by decide) (by decide) (cS_bd w f w f (by decide) rfl) ((sh_bd (by decide) (by decide) (by decide)).mono (by decide)) 0 (by decide) 4604180019048437077 false (-1) false (by decide +kernel) (by decide +kernel)).trans (by rfl)
theorem cVnone:varR qR14 [4617315517961601024] 1 0 0 0=(0,3):=by
 have e2:Ps.siftE 0 0 [4617315517961601024]=0:=by decide +kernel
 have e3:crB 0 0 [4617315517961601024]=false:=by decide +kernel
 have e4:Ps.fin [4617315517961601024]=[4617315517961601024]:=by decide +kernel
 unfold varR;rw [if_pos (by decide),e2,if_pos rfl,e3,if_neg (by decide),e4,if_pos (by decide)]
theorem cVarg:varR qR14 [4617315517961601024] 2 0 0 0=(0,1):=by
 unfold varR;rw [if_neg (by decide)]
theorem cVnan:varR qR14 [4607182418800017408,9221120237041090560,4613937818241073152] 0 0 0 0=(9221120237041090560,0):=by
 have e2:Ps.siftE 0 0 [4607182418800017408,9221120237041090560,4613937818241073152]=0:=by decide +kernel
 have e3:crB 0 0 [4607182418800017408,9221120237041090560,4613937818241073152]=true:=by decide +kernel
 unfold varR;rw [if_pos (by decide),e2,if_pos rfl,e3,if_pos rfl]
theorem cVref:varR qR14 [4607182418800017408,9221120237041090560,4613937818241073152] 0 0 2 0=(0,60):=by
 have e2:Ps.siftE 2 0 [4607182418800017408,9221120237041090560,4613937818241073152]=60:=by decide +kernel
 unfold varR;rw [if_pos (by decide),e2,if_neg (by decide)]
theorem cVnan1:varR qR14 [9221120237041090560] 1 0 0 0=(9221120237041090560,0):=by
 have e2:Ps.siftE 0 0 [9221120237041090560]=0:=by decide +kernel
 have e3:crB 0 0 [9221120237041090560]=true:=by decide +kernel
 unfold varR;rw [if_pos (by decide),e2,if_pos rfl,e3,if_pos rfl]
theorem cCen:cenR [4607182418800017408,4611686018427387904,4618441417868443648] 3 0=(rK 0 false 4618441417868443648 true (0),0):=by
 have e2:exE [4607182418800017408,4611686018427387904,4618441417868443648]=0:=by decide +kernel
 have w:W64 [4607182418800017408,4611686018427387904,4618441417868443648]:=w64_of (by decide)
 have f:∀ x ∈ [4607182418800017408,4611686018427387904,4618441417868443648],finW x:=(fiB_iff _).1 (by decide +kernel)
 unfold cenR;rw [if_pos (by decide),e2,if_pos rfl,if_neg (by decide)]
 exact (q_at (u:=1074*3) (k:=20016) (by decide) (by decide) (by decide) (by decide) (cenV_bd w f (by decide) 3 (by decide) (by decide)) (Bd.mono (m:=64) ((Bd.nat (k:=16) (n:=3) (by decide)).pow 4) (by decide)) 0 (by decide) 4618441417868443648 true (0) false (by decide +kernel) (by decide +kernel)).trans (by rfl)
theorem cCen1:cenR [4607182418800017408,4611686018427387904,4618441417868443648] 1 3=(0,0):=by
 have e2:exE [4607182418800017408,4611686018427387904,4618441417868443648]=0:=by decide +kernel
 have e3:cenV [4607182418800017408,4611686018427387904,4618441417868443648] (Int.toNat 1)=0:=by decide +kernel
 unfold cenR;rw [if_pos (by decide),e2,if_pos rfl,if_neg (by decide),e3]
 exact qR_zero (k:=64) (by decide) (by decide) (by decide) (((Bd.nat (k:=16) (n:=3) (by decide)).pow 2).mono (by decide)) 3 (by decide) (by decide)
theorem cCo:coR [4607182418800017408,4611686018427387904,4613937818241073152] [4611686018427387904,4616189618054758400,4619567317775286272] 1 0=(rK 0 false 4612811918334230528 true (0),0):=by
 have e2:boE [4607182418800017408,4611686018427387904,4613937818241073152] [4611686018427387904,4616189618054758400,4619567317775286272]=0:=by decide +kernel
 have w:W64 [4607182418800017408,4611686018427387904,4613937818241073152]:=w64_of (by decide)
 have f:∀ x ∈ [4607182418800017408,4611686018427387904,4613937818241073152],finW x:=(fiB_iff _).1 (by decide +kernel)
 have w2:W64 [4611686018427387904,4616189618054758400,4619567317775286272]:=w64_of (by decide)
 have f2:∀ x ∈ [4611686018427387904,4616189618054758400,4619567317775286272],finW x:=(fiB_iff _).1 (by decide +kernel)
 unfold coR;rw [if_pos (by decide),e2,if_pos rfl,if_neg (by decide)]
 exact (q_at (k:=4229) (by decide) (by decide) (by decide) (by decide) (cS_bd w f w2 f2 (by decide) rfl) ((sh_bd (n:=3) (by decide) (by decide) (by decide)).mono (by decide)) 0 (by decide) 4612811918334230528 true (0) false (by decide +kernel) (by decide +kernel)).trans (by rfl)
theorem cLi:liR [4607182418800017408,4611686018427387904,4613937818241073152] [4613937818241073152,4611686018427387904,4607182418800017408] 2=(turnW (rK 3 false 4607182418800017408 true (0)),0):=by
 have e2:boE [4607182418800017408,4611686018427387904,4613937818241073152] [4613937818241073152,4611686018427387904,4607182418800017408]=0:=by decide +kernel
 have w:W64 [4607182418800017408,4611686018427387904,4613937818241073152]:=w64_of (by decide)
 have f:∀ x ∈ [4607182418800017408,4611686018427387904,4613937818241073152],finW x:=(fiB_iff _).1 (by decide +kernel)
 have w2:W64 [4613937818241073152,4611686018427387904,4607182418800017408]:=w64_of (by decide)
 have f2:∀ x ∈ [4613937818241073152,4611686018427387904,4607182418800017408],finW x:=(fiB_iff _).1 (by decide +kernel)
 have hq:decide (cS [4607182418800017408,4611686018427387904,4613937818241073152] [4607182418800017408,4611686018427387904,4613937818241073152]*cS [4613937818241073152,4611686018427387904,4607182418800017408] [4613937818241073152,4611686018427387904,4607182418800017408]=0)=false:=by decide +kernel
 have hc:decide (0≤cS [4607182418800017408,4611686018427387904,4613937818241073152] [4613937818241073152,4611686018427387904,4607182418800017408])=false:=by decide +kernel
 have bc:=cS_bd w f w2 f2 (by decide) rfl
 have bq:=(cS_bd w f w f (by decide) rfl).mul (cS_bd w2 f2 w2 f2 (by decide) rfl)
 have hs:=s_at (u:=4296) (v:=4296) (k:=8458) (by decide) (by decide) (by decide) (by decide +kernel) (by decide +kernel) (bc.mul bc) bq 3 (by decide) 4607182418800017408 true (0) (by decide +kernel)
 unfold liR;rw [if_pos (by decide),e2,if_pos rfl,if_neg (by decide),if_neg (of_decide_eq_false hq)]
 unfold byR;rw [if_neg (of_decide_eq_false hc),show mir 2=3 by decide,hs,if_pos rfl]
theorem cLi2:liR [4607182418800017408,4611686018427387904,4613937818241073152] [4611686018427387904,4616189618054758400,4619567317775286272] 0=(rK 0 false 4607122964689853860 false (-1),0):=by
 have e2:boE [4607182418800017408,4611686018427387904,4613937818241073152] [4611686018427387904,4616189618054758400,4619567317775286272]=0:=by decide +kernel
 have w:W64 [4607182418800017408,4611686018427387904,4613937818241073152]:=w64_of (by decide)
 have f:∀ x ∈ [4607182418800017408,4611686018427387904,4613937818241073152],finW x:=(fiB_iff _).1 (by decide +kernel)
 have w2:W64 [4611686018427387904,4616189618054758400,4619567317775286272]:=w64_of (by decide)
 have f2:∀ x ∈ [4611686018427387904,4616189618054758400,4619567317775286272],finW x:=(fiB_iff _).1 (by decide +kernel)
 have hq:decide (cS [4607182418800017408,4611686018427387904,4613937818241073152] [4607182418800017408,4611686018427387904,4613937818241073152]*cS [4611686018427387904,4616189618054758400,4619567317775286272] [4611686018427387904,4616189618054758400,4619567317775286272]=0)=false:=by decide +kernel
 have hc:decide (0≤cS [4607182418800017408,4611686018427387904,4613937818241073152] [4611686018427387904,4616189618054758400,4619567317775286272])=true:=by decide +kernel
 have bc:=cS_bd w f w2 f2 (by decide) rfl
 have bq:=(cS_bd w f w f (by decide) rfl).mul (cS_bd w2 f2 w2 f2 (by decide) rfl)
 have hs:=s_at (u:=4296) (v:=4296) (k:=8458) (by decide) (by decide) (by decide) (by decide +kernel) (by decide +kernel) (bc.mul bc) bq 0 (by decide) 4607122964689853860 false (-1) (by decide +kernel)
 unfold liR;rw [if_pos (by decide),e2,if_pos rfl,if_neg (by decide),if_neg (of_decide_eq_false hq)]
 unfold byR;rw [if_pos (of_decide_eq_true hc)];exact hs
theorem cFlat:liR [4607182418800017408,4607182418800017408] [4607182418800017408,4611686018427387904] 0=(0,190):=by
 have e2:boE [4607182418800017408,4607182418800017408] [4607182418800017408,4611686018427387904]=0:=by decide +kernel
 have hq:decide (cS [4607182418800017408,4607182418800017408] [4607182418800017408,4607182418800017408]*cS [4607182418800017408,4611686018427387904] [4607182418800017408,4611686018427387904]=0)=true:=by decide +kernel
 unfold liR;rw [if_pos (by decide),e2,if_pos rfl,if_neg (by decide),if_pos (of_decide_eq_true hq)]
theorem cOf:ofR14 4 (difO (mulD (gV 0 4) (gV 0 30)) (mulD (gV 0 10) (gV 0 10))) 0 0=(rK 0 false 4608308318706860032 true (0),0):=by
 have b:∀ x:Nat,x≤64→Bd 6 (x:Int):=fun x hx=>Bd.nat (by omega)
 have e1:mulD (gV 0 4) (gV 0 30)=gV 0 120:=g_mul (u:=0) (v:=0) (by decide) (by decide) (by decide) (by decide) (b 4 (by decide)) (b 30 (by decide))
 have e2:mulD (gV 0 10) (gV 0 10)=gV 0 100:=g_mul (u:=0) (v:=0) (by decide) (by decide) (by decide) (by decide) (b 10 (by decide)) (b 10 (by decide))
 have b1:Bd 12 (120:Int):=Bd.nat (n:=120) (by decide)
 have b2:Bd 12 (100:Int):=Bd.nat (n:=100) (by decide)
 have e3:difO (gV 0 120) (gV 0 100)=gV 0 (20):=by
  unfold difO;rw [(g_fm (u:=0) (by decide) (by decide) b1).sm,(g_fm (u:=0) (by decide) (by decide) b2).sm]
  exact g_sub (u:=0) (by decide) (by decide) b1 b2
 have b3:Bd 13 (20:Int):=Bd.sub b1 b2;rw [e1,e2,e3];unfold ofR14;rw [if_pos (by decide),(g_fm (u:=0) (by decide) (by decide) b3).sm,if_pos rfl,if_neg (by decide)]
 exact (q_at (u:=0) (v:=0) (k:=13) (by decide) (by decide) (by decide) (by decide) b3 (Bd.nat (k:=13) (n:=16) (by decide)) 0 (by decide) 4608308318706860032 true (0) false (by decide) (by decide +kernel)).trans (by rfl)
theorem cOf2:ofR14 2 (difO (mulD (gV 0 2) (gV 0 1)) (mulD (gV 0 10) (gV 0 10))) 0 0=(rK 0 true 4627589354611539968 true (0)+9223372036854775808,0):=by
 have b:∀ x:Nat,x≤64→Bd 6 (x:Int):=fun x hx=>Bd.nat (by omega)
 have e1:mulD (gV 0 2) (gV 0 1)=gV 0 2:=g_mul (u:=0) (v:=0) (by decide) (by decide) (by decide) (by decide) (b 2 (by decide)) (b 1 (by decide))
 have e2:mulD (gV 0 10) (gV 0 10)=gV 0 100:=g_mul (u:=0) (v:=0) (by decide) (by decide) (by decide) (by decide) (b 10 (by decide)) (b 10 (by decide))
 have b1:Bd 12 (2:Int):=Bd.nat (n:=2) (by decide)
 have b2:Bd 12 (100:Int):=Bd.nat (n:=100) (by decide)
 have e3:difO (gV 0 2) (gV 0 100)=gV 0 (-98):=by
  unfold difO;rw [(g_fm (u:=0) (by decide) (by decide) b1).sm,(g_fm (u:=0) (by decide) (by decide) b2).sm]
  exact g_sub (u:=0) (by decide) (by decide) b1 b2
 have b3:Bd 13 (-98:Int):=Bd.sub b1 b2;rw [e1,e2,e3];unfold ofR14;rw [if_pos (by decide),(g_fm (u:=0) (by decide) (by decide) b3).sm,if_pos rfl,if_neg (by decide)]
 exact (q_at (u:=0) (v:=0) (k:=13) (by decide) (by decide) (by decide) (by decide) b3 (Bd.nat (k:=13) (n:=4) (by decide)) 0 (by decide) 4627589354611539968 true (0) true (by decide) (by decide +kernel)).trans (by rfl)
end
section
open Go Go.RowKit J
theorem rowpl14:∃ d:TypeDesc,Tryz.prog.underlying 26=some d∧d.isRow=true:=by
 have h:(Tryz.prog.underlying 26).any (·.isRow)=true:=by kernel_rfl
 cases hd:Tryz.prog.underlying 26 with
 | none=>rw [hd] at h;cases h
 | some d=>rw [hd] at h;exact ⟨d,rfl,h⟩
theorem sizepl14:(Tryz.prog.info? 26).map (·.size)=some 2:=by kernel_rfl
theorem resultpl14 {fn:Func}{p:Tmp}(h:fn.results=#[.cell p 26]) (tmps:Array Value) (W:World) (g:Nat) (x y:Value) (hp:tmps.getD p undef=.pointer (some ⟨g,0,none⟩)) (hD:W.heap[g]?=some (.cells #[x,y] 26 (0,0))) :
 (results fn tmps).run Tryz.prog W=.ok (.agg #[x,y]) W:=by
 obtain ⟨d,h1,h2⟩:=rowpl14
 cases d <;> first
  | exact results_cell_row (P:=Tryz.prog) h tmps W g 26 _ _ _ hp hD h1 rfl (by rw [sizepl14];rfl)
  | exact absurd h2 (by simp [TypeDesc.isRow])
theorem plain14 (w:World):Calls Tryz.prog 11 #[] w fun r w'=>r=.returned (.agg #[.int .i64 0,.int .i64 0])∧Below w.heap.size w w':=by
 go_enter Tryz.func11,Tryz.ntmps11;go_wp2;exact bodyPost_ret (v:=.agg #[.int .i64 0,.int .i64 0]) (resultpl14 Tryz.results11 _ _ w.heap.size _ _ rfl (heap_alloc_new _ _)) rfl ⟨rfl,below_alloc _ _⟩
theorem same14 (x y:Nat) (h:x=y) (w:World):Calls Tryz.prog 16 #[.float .f64 x,.int .i64 0,.float .f64 y] w fun r w'=>r=.returned (.bool true)∧w'=w:=by
 have C:Hid (Calls Tryz.prog 23 #[.float .f64 x,.float .f64 y] w fun r w'=>r=.returned (.bool true)∧w'=w):=by
  have:=rSame_w x y w;rw [h,beq_self_eq_true] at this;rw [h];exact this
 clear h;go_enter Tryz.func16,Tryz.ntmps16
 go_wp2_with fail
 refine C.out.mono ?_;rintro r u ⟨rfl,rfl⟩;go_wp2;go_ret;exact ⟨rfl,rfl⟩
theorem lit14 (w:World) (xs:List Nat):Fs (w.alloc (Obj.cells (xs.map Fw10).toArray 23)).heap.size (w.alloc (Obj.cells (xs.map Fw10).toArray 23)) (some ⟨w.heap.size,0,none⟩) xs:=by
 intro _;refine ⟨w.heap.size,0,by simp,rfl,fun i hi=>?_⟩
 have hO:OwnF (w.alloc (Obj.cells (xs.map Fw10).toArray 23)) w.heap.size xs:=heap_alloc_new _ _;rw [Nat.zero_add];exact hO.cell i hi
theorem lit14b (w:World) (xs:List Nat) (g:Nat) (hg:g=w.heap.size):Fs (w.alloc (Obj.cells (xs.map Fw10).toArray 23)).heap.size (w.alloc (Obj.cells (xs.map Fw10).toArray 23)) (some ⟨g,0,none⟩) xs:=by subst hg;exact lit14 w xs
end
end Go.Proofs.YtflkmfdlpfimcaaGreatDoor
