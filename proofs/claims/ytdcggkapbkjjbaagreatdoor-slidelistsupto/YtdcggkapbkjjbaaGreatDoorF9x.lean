import Derived.Test.YtdcggkapbkjjbaaGreatDoorF4x
import Derived.Test.YtdcggkapbkjjbaaGreatDoorP2x
import Derived.Test.YtdcggkapbkjjbaaGreatDoorZ9x
import Derived.RangeFuncNested
import Derived.RangeFuncBound
import Derived.RangeFuncCalls
import Derived.RangeFuncLeaves
import Derived.RangeFuncBox
import Derived.Shelf.Abstract
import Derived.Shelf.RegionOpen
import Derived.WalkKit
import Derived.OwnWalkIn
import Derived.TacticsInMore
import Derived.LoopNIn
import Derived.LoopIn
import Derived.Test.YtdcggkapbkjjbaaGreatDoorD21x
import Derived.Test.YtdcggkapbkjjbaaGreatDoorD16x
import Derived.Test.YtdcggkapbkjjbaaGreatDoorSL5x
import Derived.Test.YtdcggkapbkjjbaaGreatDoorD30x
import Derived.Deep.RegionHeld3
import Derived.Test.YtdcggkapbkjjbaaGreatDoorW24x
import Derived.Deep.CutRange
import Derived.Test.YtdcggkapbkjjbaaGreatDoorD14x
import Derived.BigQuiet
import Derived.Deep.Cut
import Derived.Test.YtdcggkapbkjjbaaGreatDoorBIeeex
import Derived.Deep.RegionWith
import Derived.Test.YtdcggkapbkjjbaaGreatDoorS11ax
import Derived.Deep.RegionHeld
import Derived.Deep.LoopGhost
import Derived.Test.YtdcggkapbkjjbaaGreatDoorM1x
set_option linter.unusedVariables false
set_option linter.unusedSimpArgs false
set_option maxHeartbeats 16000000
set_option maxRecDepth 20000
namespace Go.Proofs.YtdcggkapbkjjbaaGreatDoor
namespace J
end J
section
open Go.RowKit J
attribute [local go_sem] st_float
noncomputable def meanR (xs:List Nat) (mode pa pb:Int):Nat×Int :=
 if askE mode=0 then
  if sfE pa pb xs=0 then
   if (vd (snd (sS xs).n (sS xs).u (sS xs).d (sS xs).m (sS xs).p (sS xs).a&&may pa pb) (sS xs).n (sS xs).u (sS xs).d pa pb).2=true then ((vd (snd (sS xs).n (sS xs).u (sS xs).d (sS xs).m (sS xs).p (sS xs).a&&may pa pb) (sS xs).n (sS xs).u (sS xs).d pa pb).1,0)
   else (bsd (levR (Ps.fin xs) (sS xs) mode).2 (levR (Ps.fin xs) (sS xs) mode).1,(levR (Ps.fin xs) (sS xs) mode).2)
  else (0,sfE pa pb xs)
 else (0,askE mode)
theorem bsd_zero (e:Int):bsd e 0=0:=by unfold bsd;split <;> rfl
theorem Mean13 (xs:List Nat) (a:Option Addr) (n c:Nat) (mode pa pb:Int) (w:World) (hn:n=xs.length) (hF:Fs w.heap.size w a xs) (hW:W64 xs) (hT:Tab w) (hl:n≤35184372088832) (z:Nat×Int) (hz:meanR xs mode pa pb=z) :
 Calls Tryz.prog 49 #[.slice a n c,.int .i64 mode,.agg #[.int .i64 pa,.int .i64 pb]] w fun r w'=>r=.returned (.tuple #[.float .f64 z.1,.int .i64 z.2])∧Below w.heap.size w w':=by
 obtain ⟨X,E⟩:=z;simp only;have hmf:∀ (fn:Fn) (first cap:Array Value) (w:World),(Instr.makeFunc fn first cap).run Tryz.prog w=.ok (.func fn first cap) w:=fun _ _ _ _=>rfl
 have HA:=hid (fun u:World=>asked13 mode u)
 unfold meanR at hz;obtain ⟨ea,hea⟩:∃ e,askE mode=e:=⟨_,rfl⟩;rw [hea] at HA hz;obtain ⟨W,hWW⟩:∃ W,W=((w.alloc (Obj.cells #[.int .i64 pa,.int .i64 pb] 26)).alloc (Obj.cells #[.float .f64 0] 27)).alloc (Obj.cells #[.int .i64 0] 33):=⟨_,rfl⟩;obtain ⟨gp,hgp⟩:∃ g,g=w.heap.size:=⟨_,rfl⟩;obtain ⟨gx,hgx⟩:∃ g,g=w.heap.size+1:=⟨_,rfl⟩;obtain ⟨ge,hge⟩:∃ g,g=w.heap.size+2:=⟨_,rfl⟩
 have B0:Aside (Bl W gp 26 [.int .i64 pa,.int .i64 pb]∧Bl W gx 27 [.float .f64 0]∧Bl W ge 33 [.int .i64 0]∧Below w.heap.size w W∧W.heap.size=w.heap.size+3):=by
  rw [hWW,hgp,hgx,hge];have z1:=Bl.new (w.alloc (Obj.cells #[.int .i64 pa,.int .i64 pb] 26)) 27 [.float .f64 0];have z2:=Bl.new ((w.alloc (Obj.cells #[.int .i64 pa,.int .i64 pb] 26)).alloc (Obj.cells #[.float .f64 0] 27)) 33 [.int .i64 0];rw [World.size_alloc] at z1;rw [World.size_alloc,World.size_alloc] at z2;exact ⟨((Bl.new w 26 [_,_]).below (bel_alloc _ _) (by simp)).below (bel_alloc _ _) (by simp;omega),z1.below (bel_alloc _ _) (by simp),z2,((bel_alloc _ _).trans ((bel_alloc _ _).mono (by simp))).trans ((bel_alloc _ _).mono (by simp;omega)),by simp⟩
 have HG:Aside (gp=w.heap.size∧gx=w.heap.size+1∧ge=w.heap.size+2):=⟨hgp,hgx,hge⟩;have HWW:=qsd hWW;have HX:=qsd (ai hn (ai hF (ai hW (ai hT hl))));clear hn hF hW hT hl hWW hea hgp hgx hge;go_enter_defers Tryz.func49,Tryz.ntmps49
 go_wp2_with fail
 rw [←HWW.out]
 try rw [show w.heap.size+1+1=ge by have:=HG.out.2.2;omega]
 try rw [show w.heap.size+2=ge by have:=HG.out.2.2;omega]
 try rw [show w.heap.size+1=gx by have:=HG.out.2.1;omega]
 try rw [show w.heap.size=gp by have:=HG.out.1;omega]
 clear HWW;refine (HA.out _).mono ?_;rintro r v ⟨rfl,hv⟩;rw [hv];clear hv v;have c1:=B0.out.2.2.1.cell 0 _ rfl;have f1:=B0.out.2.2.1.frozen 0;have hne:=qsd (show ge≠gx by have:=HG.out.2;omega)
 have B1:Aside (Bl (W.setCell ⟨ge,0,none⟩ (.int .i64 ea)) gp 26 [.int .i64 pa,.int .i64 pb]∧Bl (W.setCell ⟨ge,0,none⟩ (.int .i64 ea)) gx 27 [.float .f64 0]∧Bl (W.setCell ⟨ge,0,none⟩ (.int .i64 ea)) ge 33 [.int .i64 ea]∧Below w.heap.size w (W.setCell ⟨ge,0,none⟩ (.int .i64 ea))):=by
  have hb:But ge W (W.setCell ⟨ge,0,none⟩ (.int .i64 ea)):=(But.refl _ _).set 0 _;exact ⟨B0.out.1.but hb (by have:=HG.out;omega),B0.out.2.1.but hb (by have:=HG.out;omega),B0.out.2.2.1.set 0 _,But.below B0.out.2.2.2.1 hb B0.out.2.2.2.1.size (by have:=HG.out;omega)⟩
 by_cases h0:ea=0
 · subst h0
   rw [if_pos rfl] at hz;obtain ⟨V,hV⟩:∃ V,V=W.setCell ⟨ge,0,none⟩ (.int .i64 0):=⟨_,rfl⟩;rw [←hV] at B1;have HV:=qsd hV;have hTV:Tab V:=HX.out.2.2.2.1.belows B1.out.2.2.2;have HS:=hid (Sift13 xs a n c pa pb V HX.out.1 HX.out.2.2.2.2 ((HX.out.2.1.below B1.out.2.2.2).mono B1.out.2.2.2.size) HX.out.2.2.1);obtain ⟨es,hes⟩:∃ e,sfE pa pb xs=e:=⟨_,rfl⟩;rw [hes] at HS hz;have HES:=qsd hes;obtain ⟨⟨sn,su,sd,sm,sp,sa⟩,hs⟩:∃ s,sS xs=s:=⟨_,rfl⟩;rw [hs] at HS hz;simp only [Sp.agg] at HS hz;obtain ⟨fl,hfl⟩:∃ f,Ps.fin xs=f:=⟨_,rfl⟩;rw [hfl] at HS hz;have HFL:=qsd hfl;clear hs hfl;have HTV:=qsd hTV;have p0:=B1.out.1.cell 0 _ rfl;have p1:=B1.out.1.cell 1 _ rfl;have q1:=B1.out.2.2.1.cell 0 _ rfl;have q2:=B1.out.2.2.1.frozen 0;rw [hV] at p0 p1 q1 q2;clear hV HA hTV hes
   go_wp2_with fail
   rw [←HV.out] at p0 p1 q1 q2 ⊢;refine HS.out.mono ?_;rintro r v ⟨hr,hb⟩
   have B2:Aside (Bl v gp 26 [.int .i64 pa,.int .i64 pb]∧Bl v gx 27 [.float .f64 0]∧Bl v ge 33 [.int .i64 0]∧Below w.heap.size w v∧Tab v) :=
    ⟨B1.out.1.below hb B1.out.1.lt,B1.out.2.1.below hb B1.out.2.1.lt,B1.out.2.2.1.below hb B1.out.2.2.1.lt,B1.out.2.2.2.trans (hb.mono B1.out.2.2.2.size),HTV.out.belows hb⟩
   have q1:=B2.out.2.2.1.cell 0 _ rfl;have q2:=B2.out.2.2.1.frozen 0;have BVs:Aside (ge<V.heap.size∧gx<V.heap.size):=⟨B1.out.2.2.1.lt,B1.out.2.1.lt⟩;clear hb B1 HV HS p0 p1 HTV c1 f1 B0
   have BU:Aside (∀ (e:Int) (t1 t2 t3 t4 t5 t6:Int) (U:World),U=(v.setCell ⟨ge,0,none⟩ (.int .i64 e)).alloc (Obj.cells #[.int .i64 t1,.int .i64 t2,.int .i64 t3,.int .i64 t4,.int .i64 t5,.int .i64 t6] 73) →
    Bl U gp 26 [.int .i64 pa,.int .i64 pb]∧Bl U gx 27 [.float .f64 0]∧Bl U ge 33 [.int .i64 e]∧Bl U v.heap.size 73 [.int .i64 t1,.int .i64 t2,.int .i64 t3,.int .i64 t4,.int .i64 t5,.int .i64 t6]∧Below w.heap.size w U∧Tab U∧(∀ ao (ys:List Nat),Fs v.heap.size v ao ys→(∀ b o p,ao=some ⟨b,o,p⟩→b≠ge)→Fs U.heap.size U ao ys)):=by
    intro e t1 t2 t3 t4 t5 t6 U hU;have hb:But ge v (v.setCell ⟨ge,0,none⟩ (.int .i64 e)):=(But.refl _ _).set 0 _;have hbb:=But.below B2.out.2.2.2.1 hb B2.out.2.2.2.1.size (by have:=HG.out;omega)
    have hsz:(v.setCell ⟨ge,0,none⟩ (.int .i64 e)).heap.size=v.heap.size:=by simp
    have z1:=Bl.new (v.setCell ⟨ge,0,none⟩ (.int .i64 e)) 73 [.int .i64 t1,.int .i64 t2,.int .i64 t3,.int .i64 t4,.int .i64 t5,.int .i64 t6];rw [hsz] at z1;rw [hU];refine ⟨(B2.out.1.but hb (by have:=HG.out;omega)).alloc _,(B2.out.2.1.but hb (by have:=HG.out;omega)).alloc _,(B2.out.2.2.1.set 0 _).alloc _,z1,hbb.trans ((bel_alloc _ _).mono hbb.size),HX.out.2.2.2.1.belows (hbb.trans ((bel_alloc _ _).mono hbb.size)),?_⟩
    intro ao ys hF hg;exact ((hF.but' hb hg).below ((bel_alloc _ _).mono (by simp))).mono (by simp)
   rcases hr with ⟨he,a',c',rfl⟩|⟨he,a',c',rfl,hF',hlo⟩
   · have hlt:=B2.out.2.2.1.lt
     have h1:(es==0)=false:=by simp [he]
     rw [if_neg he] at hz;obtain ⟨rfl,rfl⟩:=Prod.mk.inj hz;unfold agg0;obtain ⟨U,hU⟩:∃ U,U=(v.setCell ⟨ge,0,none⟩ (.int .i64 es)).alloc (Obj.cells #[.int .i64 0,.int .i64 0,.int .i64 0,.int .i64 0,.int .i64 0,.int .i64 0] 73):=⟨_,rfl⟩;obtain ⟨u1,u2,u3,u4,u5,u6,_⟩:=BU.out _ _ _ _ _ _ _ _ hU;have B3:=(qsd (ai u2 (ai u3 u5)));have r1:=u3.cell 0 _ rfl;have HU:=qsd hU;clear u1 u2 u3 u4 u5 u6 hU BU hz
     go_upto_region 5 with fail
     rw [←HU.out];go_wp2;refine door13 Tryz.results49 ?_ (Mean1_d gx ge 0 es _ (B3.out.1.cell 0 _ rfl) (B3.out.2.1.cell 0 _ rfl) (B3.out.1.frozen 0)) rfl rfl (B3.out.1.cell 0 _ rfl) (B3.out.2.1.cell 0 _ rfl) hne.out ?_
     · simp [go_sem]
     · rw [bsd_zero]
       exact ⟨rfl,But.below B3.out.2.2 ((But.refl gx _).set 0 _) B3.out.2.2.size (by have:=HG.out;omega)⟩
   · have hlt:=B2.out.2.2.1.lt
     subst he;rw [if_pos rfl] at hz;obtain ⟨U,hU⟩:∃ U,U=(v.setCell ⟨ge,0,none⟩ (.int .i64 0)).alloc (Obj.cells #[.int .i64 sn,.int .i64 su,.int .i64 sd,.int .i64 sm,.int .i64 sp,.int .i64 sa] 73):=⟨_,rfl⟩;obtain ⟨u1,u2,u3,u4,u5,u6,u7⟩:=BU.out _ _ _ _ _ _ _ _ hU;obtain ⟨gs,hgs⟩:∃ g,v.heap.size=g:=⟨_,rfl⟩;have hlo2:∀ b o p,a'=some ⟨b,o,p⟩→b≠ge∧b≠gx:=fun b o p h=>by have:=hlo b o p h;have:=BVs.out;omega
     have B3:=(qsd (ai u1 (ai u2 (ai u3 (ai u4 (ai u5 (ai u6 (ai (u7 _ _ hF' (fun b o p h=>(hlo2 b o p h).1)) hlo2))))))))
     rw [hgs] at B3 u4;have s0:=u4.cell 0 _ rfl;have s1:=u4.cell 1 _ rfl;have s2:=u4.cell 2 _ rfl;have s3:=u4.cell 3 _ rfl;have s4:=u4.cell 4 _ rfl;have s5:=u4.cell 5 _ rfl;have p0:=u1.cell 0 _ rfl;have p1:=u1.cell 1 _ rfl;have r1:=u3.cell 0 _ rfl;have HGS:=qsd hgs;have HU:=qsd hU;clear u1 u2 u3 u4 u5 u6 u7 hU BU hF' hgs hlo hlo2
     go_upto_region 5 with fail
     rw [←HU.out,HGS.out];clear HU HGS;have HVd:=hid (fun u:World=>Verdict_any sn su sd sm sp sa pa pb u)
     obtain ⟨⟨xv,tv⟩,hvd⟩:∃ z,vd (snd sn su sd sm sp sa&&may pa pb) sn su sd pa pb=z:=⟨_,rfl⟩;rw [hvd] at HVd hz;simp only at HVd hz;clear hvd q1 q2
     go_wp2_with fail
     refine (HVd.out _).mono ?_;rintro r v2 ⟨rfl,hb⟩;obtain ⟨V3,hV3⟩:∃ V,V=v2.setCell ⟨gx,0,none⟩ (.float .f64 xv):=⟨_,rfl⟩;have B4:Aside (Bl v2 gx 27 [.float .f64 0]):=B3.out.2.1.below hb B3.out.2.1.lt
     have B5:Aside (Bl V3 gx 27 [.float .f64 xv]∧Bl V3 ge 33 [.int .i64 0]∧Bl V3 gs 73 [.int .i64 sn,.int .i64 su,.int .i64 sd,.int .i64 sm,.int .i64 sp,.int .i64 sa]∧Below w.heap.size w V3∧Tab V3∧(tv=false→Fs V3.heap.size V3 a' fl)):=by
      have hbt:But gx v2 V3:=by rw [hV3];exact (But.refl _ _).set 0 _
      have hbw:=B3.out.2.2.2.2.1.trans (hb.mono B3.out.2.2.2.2.1.size);have hb3:=But.below hbw hbt hbw.size (by have:=HG.out;omega)
      have hgsl:gx≠gs:=by
       rintro rfl;have:=B3.out.2.1.symm.trans B3.out.2.2.2.1;simp at this
      refine ⟨by rw [hV3];exact B4.out.set 0 _,(B3.out.2.2.1.below hb B3.out.2.2.1.lt).but hbt (by have:=HG.out;omega),(B3.out.2.2.2.1.below hb B3.out.2.2.2.1.lt).but hbt (fun h=>hgsl h.symm),hb3,HX.out.2.2.2.1.belows hb3,fun _=>?_⟩
      have hF3:=(((B3.out.2.2.2.2.2.2.1.below hb).mono hb.size).but' hbt (fun b o p h=>(B3.out.2.2.2.2.2.2.2 b o p h).2)).mono hbt.size
      exact hF3
     have t1:=B4.out.cell 0 _ rfl;have t2:=B4.out.frozen 0;have HV3:=qsd hV3;clear hb B3 B4 HVd hV3 s0 s1 s2 s3 s4 s5 p0 p1 r1
     cases tv with
     | true =>
       simp only [if_true] at hz;obtain ⟨hX,hE⟩:=Prod.mk.inj hz;subst hX hE;go_wp2;rw [←HV3.out];refine door13 Tryz.results49 ?_ (Mean1_d gx ge xv 0 _ (B5.out.1.cell 0 _ rfl) (B5.out.2.1.cell 0 _ rfl) (B5.out.1.frozen 0)) rfl rfl (B5.out.1.cell 0 _ rfl) (B5.out.2.1.cell 0 _ rfl) hne.out ?_
       · simp [go_sem]
       · exact ⟨rfl,But.below B5.out.2.2.2.1 ((But.refl gx _).set 0 _) B5.out.2.2.2.1.size (by have:=HG.out;omega)⟩
     | false =>
       simp only [Bool.false_eq_true,if_false] at hz;obtain ⟨⟨xl,el⟩,hl⟩:∃ z,levR fl ⟨sn,su,sd,sm,sp,sa⟩ mode=z:=⟨_,rfl⟩;rw [hl] at hz;simp only at hz;obtain ⟨hX,hE⟩:=Prod.mk.inj hz;have HL:=hid (level13 fl a' fl.length c' sn su sd sm sp sa mode V3 rfl (B5.out.2.2.2.2.2 rfl) (by rw [←HFL.out];exact fin_W64 HX.out.2.2.1) B5.out.2.2.2.2.1 (by rw [←HFL.out];exact Nat.le_trans (List.length_filter_le _ _) (sfE_len HES.out).1) (xl,el) hl)
       simp only at HL;have s0:=B5.out.2.2.1.cell 0 _ rfl;have s1:=B5.out.2.2.1.cell 1 _ rfl;have s2:=B5.out.2.2.1.cell 2 _ rfl;have s3:=B5.out.2.2.1.cell 3 _ rfl;have s4:=B5.out.2.2.1.cell 4 _ rfl;have s5:=B5.out.2.2.1.cell 5 _ rfl;have HXE:=qsd (ai hX hE);clear hz hX hE hl
       go_upto_region 7 with fail
       rw [←HV3.out];clear t1 t2
       go_wp2_with fail
       refine HL.out.mono ?_;rintro r v4 ⟨rfl,hb⟩
       have B6:Aside (Bl v4 gx 27 [.float .f64 xv]∧Bl v4 ge 33 [.int .i64 0]∧Below w.heap.size w v4) :=
        ⟨B5.out.1.below hb B5.out.1.lt,B5.out.2.1.below hb B5.out.2.1.lt,B5.out.2.2.2.1.trans (hb.mono B5.out.2.2.2.1.size)⟩
       have t1:=B6.out.1.cell 0 _ rfl;have t2:=B6.out.1.frozen 0;have t3:=B6.out.2.1.cell 0 _ rfl;have t4:=B6.out.2.1.frozen 0;have hne1:ge≠gx:=hne.out;have hne2:gx≠ge:=fun h=>hne.out h.symm
       clear hb B5 HL s0 s1 s2 s3 s4 s5 HV3;go_wp2;have bt:But gx v4 (v4.setCell ⟨gx,0,none⟩ (.float .f64 xl)):=(But.refl _ _).set 0 _;have k1:=(B6.out.1.set 0 (.float .f64 xl)).but ((But.refl ge (v4.setCell ⟨gx,0,none⟩ (.float .f64 xl))).set 0 (.int .i64 el)) hne2;have k2:=(B6.out.2.1.but bt hne1).set 0 (.int .i64 el);have k0:Below w.heap.size w (v4.setCell ⟨gx,0,none⟩ (.float .f64 xl)):=But.below B6.out.2.2 bt B6.out.2.2.size (by have:=HG.out;omega)
       have k3:Below w.heap.size w ((v4.setCell ⟨gx,0,none⟩ (.float .f64 xl)).setCell ⟨ge,0,none⟩ (.int .i64 el)):=But.below k0 ((But.refl ge (v4.setCell ⟨gx,0,none⟩ (.float .f64 xl))).set 0 (.int .i64 el)) k0.size (by have:=HG.out;omega)
       refine door13 Tryz.results49 ?_ (Mean1_d gx ge xl el _ (k1.cell 0 _ rfl) (k2.cell 0 _ rfl) (k1.frozen 0)) rfl rfl (k1.cell 0 _ rfl) (k2.cell 0 _ rfl) hne.out ?_
       · simp [go_sem]
       · rw [HXE.out.1,HXE.out.2]
         have kb:But gx ((v4.setCell ⟨gx,0,none⟩ (.float .f64 xl)).setCell ⟨ge,0,none⟩ (.int .i64 el)) (((v4.setCell ⟨gx,0,none⟩ (.float .f64 xl)).setCell ⟨ge,0,none⟩ (.int .i64 el)).setCell ⟨gx,0,none⟩ (.float .f64 X)):=(But.refl gx _).set 0 _;have hgl:w.heap.size≤gx:=by have:=HG.out;omega
         first | exact ⟨rfl,But.below k3 kb k3.size hgl⟩ | (rw [HXE.out.2] at k3 kb;exact ⟨rfl,But.below k3 kb k3.size hgl⟩)
 · rw [if_neg h0] at hz
   obtain ⟨rfl,rfl⟩:=Prod.mk.inj hz;have h1:(ea==0)=false:=by simp [h0]
   clear hz HA;go_wp2;refine door13 Tryz.results49 ?_ (Mean1_d gx ge 0 ea _ (B1.out.2.1.cell 0 _ rfl) (B1.out.2.2.1.cell 0 _ rfl) (B1.out.2.1.frozen 0)) rfl rfl (B1.out.2.1.cell 0 _ rfl) (B1.out.2.2.1.cell 0 _ rfl) hne.out ?_
   · simp [go_sem]
   · rw [bsd_zero]
     exact ⟨rfl,But.below B1.out.2.2.2 ((But.refl gx _).set 0 _) B1.out.2.2.2.size (by have:=HG.out;omega)⟩
end
section
open Go.RowKit J
attribute [local go_sem] st_float
abbrev ClD (f:FuncId):Prop:=∀ (gx ge x:Nat) (e:Int) (w:World),w.cell? ⟨gx,0,none⟩=some (.float .f64 x)→w.cell? ⟨ge,0,none⟩=some (.int .i64 e)→w.frozen? ⟨gx,0,none⟩=false→∀ (u:FrameMode),
 CallsD Tryz.prog f #[.pointer (some ⟨ge,0,none⟩),.pointer (some ⟨gx,0,none⟩)] u w fun r u' w'=>u'=u∧(r=.returned (.tuple #[])∧w'=w.setCell ⟨gx,0,none⟩ (.float .f64 (bsd e x)))
theorem early13 {fn:Func}{f:FuncId}{px pe:Tmp}(hres:fn.results=#[.cell px 27,.cell pe 33]) (HC:ClD f) {tmps:Array Value}{gx ge x X:Nat}{e E:Int}{w v:World}
 (b1:Bl v gx 27 [.float .f64 x]) (b2:Bl v ge 33 [.int .i64 e]) (hb:Below w.heap.size w v) (hgx:w.heap.size≤gx) (hne:ge≠gx) (hX:bsd e x=X) (hE:e=E)
 (hi:(callFunc f #[.pointer (some ⟨ge,0,none⟩),.pointer (some ⟨gx,0,none⟩)]).run Tryz.prog v=.ok (.enter f #[.pointer (some ⟨ge,0,none⟩),.pointer (some ⟨gx,0,none⟩)]) v)
 (h1:tmps.getD px undef=.pointer (some ⟨gx,0,none⟩)) (h2:tmps.getD pe undef=.pointer (some ⟨ge,0,none⟩)) :
 Leaves Tryz.prog fn tmps (fun r w'=>r=.returned (.tuple #[.float .f64 X,.int .i64 E])∧Below w.heap.size w w') [{ target:=.fn (.func f) #[.pointer (some ⟨ge,0,none⟩),.pointer (some ⟨gx,0,none⟩)],args:=#[] }] .returning v:=by
 subst hX hE;refine door13 hres hi (HC gx ge x e v (b1.cell 0 _ rfl) (b2.cell 0 _ rfl) (b1.frozen 0)) h1 h2 (b1.cell 0 _ rfl) (b2.cell 0 _ rfl) hne ?_;have kb:But gx v (v.setCell ⟨gx,0,none⟩ (.float .f64 (bsd e x))):=(But.refl gx _).set 0 _;exact ⟨rfl,But.below hb kb hb.size hgx⟩
theorem finish13 {fn:Func}{f:FuncId}{px pe:Tmp}(hres:fn.results=#[.cell px 27,.cell pe 33]) (HC:ClD f) {tmps:Array Value}{gx ge x0 x X:Nat}{e0 e E:Int}{w v:World}
 (b1:Bl v gx 27 [.float .f64 x0]) (b2:Bl v ge 33 [.int .i64 e0]) (hb:Below w.heap.size w v) (hgx:w.heap.size≤gx) (hge:w.heap.size≤ge) (hne:ge≠gx) (hX:bsd e x=X) (hE:e=E)
 (hi:∀ v:World,(callFunc f #[.pointer (some ⟨ge,0,none⟩),.pointer (some ⟨gx,0,none⟩)]).run Tryz.prog v=.ok (.enter f #[.pointer (some ⟨ge,0,none⟩),.pointer (some ⟨gx,0,none⟩)]) v)
 (h1:tmps.getD px undef=.pointer (some ⟨gx,0,none⟩)) (h2:tmps.getD pe undef=.pointer (some ⟨ge,0,none⟩)) :
 Leaves Tryz.prog fn tmps (fun r w'=>r=.returned (.tuple #[.float .f64 X,.int .i64 E])∧Below w.heap.size w w') [{ target:=.fn (.func f) #[.pointer (some ⟨ge,0,none⟩),.pointer (some ⟨gx,0,none⟩)],args:=#[] }] .returning ((v.setCell ⟨gx,0,none⟩ (.float .f64 x)).setCell ⟨ge,0,none⟩ (.int .i64 e)):=by
 have bt:But gx v (v.setCell ⟨gx,0,none⟩ (.float .f64 x)):=(But.refl _ _).set 0 _;have be:But ge (v.setCell ⟨gx,0,none⟩ (.float .f64 x)) ((v.setCell ⟨gx,0,none⟩ (.float .f64 x)).setCell ⟨ge,0,none⟩ (.int .i64 e)):=(But.refl _ _).set 0 _;have k0:=But.below hb bt hb.size hgx;exact early13 hres HC ((b1.set 0 (.float .f64 x)).but be (fun h=>hne h.symm)) ((b2.but bt hne).set 0 (.int .i64 e)) (But.below k0 be k0.size hge) hgx hne hX hE (hi _) h1 h2
theorem two13 (w:World):Bl ((w.alloc (Obj.cells #[.float .f64 0] 27)).alloc (Obj.cells #[.int .i64 0] 33)) w.heap.size 27 [.float .f64 0]∧Bl ((w.alloc (Obj.cells #[.float .f64 0] 27)).alloc (Obj.cells #[.int .i64 0] 33)) (w.heap.size+1) 33 [.int .i64 0]∧Below w.heap.size w ((w.alloc (Obj.cells #[.float .f64 0] 27)).alloc (Obj.cells #[.int .i64 0] 33)):=by
 have z2:=Bl.new (w.alloc (Obj.cells #[.float .f64 0] 27)) 33 [.int .i64 0];rw [World.size_alloc] at z2;exact ⟨(Bl.new w 27 [_]).below (bel_alloc _ _) (by simp),z2,(bel_alloc _ _).trans ((bel_alloc _ _).mono (by simp))⟩
theorem seterr13 {w v:World}{gx ge x:Nat}{e0:Int}(e:Int) (b1:Bl v gx 27 [.float .f64 x]) (b2:Bl v ge 33 [.int .i64 e0]) (hb:Below w.heap.size w v) (hge:w.heap.size≤ge) (hne:ge≠gx) :
 Bl (v.setCell ⟨ge,0,none⟩ (.int .i64 e)) gx 27 [.float .f64 x]∧Bl (v.setCell ⟨ge,0,none⟩ (.int .i64 e)) ge 33 [.int .i64 e]∧Below w.heap.size w (v.setCell ⟨ge,0,none⟩ (.int .i64 e)):=by
 have be:But ge v (v.setCell ⟨ge,0,none⟩ (.int .i64 e)):=(But.refl _ _).set 0 _;exact ⟨b1.but be (fun h=>hne h.symm),b2.set 0 _,But.below hb be hb.size hge⟩
end
section
open Go.RowKit J
attribute [local go_sem] st_float
theorem calm13 {P:Program}{c:Code}{K:Act→World→Prop}{Q:Exit→Act→World→Prop}{a:Act}{w:World}(h:c.wp P (Exit.then K (fun _ _ _=>False)) a w):c.wp P (Exit.then K Q) a w :=
 wp_mono h (fun e a w h=>by cases e <;> first | exact h | exact False.elim h)
noncomputable def qoR (ng:Bool) (X:Nat) (e:Int) (N:Nat) (mode:Int):Nat×Int:=quoR rndS ⟨ng,.bool false,X,e,dN (mkS false N 0),.bool false,dX (mkS false N 0),dE (mkS false N 0)⟩ mode
noncomputable def ofR13 (ng:Bool) (X:Nat) (e n mode:Int):Nat×Int :=
 if askE mode=0 then (if n<1∨1099511627776<n then (0,1) else (bsd (qoR ng X e n.toNat mode).2 (qoR ng X e n.toNat mode).1,(qoR ng X e n.toNat mode).2)) else (0,askE mode)
theorem Of13 (ng:Bool) (a:Option Addr) (la ca Xn:Nat) (ex n mode:Int) (w:World) (hT:Tab w) (hV:Av w (.slice a la ca) Xn) (he:-9223372036854775808≤ex∧ex≤9223372036854775807) (z:Nat×Int) (hz:ofR13 ng Xn ex n mode=z) :
 Calls Tryz.prog 40 #[.agg #[.bool ng,.slice a la ca,.int .i64 ex],.int .i64 n,.int .i64 mode] w fun r w'=>r=.returned (.tuple #[.float .f64 z.1,.int .i64 z.2])∧Below w.heap.size w w':=by
 obtain ⟨X,E⟩:=z;simp only;have hmf:∀ (fn:Fn) (first cap:Array Value) (w:World),(Instr.makeFunc fn first cap).run Tryz.prog w=.ok (.func fn first cap) w:=fun _ _ _ _=>rfl
 have HA:=hid (fun u:World=>asked13 mode u)
 unfold ofR13 at hz;obtain ⟨ea,hea⟩:∃ e,askE mode=e:=⟨_,rfl⟩;rw [hea] at HA hz;obtain ⟨W0,hW0⟩:∃ W,W=w.alloc (Obj.cells #[.bool ng,.slice a la ca,.int .i64 ex] 81):=⟨_,rfl⟩;obtain ⟨W,hWW⟩:∃ W,W=(W0.alloc (Obj.cells #[.float .f64 0] 27)).alloc (Obj.cells #[.int .i64 0] 33):=⟨_,rfl⟩;obtain ⟨gd,hgd⟩:∃ g,g=w.heap.size:=⟨_,rfl⟩;obtain ⟨gx,hgx⟩:∃ g,g=w.heap.size+1:=⟨_,rfl⟩;obtain ⟨ge,hge⟩:∃ g,g=w.heap.size+2:=⟨_,rfl⟩;have hs0:W0.heap.size=w.heap.size+1:=by rw [hW0];simp
 have HG:Aside (gx=w.heap.size+1∧ge=w.heap.size+2∧w.heap.size≤gx∧w.heap.size≤ge∧ge≠gx∧gd=w.heap.size):=⟨hgx,hge,by omega,by omega,by omega,hgd⟩
 have hb0:Below w.heap.size w W0:=by rw [hW0];exact bel_alloc _ _
 obtain ⟨B01,B02,B03⟩:=two13 W0;rw [←hWW,hs0] at B01 B02 B03;rw [←hgx] at B01;rw [show w.heap.size+1+1=ge by omega] at B02
 have hbW:Below w.heap.size w W:=hb0.trans (B03.mono (by omega))
 have BD0:Bl W gd 81 [.bool ng,.slice a la ca,.int .i64 ex]:=by
  have:Bl W0 gd 81 [.bool ng,.slice a la ca,.int .i64 ex]:=by rw [hW0,hgd];exact Bl.new _ 81 [_,_,_]
  exact this.below B03 (by omega)
 have B1:=qsd (seterr13 ea B01 B02 hbW HG.out.2.2.2.1 HG.out.2.2.2.2.1);have BD1:Aside (Bl (W.setCell ⟨ge,0,none⟩ (.int .i64 ea)) gd 81 [.bool ng,.slice a la ca,.int .i64 ex]):=BD0.but ((But.refl ge W).set 0 _) (by have:=HG.out;omega)
 have c1:=B02.cell 0 _ rfl;have f1:=B02.frozen 0;have HWW:=qsd (hWW.trans (by rw [hW0]))
 have HX:=qsd (ai hT (ai hV he));clear hT hV he hW0 hWW hea hgx hge hgd B01 B02 B03 BD0 hs0 hb0 hbW;go_enter_defers Tryz.func40,Tryz.ntmps40
 go_wp2_with fail
 rw [←HWW.out]
 try rw [show w.heap.size+1+1=ge by have:=HG.out;omega]
 try rw [show w.heap.size+2=ge by have:=HG.out;omega]
 try rw [show w.heap.size+1=gx by have:=HG.out;omega]
 try rw [show w.heap.size=gd by have:=HG.out;omega]
 clear HWW;refine (HA.out _).mono ?_;rintro r v ⟨rfl,hv⟩;rw [hv];clear hv v
 by_cases h0:ea=0
 · subst h0
   rw [if_pos rfl] at hz;obtain ⟨V,hV⟩:∃ V,V=W.setCell ⟨ge,0,none⟩ (.int .i64 0):=⟨_,rfl⟩;rw [←hV] at B1 BD1;have r1:=B1.out.2.1.cell 0 _ rfl;have r2:=B1.out.2.1.frozen 0;have HV:=qsd hV;clear hV HA
   go_upto_region 3 with fail
   rw [←HV.out];clear HV c1 f1
   by_cases hn1:n<1
   · rw [if_pos (.inl hn1)] at hz
     have HXE:=qsd (Prod.mk.inj hz);have d1:decide (n<1)=true:=decide_eq_true hn1;obtain ⟨k1,k2,k3⟩:=seterr13 1 B1.out.1 B1.out.2.1 B1.out.2.2 HG.out.2.2.2.1 HG.out.2.2.2.2.1;have K:=(qsd (ai k1 (ai k2 k3)));clear hz k1 k2 k3;go_wp2;refine early13 Tryz.results40 Of1_d K.out.1 K.out.2.1 K.out.2.2 HG.out.2.2.1 HG.out.2.2.2.2.1 ((bsd_zero _).trans HXE.out.1) HXE.out.2 (by simp [go_sem]) ?_ ?_ <;> rfl
   · have d1:decide (n<1)=false:=decide_eq_false hn1
     by_cases hn2:1099511627776<n
     · rw [if_pos (.inr hn2)] at hz
       have HXE:=qsd (Prod.mk.inj hz);obtain ⟨k1,k2,k3⟩:=seterr13 1 B1.out.1 B1.out.2.1 B1.out.2.2 HG.out.2.2.2.1 HG.out.2.2.2.2.1;have K:=(qsd (ai k1 (ai k2 k3)));clear hz k1 k2 k3;go_wp2;refine early13 Tryz.results40 Of1_d K.out.1 K.out.2.1 K.out.2.2 HG.out.2.2.1 HG.out.2.2.2.2.1 ((bsd_zero _).trans HXE.out.1) HXE.out.2 (by simp [go_sem]) ?_ ?_ <;> rfl
     · have d2:decide (1099511627776<n)=false:=decide_eq_false hn2
       rw [if_neg (by omega)] at hz
       obtain ⟨N,hN⟩:∃ N:Nat,n=(N:Int):=⟨n.toNat,by omega⟩
       subst hN;rw [Int.toNat_natCast] at hz;have hnN:N<2^41:=by omega
       have F1:=qsd (int_fm N hnN)
       have HI:Hid (∀ u:World,Tab u→Calls Tryz.prog 76 #[.int .i64 (N:Nat)] u fun r w'=>(∃ v,r=.returned (.agg #[.bool (dN (mkS false N 0)),v,.int .i64 (dE (mkS false N 0))])∧Nt u.heap.size w' v (dX (mkS false N 0)))∧Below u.heap.size u w'):=fun u hT=>by
        have:=Int_any (N:Nat) u hT (by omega) (by omega)
        rw [decide_eq_false (by omega),Int.natAbs_natCast] at this
        exact this
       obtain ⟨⟨xl,el⟩,hl⟩:∃ z,qoR ng Xn ex N mode=z:=⟨_,rfl⟩;rw [hl] at hz;have hz1:(bsd el xl,el)=(X,E):=hz;have HXE:=qsd (Prod.mk.inj hz1)
       have HR:Hid (∀ (u:World) (q:Option Addr) (cq:Nat),Tab u→Av u (.slice a la ca) Xn→Nt 0 u (.slice q (ws (dX (mkS false N 0))).length cq) (dX (mkS false N 0))→Calls Tryz.prog 75 #[.agg #[.bool ng,.slice a la ca,.int .i64 ex,.bool (dN (mkS false N 0)),.slice q (ws (dX (mkS false N 0))).length cq,.int .i64 (dE (mkS false N 0))],.int .i64 mode] u fun r w'=>r=.returned (.tuple #[.float .f64 xl,.int .i64 el])∧Below u.heap.size u w'):=fun u q cq hT n1 n2=>by
        have:=Quot11 (w:=u) (n:=ng) (m:=dN (mkS false N 0)) (X:=Xn) (Y:=dX (mkS false N 0)) (e:=ex) (f:=dE (mkS false N 0)) mode ⟨n1,n2.av (Nat.le_trans F1.out.len (by decide)),HX.out.2.2,F1.out.rng⟩ hT
        rw [show quoR rndS ⟨ng,.slice a la ca,Xn,ex,dN (mkS false N 0),.slice q (ws (dX (mkS false N 0))).length cq,dX (mkS false N 0),dE (mkS false N 0)⟩ mode=(xl,el) from hl] at this
        exact this
       obtain ⟨ow,how⟩:∃ o,mkS false N 0=o:=⟨_,rfl⟩;rw [how] at HR HI F1;clear hz hz1 hl how hnN
       go_upto_region 6 with fail
       have hdr:=(Below.refl V.heap.size V).drew;have BB:=qsd (ai (B1.out.1.drew) (ai (B1.out.2.1.drew) (ai (B1.out.2.2.trans (hdr.mono B1.out.2.2.size)) (BD1.out.drew))));clear hdr B1 BD1 r1 r2;have p0:=BB.out.2.2.2.cell 0 _ rfl;have p1:=BB.out.2.2.2.cell 1 _ rfl;have p2:=BB.out.2.2.2.cell 2 _ rfl;have hne1:ge≠gx:=HG.out.2.2.2.2.1;have hne2:gx≠ge:=fun h=>HG.out.2.2.2.2.1 h.symm
       refine calm13 ?_
       go_region_with (first
        | (go_at_call 75
           with_reducible refine (HR.out _ a2 c2 (HX.out.1.belows BB.out.2.2.1) (HX.out.2.1.below BB.out.2.2.1) Q2.out).mono ?_
           rintro r v ⟨rfl,hb⟩;have BB:=qsd (ai (BB.out.1.below hb BB.out.1.lt) (ai (BB.out.2.1.below hb BB.out.2.1.lt) (BB.out.2.2.1.trans (hb.mono BB.out.2.2.1.size))));have t1:=BB.out.1.cell 0 _ rfl;have t2:=BB.out.1.frozen 0;have t3:=BB.out.2.1.cell 0 _ rfl;have t4:=BB.out.2.1.frozen 0;clear hb p0 p1 p2)
        | (go_at_call 76
           with_reducible refine (HI.out _ (HX.out.1.belows BB.out.2.2.1)).mono ?_
           rintro r v ⟨⟨p,rfl,hN⟩,hb⟩;obtain ⟨a2,c2,rfl,hN0⟩:=Lo.shape F1.out hN;have BB:=qsd (ai (BB.out.1.below hb BB.out.1.lt) (ai (BB.out.2.1.below hb BB.out.2.1.lt) (ai (BB.out.2.2.1.trans (hb.mono BB.out.2.2.1.size)) (BB.out.2.2.2.below hb BB.out.2.2.2.lt))));have Q2:=qsd hN0;have p0:=BB.out.2.2.2.cell 0 _ rfl;have p1:=BB.out.2.2.2.cell 1 _ rfl;have p2:=BB.out.2.2.2.cell 2 _ rfl;clear hb hN hN0))
       all_goals
        clear HR HI Q2;go_wp2;refine finish13 Tryz.results40 Of1_d BB.out.1 BB.out.2.1 BB.out.2.2 HG.out.2.2.1 HG.out.2.2.2.1 HG.out.2.2.2.2.1 HXE.out.1 HXE.out.2 (fun _=>by simp [go_sem]) ?_ ?_ <;> rfl
 · rw [if_neg h0] at hz
   have HXE:=qsd (Prod.mk.inj hz);have h1:(ea==0)=false:=by simp [h0]
   clear hz HA;go_wp2;refine early13 Tryz.results40 Of1_d B1.out.1 B1.out.2.1 B1.out.2.2 HG.out.2.2.1 HG.out.2.2.2.2.1 ((bsd_zero _).trans HXE.out.1) HXE.out.2 (by simp [go_sem]) ?_ ?_ <;> rfl
end
section
open Go.RowKit J
theorem sS_bd20 {xs:List Nat}(hW:W64 xs) (hl:xs.length≤4096):(0≤(sS xs).n∧(sS xs).n≤65536)∧(0≤(sS xs).u∧(sS xs).u≤65536)∧(0≤(sS xs).d∧(sS xs).d≤65536)∧(0≤(sS xs).a∧(sS xs).a≤65536)∧(sS xs).a-(sS xs).n-(sS xs).u-(sS xs).d=((Ps.fin xs).length:Int):=by
 have h:=fin_count (xs:=xs);rw [sS_cn hW];simp only;omega
theorem rf_bad20 {s:Sp}{mode a b:Int}(h:mode<0∨4<mode):rfE20 s mode a b=1∧askE mode=1:=by
 unfold rfE20 askE;exact ⟨if_pos (by rcases h with h | h;exact .inl h;exact .inr (.inl h)),if_pos h⟩
theorem rf_good20 {xs:List Nat}{mode a b:Int}(h:¬ (mode<0∨4<mode)) (hl:xs.length≤4096):rfE20 (sS xs) mode a b=sfE a b xs∧askE mode=0:=by
 refine ⟨?_,by unfold askE;rw [if_neg h]⟩
 unfold rfE20 sfE Ps.rf;have hl2:¬ 65536<xs.length:=by omega
 by_cases hm:may a b=false
 · rw [if_pos (show mode<0∨4<mode∨may a b=false from .inr (.inr hm)),if_pos hm]
 · rw [if_neg (show ¬ (mode<0∨4<mode∨may a b=false) from by rintro (q | q | q);exact h (.inl q);exact h (.inr q);exact hm q),if_neg hm,if_neg hl2]
theorem mean_parts {xs:List Nat}(mode a b:Int) (hW:W64 xs) (hl:xs.length≤4096) :
 meanR xs mode a b=(if rfE20 (sS xs) mode a b=0 then
  (if (vd (snd (sS xs).n (sS xs).u (sS xs).d (sS xs).m (sS xs).p (sS xs).a&&may a b) (sS xs).n (sS xs).u (sS xs).d a b).2=true then ((vd (snd (sS xs).n (sS xs).u (sS xs).d (sS xs).m (sS xs).p (sS xs).a&&may a b) (sS xs).n (sS xs).u (sS xs).d a b).1,0)
   else if ((Ps.fin xs).length:Int)=0 then (0,3) else if vS xs=0 then (nt (snd (sS xs).n (sS xs).u (sS xs).d (sS xs).m (sS xs).p (sS xs).a) (sS xs).n (sS xs).u (sS xs).d (sS xs).m (sS xs).p (sS xs).a mode,0)
   else ofR13 (dN (exV (vS xs))) (dX (exV (vS xs))) (dE (exV (vS xs))) (Ps.fin xs).length mode)
  else (0,rfE20 (sS xs) mode a b)):=by
 by_cases h0:mode<0∨4<mode
 · obtain ⟨e1,e2⟩:=rf_bad20 (s:=sS xs) (a:=a) (b:=b) h0
   unfold meanR;rw [e1,e2,if_neg (show ¬ (1:Int)=0 by decide),if_neg (show ¬ (1:Int)=0 by decide)]
 · obtain ⟨e1,e2⟩:=rf_good20 (xs:=xs) (a:=a) (b:=b) h0 hl
   unfold meanR;rw [e1,e2,if_pos rfl]
   by_cases he:sfE a b xs=0
   · rw [if_pos he,if_pos he]
     split
     · rfl
     · unfold levR
       by_cases e0:Ps.fin xs=[]
       · rw [if_pos e0,if_pos (by rw [e0];rfl)];rfl
       · have hp:0<(Ps.fin xs).length:=List.length_pos_iff.2 e0
         rw [if_neg e0,vS_fin hW,if_neg (show ¬ ((Ps.fin xs).length:Int)=0 by omega)]
         by_cases v0:vS xs=0
         · rw [if_pos v0,if_pos v0];rfl
         · rw [if_neg v0,if_neg v0]
           unfold ofR13;rw [if_pos e2];have hle:(Ps.fin xs).length≤xs.length:=List.length_filter_le _ _;rw [if_neg (show ¬ (((Ps.fin xs).length:Int)<1∨1099511627776<((Ps.fin xs).length:Int)) by omega),Int.toNat_natCast]
           rfl
   · rw [if_neg he,if_neg he]
end
section
open Go.RowKit J
def Bd (m:Nat) (V:Int):Prop:=V.natAbs≤2^m
theorem Bd.mono {m k:Nat}{V:Int}(h:Bd m V) (hk:m≤k):Bd k V:=Nat.le_trans h (Nat.pow_le_pow_right (by decide) hk)
theorem Bd.lt {m:Nat}{V:Int}(h:Bd m V):V.natAbs<2^(m+1):=by
 unfold Bd at h;rw [Nat.pow_succ];have:=Nat.two_pow_pos m;omega
theorem Bd.mul {a b:Nat}{V W:Int}(h:Bd a V) (k:Bd b W):Bd (a+b) (V*W):=by
 unfold Bd at *;rw [Int.natAbs_mul,Nat.pow_add];exact Nat.mul_le_mul h k
theorem Bd.add {m:Nat}{V W:Int}(h:Bd m V) (k:Bd m W):Bd (m+1) (V+W):=by
 unfold Bd at *;rw [Nat.pow_succ];omega
theorem Bd.neg {m:Nat}{V:Int}(h:Bd m V):Bd m (-V):=by
 unfold Bd at *;rw [Int.natAbs_neg];exact h
theorem Bd.sub {m:Nat}{V W:Int}(h:Bd m V) (k:Bd m W):Bd (m+1) (V-W):=by
 rw [Int.sub_eq_add_neg];exact h.add k.neg
theorem Bd.nat {n k:Nat}(h:n≤2^k):Bd k (n:Int):=h
def gV (u:Nat) (V:Int):Option (Bool×Nat×Int):=mkS (decide (V<0)) V.natAbs (-(u:Int))
theorem g_iv {u m:Nat}{V:Int}(hu:u≤100000) (hm:m≤99999) (hV:Bd m V):Iv (gV u V) (-(u:Int)) (((m+1:Nat):Int)-(u:Int)):=by
 unfold gV;refine mkS_iv _ _ _ _ _ (.inr ⟨by omega,?_⟩) (by omega) (by omega) (by omega)
 have:=bl_lt_pow hV.lt;omega
theorem g_fm {u m:Nat}{V:Int}(hu:u≤100000) (hm:m≤99999) (hV:Bd m V):Fm (gV u V):=(g_iv hu hm hV).fm
theorem val_g {u:Nat}{V:Int}(h:Fm (gV u V)) (hu:u≤1000000) (k:Nat) (hk:k+u=EK):valO (gV u V)=V*((2^k:Nat):Int):=by
 unfold gV at h ⊢;rw [val_mk h (by omega) k (by unfold EK at hk;omega),sg1_natAbs]
theorem exK (u:Nat) (hu:u≤1000000):∃ k,k+u=EK:=⟨EK-u,by unfold EK;omega⟩
theorem g_mul {u v a b:Nat}{V W:Int}(hu:u≤50000) (hv:v≤50000) (ha:a≤40000) (hb:b≤40000) (h1:Bd a V) (h2:Bd b W):mulD (gV u V) (gV v W)=gV (u+v) (V*W):=by
 have F:=g_iv (u:=u) (by omega) (by omega) h1
 have G:=g_iv (u:=v) (by omega) (by omega) h2
 have hF:=(F.mul G (by omega) (by omega) (by omega)).fm
 have hG:=g_fm (u:=u+v) (by omega) (by omega) (h1.mul h2)
 refine valO_inj hF hG ?_;obtain ⟨k1,e1⟩:=exK u (by omega)
 obtain ⟨k2,e2⟩:=exK v (by omega)
 obtain ⟨k3,e3⟩:=exK (u+v) (by omega)
 have h:=val_mul F.fm G.fm hF;rw [val_g F.fm (by omega) k1 e1,val_g G.fm (by omega) k2 e2] at h
 rw [val_g hG (by omega) k3 e3]
 have hM:=M_pos;refine Int.eq_of_mul_eq_mul_right (a:=(MM:Int)) (by omega) (h.trans ?_)
 have e:((2^k1:Nat):Int)*((2^k2:Nat):Int)=((2^k3:Nat):Int)*(MM:Int):=by
  rw [←Int.natCast_mul,←Int.natCast_mul,M_eq,←Nat.pow_add,←Nat.pow_add,show k1+k2=k3+EK by omega]
 rw [Int.mul_assoc (V*W),←e,Int.mul_assoc,Int.mul_assoc,Int.mul_left_comm W]
theorem g_add {u m:Nat}{V W:Int}(hu:u≤100000) (hm:m≤90000) (h1:Bd m V) (h2:Bd m W):addD (gV u V) (gV u W)=gV u (V+W):=by
 have F:=g_iv (u:=u) (by omega) (by omega) h1
 have G:=g_iv (u:=u) (by omega) (by omega) h2
 have hF:=(F.add G (by omega) (by omega) (by omega)).fm
 have hG:=g_fm (u:=u) (by omega) (by omega) (h1.add h2)
 refine valO_inj hF hG ?_;obtain ⟨k1,e1⟩:=exK u (by omega)
 rw [val_add F.fm G.fm hF,val_g F.fm (by omega) k1 e1,val_g G.fm (by omega) k1 e1,val_g hG (by omega) k1 e1,Int.add_mul]
theorem g_neg (u:Nat) (W:Int):negO (gV u W)=gV u (-W):=by
 unfold gV;rw [negO_mkS,Int.natAbs_neg]
 by_cases h:W=0
 · subst h;rw [Int.natAbs_zero,mkS_zero,mkS_zero]
 · congr 1
   by_cases h1:W<0
   · rw [decide_eq_true h1,decide_eq_false (by omega)];rfl
   · rw [decide_eq_false h1,decide_eq_true (by omega)];rfl
theorem g_sub {u m:Nat}{V W:Int}(hu:u≤100000) (hm:m≤90000) (h1:Bd m V) (h2:Bd m W):addD (gV u V) (mkS (!dN (gV u W)) (dX (gV u W)) (dE (gV u W)))=gV u (V-W):=by
 rw [negO_reform (g_fm (u:=u) (by omega) (by omega) h2).sm,g_neg,g_add hu hm h1 h2.neg,←Int.sub_eq_add_neg]
theorem g_zero (u:Nat):gV u 0=o00:=mkS_zero _ _
def tS (f:Nat→Int):Nat→Int
 | 0=>0
 | n+1=>tS f n+f n
theorem tS_le {f:Nat→Int}{m:Nat}:∀ {n:Nat},(∀ i,i<n→Bd m (f i))→(tS f n).natAbs≤n*2^m
 | 0,_=>by simp [tS]
 | n+1,h=>by
   have h1:=tS_le (n:=n) fun i hi=>h i (by omega)
   have h2:=h n (by omega)
   unfold Bd at h2
   show (tS f n+f n).natAbs≤_
   rw [Nat.succ_mul];omega
theorem tS_bd {f:Nat→Int}{m n:Nat}(h:∀ i,i<n→Bd m (f i)) (hn:n≤65536) (k:Nat) (hk:k≤n):Bd (m+16) (tS f k):=by
 have h1:=tS_le (n:=k) fun i hi=>h i (by omega)
 have h2:k*2^m≤65536*2^m:=Nat.mul_le_mul_right _ (by omega)
 unfold Bd;rw [Nat.pow_add,Nat.mul_comm (2^m)];exact Nat.le_trans h1 h2
theorem fv_bd {x:Nat}(hx:x<18446744073709551616) (fx:finW x):Bd 2098 (fvW x):=by
 obtain ⟨m,hm⟩:∃ m,m=2098:=⟨_,rfl⟩;have h:Bd m (fvW x):=Nat.le_of_lt (top_fv hx fx m hm);rw [hm] at h;exact h
attribute [irreducible] Bd
end
section
open Go Go.RowKit J
theorem st3_bel12 {B g:Nat}{a w:World}(h:Below B a w) (hB:B≤w.heap.size) (hg:B≤g) (x y z:Value):Below B a (st3 w g x y z):=But.below h (st3_but12 g w x y z) hB hg
theorem row14d:∃ d:TypeDesc,Tryz.prog.underlying 81=some d∧d.isRow=true:=by
 have h:(Tryz.prog.underlying 81).any (·.isRow)=true:=by kernel_rfl
 cases hd:Tryz.prog.underlying 81 with
 | none=>rw [hd] at h;cases h
 | some d=>rw [hd] at h;exact ⟨d,rfl,h⟩
theorem size14d:(Tryz.prog.info? 81).map (·.size)=some 3:=by kernel_rfl
theorem result14 {fn:Func}{p:Tmp}(h:fn.results=#[.cell p 81]) (tmps:Array Value) (W:World) (g:Nat) (n:Bool) (v:Value) (e:Int) (hp:tmps.getD p undef=.pointer (some ⟨g,0,none⟩)) (hD:Dk W g n v e) :
 (results fn tmps).run Tryz.prog W=.ok (.agg #[.bool n,v,.int .i64 e]) W:=by
 obtain ⟨d,h1,h2⟩:=row14d
 cases d <;> first
  | exact results_cell_row (P:=Tryz.prog) h tmps W g 81 _ _ _ hp hD h1 rfl (by rw [size14d];rfl)
  | exact absurd h2 (by simp [TypeDesc.isRow])
theorem end14 {fn:Func}{p:Tmp}(hfn:fn.results=#[.cell p 81]) {w base:World}{tmps:Array Value}{o q:Option (Bool×Nat×Int)}{a:Option Addr}{c g:Nat}(h2:tmps.getD p undef=.pointer (some ⟨g,0,none⟩))
 (hL:Lo base g q) (hbw:Below w.heap.size w base) (hg:w.heap.size≤g) (hN:Nt 0 base (.slice a (ws (dX o)).length c) (dX o)) :
 bodyPost Tryz.prog fn (fun r w'=>DVal 0 w' r o∧Below w.heap.size w w') .ret ⟨tmps,[]⟩
  (((base.setCell ⟨g,0,none⟩ (.bool (dN o))).setCell ⟨g,1,none⟩ (.slice a (ws (dX o)).length c)).setCell ⟨g,2,none⟩ (.int .i64 (dE o))):=by
 obtain ⟨a0,c0,hD,hM⟩:=hL;exact bodyPost_ret (v:=.agg #[.bool (dN o),.slice a (ws (dX o)).length c,.int .i64 (dE o)]) (result14 hfn _ _ g _ _ _ h2 (hD.set _ _ _)) rfl ⟨⟨_,rfl,hN.off12 hD _ _ _⟩,st3_bel12 hbw hbw.size hg _ _ _⟩
theorem times14_core (w:World) (a b:Option Addr) (ca cb:Nat) (o p q:Option (Bool×Nat×Int)) (F:Fm q)
 (HC:Hid (∀ u:World,Below w.heap.size w u→Calls Tryz.prog 114 #[.agg #[.bool (dN o),.slice a (ws (dX o)).length ca,.int .i64 (dE o)],.agg #[.bool (dN p),.slice b (ws (dX p)).length cb,.int .i64 (dE p)]] u fun r w'=>(∃ v,r=.returned (.tuple #[.agg #[.bool (dN q),v,.int .i64 (dE q)],.int .i64 0])∧Nt u.heap.size w' v (dX q))∧Below u.heap.size u w')) :
 Calls Tryz.prog 116 #[.agg #[.bool (dN o),.slice a (ws (dX o)).length ca,.int .i64 (dE o)],.agg #[.bool (dN p),.slice b (ws (dX p)).length cb,.int .i64 (dE p)]] w fun r w'=>DVal 0 w' r q∧Below w.heap.size w w':=by
 obtain ⟨W,hW⟩:∃ W,W=((w.alloc (Obj.cells #[.bool (dN o),.slice a (ws (dX o)).length ca,.int .i64 (dE o)] 81)).alloc (Obj.cells #[.bool (dN p),.slice b (ws (dX p)).length cb,.int .i64 (dE p)] 81)).alloc (Obj.cells #[.bool false,.slice none 0 0,.int .i64 0] 81):=⟨_,rfl⟩
 have H0:Aside (Dk W w.heap.size (dN o) (.slice a (ws (dX o)).length ca) (dE o)∧Dk W (w.heap.size+1) (dN p) (.slice b (ws (dX p)).length cb) (dE p)∧Lo W (w.heap.size+2) o00∧Below w.heap.size w W):=by
  subst hW;have z1:=Dk.new (w.alloc (Obj.cells #[.bool (dN o),.slice a (ws (dX o)).length ca,.int .i64 (dE o)] 81)) (dN p) (.slice b (ws (dX p)).length cb) (dE p);have z2:=Lo.zero ((w.alloc (Obj.cells #[.bool (dN o),.slice a (ws (dX o)).length ca,.int .i64 (dE o)] 81)).alloc (Obj.cells #[.bool (dN p),.slice b (ws (dX p)).length cb,.int .i64 (dE p)] 81));rw [World.size_alloc] at z1;rw [World.size_alloc,World.size_alloc] at z2;exact ⟨((Dk.new _ _ _ _).below (below_alloc _ _)).below (below_alloc _ _),z1.below (below_alloc _ _),z2,((below_alloc _ _).trans ((below_alloc _ _).mono (by simp))).trans ((below_alloc _ _).mono (by simp;omega))⟩
 have HW:=qsd hW;have HC1:=hid (HC.out W H0.out.2.2.2);have FF:=qsd F;clear hW HC F;go_enter Tryz.func116,Tryz.ntmps116
 go_upto_region 1 with fail
 rw [←HW.out];clear HW;obtain ⟨x0,x1,x2,xf0,xf1,xf2⟩:=H0.out.1.facts;obtain ⟨y0,y1,y2,yf0,yf1,yf2⟩:=H0.out.2.1.facts
 go_wp2_with fail
 refine HC1.out.mono ?_;rintro r u ⟨⟨v,rfl,hN⟩,hb⟩;obtain ⟨a1,c1,rfl,hN0⟩:=Lo.shape FF.out hN;obtain ⟨U,hU⟩:∃ U,U=u.alloc (Obj.cells #[.bool (dN q),.slice a1 (ws (dX q)).length c1,.int .i64 (dE q)] 81):=⟨_,rfl⟩
 have H1:Aside (Lo U (w.heap.size+2) o00∧Dk U u.heap.size (dN q) (.slice a1 (ws (dX q)).length c1) (dE q)∧Nt 0 U (.slice a1 (ws (dX q)).length c1) (dX q)∧Below w.heap.size w U):=by
  rw [hU];have b0:=H0.out.2.2.2;exact ⟨(H0.out.2.2.1.below hb).below (below_alloc _ _),Dk.new _ _ _ _,hN0.below (below_alloc _ _),(b0.trans (hb.mono b0.size)).trans ((below_alloc _ _).mono (Nat.le_trans b0.size hb.size))⟩
 obtain ⟨gq,hgq⟩:∃ g,g=u.heap.size:=⟨_,rfl⟩;rw [←hgq] at H1;have HU:=(qsd (ai hU hgq));clear hU hN hN0 hb HC1 H0 x0 x1 x2 xf0 xf1 xf2 y0 y1 y2 yf0 yf1 yf2 hgq
 go_upto_region 2 with fail
 rw [←HU.out.1,←HU.out.2];clear HU;obtain ⟨x0,x1,x2,xf0,xf1,xf2⟩:=H1.out.2.1.facts;obtain ⟨p4,q4,D4,M4⟩:=H1.out.1;obtain ⟨y0,y1,y2,yf0,yf1,yf2⟩:=D4.facts;clear D4 M4;go_wp2;exact end14 Tryz.results116 rfl H1.out.1 H1.out.2.2.2 (by omega) H1.out.2.2.1
theorem plus14_core (w:World) (a b:Option Addr) (ca cb:Nat) (o p q:Option (Bool×Nat×Int)) (F:Fm q)
 (HC:Hid (∀ u:World,Below w.heap.size w u→Calls Tryz.prog 158 #[.agg #[.bool (dN o),.slice a (ws (dX o)).length ca,.int .i64 (dE o)],.agg #[.bool (dN p),.slice b (ws (dX p)).length cb,.int .i64 (dE p)]] u fun r w'=>(∃ v,r=.returned (.tuple #[.agg #[.bool (dN q),v,.int .i64 (dE q)],.int .i64 0])∧Nt u.heap.size w' v (dX q))∧Below u.heap.size u w')) :
 Calls Tryz.prog 226 #[.agg #[.bool (dN o),.slice a (ws (dX o)).length ca,.int .i64 (dE o)],.agg #[.bool (dN p),.slice b (ws (dX p)).length cb,.int .i64 (dE p)]] w fun r w'=>DVal 0 w' r q∧Below w.heap.size w w':=by
 obtain ⟨W,hW⟩:∃ W,W=((w.alloc (Obj.cells #[.bool (dN o),.slice a (ws (dX o)).length ca,.int .i64 (dE o)] 81)).alloc (Obj.cells #[.bool (dN p),.slice b (ws (dX p)).length cb,.int .i64 (dE p)] 81)).alloc (Obj.cells #[.bool false,.slice none 0 0,.int .i64 0] 81):=⟨_,rfl⟩
 have H0:Aside (Dk W w.heap.size (dN o) (.slice a (ws (dX o)).length ca) (dE o)∧Dk W (w.heap.size+1) (dN p) (.slice b (ws (dX p)).length cb) (dE p)∧Lo W (w.heap.size+2) o00∧Below w.heap.size w W):=by
  subst hW;have z1:=Dk.new (w.alloc (Obj.cells #[.bool (dN o),.slice a (ws (dX o)).length ca,.int .i64 (dE o)] 81)) (dN p) (.slice b (ws (dX p)).length cb) (dE p);have z2:=Lo.zero ((w.alloc (Obj.cells #[.bool (dN o),.slice a (ws (dX o)).length ca,.int .i64 (dE o)] 81)).alloc (Obj.cells #[.bool (dN p),.slice b (ws (dX p)).length cb,.int .i64 (dE p)] 81));rw [World.size_alloc] at z1;rw [World.size_alloc,World.size_alloc] at z2;exact ⟨((Dk.new _ _ _ _).below (below_alloc _ _)).below (below_alloc _ _),z1.below (below_alloc _ _),z2,((below_alloc _ _).trans ((below_alloc _ _).mono (by simp))).trans ((below_alloc _ _).mono (by simp;omega))⟩
 have HW:=qsd hW;have HC1:=hid (HC.out W H0.out.2.2.2);have FF:=qsd F;clear hW HC F;go_enter Tryz.func226,Tryz.ntmps226
 go_upto_region 1 with fail
 rw [←HW.out];clear HW;obtain ⟨x0,x1,x2,xf0,xf1,xf2⟩:=H0.out.1.facts;obtain ⟨y0,y1,y2,yf0,yf1,yf2⟩:=H0.out.2.1.facts
 go_wp2_with fail
 refine HC1.out.mono ?_;rintro r u ⟨⟨v,rfl,hN⟩,hb⟩;obtain ⟨a1,c1,rfl,hN0⟩:=Lo.shape FF.out hN;obtain ⟨U,hU⟩:∃ U,U=u.alloc (Obj.cells #[.bool (dN q),.slice a1 (ws (dX q)).length c1,.int .i64 (dE q)] 81):=⟨_,rfl⟩
 have H1:Aside (Lo U (w.heap.size+2) o00∧Dk U u.heap.size (dN q) (.slice a1 (ws (dX q)).length c1) (dE q)∧Nt 0 U (.slice a1 (ws (dX q)).length c1) (dX q)∧Below w.heap.size w U):=by
  rw [hU];have b0:=H0.out.2.2.2;exact ⟨(H0.out.2.2.1.below hb).below (below_alloc _ _),Dk.new _ _ _ _,hN0.below (below_alloc _ _),(b0.trans (hb.mono b0.size)).trans ((below_alloc _ _).mono (Nat.le_trans b0.size hb.size))⟩
 obtain ⟨gq,hgq⟩:∃ g,g=u.heap.size:=⟨_,rfl⟩;rw [←hgq] at H1;have HU:=(qsd (ai hU hgq));clear hU hN hN0 hb HC1 H0 x0 x1 x2 xf0 xf1 xf2 y0 y1 y2 yf0 yf1 yf2 hgq
 go_upto_region 2 with fail
 rw [←HU.out.1,←HU.out.2];clear HU;obtain ⟨x0,x1,x2,xf0,xf1,xf2⟩:=H1.out.2.1.facts;obtain ⟨p4,q4,D4,M4⟩:=H1.out.1;obtain ⟨y0,y1,y2,yf0,yf1,yf2⟩:=D4.facts;clear D4 M4;go_wp2;exact end14 Tryz.results226 rfl H1.out.1 H1.out.2.2.2 (by omega) H1.out.2.2.1
theorem times14 {w:World}{a b:Option Addr}{ca cb:Nat}{o p q:Option (Bool×Nat×Int)}(F:Fm o) (G:Fm p) (H:Fm q) (N1:Nt 0 w (.slice a (ws (dX o)).length ca) (dX o)) (N2:Nt 0 w (.slice b (ws (dX p)).length cb) (dX p)) (hT:Tab w) (h:mulD o p=q) :
 Calls Tryz.prog 116 #[.agg #[.bool (dN o),.slice a (ws (dX o)).length ca,.int .i64 (dE o)],.agg #[.bool (dN p),.slice b (ws (dX p)).length cb,.int .i64 (dE p)]] w fun r w'=>DVal 0 w' r q∧Below w.heap.size w w' :=
 times14_core w a b ca cb o p q H (hid fun u hu=>mulP12 F G (N1.below hu) (N2.below hu) (hT.belows hu) h H)
theorem plus14 {w:World}{a b:Option Addr}{ca cb:Nat}{o p q:Option (Bool×Nat×Int)}(F:Fm o) (G:Fm p) (H:Fm q) (N1:Nt 0 w (.slice a (ws (dX o)).length ca) (dX o)) (N2:Nt 0 w (.slice b (ws (dX p)).length cb) (dX p)) (hT:Tab w) (h:addD o p=q) :
 Calls Tryz.prog 226 #[.agg #[.bool (dN o),.slice a (ws (dX o)).length ca,.int .i64 (dE o)],.agg #[.bool (dN p),.slice b (ws (dX p)).length cb,.int .i64 (dE p)]] w fun r w'=>DVal 0 w' r q∧Below w.heap.size w w' :=
 plus14_core w a b ca cb o p q H (hid fun u hu=>addP12' F G (N1.below hu) (N2.below hu) (hT.belows hu) h H)
end
section
open Go Go.RowKit J
theorem DVal.shape14 {w:World}{r:Ending}{lo:Nat}{q:Option (Bool×Nat×Int)}(H:Fm q) (h:DVal lo w r q):∃ a c,r=.returned (.agg #[.bool (dN q),.slice a (ws (dX q)).length c,.int .i64 (dE q)])∧Nt 0 w (.slice a (ws (dX q)).length c) (dX q):=by
 obtain ⟨v,rfl,hN⟩:=h;obtain ⟨a,c,rfl,hN0⟩:=Lo.shape H hN;exact ⟨a,c,rfl,hN0⟩
theorem DVal.mono14 {w:World}{r:Ending}{lo:Nat}{q:Option (Bool×Nat×Int)}(h:DVal lo w r q):DVal 0 w r q:=by
 obtain ⟨v,rfl,hN⟩:=h;exact ⟨v,rfl,hN.mono (Nat.zero_le _)⟩
theorem Int14 (n:Int) (w:World) (hT:Tab w) (h0:-9223372036854775808≤n) (h1:n≤9223372036854775807) :
 Calls Tryz.prog 76 #[.int .i64 n] w fun r w'=>DVal 0 w' r (gV 0 n)∧Below w.heap.size w w' :=
 (Int_any n w hT h0 h1).mono fun r w' h=>⟨h.1.mono14,h.2⟩
end
section
open Go Go.RowKit J
theorem total14_e (w:World) (n h0:Nat) (A T:Nat→Option (Bool×Nat×Int)) (hn:n≤65536) (hT:Tab w) (FA:∀ i,i<n→Fm (A i)) (FT:∀ i,i≤n→Fm (T i)) (ET:∀ i,i<n→addD (T i) (A i)=T (i+1)) (E0:o00=T 0)
 (HC:Hid (∀ (i:Nat) (u:World),i<n→Below w.heap.size w u→Calls Tryz.prog 184 #[.int .i64 (i:Nat),.pointer (some ⟨h0,0,none⟩)] u fun r w'=>DVal 0 w' r (A i)∧Below u.heap.size u w')) :
 Calls Tryz.prog 183 #[.int .i64 (n:Nat),.func (.func 184) #[] #[.pointer (some ⟨h0,0,none⟩)]] w fun r w'=>DVal 0 w' r (T n)∧Below w.heap.size w w':=by
 obtain ⟨W,hW⟩:∃ W,W=(w.alloc (Obj.cells #[.bool false,.slice none 0 0,.int .i64 0] 81)).alloc (Obj.cells #[.bool false,.slice none 0 0,.int .i64 0] 81):=⟨_,rfl⟩
 have H0:Aside (Lo W (w.heap.size+1) (T 0)∧Lo W w.heap.size o00∧Below w.heap.size w W):=by
  subst hW;rw [←E0];have z2:=Lo.zero (w.alloc (Obj.cells #[.bool false,.slice none 0 0,.int .i64 0] 81));rw [World.size_alloc] at z2;exact ⟨z2,(Lo.zero w).below (below_alloc _ _),(below_alloc _ _).trans ((below_alloc _ _).mono (by simp))⟩
 have HP:Hid (∀ (i:Nat) (u:World) (p q:Option Addr) (cp cq:Nat),i<n→Tab u→Nt 0 u (.slice p (ws (dX (T i))).length cp) (dX (T i))→Nt 0 u (.slice q (ws (dX (A i))).length cq) (dX (A i))→Calls Tryz.prog 226 #[.agg #[.bool (dN (T i)),.slice p (ws (dX (T i))).length cp,.int .i64 (dE (T i))],.agg #[.bool (dN (A i)),.slice q (ws (dX (A i))).length cq,.int .i64 (dE (A i))]] u fun r w'=>DVal 0 w' r (T (i+1))∧Below u.heap.size u w') :=
  fun i u p q cp cq hi hT n1 n2=>plus14 (FT i (by omega)) (FA i hi) (FT (i+1) (by omega)) n1 n2 hT (ET i hi)
 have HW:=qsd hW;have PF:=qsd (ai FT FA);have HT:=qsd hT;clear hW FT FA ET E0 hT;go_enter Tryz.func183,Tryz.ntmps183
 go_upto_region 2 with fail
 rw [←HW.out];clear HW;go_wp2
 go_loopg [8] n (fun gk i wr=>∃ j:Nat,gk+j=n∧i=.int .i64 (j:Nat)∧Aside (Lo wr (w.heap.size+1) (T j)∧Lo wr w.heap.size o00∧Below w.heap.size w wr))
 case atStart=>exact ⟨0,by omega,by simp,H0.out⟩
 case round =>
  obtain ⟨j,hgj,rfl,HA⟩:=hrel
  by_cases hj:j<n
  · obtain ⟨p1,q1,D1,M1⟩:=HA.out.1
    have hdr:=(Below.refl wr.heap.size wr).drew;have kS:=qsd (ai (D1.below hdr).facts.1 (ai (D1.below hdr).facts.2.1 (D1.below hdr).facts.2.2.1));have B1:=qsd (ai (D1.below hdr) (ai (M1.below hdr) (ai (HA.out.2.1.below hdr) (HA.out.2.2.trans (hdr.mono HA.out.2.2.size)))));have C:=hid (HC.out j wr.drew hj B1.out.2.2.2);clear D1 M1 hdr
    go_upto_region 5 with fail
    refine until_region (fun u=>u.cell? ⟨w.heap.size+1,0,none⟩=some (.bool (dN (T j)))∧u.cell? ⟨w.heap.size+1,1,none⟩=some (.slice p1 (ws (dX (T j))).length q1)∧u.cell? ⟨w.heap.size+1,2,none⟩=some (.int .i64 (dE (T j)))) 5 (by kernel_rfl) ?_
    refine until_take (i:=0) [4] (v:=?_) rfl (by kernel_rfl) (by kernel_rfl) (by kernel_rfl) (by kernel_rfl) (by kernel_rfl) (fun _ _ _ h=>h) (Or.inl ⟨by rfl,?_⟩) kS.out ?_
    rotate_left
    · intro u hSu
      try dsimp only at hSu
      first | (go_simp;done) | (go_simp;with_reducible rfl)
    try simp only [Act.put,List.setIfInBounds_toArray,List.set_cons_zero,List.set_cons_succ]
    refine until_take (i:=1) [3,4] (v:=?_) rfl (by kernel_rfl) (by kernel_rfl) (by kernel_rfl) (by kernel_rfl) (by kernel_rfl) (fun _ _ _ h=>h) (Or.inl ⟨by rfl,?_⟩) kS.out ?_
    rotate_left
    · intro u hSu
      try dsimp only at hSu
      first | (go_simp;done) | (go_simp;with_reducible rfl)
    try simp only [Act.put,List.setIfInBounds_toArray,List.set_cons_zero,List.set_cons_succ]
    refine until_take (i:=2) [3,4] (v:=?_) rfl (by kernel_rfl) (by kernel_rfl) (by kernel_rfl) (by kernel_rfl) (by kernel_rfl) (fun _ _ _ h=>h) (Or.inl ⟨by rfl,?_⟩) kS.out ?_
    rotate_left
    · intro u hSu
      try dsimp only at hSu
      first | (go_simp;done) | (go_simp;with_reducible rfl)
    try simp only [Act.put,List.setIfInBounds_toArray,List.set_cons_zero,List.set_cons_succ]
    refine until_one (i:=3) (by kernel_rfl) rfl (fun K' hK=>?_)
    go_simp
    refine C.out.mono ?_;rintro r u3 ⟨hd,hb⟩;obtain ⟨a3,c3,rfl,hN3⟩:=hd.shape14 (PF.out.2 j hj);have B2:=qsd (ai (B1.out.1.below hb) (ai (B1.out.2.1.below hb) (ai (B1.out.2.2.1.below hb) (ai (B1.out.2.2.2.trans (hb.mono B1.out.2.2.2.size)) hN3))));have kS:=qsd (ai B2.out.1.facts.1 (ai B2.out.1.facts.2.1 B2.out.1.facts.2.2.1));clear hb hd C B1 hN3
    dsimp only
    refine hK.out _ _ (fun _=>kS.out) ?_
    clear hK K'
    try simp only [Act.put,List.setIfInBounds_toArray,List.set_cons_zero,List.set_cons_succ]
    have C:=hid (HP.out j u3 p1 a3 q1 c3 hj (HT.out.belows B2.out.2.2.2.1) B2.out.2.1 B2.out.2.2.2.2);refine until_one (i:=4) (by kernel_rfl) rfl (fun K' hK=>?_)
    go_simp
    refine C.out.mono ?_;rintro r u4 ⟨hd,hb⟩;obtain ⟨a4,c4,rfl,hN4⟩:=hd.shape14 (PF.out.1 (j+1) (by omega))
    have B3:=qsd (ai (B2.out.1.below hb) (ai (B2.out.2.1.below hb) (ai (B2.out.2.2.1.below hb) (ai (B2.out.2.2.2.1.trans (hb.mono B2.out.2.2.2.1.size)) hN4))));have kS:=qsd (ai B3.out.1.facts.1 (ai B3.out.1.facts.2.1 B3.out.1.facts.2.2.1));clear hb hd C B2 hN4
    dsimp only
    refine hK.out _ _ (fun _=>kS.out) ?_
    clear hK K'
    try simp only [Act.put,List.setIfInBounds_toArray,List.set_cons_zero,List.set_cons_succ]
    obtain ⟨z0,z1,z2,zf0,zf1,zf2⟩:=B3.out.1.facts;refine until_one (i:=5) (by kernel_rfl) rfl (fun K' hK=>?_)
    go_simp
    refine hK.out _ _ (fun h=>absurd h (by decide)) ?_
    clear hK K' kS z0 z1 z2 zf0 zf1 zf2;refine until_done (by kernel_rfl) ?_ _
    have LB:Lo u4 (w.heap.size+1) (T j):=⟨_,_,B3.out.1,B3.out.2.1⟩;have b3:=B3.out.2.2.2.1;have H3:=qsd (ai (LB.set B3.out.2.2.2.2) (ai (B3.out.2.2.1.other LB (by omega) (.bool (dN (T (j+1)))) (.slice a4 (ws (dX (T (j+1)))).length c4) (.int .i64 (dE (T (j+1))))) (st3_bel12 b3 b3.size (show w.heap.size≤w.heap.size+1 by omega) (.bool (dN (T (j+1)))) (.slice a4 (ws (dX (T (j+1)))).length c4) (.int .i64 (dE (T (j+1)))))))
    clear LB b3;go_wp2
    go_roundg (gk-1)
    case measure=>omega
    case rel=>exact ⟨j+1,by omega,by first | rfl | simp,H3.out⟩
  · obtain rfl:n=j:=by omega
    have hd:decide ((n:Int)<n)=false:=by simp
    obtain ⟨p1,q1,D1,M1⟩:=HA.out.1;obtain ⟨p2,q2,D2,M2⟩:=HA.out.2.1;obtain ⟨x0,x1,x2,xf0,xf1,xf2⟩:=D1.facts;obtain ⟨y0,y1,y2,yf0,yf1,yf2⟩:=D2.facts;have MM1:=qsd M1;clear D1 D2 M1 M2;go_wp2;exact end14 Tryz.results183 rfl HA.out.2.1 HA.out.2.2 (by omega) MM1.out
end
section
open Go Go.RowKit J
def Dr (w:World) (g n k:Nat) (A:Nat→Option (Bool×Nat×Int)):Prop:=∃ cur:Array Value,w.heap[g]?=some (.cells cur 81 (0,0))∧cur.size=n*3∧∀ i,i<k→∃ a c,cur[i*3]?=some (.bool (dN (A i)))∧cur[i*3+1]?=some (.slice a (ws (dX (A i))).length c)∧cur[i*3+2]?=some (.int .i64 (dE (A i)))∧Nt 0 w (.slice a (ws (dX (A i))).length c) (dX (A i))
theorem Dr.lt {w:World}{g n k:Nat}{A:Nat→Option (Bool×Nat×Int)}(h:Dr w g n k A):g<w.heap.size:=by obtain ⟨c,h,_⟩:=h;exact (Array.getElem?_eq_some_iff.1 h).1
theorem Dr.below {w w':World}{g n k:Nat}{A:Nat→Option (Bool×Nat×Int)}(h:Dr w g n k A) (hb:Below w.heap.size w w'):Dr w' g n k A:=by
 have hl:=h.lt;obtain ⟨c,h,hs,r⟩:=h;refine ⟨c,by rw [hb.block g hl];exact h,hs,fun i hi=>?_⟩
 obtain ⟨a,d,r1,r2,r3,r4⟩:=r i hi;exact ⟨a,d,r1,r2,r3,r4.below hb⟩
theorem Dr.facts {w:World}{g n k:Nat}{A:Nat→Option (Bool×Nat×Int)}(h:Dr w g n k A) (i:Nat) (hi:i<k) :
 ∃ a c,w.cell? ⟨g,i*3,none⟩=some (.bool (dN (A i)))∧w.cell? ⟨g,i*3+1,none⟩=some (.slice a (ws (dX (A i))).length c)∧w.cell? ⟨g,i*3+2,none⟩=some (.int .i64 (dE (A i)))∧Nt 0 w (.slice a (ws (dX (A i))).length c) (dX (A i)):=by
 obtain ⟨c,h,hs,r⟩:=h;obtain ⟨a,d,r1,r2,r3,r4⟩:=r i hi;refine ⟨a,d,?_,?_,?_,r4⟩ <;> simp [World.cell?,h,r1,r2,r3]
theorem Dr.room {w:World}{g n k:Nat}{A:Nat→Option (Bool×Nat×Int)}(h:Dr w g n k A) (j:Nat) (hj:j<n*3):(∃ v,w.cell? ⟨g,j,none⟩=some v)∧w.frozen? ⟨g,j,none⟩=false:=by
 obtain ⟨c,h,hs,r⟩:=h;refine ⟨⟨c[j]'(by omega),?_⟩,?_⟩
 · simp [World.cell?,h]
 · simp [World.frozen?,h]
abbrev st3o (w:World) (g o:Nat) (a b c:Value):World:=((w.setCell ⟨g,o,none⟩ a).setCell ⟨g,o+1,none⟩ b).setCell ⟨g,o+2,none⟩ c
theorem st3o_but (g o:Nat) (w:World) (a b c:Value):But g w (st3o w g o a b c):=(((But.refl g w).set _ _).set _ _).set _ _
theorem Dr.step {w:World}{g n i:Nat}{A:Nat→Option (Bool×Nat×Int)}(h:Dr w g n i A) (hi:i<n) {a:Option Addr}{c:Nat}(hN:Nt 0 w (.slice a (ws (dX (A i))).length c) (dX (A i))) :
 Dr (st3o w g (i*3) (.bool (dN (A i))) (.slice a (ws (dX (A i))).length c) (.int .i64 (dE (A i)))) g n (i+1) A:=by
 obtain ⟨cur,h1,hs,r⟩:=h;refine ⟨_,setc (setc (setc h1 (i*3) _) (i*3+1) _) (i*3+2) _,by simp;exact hs,fun j hj=>?_⟩
 by_cases e:j=i
 · subst e
   refine ⟨a,c,?_,?_,?_,hN.off (st3o_but _ _ _ _ _ _) (hN.notin (by decide) h1)⟩ <;> (simp [Array.getElem?_setIfInBounds];omega)
 · obtain ⟨b,d,r1,r2,r3,r4⟩:=r j (by omega)
   refine ⟨b,d,?_,?_,?_,r4.off (st3o_but _ _ _ _ _ _) (r4.notin (by decide) h1)⟩
   · rw [←r1];simp [Array.getElem?_setIfInBounds,show i*3≠j*3 by omega,show i*3+1≠j*3 by omega,show i*3+2≠j*3 by omega]
   · rw [←r2];simp [Array.getElem?_setIfInBounds,show i*3≠j*3 by omega,show i*3≠j*3+1 by omega,show i*3≠j*3+2 by omega,show i*3+1≠j*3 by omega,show i*3+1≠j*3+1 by omega,show i*3+1≠j*3+2 by omega,show i*3+2≠j*3 by omega,show i*3+2≠j*3+1 by omega,show i*3+2≠j*3+2 by omega,show i≠j by omega]
   · rw [←r3];simp [Array.getElem?_setIfInBounds,show i*3≠j*3 by omega,show i*3≠j*3+1 by omega,show i*3≠j*3+2 by omega,show i*3+1≠j*3 by omega,show i*3+1≠j*3+1 by omega,show i*3+1≠j*3+2 by omega,show i*3+2≠j*3 by omega,show i*3+2≠j*3+1 by omega,show i*3+2≠j*3+2 by omega,show i≠j by omega]
theorem Tryz.und_dyads14:Tryz.prog.underlying 166=some (.slice 81):=by kernel_rfl
theorem Tryz.info_dyad14:(Tryz.prog.info? 81).map (fun i=>(i.zero,i.size,i.bytes))=some (some (.agg #[.bool false,.slice none 0 0,.int .i64 0]),3,40):=by kernel_rfl
theorem make_dyads14 (n:Nat) (hn:n≤65536) (w:World) :
 (Instr.makeSlice 166 (.int .i64 (n:Nat)) (.int .i64 (n:Nat))).run Tryz.prog w=.ok (.slice (some ⟨w.heap.size,0,none⟩) n n) (w.alloc (.cells (madeCells #[.bool false,.slice none 0 0,.int .i64 0] (n*3)) 81)):=by
 have h:=Tryz.info_dyad14
 cases hq:Tryz.prog.info? 81 with
 | none=>rw [hq] at h;cases h
 | some i =>
   rw [hq] at h;simp only [Option.map_some,Option.some.injEq,Prod.mk.injEq] at h;obtain ⟨hz,hs,hb⟩:=h;have:=run_make (P:=Tryz.prog) w 166 81 i _ Tryz.und_dyads14 hq hz .i64 .i64 (n:Nat) (n:Nat) (by omega) (by omega) (by rw [hb];omega) (by omega)
   rw [hs,Int.toNat_natCast] at this;exact this
theorem Dr.made (w:World) (n:Nat) (A:Nat→Option (Bool×Nat×Int)):Dr (w.alloc (.cells (madeCells #[.bool false,.slice none 0 0,.int .i64 0] (n*3)) 81)) w.heap.size n 0 A :=
 ⟨_,heap_alloc_new _ _,size_madeCells _ _,fun i hi=>absurd hi (by omega)⟩
theorem of_odd14 (x:Nat) (hx:x<18446744073709551616) (fx:¬ finW x) (w:World) (hT:Tab w) :
 Calls Tryz.prog 182 #[.float .f64 x] w fun r w'=>(∃ a c,r=.returned (.tuple #[.agg #[.bool false,.slice a 0 c,.int .i64 0],.int .i64 30])∧Nt w.heap.size w' (.slice a 0 c) 0)∧Below w.heap.size w w':=by
 have e:B.bw (negW x) (magW x/4503599627370496) (magW x%4503599627370496)=x:=by
  have h1:magW x=x%9223372036854775808:=rfl;unfold B.bw
  by_cases h:9223372036854775808≤x
  · rw [show negW x=true from decide_eq_true h];simp only [Bool.toNat_true];omega
  · rw [show negW x=false from decide_eq_false h];simp only [Bool.toNat_false];omega
 have hm:magW x<9223372036854775808:=Nat.mod_lt _ (by decide)
 have hm2:¬ magW x<9218868437227405312:=fx;have:=Of_any (negW x) (magW x/4503599627370496) (magW x%4503599627370496) (by omega) (by omega) w hT
 rw [e] at this;refine this.mono ?_;rintro r w' ⟨⟨v,rfl,hN⟩,hb⟩;have e1:ofR (negW x) (magW x/4503599627370496) (magW x%4503599627370496)=none:=by unfold ofR;rw [if_pos (by omega)]
 have e2:ofE (magW x/4503599627370496)=30:=by unfold ofE;rw [if_pos (by omega)]
 rw [e1] at hN ⊢;rw [e2];obtain ⟨a,c,rfl,_⟩:=hN.arg (by show (ws 0).length≤_;rw [ws_zero];decide)
 rw [show (ws (dX (none:Option (Bool×Nat×Int)))).length=0 by simp [dX,ws_zero]] at hN ⊢
 exact ⟨⟨a,c,rfl,hN⟩,hb⟩
theorem of14 (x:Nat) (hx:x<18446744073709551616) (fx:finW x) (w:World) (hT:Tab w) :
 Calls Tryz.prog 182 #[.float .f64 x] w fun r w'=>(∃ v,r=.returned (.tuple #[.agg #[.bool (dN (gV 1074 (fvW x))),v,.int .i64 (dE (gV 1074 (fvW x)))],.int .i64 0])∧Nt w.heap.size w' v (dX (gV 1074 (fvW x))))∧Below w.heap.size w w':=of_any8 x ⟨hx,fx⟩ w hT
theorem exactC14 (i n g4 gA:Nat) (A:Nat→Option (Bool×Nat×Int)) (u:World) (hi:i<n) (hn:n≤65536) (hB:Bl u g4 166 [.slice (some ⟨gA,0,none⟩) n n]) (hD:Dr u gA n n A) :
 Calls Tryz.prog 184 #[.int .i64 (i:Nat),.pointer (some ⟨g4,0,none⟩)] u fun r w'=>DVal 0 w' r (A i)∧Below u.heap.size u w':=by
 obtain ⟨W,hW⟩:∃ W,W=u.alloc (Obj.cells #[.bool false,.slice none 0 0,.int .i64 0] 81):=⟨_,rfl⟩
 have H0:Aside (Lo W u.heap.size o00∧Dr W gA n n A∧Bl W g4 166 [.slice (some ⟨gA,0,none⟩) n n]∧Below u.heap.size u W):=by
  rw [hW];exact ⟨Lo.zero _,hD.below (below_alloc _ _),hB.below (below_alloc _ _) hB.lt,below_alloc _ _⟩
 have HW:=qsd hW;clear hW hB hD;go_enter Tryz.func184,Tryz.ntmps184
 go_upto_region 1 with fail
 rw [←HW.out];clear HW;have s0:=H0.out.2.2.1.cell 0 _ rfl;obtain ⟨a,c,x0,x1,x2,M⟩:=H0.out.2.1.facts i hi;have MM1:=qsd M;obtain ⟨p2,q2,D2,M2⟩:=H0.out.1;obtain ⟨y0,y1,y2,yf0,yf1,yf2⟩:=D2.facts;clear D2 M2 M;go_wp2;exact end14 Tryz.results184 rfl H0.out.1 H0.out.2.2.2 (by omega) MM1.out
theorem Dr.but {w w':World}{g g' n k T:Nat}{A:Nat→Option (Bool×Nat×Int)}{L:List Value}(h:Dr w g n k A) (hb:But g' w w') (hB:Bl w g' T L) (hg:g≠g') (hT:T≠93):Dr w' g n k A:=by
 have hl:=h.lt;obtain ⟨c,h,hs,r⟩:=h;refine ⟨c,by rw [hb.block g hl hg];exact h,hs,fun i hi=>?_⟩
 obtain ⟨a,d,r1,r2,r3,r4⟩:=r i hi;exact ⟨a,d,r1,r2,r3,r4.off hb (r4.notin hT hB)⟩
end
section
open Go Go.RowKit J
def fiB (xs:List Nat):Bool:=xs.all (fun x=>decide (magW x<9218868437227405312))
theorem fiB_iff (xs:List Nat):fiB xs=true↔∀ x ∈ xs,finW x:=by
 unfold fiB;rw [List.all_eq_true]
 constructor
 · intro h x hx;exact of_decide_eq_true (h x hx)
 · intro h x hx;exact decide_eq_true (h x hx)
def exE (xs:List Nat):Int:=if 65536<xs.length then 2 else if fiB xs then 0 else 30
def fX (xs:List Nat) (i:Nat):Int:=fvW (xs.getD i 0)
def sX (xs:List Nat):Int:=tS (fX xs) xs.length
theorem fX_bd {xs:List Nat}(hW:W64 xs) (hf:∀ x ∈ xs,finW x) (i:Nat) (hi:i<xs.length):Bd 2098 (fX xs i):=by
 unfold fX;rw [List.getD_eq_getElem?_getD,List.getElem?_eq_getElem hi]
 exact fv_bd (hW _ (List.getElem_mem hi)) (hf _ (List.getElem_mem hi))
theorem sX_bd {xs:List Nat}(hW:W64 xs) (hf:∀ x ∈ xs,finW x) (hl:xs.length≤65536) (k:Nat) (hk:k≤xs.length):Bd 2114 (tS (fX xs) k):=tS_bd (fun i hi=>fX_bd hW hf i hi) hl k hk
def Rr (w:World) (v:Value) (n:Nat) (A:Nat→Option (Bool×Nat×Int)) (S:Option (Bool×Nat×Int)):Prop:=∃ gA a c,v=.agg #[.slice (some ⟨gA,0,none⟩) n n,.bool (dN S),.slice a (ws (dX S)).length c,.int .i64 (dE S)]∧Dr w gA n n A∧Nt 0 w (.slice a (ws (dX S)).length c) (dX S)
theorem exact14 (xs:List Nat) (a:Option Addr) (n c:Nat) (w:World) (hn:n=xs.length) (hF:Fs w.heap.size w a xs) (hW:W64 xs) (hT:Tab w) (hl:n≤35184372088832) :
 Calls Tryz.prog 135 #[.slice a n c] w fun r w' =>
  ((exE xs≠0∧r=.returned (.tuple #[.agg #[.slice none 0 0,.bool false,.slice none 0 0,.int .i64 0],.int .i64 (exE xs)])) ∨
   (exE xs=0∧∃ v,r=.returned (.tuple #[v,.int .i64 0])∧Rr w' v n (fun i=>gV 1074 (fX xs i)) (gV 1074 (sX xs))))∧Below w.heap.size w w':=by
 obtain ⟨W,hWW⟩:∃ W,W=w.alloc (Obj.cells #[.slice none 0 0,.bool false,.slice none 0 0,.int .i64 0] 168):=⟨_,rfl⟩
 have H0:Aside (Bl W w.heap.size 168 [.slice none 0 0,.bool false,.slice none 0 0,.int .i64 0]∧Below w.heap.size w W):=by
  rw [hWW];exact ⟨Bl.new _ 168 [_,_,_,_],bel_alloc _ _⟩
 have HWW:=qsd hWW;clear hWW
 by_cases hL:65536<n
 · have e:exE xs=2:=by unfold exE;rw [if_pos (by omega)]
   rw [e];have d5:decide ((65536:Int)<(n:Nat))=true:=by simp;omega
   clear hn hF hW hT e;go_enter Tryz.func135,Tryz.ntmps135
   go_upto_region 1 with fail
   rw [←HWW.out];clear HWW;have c0:=H0.out.1.cell 0 _ rfl;have c1:=H0.out.1.cell 1 _ rfl;have c2:=H0.out.1.cell 2 _ rfl;have c3:=H0.out.1.cell 3 _ rfl;have f0:=H0.out.1.frozen 0;have f1:=H0.out.1.frozen 1;have f2:=H0.out.1.frozen 2;have f3:=H0.out.1.frozen 3;go_wp2;have q:=(((H0.out.1.set 0 (.slice none 0 0)).set 1 (.bool false)).set 2 (.slice none 0 0)).set 3 (.int .i64 0);have g0:=q.cell 0 _ rfl;have g1:=q.cell 1 _ rfl;have g2:=q.cell 2 _ rfl;have g3:=q.cell 3 _ rfl;refine bodyPost_ret (v:=.tuple #[.agg #[.slice none 0 0,.bool false,.slice none 0 0,.int .i64 0],.int .i64 2]) (by simp [results,Tryz.results135,go_sem,g0,g1,g2,g3]) rfl ⟨.inl ⟨by decide,rfl⟩,?_⟩
   exact But.below H0.out.2 (((((But.refl _ _).set 0 _).set 1 _).set 2 _).set 3 _) H0.out.2.size (Nat.le_refl _)
 · have d5:decide ((65536:Int)<(n:Nat))=false:=by simp;omega
   have hmk:=make_dyads14 n (by omega)
   obtain ⟨A,hA⟩:∃ A:Nat→Option (Bool×Nat×Int),A=fun i=>gV 1074 (fX xs i):=⟨_,rfl⟩
   obtain ⟨W1,hW1⟩:∃ W1,W1=(W.alloc (.cells (madeCells #[.bool false,.slice none 0 0,.int .i64 0] (n*3)) 81)).alloc (Obj.cells #[.slice (some ⟨w.heap.size+1,0,none⟩) n n] 166):=⟨_,rfl⟩;have hws:W.heap.size=w.heap.size+1:=by rw [HWW.out];simp
   have H1:Aside (Dr W1 (w.heap.size+1) n 0 A∧Bl W1 (w.heap.size+2) 166 [.slice (some ⟨w.heap.size+1,0,none⟩) n n]∧Bl W1 w.heap.size 168 [.slice none 0 0,.bool false,.slice none 0 0,.int .i64 0]∧Below w.heap.size w W1):=by
    rw [hW1];have z1:=Dr.made W n A;rw [hws] at z1;have z2:=Bl.new (W.alloc (.cells (madeCells #[.bool false,.slice none 0 0,.int .i64 0] (n*3)) 81)) 166 [.slice (some ⟨w.heap.size+1,0,none⟩) n n];rw [World.size_alloc,hws] at z2;have b0:=H0.out;exact ⟨z1.below (below_alloc _ _),z2,(b0.1.alloc _).alloc _,(b0.2.trans ((below_alloc _ _).mono b0.2.size)).trans ((below_alloc _ _).mono (by simp;have:=b0.2.size;omega))⟩
   have HW1:=qsd hW1;have HX:=qsd (ai hn (ai hF (ai hW (ai hT hA))));have HL:=qsd hL
   have HE:Aside (∀ x ∈ xs,¬ finW x→exE xs=30):=by
    intro x hx hf;unfold exE;rw [if_neg (by omega),if_neg (by intro q;exact hf ((fiB_iff xs).1 q x hx))]
   clear hW1 hn hF hW hT hA hws hL;go_enter Tryz.func135,Tryz.ntmps135
   go_upto_region 1 with fail
   rw [←HWW.out]
   go_upto_region 4 with fail
   have hgs:W.heap.size=w.heap.size+1:=by rw [HWW.out];simp
   try rw [hgs]
   rw [←HW1.out];clear HW1 HWW hgs;go_wp2
   go_loopg [17] n (fun gk i wr=>∃ j:Nat,gk+j=n∧i=.int .i64 (j:Nat)∧Aside (Dr wr (w.heap.size+1) n j A∧Bl wr (w.heap.size+2) 166 [.slice (some ⟨w.heap.size+1,0,none⟩) n n]∧Bl wr w.heap.size 168 [.slice none 0 0,.bool false,.slice none 0 0,.int .i64 0]∧Below w.heap.size w wr∧∀ i,i<j→finW (xs.getD i 0)))
   case atStart=>exact ⟨0,by omega,by simp,H1.out.1,H1.out.2.1,H1.out.2.2.1,H1.out.2.2.2,fun i hi=>absurd hi (by omega)⟩
   case round =>
    obtain ⟨j,hgj,rfl,HA⟩:=hrel
    by_cases hj:j<n
    · obtain ⟨b,off,rfl,hc⟩:=HX.out.2.1.at HA.out.2.2.2.1 j (by rw [←HX.out.1];exact hj)
      obtain ⟨x,hx⟩:∃ x,x=xs.getD j 0:=⟨_,rfl⟩;rw [←hx] at hc;have hx64:x<18446744073709551616:=by rw [hx];exact HX.out.2.2.1.get j
      by_cases hfx:finW x
      · have C:=hid (of14 x hx64 hfx wr (HX.out.2.2.2.1.belows HA.out.2.2.2.1))
        have eA:gV 1074 (fvW x)=A j:=by rw [HX.out.2.2.2.2,hx];rfl
        rw [eA] at C;have FA:Fm (A j):=by rw [←eA];exact g_fm (by decide) (by decide) (fv_bd hx64 hfx)
        have PA:=(qsd (ai FA (ai hfx hx)));clear eA FA hfx hx hx64
        go_wp2_with fail
        refine C.out.mono ?_;rintro r u ⟨⟨v,rfl,hN⟩,hb⟩;obtain ⟨a1,c1,rfl,hN0⟩:=Lo.shape PA.out.1 hN;obtain ⟨U,hU⟩:∃ U,U=u.alloc (Obj.cells #[.bool (dN (A j)),.slice a1 (ws (dX (A j))).length c1,.int .i64 (dE (A j))] 81):=⟨_,rfl⟩
        have H2:Aside (Dk U u.heap.size (dN (A j)) (.slice a1 (ws (dX (A j))).length c1) (dE (A j))∧Nt 0 U (.slice a1 (ws (dX (A j))).length c1) (dX (A j))∧Dr U (w.heap.size+1) n j A∧Bl U (w.heap.size+2) 166 [.slice (some ⟨w.heap.size+1,0,none⟩) n n]∧Bl U w.heap.size 168 [.slice none 0 0,.bool false,.slice none 0 0,.int .i64 0]∧Below w.heap.size w U):=by
         rw [hU];have b0:=HA.out.2.2.2.1;exact ⟨Dk.new _ _ _ _,hN0.below (below_alloc _ _),(HA.out.1.below hb).below (below_alloc _ _),(HA.out.2.1.below hb HA.out.2.1.lt).alloc _,(HA.out.2.2.1.below hb HA.out.2.2.1.lt).alloc _,(b0.trans (hb.mono b0.size)).trans ((below_alloc _ _).mono (Nat.le_trans b0.size hb.size))⟩
        obtain ⟨gq,hgq⟩:∃ g,g=u.heap.size:=⟨_,rfl⟩;rw [←hgq] at H2;have HU:=(qsd (ai hU hgq));clear hU hN hN0 hb C hgq hc
        go_upto_region 10 with fail
        rw [←HU.out.1,←HU.out.2];clear HU;obtain ⟨x0,x1,x2,xf0,xf1,xf2⟩:=H2.out.1.facts;have s0:=H2.out.2.2.2.1.cell 0 _ rfl;obtain ⟨⟨v0,k0⟩,kf0⟩:=H2.out.2.2.1.room (j*3) (by omega)
        obtain ⟨⟨v1,k1⟩,kf1⟩:=H2.out.2.2.1.room (j*3+1) (by omega)
        obtain ⟨⟨v2,k2⟩,kf2⟩:=H2.out.2.2.1.room (j*3+2) (by omega)
        go_wp2
        go_roundg (gk-1)
        case measure=>omega
        case rel =>
         have hbt:=st3o_but (w.heap.size+1) (j*3) U (.bool (dN (A j))) (.slice a1 (ws (dX (A j))).length c1) (.int .i64 (dE (A j)));refine ⟨j+1,by omega,by first | rfl | simp,H2.out.2.2.1.step hj H2.out.2.1,H2.out.2.2.2.1.but hbt (by omega),H2.out.2.2.2.2.1.but hbt (by omega),But.below H2.out.2.2.2.2.2 hbt H2.out.2.2.2.2.2.size (by omega),fun i hi=>?_⟩
         by_cases e:i=j
         · subst e;rw [←PA.out.2.2];exact PA.out.2.1
         · exact HA.out.2.2.2.2 i (by omega)
      · have C:=hid (of_odd14 x hx64 hfx wr (HX.out.2.2.2.1.belows HA.out.2.2.2.1))
        have e30:exE xs=30:=HE.out x (by rw [hx,List.getD_eq_getElem?_getD,List.getElem?_eq_getElem (by rw [←HX.out.1];exact hj)];exact List.getElem_mem _) hfx
        have E30:=qsd e30;clear hfx hx hx64 e30
        go_wp2_with fail
        refine C.out.mono ?_;rintro r u ⟨⟨a1,c1,rfl,hN⟩,hb⟩;obtain ⟨U,hU⟩:∃ U,U=u.alloc (Obj.cells #[.bool false,.slice a1 0 c1,.int .i64 0] 81):=⟨_,rfl⟩
        have H2:Aside (Bl U w.heap.size 168 [.slice none 0 0,.bool false,.slice none 0 0,.int .i64 0]∧Below w.heap.size w U):=by
         rw [hU];have b0:=HA.out.2.2.2.1;exact ⟨(HA.out.2.2.1.below hb HA.out.2.2.1.lt).alloc _,(b0.trans (hb.mono b0.size)).trans ((below_alloc _ _).mono (Nat.le_trans b0.size hb.size))⟩
        have HU:=qsd hU;clear hU hN hb C hc
        go_upto_region 9 with fail
        rw [←HU.out];clear HU;have c0:=H2.out.1.cell 0 _ rfl;have c1:=H2.out.1.cell 1 _ rfl;have c2:=H2.out.1.cell 2 _ rfl;have c3:=H2.out.1.cell 3 _ rfl;have f0:=H2.out.1.frozen 0;have f1:=H2.out.1.frozen 1;have f2:=H2.out.1.frozen 2;have f3:=H2.out.1.frozen 3;go_wp2;have q:=(((H2.out.1.set 0 (.slice none 0 0)).set 1 (.bool false)).set 2 (.slice none 0 0)).set 3 (.int .i64 0);have g0:=q.cell 0 _ rfl;have g1:=q.cell 1 _ rfl;have g2:=q.cell 2 _ rfl;have g3:=q.cell 3 _ rfl;refine bodyPost_ret (v:=.tuple #[.agg #[.slice none 0 0,.bool false,.slice none 0 0,.int .i64 0],.int .i64 30]) (by simp [results,Tryz.results135,go_sem,g0,g1,g2,g3]) rfl ⟨.inl ⟨by rw [E30.out];decide,by rw [E30.out]⟩,?_⟩
        exact But.below H2.out.2 (((((But.refl _ _).set 0 _).set 1 _).set 2 _).set 3 _) H2.out.2.size (Nat.le_refl _)
    · obtain rfl:n=j:=by omega
      have hd:decide ((n:Int)<n)=false:=by simp
      have hall:∀ x ∈ xs,finW x:=by
       intro x hx;obtain ⟨i,hi,e⟩:=List.getElem_of_mem hx;have:=HA.out.2.2.2.2 i (by rw [HX.out.1];exact hi)
       rw [List.getD_eq_getElem?_getD,List.getElem?_eq_getElem hi] at this
       rw [←e];exact this
      have e0:exE xs=0:=by unfold exE;rw [if_neg (by have:=HL.out;have:=HX.out.1;omega),if_pos ((fiB_iff xs).2 hall)]
      have E0:=qsd e0;obtain ⟨S,hS⟩:∃ S,S=gV 1074 (sX xs):=⟨_,rfl⟩;have FS:Fm S:=by rw [hS];exact g_fm (by decide) (by decide) (sX_bd HX.out.2.2.1 hall (by have:=HL.out;have:=HX.out.1;omega) _ (Nat.le_refl _))
      have HS:=qsd hS
      have HC:Hid (∀ u:World,Below wr.heap.size wr u→Tab u→Calls Tryz.prog 183 #[.int .i64 (n:Nat),.func (.func 184) #[] #[.pointer (some ⟨w.heap.size+2,0,none⟩)]] u fun r w'=>DVal 0 w' r S∧Below u.heap.size u w'):=fun u hu hTu=>by
       have hl:=HL.out
       have:=total14_e u n (w.heap.size+2) A (fun i=>gV 1074 (tS (fX xs) i)) (by omega) hTu (fun i hi=>by rw [HX.out.2.2.2.2];exact g_fm (by decide) (by decide) (fX_bd HX.out.2.2.1 hall i (by rw [←HX.out.1];exact hi)))
        (fun i hi=>g_fm (by decide) (by decide) (sX_bd HX.out.2.2.1 hall (by have:=HX.out.1;omega) i (by rw [←HX.out.1];exact hi)))
        (fun i hi=>by rw [HX.out.2.2.2.2];exact g_add (by decide) (by decide) (sX_bd HX.out.2.2.1 hall (by have:=HX.out.1;omega) i (by rw [←HX.out.1];omega)) ((fX_bd HX.out.2.2.1 hall i (by rw [←HX.out.1];exact hi)).mono (by decide)))
        (g_zero 1074).symm (hid fun i v hi hv=>exactC14 i n (w.heap.size+2) (w.heap.size+1) A v hi (by omega) ((HA.out.2.1.below hu HA.out.2.1.lt).below hv (HA.out.2.1.below hu HA.out.2.1.lt).lt) ((HA.out.1.below hu).below hv))
       rw [hS];unfold sX;rw [←HX.out.1];exact this
      have hdr:=(Below.refl wr.heap.size wr).drew;have HT:=qsd (HX.out.2.2.2.1.belows HA.out.2.2.2.1);have BD:=(qsd (ai (HA.out.1.below hdr) (ai (HA.out.2.1.below hdr HA.out.2.1.lt) (ai (HA.out.2.2.1.below hdr HA.out.2.2.1.lt) (HA.out.2.2.2.1.trans (hdr.mono HA.out.2.2.2.1.size))))));have kS:=qsd (BD.out.2.1.cell 0 _ rfl);have hmf:∀ (fn:Fn) (first cap:Array Value) (w:World),(Instr.makeFunc fn first cap).run Tryz.prog w=.ok (.func fn first cap) w:=fun _ _ _ _=>rfl
      have FFS:=qsd FS;have C:=hid (HC.out wr.drew hdr (HT.out.belows hdr));have r0:=BD.out.2.2.1.frozen 0;have r1:=BD.out.2.2.1.frozen 1;have r2:=BD.out.2.2.1.frozen 2;have r3:=BD.out.2.2.1.frozen 3;have q0:=BD.out.2.2.1.cell 0 _ rfl;have q1:=BD.out.2.2.1.cell 1 _ rfl;have q2:=BD.out.2.2.1.cell 2 _ rfl;have q3:=BD.out.2.2.1.cell 3 _ rfl;clear hS hdr hall HC FS e0
      go_upto_region 12 with fail
      go_region_held3 (fun w'=>w'.cell? ⟨w.heap.size+2,0,none⟩=some (.slice (some ⟨w.heap.size+1,0,none⟩) n n)) (first | with_reducible exact kS.out | exact (BD.out.2.1.but (((((But.refl _ _).set 0 _).set 1 _).set 2 _).set 3 _) (by omega)).cell 0 _ rfl) (first
       | (go_at_call 183
          with_reducible refine C.out.mono ?_
          rintro r u3 ⟨hd2,hb⟩;obtain ⟨a3,c3,rfl,hN3⟩:=hd2.shape14 FFS.out;have BD:=qsd (ai (BD.out.1.below hb) (ai (BD.out.2.1.below hb BD.out.2.1.lt) (ai (BD.out.2.2.1.below hb BD.out.2.2.1.lt) (ai (BD.out.2.2.2.trans (hb.mono BD.out.2.2.2.size)) hN3))));have kS:=qsd (BD.out.2.1.cell 0 _ rfl);have r0:=BD.out.2.2.1.frozen 0;have r1:=BD.out.2.2.1.frozen 1;have r2:=BD.out.2.2.1.frozen 2;have r3:=BD.out.2.2.1.frozen 3;have q0:=BD.out.2.2.1.cell 0 _ rfl;have q1:=BD.out.2.2.1.cell 1 _ rfl;have q2:=BD.out.2.2.1.cell 2 _ rfl;have q3:=BD.out.2.2.1.cell 3 _ rfl;clear hb hd2 hN3))
      go_wp2;have qq:=(((BD.out.2.2.1.set 0 (.slice (some ⟨w.heap.size+1,0,none⟩) n n)).set 1 (.bool (dN S))).set 2 (.slice a3 (ws (dX S)).length c3)).set 3 (.int .i64 (dE S));have g0:=qq.cell 0 _ rfl;have g1:=qq.cell 1 _ rfl;have g2:=qq.cell 2 _ rfl;have g3:=qq.cell 3 _ rfl;have hbut:But w.heap.size u3 ((((u3.setCell ⟨w.heap.size,0,none⟩ (.slice (some ⟨w.heap.size+1,0,none⟩) n n)).setCell ⟨w.heap.size,1,none⟩ (.bool (dN S))).setCell ⟨w.heap.size,2,none⟩ (.slice a3 (ws (dX S)).length c3)).setCell ⟨w.heap.size,3,none⟩ (.int .i64 (dE S))):=((((But.refl _ _).set 0 _).set 1 _).set 2 _).set 3 _;refine bodyPost_ret (v:=.tuple #[.agg #[.slice (some ⟨w.heap.size+1,0,none⟩) n n,.bool (dN S),.slice a3 (ws (dX S)).length c3,.int .i64 (dE S)],.int .i64 0]) (by simp [results,Tryz.results135,go_sem,g0,g1,g2,g3]) rfl ⟨.inr ⟨E0.out,_,rfl,?_⟩,?_⟩
      rw [←HS.out,←HX.out.2.2.2.2];refine ⟨w.heap.size+1,a3,c3,rfl,?_,?_⟩
      · exact BD.out.1.but hbut BD.out.2.2.1 (by omega) (by decide)
      · exact BD.out.2.2.2.2.off hbut (BD.out.2.2.2.2.notin (by decide) BD.out.2.2.1)
      · exact But.below BD.out.2.2.2.1 hbut BD.out.2.2.2.1.size (Nat.le_refl _)
end
end Go.Proofs.YtdcggkapbkjjbaaGreatDoor
