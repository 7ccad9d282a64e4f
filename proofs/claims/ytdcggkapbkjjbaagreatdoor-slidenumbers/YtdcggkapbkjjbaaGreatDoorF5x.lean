import Derived.Test.YtdcggkapbkjjbaaGreatDoorZ9x
import Derived.Test.YtdcggkapbkjjbaaGreatDoorSL6x
import Derived.Test.YtdcggkapbkjjbaaGreatDoorS17x
import Derived.Test.YtdcggkapbkjjbaaGreatDoorP2x
import Derived.RangeFuncNested
import Derived.RangeFuncBound
import Derived.RangeFuncCalls
import Derived.RangeFuncLeaves
import Derived.RangeFuncBox
import Derived.Shelf.Abstract
import Derived.Shelf.RegionOpen
import Derived.WalkKit
import Derived.OwnWalkIn
import Derived.TacticsInMore
import Derived.LoopNIn
import Derived.LoopIn
import Derived.Test.YtdcggkapbkjjbaaGreatDoorD19x
import Derived.Deep.RegionHeld3
import Derived.Test.YtdcggkapbkjjbaaGreatDoorW24x
import Derived.Deep.CutRange
import Derived.ArgAppend
import Derived.Maps.AppendAt
import Derived.WalkMore
import Derived.OwnWalk
import Derived.Test.YtdcggkapbkjjbaaGreatDoorD15x
import Derived.Deep.RegionWith
import Derived.BigQuiet
import Derived.Deep.Cut
import Derived.Test.YtdcggkapbkjjbaaGreatDoorBIeeex
import Derived.Test.YtdcggkapbkjjbaaGreatDoorS11ax
import Derived.Deep.RegionHeld
import Derived.Deep.LoopGhost
import Derived.Test.YtdcggkapbkjjbaaGreatDoorM1x
set_option linter.unusedVariables false
set_option linter.unusedSimpArgs false
set_option maxHeartbeats 16000000
set_option maxRecDepth 20000
namespace Go.Proofs.YtdcggkapbkjjbaaGreatDoor
namespace J
end J
section
open Go.RowKit J
def kO13 (k:Nat):Nat:=if k=5 then 1 else if k=3 then 2 else if k=4 then 3 else if k=1 then 4 else if k=2 then 5 else 0
theorem m42:max (4:Int) 2=4:=by decide
theorem m32:max (3:Int) 2=3:=by decide
theorem m02:max (0:Int) 2=2:=by decide
theorem n42:min (4:Int) 2=2:=by decide
theorem n32:min (3:Int) 2=2:=by decide
theorem n02:min (0:Int) 2=0:=by decide
theorem pK_one13 {x:Nat}(hx:x<18446744073709551616):pK x 4607182418800017408=kO13 (kd x)∧(kd x≤2↔finW x):=by
 have c1:clW 4607182418800017408=2:=by decide +kernel
 have n1:ngW 4607182418800017408=false:=by decide +kernel
 have em:magW x=x%9223372036854775808:=rfl;have en:negW x=decide (9223372036854775808≤x):=rfl;unfold pK kO13;rw [c1,n1]
 rcases Nat.lt_trichotomy 9218868437227405312 (magW x) with h|h|h
 · have hk:kd x=5:=by unfold kd;rw [if_pos (by omega)]
   rw [cl_nan h,hk];refine ⟨by unfold pk;simp [m42,m32,m02,n42,n32,n02],?_⟩
   constructor
   · intro q;omega
   · intro q;exact absurd (show magW x<9218868437227405312 from q) (by omega)
 · obtain ⟨h1,h2⟩:=cl_inf h.symm
   rw [h1,h2];have hf:¬ finW x:=fun q=>absurd (show magW x<9218868437227405312 from q) (by omega)
   by_cases hs:9223372036854775808≤x
   · have hk:kd x=4:=by unfold kd;rw [if_neg (by omega),if_pos (by omega),if_pos (by omega)]
     rw [hk,en,decide_eq_true hs];refine ⟨by unfold pk;simp [m42,m32,m02,n42,n32,n02],?_⟩
     exact ⟨fun q=>by omega,fun q=>absurd q hf⟩
   · have hk:kd x=3:=by unfold kd;rw [if_neg (by omega),if_pos (by omega),if_neg (by omega)]
     rw [hk,en,decide_eq_false hs];refine ⟨by unfold pk;simp [m42,m32,m02,n42,n32,n02],?_⟩
     exact ⟨fun q=>by omega,fun q=>absurd q hf⟩
 · have fx:finW x:=h
   obtain ⟨p1,p2,p3,p4⟩:=fin_parts hx fx;rw [p1]
   by_cases h0:magW x=0
   · rw [h0,vK_zero] at p2
     have hfr:frW x=0:=by
      rcases Nat.mul_eq_zero.1 p2.symm with q|q
      · exact q
      · have:=Nat.two_pow_pos (xpW x+1074).toNat;omega
     have hc:clW x=0:=by
      rcases p4 with q|q
      · exact q.1
      · exact absurd hfr q.2
     rw [hc]
     by_cases hs:9223372036854775808≤x
     · have hk:kd x=1:=by unfold kd;rw [if_neg (by omega),if_neg (by omega),if_pos (by omega),if_pos (by omega)]
       rw [hk,en,decide_eq_true hs];exact ⟨by unfold pk;simp [m42,m32,m02,n42,n32,n02],fun _=>fx,fun _=>by omega⟩
     · have hk:kd x=2:=by unfold kd;rw [if_neg (by omega),if_neg (by omega),if_pos (by omega),if_neg (by omega)]
       rw [hk,en,decide_eq_false hs];exact ⟨by unfold pk;simp [m42,m32,m02,n42,n32,n02],fun _=>fx,fun _=>by omega⟩
   · have hk:kd x=0:=by unfold kd;rw [if_neg (by omega),if_neg (by omega),if_neg (by omega)]
     have hfr:frW x≠0:=by
      intro q;rw [q,Nat.zero_mul] at p2;have:=grid64.mono (show 0<magW x by omega)
      omega
     have hc:clW x=1∨clW x=2:=by
      rcases p4 with q|q
      · exact absurd q.2 hfr
      · exact q.1
     rw [hk];refine ⟨?_,fun _=>fx,fun _=>by omega⟩
     rcases hc with q|q
     · rw [q,show max (1:Int) 2=2 by decide,show min (1:Int) 2=1 by decide];unfold pk;simp
     · rw [q,show max (2:Int) 2=2 by decide,show min (2:Int) 2=2 by decide];unfold pk;simp
theorem kd5 (x:Nat):kd x≤5:=by unfold kd;(repeat' split) <;> omega
theorem cnt_fold13:∀ (xs:List Nat) (s:Sp),W64 xs→xs.foldl (fun s x=>s.cnt (pK x 4607182418800017408) 1) s=⟨s.n+Ps.cn 5 xs,s.u+Ps.cn 3 xs,s.d+Ps.cn 4 xs,s.m+Ps.cn 1 xs,s.p+Ps.cn 2 xs,s.a+xs.length⟩
 | [],s,_=>by simp [Ps.cn]
 | x::xs,s,h=>by
   rw [List.foldl_cons,cnt_fold13 xs _ (fun z hz=>h z (List.mem_cons_of_mem _ hz)),(pK_one13 (h x List.mem_cons_self)).1]
   have hk:=kd5 x;unfold Sp.cnt kO13 Ps.cn;simp only [List.countP_cons,List.length_cons];obtain q|q|q|q|q|q:kd x=0∨kd x=1∨kd x=2∨kd x=3∨kd x=4∨kd x=5:=by omega
   all_goals (rw [q];simp;(repeat' constructor) <;> omega)
theorem sS_cn {xs:List Nat}(h:W64 xs):sS xs=⟨(Ps.cn 5 xs:Nat),(Ps.cn 3 xs:Nat),(Ps.cn 4 xs:Nat),(Ps.cn 1 xs:Nat),(Ps.cn 2 xs:Nat),(xs.length:Nat)⟩:=by
 unfold sS;rw [cnt_fold13 xs _ h];simp
theorem vS_fold13:∀ (xs:List Nat) (v:Int),xs.foldl (fun v x=>v+pT x 4607182418800017408) v=v+vS xs
 | [],v=>by simp [vS]
 | x::xs,v=>by
   unfold vS;rw [List.foldl_cons,List.foldl_cons,vS_fold13 xs (v+_),vS_fold13 xs (0+_)];omega
theorem vS_cons (x:Nat) (xs:List Nat):vS (x::xs)=pT x 4607182418800017408+vS xs:=by
 have:=vS_fold13 xs (0+pT x 4607182418800017408);unfold vS at this ⊢;rw [List.foldl_cons,this];omega
theorem vS_fin:∀ {xs:List Nat},W64 xs→vS (Ps.fin xs)=vS xs
 | [],_=>rfl
 | x::xs,h=>by
   have ih:=vS_fin (xs:=xs) (fun z hz=>h z (List.mem_cons_of_mem _ hz))
   have hx:=h x List.mem_cons_self;unfold Ps.fin at ih ⊢
   by_cases hk:kd x≤2
   · rw [List.filter_cons_of_pos (by simpa using hk),vS_cons,vS_cons,ih]
   · rw [List.filter_cons_of_neg (by simpa using hk),vS_cons,ih,(pT_odd (x:=x) (y:=4607182418800017408) (fun q=>hk ((pK_one13 hx).2.2 q.1))).1]
     omega
theorem fin_W64 {xs:List Nat}(h:W64 xs):W64 (Ps.fin xs):=fun x hx=>h x (List.mem_filter.1 hx).1
theorem fin_all {xs:List Nat}(h:W64 xs):∀ x ∈ Ps.fin xs,finW x:=fun x hx=>(pK_one13 (h x (List.mem_filter.1 hx).1)).2.1 (by simpa using (List.mem_filter.1 hx).2)
theorem fin_count:∀ {xs:List Nat},((Ps.fin xs).length:Int)=(xs.length:Int)-(Ps.cn 5 xs:Nat)-(Ps.cn 3 xs:Nat)-(Ps.cn 4 xs:Nat)
 | []=>rfl
 | x::xs=>by
   have ih:=fin_count (xs:=xs);have hk:=kd5 x;unfold Ps.fin Ps.cn at ih ⊢;simp only [List.countP_cons,List.length_cons,List.filter_cons];obtain q|q|q|q|q|q:kd x=0∨kd x=1∨kd x=2∨kd x=3∨kd x=4∨kd x=5:=by omega
   all_goals (rw [q];simp;omega)
def sfE (pa pb:Int) (xs:List Nat):Int:=if may pa pb=false then 1 else if 65536<xs.length then 2 else Ps.rf (sS xs).n (sS xs).u (sS xs).d pa pb
end
section
open Go.RowKit J
attribute [local go_sem] st_float
noncomputable def meanR (xs:List Nat) (mode pa pb:Int):Nat×Int :=
 if askE mode=0 then
  if sfE pa pb xs=0 then
   if (vd (snd (sS xs).n (sS xs).u (sS xs).d (sS xs).m (sS xs).p (sS xs).a&&may pa pb) (sS xs).n (sS xs).u (sS xs).d pa pb).2=true then ((vd (snd (sS xs).n (sS xs).u (sS xs).d (sS xs).m (sS xs).p (sS xs).a&&may pa pb) (sS xs).n (sS xs).u (sS xs).d pa pb).1,0)
   else (bsd (levR (Ps.fin xs) (sS xs) mode).2 (levR (Ps.fin xs) (sS xs) mode).1,(levR (Ps.fin xs) (sS xs) mode).2)
  else (0,sfE pa pb xs)
 else (0,askE mode)
theorem bsd_zero (e:Int):bsd e 0=0:=by unfold bsd;split <;> rfl
end
section
open Go.RowKit J
attribute [local go_sem] st_float
abbrev ClD (f:FuncId):Prop:=∀ (gx ge x:Nat) (e:Int) (w:World),w.cell? ⟨gx,0,none⟩=some (.float .f64 x)→w.cell? ⟨ge,0,none⟩=some (.int .i64 e)→w.frozen? ⟨gx,0,none⟩=false→∀ (u:FrameMode),
 CallsD Tryz.prog f #[.pointer (some ⟨ge,0,none⟩),.pointer (some ⟨gx,0,none⟩)] u w fun r u' w'=>u'=u∧(r=.returned (.tuple #[])∧w'=w.setCell ⟨gx,0,none⟩ (.float .f64 (bsd e x)))
theorem early13 {fn:Func}{f:FuncId}{px pe:Tmp}(hres:fn.results=#[.cell px 27,.cell pe 33]) (HC:ClD f) {tmps:Array Value}{gx ge x X:Nat}{e E:Int}{w v:World}
 (b1:Bl v gx 27 [.float .f64 x]) (b2:Bl v ge 33 [.int .i64 e]) (hb:Below w.heap.size w v) (hgx:w.heap.size≤gx) (hne:ge≠gx) (hX:bsd e x=X) (hE:e=E)
 (hi:(callFunc f #[.pointer (some ⟨ge,0,none⟩),.pointer (some ⟨gx,0,none⟩)]).run Tryz.prog v=.ok (.enter f #[.pointer (some ⟨ge,0,none⟩),.pointer (some ⟨gx,0,none⟩)]) v)
 (h1:tmps.getD px undef=.pointer (some ⟨gx,0,none⟩)) (h2:tmps.getD pe undef=.pointer (some ⟨ge,0,none⟩)) :
 Leaves Tryz.prog fn tmps (fun r w'=>r=.returned (.tuple #[.float .f64 X,.int .i64 E])∧Below w.heap.size w w') [{ target:=.fn (.func f) #[.pointer (some ⟨ge,0,none⟩),.pointer (some ⟨gx,0,none⟩)],args:=#[] }] .returning v:=by
 subst hX hE;refine door13 hres hi (HC gx ge x e v (b1.cell 0 _ rfl) (b2.cell 0 _ rfl) (b1.frozen 0)) h1 h2 (b1.cell 0 _ rfl) (b2.cell 0 _ rfl) hne ?_;have kb:But gx v (v.setCell ⟨gx,0,none⟩ (.float .f64 (bsd e x))):=(But.refl gx _).set 0 _;exact ⟨rfl,But.below hb kb hb.size hgx⟩
theorem finish13 {fn:Func}{f:FuncId}{px pe:Tmp}(hres:fn.results=#[.cell px 27,.cell pe 33]) (HC:ClD f) {tmps:Array Value}{gx ge x0 x X:Nat}{e0 e E:Int}{w v:World}
 (b1:Bl v gx 27 [.float .f64 x0]) (b2:Bl v ge 33 [.int .i64 e0]) (hb:Below w.heap.size w v) (hgx:w.heap.size≤gx) (hge:w.heap.size≤ge) (hne:ge≠gx) (hX:bsd e x=X) (hE:e=E)
 (hi:∀ v:World,(callFunc f #[.pointer (some ⟨ge,0,none⟩),.pointer (some ⟨gx,0,none⟩)]).run Tryz.prog v=.ok (.enter f #[.pointer (some ⟨ge,0,none⟩),.pointer (some ⟨gx,0,none⟩)]) v)
 (h1:tmps.getD px undef=.pointer (some ⟨gx,0,none⟩)) (h2:tmps.getD pe undef=.pointer (some ⟨ge,0,none⟩)) :
 Leaves Tryz.prog fn tmps (fun r w'=>r=.returned (.tuple #[.float .f64 X,.int .i64 E])∧Below w.heap.size w w') [{ target:=.fn (.func f) #[.pointer (some ⟨ge,0,none⟩),.pointer (some ⟨gx,0,none⟩)],args:=#[] }] .returning ((v.setCell ⟨gx,0,none⟩ (.float .f64 x)).setCell ⟨ge,0,none⟩ (.int .i64 e)):=by
 have bt:But gx v (v.setCell ⟨gx,0,none⟩ (.float .f64 x)):=(But.refl _ _).set 0 _;have be:But ge (v.setCell ⟨gx,0,none⟩ (.float .f64 x)) ((v.setCell ⟨gx,0,none⟩ (.float .f64 x)).setCell ⟨ge,0,none⟩ (.int .i64 e)):=(But.refl _ _).set 0 _;have k0:=But.below hb bt hb.size hgx;exact early13 hres HC ((b1.set 0 (.float .f64 x)).but be (fun h=>hne h.symm)) ((b2.but bt hne).set 0 (.int .i64 e)) (But.below k0 be k0.size hge) hgx hne hX hE (hi _) h1 h2
theorem two13 (w:World):Bl ((w.alloc (Obj.cells #[.float .f64 0] 27)).alloc (Obj.cells #[.int .i64 0] 33)) w.heap.size 27 [.float .f64 0]∧Bl ((w.alloc (Obj.cells #[.float .f64 0] 27)).alloc (Obj.cells #[.int .i64 0] 33)) (w.heap.size+1) 33 [.int .i64 0]∧Below w.heap.size w ((w.alloc (Obj.cells #[.float .f64 0] 27)).alloc (Obj.cells #[.int .i64 0] 33)):=by
 have z2:=Bl.new (w.alloc (Obj.cells #[.float .f64 0] 27)) 33 [.int .i64 0];rw [World.size_alloc] at z2;exact ⟨(Bl.new w 27 [_]).below (bel_alloc _ _) (by simp),z2,(bel_alloc _ _).trans ((bel_alloc _ _).mono (by simp))⟩
theorem seterr13 {w v:World}{gx ge x:Nat}{e0:Int}(e:Int) (b1:Bl v gx 27 [.float .f64 x]) (b2:Bl v ge 33 [.int .i64 e0]) (hb:Below w.heap.size w v) (hge:w.heap.size≤ge) (hne:ge≠gx) :
 Bl (v.setCell ⟨ge,0,none⟩ (.int .i64 e)) gx 27 [.float .f64 x]∧Bl (v.setCell ⟨ge,0,none⟩ (.int .i64 e)) ge 33 [.int .i64 e]∧Below w.heap.size w (v.setCell ⟨ge,0,none⟩ (.int .i64 e)):=by
 have be:But ge v (v.setCell ⟨ge,0,none⟩ (.int .i64 e)):=(But.refl _ _).set 0 _;exact ⟨b1.but be (fun h=>hne h.symm),b2.set 0 _,But.below hb be hb.size hge⟩
end
section
open Go.RowKit J
attribute [local go_sem] st_float
theorem calm13 {P:Program}{c:Code}{K:Act→World→Prop}{Q:Exit→Act→World→Prop}{a:Act}{w:World}(h:c.wp P (Exit.then K (fun _ _ _=>False)) a w):c.wp P (Exit.then K Q) a w :=
 wp_mono h (fun e a w h=>by cases e <;> first | exact h | exact False.elim h)
noncomputable def qoR (ng:Bool) (X:Nat) (e:Int) (N:Nat) (mode:Int):Nat×Int:=quoR rndS ⟨ng,.bool false,X,e,dN (mkS false N 0),.bool false,dX (mkS false N 0),dE (mkS false N 0)⟩ mode
noncomputable def ofR13 (ng:Bool) (X:Nat) (e n mode:Int):Nat×Int :=
 if askE mode=0 then (if n<1∨1099511627776<n then (0,1) else (bsd (qoR ng X e n.toNat mode).2 (qoR ng X e n.toNat mode).1,(qoR ng X e n.toNat mode).2)) else (0,askE mode)
theorem Of13 (ng:Bool) (a:Option Addr) (la ca Xn:Nat) (ex n mode:Int) (w:World) (hT:Tab w) (hV:Av w (.slice a la ca) Xn) (he:-9223372036854775808≤ex∧ex≤9223372036854775807) (z:Nat×Int) (hz:ofR13 ng Xn ex n mode=z) :
 Calls Tryz.prog 40 #[.agg #[.bool ng,.slice a la ca,.int .i64 ex],.int .i64 n,.int .i64 mode] w fun r w'=>r=.returned (.tuple #[.float .f64 z.1,.int .i64 z.2])∧Below w.heap.size w w':=by
 obtain ⟨X,E⟩:=z;simp only;have hmf:∀ (fn:Fn) (first cap:Array Value) (w:World),(Instr.makeFunc fn first cap).run Tryz.prog w=.ok (.func fn first cap) w:=fun _ _ _ _=>rfl
 have HA:=hid (fun u:World=>asked13 mode u)
 unfold ofR13 at hz;obtain ⟨ea,hea⟩:∃ e,askE mode=e:=⟨_,rfl⟩;rw [hea] at HA hz;obtain ⟨W0,hW0⟩:∃ W,W=w.alloc (Obj.cells #[.bool ng,.slice a la ca,.int .i64 ex] 81):=⟨_,rfl⟩;obtain ⟨W,hWW⟩:∃ W,W=(W0.alloc (Obj.cells #[.float .f64 0] 27)).alloc (Obj.cells #[.int .i64 0] 33):=⟨_,rfl⟩;obtain ⟨gd,hgd⟩:∃ g,g=w.heap.size:=⟨_,rfl⟩;obtain ⟨gx,hgx⟩:∃ g,g=w.heap.size+1:=⟨_,rfl⟩;obtain ⟨ge,hge⟩:∃ g,g=w.heap.size+2:=⟨_,rfl⟩;have hs0:W0.heap.size=w.heap.size+1:=by rw [hW0];simp
 have HG:Aside (gx=w.heap.size+1∧ge=w.heap.size+2∧w.heap.size≤gx∧w.heap.size≤ge∧ge≠gx∧gd=w.heap.size):=⟨hgx,hge,by omega,by omega,by omega,hgd⟩
 have hb0:Below w.heap.size w W0:=by rw [hW0];exact bel_alloc _ _
 obtain ⟨B01,B02,B03⟩:=two13 W0;rw [←hWW,hs0] at B01 B02 B03;rw [←hgx] at B01;rw [show w.heap.size+1+1=ge by omega] at B02
 have hbW:Below w.heap.size w W:=hb0.trans (B03.mono (by omega))
 have BD0:Bl W gd 81 [.bool ng,.slice a la ca,.int .i64 ex]:=by
  have:Bl W0 gd 81 [.bool ng,.slice a la ca,.int .i64 ex]:=by rw [hW0,hgd];exact Bl.new _ 81 [_,_,_]
  exact this.below B03 (by omega)
 have B1:=qsd (seterr13 ea B01 B02 hbW HG.out.2.2.2.1 HG.out.2.2.2.2.1);have BD1:Aside (Bl (W.setCell ⟨ge,0,none⟩ (.int .i64 ea)) gd 81 [.bool ng,.slice a la ca,.int .i64 ex]):=BD0.but ((But.refl ge W).set 0 _) (by have:=HG.out;omega)
 have c1:=B02.cell 0 _ rfl;have f1:=B02.frozen 0;have HWW:=qsd (hWW.trans (by rw [hW0]))
 have HX:=qsd (ai hT (ai hV he));clear hT hV he hW0 hWW hea hgx hge hgd B01 B02 B03 BD0 hs0 hb0 hbW;go_enter_defers Tryz.func40,Tryz.ntmps40
 go_wp2_with fail
 rw [←HWW.out]
 try rw [show w.heap.size+1+1=ge by have:=HG.out;omega]
 try rw [show w.heap.size+2=ge by have:=HG.out;omega]
 try rw [show w.heap.size+1=gx by have:=HG.out;omega]
 try rw [show w.heap.size=gd by have:=HG.out;omega]
 clear HWW;refine (HA.out _).mono ?_;rintro r v ⟨rfl,hv⟩;rw [hv];clear hv v
 by_cases h0:ea=0
 · subst h0
   rw [if_pos rfl] at hz;obtain ⟨V,hV⟩:∃ V,V=W.setCell ⟨ge,0,none⟩ (.int .i64 0):=⟨_,rfl⟩;rw [←hV] at B1 BD1;have r1:=B1.out.2.1.cell 0 _ rfl;have r2:=B1.out.2.1.frozen 0;have HV:=qsd hV;clear hV HA
   go_upto_region 3 with fail
   rw [←HV.out];clear HV c1 f1
   by_cases hn1:n<1
   · rw [if_pos (.inl hn1)] at hz
     have HXE:=qsd (Prod.mk.inj hz);have d1:decide (n<1)=true:=decide_eq_true hn1;obtain ⟨k1,k2,k3⟩:=seterr13 1 B1.out.1 B1.out.2.1 B1.out.2.2 HG.out.2.2.2.1 HG.out.2.2.2.2.1;have K:=(qsd (ai k1 (ai k2 k3)));clear hz k1 k2 k3;go_wp2;refine early13 Tryz.results40 Of1_d K.out.1 K.out.2.1 K.out.2.2 HG.out.2.2.1 HG.out.2.2.2.2.1 ((bsd_zero _).trans HXE.out.1) HXE.out.2 (by simp [go_sem]) ?_ ?_ <;> rfl
   · have d1:decide (n<1)=false:=decide_eq_false hn1
     by_cases hn2:1099511627776<n
     · rw [if_pos (.inr hn2)] at hz
       have HXE:=qsd (Prod.mk.inj hz);obtain ⟨k1,k2,k3⟩:=seterr13 1 B1.out.1 B1.out.2.1 B1.out.2.2 HG.out.2.2.2.1 HG.out.2.2.2.2.1;have K:=(qsd (ai k1 (ai k2 k3)));clear hz k1 k2 k3;go_wp2;refine early13 Tryz.results40 Of1_d K.out.1 K.out.2.1 K.out.2.2 HG.out.2.2.1 HG.out.2.2.2.2.1 ((bsd_zero _).trans HXE.out.1) HXE.out.2 (by simp [go_sem]) ?_ ?_ <;> rfl
     · have d2:decide (1099511627776<n)=false:=decide_eq_false hn2
       rw [if_neg (by omega)] at hz
       obtain ⟨N,hN⟩:∃ N:Nat,n=(N:Int):=⟨n.toNat,by omega⟩
       subst hN;rw [Int.toNat_natCast] at hz;have hnN:N<2^41:=by omega
       have F1:=qsd (int_fm N hnN)
       have HI:Hid (∀ u:World,Tab u→Calls Tryz.prog 76 #[.int .i64 (N:Nat)] u fun r w'=>(∃ v,r=.returned (.agg #[.bool (dN (mkS false N 0)),v,.int .i64 (dE (mkS false N 0))])∧Nt u.heap.size w' v (dX (mkS false N 0)))∧Below u.heap.size u w'):=fun u hT=>by
        have:=Int_any (N:Nat) u hT (by omega) (by omega)
        rw [decide_eq_false (by omega),Int.natAbs_natCast] at this
        exact this
       obtain ⟨⟨xl,el⟩,hl⟩:∃ z,qoR ng Xn ex N mode=z:=⟨_,rfl⟩;rw [hl] at hz;have hz1:(bsd el xl,el)=(X,E):=hz;have HXE:=qsd (Prod.mk.inj hz1)
       have HR:Hid (∀ (u:World) (q:Option Addr) (cq:Nat),Tab u→Av u (.slice a la ca) Xn→Nt 0 u (.slice q (ws (dX (mkS false N 0))).length cq) (dX (mkS false N 0))→Calls Tryz.prog 75 #[.agg #[.bool ng,.slice a la ca,.int .i64 ex,.bool (dN (mkS false N 0)),.slice q (ws (dX (mkS false N 0))).length cq,.int .i64 (dE (mkS false N 0))],.int .i64 mode] u fun r w'=>r=.returned (.tuple #[.float .f64 xl,.int .i64 el])∧Below u.heap.size u w'):=fun u q cq hT n1 n2=>by
        have:=Quot11 (w:=u) (n:=ng) (m:=dN (mkS false N 0)) (X:=Xn) (Y:=dX (mkS false N 0)) (e:=ex) (f:=dE (mkS false N 0)) mode ⟨n1,n2.av (Nat.le_trans F1.out.len (by decide)),HX.out.2.2,F1.out.rng⟩ hT
        rw [show quoR rndS ⟨ng,.slice a la ca,Xn,ex,dN (mkS false N 0),.slice q (ws (dX (mkS false N 0))).length cq,dX (mkS false N 0),dE (mkS false N 0)⟩ mode=(xl,el) from hl] at this
        exact this
       obtain ⟨ow,how⟩:∃ o,mkS false N 0=o:=⟨_,rfl⟩;rw [how] at HR HI F1;clear hz hz1 hl how hnN
       go_upto_region 6 with fail
       have hdr:=(Below.refl V.heap.size V).drew;have BB:=qsd (ai (B1.out.1.drew) (ai (B1.out.2.1.drew) (ai (B1.out.2.2.trans (hdr.mono B1.out.2.2.size)) (BD1.out.drew))));clear hdr B1 BD1 r1 r2;have p0:=BB.out.2.2.2.cell 0 _ rfl;have p1:=BB.out.2.2.2.cell 1 _ rfl;have p2:=BB.out.2.2.2.cell 2 _ rfl;have hne1:ge≠gx:=HG.out.2.2.2.2.1;have hne2:gx≠ge:=fun h=>HG.out.2.2.2.2.1 h.symm
       refine calm13 ?_
       go_region_with (first
        | (go_at_call 75
           with_reducible refine (HR.out _ a2 c2 (HX.out.1.belows BB.out.2.2.1) (HX.out.2.1.below BB.out.2.2.1) Q2.out).mono ?_
           rintro r v ⟨rfl,hb⟩;have BB:=qsd (ai (BB.out.1.below hb BB.out.1.lt) (ai (BB.out.2.1.below hb BB.out.2.1.lt) (BB.out.2.2.1.trans (hb.mono BB.out.2.2.1.size))));have t1:=BB.out.1.cell 0 _ rfl;have t2:=BB.out.1.frozen 0;have t3:=BB.out.2.1.cell 0 _ rfl;have t4:=BB.out.2.1.frozen 0;clear hb p0 p1 p2)
        | (go_at_call 76
           with_reducible refine (HI.out _ (HX.out.1.belows BB.out.2.2.1)).mono ?_
           rintro r v ⟨⟨p,rfl,hN⟩,hb⟩;obtain ⟨a2,c2,rfl,hN0⟩:=Lo.shape F1.out hN;have BB:=qsd (ai (BB.out.1.below hb BB.out.1.lt) (ai (BB.out.2.1.below hb BB.out.2.1.lt) (ai (BB.out.2.2.1.trans (hb.mono BB.out.2.2.1.size)) (BB.out.2.2.2.below hb BB.out.2.2.2.lt))));have Q2:=qsd hN0;have p0:=BB.out.2.2.2.cell 0 _ rfl;have p1:=BB.out.2.2.2.cell 1 _ rfl;have p2:=BB.out.2.2.2.cell 2 _ rfl;clear hb hN hN0))
       all_goals
        clear HR HI Q2;go_wp2;refine finish13 Tryz.results40 Of1_d BB.out.1 BB.out.2.1 BB.out.2.2 HG.out.2.2.1 HG.out.2.2.2.1 HG.out.2.2.2.2.1 HXE.out.1 HXE.out.2 (fun _=>by simp [go_sem]) ?_ ?_ <;> rfl
 · rw [if_neg h0] at hz
   have HXE:=qsd (Prod.mk.inj hz);have h1:(ea==0)=false:=by simp [h0]
   clear hz HA;go_wp2;refine early13 Tryz.results40 Of1_d B1.out.1 B1.out.2.1 B1.out.2.2 HG.out.2.2.1 HG.out.2.2.2.2.1 ((bsd_zero _).trans HXE.out.1) HXE.out.2 (by simp [go_sem]) ?_ ?_ <;> rfl
end
section
open Go.RowKit J
theorem sS_bd20 {xs:List Nat}(hW:W64 xs) (hl:xs.length≤4096):(0≤(sS xs).n∧(sS xs).n≤65536)∧(0≤(sS xs).u∧(sS xs).u≤65536)∧(0≤(sS xs).d∧(sS xs).d≤65536)∧(0≤(sS xs).a∧(sS xs).a≤65536)∧(sS xs).a-(sS xs).n-(sS xs).u-(sS xs).d=((Ps.fin xs).length:Int):=by
 have h:=fin_count (xs:=xs);rw [sS_cn hW];simp only;omega
theorem rf_bad20 {s:Sp}{mode a b:Int}(h:mode<0∨4<mode):rfE20 s mode a b=1∧askE mode=1:=by
 unfold rfE20 askE;exact ⟨if_pos (by rcases h with h | h;exact .inl h;exact .inr (.inl h)),if_pos h⟩
theorem rf_good20 {xs:List Nat}{mode a b:Int}(h:¬ (mode<0∨4<mode)) (hl:xs.length≤4096):rfE20 (sS xs) mode a b=sfE a b xs∧askE mode=0:=by
 refine ⟨?_,by unfold askE;rw [if_neg h]⟩
 unfold rfE20 sfE Ps.rf;have hl2:¬ 65536<xs.length:=by omega
 by_cases hm:may a b=false
 · rw [if_pos (show mode<0∨4<mode∨may a b=false from .inr (.inr hm)),if_pos hm]
 · rw [if_neg (show ¬ (mode<0∨4<mode∨may a b=false) from by rintro (q | q | q);exact h (.inl q);exact h (.inr q);exact hm q),if_neg hm,if_neg hl2]
theorem mean_parts {xs:List Nat}(mode a b:Int) (hW:W64 xs) (hl:xs.length≤4096) :
 meanR xs mode a b=(if rfE20 (sS xs) mode a b=0 then
  (if (vd (snd (sS xs).n (sS xs).u (sS xs).d (sS xs).m (sS xs).p (sS xs).a&&may a b) (sS xs).n (sS xs).u (sS xs).d a b).2=true then ((vd (snd (sS xs).n (sS xs).u (sS xs).d (sS xs).m (sS xs).p (sS xs).a&&may a b) (sS xs).n (sS xs).u (sS xs).d a b).1,0)
   else if ((Ps.fin xs).length:Int)=0 then (0,3) else if vS xs=0 then (nt (snd (sS xs).n (sS xs).u (sS xs).d (sS xs).m (sS xs).p (sS xs).a) (sS xs).n (sS xs).u (sS xs).d (sS xs).m (sS xs).p (sS xs).a mode,0)
   else ofR13 (dN (exV (vS xs))) (dX (exV (vS xs))) (dE (exV (vS xs))) (Ps.fin xs).length mode)
  else (0,rfE20 (sS xs) mode a b)):=by
 by_cases h0:mode<0∨4<mode
 · obtain ⟨e1,e2⟩:=rf_bad20 (s:=sS xs) (a:=a) (b:=b) h0
   unfold meanR;rw [e1,e2,if_neg (show ¬ (1:Int)=0 by decide),if_neg (show ¬ (1:Int)=0 by decide)]
 · obtain ⟨e1,e2⟩:=rf_good20 (xs:=xs) (a:=a) (b:=b) h0 hl
   unfold meanR;rw [e1,e2,if_pos rfl]
   by_cases he:sfE a b xs=0
   · rw [if_pos he,if_pos he]
     split
     · rfl
     · unfold levR
       by_cases e0:Ps.fin xs=[]
       · rw [if_pos e0,if_pos (by rw [e0];rfl)];rfl
       · have hp:0<(Ps.fin xs).length:=List.length_pos_iff.2 e0
         rw [if_neg e0,vS_fin hW,if_neg (show ¬ ((Ps.fin xs).length:Int)=0 by omega)]
         by_cases v0:vS xs=0
         · rw [if_pos v0,if_pos v0];rfl
         · rw [if_neg v0,if_neg v0]
           unfold ofR13;rw [if_pos e2];have hle:(Ps.fin xs).length≤xs.length:=List.length_filter_le _ _;rw [if_neg (show ¬ (((Ps.fin xs).length:Int)<1∨1099511627776<((Ps.fin xs).length:Int)) by omega),Int.toNat_natCast]
           rfl
   · rw [if_neg he,if_neg he]
end
section
open Go.RowKit J
def Bd (m:Nat) (V:Int):Prop:=V.natAbs≤2^m
theorem Bd.mono {m k:Nat}{V:Int}(h:Bd m V) (hk:m≤k):Bd k V:=Nat.le_trans h (Nat.pow_le_pow_right (by decide) hk)
theorem Bd.lt {m:Nat}{V:Int}(h:Bd m V):V.natAbs<2^(m+1):=by
 unfold Bd at h;rw [Nat.pow_succ];have:=Nat.two_pow_pos m;omega
theorem Bd.mul {a b:Nat}{V W:Int}(h:Bd a V) (k:Bd b W):Bd (a+b) (V*W):=by
 unfold Bd at *;rw [Int.natAbs_mul,Nat.pow_add];exact Nat.mul_le_mul h k
theorem Bd.add {m:Nat}{V W:Int}(h:Bd m V) (k:Bd m W):Bd (m+1) (V+W):=by
 unfold Bd at *;rw [Nat.pow_succ];omega
theorem Bd.neg {m:Nat}{V:Int}(h:Bd m V):Bd m (-V):=by
 unfold Bd at *;rw [Int.natAbs_neg];exact h
theorem Bd.sub {m:Nat}{V W:Int}(h:Bd m V) (k:Bd m W):Bd (m+1) (V-W):=by
 rw [Int.sub_eq_add_neg];exact h.add k.neg
theorem Bd.nat {n k:Nat}(h:n≤2^k):Bd k (n:Int):=h
def gV (u:Nat) (V:Int):Option (Bool×Nat×Int):=mkS (decide (V<0)) V.natAbs (-(u:Int))
theorem g_iv {u m:Nat}{V:Int}(hu:u≤100000) (hm:m≤99999) (hV:Bd m V):Iv (gV u V) (-(u:Int)) (((m+1:Nat):Int)-(u:Int)):=by
 unfold gV;refine mkS_iv _ _ _ _ _ (.inr ⟨by omega,?_⟩) (by omega) (by omega) (by omega)
 have:=bl_lt_pow hV.lt;omega
theorem g_fm {u m:Nat}{V:Int}(hu:u≤100000) (hm:m≤99999) (hV:Bd m V):Fm (gV u V):=(g_iv hu hm hV).fm
theorem val_g {u:Nat}{V:Int}(h:Fm (gV u V)) (hu:u≤1000000) (k:Nat) (hk:k+u=EK):valO (gV u V)=V*((2^k:Nat):Int):=by
 unfold gV at h ⊢;rw [val_mk h (by omega) k (by unfold EK at hk;omega),sg1_natAbs]
theorem exK (u:Nat) (hu:u≤1000000):∃ k,k+u=EK:=⟨EK-u,by unfold EK;omega⟩
theorem g_mul {u v a b:Nat}{V W:Int}(hu:u≤50000) (hv:v≤50000) (ha:a≤40000) (hb:b≤40000) (h1:Bd a V) (h2:Bd b W):mulD (gV u V) (gV v W)=gV (u+v) (V*W):=by
 have F:=g_iv (u:=u) (by omega) (by omega) h1
 have G:=g_iv (u:=v) (by omega) (by omega) h2
 have hF:=(F.mul G (by omega) (by omega) (by omega)).fm
 have hG:=g_fm (u:=u+v) (by omega) (by omega) (h1.mul h2)
 refine valO_inj hF hG ?_;obtain ⟨k1,e1⟩:=exK u (by omega)
 obtain ⟨k2,e2⟩:=exK v (by omega)
 obtain ⟨k3,e3⟩:=exK (u+v) (by omega)
 have h:=val_mul F.fm G.fm hF;rw [val_g F.fm (by omega) k1 e1,val_g G.fm (by omega) k2 e2] at h
 rw [val_g hG (by omega) k3 e3]
 have hM:=M_pos;refine Int.eq_of_mul_eq_mul_right (a:=(MM:Int)) (by omega) (h.trans ?_)
 have e:((2^k1:Nat):Int)*((2^k2:Nat):Int)=((2^k3:Nat):Int)*(MM:Int):=by
  rw [←Int.natCast_mul,←Int.natCast_mul,M_eq,←Nat.pow_add,←Nat.pow_add,show k1+k2=k3+EK by omega]
 rw [Int.mul_assoc (V*W),←e,Int.mul_assoc,Int.mul_assoc,Int.mul_left_comm W]
theorem g_add {u m:Nat}{V W:Int}(hu:u≤100000) (hm:m≤90000) (h1:Bd m V) (h2:Bd m W):addD (gV u V) (gV u W)=gV u (V+W):=by
 have F:=g_iv (u:=u) (by omega) (by omega) h1
 have G:=g_iv (u:=u) (by omega) (by omega) h2
 have hF:=(F.add G (by omega) (by omega) (by omega)).fm
 have hG:=g_fm (u:=u) (by omega) (by omega) (h1.add h2)
 refine valO_inj hF hG ?_;obtain ⟨k1,e1⟩:=exK u (by omega)
 rw [val_add F.fm G.fm hF,val_g F.fm (by omega) k1 e1,val_g G.fm (by omega) k1 e1,val_g hG (by omega) k1 e1,Int.add_mul]
theorem g_neg (u:Nat) (W:Int):negO (gV u W)=gV u (-W):=by
 unfold gV;rw [negO_mkS,Int.natAbs_neg]
 by_cases h:W=0
 · subst h;rw [Int.natAbs_zero,mkS_zero,mkS_zero]
 · congr 1
   by_cases h1:W<0
   · rw [decide_eq_true h1,decide_eq_false (by omega)];rfl
   · rw [decide_eq_false h1,decide_eq_true (by omega)];rfl
theorem g_sub {u m:Nat}{V W:Int}(hu:u≤100000) (hm:m≤90000) (h1:Bd m V) (h2:Bd m W):addD (gV u V) (mkS (!dN (gV u W)) (dX (gV u W)) (dE (gV u W)))=gV u (V-W):=by
 rw [negO_reform (g_fm (u:=u) (by omega) (by omega) h2).sm,g_neg,g_add hu hm h1 h2.neg,←Int.sub_eq_add_neg]
def tS (f:Nat→Int):Nat→Int
 | 0=>0
 | n+1=>tS f n+f n
theorem tS_le {f:Nat→Int}{m:Nat}:∀ {n:Nat},(∀ i,i<n→Bd m (f i))→(tS f n).natAbs≤n*2^m
 | 0,_=>by simp [tS]
 | n+1,h=>by
   have h1:=tS_le (n:=n) fun i hi=>h i (by omega)
   have h2:=h n (by omega)
   unfold Bd at h2
   show (tS f n+f n).natAbs≤_
   rw [Nat.succ_mul];omega
theorem tS_bd {f:Nat→Int}{m n:Nat}(h:∀ i,i<n→Bd m (f i)) (hn:n≤65536) (k:Nat) (hk:k≤n):Bd (m+16) (tS f k):=by
 have h1:=tS_le (n:=k) fun i hi=>h i (by omega)
 have h2:k*2^m≤65536*2^m:=Nat.mul_le_mul_right _ (by omega)
 unfold Bd;rw [Nat.pow_add,Nat.mul_comm (2^m)];exact Nat.le_trans h1 h2
theorem fv_bd {x:Nat}(hx:x<18446744073709551616) (fx:finW x):Bd 2098 (fvW x):=by
 obtain ⟨m,hm⟩:∃ m,m=2098:=⟨_,rfl⟩;have h:Bd m (fvW x):=Nat.le_of_lt (top_fv hx fx m hm);rw [hm] at h;exact h
attribute [irreducible] Bd
end
section
open Go Go.RowKit J
theorem st3_bel12 {B g:Nat}{a w:World}(h:Below B a w) (hB:B≤w.heap.size) (hg:B≤g) (x y z:Value):Below B a (st3 w g x y z):=But.below h (st3_but12 g w x y z) hB hg
theorem row14d:∃ d:TypeDesc,Tryz.prog.underlying 81=some d∧d.isRow=true:=by
 have h:(Tryz.prog.underlying 81).any (·.isRow)=true:=by kernel_rfl
 cases hd:Tryz.prog.underlying 81 with
 | none=>rw [hd] at h;cases h
 | some d=>rw [hd] at h;exact ⟨d,rfl,h⟩
theorem size14d:(Tryz.prog.info? 81).map (·.size)=some 3:=by kernel_rfl
theorem result14 {fn:Func}{p:Tmp}(h:fn.results=#[.cell p 81]) (tmps:Array Value) (W:World) (g:Nat) (n:Bool) (v:Value) (e:Int) (hp:tmps.getD p undef=.pointer (some ⟨g,0,none⟩)) (hD:Dk W g n v e) :
 (results fn tmps).run Tryz.prog W=.ok (.agg #[.bool n,v,.int .i64 e]) W:=by
 obtain ⟨d,h1,h2⟩:=row14d
 cases d <;> first
  | exact results_cell_row (P:=Tryz.prog) h tmps W g 81 _ _ _ hp hD h1 rfl (by rw [size14d];rfl)
  | exact absurd h2 (by simp [TypeDesc.isRow])
theorem end14 {fn:Func}{p:Tmp}(hfn:fn.results=#[.cell p 81]) {w base:World}{tmps:Array Value}{o q:Option (Bool×Nat×Int)}{a:Option Addr}{c g:Nat}(h2:tmps.getD p undef=.pointer (some ⟨g,0,none⟩))
 (hL:Lo base g q) (hbw:Below w.heap.size w base) (hg:w.heap.size≤g) (hN:Nt 0 base (.slice a (ws (dX o)).length c) (dX o)) :
 bodyPost Tryz.prog fn (fun r w'=>DVal 0 w' r o∧Below w.heap.size w w') .ret ⟨tmps,[]⟩
  (((base.setCell ⟨g,0,none⟩ (.bool (dN o))).setCell ⟨g,1,none⟩ (.slice a (ws (dX o)).length c)).setCell ⟨g,2,none⟩ (.int .i64 (dE o))):=by
 obtain ⟨a0,c0,hD,hM⟩:=hL;exact bodyPost_ret (v:=.agg #[.bool (dN o),.slice a (ws (dX o)).length c,.int .i64 (dE o)]) (result14 hfn _ _ g _ _ _ h2 (hD.set _ _ _)) rfl ⟨⟨_,rfl,hN.off12 hD _ _ _⟩,st3_bel12 hbw hbw.size hg _ _ _⟩
theorem times14_core (w:World) (a b:Option Addr) (ca cb:Nat) (o p q:Option (Bool×Nat×Int)) (F:Fm q)
 (HC:Hid (∀ u:World,Below w.heap.size w u→Calls Tryz.prog 114 #[.agg #[.bool (dN o),.slice a (ws (dX o)).length ca,.int .i64 (dE o)],.agg #[.bool (dN p),.slice b (ws (dX p)).length cb,.int .i64 (dE p)]] u fun r w'=>(∃ v,r=.returned (.tuple #[.agg #[.bool (dN q),v,.int .i64 (dE q)],.int .i64 0])∧Nt u.heap.size w' v (dX q))∧Below u.heap.size u w')) :
 Calls Tryz.prog 116 #[.agg #[.bool (dN o),.slice a (ws (dX o)).length ca,.int .i64 (dE o)],.agg #[.bool (dN p),.slice b (ws (dX p)).length cb,.int .i64 (dE p)]] w fun r w'=>DVal 0 w' r q∧Below w.heap.size w w':=by
 obtain ⟨W,hW⟩:∃ W,W=((w.alloc (Obj.cells #[.bool (dN o),.slice a (ws (dX o)).length ca,.int .i64 (dE o)] 81)).alloc (Obj.cells #[.bool (dN p),.slice b (ws (dX p)).length cb,.int .i64 (dE p)] 81)).alloc (Obj.cells #[.bool false,.slice none 0 0,.int .i64 0] 81):=⟨_,rfl⟩
 have H0:Aside (Dk W w.heap.size (dN o) (.slice a (ws (dX o)).length ca) (dE o)∧Dk W (w.heap.size+1) (dN p) (.slice b (ws (dX p)).length cb) (dE p)∧Lo W (w.heap.size+2) o00∧Below w.heap.size w W):=by
  subst hW;have z1:=Dk.new (w.alloc (Obj.cells #[.bool (dN o),.slice a (ws (dX o)).length ca,.int .i64 (dE o)] 81)) (dN p) (.slice b (ws (dX p)).length cb) (dE p);have z2:=Lo.zero ((w.alloc (Obj.cells #[.bool (dN o),.slice a (ws (dX o)).length ca,.int .i64 (dE o)] 81)).alloc (Obj.cells #[.bool (dN p),.slice b (ws (dX p)).length cb,.int .i64 (dE p)] 81));rw [World.size_alloc] at z1;rw [World.size_alloc,World.size_alloc] at z2;exact ⟨((Dk.new _ _ _ _).below (below_alloc _ _)).below (below_alloc _ _),z1.below (below_alloc _ _),z2,((below_alloc _ _).trans ((below_alloc _ _).mono (by simp))).trans ((below_alloc _ _).mono (by simp;omega))⟩
 have HW:=qsd hW;have HC1:=hid (HC.out W H0.out.2.2.2);have FF:=qsd F;clear hW HC F;go_enter Tryz.func116,Tryz.ntmps116
 go_upto_region 1 with fail
 rw [←HW.out];clear HW;obtain ⟨x0,x1,x2,xf0,xf1,xf2⟩:=H0.out.1.facts;obtain ⟨y0,y1,y2,yf0,yf1,yf2⟩:=H0.out.2.1.facts
 go_wp2_with fail
 refine HC1.out.mono ?_;rintro r u ⟨⟨v,rfl,hN⟩,hb⟩;obtain ⟨a1,c1,rfl,hN0⟩:=Lo.shape FF.out hN;obtain ⟨U,hU⟩:∃ U,U=u.alloc (Obj.cells #[.bool (dN q),.slice a1 (ws (dX q)).length c1,.int .i64 (dE q)] 81):=⟨_,rfl⟩
 have H1:Aside (Lo U (w.heap.size+2) o00∧Dk U u.heap.size (dN q) (.slice a1 (ws (dX q)).length c1) (dE q)∧Nt 0 U (.slice a1 (ws (dX q)).length c1) (dX q)∧Below w.heap.size w U):=by
  rw [hU];have b0:=H0.out.2.2.2;exact ⟨(H0.out.2.2.1.below hb).below (below_alloc _ _),Dk.new _ _ _ _,hN0.below (below_alloc _ _),(b0.trans (hb.mono b0.size)).trans ((below_alloc _ _).mono (Nat.le_trans b0.size hb.size))⟩
 obtain ⟨gq,hgq⟩:∃ g,g=u.heap.size:=⟨_,rfl⟩;rw [←hgq] at H1;have HU:=(qsd (ai hU hgq));clear hU hN hN0 hb HC1 H0 x0 x1 x2 xf0 xf1 xf2 y0 y1 y2 yf0 yf1 yf2 hgq
 go_upto_region 2 with fail
 rw [←HU.out.1,←HU.out.2];clear HU;obtain ⟨x0,x1,x2,xf0,xf1,xf2⟩:=H1.out.2.1.facts;obtain ⟨p4,q4,D4,M4⟩:=H1.out.1;obtain ⟨y0,y1,y2,yf0,yf1,yf2⟩:=D4.facts;clear D4 M4;go_wp2;exact end14 Tryz.results116 rfl H1.out.1 H1.out.2.2.2 (by omega) H1.out.2.2.1
theorem times14 {w:World}{a b:Option Addr}{ca cb:Nat}{o p q:Option (Bool×Nat×Int)}(F:Fm o) (G:Fm p) (H:Fm q) (N1:Nt 0 w (.slice a (ws (dX o)).length ca) (dX o)) (N2:Nt 0 w (.slice b (ws (dX p)).length cb) (dX p)) (hT:Tab w) (h:mulD o p=q) :
 Calls Tryz.prog 116 #[.agg #[.bool (dN o),.slice a (ws (dX o)).length ca,.int .i64 (dE o)],.agg #[.bool (dN p),.slice b (ws (dX p)).length cb,.int .i64 (dE p)]] w fun r w'=>DVal 0 w' r q∧Below w.heap.size w w' :=
 times14_core w a b ca cb o p q H (hid fun u hu=>mulP12 F G (N1.below hu) (N2.below hu) (hT.belows hu) h H)
end
section
open Go Go.RowKit J
theorem DVal.mono14 {w:World}{r:Ending}{lo:Nat}{q:Option (Bool×Nat×Int)}(h:DVal lo w r q):DVal 0 w r q:=by
 obtain ⟨v,rfl,hN⟩:=h;exact ⟨v,rfl,hN.mono (Nat.zero_le _)⟩
theorem Int14 (n:Int) (w:World) (hT:Tab w) (h0:-9223372036854775808≤n) (h1:n≤9223372036854775807) :
 Calls Tryz.prog 76 #[.int .i64 n] w fun r w'=>DVal 0 w' r (gV 0 n)∧Below w.heap.size w w' :=
 (Int_any n w hT h0 h1).mono fun r w' h=>⟨h.1.mono14,h.2⟩
end
section
open Go Go.RowKit J
def fX (xs:List Nat) (i:Nat):Int:=fvW (xs.getD i 0)
def sX (xs:List Nat):Int:=tS (fX xs) xs.length
theorem fX_bd {xs:List Nat}(hW:W64 xs) (hf:∀ x ∈ xs,finW x) (i:Nat) (hi:i<xs.length):Bd 2098 (fX xs i):=by
 unfold fX;rw [List.getD_eq_getElem?_getD,List.getElem?_eq_getElem hi]
 exact fv_bd (hW _ (List.getElem_mem hi)) (hf _ (List.getElem_mem hi))
theorem sX_bd {xs:List Nat}(hW:W64 xs) (hf:∀ x ∈ xs,finW x) (hl:xs.length≤65536) (k:Nat) (hk:k≤xs.length):Bd 2114 (tS (fX xs) k):=tS_bd (fun i hi=>fX_bd hW hf i hi) hl k hk
end
section
open Go Go.RowKit J
def difO (o1 o2:Option (Bool×Nat×Int)):Option (Bool×Nat×Int):=if o1.isSome&&o2.isSome then addD o1 (mkS (!dN o2) (dX o2) (dE o2)) else none
def DA14 (w:World) (r:Ending) (o:Option (Bool×Nat×Int)) (e:Int):Prop:=∃ v,r=.returned (.tuple #[.agg #[.bool (dN o),v,.int .i64 (dE o)],.int .i64 e])∧Nt 0 w v (dX o)
theorem DAns.da14 {lo:Nat}{w:World}{r:Ending}{o:Option (Bool×Nat×Int)}(h:DAns lo w r o):DA14 w r o (erS o):=by
 obtain ⟨v,rfl,hN⟩:=h;exact ⟨v,rfl,hN.mono (Nat.zero_le _)⟩
theorem Nt.shp14 {w:World}{v:Value}{X:Nat}(h:Nt 0 w v X):∃ a c,v=.slice a (ws X).length c∧Nt 0 w (.slice a (ws X).length c) X:=by
 obtain ⟨a,c,rfl,-⟩:=h.shape;exact ⟨a,c,rfl,h⟩
theorem DA14.shp14 {w:World}{r:Ending}{o:Option (Bool×Nat×Int)}{e:Int}(h:DA14 w r o e):∃ a c,r=.returned (.tuple #[.agg #[.bool (dN o),.slice a (ws (dX o)).length c,.int .i64 (dE o)],.int .i64 e])∧Nt 0 w (.slice a (ws (dX o)).length c) (dX o):=by
 obtain ⟨v,rfl,hN⟩:=h;obtain ⟨a,c,rfl,hN⟩:=hN.shp14;exact ⟨a,c,rfl,hN⟩
theorem DVal.shp14 {lo:Nat}{w:World}{r:Ending}{o:Option (Bool×Nat×Int)}(h:DVal lo w r o):∃ a c,r=.returned (.agg #[.bool (dN o),.slice a (ws (dX o)).length c,.int .i64 (dE o)])∧Nt 0 w (.slice a (ws (dX o)).length c) (dX o):=by
 obtain ⟨v,rfl,hN⟩:=h.mono14;obtain ⟨a,c,rfl,hN⟩:=hN.shp14;exact ⟨a,c,rfl,hN⟩
theorem addW14 (W:World):Below W.heap.size W (W.alloc (Obj.cells #[.bool false,.slice none 0 0,.int .i64 0] 81)).drew:=(below_alloc W (Obj.cells #[.bool false,.slice none 0 0,.int .i64 0] 81)).trans (((Below.refl (W.alloc (Obj.cells #[.bool false,.slice none 0 0,.int .i64 0] 81)).heap.size (W.alloc (Obj.cells #[.bool false,.slice none 0 0,.int .i64 0] 81))).drew).mono (by simp))
theorem zerW14 (W:World):Lo (W.alloc (Obj.cells #[.bool false,.slice none 0 0,.int .i64 0] 81)).drew W.heap.size o00:=(Lo.zero W).below (Below.refl _ _).drew
theorem erS_some {o:Option (Bool×Nat×Int)}(h:o.isSome=true):erS o=0:=by unfold erS;rw [h];rfl
theorem erS_none {o:Option (Bool×Nat×Int)}(h:o.isSome=false):erS o=2:=by unfold erS;rw [h];rfl
structure Bx14 (w u:World) (np ns nt:Bool) (ap az at':Option Addr) (lp cp ls cs lt ct:Nat) (ep es et:Int):Prop where
 p:Dk u w.heap.size np (.slice ap lp cp) ep
 s:Dk u (w.heap.size+1) ns (.slice az ls cs) es
 t:Dk u (w.heap.size+2) nt (.slice at' lt ct) et
 z:Lo u (w.heap.size+3) o00
 b:Below w.heap.size w u
theorem Bx14.below {w u v:World}{np ns nt:Bool}{ap az at':Option Addr}{lp cp ls cs lt ct:Nat}{ep es et:Int}(h:Bx14 w u np ns nt ap az at' lp cp ls cs lt ct ep es et) (hb:Below u.heap.size u v):Bx14 w v np ns nt ap az at' lp cp ls cs lt ct ep es et :=
 ⟨h.p.below hb,h.s.below hb,h.t.below hb,h.z.below hb,h.b.trans (hb.mono h.b.size)⟩
theorem Bx14.other {w u:World}{np ns nt:Bool}{ap az at':Option Addr}{lp cp ls cs lt ct g:Nat}{ep es et:Int}{q:Option (Bool×Nat×Int)}(h:Bx14 w u np ns nt ap az at' lp cp ls cs lt ct ep es et) (hL:Lo u g q) (hg:w.heap.size+3<g) (x y z:Value):Bx14 w (st3 u g x y z) np ns nt ap az at' lp cp ls cs lt ct ep es et :=
 ⟨h.p.other g (by omega) _ _ _,h.s.other g (by omega) _ _ _,h.t.other g (by omega) _ _ _,h.z.other hL (by omega) _ _ _,st3_bel12 h.b h.b.size (by omega) _ _ _⟩
theorem dif_no1 (w:World) (n:Int) (np ns nt:Bool) (ap az at':Option Addr) (lp cp ls cs lt ct:Nat) (ep es et:Int) (oI o1 o2:Option (Bool×Nat×Int)) (e1 e2:Int)
 (HI:Hid (∀ u:World,Below w.heap.size w u→Calls Tryz.prog 76 #[.int .i64 n] u fun r w'=>DVal 0 w' r oI∧Below u.heap.size u w'))
 (HM1:Hid (∀ (u:World) (a:Option Addr) (c:Nat),Below w.heap.size w u→Nt 0 u (.slice a (ws (dX oI)).length c) (dX oI)→Calls Tryz.prog 114 #[.agg #[.bool (dN oI),.slice a (ws (dX oI)).length c,.int .i64 (dE oI)],.agg #[.bool np,.slice ap lp cp,.int .i64 ep]] u fun r w'=>DA14 w' r o1 e1∧Below u.heap.size u w')) (x1:(e1==0)=false) :
 Calls Tryz.prog 79 #[.int .i64 n,.agg #[.bool np,.slice ap lp cp,.int .i64 ep],.agg #[.bool ns,.slice az ls cs,.int .i64 es],.agg #[.bool nt,.slice at' lt ct,.int .i64 et]] w fun r w'=>DA14 w' r (none:Option (Bool×Nat×Int)) e1∧Below w.heap.size w w':=by
 obtain ⟨W,hW⟩:∃ W,W=(((w.alloc (Obj.cells #[.bool np,.slice ap lp cp,.int .i64 ep] 81)).alloc (Obj.cells #[.bool ns,.slice az ls cs,.int .i64 es] 81)).alloc (Obj.cells #[.bool nt,.slice at' lt ct,.int .i64 et] 81)).alloc (Obj.cells #[.bool false,.slice none 0 0,.int .i64 0] 81):=⟨_,rfl⟩
 have H0:Aside (Bx14 w W np ns nt ap az at' lp cp ls cs lt ct ep es et):=by
  subst hW;have z1:=Dk.new (w.alloc (Obj.cells #[.bool np,.slice ap lp cp,.int .i64 ep] 81)) ns (.slice az ls cs) es;have z2:=Dk.new ((w.alloc (Obj.cells #[.bool np,.slice ap lp cp,.int .i64 ep] 81)).alloc (Obj.cells #[.bool ns,.slice az ls cs,.int .i64 es] 81)) nt (.slice at' lt ct) et;have z3:=Lo.zero (((w.alloc (Obj.cells #[.bool np,.slice ap lp cp,.int .i64 ep] 81)).alloc (Obj.cells #[.bool ns,.slice az ls cs,.int .i64 es] 81)).alloc (Obj.cells #[.bool nt,.slice at' lt ct,.int .i64 et] 81));rw [World.size_alloc] at z1;rw [World.size_alloc,World.size_alloc] at z2;rw [World.size_alloc,World.size_alloc,World.size_alloc] at z3;exact ⟨(((Dk.new _ _ _ _).below (below_alloc _ _)).below (below_alloc _ _)).below (below_alloc _ _),(z1.below (below_alloc _ _)).below (below_alloc _ _),z2.below (below_alloc _ _),z3,(((below_alloc _ _).trans ((below_alloc _ _).mono (by simp))).trans ((below_alloc _ _).mono (by simp;omega))).trans ((below_alloc _ _).mono (by simp;omega))⟩
 have HW:=qsd hW;clear hW;go_enter Tryz.func79,Tryz.ntmps79
 go_upto_region 1 with fail
 rw [←HW.out];clear HW
 go_cut [10,11] from 13 to 19 (fun q e wx=>∃ gq:Nat,q=.pointer (some ⟨gq,0,none⟩)∧e=.int .i64 e1∧Aside (Lo wx gq o1∧Bx14 w wx np ns nt ap az at' lp cp ls cs lt ct ep es et∧w.heap.size+3<gq))
 case first =>
  have hdr:=(Below.refl W.heap.size W).drew;have BB:=qsd (H0.out.below hdr);have BZ:=qsd (ai (H0.out.below (addW14 W)) (zerW14 W));have k0:=BB.out.p.facts;have kS:=qsd (ai k0.1 (ai k0.2.1 k0.2.2.1));have h3l:=H0.out.z.lt;clear hdr k0
  go_region_held3 (fun w'=>w'.cell? ⟨w.heap.size,0,none⟩=some (.bool np)∧w'.cell? ⟨w.heap.size,1,none⟩=some (.slice ap lp cp)∧w'.cell? ⟨w.heap.size,2,none⟩=some (.int .i64 ep)) (first | with_reducible exact kS.out | with_reducible exact ⟨BZ.out.1.p.facts.1,BZ.out.1.p.facts.2.1,BZ.out.1.p.facts.2.2.1⟩ | with_reducible exact ⟨kZ.out.facts.1,kZ.out.facts.2.1,kZ.out.facts.2.2.1⟩ | with_reducible exact kT.out | with_reducible exact ⟨kM.out.facts.1,kM.out.facts.2.1,kM.out.facts.2.2.1⟩ | with_reducible exact ⟨kN.out.facts.1,kN.out.facts.2.1,kN.out.facts.2.2.1⟩) (first
   | (go_at_call 76
      with_reducible refine (HI.out _ BB.out.b).mono ?_
      rintro r u1 ⟨hd,hb⟩;obtain ⟨a3,c3,rfl,hN3⟩:=hd.shp14;have BC:=qsd (ai (BB.out.below hb) hN3);have kS:=qsd (ai BC.out.1.p.facts.1 (ai BC.out.1.p.facts.2.1 BC.out.1.p.facts.2.2.1));have kZ:=qsd (BC.out.1.p.below (below_alloc u1 (Obj.cells #[.bool false,.slice none 0 0,.int .i64 0] 81)));have h4l:=BC.out.1.z.lt;clear hb hd hN3)
   | (go_at_call 76
      with_reducible refine (HI.out _ BZ.out.1.b).mono ?_
      rintro r u1 ⟨hd,hb⟩;obtain ⟨a3,c3,rfl,hN3⟩:=hd.shp14;have BC:=qsd (ai (BZ.out.1.below hb) hN3);have ZB:=qsd (BZ.out.2.below hb);have kS:=qsd (ai BC.out.1.p.facts.1 (ai BC.out.1.p.facts.2.1 BC.out.1.p.facts.2.2.1));clear hb hd hN3)
   | (go_at_call 114
      with_reducible refine (HM1.out _ a3 c3 BC.out.1.b BC.out.2).mono ?_
      rintro r u2 ⟨hd,hb⟩;obtain ⟨a4,c4,rfl,hN4⟩:=hd.shp14;have BE:=qsd (ai (BC.out.1.below hb) hN4);have kS:=qsd (ai BE.out.1.p.facts.1 (ai BE.out.1.p.facts.2.1 BE.out.1.p.facts.2.2.1));have kZ:=qsd (BE.out.1.p.below (below_alloc u2 (Obj.cells #[.bool false,.slice none 0 0,.int .i64 0] 81)));have kM:=qsd (BE.out.1.p.below (below_alloc u2 (Obj.cells #[.bool (dN o1),.slice a4 (ws (dX o1)).length c4,.int .i64 (dE o1)] 81)));have kN:=qsd ((BE.out.1.p.below (below_alloc u2 (Obj.cells #[.bool false,.slice none 0 0,.int .i64 0] 81))).other u2.heap.size (by have:=BE.out.1.z.lt;omega) (.bool (dN o1)) (.slice a4 (ws (dX o1)).length c4) (.int .i64 (dE o1)))
      try have ZB:=qsd (ZB.out.below hb)
      try have kT:=qsd (show _ from (ai (BE.out.1.p.other _ (show w.heap.size≠W.heap.size by omega) (.bool (dN o1)) (.slice a4 (ws (dX o1)).length c4) (.int .i64 (dE o1))).facts.1 (ai (BE.out.1.p.other _ (show w.heap.size≠W.heap.size by omega) (.bool (dN o1)) (.slice a4 (ws (dX o1)).length c4) (.int .i64 (dE o1))).facts.2.1 (BE.out.1.p.other _ (show w.heap.size≠W.heap.size by omega) (.bool (dN o1)) (.slice a4 (ws (dX o1)).length c4) (.int .i64 (dE o1))).facts.2.2.1)))
      try (obtain ⟨zp,zq,DZ,MZ⟩:=ZB.out;obtain ⟨z0,z1,z2,zf0,zf1,zf2⟩:=DZ.facts;clear DZ MZ)
      clear hb hd hN4)
   | (go_at_call 114
      with_reducible refine (HM1.out _ a3 c3 (BC.out.1.below (below_alloc u1 (Obj.cells #[.bool false,.slice none 0 0,.int .i64 0] 81))).b (BC.out.2.below (below_alloc u1 (Obj.cells #[.bool false,.slice none 0 0,.int .i64 0] 81)))).mono ?_
      rintro r u2 ⟨hd,hb⟩;obtain ⟨a4,c4,rfl,hN4⟩:=hd.shp14;have BE:=qsd (ai ((BC.out.1.below (below_alloc u1 (Obj.cells #[.bool false,.slice none 0 0,.int .i64 0] 81))).below hb) hN4);have ZC:=qsd ((Lo.zero u1).below hb);have kS:=qsd (ai BE.out.1.p.facts.1 (ai BE.out.1.p.facts.2.1 BE.out.1.p.facts.2.2.1));have kT:=qsd (ai (BE.out.1.p.other _ (show w.heap.size≠u1.heap.size by omega) (.bool (dN o1)) (.slice a4 (ws (dX o1)).length c4) (.int .i64 (dE o1))).facts.1 (ai (BE.out.1.p.other _ (show w.heap.size≠u1.heap.size by omega) (.bool (dN o1)) (.slice a4 (ws (dX o1)).length c4) (.int .i64 (dE o1))).facts.2.1 (BE.out.1.p.other _ (show w.heap.size≠u1.heap.size by omega) (.bool (dN o1)) (.slice a4 (ws (dX o1)).length c4) (.int .i64 (dE o1))).facts.2.2.1))
      obtain ⟨zp,zq,DZ,MZ⟩:=ZC.out;obtain ⟨z0,z1,z2,zf0,zf1,zf2⟩:=DZ.facts;clear hb hd hN4 DZ MZ))
  all_goals
   go_wp2_with fail
   go_meet
   case rel =>
    first
     | exact ⟨u2.heap.size,rfl,rfl,Lo.new BE.out.2,BE.out.1.below (below_alloc _ _),BE.out.1.z.lt⟩
     | exact ⟨u2.heap.size,rfl,rfl,(Lo.zero u2).set (BE.out.2.below (below_alloc _ _)),(BE.out.1.below (below_alloc _ _)).other (Lo.zero u2) BE.out.1.z.lt _ _ _,BE.out.1.z.lt⟩
     | exact ⟨W.heap.size,rfl,rfl,ZB.out.set BE.out.2,BE.out.1.other ZB.out h3l _ _ _,h3l⟩
     | exact ⟨u1.heap.size,rfl,rfl,ZC.out.set BE.out.2,BE.out.1.other ZC.out h4l _ _ _,h4l⟩
 obtain ⟨gq,rfl,rfl,K1⟩:=hcut;obtain ⟨U,hU⟩:∃ U,U=wc:=⟨_,rfl⟩;rw [←hU] at K1 ⊢;clear hU H0;obtain ⟨p4,q4,D4,M4⟩:=K1.out.2.1.z;obtain ⟨y0,y1,y2,yf0,yf1,yf2⟩:=D4.facts;have HE:=qsd (ai (D4.set false (.slice none 0 0) 0) (st3_bel12 K1.out.2.1.b K1.out.2.1.b.size (show w.heap.size≤w.heap.size+3 by omega) (.bool false) (.slice none 0 0) (.int .i64 0)))
 unfold st3 at HE;clear D4 M4;go_wp2;obtain ⟨f0,f1,f2,_,_,_⟩:=HE.out.1.facts;exact bodyPost_ret (v:=.tuple #[.agg #[.bool false,.slice none 0 0,.int .i64 0],.int .i64 e1]) (by simp [results,Tryz.results79,go_sem,f0,f1,f2]) rfl ⟨⟨_,rfl,Nt.nil _ _⟩,HE.out.2⟩
end
section
open Go Go.RowKit J
theorem dif_no2 (w:World) (n:Int) (np ns nt:Bool) (ap az at':Option Addr) (lp cp ls cs lt ct:Nat) (ep es et:Int) (oI o1 o2:Option (Bool×Nat×Int)) (e1 e2:Int)
 (HI:Hid (∀ u:World,Below w.heap.size w u→Calls Tryz.prog 76 #[.int .i64 n] u fun r w'=>DVal 0 w' r oI∧Below u.heap.size u w'))
 (HM1:Hid (∀ (u:World) (a:Option Addr) (c:Nat),Below w.heap.size w u→Nt 0 u (.slice a (ws (dX oI)).length c) (dX oI)→Calls Tryz.prog 114 #[.agg #[.bool (dN oI),.slice a (ws (dX oI)).length c,.int .i64 (dE oI)],.agg #[.bool np,.slice ap lp cp,.int .i64 ep]] u fun r w'=>DA14 w' r o1 e1∧Below u.heap.size u w'))
 (HM2:Hid (∀ u:World,Below w.heap.size w u→Calls Tryz.prog 114 #[.agg #[.bool ns,.slice az ls cs,.int .i64 es],.agg #[.bool nt,.slice at' lt ct,.int .i64 et]] u fun r w'=>DA14 w' r o2 e2∧Below u.heap.size u w')) (x1:e1=0) (x2:(e2==0)=false) :
 Calls Tryz.prog 79 #[.int .i64 n,.agg #[.bool np,.slice ap lp cp,.int .i64 ep],.agg #[.bool ns,.slice az ls cs,.int .i64 es],.agg #[.bool nt,.slice at' lt ct,.int .i64 et]] w fun r w'=>DA14 w' r (none:Option (Bool×Nat×Int)) e2∧Below w.heap.size w w':=by
 obtain ⟨W,hW⟩:∃ W,W=(((w.alloc (Obj.cells #[.bool np,.slice ap lp cp,.int .i64 ep] 81)).alloc (Obj.cells #[.bool ns,.slice az ls cs,.int .i64 es] 81)).alloc (Obj.cells #[.bool nt,.slice at' lt ct,.int .i64 et] 81)).alloc (Obj.cells #[.bool false,.slice none 0 0,.int .i64 0] 81):=⟨_,rfl⟩
 have H0:Aside (Bx14 w W np ns nt ap az at' lp cp ls cs lt ct ep es et):=by
  subst hW;have z1:=Dk.new (w.alloc (Obj.cells #[.bool np,.slice ap lp cp,.int .i64 ep] 81)) ns (.slice az ls cs) es;have z2:=Dk.new ((w.alloc (Obj.cells #[.bool np,.slice ap lp cp,.int .i64 ep] 81)).alloc (Obj.cells #[.bool ns,.slice az ls cs,.int .i64 es] 81)) nt (.slice at' lt ct) et;have z3:=Lo.zero (((w.alloc (Obj.cells #[.bool np,.slice ap lp cp,.int .i64 ep] 81)).alloc (Obj.cells #[.bool ns,.slice az ls cs,.int .i64 es] 81)).alloc (Obj.cells #[.bool nt,.slice at' lt ct,.int .i64 et] 81));rw [World.size_alloc] at z1;rw [World.size_alloc,World.size_alloc] at z2;rw [World.size_alloc,World.size_alloc,World.size_alloc] at z3;exact ⟨(((Dk.new _ _ _ _).below (below_alloc _ _)).below (below_alloc _ _)).below (below_alloc _ _),(z1.below (below_alloc _ _)).below (below_alloc _ _),z2.below (below_alloc _ _),z3,(((below_alloc _ _).trans ((below_alloc _ _).mono (by simp))).trans ((below_alloc _ _).mono (by simp;omega))).trans ((below_alloc _ _).mono (by simp;omega))⟩
 have HW:=qsd hW;clear hW;subst x1;go_enter Tryz.func79,Tryz.ntmps79
 go_upto_region 1 with fail
 rw [←HW.out];clear HW
 go_cut [10,11] from 13 to 19 (fun q e wx=>∃ gq:Nat,q=.pointer (some ⟨gq,0,none⟩)∧e=.int .i64 0∧Aside (Lo wx gq o1∧Bx14 w wx np ns nt ap az at' lp cp ls cs lt ct ep es et∧w.heap.size+3<gq))
 case first =>
  have hdr:=(Below.refl W.heap.size W).drew;have BB:=qsd (H0.out.below hdr);have BZ:=qsd (ai (H0.out.below (addW14 W)) (zerW14 W));have k0:=BB.out.p.facts;have kS:=qsd (ai k0.1 (ai k0.2.1 k0.2.2.1));have h3l:=H0.out.z.lt;clear hdr k0
  go_region_held3 (fun w'=>w'.cell? ⟨w.heap.size,0,none⟩=some (.bool np)∧w'.cell? ⟨w.heap.size,1,none⟩=some (.slice ap lp cp)∧w'.cell? ⟨w.heap.size,2,none⟩=some (.int .i64 ep)) (first | with_reducible exact kS.out | with_reducible exact ⟨BZ.out.1.p.facts.1,BZ.out.1.p.facts.2.1,BZ.out.1.p.facts.2.2.1⟩ | with_reducible exact ⟨kZ.out.facts.1,kZ.out.facts.2.1,kZ.out.facts.2.2.1⟩ | with_reducible exact kT.out | with_reducible exact ⟨kM.out.facts.1,kM.out.facts.2.1,kM.out.facts.2.2.1⟩ | with_reducible exact ⟨kN.out.facts.1,kN.out.facts.2.1,kN.out.facts.2.2.1⟩) (first
   | (go_at_call 76
      with_reducible refine (HI.out _ BB.out.b).mono ?_
      rintro r u1 ⟨hd,hb⟩;obtain ⟨a3,c3,rfl,hN3⟩:=hd.shp14;have BC:=qsd (ai (BB.out.below hb) hN3);have kS:=qsd (ai BC.out.1.p.facts.1 (ai BC.out.1.p.facts.2.1 BC.out.1.p.facts.2.2.1));have kZ:=qsd (BC.out.1.p.below (below_alloc u1 (Obj.cells #[.bool false,.slice none 0 0,.int .i64 0] 81)));have h4l:=BC.out.1.z.lt;clear hb hd hN3)
   | (go_at_call 76
      with_reducible refine (HI.out _ BZ.out.1.b).mono ?_
      rintro r u1 ⟨hd,hb⟩;obtain ⟨a3,c3,rfl,hN3⟩:=hd.shp14;have BC:=qsd (ai (BZ.out.1.below hb) hN3);have ZB:=qsd (BZ.out.2.below hb);have kS:=qsd (ai BC.out.1.p.facts.1 (ai BC.out.1.p.facts.2.1 BC.out.1.p.facts.2.2.1));clear hb hd hN3)
   | (go_at_call 114
      with_reducible refine (HM1.out _ a3 c3 BC.out.1.b BC.out.2).mono ?_
      rintro r u2 ⟨hd,hb⟩;obtain ⟨a4,c4,rfl,hN4⟩:=hd.shp14;have BE:=qsd (ai (BC.out.1.below hb) hN4);have kS:=qsd (ai BE.out.1.p.facts.1 (ai BE.out.1.p.facts.2.1 BE.out.1.p.facts.2.2.1));have kZ:=qsd (BE.out.1.p.below (below_alloc u2 (Obj.cells #[.bool false,.slice none 0 0,.int .i64 0] 81)));have kM:=qsd (BE.out.1.p.below (below_alloc u2 (Obj.cells #[.bool (dN o1),.slice a4 (ws (dX o1)).length c4,.int .i64 (dE o1)] 81)));have kN:=qsd ((BE.out.1.p.below (below_alloc u2 (Obj.cells #[.bool false,.slice none 0 0,.int .i64 0] 81))).other u2.heap.size (by have:=BE.out.1.z.lt;omega) (.bool (dN o1)) (.slice a4 (ws (dX o1)).length c4) (.int .i64 (dE o1)))
      try have ZB:=qsd (ZB.out.below hb)
      try have kT:=qsd (show _ from (ai (BE.out.1.p.other _ (show w.heap.size≠W.heap.size by omega) (.bool (dN o1)) (.slice a4 (ws (dX o1)).length c4) (.int .i64 (dE o1))).facts.1 (ai (BE.out.1.p.other _ (show w.heap.size≠W.heap.size by omega) (.bool (dN o1)) (.slice a4 (ws (dX o1)).length c4) (.int .i64 (dE o1))).facts.2.1 (BE.out.1.p.other _ (show w.heap.size≠W.heap.size by omega) (.bool (dN o1)) (.slice a4 (ws (dX o1)).length c4) (.int .i64 (dE o1))).facts.2.2.1)))
      try (obtain ⟨zp,zq,DZ,MZ⟩:=ZB.out;obtain ⟨z0,z1,z2,zf0,zf1,zf2⟩:=DZ.facts;clear DZ MZ)
      clear hb hd hN4)
   | (go_at_call 114
      with_reducible refine (HM1.out _ a3 c3 (BC.out.1.below (below_alloc u1 (Obj.cells #[.bool false,.slice none 0 0,.int .i64 0] 81))).b (BC.out.2.below (below_alloc u1 (Obj.cells #[.bool false,.slice none 0 0,.int .i64 0] 81)))).mono ?_
      rintro r u2 ⟨hd,hb⟩;obtain ⟨a4,c4,rfl,hN4⟩:=hd.shp14;have BE:=qsd (ai ((BC.out.1.below (below_alloc u1 (Obj.cells #[.bool false,.slice none 0 0,.int .i64 0] 81))).below hb) hN4);have ZC:=qsd ((Lo.zero u1).below hb);have kS:=qsd (ai BE.out.1.p.facts.1 (ai BE.out.1.p.facts.2.1 BE.out.1.p.facts.2.2.1));have kT:=qsd (ai (BE.out.1.p.other _ (show w.heap.size≠u1.heap.size by omega) (.bool (dN o1)) (.slice a4 (ws (dX o1)).length c4) (.int .i64 (dE o1))).facts.1 (ai (BE.out.1.p.other _ (show w.heap.size≠u1.heap.size by omega) (.bool (dN o1)) (.slice a4 (ws (dX o1)).length c4) (.int .i64 (dE o1))).facts.2.1 (BE.out.1.p.other _ (show w.heap.size≠u1.heap.size by omega) (.bool (dN o1)) (.slice a4 (ws (dX o1)).length c4) (.int .i64 (dE o1))).facts.2.2.1))
      obtain ⟨zp,zq,DZ,MZ⟩:=ZC.out;obtain ⟨z0,z1,z2,zf0,zf1,zf2⟩:=DZ.facts;clear hb hd hN4 DZ MZ))
  all_goals
   go_wp2_with fail
   go_meet
   case rel =>
    first
     | exact ⟨u2.heap.size,rfl,rfl,Lo.new BE.out.2,BE.out.1.below (below_alloc _ _),BE.out.1.z.lt⟩
     | exact ⟨u2.heap.size,rfl,rfl,(Lo.zero u2).set (BE.out.2.below (below_alloc _ _)),(BE.out.1.below (below_alloc _ _)).other (Lo.zero u2) BE.out.1.z.lt _ _ _,BE.out.1.z.lt⟩
     | exact ⟨W.heap.size,rfl,rfl,ZB.out.set BE.out.2,BE.out.1.other ZB.out h3l _ _ _,h3l⟩
     | exact ⟨u1.heap.size,rfl,rfl,ZC.out.set BE.out.2,BE.out.1.other ZC.out h4l _ _ _,h4l⟩
 obtain ⟨gq,rfl,rfl,K1⟩:=hcut;obtain ⟨U,hU⟩:∃ U,U=wc:=⟨_,rfl⟩;rw [←hU] at K1 ⊢;clear hU H0
 go_upto_region 4 with fail
 obtain ⟨x0,x1,x2,xf0,xf1,xf2⟩:=K1.out.2.1.s.facts;obtain ⟨y0,y1,y2,yf0,yf1,yf2⟩:=K1.out.2.1.t.facts;have C:=hid (HM2.out U K1.out.2.1.b)
 go_wp2_with fail
 refine C.out.mono ?_;rintro r u3 ⟨hd,hb⟩;obtain ⟨a5,c5,rfl,hN5⟩:=hd.shp14;obtain ⟨V,hV⟩:∃ V,V=u3.alloc (Obj.cells #[.bool (dN o2),.slice a5 (ws (dX o2)).length c5,.int .i64 (dE o2)] 81):=⟨_,rfl⟩;obtain ⟨gr,hgr⟩:∃ g,g=u3.heap.size:=⟨_,rfl⟩
 have K2:Aside (Lo V gq o1∧Bx14 w V np ns nt ap az at' lp cp ls cs lt ct ep es et∧Lo V gr o2):=by
  rw [hV,hgr];exact ⟨(K1.out.1.below hb).below (below_alloc _ _),(K1.out.2.1.below hb).below (below_alloc _ _),Lo.new hN5⟩
 have HV:=(qsd (ai hV hgr));clear hV hgr hb hd hN5 C x0 x1 x2 xf0 xf1 xf2 y0 y1 y2 yf0 yf1 yf2 K1
 go_upto_region 5 with fail
 rw [←HV.out.1,←HV.out.2];clear HV;obtain ⟨p4,q4,D4,M4⟩:=K2.out.2.1.z;obtain ⟨y0,y1,y2,yf0,yf1,yf2⟩:=D4.facts;have HE:=qsd (ai (D4.set false (.slice none 0 0) 0) (st3_bel12 K2.out.2.1.b K2.out.2.1.b.size (show w.heap.size≤w.heap.size+3 by omega) (.bool false) (.slice none 0 0) (.int .i64 0)))
 unfold st3 at HE;clear D4 M4;go_wp2;obtain ⟨f0,f1,f2,_,_,_⟩:=HE.out.1.facts;exact bodyPost_ret (v:=.tuple #[.agg #[.bool false,.slice none 0 0,.int .i64 0],.int .i64 e2]) (by simp [results,Tryz.results79,go_sem,f0,f1,f2]) rfl ⟨⟨_,rfl,Nt.nil _ _⟩,HE.out.2⟩
end
section
open Go Go.RowKit J
theorem dif_ok (w:World) (n:Int) (np ns nt:Bool) (ap az at':Option Addr) (lp cp ls cs lt ct:Nat) (ep es et:Int) (oI o1 o2 o3:Option (Bool×Nat×Int)) (e1 e2 e3:Int)
 (HI:Hid (∀ u:World,Below w.heap.size w u→Calls Tryz.prog 76 #[.int .i64 n] u fun r w'=>DVal 0 w' r oI∧Below u.heap.size u w'))
 (HM1:Hid (∀ (u:World) (a:Option Addr) (c:Nat),Below w.heap.size w u→Nt 0 u (.slice a (ws (dX oI)).length c) (dX oI)→Calls Tryz.prog 114 #[.agg #[.bool (dN oI),.slice a (ws (dX oI)).length c,.int .i64 (dE oI)],.agg #[.bool np,.slice ap lp cp,.int .i64 ep]] u fun r w'=>DA14 w' r o1 e1∧Below u.heap.size u w'))
 (HM2:Hid (∀ u:World,Below w.heap.size w u→Calls Tryz.prog 114 #[.agg #[.bool ns,.slice az ls cs,.int .i64 es],.agg #[.bool nt,.slice at' lt ct,.int .i64 et]] u fun r w'=>DA14 w' r o2 e2∧Below u.heap.size u w'))
 (HS:Hid (∀ (u:World) (a b:Option Addr) (c d:Nat),Below w.heap.size w u→Nt 0 u (.slice a (ws (dX o1)).length c) (dX o1)→Nt 0 u (.slice b (ws (dX o2)).length d) (dX o2)→Calls Tryz.prog 115 #[.agg #[.bool (dN o1),.slice a (ws (dX o1)).length c,.int .i64 (dE o1)],.agg #[.bool (dN o2),.slice b (ws (dX o2)).length d,.int .i64 (dE o2)]] u fun r w'=>DA14 w' r o3 e3∧Below u.heap.size u w')) (x1:e1=0) (x2:e2=0) :
 Calls Tryz.prog 79 #[.int .i64 n,.agg #[.bool np,.slice ap lp cp,.int .i64 ep],.agg #[.bool ns,.slice az ls cs,.int .i64 es],.agg #[.bool nt,.slice at' lt ct,.int .i64 et]] w fun r w'=>DA14 w' r o3 e3∧Below w.heap.size w w':=by
 obtain ⟨W,hW⟩:∃ W,W=(((w.alloc (Obj.cells #[.bool np,.slice ap lp cp,.int .i64 ep] 81)).alloc (Obj.cells #[.bool ns,.slice az ls cs,.int .i64 es] 81)).alloc (Obj.cells #[.bool nt,.slice at' lt ct,.int .i64 et] 81)).alloc (Obj.cells #[.bool false,.slice none 0 0,.int .i64 0] 81):=⟨_,rfl⟩
 have H0:Aside (Bx14 w W np ns nt ap az at' lp cp ls cs lt ct ep es et):=by
  subst hW;have z1:=Dk.new (w.alloc (Obj.cells #[.bool np,.slice ap lp cp,.int .i64 ep] 81)) ns (.slice az ls cs) es;have z2:=Dk.new ((w.alloc (Obj.cells #[.bool np,.slice ap lp cp,.int .i64 ep] 81)).alloc (Obj.cells #[.bool ns,.slice az ls cs,.int .i64 es] 81)) nt (.slice at' lt ct) et;have z3:=Lo.zero (((w.alloc (Obj.cells #[.bool np,.slice ap lp cp,.int .i64 ep] 81)).alloc (Obj.cells #[.bool ns,.slice az ls cs,.int .i64 es] 81)).alloc (Obj.cells #[.bool nt,.slice at' lt ct,.int .i64 et] 81));rw [World.size_alloc] at z1;rw [World.size_alloc,World.size_alloc] at z2;rw [World.size_alloc,World.size_alloc,World.size_alloc] at z3;exact ⟨(((Dk.new _ _ _ _).below (below_alloc _ _)).below (below_alloc _ _)).below (below_alloc _ _),(z1.below (below_alloc _ _)).below (below_alloc _ _),z2.below (below_alloc _ _),z3,(((below_alloc _ _).trans ((below_alloc _ _).mono (by simp))).trans ((below_alloc _ _).mono (by simp;omega))).trans ((below_alloc _ _).mono (by simp;omega))⟩
 have HW:=qsd hW;clear hW;subst x1;subst x2;go_enter Tryz.func79,Tryz.ntmps79
 go_upto_region 1 with fail
 rw [←HW.out];clear HW
 go_cut [10,11] from 13 to 19 (fun q e wx=>∃ gq:Nat,q=.pointer (some ⟨gq,0,none⟩)∧e=.int .i64 0∧Aside (Lo wx gq o1∧Bx14 w wx np ns nt ap az at' lp cp ls cs lt ct ep es et∧w.heap.size+3<gq))
 case first =>
  have hdr:=(Below.refl W.heap.size W).drew;have BB:=qsd (H0.out.below hdr);have BZ:=qsd (ai (H0.out.below (addW14 W)) (zerW14 W));have k0:=BB.out.p.facts;have kS:=qsd (ai k0.1 (ai k0.2.1 k0.2.2.1));have h3l:=H0.out.z.lt;clear hdr k0
  go_region_held3 (fun w'=>w'.cell? ⟨w.heap.size,0,none⟩=some (.bool np)∧w'.cell? ⟨w.heap.size,1,none⟩=some (.slice ap lp cp)∧w'.cell? ⟨w.heap.size,2,none⟩=some (.int .i64 ep)) (first | with_reducible exact kS.out | with_reducible exact ⟨BZ.out.1.p.facts.1,BZ.out.1.p.facts.2.1,BZ.out.1.p.facts.2.2.1⟩ | with_reducible exact ⟨kZ.out.facts.1,kZ.out.facts.2.1,kZ.out.facts.2.2.1⟩ | with_reducible exact kT.out | with_reducible exact ⟨kM.out.facts.1,kM.out.facts.2.1,kM.out.facts.2.2.1⟩ | with_reducible exact ⟨kN.out.facts.1,kN.out.facts.2.1,kN.out.facts.2.2.1⟩) (first
   | (go_at_call 76
      with_reducible refine (HI.out _ BB.out.b).mono ?_
      rintro r u1 ⟨hd,hb⟩;obtain ⟨a3,c3,rfl,hN3⟩:=hd.shp14;have BC:=qsd (ai (BB.out.below hb) hN3);have kS:=qsd (ai BC.out.1.p.facts.1 (ai BC.out.1.p.facts.2.1 BC.out.1.p.facts.2.2.1));have kZ:=qsd (BC.out.1.p.below (below_alloc u1 (Obj.cells #[.bool false,.slice none 0 0,.int .i64 0] 81)));have h4l:=BC.out.1.z.lt;clear hb hd hN3)
   | (go_at_call 76
      with_reducible refine (HI.out _ BZ.out.1.b).mono ?_
      rintro r u1 ⟨hd,hb⟩;obtain ⟨a3,c3,rfl,hN3⟩:=hd.shp14;have BC:=qsd (ai (BZ.out.1.below hb) hN3);have ZB:=qsd (BZ.out.2.below hb);have kS:=qsd (ai BC.out.1.p.facts.1 (ai BC.out.1.p.facts.2.1 BC.out.1.p.facts.2.2.1));clear hb hd hN3)
   | (go_at_call 114
      with_reducible refine (HM1.out _ a3 c3 BC.out.1.b BC.out.2).mono ?_
      rintro r u2 ⟨hd,hb⟩;obtain ⟨a4,c4,rfl,hN4⟩:=hd.shp14;have BE:=qsd (ai (BC.out.1.below hb) hN4);have kS:=qsd (ai BE.out.1.p.facts.1 (ai BE.out.1.p.facts.2.1 BE.out.1.p.facts.2.2.1));have kZ:=qsd (BE.out.1.p.below (below_alloc u2 (Obj.cells #[.bool false,.slice none 0 0,.int .i64 0] 81)));have kM:=qsd (BE.out.1.p.below (below_alloc u2 (Obj.cells #[.bool (dN o1),.slice a4 (ws (dX o1)).length c4,.int .i64 (dE o1)] 81)));have kN:=qsd ((BE.out.1.p.below (below_alloc u2 (Obj.cells #[.bool false,.slice none 0 0,.int .i64 0] 81))).other u2.heap.size (by have:=BE.out.1.z.lt;omega) (.bool (dN o1)) (.slice a4 (ws (dX o1)).length c4) (.int .i64 (dE o1)))
      try have ZB:=qsd (ZB.out.below hb)
      try have kT:=qsd (show _ from (ai (BE.out.1.p.other _ (show w.heap.size≠W.heap.size by omega) (.bool (dN o1)) (.slice a4 (ws (dX o1)).length c4) (.int .i64 (dE o1))).facts.1 (ai (BE.out.1.p.other _ (show w.heap.size≠W.heap.size by omega) (.bool (dN o1)) (.slice a4 (ws (dX o1)).length c4) (.int .i64 (dE o1))).facts.2.1 (BE.out.1.p.other _ (show w.heap.size≠W.heap.size by omega) (.bool (dN o1)) (.slice a4 (ws (dX o1)).length c4) (.int .i64 (dE o1))).facts.2.2.1)))
      try (obtain ⟨zp,zq,DZ,MZ⟩:=ZB.out;obtain ⟨z0,z1,z2,zf0,zf1,zf2⟩:=DZ.facts;clear DZ MZ)
      clear hb hd hN4)
   | (go_at_call 114
      with_reducible refine (HM1.out _ a3 c3 (BC.out.1.below (below_alloc u1 (Obj.cells #[.bool false,.slice none 0 0,.int .i64 0] 81))).b (BC.out.2.below (below_alloc u1 (Obj.cells #[.bool false,.slice none 0 0,.int .i64 0] 81)))).mono ?_
      rintro r u2 ⟨hd,hb⟩;obtain ⟨a4,c4,rfl,hN4⟩:=hd.shp14;have BE:=qsd (ai ((BC.out.1.below (below_alloc u1 (Obj.cells #[.bool false,.slice none 0 0,.int .i64 0] 81))).below hb) hN4);have ZC:=qsd ((Lo.zero u1).below hb);have kS:=qsd (ai BE.out.1.p.facts.1 (ai BE.out.1.p.facts.2.1 BE.out.1.p.facts.2.2.1));have kT:=qsd (ai (BE.out.1.p.other _ (show w.heap.size≠u1.heap.size by omega) (.bool (dN o1)) (.slice a4 (ws (dX o1)).length c4) (.int .i64 (dE o1))).facts.1 (ai (BE.out.1.p.other _ (show w.heap.size≠u1.heap.size by omega) (.bool (dN o1)) (.slice a4 (ws (dX o1)).length c4) (.int .i64 (dE o1))).facts.2.1 (BE.out.1.p.other _ (show w.heap.size≠u1.heap.size by omega) (.bool (dN o1)) (.slice a4 (ws (dX o1)).length c4) (.int .i64 (dE o1))).facts.2.2.1))
      obtain ⟨zp,zq,DZ,MZ⟩:=ZC.out;obtain ⟨z0,z1,z2,zf0,zf1,zf2⟩:=DZ.facts;clear hb hd hN4 DZ MZ))
  all_goals
   go_wp2_with fail
   go_meet
   case rel =>
    first
     | exact ⟨u2.heap.size,rfl,rfl,Lo.new BE.out.2,BE.out.1.below (below_alloc _ _),BE.out.1.z.lt⟩
     | exact ⟨u2.heap.size,rfl,rfl,(Lo.zero u2).set (BE.out.2.below (below_alloc _ _)),(BE.out.1.below (below_alloc _ _)).other (Lo.zero u2) BE.out.1.z.lt _ _ _,BE.out.1.z.lt⟩
     | exact ⟨W.heap.size,rfl,rfl,ZB.out.set BE.out.2,BE.out.1.other ZB.out h3l _ _ _,h3l⟩
     | exact ⟨u1.heap.size,rfl,rfl,ZC.out.set BE.out.2,BE.out.1.other ZC.out h4l _ _ _,h4l⟩
 obtain ⟨gq,rfl,rfl,K1⟩:=hcut;obtain ⟨U,hU⟩:∃ U,U=wc:=⟨_,rfl⟩;rw [←hU] at K1 ⊢;clear hU H0
 go_upto_region 4 with fail
 obtain ⟨x0,x1,x2,xf0,xf1,xf2⟩:=K1.out.2.1.s.facts;obtain ⟨y0,y1,y2,yf0,yf1,yf2⟩:=K1.out.2.1.t.facts;have C:=hid (HM2.out U K1.out.2.1.b)
 go_wp2_with fail
 refine C.out.mono ?_;rintro r u3 ⟨hd,hb⟩;obtain ⟨a5,c5,rfl,hN5⟩:=hd.shp14;obtain ⟨V,hV⟩:∃ V,V=u3.alloc (Obj.cells #[.bool (dN o2),.slice a5 (ws (dX o2)).length c5,.int .i64 (dE o2)] 81):=⟨_,rfl⟩;obtain ⟨gr,hgr⟩:∃ g,g=u3.heap.size:=⟨_,rfl⟩
 have K2:Aside (Lo V gq o1∧Bx14 w V np ns nt ap az at' lp cp ls cs lt ct ep es et∧Lo V gr o2):=by
  rw [hV,hgr];exact ⟨(K1.out.1.below hb).below (below_alloc _ _),(K1.out.2.1.below hb).below (below_alloc _ _),Lo.new hN5⟩
 have HV:=(qsd (ai hV hgr));clear hV hgr hb hd hN5 C x0 x1 x2 xf0 xf1 xf2 y0 y1 y2 yf0 yf1 yf2 K1
 go_upto_region 5 with fail
 rw [←HV.out.1,←HV.out.2];clear HV
 go_upto_region 7 with fail
 obtain ⟨p1,q1,D1,M1⟩:=K2.out.1;obtain ⟨p2,q2,D2,M2⟩:=K2.out.2.2;obtain ⟨x0,x1,x2,xf0,xf1,xf2⟩:=D1.facts;obtain ⟨y0,y1,y2,yf0,yf1,yf2⟩:=D2.facts;have C:=hid (HS.out V p1 p2 q1 q2 K2.out.2.1.b M1 M2);clear D1 D2 M1 M2
 go_wp2_with fail
 refine C.out.mono ?_;rintro r u4 ⟨hd,hb⟩;obtain ⟨a6,c6,rfl,hN6⟩:=hd.shp14;have K3:=qsd (ai (K2.out.2.1.below hb) hN6);clear hb hd hN6 C x0 x1 x2 xf0 xf1 xf2 y0 y1 y2 yf0 yf1 yf2 K2;obtain ⟨p4,q4,D4,M4⟩:=K3.out.1.z;obtain ⟨y0,y1,y2,yf0,yf1,yf2⟩:=D4.facts;have HE:=qsd (ai (D4.set (dN o3) (.slice a6 (ws (dX o3)).length c6) (dE o3)) (ai (K3.out.2.off12 D4 (.bool (dN o3)) (.slice a6 (ws (dX o3)).length c6) (.int .i64 (dE o3))) (st3_bel12 K3.out.1.b K3.out.1.b.size (show w.heap.size≤w.heap.size+3 by omega) (.bool (dN o3)) (.slice a6 (ws (dX o3)).length c6) (.int .i64 (dE o3)))))
 unfold st3 at HE;clear D4 M4;go_wp2;obtain ⟨f0,f1,f2,_,_,_⟩:=HE.out.1.facts;exact bodyPost_ret (v:=.tuple #[.agg #[.bool (dN o3),.slice a6 (ws (dX o3)).length c6,.int .i64 (dE o3)],.int .i64 e3]) (by simp [results,Tryz.results79,go_sem,f0,f1,f2]) rfl ⟨⟨_,rfl,HE.out.2.1⟩,HE.out.2.2⟩
end
section
open Go Go.RowKit J
theorem mulD_re {o p:Option (Bool×Nat×Int)}(h:(mulD o p).isSome=true):mkS (dN (mulD o p)) (dX (mulD o p)) (dE (mulD o p))=mulD o p:=by
 cases o with
 | none=>cases h
 | some x =>
   cases p with
   | none=>cases h
   | some y=>exact reform (o:=mulD (some x) (some y)) rfl h
theorem cb14 {w w':World}{p:Addr}{v:Value}(h:w.cell? p=some v) (hb:Below w.heap.size w w'):w'.cell? p=some v:=(hb.cell (p:=p) (World.block_lt_of_cell? w p h)).trans h
theorem len_rng14 {o:Option (Bool×Nat×Int)}(h:o.isSome=true) (hr:mkS (dN o) (dX o) (dE o)=o):(ws (dX o)).length≤8192∧-9223372036854775808≤dE o∧dE o≤9223372036854775807:=by
 have F:=frm_of (n:=dN o) (X:=dX o) (e:=dE o) (by rw [hr];exact h)
 rw [hr] at F;have:=frm_len F;have:=F.up;have:=F.down;refine ⟨by omega,by omega,by omega⟩
theorem difference14 {w:World}{ap az at':Option Addr}{lp cp ls cs lt ct:Nat}{xs ys zs:List Nat}(n:Int) (np ns nt:Bool) (ep es et:Int) (h1:Arg w ap lp cp xs) (h2:Arg w az ls cs ys) (h3:Arg w at' lt ct zs) (hT:Tab w)
 (hn:-9223372036854775808≤n∧n≤9223372036854775807) (b1:-9223372036854775808≤ep∧ep≤9223372036854775807) (b2:-9223372036854775808≤es∧es≤9223372036854775807) (b3:-9223372036854775808≤et∧et≤9223372036854775807) :
 Calls Tryz.prog 79 #[.int .i64 n,.agg #[.bool np,.slice ap lp cp,.int .i64 ep],.agg #[.bool ns,.slice az ls cs,.int .i64 es],.agg #[.bool nt,.slice at' lt ct,.int .i64 et]] w fun r w' =>
  DA14 w' r (difO (mulD (gV 0 n) (mkS np (val xs) ep)) (mulD (mkS ns (val ys) es) (mkS nt (val zs) et))) (erS (difO (mulD (gV 0 n) (mkS np (val xs) ep)) (mulD (mkS ns (val ys) es) (mkS nt (val zs) et))))∧Below w.heap.size w w':=by
 have Fi:Fm (gV 0 n):=g_fm (m:=63) (by decide) (by decide) (show Bd 63 n by unfold Bd;omega)
 have HI:=hid (fun (u:World) (hu:Below w.heap.size w u)=>Int14 n u (hT.belows hu) hn.1 hn.2)
 have HM1:∀ (u:World) (a:Option Addr) (c:Nat),Below w.heap.size w u→Nt 0 u (.slice a (ws (dX (gV 0 n))).length c) (dX (gV 0 n))→Calls Tryz.prog 114 #[.agg #[.bool (dN (gV 0 n)),.slice a (ws (dX (gV 0 n))).length c,.int .i64 (dE (gV 0 n))],.agg #[.bool np,.slice ap lp cp,.int .i64 ep]] u fun r w'=>DA14 w' r (mulD (gV 0 n) (mkS np (val xs) ep)) (erS (mulD (gV 0 n) (mkS np (val xs) ep)))∧Below u.heap.size u w':=fun u a c hu hN=>by
  have:=Mul_any3 (Fi.a12 hN) (h1.below hu) (hT.belows hu) (dN (gV 0 n)) np (dE (gV 0 n)) ep Fi.rng.1 Fi.rng.2 b1.1 b1.2;rw [val_ws,Fi.re] at this;exact this.mono fun r w' h=>⟨h.1.da14,h.2⟩
 have HM2:∀ u:World,Below w.heap.size w u→Calls Tryz.prog 114 #[.agg #[.bool ns,.slice az ls cs,.int .i64 es],.agg #[.bool nt,.slice at' lt ct,.int .i64 et]] u fun r w'=>DA14 w' r (mulD (mkS ns (val ys) es) (mkS nt (val zs) et)) (erS (mulD (mkS ns (val ys) es) (mkS nt (val zs) et)))∧Below u.heap.size u w':=fun u hu =>
  (Mul_any3 (h2.below hu) (h3.below hu) (hT.belows hu) ns nt es et b2.1 b2.2 b3.1 b3.2).mono fun r w' h=>⟨h.1.da14,h.2⟩
 have R1:=mulD_re (o:=gV 0 n) (p:=mkS np (val xs) ep);have R2:=mulD_re (o:=mkS ns (val ys) es) (p:=mkS nt (val zs) et);generalize mulD (gV 0 n) (mkS np (val xs) ep)=o1 at *;generalize mulD (mkS ns (val ys) es) (mkS nt (val zs) et)=o2 at *
 have HS:o1.isSome=true→o2.isSome=true→∀ (u:World) (a b:Option Addr) (c d:Nat),Below w.heap.size w u→Nt 0 u (.slice a (ws (dX o1)).length c) (dX o1)→Nt 0 u (.slice b (ws (dX o2)).length d) (dX o2)→Calls Tryz.prog 115 #[.agg #[.bool (dN o1),.slice a (ws (dX o1)).length c,.int .i64 (dE o1)],.agg #[.bool (dN o2),.slice b (ws (dX o2)).length d,.int .i64 (dE o2)]] u fun r w'=>DA14 w' r (addD o1 (mkS (!dN o2) (dX o2) (dE o2))) (erS (addD o1 (mkS (!dN o2) (dX o2) (dE o2))))∧Below u.heap.size u w':=fun q1 q2 u a b c d hu n1 n2=>by
  obtain ⟨l1,r1,r1'⟩:=len_rng14 q1 (R1 q1);obtain ⟨l2,r2,r2'⟩:=len_rng14 q2 (R2 q2);have:=Sub_any3 (n1.arg' (by omega)).2 (n2.arg' (by omega)).2 (hT.belows hu) (dN o1) (dN o2) (dE o1) (dE o2) r1 r1' r2 r2'
  rw [val_ws,val_ws,R1 q1] at this;exact this.mono fun r w' h=>⟨h.1.da14,h.2⟩
 unfold difO;have none14:∀ (u:World) (a b:Option Addr) (c d:Nat),Below w.heap.size w u→Nt 0 u (.slice a (ws (dX o1)).length c) (dX o1)→Nt 0 u (.slice b (ws (dX o2)).length d) (dX o2)→True:=fun _ _ _ _ _ _ _ _=>trivial
 cases q1:o1.isSome with
 | false =>
   have e1:=erS_none q1;rw [e1] at HM1;exact dif_no1 w n np ns nt ap az at' lp cp ls cs lt ct ep es et (gV 0 n) o1 o2 2 (erS o2) HI (hid HM1) (by decide)
 | true =>
   have e1:=erS_some q1;rw [e1] at HM1
   cases q2:o2.isSome with
   | false =>
     have e2:=erS_none q2;rw [e2] at HM2;exact dif_no2 w n np ns nt ap az at' lp cp ls cs lt ct ep es et (gV 0 n) o1 o2 0 2 HI (hid HM1) (hid HM2) rfl (by decide)
   | true =>
     have e2:=erS_some q2;rw [e2] at HM2;exact dif_ok w n np ns nt ap az at' lp cp ls cs lt ct ep es et (gV 0 n) o1 o2 _ 0 0 _ HI (hid HM1) (hid HM2) (hid (HS q1 q2)) rfl rfl
end
section
open Go Go.RowKit J
theorem prod_bd14 {f g:Nat→Int}{n:Nat}(bf:∀ i,i<n→Bd 2098 (f i)) (bg:∀ i,i<n→Bd 2098 (g i)) (hn:n≤65536) (k:Nat) (hk:k≤n):Bd 4212 (tS (fun i=>f i*g i) k) :=
 (tS_bd (m:=4196) (fun i hi=>((bf i hi).mul (bg i hi)).mono (by decide)) hn k hk).mono (by decide)
end
section
open Go Go.RowKit J
def mdB (mode:Int):Bool:=decide (0≤mode)&&decide (mode≤4)
def lsB (less:Int):Bool:=decide (less=0) || decide (less=1)
theorem ls_ok {less:Int}(h:lsB less=true):less=0∨less=1:=by unfold lsB at h;simpa using h
theorem isMode14 (mode:Int) (w:World):Calls Tryz.prog 77 #[.int .i64 mode] w fun r w'=>r=.returned (.bool (mdB mode))∧w'=w:=by
 unfold mdB
 by_cases h0:0≤mode
 · have d0:decide (0≤mode)=true:=decide_eq_true h0
   by_cases h4:mode≤4
   · have d4:decide (mode≤4)=true:=decide_eq_true h4
     rw [d0,d4];go_enter Tryz.func77,Tryz.ntmps77;go_wp2;go_ret;exact ⟨rfl,rfl⟩
   · have d4:decide (mode≤4)=false:=decide_eq_false h4
     rw [d0,d4];go_enter Tryz.func77,Tryz.ntmps77;go_wp2;go_ret;exact ⟨rfl,rfl⟩
 · have d0:decide (0≤mode)=false:=decide_eq_false h0
   rw [d0,Bool.false_and];go_enter Tryz.func77,Tryz.ntmps77;go_wp2;go_ret;exact ⟨rfl,rfl⟩
theorem isLess14 (less:Int) (w:World):Calls Tryz.prog 78 #[.int .i64 less] w fun r w'=>r=.returned (.bool (lsB less))∧w'=w:=by
 unfold lsB
 by_cases h0:less=0
 · subst h0
   go_enter Tryz.func78,Tryz.ntmps78;go_wp2;go_ret;exact ⟨rfl,rfl⟩
 · by_cases h1:less=1
   · subst h1
     go_enter Tryz.func78,Tryz.ntmps78;go_wp2;go_ret;exact ⟨rfl,rfl⟩
   · rw [decide_eq_false h0,decide_eq_false h1]
     have d0:(less==0)=false:=by simp [h0]
     have d1:(less==1)=false:=by simp [h1]
     go_enter Tryz.func78,Tryz.ntmps78;go_wp2;go_ret;exact ⟨rfl,rfl⟩
theorem shares14 (n:Nat) (less:Int) (w:World) (hT:Tab w) (hn:n≤1099511627776) (h0:0≤less) (h1:less≤1) (hl:less<n) :
 Calls Tryz.prog 80 #[.int .i64 (n:Nat),.int .i64 less] w fun r w'=>DVal 0 w' r (gV 0 ((n:Int)*((n:Int)-less)))∧Below w.heap.size w w':=by
 have b1:Bd 41 (n:Int):=Bd.nat (by omega)
 have b2:Bd 41 ((n:Int)-less):=by unfold Bd;omega
 obtain ⟨oA,hA⟩:∃ o,o=gV 0 (n:Int):=⟨_,rfl⟩;obtain ⟨oB,hB⟩:∃ o,o=gV 0 ((n:Int)-less):=⟨_,rfl⟩;obtain ⟨oC,hC⟩:∃ o,o=gV 0 ((n:Int)*((n:Int)-less)):=⟨_,rfl⟩;have FA:Fm oA:=by rw [hA];exact g_fm (by decide) (by decide) b1
 have FB:Fm oB:=by rw [hB];exact g_fm (by decide) (by decide) b2
 have FC:Fm oC:=by rw [hC];exact g_fm (by decide) (by decide) (b1.mul b2)
 have E:mulD oA oB=oC:=by rw [hA,hB,hC];exact g_mul (by decide) (by decide) (by decide) (by decide) b1 b2
 rw [←hC];have HI1:Hid (∀ u:World,Tab u→Calls Tryz.prog 76 #[.int .i64 (n:Nat)] u fun r w'=>DVal 0 w' r oA∧Below u.heap.size u w'):=fun u hu=>by rw [hA];exact Int14 n u hu (by omega) (by omega)
 have HI2:Hid (∀ u:World,Tab u→Calls Tryz.prog 76 #[.int .i64 ((n:Int)-less)] u fun r w'=>DVal 0 w' r oB∧Below u.heap.size u w'):=fun u hu=>by rw [hB];exact Int14 _ u hu (by omega) (by omega)
 have HX:=qsd (ai FA (ai FB (ai FC (ai E hT))));have hwr:IntKind.i64.wrap ((n:Int)-less)=(n:Int)-less:=by rw [IntKind.wrap_i64];omega
 clear hA hB hC FA FB FC E hT b1 b2;obtain ⟨W,hW⟩:∃ W,W=w.alloc (Obj.cells #[.bool false,.slice none 0 0,.int .i64 0] 81):=⟨_,rfl⟩;have H0:Aside (Lo W w.heap.size o00∧Below w.heap.size w W):=by rw [hW];exact ⟨Lo.zero _,below_alloc _ _⟩
 have HW:=qsd hW;clear hW;go_enter Tryz.func80,Tryz.ntmps80
 go_upto_region 1 with fail
 rw [←HW.out];clear HW;have C:=hid (HI1.out W (HX.out.2.2.2.2.belows H0.out.2))
 go_wp2_with fail
 refine C.out.mono ?_;rintro r u1 ⟨hd,hb⟩;obtain ⟨a1,c1,rfl,hN1⟩:=hd.shp14;have H1:=(qsd (ai (H0.out.1.below hb) (ai (H0.out.2.trans (hb.mono H0.out.2.size)) hN1)));clear hb hd hN1 H0 C;have C:=hid (HI2.out u1 (HX.out.2.2.2.2.belows H1.out.2.1))
 go_wp2_with fail
 refine C.out.mono ?_;rintro r u2 ⟨hd,hb⟩;obtain ⟨a2,c2,rfl,hN2⟩:=hd.shp14;have H2:=(qsd (ai (H1.out.1.below hb) (ai (H1.out.2.1.trans (hb.mono H1.out.2.1.size)) (ai (H1.out.2.2.below hb) hN2))));clear hb hd hN2 H1 C;have C:=hid (times14 HX.out.1 HX.out.2.1 HX.out.2.2.1 H2.out.2.2.1 H2.out.2.2.2 (HX.out.2.2.2.2.belows H2.out.2.1) HX.out.2.2.2.1)
 go_wp2_with fail
 refine C.out.mono ?_;rintro r u3 ⟨hd,hb⟩;obtain ⟨a3,c3,rfl,hN3⟩:=hd.shp14;have H3:=(qsd (ai (H2.out.1.below hb) (ai (H2.out.2.1.trans (hb.mono H2.out.2.1.size)) hN3)));clear hb hd hN3 H2 C;obtain ⟨p2,q2,D2,M2⟩:=H3.out.1;obtain ⟨y0,y1,y2,yf0,yf1,yf2⟩:=D2.facts;clear D2 M2;go_wp2;exact end14 Tryz.results80 rfl H3.out.1 H3.out.2.1 (Nat.le_refl _) H3.out.2.2
noncomputable def qR14 (V D:Option (Bool×Nat×Int)) (mode:Int):Nat×Int:=quoR rndS ⟨dN V,.bool false,dX V,dE V,dN D,.bool false,dX D,dE D⟩ mode
def crB (pa pb:Int) (xs:List Nat):Bool:=(decide (0<Ps.cn 5 xs)&&decide (pa=0)) || (decide (0<Ps.cn 3 xs+Ps.cn 4 xs)&&decide (pb=0))
theorem siftE_ok14 {pa pb:Int}{xs:List Nat}(h:Ps.siftE pa pb xs=0):may pa pb=true∧xs.length≤65536:=by
 unfold Ps.siftE at h
 cases hm:may pa pb with
 | false=>rw [hm] at h;simp at h
 | true =>
   rw [hm,if_neg (by decide)] at h
   by_cases hl:65536<xs.length
   · rw [if_pos hl] at h;exact absurd h (by decide)
   · exact ⟨rfl,by omega⟩
theorem cn_sum14:∀ xs:List Nat,Ps.cn 5 xs+Ps.cn 3 xs+Ps.cn 4 xs+Ps.cn 1 xs+Ps.cn 2 xs≤xs.length
 | []=>by simp [Ps.cn]
 | x::xs=>by
   have ih:=cn_sum14 xs;unfold Ps.cn at ih ⊢;simp only [List.countP_cons,List.length_cons];have hk:=Ps.kd_le x;obtain q|q|q|q|q|q:kd x=0∨kd x=1∨kd x=2∨kd x=3∨kd x=4∨kd x=5:=by omega
   all_goals (rw [q];simp;omega)
theorem vd14 {pa pb:Int}{xs:List Nat}(h:Ps.siftE pa pb xs=0):(vd (snd (Ps.cn 5 xs:Nat) (Ps.cn 3 xs:Nat) (Ps.cn 4 xs:Nat) (Ps.cn 1 xs:Nat) (Ps.cn 2 xs:Nat) (xs.length:Nat)&&may pa pb) (Ps.cn 5 xs:Nat) (Ps.cn 3 xs:Nat) (Ps.cn 4 xs:Nat) pa pb).2=crB pa pb xs:=by
 obtain ⟨hm,hl⟩:=siftE_ok14 h;have hs:=cn_sum14 xs
 have e:snd (Ps.cn 5 xs:Nat) (Ps.cn 3 xs:Nat) (Ps.cn 4 xs:Nat) (Ps.cn 1 xs:Nat) (Ps.cn 2 xs:Nat) (xs.length:Nat)=true:=by
  unfold snd ct;simp;omega
 rw [e,hm];unfold vd crB
 by_cases h5:0<Ps.cn 5 xs∧pa=0
 · have h5':0<((Ps.cn 5 xs:Nat):Int)∧pa=0:=⟨by omega,h5.2⟩
   rw [if_neg (by decide),if_pos h5']
   simp [h5.1,h5.2]
 · have h5':¬ (0<((Ps.cn 5 xs:Nat):Int)∧pa=0):=fun q=>h5 ⟨by omega,q.2⟩
   have e5:(decide (0<Ps.cn 5 xs)&&decide (pa=0))=false:=by
    rcases Nat.lt_or_ge 0 (Ps.cn 5 xs) with q|q
    · have:¬ pa=0:=fun r=>h5 ⟨q,r⟩
      simp [this]
    · have:¬ 0<Ps.cn 5 xs:=by omega
      simp [this]
   rw [if_neg (by decide),if_neg h5',e5,Bool.false_or]
   by_cases hb:pb=0
   · subst hb
     rw [if_neg (by simp)]
     by_cases h3:0<Ps.cn 3 xs
     · have:0<Ps.cn 3 xs+Ps.cn 4 xs:=by omega
       by_cases h4:0<Ps.cn 4 xs
       · rw [if_pos ⟨by omega,by omega⟩];simp [this]
       · rw [if_neg (by omega),if_pos (by omega)];simp [this]
     · by_cases h4:0<Ps.cn 4 xs
       · have:0<Ps.cn 3 xs+Ps.cn 4 xs:=by omega
         rw [if_neg (by omega),if_neg (by omega),if_pos (by omega)];simp [this]
       · have:¬ 0<Ps.cn 3 xs+Ps.cn 4 xs:=by omega
         rw [if_neg (by omega),if_neg (by omega),if_neg (by omega)];simp [this]
   · rw [if_pos hb];simp [hb]
end
section
open Go Go.RowKit J
open Go.Proofs.YtdcggkapbkjjbaaGreatDoor.B (f64bits f64frombits)
attribute [local go_sem] f64bits f64frombits
def cS (xs ys:List Nat):Int:=(xs.length:Int)*tS (fun i=>fX xs i*fX ys i) xs.length-sX xs*sX ys
noncomputable def varR (rd:Option (Bool×Nat×Int)→Option (Bool×Nat×Int)→Int→Nat×Int) (xs:List Nat) (less mode pa pb:Int):Nat×Int :=
 if mdB mode&&lsB less then
  if Ps.siftE pa pb xs=0 then
   if crB pa pb xs then (9221120237041090560,0)
   else if ((Ps.fin xs).length:Int)≤less then (0,3)
   else rd (gV 2148 (cS (Ps.fin xs) (Ps.fin xs))) (gV 0 (((Ps.fin xs).length:Int)*(((Ps.fin xs).length:Int)-less))) mode
  else (0,Ps.siftE pa pb xs)
 else (0,1)
end
end Go.Proofs.YtdcggkapbkjjbaaGreatDoor
