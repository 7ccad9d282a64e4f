import Derived.Test.YthejkolknalpaaaGreatDoorE6x
import Derived.Test.YthejkolknalpaaaGreatDoorSL6x
import Derived.Test.YthejkolknalpaaaGreatDoorD21x
import Derived.Test.YthejkolknalpaaaGreatDoorZ9x
import Derived.Test.YthejkolknalpaaaGreatDoorP2x
import Derived.RangeFuncNested
import Derived.RangeFuncBound
import Derived.RangeFuncCalls
import Derived.RangeFuncLeaves
import Derived.RangeFuncBox
import Derived.Shelf.Abstract
import Derived.Shelf.RegionOpen
import Derived.WalkKit
import Derived.OwnWalkIn
import Derived.TacticsInMore
import Derived.LoopNIn
import Derived.LoopIn
import Derived.Test.YthejkolknalpaaaGreatDoorD16x
import Derived.Test.YthejkolknalpaaaGreatDoorD30x
import Derived.Deep.RegionHeld3
import Derived.Test.YthejkolknalpaaaGreatDoorW24x
import Derived.Deep.CutRange
import Derived.Test.YthejkolknalpaaaGreatDoorD14x
import Derived.BigQuiet
import Derived.Deep.Cut
import Derived.Test.YthejkolknalpaaaGreatDoorBIeeex
import Derived.Deep.RegionWith
import Derived.Test.YthejkolknalpaaaGreatDoorS11ax
import Derived.Deep.RegionHeld
import Derived.Deep.LoopGhost
set_option linter.unusedVariables false
set_option linter.unusedSimpArgs false
set_option maxHeartbeats 16000000
set_option maxRecDepth 20000
namespace Go.Proofs.YthejkolknalpaaaGreatDoor
namespace J
end J
section
open Go.RowKit J
def kO13 (k:Nat):Nat:=if k=5 then 1 else if k=3 then 2 else if k=4 then 3 else if k=1 then 4 else if k=2 then 5 else 0
theorem m42:max (4:Int) 2=4:=by decide
theorem m32:max (3:Int) 2=3:=by decide
theorem m02:max (0:Int) 2=2:=by decide
theorem n42:min (4:Int) 2=2:=by decide
theorem n32:min (3:Int) 2=2:=by decide
theorem n02:min (0:Int) 2=0:=by decide
theorem pK_one13 {x:Nat}(hx:x<18446744073709551616):pK x 4607182418800017408=kO13 (kd x)∧(kd x≤2↔finW x):=by
 have c1:clW 4607182418800017408=2:=by decide +kernel
 have n1:ngW 4607182418800017408=false:=by decide +kernel
 have em:magW x=x%9223372036854775808:=rfl;have en:negW x=decide (9223372036854775808≤x):=rfl;unfold pK kO13;rw [c1,n1]
 rcases Nat.lt_trichotomy 9218868437227405312 (magW x) with h|h|h
 · have hk:kd x=5:=by unfold kd;rw [if_pos (by omega)]
   rw [cl_nan h,hk];refine ⟨by unfold pk;simp [m42,m32,m02,n42,n32,n02],?_⟩
   constructor
   · intro q;omega
   · intro q;exact absurd (show magW x<9218868437227405312 from q) (by omega)
 · obtain ⟨h1,h2⟩:=cl_inf h.symm
   rw [h1,h2];have hf:¬ finW x:=fun q=>absurd (show magW x<9218868437227405312 from q) (by omega)
   by_cases hs:9223372036854775808≤x
   · have hk:kd x=4:=by unfold kd;rw [if_neg (by omega),if_pos (by omega),if_pos (by omega)]
     rw [hk,en,decide_eq_true hs];refine ⟨by unfold pk;simp [m42,m32,m02,n42,n32,n02],?_⟩
     exact ⟨fun q=>by omega,fun q=>absurd q hf⟩
   · have hk:kd x=3:=by unfold kd;rw [if_neg (by omega),if_pos (by omega),if_neg (by omega)]
     rw [hk,en,decide_eq_false hs];refine ⟨by unfold pk;simp [m42,m32,m02,n42,n32,n02],?_⟩
     exact ⟨fun q=>by omega,fun q=>absurd q hf⟩
 · have fx:finW x:=h
   obtain ⟨p1,p2,p3,p4⟩:=fin_parts hx fx;rw [p1]
   by_cases h0:magW x=0
   · rw [h0,vK_zero] at p2
     have hfr:frW x=0:=by
      rcases Nat.mul_eq_zero.1 p2.symm with q|q
      · exact q
      · have:=Nat.two_pow_pos (xpW x+1074).toNat;omega
     have hc:clW x=0:=by
      rcases p4 with q|q
      · exact q.1
      · exact absurd hfr q.2
     rw [hc]
     by_cases hs:9223372036854775808≤x
     · have hk:kd x=1:=by unfold kd;rw [if_neg (by omega),if_neg (by omega),if_pos (by omega),if_pos (by omega)]
       rw [hk,en,decide_eq_true hs];exact ⟨by unfold pk;simp [m42,m32,m02,n42,n32,n02],fun _=>fx,fun _=>by omega⟩
     · have hk:kd x=2:=by unfold kd;rw [if_neg (by omega),if_neg (by omega),if_pos (by omega),if_neg (by omega)]
       rw [hk,en,decide_eq_false hs];exact ⟨by unfold pk;simp [m42,m32,m02,n42,n32,n02],fun _=>fx,fun _=>by omega⟩
   · have hk:kd x=0:=by unfold kd;rw [if_neg (by omega),if_neg (by omega),if_neg (by omega)]
     have hfr:frW x≠0:=by
      intro q;rw [q,Nat.zero_mul] at p2;have:=grid64.mono (show 0<magW x by omega)
      omega
     have hc:clW x=1∨clW x=2:=by
      rcases p4 with q|q
      · exact absurd q.2 hfr
      · exact q.1
     rw [hk];refine ⟨?_,fun _=>fx,fun _=>by omega⟩
     rcases hc with q|q
     · rw [q,show max (1:Int) 2=2 by decide,show min (1:Int) 2=1 by decide];unfold pk;simp
     · rw [q,show max (2:Int) 2=2 by decide,show min (2:Int) 2=2 by decide];unfold pk;simp
theorem kd5 (x:Nat):kd x≤5:=by unfold kd;(repeat' split) <;> omega
theorem cnt_fold13:∀ (xs:List Nat) (s:Sp),W64 xs→xs.foldl (fun s x=>s.cnt (pK x 4607182418800017408) 1) s=⟨s.n+Ps.cn 5 xs,s.u+Ps.cn 3 xs,s.d+Ps.cn 4 xs,s.m+Ps.cn 1 xs,s.p+Ps.cn 2 xs,s.a+xs.length⟩
 | [],s,_=>by simp [Ps.cn]
 | x::xs,s,h=>by
   rw [List.foldl_cons,cnt_fold13 xs _ (fun z hz=>h z (List.mem_cons_of_mem _ hz)),(pK_one13 (h x List.mem_cons_self)).1]
   have hk:=kd5 x;unfold Sp.cnt kO13 Ps.cn;simp only [List.countP_cons,List.length_cons];obtain q|q|q|q|q|q:kd x=0∨kd x=1∨kd x=2∨kd x=3∨kd x=4∨kd x=5:=by omega
   all_goals (rw [q];simp;(repeat' constructor) <;> omega)
theorem sS_cn {xs:List Nat}(h:W64 xs):sS xs=⟨(Ps.cn 5 xs:Nat),(Ps.cn 3 xs:Nat),(Ps.cn 4 xs:Nat),(Ps.cn 1 xs:Nat),(Ps.cn 2 xs:Nat),(xs.length:Nat)⟩:=by
 unfold sS;rw [cnt_fold13 xs _ h];simp
theorem vS_fold13:∀ (xs:List Nat) (v:Int),xs.foldl (fun v x=>v+pT x 4607182418800017408) v=v+vS xs
 | [],v=>by simp [vS]
 | x::xs,v=>by
   unfold vS;rw [List.foldl_cons,List.foldl_cons,vS_fold13 xs (v+_),vS_fold13 xs (0+_)];omega
theorem vS_cons (x:Nat) (xs:List Nat):vS (x::xs)=pT x 4607182418800017408+vS xs:=by
 have:=vS_fold13 xs (0+pT x 4607182418800017408);unfold vS at this ⊢;rw [List.foldl_cons,this];omega
theorem vS_fin:∀ {xs:List Nat},W64 xs→vS (Ps.fin xs)=vS xs
 | [],_=>rfl
 | x::xs,h=>by
   have ih:=vS_fin (xs:=xs) (fun z hz=>h z (List.mem_cons_of_mem _ hz))
   have hx:=h x List.mem_cons_self;unfold Ps.fin at ih ⊢
   by_cases hk:kd x≤2
   · rw [List.filter_cons_of_pos (by simpa using hk),vS_cons,vS_cons,ih]
   · rw [List.filter_cons_of_neg (by simpa using hk),vS_cons,ih,(pT_odd (x:=x) (y:=4607182418800017408) (fun q=>hk ((pK_one13 hx).2.2 q.1))).1]
     omega
theorem fin_W64 {xs:List Nat}(h:W64 xs):W64 (Ps.fin xs):=fun x hx=>h x (List.mem_filter.1 hx).1
theorem fin_all {xs:List Nat}(h:W64 xs):∀ x ∈ Ps.fin xs,finW x:=fun x hx=>(pK_one13 (h x (List.mem_filter.1 hx).1)).2.1 (by simpa using (List.mem_filter.1 hx).2)
theorem fin_count:∀ {xs:List Nat},((Ps.fin xs).length:Int)=(xs.length:Int)-(Ps.cn 5 xs:Nat)-(Ps.cn 3 xs:Nat)-(Ps.cn 4 xs:Nat)
 | []=>rfl
 | x::xs=>by
   have ih:=fin_count (xs:=xs);have hk:=kd5 x;unfold Ps.fin Ps.cn at ih ⊢;simp only [List.countP_cons,List.length_cons,List.filter_cons];obtain q|q|q|q|q|q:kd x=0∨kd x=1∨kd x=2∨kd x=3∨kd x=4∨kd x=5:=by omega
   all_goals (rw [q];simp;omega)
def sfE (pa pb:Int) (xs:List Nat):Int:=if may pa pb=false then 1 else if 65536<xs.length then 2 else Ps.rf (sS xs).n (sS xs).u (sS xs).d pa pb
def agg0:Value:=.agg #[.int .i64 0,.int .i64 0,.int .i64 0,.int .i64 0,.int .i64 0,.int .i64 0]
theorem ps_rd {B:Nat}{w:World}{a:Option Addr}{xs:List Nat}(h:Fs B w a xs):Ps.Rd B w a xs:=h
theorem lt_fs {lo:Nat}{w:World}{v:Value}{xs:List Nat}(h:Ps.Lt lo w v xs):∃ a c,v=.slice a xs.length c∧Fs w.heap.size w a xs∧∀ b o p,a=some ⟨b,o,p⟩→lo≤b:=by
 have h2:=h.2;unfold Ps.Lt at h
 rcases h2 with ⟨rfl,h0⟩|⟨g,cap,cur,rfl,hlo,hg,rest⟩
 · refine ⟨none,0,by rw [h0],fun hne=>absurd (List.eq_nil_of_length_eq_zero h0) hne,fun b o p h=>by cases h⟩
 · refine ⟨_,cap,rfl,fun _=>⟨g,0,(Array.getElem?_eq_some_iff.1 hg).1,rfl,fun i hi=>?_⟩,fun b o p h=>by cases h;exact hlo⟩
   have h1:=h.cells (g:=g) (by simp [Value.ownBlock]) i (.float .f64 (xs.getD i 0)) (by simp [Ps.U,hi])
   have e:(⟨g,0,none⟩:Addr).add i=⟨g,0+i,none⟩:=by unfold Addr.add;split <;> simp_all
   rw [e] at h1;exact h1
theorem Sift13 (xs:List Nat) (a:Option Addr) (n c:Nat) (pa pb:Int) (w:World) (hn:n=xs.length) (hm:n≤35184372088832) (hF:Fs w.heap.size w a xs) (hW:W64 xs) :
 Calls Tryz.prog 44 #[.slice a n c,.agg #[.int .i64 pa,.int .i64 pb]] w fun r w' =>
  ((sfE pa pb xs≠0∧∃ a' c',r=.returned (.tuple #[.slice a' 0 c',agg0,.int .i64 (sfE pa pb xs)])) ∨
   (sfE pa pb xs=0∧∃ a' c',r=.returned (.tuple #[.slice a' (Ps.fin xs).length c',(sS xs).agg,.int .i64 0])∧Fs w'.heap.size w' a' (Ps.fin xs)∧∀ b o p,a'=some ⟨b,o,p⟩→w.heap.size≤b))∧Below w.heap.size w w':=by
 have e1:Ps.siftE pa pb xs=sfE pa pb xs:=by unfold Ps.siftE sfE;rw [sS_cn hW]
 refine (Ps.Sift_any xs a n c w.heap.size pa pb w hn hm hW (ps_rd hF) (Nat.le_refl _)).mono ?_;rintro r w' ⟨v,rfl,hL,hb⟩;refine ⟨?_,hb⟩;unfold Ps.siftS;unfold Ps.siftL at hL;rw [e1] at hL ⊢
 by_cases h0:sfE pa pb xs=0
 · rw [if_pos h0] at hL ⊢
   obtain ⟨a',c',rfl,hF',hlo⟩:=lt_fs hL;exact .inr ⟨h0,a',c',by rw [h0,sS_cn hW];rfl,hF',hlo⟩
 · rw [if_neg h0] at hL ⊢
   obtain ⟨a',c',rfl,_⟩:=lt_fs hL;exact .inl ⟨h0,a',c',rfl⟩
theorem sfE_len {pa pb:Int}{xs:List Nat}(h:sfE pa pb xs=0):xs.length≤65536∧may pa pb=true:=by
 unfold sfE at h
 cases hm:may pa pb with
 | false=>rw [hm] at h;simp at h
 | true =>
   rw [hm,if_neg (by decide)] at h
   by_cases hl:65536<xs.length
   · rw [if_pos hl] at h;exact absurd h (by decide)
   · exact ⟨by omega,rfl⟩
theorem Fs.but' {B:Nat}{w w':World}{ao:Option Addr}{xs:List Nat}{g:Nat}(h:Fs B w ao xs) (hb:But g w w') (hg:∀ b o p,ao=some ⟨b,o,p⟩→b≠g):Fs B w' ao xs:=by
 intro hne;obtain ⟨b,off,h1,h2,h3⟩:=h hne;have hbg:b≠g:=hg _ _ _ h2;refine ⟨b,off,h1,h2,fun i hi=>?_⟩
 have hc:=h3 i hi
 have hlt:b<w.heap.size:=by
  rcases Nat.lt_or_ge b w.heap.size with q|q
  · exact q
  · unfold World.cell? at hc
    simp [Array.getElem?_eq_none q] at hc
 rw [World.cell?_of_block (a:=⟨b,off+i,none⟩) (hb.block b hlt hbg)];exact hc
attribute [local go_sem] st_float
noncomputable def meanR (xs:List Nat) (mode pa pb:Int):Nat×Int :=
 if askE mode=0 then
  if sfE pa pb xs=0 then
   if (vd (snd (sS xs).n (sS xs).u (sS xs).d (sS xs).m (sS xs).p (sS xs).a&&may pa pb) (sS xs).n (sS xs).u (sS xs).d pa pb).2=true then ((vd (snd (sS xs).n (sS xs).u (sS xs).d (sS xs).m (sS xs).p (sS xs).a&&may pa pb) (sS xs).n (sS xs).u (sS xs).d pa pb).1,0)
   else (bsd (levR (Ps.fin xs) (sS xs) mode).2 (levR (Ps.fin xs) (sS xs) mode).1,(levR (Ps.fin xs) (sS xs) mode).2)
  else (0,sfE pa pb xs)
 else (0,askE mode)
theorem bsd_zero (e:Int):bsd e 0=0:=by unfold bsd;split <;> rfl
theorem Mean13 (xs:List Nat) (a:Option Addr) (n c:Nat) (mode pa pb:Int) (w:World) (hn:n=xs.length) (hF:Fs w.heap.size w a xs) (hW:W64 xs) (hT:Tab w) (hl:n≤35184372088832) (z:Nat×Int) (hz:meanR xs mode pa pb=z) :
 Calls Tryz.prog 12 #[.slice a n c,.int .i64 mode,.agg #[.int .i64 pa,.int .i64 pb]] w fun r w'=>r=.returned (.tuple #[.float .f64 z.1,.int .i64 z.2])∧Below w.heap.size w w':=by
 obtain ⟨X,E⟩:=z;simp only;have hmf:∀ (fn:Fn) (first cap:Array Value) (w:World),(Instr.makeFunc fn first cap).run Tryz.prog w=.ok (.func fn first cap) w:=fun _ _ _ _=>rfl
 have HA:=hid (fun u:World=>asked13 mode u)
 unfold meanR at hz;obtain ⟨ea,hea⟩:∃ e,askE mode=e:=⟨_,rfl⟩;rw [hea] at HA hz;obtain ⟨W,hWW⟩:∃ W,W=((w.alloc (Obj.cells #[.int .i64 pa,.int .i64 pb] 24)).alloc (Obj.cells #[.float .f64 0] 28)).alloc (Obj.cells #[.int .i64 0] 31):=⟨_,rfl⟩;obtain ⟨gp,hgp⟩:∃ g,g=w.heap.size:=⟨_,rfl⟩;obtain ⟨gx,hgx⟩:∃ g,g=w.heap.size+1:=⟨_,rfl⟩;obtain ⟨ge,hge⟩:∃ g,g=w.heap.size+2:=⟨_,rfl⟩
 have B0:Aside (Bl W gp 24 [.int .i64 pa,.int .i64 pb]∧Bl W gx 28 [.float .f64 0]∧Bl W ge 31 [.int .i64 0]∧Below w.heap.size w W∧W.heap.size=w.heap.size+3):=by
  rw [hWW,hgp,hgx,hge];have z1:=Bl.new (w.alloc (Obj.cells #[.int .i64 pa,.int .i64 pb] 24)) 28 [.float .f64 0];have z2:=Bl.new ((w.alloc (Obj.cells #[.int .i64 pa,.int .i64 pb] 24)).alloc (Obj.cells #[.float .f64 0] 28)) 31 [.int .i64 0];rw [World.size_alloc] at z1;rw [World.size_alloc,World.size_alloc] at z2;exact ⟨((Bl.new w 24 [_,_]).below (bel_alloc _ _) (by simp)).below (bel_alloc _ _) (by simp;omega),z1.below (bel_alloc _ _) (by simp),z2,((bel_alloc _ _).trans ((bel_alloc _ _).mono (by simp))).trans ((bel_alloc _ _).mono (by simp;omega)),by simp⟩
 have HG:Aside (gp=w.heap.size∧gx=w.heap.size+1∧ge=w.heap.size+2):=⟨hgp,hgx,hge⟩;have HWW:=qsd hWW;have HX:=qsd (ai hn (ai hF (ai hW (ai hT hl))));clear hn hF hW hT hl hWW hea hgp hgx hge;go_enter_defers Tryz.func12,Tryz.ntmps12
 go_wp2_with fail
 rw [←HWW.out]
 try rw [show w.heap.size+1+1=ge by have:=HG.out.2.2;omega]
 try rw [show w.heap.size+2=ge by have:=HG.out.2.2;omega]
 try rw [show w.heap.size+1=gx by have:=HG.out.2.1;omega]
 try rw [show w.heap.size=gp by have:=HG.out.1;omega]
 clear HWW;refine (HA.out _).mono ?_;rintro r v ⟨rfl,hv⟩;rw [hv];clear hv v;have c1:=B0.out.2.2.1.cell 0 _ rfl;have f1:=B0.out.2.2.1.frozen 0;have hne:=qsd (show ge≠gx by have:=HG.out.2;omega)
 have B1:Aside (Bl (W.setCell ⟨ge,0,none⟩ (.int .i64 ea)) gp 24 [.int .i64 pa,.int .i64 pb]∧Bl (W.setCell ⟨ge,0,none⟩ (.int .i64 ea)) gx 28 [.float .f64 0]∧Bl (W.setCell ⟨ge,0,none⟩ (.int .i64 ea)) ge 31 [.int .i64 ea]∧Below w.heap.size w (W.setCell ⟨ge,0,none⟩ (.int .i64 ea))):=by
  have hb:But ge W (W.setCell ⟨ge,0,none⟩ (.int .i64 ea)):=(But.refl _ _).set 0 _;exact ⟨B0.out.1.but hb (by have:=HG.out;omega),B0.out.2.1.but hb (by have:=HG.out;omega),B0.out.2.2.1.set 0 _,But.below B0.out.2.2.2.1 hb B0.out.2.2.2.1.size (by have:=HG.out;omega)⟩
 by_cases h0:ea=0
 · subst h0
   rw [if_pos rfl] at hz;obtain ⟨V,hV⟩:∃ V,V=W.setCell ⟨ge,0,none⟩ (.int .i64 0):=⟨_,rfl⟩;rw [←hV] at B1;have HV:=qsd hV;have hTV:Tab V:=HX.out.2.2.2.1.belows B1.out.2.2.2;have HS:=hid (Sift13 xs a n c pa pb V HX.out.1 HX.out.2.2.2.2 ((HX.out.2.1.below B1.out.2.2.2).mono B1.out.2.2.2.size) HX.out.2.2.1);obtain ⟨es,hes⟩:∃ e,sfE pa pb xs=e:=⟨_,rfl⟩;rw [hes] at HS hz;have HES:=qsd hes;obtain ⟨⟨sn,su,sd,sm,sp,sa⟩,hs⟩:∃ s,sS xs=s:=⟨_,rfl⟩;rw [hs] at HS hz;simp only [Sp.agg] at HS hz;obtain ⟨fl,hfl⟩:∃ f,Ps.fin xs=f:=⟨_,rfl⟩;rw [hfl] at HS hz;have HFL:=qsd hfl;clear hs hfl;have HTV:=qsd hTV;have p0:=B1.out.1.cell 0 _ rfl;have p1:=B1.out.1.cell 1 _ rfl;have q1:=B1.out.2.2.1.cell 0 _ rfl;have q2:=B1.out.2.2.1.frozen 0;rw [hV] at p0 p1 q1 q2;clear hV HA hTV hes
   go_wp2_with fail
   rw [←HV.out] at p0 p1 q1 q2 ⊢;refine HS.out.mono ?_;rintro r v ⟨hr,hb⟩
   have B2:Aside (Bl v gp 24 [.int .i64 pa,.int .i64 pb]∧Bl v gx 28 [.float .f64 0]∧Bl v ge 31 [.int .i64 0]∧Below w.heap.size w v∧Tab v) :=
    ⟨B1.out.1.below hb B1.out.1.lt,B1.out.2.1.below hb B1.out.2.1.lt,B1.out.2.2.1.below hb B1.out.2.2.1.lt,B1.out.2.2.2.trans (hb.mono B1.out.2.2.2.size),HTV.out.belows hb⟩
   have q1:=B2.out.2.2.1.cell 0 _ rfl;have q2:=B2.out.2.2.1.frozen 0;have BVs:Aside (ge<V.heap.size∧gx<V.heap.size):=⟨B1.out.2.2.1.lt,B1.out.2.1.lt⟩;clear hb B1 HV HS p0 p1 HTV c1 f1 B0
   have BU:Aside (∀ (e:Int) (t1 t2 t3 t4 t5 t6:Int) (U:World),U=(v.setCell ⟨ge,0,none⟩ (.int .i64 e)).alloc (Obj.cells #[.int .i64 t1,.int .i64 t2,.int .i64 t3,.int .i64 t4,.int .i64 t5,.int .i64 t6] 59) →
    Bl U gp 24 [.int .i64 pa,.int .i64 pb]∧Bl U gx 28 [.float .f64 0]∧Bl U ge 31 [.int .i64 e]∧Bl U v.heap.size 59 [.int .i64 t1,.int .i64 t2,.int .i64 t3,.int .i64 t4,.int .i64 t5,.int .i64 t6]∧Below w.heap.size w U∧Tab U∧(∀ ao (ys:List Nat),Fs v.heap.size v ao ys→(∀ b o p,ao=some ⟨b,o,p⟩→b≠ge)→Fs U.heap.size U ao ys)):=by
    intro e t1 t2 t3 t4 t5 t6 U hU;have hb:But ge v (v.setCell ⟨ge,0,none⟩ (.int .i64 e)):=(But.refl _ _).set 0 _;have hbb:=But.below B2.out.2.2.2.1 hb B2.out.2.2.2.1.size (by have:=HG.out;omega)
    have hsz:(v.setCell ⟨ge,0,none⟩ (.int .i64 e)).heap.size=v.heap.size:=by simp
    have z1:=Bl.new (v.setCell ⟨ge,0,none⟩ (.int .i64 e)) 59 [.int .i64 t1,.int .i64 t2,.int .i64 t3,.int .i64 t4,.int .i64 t5,.int .i64 t6];rw [hsz] at z1;rw [hU];refine ⟨(B2.out.1.but hb (by have:=HG.out;omega)).alloc _,(B2.out.2.1.but hb (by have:=HG.out;omega)).alloc _,(B2.out.2.2.1.set 0 _).alloc _,z1,hbb.trans ((bel_alloc _ _).mono hbb.size),HX.out.2.2.2.1.belows (hbb.trans ((bel_alloc _ _).mono hbb.size)),?_⟩
    intro ao ys hF hg;exact ((hF.but' hb hg).below ((bel_alloc _ _).mono (by simp))).mono (by simp)
   rcases hr with ⟨he,a',c',rfl⟩|⟨he,a',c',rfl,hF',hlo⟩
   · have hlt:=B2.out.2.2.1.lt
     have h1:(es==0)=false:=by simp [he]
     rw [if_neg he] at hz;obtain ⟨rfl,rfl⟩:=Prod.mk.inj hz;unfold agg0;obtain ⟨U,hU⟩:∃ U,U=(v.setCell ⟨ge,0,none⟩ (.int .i64 es)).alloc (Obj.cells #[.int .i64 0,.int .i64 0,.int .i64 0,.int .i64 0,.int .i64 0,.int .i64 0] 59):=⟨_,rfl⟩;obtain ⟨u1,u2,u3,u4,u5,u6,_⟩:=BU.out _ _ _ _ _ _ _ _ hU;have B3:=(qsd (ai u2 (ai u3 u5)));have r1:=u3.cell 0 _ rfl;have HU:=qsd hU;clear u1 u2 u3 u4 u5 u6 hU BU hz
     go_upto_region 5 with fail
     rw [←HU.out];go_wp2;refine door13 Tryz.results12 ?_ (Mean1_d gx ge 0 es _ (B3.out.1.cell 0 _ rfl) (B3.out.2.1.cell 0 _ rfl) (B3.out.1.frozen 0)) rfl rfl (B3.out.1.cell 0 _ rfl) (B3.out.2.1.cell 0 _ rfl) hne.out ?_
     · simp [go_sem]
     · rw [bsd_zero]
       exact ⟨rfl,But.below B3.out.2.2 ((But.refl gx _).set 0 _) B3.out.2.2.size (by have:=HG.out;omega)⟩
   · have hlt:=B2.out.2.2.1.lt
     subst he;rw [if_pos rfl] at hz;obtain ⟨U,hU⟩:∃ U,U=(v.setCell ⟨ge,0,none⟩ (.int .i64 0)).alloc (Obj.cells #[.int .i64 sn,.int .i64 su,.int .i64 sd,.int .i64 sm,.int .i64 sp,.int .i64 sa] 59):=⟨_,rfl⟩;obtain ⟨u1,u2,u3,u4,u5,u6,u7⟩:=BU.out _ _ _ _ _ _ _ _ hU;obtain ⟨gs,hgs⟩:∃ g,v.heap.size=g:=⟨_,rfl⟩;have hlo2:∀ b o p,a'=some ⟨b,o,p⟩→b≠ge∧b≠gx:=fun b o p h=>by have:=hlo b o p h;have:=BVs.out;omega
     have B3:=(qsd (ai u1 (ai u2 (ai u3 (ai u4 (ai u5 (ai u6 (ai (u7 _ _ hF' (fun b o p h=>(hlo2 b o p h).1)) hlo2))))))))
     rw [hgs] at B3 u4;have s0:=u4.cell 0 _ rfl;have s1:=u4.cell 1 _ rfl;have s2:=u4.cell 2 _ rfl;have s3:=u4.cell 3 _ rfl;have s4:=u4.cell 4 _ rfl;have s5:=u4.cell 5 _ rfl;have p0:=u1.cell 0 _ rfl;have p1:=u1.cell 1 _ rfl;have r1:=u3.cell 0 _ rfl;have HGS:=qsd hgs;have HU:=qsd hU;clear u1 u2 u3 u4 u5 u6 u7 hU BU hF' hgs hlo hlo2
     go_upto_region 5 with fail
     rw [←HU.out,HGS.out];clear HU HGS;have HVd:=hid (fun u:World=>Verdict_any sn su sd sm sp sa pa pb u)
     obtain ⟨⟨xv,tv⟩,hvd⟩:∃ z,vd (snd sn su sd sm sp sa&&may pa pb) sn su sd pa pb=z:=⟨_,rfl⟩;rw [hvd] at HVd hz;simp only at HVd hz;clear hvd q1 q2
     go_wp2_with fail
     refine (HVd.out _).mono ?_;rintro r v2 ⟨rfl,hb⟩;obtain ⟨V3,hV3⟩:∃ V,V=v2.setCell ⟨gx,0,none⟩ (.float .f64 xv):=⟨_,rfl⟩;have B4:Aside (Bl v2 gx 28 [.float .f64 0]):=B3.out.2.1.below hb B3.out.2.1.lt
     have B5:Aside (Bl V3 gx 28 [.float .f64 xv]∧Bl V3 ge 31 [.int .i64 0]∧Bl V3 gs 59 [.int .i64 sn,.int .i64 su,.int .i64 sd,.int .i64 sm,.int .i64 sp,.int .i64 sa]∧Below w.heap.size w V3∧Tab V3∧(tv=false→Fs V3.heap.size V3 a' fl)):=by
      have hbt:But gx v2 V3:=by rw [hV3];exact (But.refl _ _).set 0 _
      have hbw:=B3.out.2.2.2.2.1.trans (hb.mono B3.out.2.2.2.2.1.size);have hb3:=But.below hbw hbt hbw.size (by have:=HG.out;omega)
      have hgsl:gx≠gs:=by
       rintro rfl;have:=B3.out.2.1.symm.trans B3.out.2.2.2.1;simp at this
      refine ⟨by rw [hV3];exact B4.out.set 0 _,(B3.out.2.2.1.below hb B3.out.2.2.1.lt).but hbt (by have:=HG.out;omega),(B3.out.2.2.2.1.below hb B3.out.2.2.2.1.lt).but hbt (fun h=>hgsl h.symm),hb3,HX.out.2.2.2.1.belows hb3,fun _=>?_⟩
      have hF3:=(((B3.out.2.2.2.2.2.2.1.below hb).mono hb.size).but' hbt (fun b o p h=>(B3.out.2.2.2.2.2.2.2 b o p h).2)).mono hbt.size
      exact hF3
     have t1:=B4.out.cell 0 _ rfl;have t2:=B4.out.frozen 0;have HV3:=qsd hV3;clear hb B3 B4 HVd hV3 s0 s1 s2 s3 s4 s5 p0 p1 r1
     cases tv with
     | true =>
       simp only [if_true] at hz;obtain ⟨hX,hE⟩:=Prod.mk.inj hz;subst hX hE;go_wp2;rw [←HV3.out];refine door13 Tryz.results12 ?_ (Mean1_d gx ge xv 0 _ (B5.out.1.cell 0 _ rfl) (B5.out.2.1.cell 0 _ rfl) (B5.out.1.frozen 0)) rfl rfl (B5.out.1.cell 0 _ rfl) (B5.out.2.1.cell 0 _ rfl) hne.out ?_
       · simp [go_sem]
       · exact ⟨rfl,But.below B5.out.2.2.2.1 ((But.refl gx _).set 0 _) B5.out.2.2.2.1.size (by have:=HG.out;omega)⟩
     | false =>
       simp only [Bool.false_eq_true,if_false] at hz;obtain ⟨⟨xl,el⟩,hl⟩:∃ z,levR fl ⟨sn,su,sd,sm,sp,sa⟩ mode=z:=⟨_,rfl⟩;rw [hl] at hz;simp only at hz;obtain ⟨hX,hE⟩:=Prod.mk.inj hz;have HL:=hid (level13 fl a' fl.length c' sn su sd sm sp sa mode V3 rfl (B5.out.2.2.2.2.2 rfl) (by rw [←HFL.out];exact fin_W64 HX.out.2.2.1) B5.out.2.2.2.2.1 (by rw [←HFL.out];exact Nat.le_trans (List.length_filter_le _ _) (sfE_len HES.out).1) (xl,el) hl)
       simp only at HL;have s0:=B5.out.2.2.1.cell 0 _ rfl;have s1:=B5.out.2.2.1.cell 1 _ rfl;have s2:=B5.out.2.2.1.cell 2 _ rfl;have s3:=B5.out.2.2.1.cell 3 _ rfl;have s4:=B5.out.2.2.1.cell 4 _ rfl;have s5:=B5.out.2.2.1.cell 5 _ rfl;have HXE:=qsd (ai hX hE);clear hz hX hE hl
       go_upto_region 7 with fail
       rw [←HV3.out];clear t1 t2
       go_wp2_with fail
       refine HL.out.mono ?_;rintro r v4 ⟨rfl,hb⟩
       have B6:Aside (Bl v4 gx 28 [.float .f64 xv]∧Bl v4 ge 31 [.int .i64 0]∧Below w.heap.size w v4) :=
        ⟨B5.out.1.below hb B5.out.1.lt,B5.out.2.1.below hb B5.out.2.1.lt,B5.out.2.2.2.1.trans (hb.mono B5.out.2.2.2.1.size)⟩
       have t1:=B6.out.1.cell 0 _ rfl;have t2:=B6.out.1.frozen 0;have t3:=B6.out.2.1.cell 0 _ rfl;have t4:=B6.out.2.1.frozen 0;have hne1:ge≠gx:=hne.out;have hne2:gx≠ge:=fun h=>hne.out h.symm
       clear hb B5 HL s0 s1 s2 s3 s4 s5 HV3;go_wp2;have bt:But gx v4 (v4.setCell ⟨gx,0,none⟩ (.float .f64 xl)):=(But.refl _ _).set 0 _;have k1:=(B6.out.1.set 0 (.float .f64 xl)).but ((But.refl ge (v4.setCell ⟨gx,0,none⟩ (.float .f64 xl))).set 0 (.int .i64 el)) hne2;have k2:=(B6.out.2.1.but bt hne1).set 0 (.int .i64 el);have k0:Below w.heap.size w (v4.setCell ⟨gx,0,none⟩ (.float .f64 xl)):=But.below B6.out.2.2 bt B6.out.2.2.size (by have:=HG.out;omega)
       have k3:Below w.heap.size w ((v4.setCell ⟨gx,0,none⟩ (.float .f64 xl)).setCell ⟨ge,0,none⟩ (.int .i64 el)):=But.below k0 ((But.refl ge (v4.setCell ⟨gx,0,none⟩ (.float .f64 xl))).set 0 (.int .i64 el)) k0.size (by have:=HG.out;omega)
       refine door13 Tryz.results12 ?_ (Mean1_d gx ge xl el _ (k1.cell 0 _ rfl) (k2.cell 0 _ rfl) (k1.frozen 0)) rfl rfl (k1.cell 0 _ rfl) (k2.cell 0 _ rfl) hne.out ?_
       · simp [go_sem]
       · rw [HXE.out.1,HXE.out.2]
         have kb:But gx ((v4.setCell ⟨gx,0,none⟩ (.float .f64 xl)).setCell ⟨ge,0,none⟩ (.int .i64 el)) (((v4.setCell ⟨gx,0,none⟩ (.float .f64 xl)).setCell ⟨ge,0,none⟩ (.int .i64 el)).setCell ⟨gx,0,none⟩ (.float .f64 X)):=(But.refl gx _).set 0 _;have hgl:w.heap.size≤gx:=by have:=HG.out;omega
         first | exact ⟨rfl,But.below k3 kb k3.size hgl⟩ | (rw [HXE.out.2] at k3 kb;exact ⟨rfl,But.below k3 kb k3.size hgl⟩)
 · rw [if_neg h0] at hz
   obtain ⟨rfl,rfl⟩:=Prod.mk.inj hz;have h1:(ea==0)=false:=by simp [h0]
   clear hz HA;go_wp2;refine door13 Tryz.results12 ?_ (Mean1_d gx ge 0 ea _ (B1.out.2.1.cell 0 _ rfl) (B1.out.2.2.1.cell 0 _ rfl) (B1.out.2.1.frozen 0)) rfl rfl (B1.out.2.1.cell 0 _ rfl) (B1.out.2.2.1.cell 0 _ rfl) hne.out ?_
   · simp [go_sem]
   · rw [bsd_zero]
     exact ⟨rfl,But.below B1.out.2.2.2 ((But.refl gx _).set 0 _) B1.out.2.2.2.size (by have:=HG.out;omega)⟩
end
section
open Go.RowKit J
attribute [local go_sem] st_float
abbrev ClD (f:FuncId):Prop:=∀ (gx ge x:Nat) (e:Int) (w:World),w.cell? ⟨gx,0,none⟩=some (.float .f64 x)→w.cell? ⟨ge,0,none⟩=some (.int .i64 e)→w.frozen? ⟨gx,0,none⟩=false→∀ (u:FrameMode),
 CallsD Tryz.prog f #[.pointer (some ⟨ge,0,none⟩),.pointer (some ⟨gx,0,none⟩)] u w fun r u' w'=>u'=u∧(r=.returned (.tuple #[])∧w'=w.setCell ⟨gx,0,none⟩ (.float .f64 (bsd e x)))
theorem early13 {fn:Func}{f:FuncId}{px pe:Tmp}(hres:fn.results=#[.cell px 28,.cell pe 31]) (HC:ClD f) {tmps:Array Value}{gx ge x X:Nat}{e E:Int}{w v:World}
 (b1:Bl v gx 28 [.float .f64 x]) (b2:Bl v ge 31 [.int .i64 e]) (hb:Below w.heap.size w v) (hgx:w.heap.size≤gx) (hne:ge≠gx) (hX:bsd e x=X) (hE:e=E)
 (hi:(callFunc f #[.pointer (some ⟨ge,0,none⟩),.pointer (some ⟨gx,0,none⟩)]).run Tryz.prog v=.ok (.enter f #[.pointer (some ⟨ge,0,none⟩),.pointer (some ⟨gx,0,none⟩)]) v)
 (h1:tmps.getD px undef=.pointer (some ⟨gx,0,none⟩)) (h2:tmps.getD pe undef=.pointer (some ⟨ge,0,none⟩)) :
 Leaves Tryz.prog fn tmps (fun r w'=>r=.returned (.tuple #[.float .f64 X,.int .i64 E])∧Below w.heap.size w w') [{ target:=.fn (.func f) #[.pointer (some ⟨ge,0,none⟩),.pointer (some ⟨gx,0,none⟩)],args:=#[] }] .returning v:=by
 subst hX hE;refine door13 hres hi (HC gx ge x e v (b1.cell 0 _ rfl) (b2.cell 0 _ rfl) (b1.frozen 0)) h1 h2 (b1.cell 0 _ rfl) (b2.cell 0 _ rfl) hne ?_;have kb:But gx v (v.setCell ⟨gx,0,none⟩ (.float .f64 (bsd e x))):=(But.refl gx _).set 0 _;exact ⟨rfl,But.below hb kb hb.size hgx⟩
theorem finish13 {fn:Func}{f:FuncId}{px pe:Tmp}(hres:fn.results=#[.cell px 28,.cell pe 31]) (HC:ClD f) {tmps:Array Value}{gx ge x0 x X:Nat}{e0 e E:Int}{w v:World}
 (b1:Bl v gx 28 [.float .f64 x0]) (b2:Bl v ge 31 [.int .i64 e0]) (hb:Below w.heap.size w v) (hgx:w.heap.size≤gx) (hge:w.heap.size≤ge) (hne:ge≠gx) (hX:bsd e x=X) (hE:e=E)
 (hi:∀ v:World,(callFunc f #[.pointer (some ⟨ge,0,none⟩),.pointer (some ⟨gx,0,none⟩)]).run Tryz.prog v=.ok (.enter f #[.pointer (some ⟨ge,0,none⟩),.pointer (some ⟨gx,0,none⟩)]) v)
 (h1:tmps.getD px undef=.pointer (some ⟨gx,0,none⟩)) (h2:tmps.getD pe undef=.pointer (some ⟨ge,0,none⟩)) :
 Leaves Tryz.prog fn tmps (fun r w'=>r=.returned (.tuple #[.float .f64 X,.int .i64 E])∧Below w.heap.size w w') [{ target:=.fn (.func f) #[.pointer (some ⟨ge,0,none⟩),.pointer (some ⟨gx,0,none⟩)],args:=#[] }] .returning ((v.setCell ⟨gx,0,none⟩ (.float .f64 x)).setCell ⟨ge,0,none⟩ (.int .i64 e)):=by
 have bt:But gx v (v.setCell ⟨gx,0,none⟩ (.float .f64 x)):=(But.refl _ _).set 0 _;have be:But ge (v.setCell ⟨gx,0,none⟩ (.float .f64 x)) ((v.setCell ⟨gx,0,none⟩ (.float .f64 x)).setCell ⟨ge,0,none⟩ (.int .i64 e)):=(But.refl _ _).set 0 _;have k0:=But.below hb bt hb.size hgx;exact early13 hres HC ((b1.set 0 (.float .f64 x)).but be (fun h=>hne h.symm)) ((b2.but bt hne).set 0 (.int .i64 e)) (But.below k0 be k0.size hge) hgx hne hX hE (hi _) h1 h2
theorem two13 (w:World):Bl ((w.alloc (Obj.cells #[.float .f64 0] 28)).alloc (Obj.cells #[.int .i64 0] 31)) w.heap.size 28 [.float .f64 0]∧Bl ((w.alloc (Obj.cells #[.float .f64 0] 28)).alloc (Obj.cells #[.int .i64 0] 31)) (w.heap.size+1) 31 [.int .i64 0]∧Below w.heap.size w ((w.alloc (Obj.cells #[.float .f64 0] 28)).alloc (Obj.cells #[.int .i64 0] 31)):=by
 have z2:=Bl.new (w.alloc (Obj.cells #[.float .f64 0] 28)) 31 [.int .i64 0];rw [World.size_alloc] at z2;exact ⟨(Bl.new w 28 [_]).below (bel_alloc _ _) (by simp),z2,(bel_alloc _ _).trans ((bel_alloc _ _).mono (by simp))⟩
theorem seterr13 {w v:World}{gx ge x:Nat}{e0:Int}(e:Int) (b1:Bl v gx 28 [.float .f64 x]) (b2:Bl v ge 31 [.int .i64 e0]) (hb:Below w.heap.size w v) (hge:w.heap.size≤ge) (hne:ge≠gx) :
 Bl (v.setCell ⟨ge,0,none⟩ (.int .i64 e)) gx 28 [.float .f64 x]∧Bl (v.setCell ⟨ge,0,none⟩ (.int .i64 e)) ge 31 [.int .i64 e]∧Below w.heap.size w (v.setCell ⟨ge,0,none⟩ (.int .i64 e)):=by
 have be:But ge v (v.setCell ⟨ge,0,none⟩ (.int .i64 e)):=(But.refl _ _).set 0 _;exact ⟨b1.but be (fun h=>hne h.symm),b2.set 0 _,But.below hb be hb.size hge⟩
end
section
open Go.RowKit J
attribute [local go_sem] st_float
theorem calm13 {P:Program}{c:Code}{K:Act→World→Prop}{Q:Exit→Act→World→Prop}{a:Act}{w:World}(h:c.wp P (Exit.then K (fun _ _ _=>False)) a w):c.wp P (Exit.then K Q) a w :=
 wp_mono h (fun e a w h=>by cases e <;> first | exact h | exact False.elim h)
noncomputable def qoR (ng:Bool) (X:Nat) (e:Int) (N:Nat) (mode:Int):Nat×Int:=quoR rndS ⟨ng,.bool false,X,e,dN (mkS false N 0),.bool false,dX (mkS false N 0),dE (mkS false N 0)⟩ mode
noncomputable def ofR13 (ng:Bool) (X:Nat) (e n mode:Int):Nat×Int :=
 if askE mode=0 then (if n<1∨1099511627776<n then (0,1) else (bsd (qoR ng X e n.toNat mode).2 (qoR ng X e n.toNat mode).1,(qoR ng X e n.toNat mode).2)) else (0,askE mode)
theorem Of13 (ng:Bool) (a:Option Addr) (la ca Xn:Nat) (ex n mode:Int) (w:World) (hT:Tab w) (hV:Av w (.slice a la ca) Xn) (he:-9223372036854775808≤ex∧ex≤9223372036854775807) (z:Nat×Int) (hz:ofR13 ng Xn ex n mode=z) :
 Calls Tryz.prog 36 #[.agg #[.bool ng,.slice a la ca,.int .i64 ex],.int .i64 n,.int .i64 mode] w fun r w'=>r=.returned (.tuple #[.float .f64 z.1,.int .i64 z.2])∧Below w.heap.size w w':=by
 obtain ⟨X,E⟩:=z;simp only;have hmf:∀ (fn:Fn) (first cap:Array Value) (w:World),(Instr.makeFunc fn first cap).run Tryz.prog w=.ok (.func fn first cap) w:=fun _ _ _ _=>rfl
 have HA:=hid (fun u:World=>asked13 mode u)
 unfold ofR13 at hz;obtain ⟨ea,hea⟩:∃ e,askE mode=e:=⟨_,rfl⟩;rw [hea] at HA hz;obtain ⟨W0,hW0⟩:∃ W,W=w.alloc (Obj.cells #[.bool ng,.slice a la ca,.int .i64 ex] 67):=⟨_,rfl⟩;obtain ⟨W,hWW⟩:∃ W,W=(W0.alloc (Obj.cells #[.float .f64 0] 28)).alloc (Obj.cells #[.int .i64 0] 31):=⟨_,rfl⟩;obtain ⟨gd,hgd⟩:∃ g,g=w.heap.size:=⟨_,rfl⟩;obtain ⟨gx,hgx⟩:∃ g,g=w.heap.size+1:=⟨_,rfl⟩;obtain ⟨ge,hge⟩:∃ g,g=w.heap.size+2:=⟨_,rfl⟩;have hs0:W0.heap.size=w.heap.size+1:=by rw [hW0];simp
 have HG:Aside (gx=w.heap.size+1∧ge=w.heap.size+2∧w.heap.size≤gx∧w.heap.size≤ge∧ge≠gx∧gd=w.heap.size):=⟨hgx,hge,by omega,by omega,by omega,hgd⟩
 have hb0:Below w.heap.size w W0:=by rw [hW0];exact bel_alloc _ _
 obtain ⟨B01,B02,B03⟩:=two13 W0;rw [←hWW,hs0] at B01 B02 B03;rw [←hgx] at B01;rw [show w.heap.size+1+1=ge by omega] at B02
 have hbW:Below w.heap.size w W:=hb0.trans (B03.mono (by omega))
 have BD0:Bl W gd 67 [.bool ng,.slice a la ca,.int .i64 ex]:=by
  have:Bl W0 gd 67 [.bool ng,.slice a la ca,.int .i64 ex]:=by rw [hW0,hgd];exact Bl.new _ 67 [_,_,_]
  exact this.below B03 (by omega)
 have B1:=qsd (seterr13 ea B01 B02 hbW HG.out.2.2.2.1 HG.out.2.2.2.2.1);have BD1:Aside (Bl (W.setCell ⟨ge,0,none⟩ (.int .i64 ea)) gd 67 [.bool ng,.slice a la ca,.int .i64 ex]):=BD0.but ((But.refl ge W).set 0 _) (by have:=HG.out;omega)
 have c1:=B02.cell 0 _ rfl;have f1:=B02.frozen 0;have HWW:=qsd (hWW.trans (by rw [hW0]))
 have HX:=qsd (ai hT (ai hV he));clear hT hV he hW0 hWW hea hgx hge hgd B01 B02 B03 BD0 hs0 hb0 hbW;go_enter_defers Tryz.func36,Tryz.ntmps36
 go_wp2_with fail
 rw [←HWW.out]
 try rw [show w.heap.size+1+1=ge by have:=HG.out;omega]
 try rw [show w.heap.size+2=ge by have:=HG.out;omega]
 try rw [show w.heap.size+1=gx by have:=HG.out;omega]
 try rw [show w.heap.size=gd by have:=HG.out;omega]
 clear HWW;refine (HA.out _).mono ?_;rintro r v ⟨rfl,hv⟩;rw [hv];clear hv v
 by_cases h0:ea=0
 · subst h0
   rw [if_pos rfl] at hz;obtain ⟨V,hV⟩:∃ V,V=W.setCell ⟨ge,0,none⟩ (.int .i64 0):=⟨_,rfl⟩;rw [←hV] at B1 BD1;have r1:=B1.out.2.1.cell 0 _ rfl;have r2:=B1.out.2.1.frozen 0;have HV:=qsd hV;clear hV HA
   go_upto_region 3 with fail
   rw [←HV.out];clear HV c1 f1
   by_cases hn1:n<1
   · rw [if_pos (.inl hn1)] at hz
     have HXE:=qsd (Prod.mk.inj hz);have d1:decide (n<1)=true:=decide_eq_true hn1;obtain ⟨k1,k2,k3⟩:=seterr13 1 B1.out.1 B1.out.2.1 B1.out.2.2 HG.out.2.2.2.1 HG.out.2.2.2.2.1;have K:=(qsd (ai k1 (ai k2 k3)));clear hz k1 k2 k3;go_wp2;refine early13 Tryz.results36 Of1_d K.out.1 K.out.2.1 K.out.2.2 HG.out.2.2.1 HG.out.2.2.2.2.1 ((bsd_zero _).trans HXE.out.1) HXE.out.2 (by simp [go_sem]) ?_ ?_ <;> rfl
   · have d1:decide (n<1)=false:=decide_eq_false hn1
     by_cases hn2:1099511627776<n
     · rw [if_pos (.inr hn2)] at hz
       have HXE:=qsd (Prod.mk.inj hz);obtain ⟨k1,k2,k3⟩:=seterr13 1 B1.out.1 B1.out.2.1 B1.out.2.2 HG.out.2.2.2.1 HG.out.2.2.2.2.1;have K:=(qsd (ai k1 (ai k2 k3)));clear hz k1 k2 k3;go_wp2;refine early13 Tryz.results36 Of1_d K.out.1 K.out.2.1 K.out.2.2 HG.out.2.2.1 HG.out.2.2.2.2.1 ((bsd_zero _).trans HXE.out.1) HXE.out.2 (by simp [go_sem]) ?_ ?_ <;> rfl
     · have d2:decide (1099511627776<n)=false:=decide_eq_false hn2
       rw [if_neg (by omega)] at hz
       obtain ⟨N,hN⟩:∃ N:Nat,n=(N:Int):=⟨n.toNat,by omega⟩
       subst hN;rw [Int.toNat_natCast] at hz;have hnN:N<2^41:=by omega
       have F1:=qsd (int_fm N hnN)
       have HI:Hid (∀ u:World,Tab u→Calls Tryz.prog 69 #[.int .i64 (N:Nat)] u fun r w'=>(∃ v,r=.returned (.agg #[.bool (dN (mkS false N 0)),v,.int .i64 (dE (mkS false N 0))])∧Nt u.heap.size w' v (dX (mkS false N 0)))∧Below u.heap.size u w'):=fun u hT=>by
        have:=Int_any (N:Nat) u hT (by omega) (by omega)
        rw [decide_eq_false (by omega),Int.natAbs_natCast] at this
        exact this
       obtain ⟨⟨xl,el⟩,hl⟩:∃ z,qoR ng Xn ex N mode=z:=⟨_,rfl⟩;rw [hl] at hz;have hz1:(bsd el xl,el)=(X,E):=hz;have HXE:=qsd (Prod.mk.inj hz1)
       have HR:Hid (∀ (u:World) (q:Option Addr) (cq:Nat),Tab u→Av u (.slice a la ca) Xn→Nt 0 u (.slice q (ws (dX (mkS false N 0))).length cq) (dX (mkS false N 0))→Calls Tryz.prog 47 #[.agg #[.bool ng,.slice a la ca,.int .i64 ex,.bool (dN (mkS false N 0)),.slice q (ws (dX (mkS false N 0))).length cq,.int .i64 (dE (mkS false N 0))],.int .i64 mode] u fun r w'=>r=.returned (.tuple #[.float .f64 xl,.int .i64 el])∧Below u.heap.size u w'):=fun u q cq hT n1 n2=>by
        have:=Quot11 (w:=u) (n:=ng) (m:=dN (mkS false N 0)) (X:=Xn) (Y:=dX (mkS false N 0)) (e:=ex) (f:=dE (mkS false N 0)) mode ⟨n1,n2.av (Nat.le_trans F1.out.len (by decide)),HX.out.2.2,F1.out.rng⟩ hT
        rw [show quoR rndS ⟨ng,.slice a la ca,Xn,ex,dN (mkS false N 0),.slice q (ws (dX (mkS false N 0))).length cq,dX (mkS false N 0),dE (mkS false N 0)⟩ mode=(xl,el) from hl] at this
        exact this
       obtain ⟨ow,how⟩:∃ o,mkS false N 0=o:=⟨_,rfl⟩;rw [how] at HR HI F1;clear hz hz1 hl how hnN
       go_upto_region 6 with fail
       have hdr:=(Below.refl V.heap.size V).drew;have BB:=qsd (ai (B1.out.1.drew) (ai (B1.out.2.1.drew) (ai (B1.out.2.2.trans (hdr.mono B1.out.2.2.size)) (BD1.out.drew))));clear hdr B1 BD1 r1 r2;have p0:=BB.out.2.2.2.cell 0 _ rfl;have p1:=BB.out.2.2.2.cell 1 _ rfl;have p2:=BB.out.2.2.2.cell 2 _ rfl;have hne1:ge≠gx:=HG.out.2.2.2.2.1;have hne2:gx≠ge:=fun h=>HG.out.2.2.2.2.1 h.symm
       refine calm13 ?_
       go_region_with (first
        | (go_at_call 47
           with_reducible refine (HR.out _ a2 c2 (HX.out.1.belows BB.out.2.2.1) (HX.out.2.1.below BB.out.2.2.1) Q2.out).mono ?_
           rintro r v ⟨rfl,hb⟩;have BB:=qsd (ai (BB.out.1.below hb BB.out.1.lt) (ai (BB.out.2.1.below hb BB.out.2.1.lt) (BB.out.2.2.1.trans (hb.mono BB.out.2.2.1.size))));have t1:=BB.out.1.cell 0 _ rfl;have t2:=BB.out.1.frozen 0;have t3:=BB.out.2.1.cell 0 _ rfl;have t4:=BB.out.2.1.frozen 0;clear hb p0 p1 p2)
        | (go_at_call 69
           with_reducible refine (HI.out _ (HX.out.1.belows BB.out.2.2.1)).mono ?_
           rintro r v ⟨⟨p,rfl,hN⟩,hb⟩;obtain ⟨a2,c2,rfl,hN0⟩:=Lo.shape F1.out hN;have BB:=qsd (ai (BB.out.1.below hb BB.out.1.lt) (ai (BB.out.2.1.below hb BB.out.2.1.lt) (ai (BB.out.2.2.1.trans (hb.mono BB.out.2.2.1.size)) (BB.out.2.2.2.below hb BB.out.2.2.2.lt))));have Q2:=qsd hN0;have p0:=BB.out.2.2.2.cell 0 _ rfl;have p1:=BB.out.2.2.2.cell 1 _ rfl;have p2:=BB.out.2.2.2.cell 2 _ rfl;clear hb hN hN0))
       all_goals
        clear HR HI Q2;go_wp2;refine finish13 Tryz.results36 Of1_d BB.out.1 BB.out.2.1 BB.out.2.2 HG.out.2.2.1 HG.out.2.2.2.1 HG.out.2.2.2.2.1 HXE.out.1 HXE.out.2 (fun _=>by simp [go_sem]) ?_ ?_ <;> rfl
 · rw [if_neg h0] at hz
   have HXE:=qsd (Prod.mk.inj hz);have h1:(ea==0)=false:=by simp [h0]
   clear hz HA;go_wp2;refine early13 Tryz.results36 Of1_d B1.out.1 B1.out.2.1 B1.out.2.2 HG.out.2.2.1 HG.out.2.2.2.2.1 ((bsd_zero _).trans HXE.out.1) HXE.out.2 (by simp [go_sem]) ?_ ?_ <;> rfl
end
section
open Go.RowKit J
theorem sS_bd20 {xs:List Nat}(hW:W64 xs) (hl:xs.length≤4096):(0≤(sS xs).n∧(sS xs).n≤65536)∧(0≤(sS xs).u∧(sS xs).u≤65536)∧(0≤(sS xs).d∧(sS xs).d≤65536)∧(0≤(sS xs).a∧(sS xs).a≤65536)∧(sS xs).a-(sS xs).n-(sS xs).u-(sS xs).d=((Ps.fin xs).length:Int):=by
 have h:=fin_count (xs:=xs);rw [sS_cn hW];simp only;omega
theorem rf_bad20 {s:Sp}{mode a b:Int}(h:mode<0∨4<mode):rfE20 s mode a b=1∧askE mode=1:=by
 unfold rfE20 askE;exact ⟨if_pos (by rcases h with h | h;exact .inl h;exact .inr (.inl h)),if_pos h⟩
theorem rf_good20 {xs:List Nat}{mode a b:Int}(h:¬ (mode<0∨4<mode)) (hl:xs.length≤4096):rfE20 (sS xs) mode a b=sfE a b xs∧askE mode=0:=by
 refine ⟨?_,by unfold askE;rw [if_neg h]⟩
 unfold rfE20 sfE Ps.rf;have hl2:¬ 65536<xs.length:=by omega
 by_cases hm:may a b=false
 · rw [if_pos (show mode<0∨4<mode∨may a b=false from .inr (.inr hm)),if_pos hm]
 · rw [if_neg (show ¬ (mode<0∨4<mode∨may a b=false) from by rintro (q | q | q);exact h (.inl q);exact h (.inr q);exact hm q),if_neg hm,if_neg hl2]
theorem mean_parts {xs:List Nat}(mode a b:Int) (hW:W64 xs) (hl:xs.length≤4096) :
 meanR xs mode a b=(if rfE20 (sS xs) mode a b=0 then
  (if (vd (snd (sS xs).n (sS xs).u (sS xs).d (sS xs).m (sS xs).p (sS xs).a&&may a b) (sS xs).n (sS xs).u (sS xs).d a b).2=true then ((vd (snd (sS xs).n (sS xs).u (sS xs).d (sS xs).m (sS xs).p (sS xs).a&&may a b) (sS xs).n (sS xs).u (sS xs).d a b).1,0)
   else if ((Ps.fin xs).length:Int)=0 then (0,3) else if vS xs=0 then (nt (snd (sS xs).n (sS xs).u (sS xs).d (sS xs).m (sS xs).p (sS xs).a) (sS xs).n (sS xs).u (sS xs).d (sS xs).m (sS xs).p (sS xs).a mode,0)
   else ofR13 (dN (exV (vS xs))) (dX (exV (vS xs))) (dE (exV (vS xs))) (Ps.fin xs).length mode)
  else (0,rfE20 (sS xs) mode a b)):=by
 by_cases h0:mode<0∨4<mode
 · obtain ⟨e1,e2⟩:=rf_bad20 (s:=sS xs) (a:=a) (b:=b) h0
   unfold meanR;rw [e1,e2,if_neg (show ¬ (1:Int)=0 by decide),if_neg (show ¬ (1:Int)=0 by decide)]
 · obtain ⟨e1,e2⟩:=rf_good20 (xs:=xs) (a:=a) (b:=b) h0 hl
   unfold meanR;rw [e1,e2,if_pos rfl]
   by_cases he:sfE a b xs=0
   · rw [if_pos he,if_pos he]
     split
     · rfl
     · unfold levR
       by_cases e0:Ps.fin xs=[]
       · rw [if_pos e0,if_pos (by rw [e0];rfl)];rfl
       · have hp:0<(Ps.fin xs).length:=List.length_pos_iff.2 e0
         rw [if_neg e0,vS_fin hW,if_neg (show ¬ ((Ps.fin xs).length:Int)=0 by omega)]
         by_cases v0:vS xs=0
         · rw [if_pos v0,if_pos v0];rfl
         · rw [if_neg v0,if_neg v0]
           unfold ofR13;rw [if_pos e2];have hle:(Ps.fin xs).length≤xs.length:=List.length_filter_le _ _;rw [if_neg (show ¬ (((Ps.fin xs).length:Int)<1∨1099511627776<((Ps.fin xs).length:Int)) by omega),Int.toNat_natCast]
           rfl
   · rw [if_neg he,if_neg he]
theorem Mean20 {w:World}{lo hi g n:Nat}{xs:List Nat}(mode a b:Int) (h:Sl w lo hi g n xs) (hT:Tab w) (z:Nat×Int) (hz:meanR xs mode a b=z) :
 Calls Tryz.prog 9 #[.pointer (some ⟨g,0,none⟩),.int .i64 mode,.agg #[.int .i64 a,.int .i64 b]] w fun r w'=>r=.returned (.tuple #[.float .f64 z.1,.int .i64 z.2])∧Below w.heap.size w w':=by
 obtain ⟨gl,b1,b2,gs,gq,s,s1,c1,s2,c2,L,R1,R2,hv⟩:=h;obtain ⟨X,E⟩:=z;simp only;have hl:xs.length≤4096:=Nat.le_trans hv.hc hv.hn;rw [mean_parts mode a b hv.hW hl] at hz;obtain ⟨k0,k1,k2,k3,k4⟩:=sS_bd20 hv.hW hl;obtain ⟨W,hWW⟩:∃ W,W=w.alloc (Obj.cells #[.int .i64 a,.int .i64 b] 24):=⟨_,rfl⟩;have hb0:Below w.heap.size w W:=by rw [hWW];exact bel_alloc _ _
 have hP:Bl W w.heap.size 24 [.int .i64 a,.int .i64 b]:=by rw [hWW];exact Bl.new _ _ [_,_]
 have hA:=hv.hS.1;rw [(aI_vS xs).1,(aI_vS xs).2] at hA;have HS:=hid (Specials7 gs _ _ W (hA.bel hb0));have HRF:=hid (fun u:World=>refused20 (sS xs) mode a b u k0 k1 k2)
 have HFI:=hid (fun (u:World) (_:Below w.heap.size w u)=>finite20 (sS xs) u k0 k1 k2 k3)
 rw [k4] at HFI;obtain ⟨re,hre⟩:∃ e,e=rfE20 (sS xs) mode a b:=⟨_,rfl⟩;rw [←hre] at HRF hz;obtain ⟨fl,hfl⟩:∃ e,e=(Ps.fin xs).length:=⟨_,rfl⟩;rw [←hfl] at HFI hz;obtain ⟨t,ht⟩:∃ t,t=sS xs:=⟨_,rfl⟩;rw [←ht] at HS HRF HFI hA hz;obtain ⟨tn,tu,td,tm,tp,ta⟩:=t;simp only [Sp.agg] at HS HRF HFI hz;have HVD:=hid (fun u:World=>Verdict_any tn tu td tm tp ta a b u)
 have HNT:=hid (fun u:World=>Nought_any tn tu td tm tp ta mode u)
 obtain ⟨⟨vx,vt⟩,hvd⟩:∃ v,v=vd (snd tn tu td tm tp ta&&may a b) tn tu td a b:=⟨_,rfl⟩;obtain ⟨nx,hnt⟩:∃ v,v=nt (snd tn tu td tm tp ta) tn tu td tm tp ta mode:=⟨_,rfl⟩;rw [←hvd] at HVD hz;rw [←hnt] at HNT hz;simp only at HVD hz;have d:W.cell? ⟨g,11,none⟩=some (.pointer (some ⟨gs,0,none⟩)):=(hv.bl.below hb0 hv.bl.lt).cell 11 _ rfl;have HW:=(qsd (ai hWW (ai hb0 (ai hP (ai hv.bl (ai hA (ai hT (ai hl hfl))))))));have hge:∀ u:World,Below w.heap.size w u→Calls Tryz.prog 32 #[.pointer (some ⟨gs,0,none⟩)] u fun r w'=>∃ v,r=.returned (.agg #[.bool (dN (exV (vS xs))),v,.int .i64 (dE (exV (vS xs)))])∧Nt u.heap.size w' v (dX (exV (vS xs)))∧Below u.heap.size u w':=fun u hu=>Exact7 gs (vS xs) _ u (hA.bel hu) (hT.belows hu)
 have HEX:=hid hge;have FV:=qsd (vS_fm hv.hW (by omega))
 obtain ⟨o,ho⟩:∃ o,o=exV (vS xs):=⟨_,rfl⟩;rw [←ho] at HEX FV hz;have HO:=qsd ho;clear ho;have HXW:=qsd hv.hW;obtain ⟨fle,hfle⟩:∃ e:Int,e=(fl:Int):=⟨_,rfl⟩;rw [←hfle] at HFI hz;have HFL:=qsd hfle;clear hv hA hb0 hWW hP hT k0 k1 k2 k3 k4 hvd hnt ht hre hfl hl hge hfle;go_enter Tryz.func9,Tryz.ntmps9
 go_upto_region 1 with fail
 rw [←HW.out.1]
 go_wp2_with fail
 refine HS.out.mono ?_;rintro r w1 ⟨rfl,hb1⟩
 go_upto_region 2 with fail
 obtain ⟨V,hV⟩:∃ V,V=w1.alloc (Obj.cells #[.int .i64 tn,.int .i64 tu,.int .i64 td,.int .i64 tm,.int .i64 tp,.int .i64 ta] 59):=⟨_,rfl⟩;rw [←hV];have hB6:Bl V w1.heap.size 59 [.int .i64 tn,.int .i64 tu,.int .i64 td,.int .i64 tm,.int .i64 tp,.int .i64 ta]:=by rw [hV];exact Bl.new _ _ [_,_,_,_,_,_]
 have hbV:Below w1.heap.size w1 V:=by rw [hV];exact bel_alloc _ _
 obtain ⟨gS,hgS⟩:∃ q,q=w1.heap.size:=⟨_,rfl⟩;have hbT:Below w.heap.size w V:=(HW.out.2.1.trans (hb1.mono HW.out.2.1.size)).trans (hbV.mono (by have:=HW.out.2.1.size;have:=hb1.size;omega))
 have hPV:Bl V w.heap.size 24 [.int .i64 a,.int .i64 b]:=(HW.out.2.2.1.below hb1 HW.out.2.2.1.lt).below hbV (by have:=HW.out.2.2.1.lt;have:=hb1.size;omega)
 rw [←hgS] at hB6 ⊢;have KK:=(qsd (ai hB6 (ai hbT hPV)));clear hV hbV hb1 hgS HS d;have q0:=hB6.cell 0 _ rfl;have q1:=hB6.cell 1 _ rfl;have q2:=hB6.cell 2 _ rfl;have q3:=hB6.cell 3 _ rfl;have q4:=hB6.cell 4 _ rfl;have q5:=hB6.cell 5 _ rfl;have p0:=hPV.cell 0 _ rfl;have p1:=hPV.cell 1 _ rfl;clear hB6 hbT hPV
 go_wp2_with fail
 refine (HRF.out _).mono ?_;rintro r v1 ⟨rfl,hb1⟩;have K1:=qsd (ai (KK.out.1.below hb1 KK.out.1.lt) (ai (KK.out.2.1.trans (hb1.mono KK.out.2.1.size)) (KK.out.2.2.below hb1 KK.out.2.2.lt)));clear hb1 KK HRF q0 q1 q2 q3 q4 q5 p0 p1
 by_cases hr0:re=0
 case neg =>
  rw [if_neg hr0] at hz;obtain ⟨rfl,rfl⟩:=Prod.mk.inj hz;have t0:(re==0)=false:=by simp [hr0]
  clear hz;go_wp2;refine bodyPost_ret (v:=.tuple #[.float .f64 0,.int .i64 re]) (by simp [results,Tryz.results9,go_sem]) rfl ?_
  exact ⟨rfl,K1.out.2.1⟩
 case pos =>
 rw [if_pos hr0] at hz;subst hr0;have q0:=K1.out.1.cell 0 _ rfl;have q1:=K1.out.1.cell 1 _ rfl;have q2:=K1.out.1.cell 2 _ rfl;have q3:=K1.out.1.cell 3 _ rfl;have q4:=K1.out.1.cell 4 _ rfl;have q5:=K1.out.1.cell 5 _ rfl;have p0:=K1.out.2.2.cell 0 _ rfl;have p1:=K1.out.2.2.cell 1 _ rfl
 go_wp2_with fail
 refine (HVD.out _).mono ?_;rintro r v2 ⟨rfl,hb2⟩;have K2:=qsd (ai (K1.out.1.below hb2 K1.out.1.lt) (ai (K1.out.2.1.trans (hb2.mono K1.out.2.1.size)) (K1.out.2.2.below hb2 K1.out.2.2.lt)));clear hb2 K1 HVD q0 q1 q2 q3 q4 q5 p0 p1
 cases vt
 case true =>
  rw [if_pos rfl] at hz;obtain ⟨rfl,rfl⟩:=Prod.mk.inj hz;clear hz;go_wp2;refine bodyPost_ret (v:=.tuple #[.float .f64 vx,.int .i64 0]) (by simp [results,Tryz.results9,go_sem]) rfl ?_
  exact ⟨rfl,K2.out.2.1⟩
 case false =>
 rw [if_neg (by decide)] at hz
 have q0:=K2.out.1.cell 0 _ rfl;have q1:=K2.out.1.cell 1 _ rfl;have q2:=K2.out.1.cell 2 _ rfl;have q3:=K2.out.1.cell 3 _ rfl;have q4:=K2.out.1.cell 4 _ rfl;have q5:=K2.out.1.cell 5 _ rfl;have d:v2.cell? ⟨g,11,none⟩=some (.pointer (some ⟨gs,0,none⟩)):=(HW.out.2.2.2.1.below K2.out.2.1 HW.out.2.2.2.1.lt).cell 11 _ rfl;have HB0:Aside (Below w.heap.size w v2.drew):=K2.out.2.1.drew;have HKS:Aside (∀ u:World,Bl u gS 59 [.int .i64 tn,.int .i64 tu,.int .i64 td,.int .i64 tm,.int .i64 tp,.int .i64 ta]→Below w.heap.size w u→(u.cell? ⟨g,11,none⟩=some (.pointer (some ⟨gs,0,none⟩))∧u.cell? ⟨gS,0,none⟩=some (.int .i64 tn)∧u.cell? ⟨gS,1,none⟩=some (.int .i64 tu)∧u.cell? ⟨gS,2,none⟩=some (.int .i64 td)∧u.cell? ⟨gS,3,none⟩=some (.int .i64 tm)∧u.cell? ⟨gS,4,none⟩=some (.int .i64 tp)∧u.cell? ⟨gS,5,none⟩=some (.int .i64 ta))):=qsd fun u h1 h2=>⟨(HW.out.2.2.2.1.below h2 HW.out.2.2.2.1.lt).cell 11 _ rfl,h1.cell 0 _ rfl,h1.cell 1 _ rfl,h1.cell 2 _ rfl,h1.cell 3 _ rfl,h1.cell 4 _ rfl,h1.cell 5 _ rfl⟩
 have kS:=qsd (HKS.out v2.drew K2.out.1.drew HB0.out);have kA:=qsd (fun ob:Obj=>HKS.out (v2.alloc ob).drew (K2.out.1.alloc ob).drew (K2.out.2.1.trans ((bel_alloc v2 ob).mono K2.out.2.1.size)).drew)
 have CE:=hid (HEX.out v2.drew HB0.out);have HBA:Aside (Below w.heap.size w (v2.alloc (Obj.cells #[.bool false,.slice none 0 0,.int .i64 0] 67)).drew∧Bl (v2.alloc (Obj.cells #[.bool false,.slice none 0 0,.int .i64 0] 67)).drew v2.heap.size 67 [.bool false,.slice none 0 0,.int .i64 0]∧Bl (v2.alloc (Obj.cells #[.bool false,.slice none 0 0,.int .i64 0] 67)).drew gS 59 [.int .i64 tn,.int .i64 tu,.int .i64 td,.int .i64 tm,.int .i64 tp,.int .i64 ta]):=qsd ⟨(K2.out.2.1.trans ((bel_alloc v2 _).mono K2.out.2.1.size)).drew,(Bl.new v2 67 [.bool false,.slice none 0 0,.int .i64 0]).drew,(K2.out.1.alloc _).drew⟩;have CEA:=hid (HEX.out (v2.alloc (Obj.cells #[.bool false,.slice none 0 0,.int .i64 0] 67)).drew HBA.out.1);have kC:=qsd (fun a b c:Value=>ai kS.out True.intro)
 go_upto_region 8 with fail
 clear q0 q1 q2 q3 q4 q5 d
 go_cut [12,13] from 34 to 40 (fun pv nv wx=>∃ (gd:Nat) (ad:Option Addr) (cd:Nat),pv=.pointer (some ⟨gd,0,none⟩)∧nv=.int .i64 fle∧Aside (Bl wx gd 67 [.bool (dN o),.slice ad (ws (dX o)).length cd,.int .i64 (dE o)]∧Nt 0 wx (.slice ad (ws (dX o)).length cd) (dX o)∧Below w.heap.size w wx∧Bl wx gS 59 [.int .i64 tn,.int .i64 tu,.int .i64 td,.int .i64 tm,.int .i64 tp,.int .i64 ta]))
 case first =>
  go_region_held3 (fun w'=>w'.cell? ⟨g,11,none⟩=some (.pointer (some ⟨gs,0,none⟩))∧w'.cell? ⟨gS,0,none⟩=some (.int .i64 tn)∧w'.cell? ⟨gS,1,none⟩=some (.int .i64 tu)∧w'.cell? ⟨gS,2,none⟩=some (.int .i64 td)∧w'.cell? ⟨gS,3,none⟩=some (.int .i64 tm)∧w'.cell? ⟨gS,4,none⟩=some (.int .i64 tp)∧w'.cell? ⟨gS,5,none⟩=some (.int .i64 ta)) (first | with_reducible exact kS.out | with_reducible exact kA.out _ | with_reducible exact (kC.out _ _ _).1) (first
   | (go_at_call 32
      with_reducible refine CE.out.mono ?_
      rintro r u1 ⟨vv,rfl,hN,hb⟩;obtain ⟨ad,cd,rfl,hN0⟩:=Lo.shape FV.out hN;have hbE:Below w.heap.size w u1:=HB0.out.trans (hb.mono HB0.out.size);have BE:=(qsd (ai hbE (ai hN0 (K2.out.1.drew.below hb K2.out.1.lt))));have kS:=qsd (HKS.out u1 BE.out.2.2 hbE);have kA:=qsd (fun ob:Obj=>HKS.out (u1.alloc ob) (BE.out.2.2.alloc ob) (hbE.trans ((bel_alloc u1 ob).mono hbE.size)))
      have CF2:=hid (HFI.out u1 hbE);have CF4:=hid (HFI.out (u1.alloc (Obj.cells #[.bool false,.slice none 0 0,.int .i64 0] 67)) (hbE.trans ((bel_alloc u1 _).mono hbE.size)));clear hb hN hN0 hbE CE CEA)
   | (go_at_call 32
      with_reducible refine CEA.out.mono ?_
      rintro r u1 ⟨vv,rfl,hN,hb⟩;obtain ⟨ad,cd,rfl,hN0⟩:=Lo.shape FV.out hN;have hbE:Below w.heap.size w u1:=HBA.out.1.trans (hb.mono HBA.out.1.size);have BA:=(qsd (ai hbE (ai hN0 (ai (HBA.out.2.2.below hb HBA.out.2.2.lt) (HBA.out.2.1.below hb HBA.out.2.1.lt)))));have kS:=qsd (HKS.out u1 BA.out.2.2.1 hbE);have CF5:=hid (HFI.out u1 hbE);clear hb hN hN0 hbE CE CEA)
   | (go_at_call 33
      with_reducible refine CF2.out.mono ?_
      rintro r u2 ⟨rfl,hb⟩;have hbE:Below w.heap.size w u2:=BE.out.1.trans (hb.mono BE.out.1.size);have BG:=(qsd (ai hbE (ai (BE.out.2.1.below hb) (BE.out.2.2.below hb BE.out.2.2.lt))));have kS:=qsd (HKS.out u2 BG.out.2.2 hbE);have kA:=qsd (fun ob:Obj=>HKS.out (u2.alloc ob) (BG.out.2.2.alloc ob) (hbE.trans ((bel_alloc u2 ob).mono hbE.size)))
      clear hb hbE CF2 CF4)
   | (go_at_call 33
      with_reducible refine CF4.out.mono ?_
      rintro r u2 ⟨rfl,hb⟩;have hz:=bel_alloc u1 (Obj.cells #[.bool false,.slice none 0 0,.int .i64 0] 67);have hbE:Below w.heap.size w u2:=(BE.out.1.trans (hz.mono BE.out.1.size)).trans (hb.mono (Nat.le_trans BE.out.1.size hz.size));have hB3:=(Bl.new u1 67 [.bool false,.slice none 0 0,.int .i64 0]).below hb (by simp)
      have BZ:=(qsd (ai hB3 (ai ((BE.out.2.1.below hz).below hb) (ai hbE ((BE.out.2.2.alloc _).below hb (BE.out.2.2.alloc _).lt)))));have kS:=qsd (HKS.out u2 BZ.out.2.2.2 hbE);have hgS:gS≠u1.heap.size:=Nat.ne_of_lt BE.out.2.2.lt;have hgd:w.heap.size≤u1.heap.size:=BE.out.1.size;have hlt:u1.heap.size≤u1.heap.size:=Nat.le_refl _;have hq:∀ a b c:Value,But u1.heap.size u2 (((u2.setCell ⟨u1.heap.size,0,none⟩ a).setCell ⟨u1.heap.size,1,none⟩ b).setCell ⟨u1.heap.size,2,none⟩ c):=fun a b c=>(((But.refl _ _).set 0 a).set 1 b).set 2 c
      have kC:=qsd (fun a b c:Value=>ai (HKS.out _ (BZ.out.2.2.2.but (hq a b c) hgS) (But.below hbE (hq a b c) hbE.size hgd)) (ai (BZ.out.2.2.2.but (hq a b c) hgS) (ai (But.below hbE (hq a b c) hbE.size hgd) (ai (hq a b c) hlt))))
      have z0:=hB3.cell 0 _ rfl;have z1:=hB3.cell 1 _ rfl;have z2:=hB3.cell 2 _ rfl;have f0:=hB3.frozen 0;have f1:=hB3.frozen 1;have f2:=hB3.frozen 2;clear hb hbE CF2 CF4 hz hB3 hq hgS hgd hlt)
   | (go_at_call 33
      with_reducible refine CF5.out.mono ?_
      rintro r u2 ⟨rfl,hb⟩;have hbE:Below w.heap.size w u2:=BA.out.1.trans (hb.mono BA.out.1.size);have hB3:=BA.out.2.2.2.below hb BA.out.2.2.2.lt;have BZ:=(qsd (ai hB3 (ai (BA.out.2.1.below hb) (ai hbE (BA.out.2.2.1.below hb BA.out.2.2.1.lt)))));have kS:=qsd (HKS.out u2 BZ.out.2.2.2 hbE);have hgS:gS≠v2.heap.size:=Nat.ne_of_lt K2.out.1.lt;have hgd:w.heap.size≤v2.heap.size:=K2.out.2.1.size;have hlt:v2.heap.size≤v2.heap.size:=Nat.le_refl _;have hq:∀ a b c:Value,But v2.heap.size u2 (((u2.setCell ⟨v2.heap.size,0,none⟩ a).setCell ⟨v2.heap.size,1,none⟩ b).setCell ⟨v2.heap.size,2,none⟩ c):=fun a b c=>(((But.refl _ _).set 0 a).set 1 b).set 2 c
      have kC:=qsd (fun a b c:Value=>ai (HKS.out _ (BZ.out.2.2.2.but (hq a b c) hgS) (But.below hbE (hq a b c) hbE.size hgd)) (ai (BZ.out.2.2.2.but (hq a b c) hgS) (ai (But.below hbE (hq a b c) hbE.size hgd) (ai (hq a b c) hlt))))
      have z0:=hB3.cell 0 _ rfl;have z1:=hB3.cell 1 _ rfl;have z2:=hB3.cell 2 _ rfl;have f0:=hB3.frozen 0;have f1:=hB3.frozen 1;have f2:=hB3.frozen 2;clear hb hbE CF5 hB3 hq hgS hgd hlt))
  all_goals
   go_wp2_with fail
   go_meet
   case rel =>
    first
    | exact ⟨_,ad,cd,rfl,rfl,qsd ⟨Bl.new _ _ [_,_,_],BG.out.2.1.below (bel_alloc _ _),BG.out.1.trans ((bel_alloc _ _).mono BG.out.1.size),BG.out.2.2.alloc _⟩⟩
    | exact ⟨_,ad,cd,rfl,rfl,qsd ⟨((BZ.out.1.set 0 _).set 1 _).set 2 _,BZ.out.2.1.off12 (show Dk _ _ false (.slice none 0 0) 0 from BZ.out.1) _ _ _,(kC.out _ _ _).2.2.1,(kC.out _ _ _).2.1⟩⟩
 obtain ⟨gd,ad,cd,rfl,rfl,HC⟩:=hcut;clear CE CEA kS kA kC HBA HB0 HKS K2 HFI HEX;have x0:=HC.out.1.cell 0 _ rfl;have x1:=HC.out.1.cell 1 _ rfl;have x2:=HC.out.1.cell 2 _ rfl
 by_cases hf:fle=0
 · rw [if_pos hf] at hz
   obtain ⟨rfl,rfl⟩:=Prod.mk.inj hz;have t0:(fle==0)=true:=by simp [hf]
   clear hz HFL HNT hf;go_wp2;refine bodyPost_ret (v:=.tuple #[.float .f64 0,.int .i64 3]) (by simp [results,Tryz.results9,go_sem]) rfl ?_
   exact ⟨rfl,HC.out.2.2.1⟩
 · rw [if_neg hf] at hz
   have t0:(fle==0)=false:=by simp [hf]
   obtain ⟨k,hk,hbd⟩:=vS_bd (xs:=xs) HXW.out (by have:=HW.out.2.2.2.2.2.2.1;omega)
   have hsx:=sgn_ex (V:=vS xs) k (by omega) hbd
   rw [←HO.out] at hsx;obtain ⟨a1,a2⟩:=Nt.arg' HC.out.2.1 (Nat.le_trans FV.out.len (by decide))
   have HSG:=hid (Sign_any3 a2 (dN o) (dE o));obtain ⟨sg,hsg⟩:∃ q,q=sgn (dN o) (val (ws (dX o))):=⟨_,rfl⟩;rw [←hsg] at HSG hsx
   have HOF:Hid (vS xs≠0→∀ u:World,Below wc.heap.size wc u→Calls Tryz.prog 36 #[.agg #[.bool (dN o),.slice ad (ws (dX o)).length cd,.int .i64 (dE o)],.int .i64 fle,.int .i64 mode] u fun r w'=>r=.returned (.tuple #[.float .f64 X,.int .i64 E])∧Below u.heap.size u w'):=by
    intro hv0 u hu;rw [if_neg hv0] at hz;exact Of13 (dN o) ad (ws (dX o)).length cd (dX o) (dE o) fle mode u (HW.out.2.2.2.2.2.1.belows (HC.out.2.2.1.trans (hu.mono HC.out.2.2.1.size))) ((HC.out.2.1.below hu).av (Nat.le_trans FV.out.len (by decide))) FV.out.rng (X,E) hz
   clear a1 a2 hk hbd hsg hf
   go_wp2_with fail
   refine HSG.out.mono ?_;rintro r v4 ⟨rfl,hb4⟩;have KC:=qsd (ai (HC.out.1.below hb4 HC.out.1.lt) (ai (HC.out.2.2.1.trans (hb4.mono HC.out.2.2.1.size)) (ai (HC.out.2.2.2.below hb4 HC.out.2.2.2.lt) hb4)));clear hb4 HSG x0 x1 x2
   by_cases v0:vS xs=0
   · have t1:=hsx.1 v0
     rw [if_pos v0] at hz;obtain ⟨rfl,rfl⟩:=Prod.mk.inj hz;have t2:(sg==0)=true:=by simp [t1]
     have q0:=KC.out.2.2.1.cell 0 _ rfl;have q1:=KC.out.2.2.1.cell 1 _ rfl;have q2:=KC.out.2.2.1.cell 2 _ rfl;have q3:=KC.out.2.2.1.cell 3 _ rfl;have q4:=KC.out.2.2.1.cell 4 _ rfl;have q5:=KC.out.2.2.1.cell 5 _ rfl;clear hz hsx t1 v0 HOF
     go_wp2_with fail
     refine (HNT.out _).mono ?_;rintro r v5 ⟨rfl,hb5⟩;have KE:=qsd (KC.out.2.1.trans (hb5.mono KC.out.2.1.size));clear hb5 HNT;go_wp2;refine bodyPost_ret (v:=.tuple #[.float .f64 nx,.int .i64 0]) (by simp [results,Tryz.results9,go_sem]) rfl ?_
     exact ⟨rfl,KE.out⟩
   · have t2:=hsx.2.1 v0
     have y0:=KC.out.1.cell 0 _ rfl;have y1:=KC.out.1.cell 1 _ rfl;have y2:=KC.out.1.cell 2 _ rfl;have CO:=hid (HOF.out v0 v4 KC.out.2.2.2);clear hz hsx v0 HOF HNT
     go_wp2_with fail
     refine CO.out.mono ?_;rintro r v5 ⟨rfl,hb5⟩;have KE:=qsd (KC.out.2.1.trans (hb5.mono KC.out.2.1.size));clear hb5 CO;go_wp2;refine bodyPost_ret (v:=.tuple #[.float .f64 X,.int .i64 E]) (by simp [results,Tryz.results9,go_sem]) rfl ?_
     exact ⟨rfl,KE.out⟩
def Bd (m:Nat) (V:Int):Prop:=V.natAbs≤2^m
theorem Bd.mono {m k:Nat}{V:Int}(h:Bd m V) (hk:m≤k):Bd k V:=Nat.le_trans h (Nat.pow_le_pow_right (by decide) hk)
theorem Bd.lt {m:Nat}{V:Int}(h:Bd m V):V.natAbs<2^(m+1):=by
 unfold Bd at h;rw [Nat.pow_succ];have:=Nat.two_pow_pos m;omega
theorem Bd.mul {a b:Nat}{V W:Int}(h:Bd a V) (k:Bd b W):Bd (a+b) (V*W):=by
 unfold Bd at *;rw [Int.natAbs_mul,Nat.pow_add];exact Nat.mul_le_mul h k
theorem Bd.add {m:Nat}{V W:Int}(h:Bd m V) (k:Bd m W):Bd (m+1) (V+W):=by
 unfold Bd at *;rw [Nat.pow_succ];omega
theorem Bd.neg {m:Nat}{V:Int}(h:Bd m V):Bd m (-V):=by
 unfold Bd at *;rw [Int.natAbs_neg];exact h
theorem Bd.sub {m:Nat}{V W:Int}(h:Bd m V) (k:Bd m W):Bd (m+1) (V-W):=by
 rw [Int.sub_eq_add_neg];exact h.add k.neg
theorem Bd.nat {n k:Nat}(h:n≤2^k):Bd k (n:Int):=h
def gV (u:Nat) (V:Int):Option (Bool×Nat×Int):=mkS (decide (V<0)) V.natAbs (-(u:Int))
theorem g_iv {u m:Nat}{V:Int}(hu:u≤100000) (hm:m≤99999) (hV:Bd m V):Iv (gV u V) (-(u:Int)) (((m+1:Nat):Int)-(u:Int)):=by
 unfold gV;refine mkS_iv _ _ _ _ _ (.inr ⟨by omega,?_⟩) (by omega) (by omega) (by omega)
 have:=bl_lt_pow hV.lt;omega
theorem g_fm {u m:Nat}{V:Int}(hu:u≤100000) (hm:m≤99999) (hV:Bd m V):Fm (gV u V):=(g_iv hu hm hV).fm
theorem val_g {u:Nat}{V:Int}(h:Fm (gV u V)) (hu:u≤1000000) (k:Nat) (hk:k+u=EK):valO (gV u V)=V*((2^k:Nat):Int):=by
 unfold gV at h ⊢;rw [val_mk h (by omega) k (by unfold EK at hk;omega),sg1_natAbs]
theorem exK (u:Nat) (hu:u≤1000000):∃ k,k+u=EK:=⟨EK-u,by unfold EK;omega⟩
theorem g_mul {u v a b:Nat}{V W:Int}(hu:u≤50000) (hv:v≤50000) (ha:a≤40000) (hb:b≤40000) (h1:Bd a V) (h2:Bd b W):mulD (gV u V) (gV v W)=gV (u+v) (V*W):=by
 have F:=g_iv (u:=u) (by omega) (by omega) h1
 have G:=g_iv (u:=v) (by omega) (by omega) h2
 have hF:=(F.mul G (by omega) (by omega) (by omega)).fm
 have hG:=g_fm (u:=u+v) (by omega) (by omega) (h1.mul h2)
 refine valO_inj hF hG ?_;obtain ⟨k1,e1⟩:=exK u (by omega)
 obtain ⟨k2,e2⟩:=exK v (by omega)
 obtain ⟨k3,e3⟩:=exK (u+v) (by omega)
 have h:=val_mul F.fm G.fm hF;rw [val_g F.fm (by omega) k1 e1,val_g G.fm (by omega) k2 e2] at h
 rw [val_g hG (by omega) k3 e3]
 have hM:=M_pos;refine Int.eq_of_mul_eq_mul_right (a:=(MM:Int)) (by omega) (h.trans ?_)
 have e:((2^k1:Nat):Int)*((2^k2:Nat):Int)=((2^k3:Nat):Int)*(MM:Int):=by
  rw [←Int.natCast_mul,←Int.natCast_mul,M_eq,←Nat.pow_add,←Nat.pow_add,show k1+k2=k3+EK by omega]
 rw [Int.mul_assoc (V*W),←e,Int.mul_assoc,Int.mul_assoc,Int.mul_left_comm W]
theorem g_add {u m:Nat}{V W:Int}(hu:u≤100000) (hm:m≤90000) (h1:Bd m V) (h2:Bd m W):addD (gV u V) (gV u W)=gV u (V+W):=by
 have F:=g_iv (u:=u) (by omega) (by omega) h1
 have G:=g_iv (u:=u) (by omega) (by omega) h2
 have hF:=(F.add G (by omega) (by omega) (by omega)).fm
 have hG:=g_fm (u:=u) (by omega) (by omega) (h1.add h2)
 refine valO_inj hF hG ?_;obtain ⟨k1,e1⟩:=exK u (by omega)
 rw [val_add F.fm G.fm hF,val_g F.fm (by omega) k1 e1,val_g G.fm (by omega) k1 e1,val_g hG (by omega) k1 e1,Int.add_mul]
theorem g_neg (u:Nat) (W:Int):negO (gV u W)=gV u (-W):=by
 unfold gV;rw [negO_mkS,Int.natAbs_neg]
 by_cases h:W=0
 · subst h;rw [Int.natAbs_zero,mkS_zero,mkS_zero]
 · congr 1
   by_cases h1:W<0
   · rw [decide_eq_true h1,decide_eq_false (by omega)];rfl
   · rw [decide_eq_false h1,decide_eq_true (by omega)];rfl
theorem g_sub {u m:Nat}{V W:Int}(hu:u≤100000) (hm:m≤90000) (h1:Bd m V) (h2:Bd m W):addD (gV u V) (mkS (!dN (gV u W)) (dX (gV u W)) (dE (gV u W)))=gV u (V-W):=by
 rw [negO_reform (g_fm (u:=u) (by omega) (by omega) h2).sm,g_neg,g_add hu hm h1 h2.neg,←Int.sub_eq_add_neg]
theorem g_zero (u:Nat):gV u 0=o00:=mkS_zero _ _
def tS (f:Nat→Int):Nat→Int
 | 0=>0
 | n+1=>tS f n+f n
theorem tS_le {f:Nat→Int}{m:Nat}:∀ {n:Nat},(∀ i,i<n→Bd m (f i))→(tS f n).natAbs≤n*2^m
 | 0,_=>by simp [tS]
 | n+1,h=>by
   have h1:=tS_le (n:=n) fun i hi=>h i (by omega)
   have h2:=h n (by omega)
   unfold Bd at h2
   show (tS f n+f n).natAbs≤_
   rw [Nat.succ_mul];omega
theorem tS_bd {f:Nat→Int}{m n:Nat}(h:∀ i,i<n→Bd m (f i)) (hn:n≤65536) (k:Nat) (hk:k≤n):Bd (m+16) (tS f k):=by
 have h1:=tS_le (n:=k) fun i hi=>h i (by omega)
 have h2:k*2^m≤65536*2^m:=Nat.mul_le_mul_right _ (by omega)
 unfold Bd;rw [Nat.pow_add,Nat.mul_comm (2^m)];exact Nat.le_trans h1 h2
theorem fv_bd {x:Nat}(hx:x<18446744073709551616) (fx:finW x):Bd 2098 (fvW x):=by
 obtain ⟨m,hm⟩:∃ m,m=2098:=⟨_,rfl⟩;have h:Bd m (fvW x):=Nat.le_of_lt (top_fv hx fx m hm);rw [hm] at h;exact h
attribute [irreducible] Bd
end
section
open Go Go.RowKit J
theorem st3_bel12 {B g:Nat}{a w:World}(h:Below B a w) (hB:B≤w.heap.size) (hg:B≤g) (x y z:Value):Below B a (st3 w g x y z):=But.below h (st3_but12 g w x y z) hB hg
theorem row14d:∃ d:TypeDesc,Tryz.prog.underlying 67=some d∧d.isRow=true:=by
 have h:(Tryz.prog.underlying 67).any (·.isRow)=true:=by kernel_rfl
 cases hd:Tryz.prog.underlying 67 with
 | none=>rw [hd] at h;cases h
 | some d=>rw [hd] at h;exact ⟨d,rfl,h⟩
theorem size14d:(Tryz.prog.info? 67).map (·.size)=some 3:=by kernel_rfl
theorem result14 {fn:Func}{p:Tmp}(h:fn.results=#[.cell p 67]) (tmps:Array Value) (W:World) (g:Nat) (n:Bool) (v:Value) (e:Int) (hp:tmps.getD p undef=.pointer (some ⟨g,0,none⟩)) (hD:Dk W g n v e) :
 (results fn tmps).run Tryz.prog W=.ok (.agg #[.bool n,v,.int .i64 e]) W:=by
 obtain ⟨d,h1,h2⟩:=row14d
 cases d <;> first
  | exact results_cell_row (P:=Tryz.prog) h tmps W g 67 _ _ _ hp hD h1 rfl (by rw [size14d];rfl)
  | exact absurd h2 (by simp [TypeDesc.isRow])
theorem end14 {fn:Func}{p:Tmp}(hfn:fn.results=#[.cell p 67]) {w base:World}{tmps:Array Value}{o q:Option (Bool×Nat×Int)}{a:Option Addr}{c g:Nat}(h2:tmps.getD p undef=.pointer (some ⟨g,0,none⟩))
 (hL:Lo base g q) (hbw:Below w.heap.size w base) (hg:w.heap.size≤g) (hN:Nt 0 base (.slice a (ws (dX o)).length c) (dX o)) :
 bodyPost Tryz.prog fn (fun r w'=>DVal 0 w' r o∧Below w.heap.size w w') .ret ⟨tmps,[]⟩
  (((base.setCell ⟨g,0,none⟩ (.bool (dN o))).setCell ⟨g,1,none⟩ (.slice a (ws (dX o)).length c)).setCell ⟨g,2,none⟩ (.int .i64 (dE o))):=by
 obtain ⟨a0,c0,hD,hM⟩:=hL;exact bodyPost_ret (v:=.agg #[.bool (dN o),.slice a (ws (dX o)).length c,.int .i64 (dE o)]) (result14 hfn _ _ g _ _ _ h2 (hD.set _ _ _)) rfl ⟨⟨_,rfl,hN.off12 hD _ _ _⟩,st3_bel12 hbw hbw.size hg _ _ _⟩
theorem times14_core (w:World) (a b:Option Addr) (ca cb:Nat) (o p q:Option (Bool×Nat×Int)) (F:Fm q)
 (HC:Hid (∀ u:World,Below w.heap.size w u→Calls Tryz.prog 104 #[.agg #[.bool (dN o),.slice a (ws (dX o)).length ca,.int .i64 (dE o)],.agg #[.bool (dN p),.slice b (ws (dX p)).length cb,.int .i64 (dE p)]] u fun r w'=>(∃ v,r=.returned (.tuple #[.agg #[.bool (dN q),v,.int .i64 (dE q)],.int .i64 0])∧Nt u.heap.size w' v (dX q))∧Below u.heap.size u w')) :
 Calls Tryz.prog 106 #[.agg #[.bool (dN o),.slice a (ws (dX o)).length ca,.int .i64 (dE o)],.agg #[.bool (dN p),.slice b (ws (dX p)).length cb,.int .i64 (dE p)]] w fun r w'=>DVal 0 w' r q∧Below w.heap.size w w':=by
 obtain ⟨W,hW⟩:∃ W,W=((w.alloc (Obj.cells #[.bool (dN o),.slice a (ws (dX o)).length ca,.int .i64 (dE o)] 67)).alloc (Obj.cells #[.bool (dN p),.slice b (ws (dX p)).length cb,.int .i64 (dE p)] 67)).alloc (Obj.cells #[.bool false,.slice none 0 0,.int .i64 0] 67):=⟨_,rfl⟩
 have H0:Aside (Dk W w.heap.size (dN o) (.slice a (ws (dX o)).length ca) (dE o)∧Dk W (w.heap.size+1) (dN p) (.slice b (ws (dX p)).length cb) (dE p)∧Lo W (w.heap.size+2) o00∧Below w.heap.size w W):=by
  subst hW;have z1:=Dk.new (w.alloc (Obj.cells #[.bool (dN o),.slice a (ws (dX o)).length ca,.int .i64 (dE o)] 67)) (dN p) (.slice b (ws (dX p)).length cb) (dE p);have z2:=Lo.zero ((w.alloc (Obj.cells #[.bool (dN o),.slice a (ws (dX o)).length ca,.int .i64 (dE o)] 67)).alloc (Obj.cells #[.bool (dN p),.slice b (ws (dX p)).length cb,.int .i64 (dE p)] 67));rw [World.size_alloc] at z1;rw [World.size_alloc,World.size_alloc] at z2;exact ⟨((Dk.new _ _ _ _).below (below_alloc _ _)).below (below_alloc _ _),z1.below (below_alloc _ _),z2,((below_alloc _ _).trans ((below_alloc _ _).mono (by simp))).trans ((below_alloc _ _).mono (by simp;omega))⟩
 have HW:=qsd hW;have HC1:=hid (HC.out W H0.out.2.2.2);have FF:=qsd F;clear hW HC F;go_enter Tryz.func106,Tryz.ntmps106
 go_upto_region 1 with fail
 rw [←HW.out];clear HW;obtain ⟨x0,x1,x2,xf0,xf1,xf2⟩:=H0.out.1.facts;obtain ⟨y0,y1,y2,yf0,yf1,yf2⟩:=H0.out.2.1.facts
 go_wp2_with fail
 refine HC1.out.mono ?_;rintro r u ⟨⟨v,rfl,hN⟩,hb⟩;obtain ⟨a1,c1,rfl,hN0⟩:=Lo.shape FF.out hN;obtain ⟨U,hU⟩:∃ U,U=u.alloc (Obj.cells #[.bool (dN q),.slice a1 (ws (dX q)).length c1,.int .i64 (dE q)] 67):=⟨_,rfl⟩
 have H1:Aside (Lo U (w.heap.size+2) o00∧Dk U u.heap.size (dN q) (.slice a1 (ws (dX q)).length c1) (dE q)∧Nt 0 U (.slice a1 (ws (dX q)).length c1) (dX q)∧Below w.heap.size w U):=by
  rw [hU];have b0:=H0.out.2.2.2;exact ⟨(H0.out.2.2.1.below hb).below (below_alloc _ _),Dk.new _ _ _ _,hN0.below (below_alloc _ _),(b0.trans (hb.mono b0.size)).trans ((below_alloc _ _).mono (Nat.le_trans b0.size hb.size))⟩
 obtain ⟨gq,hgq⟩:∃ g,g=u.heap.size:=⟨_,rfl⟩;rw [←hgq] at H1;have HU:=(qsd (ai hU hgq));clear hU hN hN0 hb HC1 H0 x0 x1 x2 xf0 xf1 xf2 y0 y1 y2 yf0 yf1 yf2 hgq
 go_upto_region 2 with fail
 rw [←HU.out.1,←HU.out.2];clear HU;obtain ⟨x0,x1,x2,xf0,xf1,xf2⟩:=H1.out.2.1.facts;obtain ⟨p4,q4,D4,M4⟩:=H1.out.1;obtain ⟨y0,y1,y2,yf0,yf1,yf2⟩:=D4.facts;clear D4 M4;go_wp2;exact end14 Tryz.results106 rfl H1.out.1 H1.out.2.2.2 (by omega) H1.out.2.2.1
theorem plus14_core (w:World) (a b:Option Addr) (ca cb:Nat) (o p q:Option (Bool×Nat×Int)) (F:Fm q)
 (HC:Hid (∀ u:World,Below w.heap.size w u→Calls Tryz.prog 130 #[.agg #[.bool (dN o),.slice a (ws (dX o)).length ca,.int .i64 (dE o)],.agg #[.bool (dN p),.slice b (ws (dX p)).length cb,.int .i64 (dE p)]] u fun r w'=>(∃ v,r=.returned (.tuple #[.agg #[.bool (dN q),v,.int .i64 (dE q)],.int .i64 0])∧Nt u.heap.size w' v (dX q))∧Below u.heap.size u w')) :
 Calls Tryz.prog 137 #[.agg #[.bool (dN o),.slice a (ws (dX o)).length ca,.int .i64 (dE o)],.agg #[.bool (dN p),.slice b (ws (dX p)).length cb,.int .i64 (dE p)]] w fun r w'=>DVal 0 w' r q∧Below w.heap.size w w':=by
 obtain ⟨W,hW⟩:∃ W,W=((w.alloc (Obj.cells #[.bool (dN o),.slice a (ws (dX o)).length ca,.int .i64 (dE o)] 67)).alloc (Obj.cells #[.bool (dN p),.slice b (ws (dX p)).length cb,.int .i64 (dE p)] 67)).alloc (Obj.cells #[.bool false,.slice none 0 0,.int .i64 0] 67):=⟨_,rfl⟩
 have H0:Aside (Dk W w.heap.size (dN o) (.slice a (ws (dX o)).length ca) (dE o)∧Dk W (w.heap.size+1) (dN p) (.slice b (ws (dX p)).length cb) (dE p)∧Lo W (w.heap.size+2) o00∧Below w.heap.size w W):=by
  subst hW;have z1:=Dk.new (w.alloc (Obj.cells #[.bool (dN o),.slice a (ws (dX o)).length ca,.int .i64 (dE o)] 67)) (dN p) (.slice b (ws (dX p)).length cb) (dE p);have z2:=Lo.zero ((w.alloc (Obj.cells #[.bool (dN o),.slice a (ws (dX o)).length ca,.int .i64 (dE o)] 67)).alloc (Obj.cells #[.bool (dN p),.slice b (ws (dX p)).length cb,.int .i64 (dE p)] 67));rw [World.size_alloc] at z1;rw [World.size_alloc,World.size_alloc] at z2;exact ⟨((Dk.new _ _ _ _).below (below_alloc _ _)).below (below_alloc _ _),z1.below (below_alloc _ _),z2,((below_alloc _ _).trans ((below_alloc _ _).mono (by simp))).trans ((below_alloc _ _).mono (by simp;omega))⟩
 have HW:=qsd hW;have HC1:=hid (HC.out W H0.out.2.2.2);have FF:=qsd F;clear hW HC F;go_enter Tryz.func137,Tryz.ntmps137
 go_upto_region 1 with fail
 rw [←HW.out];clear HW;obtain ⟨x0,x1,x2,xf0,xf1,xf2⟩:=H0.out.1.facts;obtain ⟨y0,y1,y2,yf0,yf1,yf2⟩:=H0.out.2.1.facts
 go_wp2_with fail
 refine HC1.out.mono ?_;rintro r u ⟨⟨v,rfl,hN⟩,hb⟩;obtain ⟨a1,c1,rfl,hN0⟩:=Lo.shape FF.out hN;obtain ⟨U,hU⟩:∃ U,U=u.alloc (Obj.cells #[.bool (dN q),.slice a1 (ws (dX q)).length c1,.int .i64 (dE q)] 67):=⟨_,rfl⟩
 have H1:Aside (Lo U (w.heap.size+2) o00∧Dk U u.heap.size (dN q) (.slice a1 (ws (dX q)).length c1) (dE q)∧Nt 0 U (.slice a1 (ws (dX q)).length c1) (dX q)∧Below w.heap.size w U):=by
  rw [hU];have b0:=H0.out.2.2.2;exact ⟨(H0.out.2.2.1.below hb).below (below_alloc _ _),Dk.new _ _ _ _,hN0.below (below_alloc _ _),(b0.trans (hb.mono b0.size)).trans ((below_alloc _ _).mono (Nat.le_trans b0.size hb.size))⟩
 obtain ⟨gq,hgq⟩:∃ g,g=u.heap.size:=⟨_,rfl⟩;rw [←hgq] at H1;have HU:=(qsd (ai hU hgq));clear hU hN hN0 hb HC1 H0 x0 x1 x2 xf0 xf1 xf2 y0 y1 y2 yf0 yf1 yf2 hgq
 go_upto_region 2 with fail
 rw [←HU.out.1,←HU.out.2];clear HU;obtain ⟨x0,x1,x2,xf0,xf1,xf2⟩:=H1.out.2.1.facts;obtain ⟨p4,q4,D4,M4⟩:=H1.out.1;obtain ⟨y0,y1,y2,yf0,yf1,yf2⟩:=D4.facts;clear D4 M4;go_wp2;exact end14 Tryz.results137 rfl H1.out.1 H1.out.2.2.2 (by omega) H1.out.2.2.1
theorem times14 {w:World}{a b:Option Addr}{ca cb:Nat}{o p q:Option (Bool×Nat×Int)}(F:Fm o) (G:Fm p) (H:Fm q) (N1:Nt 0 w (.slice a (ws (dX o)).length ca) (dX o)) (N2:Nt 0 w (.slice b (ws (dX p)).length cb) (dX p)) (hT:Tab w) (h:mulD o p=q) :
 Calls Tryz.prog 106 #[.agg #[.bool (dN o),.slice a (ws (dX o)).length ca,.int .i64 (dE o)],.agg #[.bool (dN p),.slice b (ws (dX p)).length cb,.int .i64 (dE p)]] w fun r w'=>DVal 0 w' r q∧Below w.heap.size w w' :=
 times14_core w a b ca cb o p q H (hid fun u hu=>mulP12 F G (N1.below hu) (N2.below hu) (hT.belows hu) h H)
theorem plus14 {w:World}{a b:Option Addr}{ca cb:Nat}{o p q:Option (Bool×Nat×Int)}(F:Fm o) (G:Fm p) (H:Fm q) (N1:Nt 0 w (.slice a (ws (dX o)).length ca) (dX o)) (N2:Nt 0 w (.slice b (ws (dX p)).length cb) (dX p)) (hT:Tab w) (h:addD o p=q) :
 Calls Tryz.prog 137 #[.agg #[.bool (dN o),.slice a (ws (dX o)).length ca,.int .i64 (dE o)],.agg #[.bool (dN p),.slice b (ws (dX p)).length cb,.int .i64 (dE p)]] w fun r w'=>DVal 0 w' r q∧Below w.heap.size w w' :=
 plus14_core w a b ca cb o p q H (hid fun u hu=>addP12' F G (N1.below hu) (N2.below hu) (hT.belows hu) h H)
theorem DVal.shape14 {w:World}{r:Ending}{lo:Nat}{q:Option (Bool×Nat×Int)}(H:Fm q) (h:DVal lo w r q):∃ a c,r=.returned (.agg #[.bool (dN q),.slice a (ws (dX q)).length c,.int .i64 (dE q)])∧Nt 0 w (.slice a (ws (dX q)).length c) (dX q):=by
 obtain ⟨v,rfl,hN⟩:=h;obtain ⟨a,c,rfl,hN0⟩:=Lo.shape H hN;exact ⟨a,c,rfl,hN0⟩
theorem DVal.mono14 {w:World}{r:Ending}{lo:Nat}{q:Option (Bool×Nat×Int)}(h:DVal lo w r q):DVal 0 w r q:=by
 obtain ⟨v,rfl,hN⟩:=h;exact ⟨v,rfl,hN.mono (Nat.zero_le _)⟩
theorem Int14 (n:Int) (w:World) (hT:Tab w) (h0:-9223372036854775808≤n) (h1:n≤9223372036854775807) :
 Calls Tryz.prog 69 #[.int .i64 n] w fun r w'=>DVal 0 w' r (gV 0 n)∧Below w.heap.size w w' :=
 (Int_any n w hT h0 h1).mono fun r w' h=>⟨h.1.mono14,h.2⟩
theorem total14_e (w:World) (n h0:Nat) (A T:Nat→Option (Bool×Nat×Int)) (hn:n≤65536) (hT:Tab w) (FA:∀ i,i<n→Fm (A i)) (FT:∀ i,i≤n→Fm (T i)) (ET:∀ i,i<n→addD (T i) (A i)=T (i+1)) (E0:o00=T 0)
 (HC:Hid (∀ (i:Nat) (u:World),i<n→Below w.heap.size w u→Calls Tryz.prog 114 #[.int .i64 (i:Nat),.pointer (some ⟨h0,0,none⟩)] u fun r w'=>DVal 0 w' r (A i)∧Below u.heap.size u w')) :
 Calls Tryz.prog 113 #[.int .i64 (n:Nat),.func (.func 114) #[] #[.pointer (some ⟨h0,0,none⟩)]] w fun r w'=>DVal 0 w' r (T n)∧Below w.heap.size w w':=by
 obtain ⟨W,hW⟩:∃ W,W=(w.alloc (Obj.cells #[.bool false,.slice none 0 0,.int .i64 0] 67)).alloc (Obj.cells #[.bool false,.slice none 0 0,.int .i64 0] 67):=⟨_,rfl⟩
 have H0:Aside (Lo W (w.heap.size+1) (T 0)∧Lo W w.heap.size o00∧Below w.heap.size w W):=by
  subst hW;rw [←E0];have z2:=Lo.zero (w.alloc (Obj.cells #[.bool false,.slice none 0 0,.int .i64 0] 67));rw [World.size_alloc] at z2;exact ⟨z2,(Lo.zero w).below (below_alloc _ _),(below_alloc _ _).trans ((below_alloc _ _).mono (by simp))⟩
 have HP:Hid (∀ (i:Nat) (u:World) (p q:Option Addr) (cp cq:Nat),i<n→Tab u→Nt 0 u (.slice p (ws (dX (T i))).length cp) (dX (T i))→Nt 0 u (.slice q (ws (dX (A i))).length cq) (dX (A i))→Calls Tryz.prog 137 #[.agg #[.bool (dN (T i)),.slice p (ws (dX (T i))).length cp,.int .i64 (dE (T i))],.agg #[.bool (dN (A i)),.slice q (ws (dX (A i))).length cq,.int .i64 (dE (A i))]] u fun r w'=>DVal 0 w' r (T (i+1))∧Below u.heap.size u w') :=
  fun i u p q cp cq hi hT n1 n2=>plus14 (FT i (by omega)) (FA i hi) (FT (i+1) (by omega)) n1 n2 hT (ET i hi)
 have HW:=qsd hW;have PF:=qsd (ai FT FA);have HT:=qsd hT;clear hW FT FA ET E0 hT;go_enter Tryz.func113,Tryz.ntmps113
 go_upto_region 2 with fail
 rw [←HW.out];clear HW;go_wp2
 go_loopg [8] n (fun gk i wr=>∃ j:Nat,gk+j=n∧i=.int .i64 (j:Nat)∧Aside (Lo wr (w.heap.size+1) (T j)∧Lo wr w.heap.size o00∧Below w.heap.size w wr))
 case atStart=>exact ⟨0,by omega,by simp,H0.out⟩
 case round =>
  obtain ⟨j,hgj,rfl,HA⟩:=hrel
  by_cases hj:j<n
  · obtain ⟨p1,q1,D1,M1⟩:=HA.out.1
    have hdr:=(Below.refl wr.heap.size wr).drew;have kS:=qsd (ai (D1.below hdr).facts.1 (ai (D1.below hdr).facts.2.1 (D1.below hdr).facts.2.2.1));have B1:=qsd (ai (D1.below hdr) (ai (M1.below hdr) (ai (HA.out.2.1.below hdr) (HA.out.2.2.trans (hdr.mono HA.out.2.2.size)))));have C:=hid (HC.out j wr.drew hj B1.out.2.2.2);clear D1 M1 hdr
    go_upto_region 5 with fail
    refine until_region (fun u=>u.cell? ⟨w.heap.size+1,0,none⟩=some (.bool (dN (T j)))∧u.cell? ⟨w.heap.size+1,1,none⟩=some (.slice p1 (ws (dX (T j))).length q1)∧u.cell? ⟨w.heap.size+1,2,none⟩=some (.int .i64 (dE (T j)))) 5 (by kernel_rfl) ?_
    refine until_take (i:=0) [4] (v:=?_) rfl (by kernel_rfl) (by kernel_rfl) (by kernel_rfl) (by kernel_rfl) (by kernel_rfl) (fun _ _ _ h=>h) (Or.inl ⟨by rfl,?_⟩) kS.out ?_
    rotate_left
    · intro u hSu
      try dsimp only at hSu
      first | (go_simp;done) | (go_simp;with_reducible rfl)
    try simp only [Act.put,List.setIfInBounds_toArray,List.set_cons_zero,List.set_cons_succ]
    refine until_take (i:=1) [3,4] (v:=?_) rfl (by kernel_rfl) (by kernel_rfl) (by kernel_rfl) (by kernel_rfl) (by kernel_rfl) (fun _ _ _ h=>h) (Or.inl ⟨by rfl,?_⟩) kS.out ?_
    rotate_left
    · intro u hSu
      try dsimp only at hSu
      first | (go_simp;done) | (go_simp;with_reducible rfl)
    try simp only [Act.put,List.setIfInBounds_toArray,List.set_cons_zero,List.set_cons_succ]
    refine until_take (i:=2) [3,4] (v:=?_) rfl (by kernel_rfl) (by kernel_rfl) (by kernel_rfl) (by kernel_rfl) (by kernel_rfl) (fun _ _ _ h=>h) (Or.inl ⟨by rfl,?_⟩) kS.out ?_
    rotate_left
    · intro u hSu
      try dsimp only at hSu
      first | (go_simp;done) | (go_simp;with_reducible rfl)
    try simp only [Act.put,List.setIfInBounds_toArray,List.set_cons_zero,List.set_cons_succ]
    refine until_one (i:=3) (by kernel_rfl) rfl (fun K' hK=>?_)
    go_simp
    refine C.out.mono ?_;rintro r u3 ⟨hd,hb⟩;obtain ⟨a3,c3,rfl,hN3⟩:=hd.shape14 (PF.out.2 j hj);have B2:=qsd (ai (B1.out.1.below hb) (ai (B1.out.2.1.below hb) (ai (B1.out.2.2.1.below hb) (ai (B1.out.2.2.2.trans (hb.mono B1.out.2.2.2.size)) hN3))));have kS:=qsd (ai B2.out.1.facts.1 (ai B2.out.1.facts.2.1 B2.out.1.facts.2.2.1));clear hb hd C B1 hN3
    dsimp only
    refine hK.out _ _ (fun _=>kS.out) ?_
    clear hK K'
    try simp only [Act.put,List.setIfInBounds_toArray,List.set_cons_zero,List.set_cons_succ]
    have C:=hid (HP.out j u3 p1 a3 q1 c3 hj (HT.out.belows B2.out.2.2.2.1) B2.out.2.1 B2.out.2.2.2.2);refine until_one (i:=4) (by kernel_rfl) rfl (fun K' hK=>?_)
    go_simp
    refine C.out.mono ?_;rintro r u4 ⟨hd,hb⟩;obtain ⟨a4,c4,rfl,hN4⟩:=hd.shape14 (PF.out.1 (j+1) (by omega))
    have B3:=qsd (ai (B2.out.1.below hb) (ai (B2.out.2.1.below hb) (ai (B2.out.2.2.1.below hb) (ai (B2.out.2.2.2.1.trans (hb.mono B2.out.2.2.2.1.size)) hN4))));have kS:=qsd (ai B3.out.1.facts.1 (ai B3.out.1.facts.2.1 B3.out.1.facts.2.2.1));clear hb hd C B2 hN4
    dsimp only
    refine hK.out _ _ (fun _=>kS.out) ?_
    clear hK K'
    try simp only [Act.put,List.setIfInBounds_toArray,List.set_cons_zero,List.set_cons_succ]
    obtain ⟨z0,z1,z2,zf0,zf1,zf2⟩:=B3.out.1.facts;refine until_one (i:=5) (by kernel_rfl) rfl (fun K' hK=>?_)
    go_simp
    refine hK.out _ _ (fun h=>absurd h (by decide)) ?_
    clear hK K' kS z0 z1 z2 zf0 zf1 zf2;refine until_done (by kernel_rfl) ?_ _
    have LB:Lo u4 (w.heap.size+1) (T j):=⟨_,_,B3.out.1,B3.out.2.1⟩;have b3:=B3.out.2.2.2.1;have H3:=qsd (ai (LB.set B3.out.2.2.2.2) (ai (B3.out.2.2.1.other LB (by omega) (.bool (dN (T (j+1)))) (.slice a4 (ws (dX (T (j+1)))).length c4) (.int .i64 (dE (T (j+1))))) (st3_bel12 b3 b3.size (show w.heap.size≤w.heap.size+1 by omega) (.bool (dN (T (j+1)))) (.slice a4 (ws (dX (T (j+1)))).length c4) (.int .i64 (dE (T (j+1)))))))
    clear LB b3;go_wp2
    go_roundg (gk-1)
    case measure=>omega
    case rel=>exact ⟨j+1,by omega,by first | rfl | simp,H3.out⟩
  · obtain rfl:n=j:=by omega
    have hd:decide ((n:Int)<n)=false:=by simp
    obtain ⟨p1,q1,D1,M1⟩:=HA.out.1;obtain ⟨p2,q2,D2,M2⟩:=HA.out.2.1;obtain ⟨x0,x1,x2,xf0,xf1,xf2⟩:=D1.facts;obtain ⟨y0,y1,y2,yf0,yf1,yf2⟩:=D2.facts;have MM1:=qsd M1;clear D1 D2 M1 M2;go_wp2;exact end14 Tryz.results113 rfl HA.out.2.1 HA.out.2.2 (by omega) MM1.out
end
end Go.Proofs.YthejkolknalpaaaGreatDoor
