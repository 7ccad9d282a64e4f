import Derived.Test.YtmkmndlpjenemaaGreatDoorF7x
import Derived.Test.YtmkmndlpjenemaaGreatDoorBW6x
import Derived.Test.YtmkmndlpjenemaaGreatDoorD24x
import Derived.Test.YtmkmndlpjenemaaGreatDoorM1x
import Derived.Test.YtmkmndlpjenemaaGreatDoorBIeeex
import Derived.Test.YtmkmndlpjenemaaGreatDoorW14x
import Derived.BigQuiet
set_option linter.unusedVariables false
set_option linter.unusedSimpArgs false
set_option maxHeartbeats 16000000
set_option maxRecDepth 20000
namespace Go.Proofs.YtmkmndlpjenemaaGreatDoor
namespace J
end J
section
open Go.RowKit J
attribute [local go_sem] st_float
def plE (xs:List Nat):Int:=if 65536<xs.length then 2 else if 0<(sS xs).n∨0<(sS xs).u+(sS xs).d then 30 else 0
theorem sf22 (xs:List Nat):(sfE 2 2 xs=0∧plE xs=0)∨(sfE 2 2 xs=2∧plE xs=2)∨((sfE 2 2 xs=60∨sfE 2 2 xs=61)∧plE xs=30):=by
 have hm:may 2 2=true:=by decide
 unfold sfE plE Ps.rf;rw [hm,if_neg (by decide)]
 by_cases hl:65536<xs.length
 · rw [if_pos hl,if_pos hl];exact .inr (.inl ⟨rfl,rfl⟩)
 · rw [if_neg hl,if_neg hl]
   by_cases h1:0<(sS xs).n
   · rw [if_pos ⟨h1,rfl⟩,if_pos (.inl h1)];exact .inr (.inr ⟨.inl rfl,rfl⟩)
   · rw [if_neg (fun h=>h1 h.1)]
     by_cases h2:0<(sS xs).u+(sS xs).d
     · rw [if_pos ⟨h2,rfl⟩,if_pos (.inr h2)];exact .inr (.inr ⟨.inr rfl,rfl⟩)
     · rw [if_neg (fun h=>h2 h.1),if_neg (by omega)];exact .inl ⟨rfl,rfl⟩
theorem close6 {fn:Func}{p q:Tmp}(hfn:fn.results=#[.cell p 57,.tmp q]) {tmps:Array Value}{w:World}{g:Nat}{t1 t2 t3 t4 t5 t6 e:Int}{R:Ending→World→Prop}
 (h1:tmps.getD p undef=.pointer (some ⟨g,0,none⟩)) (h2:tmps.getD q undef=.int .i64 e) (hB:Bl w g 57 [.int .i64 t1,.int .i64 t2,.int .i64 t3,.int .i64 t4,.int .i64 t5,.int .i64 t6])
 (hR:R (.returned (.tuple #[.agg #[.int .i64 t1,.int .i64 t2,.int .i64 t3,.int .i64 t4,.int .i64 t5,.int .i64 t6],.int .i64 e])) w) :
 bodyPost Tryz.prog fn R .ret ⟨tmps,[]⟩ w:=by
 have c0:=hB.cell 0 _ rfl;have c1:=hB.cell 1 _ rfl;have c2:=hB.cell 2 _ rfl;have c3:=hB.cell 3 _ rfl;have c4:=hB.cell 4 _ rfl;have c5:=hB.cell 5 _ rfl;rw [Array.getD_eq_getD_getElem?] at h1 h2;exact bodyPost_ret (v:=.tuple #[.agg #[.int .i64 t1,.int .i64 t2,.int .i64 t3,.int .i64 t4,.int .i64 t5,.int .i64 t6],.int .i64 e]) (by simp [results,hfn,go_sem,Ps.csetm,h1,h2,c0,c1,c2,c3,c4,c5]) rfl hR
theorem plain13 (xs:List Nat) (a:Option Addr) (n c:Nat) (w:World) (hn:n=xs.length) (hF:Fs w.heap.size w a xs) (hW:W64 xs) (hl:n≤35184372088832) :
 Calls Tryz.prog 39 #[.slice a n c] w fun r w'=>((plE xs≠0∧r=.returned (.tuple #[agg0,.int .i64 (plE xs)]))∨(plE xs=0∧r=.returned (.tuple #[(sS xs).agg,.int .i64 0])))∧Below w.heap.size w w':=by
 obtain ⟨W,hWW⟩:∃ W,W=w.alloc (Obj.cells #[.int .i64 0,.int .i64 0,.int .i64 0,.int .i64 0,.int .i64 0,.int .i64 0] 57):=⟨_,rfl⟩
 have B0:Aside (Bl W w.heap.size 57 [.int .i64 0,.int .i64 0,.int .i64 0,.int .i64 0,.int .i64 0,.int .i64 0]∧Below w.heap.size w W):=by
  rw [hWW];exact ⟨Bl.new _ 57 [_,_,_,_,_,_],bel_alloc _ _⟩
 have HS:=hid (Sift13 xs a n c 2 2 W hn hl ((hF.below B0.out.2).mono B0.out.2.size) hW);have hsf:=sf22 xs;obtain ⟨es,hes⟩:∃ e,sfE 2 2 xs=e:=⟨_,rfl⟩;obtain ⟨ep,hep⟩:∃ e,plE xs=e:=⟨_,rfl⟩;obtain ⟨⟨sn,su,sd,sm,sp,sa⟩,hs⟩:∃ s,sS xs=s:=⟨_,rfl⟩;obtain ⟨fl,hfl⟩:∃ f,Ps.fin xs=f:=⟨_,rfl⟩;rw [hs,hes,hfl] at HS;rw [hes,hep] at hsf;rw [hep,hs];simp only [Sp.agg] at HS ⊢;have HSF:=qsd hsf;have HWW:=qsd hWW;clear hn hF hW hl hWW hes hep hs hfl hsf;go_enter Tryz.func39,Tryz.ntmps39
 go_wp2_with fail
 rw [←HWW.out];clear HWW;refine HS.out.mono ?_;rintro r v ⟨hr,hb⟩;have B1:Aside (Bl v w.heap.size 57 [.int .i64 0,.int .i64 0,.int .i64 0,.int .i64 0,.int .i64 0,.int .i64 0]∧Below w.heap.size w v):=⟨B0.out.1.below hb B0.out.1.lt,B0.out.2.trans (hb.mono B0.out.2.size)⟩
 have BU:Aside (∀ (t1 t2 t3 t4 t5 t6:Int) (U:World),U=v.alloc (Obj.cells #[.int .i64 t1,.int .i64 t2,.int .i64 t3,.int .i64 t4,.int .i64 t5,.int .i64 t6] 57) →
  Bl U w.heap.size 57 [.int .i64 0,.int .i64 0,.int .i64 0,.int .i64 0,.int .i64 0,.int .i64 0]∧Bl U v.heap.size 57 [.int .i64 t1,.int .i64 t2,.int .i64 t3,.int .i64 t4,.int .i64 t5,.int .i64 t6]∧Below w.heap.size w U∧w.heap.size<v.heap.size):=by
  intro t1 t2 t3 t4 t5 t6 U hU;rw [hU];exact ⟨B1.out.1.alloc _,Bl.new _ 57 [_,_,_,_,_,_],B1.out.2.trans ((bel_alloc _ _).mono B1.out.2.size),B1.out.1.lt⟩
 clear hb B0 HS
 rcases hr with ⟨he,a',c',rfl⟩|⟨he,a',c',rfl,hF',hlo⟩
 · unfold agg0
   obtain ⟨U,hU⟩:∃ U,U=v.alloc (Obj.cells #[.int .i64 0,.int .i64 0,.int .i64 0,.int .i64 0,.int .i64 0,.int .i64 0] 57):=⟨_,rfl⟩;obtain ⟨u1,u2,u3,u4⟩:=BU.out _ _ _ _ _ _ _ hU;obtain ⟨gs,hgs⟩:∃ g,v.heap.size=g:=⟨_,rfl⟩;rw [hgs] at u2 u4;have B3:=(qsd (ai u1 (ai u2 (ai u3 u4))));have s0:=u2.cell 0 _ rfl;have s1:=u2.cell 1 _ rfl;have s2:=u2.cell 2 _ rfl;have s3:=u2.cell 3 _ rfl;have s4:=u2.cell 4 _ rfl;have s5:=u2.cell 5 _ rfl;have z0:=u1.cell 0 _ rfl;have z1:=u1.cell 1 _ rfl;have z2:=u1.cell 2 _ rfl;have z3:=u1.cell 3 _ rfl;have z4:=u1.cell 4 _ rfl;have z5:=u1.cell 5 _ rfl;have y0:=u1.frozen 0;have y1:=u1.frozen 1;have y2:=u1.frozen 2;have y3:=u1.frozen 3;have y4:=u1.frozen 4;have y5:=u1.frozen 5;have HGS:=qsd hgs;have HU:=qsd hU;clear u1 u2 u3 u4 hU BU hgs
   go_upto_region 2 with fail
   rw [←HU.out,HGS.out];clear HU HGS;obtain ⟨h1,h2⟩|⟨h1,h2⟩|⟨h1|h1,h2⟩:=HSF.out
   · exact absurd h1 he
   all_goals
    subst h1 h2;clear he HSF;go_wp2;refine close6 Tryz.results39 ?_ ?_ ((((((B3.out.1.set 0 _).set 1 _).set 2 _).set 3 _).set 4 _).set 5 _) ⟨by first | exact .inl ⟨by decide,rfl⟩ | rfl,?_⟩
    · rfl
    · rfl
    · exact But.below B3.out.2.2.1 (Ps.But.set6 (But.refl w.heap.size _) _ _ _ _ _ _) B3.out.2.2.1.size (Nat.le_refl _)
 · subst he
   obtain rfl:ep=0:=by rcases HSF.out with ⟨h1,h2⟩|⟨h1,h2⟩|⟨h1|h1,h2⟩ <;> omega
   obtain ⟨U,hU⟩:∃ U,U=v.alloc (Obj.cells #[.int .i64 sn,.int .i64 su,.int .i64 sd,.int .i64 sm,.int .i64 sp,.int .i64 sa] 57):=⟨_,rfl⟩;obtain ⟨u1,u2,u3,u4⟩:=BU.out _ _ _ _ _ _ _ hU;obtain ⟨gs,hgs⟩:∃ g,v.heap.size=g:=⟨_,rfl⟩;rw [hgs] at u2 u4;have B3:=(qsd (ai u1 (ai u2 (ai u3 u4))));have s0:=u2.cell 0 _ rfl;have s1:=u2.cell 1 _ rfl;have s2:=u2.cell 2 _ rfl;have s3:=u2.cell 3 _ rfl;have s4:=u2.cell 4 _ rfl;have s5:=u2.cell 5 _ rfl;have z0:=u1.cell 0 _ rfl;have z1:=u1.cell 1 _ rfl;have z2:=u1.cell 2 _ rfl;have z3:=u1.cell 3 _ rfl;have z4:=u1.cell 4 _ rfl;have z5:=u1.cell 5 _ rfl;have y0:=u1.frozen 0;have y1:=u1.frozen 1;have y2:=u1.frozen 2;have y3:=u1.frozen 3;have y4:=u1.frozen 4;have y5:=u1.frozen 5;have HGS:=qsd hgs;have HU:=qsd hU;clear u1 u2 u3 u4 hU BU hgs hF' hlo
   go_upto_region 2 with fail
   rw [←HU.out,HGS.out];clear HU HGS HSF;go_wp2;refine close6 Tryz.results39 ?_ ?_ ((((((B3.out.1.set 0 _).set 1 _).set 2 _).set 3 _).set 4 _).set 5 _) ⟨by first | exact .inr ⟨rfl,rfl⟩ | rfl,?_⟩
   · rfl
   · rfl
   · exact But.below B3.out.2.2.1 (Ps.But.set6 (But.refl w.heap.size _) _ _ _ _ _ _) B3.out.2.2.1.size (Nat.le_refl _)
end
section
open Go.RowKit J
attribute [local go_sem] st_float
abbrev ClD (f:FuncId):Prop:=∀ (gx ge x:Nat) (e:Int) (w:World),w.cell? ⟨gx,0,none⟩=some (.float .f64 x)→w.cell? ⟨ge,0,none⟩=some (.int .i64 e)→w.frozen? ⟨gx,0,none⟩=false→∀ (u:FrameMode),
 CallsD Tryz.prog f #[.pointer (some ⟨ge,0,none⟩),.pointer (some ⟨gx,0,none⟩)] u w fun r u' w'=>u'=u∧(r=.returned (.tuple #[])∧w'=w.setCell ⟨gx,0,none⟩ (.float .f64 (bsd e x)))
theorem early13 {fn:Func}{f:FuncId}{px pe:Tmp}(hres:fn.results=#[.cell px 22,.cell pe 25]) (HC:ClD f) {tmps:Array Value}{gx ge x X:Nat}{e E:Int}{w v:World}
 (b1:Bl v gx 22 [.float .f64 x]) (b2:Bl v ge 25 [.int .i64 e]) (hb:Below w.heap.size w v) (hgx:w.heap.size≤gx) (hne:ge≠gx) (hX:bsd e x=X) (hE:e=E)
 (hi:(callFunc f #[.pointer (some ⟨ge,0,none⟩),.pointer (some ⟨gx,0,none⟩)]).run Tryz.prog v=.ok (.enter f #[.pointer (some ⟨ge,0,none⟩),.pointer (some ⟨gx,0,none⟩)]) v)
 (h1:tmps.getD px undef=.pointer (some ⟨gx,0,none⟩)) (h2:tmps.getD pe undef=.pointer (some ⟨ge,0,none⟩)) :
 Leaves Tryz.prog fn tmps (fun r w'=>r=.returned (.tuple #[.float .f64 X,.int .i64 E])∧Below w.heap.size w w') [{ target:=.fn (.func f) #[.pointer (some ⟨ge,0,none⟩),.pointer (some ⟨gx,0,none⟩)],args:=#[] }] .returning v:=by
 subst hX hE;refine door13 hres hi (HC gx ge x e v (b1.cell 0 _ rfl) (b2.cell 0 _ rfl) (b1.frozen 0)) h1 h2 (b1.cell 0 _ rfl) (b2.cell 0 _ rfl) hne ?_;have kb:But gx v (v.setCell ⟨gx,0,none⟩ (.float .f64 (bsd e x))):=(But.refl gx _).set 0 _;exact ⟨rfl,But.below hb kb hb.size hgx⟩
theorem finish13 {fn:Func}{f:FuncId}{px pe:Tmp}(hres:fn.results=#[.cell px 22,.cell pe 25]) (HC:ClD f) {tmps:Array Value}{gx ge x0 x X:Nat}{e0 e E:Int}{w v:World}
 (b1:Bl v gx 22 [.float .f64 x0]) (b2:Bl v ge 25 [.int .i64 e0]) (hb:Below w.heap.size w v) (hgx:w.heap.size≤gx) (hge:w.heap.size≤ge) (hne:ge≠gx) (hX:bsd e x=X) (hE:e=E)
 (hi:∀ v:World,(callFunc f #[.pointer (some ⟨ge,0,none⟩),.pointer (some ⟨gx,0,none⟩)]).run Tryz.prog v=.ok (.enter f #[.pointer (some ⟨ge,0,none⟩),.pointer (some ⟨gx,0,none⟩)]) v)
 (h1:tmps.getD px undef=.pointer (some ⟨gx,0,none⟩)) (h2:tmps.getD pe undef=.pointer (some ⟨ge,0,none⟩)) :
 Leaves Tryz.prog fn tmps (fun r w'=>r=.returned (.tuple #[.float .f64 X,.int .i64 E])∧Below w.heap.size w w') [{ target:=.fn (.func f) #[.pointer (some ⟨ge,0,none⟩),.pointer (some ⟨gx,0,none⟩)],args:=#[] }] .returning ((v.setCell ⟨gx,0,none⟩ (.float .f64 x)).setCell ⟨ge,0,none⟩ (.int .i64 e)):=by
 have bt:But gx v (v.setCell ⟨gx,0,none⟩ (.float .f64 x)):=(But.refl _ _).set 0 _;have be:But ge (v.setCell ⟨gx,0,none⟩ (.float .f64 x)) ((v.setCell ⟨gx,0,none⟩ (.float .f64 x)).setCell ⟨ge,0,none⟩ (.int .i64 e)):=(But.refl _ _).set 0 _;have k0:=But.below hb bt hb.size hgx;exact early13 hres HC ((b1.set 0 (.float .f64 x)).but be (fun h=>hne h.symm)) ((b2.but bt hne).set 0 (.int .i64 e)) (But.below k0 be k0.size hge) hgx hne hX hE (hi _) h1 h2
theorem two13 (w:World):Bl ((w.alloc (Obj.cells #[.float .f64 0] 22)).alloc (Obj.cells #[.int .i64 0] 25)) w.heap.size 22 [.float .f64 0]∧Bl ((w.alloc (Obj.cells #[.float .f64 0] 22)).alloc (Obj.cells #[.int .i64 0] 25)) (w.heap.size+1) 25 [.int .i64 0]∧Below w.heap.size w ((w.alloc (Obj.cells #[.float .f64 0] 22)).alloc (Obj.cells #[.int .i64 0] 25)):=by
 have z2:=Bl.new (w.alloc (Obj.cells #[.float .f64 0] 22)) 25 [.int .i64 0];rw [World.size_alloc] at z2;exact ⟨(Bl.new w 22 [_]).below (bel_alloc _ _) (by simp),z2,(bel_alloc _ _).trans ((bel_alloc _ _).mono (by simp))⟩
theorem seterr13 {w v:World}{gx ge x:Nat}{e0:Int}(e:Int) (b1:Bl v gx 22 [.float .f64 x]) (b2:Bl v ge 25 [.int .i64 e0]) (hb:Below w.heap.size w v) (hge:w.heap.size≤ge) (hne:ge≠gx) :
 Bl (v.setCell ⟨ge,0,none⟩ (.int .i64 e)) gx 22 [.float .f64 x]∧Bl (v.setCell ⟨ge,0,none⟩ (.int .i64 e)) ge 25 [.int .i64 e]∧Below w.heap.size w (v.setCell ⟨ge,0,none⟩ (.int .i64 e)):=by
 have be:But ge v (v.setCell ⟨ge,0,none⟩ (.int .i64 e)):=(But.refl _ _).set 0 _;exact ⟨b1.but be (fun h=>hne h.symm),b2.set 0 _,But.below hb be hb.size hge⟩
theorem stored13 {w v:World}{gx ge x:Nat}{e0:Int}{ao:Option Addr}{xs:List Nat}(b1:Bl v gx 22 [.float .f64 x]) (b2:Bl v ge 25 [.int .i64 e0]) (hb:Below w.heap.size w v) (hge:w.heap.size≤ge) (hne:ge≠gx) (hT:Tab w) (hF:Fs v.heap.size v ao xs) (hg:∀ b o p,ao=some ⟨b,o,p⟩→b≠ge) (e t1 t2 t3 t4 t5 t6:Int) (Z:World) (hZ:Z=(v.setCell ⟨ge,0,none⟩ (.int .i64 e)).alloc (Obj.cells #[.int .i64 t1,.int .i64 t2,.int .i64 t3,.int .i64 t4,.int .i64 t5,.int .i64 t6] 57)) :
 Bl Z gx 22 [.float .f64 x]∧Bl Z ge 25 [.int .i64 e]∧Bl Z v.heap.size 57 [.int .i64 t1,.int .i64 t2,.int .i64 t3,.int .i64 t4,.int .i64 t5,.int .i64 t6]∧Below w.heap.size w Z∧Tab Z∧Fs Z.heap.size Z ao xs:=by
 obtain ⟨k1,k2,k3⟩:=seterr13 (w:=w) e b1 b2 hb hge hne;have be:But ge v (v.setCell ⟨ge,0,none⟩ (.int .i64 e)):=(But.refl _ _).set 0 _;have hsz:(v.setCell ⟨ge,0,none⟩ (.int .i64 e)).heap.size=v.heap.size:=by simp
 have z1:=Bl.new (v.setCell ⟨ge,0,none⟩ (.int .i64 e)) 57 [.int .i64 t1,.int .i64 t2,.int .i64 t3,.int .i64 t4,.int .i64 t5,.int .i64 t6];rw [hsz] at z1;rw [hZ];have hbb:=k3.trans ((bel_alloc (v.setCell ⟨ge,0,none⟩ (.int .i64 e)) (Obj.cells #[.int .i64 t1,.int .i64 t2,.int .i64 t3,.int .i64 t4,.int .i64 t5,.int .i64 t6] 57)).mono k3.size);exact ⟨k1.alloc _,k2.alloc _,z1,hbb,hT.belows hbb,((hF.but' be hg).below ((bel_alloc _ _).mono (by simp))).mono (by simp)⟩
noncomputable def plnR (xs:List Nat) (mode:Int):Nat×Int:=if plE xs=0 then (bsd (levR xs (sS xs) mode).2 (levR xs (sS xs) mode).1,(levR xs (sS xs) mode).2) else (0,plE xs)
noncomputable def midR (x y:Nat) (mode:Int):Nat×Int:=if askE mode=0 then plnR [x,y] mode else (0,askE mode)
theorem fs_two (w:World) (x y:Nat):Fs (w.alloc (Obj.cells #[.float .f64 x,.float .f64 y] 22)).heap.size (w.alloc (Obj.cells #[.float .f64 x,.float .f64 y] 22)) (some ⟨w.heap.size,0,none⟩) [x,y]:=by
 intro _;refine ⟨w.heap.size,0,by simp,rfl,fun i hi=>?_⟩
 have hB:=Bl.new w 22 [.float .f64 x,.float .f64 y]
 match i,hi with
 | 0,_=>exact hB.cell 0 _ rfl
 | 1,_=>exact hB.cell 1 _ rfl
theorem Middle13 (x y:Nat) (hx:x<18446744073709551616) (hy:y<18446744073709551616) (mode:Int) (w:World) (hT:Tab w) (z:Nat×Int) (hz:midR x y mode=z) :
 Calls Tryz.prog 16 #[.float .f64 x,.float .f64 y,.int .i64 mode] w fun r w'=>r=.returned (.tuple #[.float .f64 z.1,.int .i64 z.2])∧Below w.heap.size w w':=by
 obtain ⟨X,E⟩:=z;simp only;have hmf:∀ (fn:Fn) (first cap:Array Value) (w:World),(Instr.makeFunc fn first cap).run Tryz.prog w=.ok (.func fn first cap) w:=fun _ _ _ _=>rfl
 have HA:=hid (fun u:World=>asked13 mode u)
 unfold midR at hz;obtain ⟨ea,hea⟩:∃ e,askE mode=e:=⟨_,rfl⟩;rw [hea] at HA hz;obtain ⟨W,hWW⟩:∃ W,W=(w.alloc (Obj.cells #[.float .f64 0] 22)).alloc (Obj.cells #[.int .i64 0] 25):=⟨_,rfl⟩;obtain ⟨gx,hgx⟩:∃ g,g=w.heap.size:=⟨_,rfl⟩;obtain ⟨ge,hge⟩:∃ g,g=w.heap.size+1:=⟨_,rfl⟩;have HG:Aside (gx=w.heap.size∧ge=w.heap.size+1∧w.heap.size≤gx∧w.heap.size≤ge∧ge≠gx):=⟨hgx,hge,by omega,by omega,by omega⟩
 have B0:=two13 w;rw [←hWW,←hge] at B0;have B1:=qsd (seterr13 ea (show Bl W gx 22 [.float .f64 0] by rw [hgx];exact B0.1) B0.2.1 B0.2.2 HG.out.2.2.2.1 HG.out.2.2.2.2)
 have c1:=B0.2.1.cell 0 _ rfl;have f1:=B0.2.1.frozen 0;have HWW:=qsd hWW;have HX:=qsd (ai hx (ai hy hT));clear hx hy hT hWW hea hgx hge B0;go_enter_defers Tryz.func16,Tryz.ntmps16
 go_wp2_with fail
 rw [←HWW.out]
 try rw [show w.heap.size+1=ge by have:=HG.out;omega]
 try rw [show w.heap.size=gx by have:=HG.out;omega]
 clear HWW;refine (HA.out _).mono ?_;rintro r v ⟨rfl,hv⟩;rw [hv];clear hv v
 by_cases h0:ea=0
 · subst h0
   rw [if_pos rfl] at hz;obtain ⟨V,hV⟩:∃ V,V=W.setCell ⟨ge,0,none⟩ (.int .i64 0):=⟨_,rfl⟩;rw [←hV] at B1;have r1:=B1.out.2.1.cell 0 _ rfl;obtain ⟨U,hU⟩:∃ U,U=V.alloc (Obj.cells #[.float .f64 x,.float .f64 y] 22):=⟨_,rfl⟩;obtain ⟨ga,hga⟩:∃ g,V.heap.size=g:=⟨_,rfl⟩
   have B2:Aside (Bl U gx 22 [.float .f64 0]∧Bl U ge 25 [.int .i64 0]∧Below w.heap.size w U∧Fs U.heap.size U (some ⟨ga,0,none⟩) [x,y]∧Tab U∧W64 [x,y]):=by
    have hbU:Below w.heap.size w U:=by rw [hU];exact B1.out.2.2.trans ((bel_alloc _ _).mono B1.out.2.2.size)
    refine ⟨by rw [hU];exact B1.out.1.alloc _,by rw [hU];exact B1.out.2.1.alloc _,hbU,by rw [hU,←hga];exact fs_two V x y,HX.out.2.2.belows hbU,?_⟩
    intro q hq;simp at hq
    rcases hq with rfl|rfl
    · exact HX.out.1
    · exact HX.out.2.1
   have HP:=hid (plain13 [x,y] (some ⟨ga,0,none⟩) 2 2 U rfl B2.out.2.2.2.1 B2.out.2.2.2.2.2 (by decide))
   have HW2:=qsd B2.out.2.2.2.2.2;have HGN:Aside (ga≠ge):=by have:=B1.out.2.1.lt;rw [Aside,←hga];omega
   obtain ⟨ep,hep⟩:∃ e,plE [x,y]=e:=⟨_,rfl⟩;obtain ⟨⟨sn,su,sd,sm,sp,sa⟩,hs⟩:∃ s,sS [x,y]=s:=⟨_,rfl⟩;unfold plnR at hz;rw [hep,hs] at HP hz;simp only [Sp.agg] at HP;have HV:=qsd hV;have HU:=qsd hU;have HGA:=qsd hga;clear hV hU hga hep hs HA
   go_upto_region 3 with fail
   rw [←HV.out];clear HV
   go_upto_region 5 with fail
   rw [←HU.out,HGA.out];clear HU HGA
   go_wp2_with fail
   refine HP.out.mono ?_;rintro r v ⟨hr,hb⟩;have B3:Aside (Bl v gx 22 [.float .f64 0]∧Bl v ge 25 [.int .i64 0]∧Below w.heap.size w v∧Fs v.heap.size v (some ⟨ga,0,none⟩) [x,y]∧ga≠ge):=⟨B2.out.1.below hb B2.out.1.lt,B2.out.2.1.below hb B2.out.2.1.lt,B2.out.2.2.1.trans (hb.mono B2.out.2.2.1.size),(B2.out.2.2.2.1.below hb).mono hb.size,HGN.out⟩;have q1:=B3.out.2.1.cell 0 _ rfl;have q2:=B3.out.2.1.frozen 0;have hlt:=B3.out.2.1.lt;have BU:=qsd (stored13 B3.out.1 B3.out.2.1 B3.out.2.2.1 HG.out.2.2.2.1 HG.out.2.2.2.2 HX.out.2.2 B3.out.2.2.2.1 (fun b o p h=>by cases h;exact B3.out.2.2.2.2))
   clear hb HP B2
   rcases hr with ⟨he,rfl⟩|⟨he,rfl⟩
   · unfold agg0
     rw [if_neg he] at hz;have HXE:=qsd (Prod.mk.inj hz);have h1:(ep==0)=false:=by simp [he]
     obtain ⟨Z,hZ⟩:∃ U,U=(v.setCell ⟨ge,0,none⟩ (.int .i64 ep)).alloc (Obj.cells #[.int .i64 0,.int .i64 0,.int .i64 0,.int .i64 0,.int .i64 0,.int .i64 0] 57):=⟨_,rfl⟩;have B4:=qsd (BU.out _ _ _ _ _ _ _ _ hZ);have r1:=B4.out.2.1.cell 0 _ rfl;have HZ:=qsd hZ;clear hZ BU hz
     go_upto_region 6 with fail
     rw [←HZ.out];clear HZ;go_wp2;refine early13 Tryz.results16 Middle1_d B4.out.1 B4.out.2.1 B4.out.2.2.2.1 HG.out.2.2.1 HG.out.2.2.2.2 ((bsd_zero _).trans HXE.out.1) HXE.out.2 (by simp [go_sem]) ?_ ?_ <;> rfl
   · subst he
     rw [if_pos rfl] at hz;obtain ⟨Z,hZ⟩:∃ U,U=(v.setCell ⟨ge,0,none⟩ (.int .i64 0)).alloc (Obj.cells #[.int .i64 sn,.int .i64 su,.int .i64 sd,.int .i64 sm,.int .i64 sp,.int .i64 sa] 57):=⟨_,rfl⟩;have B4:=qsd (BU.out _ _ _ _ _ _ _ _ hZ);obtain ⟨gs,hgs⟩:∃ g,v.heap.size=g:=⟨_,rfl⟩;rw [hgs] at B4;have r1:=B4.out.2.1.cell 0 _ rfl;have s0:=B4.out.2.2.1.cell 0 _ rfl;have s1:=B4.out.2.2.1.cell 1 _ rfl;have s2:=B4.out.2.2.1.cell 2 _ rfl;have s3:=B4.out.2.2.1.cell 3 _ rfl;have s4:=B4.out.2.2.1.cell 4 _ rfl;have s5:=B4.out.2.2.1.cell 5 _ rfl;obtain ⟨⟨xl,el⟩,hl⟩:∃ z,levR [x,y] ⟨sn,su,sd,sm,sp,sa⟩ mode=z:=⟨_,rfl⟩;rw [hl] at hz;have hz1:(bsd el xl,el)=(X,E):=hz;obtain ⟨hX,hE⟩:=Prod.mk.inj hz1;have HL:=hid (level13 [x,y] (some ⟨ga,0,none⟩) 2 2 sn su sd sm sp sa mode Z rfl B4.out.2.2.2.2.2 HW2.out B4.out.2.2.2.2.1 (by decide) (xl,el) hl)
     simp only at HL;have HXE:=qsd (ai hX hE);have HZ:=qsd hZ;have HGS:=qsd hgs;clear hZ BU hz hz1 hX hE hl hgs
     go_upto_region 6 with fail
     rw [←HZ.out,HGS.out];clear HZ HGS q1 q2 hlt
     go_wp2_with fail
     refine HL.out.mono ?_;rintro r v4 ⟨rfl,hb⟩
     have B6:Aside (Bl v4 gx 22 [.float .f64 0]∧Bl v4 ge 25 [.int .i64 0]∧Below w.heap.size w v4) :=
      ⟨B4.out.1.below hb B4.out.1.lt,B4.out.2.1.below hb B4.out.2.1.lt,B4.out.2.2.2.1.trans (hb.mono B4.out.2.2.2.1.size)⟩
     have t1:=B6.out.1.cell 0 _ rfl;have t2:=B6.out.1.frozen 0;have t3:=B6.out.2.1.cell 0 _ rfl;have t4:=B6.out.2.1.frozen 0;have hne1:ge≠gx:=HG.out.2.2.2.2;have hne2:gx≠ge:=fun h=>HG.out.2.2.2.2 h.symm
     clear hb B4 HL s0 s1 s2 s3 s4 s5;go_wp2;refine finish13 Tryz.results16 Middle1_d B6.out.1 B6.out.2.1 B6.out.2.2 HG.out.2.2.1 HG.out.2.2.2.1 HG.out.2.2.2.2 HXE.out.1 HXE.out.2 (fun _=>by simp [go_sem]) ?_ ?_ <;> rfl
 · rw [if_neg h0] at hz
   have HXE:=qsd (Prod.mk.inj hz);have h1:(ea==0)=false:=by simp [h0]
   clear hz HA;go_wp2;refine early13 Tryz.results16 Middle1_d B1.out.1 B1.out.2.1 B1.out.2.2 HG.out.2.2.1 HG.out.2.2.2.2 ((bsd_zero _).trans HXE.out.1) HXE.out.2 (by simp [go_sem]) ?_ ?_ <;> rfl
end
section
open Go.RowKit J
attribute [local go_sem] st_float
theorem calm13 {P:Program}{c:Code}{K:Act→World→Prop}{Q:Exit→Act→World→Prop}{a:Act}{w:World}(h:c.wp P (Exit.then K (fun _ _ _=>False)) a w):c.wp P (Exit.then K Q) a w :=
 wp_mono h (fun e a w h=>by cases e <;> first | exact h | exact False.elim h)
end
section
open Go.RowKit J
attribute [local go_sem] st_float
def pI13 (xs ys:List Nat):List (Nat×Int):=List.zipWith (fun x y=>(pK x y,pT x y)) xs ys
theorem pI13_take (xs ys:List Nat) (k:Nat) (h1:k<xs.length) (h2:k<ys.length):pI13 (xs.take (k+1)) (ys.take (k+1))=pI13 (xs.take k) (ys.take k)++[(pK (xs.getD k 0) (ys.getD k 0),pT (xs.getD k 0) (ys.getD k 0))]:=by
 unfold pI13;rw [take_snoc10 xs k h1,take_snoc10 ys k h2,List.zipWith_append (by simp;omega)]
 rfl
theorem pI13_len (xs ys:List Nat):(pI13 xs ys).length=min xs.length ys.length:=by unfold pI13;simp
theorem pI13_ip:∀ {xs ys:List Nat},W64 xs→W64 ys→∀ p ∈ pI13 xs ys,Ip p
 | [],_,_,_,p,hp=>by simp [pI13] at hp
 | _::_,[],_,_,p,hp=>by simp [pI13] at hp
 | x::xs,y::ys,h1,h2,p,hp=>by
   unfold pI13 at hp;rw [List.zipWith_cons_cons,List.mem_cons] at hp
   rcases hp with rfl|hp
   · exact ip_prod (h1 x List.mem_cons_self) (h2 y List.mem_cons_self)
   · exact pI13_ip (xs:=xs) (ys:=ys) (fun z hz=>h1 z (List.mem_cons_of_mem _ hz)) (fun z hz=>h2 z (List.mem_cons_of_mem _ hz)) p hp
def wS (xs ys:List Nat):Int:=vI (pI13 xs ys)
theorem wS_bd {xs ys:List Nat}(h1:W64 xs) (h2:W64 ys) (hl:xs.length≤65536):∃ k:Nat,k=4238∧(wS xs ys).natAbs<2^k:=by
 obtain ⟨k,hk,e⟩:=HB13;refine ⟨k,hk,?_⟩;rw [←e];have a1:=vI_bd _ (pI13_ip h1 h2);have a2:=pI13_len xs ys;have a3:(pI13 xs ys).length*QB≤65536*QB:=Nat.mul_le_mul_right _ (by omega)
 have a4:=QB_HB;have a5:=QB_pos;unfold wS;omega
theorem wS_fm {xs ys:List Nat}(h1:W64 xs) (h2:W64 ys) (hl:xs.length≤65536):Fm (exV (wS xs ys)):=by
 obtain ⟨k,hk,h⟩:=wS_bd h1 h2 hl;exact ex_fm _ k (by omega) h
theorem products13 (xs ys:List Nat) (a b:Option Addr) (n c d:Nat) (w:World) (hn:n=xs.length) (hn2:n=ys.length) (hF:Fs w.heap.size w a xs) (hG:Fs w.heap.size w b ys) (hW:W64 xs) (hV:W64 ys) (hT:Tab w) (hl:n≤65536) :
 Calls Tryz.prog 33 #[.slice a n c,.slice b n d] w fun r w'=>∃ v,r=.returned (.agg #[.bool (dN (exV (wS xs ys))),v,.int .i64 (dE (exV (wS xs ys)))])∧Nt w.heap.size w' v (dX (exV (wS xs ys)))∧Below w.heap.size w w':=by
 have HX:=qsd (ai hn (ai hn2 (ai hF (ai hG (ai hW (ai hV (ai hT hl)))))));obtain ⟨o,ho⟩:∃ o,o=exV (wS xs ys):=⟨_,rfl⟩;rw [←ho];have HO:=qsd ho;clear hn hn2 hF hG hW hV hT ho;obtain ⟨W1,hW1⟩:∃ W,W=w.alloc (.cells #[.bool false,.slice none 0 0,.int .i64 0] 42):=⟨_,rfl⟩
 have H1:Aside (Below w.heap.size w W1∧Bl W1 w.heap.size 42 [.bool false,.slice none 0 0,.int .i64 0]∧W1.heap.size=w.heap.size+1):=by
  subst hW1;exact ⟨bel_alloc _ _,Bl.new _ 42 [_,_,_],by simp⟩
 go_enter Tryz.func33,Tryz.ntmps33
 go_wp2_with fail
 rw [←hW1];clear hW1;refine (New7 W1).mono ?_;rintro r w2 ⟨rfl,hA,hb2⟩;obtain ⟨g,hg⟩:∃ g,g=W1.heap.size:=⟨_,rfl⟩;rw [←hg] at hA ⊢
 have P2:Aside (Bl w2 w.heap.size 42 [.bool false,.slice none 0 0,.int .i64 0]∧Below w.heap.size w w2∧w.heap.size<g∧At12 w2 g (pI13 (xs.take 0) (ys.take 0))) :=
  ⟨H1.out.2.1.below hb2 (by have:=H1.out.2.2;omega),H1.out.1.trans (hb2.mono (by have:=H1.out.2.2;omega)),by have:=H1.out.2.2;omega,hA,fun p hp=>by simp [pI13] at hp⟩
 clear hb2 hA hg H1;go_wp2
 go_loopg [11] n (fun gk i wr=>∃ k:Nat,gk+k=n∧i=.int .i64 (k:Nat)∧Aside (At12 wr g (pI13 (xs.take k) (ys.take k))∧Bl wr w.heap.size 42 [.bool false,.slice none 0 0,.int .i64 0]∧Below w.heap.size w wr))
 case atStart=>exact ⟨0,by omega,by simp,P2.out.2.2.2,P2.out.1,P2.out.2.1⟩
 case round =>
  obtain ⟨k,hgk,rfl,HA⟩:=hrel
  by_cases hk:k<n
  · obtain ⟨b1,off1,rfl,hc⟩:=HX.out.2.2.1.at HA.out.2.2 k (by rw [←HX.out.1];exact hk)
    obtain ⟨b2,off2,rfl,hd⟩:=HX.out.2.2.2.1.at HA.out.2.2 k (by rw [←HX.out.2.1];exact hk)
    have C:Hid (Calls Tryz.prog 72 #[.pointer (some ⟨g,0,none⟩),.float .f64 (xs.getD k 0),.float .f64 (ys.getD k 0)] wr fun r w'=>r=.returned (.int .i64 0)∧At12 w' g (pI13 (xs.take (k+1)) (ys.take (k+1)))∧But g wr w'):=by
     rw [pI13_take xs ys k (by rw [←HX.out.1];exact hk) (by rw [←HX.out.2.1];exact hk)]
     exact addP12 g _ _ _ wr HA.out.1 (by rw [pI13_len,List.length_take];have:=HX.out.2.2.2.2.2.2.2;omega) (HX.out.2.2.2.2.1.get k) (HX.out.2.2.2.2.2.1.get k)
    obtain ⟨x,hx⟩:∃ x,x=xs.getD k 0:=⟨_,rfl⟩;obtain ⟨y,hy⟩:∃ y,y=ys.getD k 0:=⟨_,rfl⟩;rw [←hx] at hc C;rw [←hy] at hd C;have hkb:k<4611686018427387904:=by have:=HX.out.2.2.2.2.2.2.2;omega
    clear hx hy
    go_wp2_with fail
    refine (C.out).mono ?_;rintro r w3 ⟨rfl,hA3,hbut⟩;have H3:=qsd (ai hA3 (ai (HA.out.2.1.but hbut (by have:=P2.out.2.2.1;omega)) (But.below HA.out.2.2 hbut HA.out.2.2.size (by have:=P2.out.2.2.1;omega))))
    clear hA3 hbut C hc hd;go_wp2
    go_roundg (gk-1)
    case measure=>omega
    case rel=>exact ⟨k+1,by omega,by first | rfl | simp,H3.out⟩
  · obtain rfl:n=k:=by omega
    have hd:decide ((n:Int)<n)=false:=by simp
    have C:Hid (Calls Tryz.prog 15 #[.pointer (some ⟨g,0,none⟩)] wr fun r w'=>∃ v,r=.returned (.agg #[.bool (dN o),v,.int .i64 (dE o)])∧Nt wr.heap.size w' v (dX o)∧Below wr.heap.size wr w'):=by
     have e1:xs.take n=xs:=by rw [List.take_of_length_le];rw [←HX.out.1];omega
     have e2:ys.take n=ys:=by rw [List.take_of_length_le];rw [←HX.out.2.1];omega
     have hA:=HA.out.1;rw [e1,e2] at hA;rw [HO.out];exact Exact7 g _ _ wr hA.1 (HX.out.2.2.2.2.2.2.1.belows HA.out.2.2)
    have HL:=qsd (HA.out.2.1.lt)
    go_wp2_with fail
    refine (C.out).mono ?_;rintro r w3 ⟨v,rfl,hN,hb3⟩;obtain ⟨a9,c9,rfl,_⟩:=Lo.shape (q:=o) (by rw [HO.out];exact wS_fm HX.out.2.2.2.2.1 HX.out.2.2.2.2.2.1 (by rw [←HX.out.1];exact HX.out.2.2.2.2.2.2.2)) hN
    have B3:=qsd (ai (HA.out.2.1.below hb3 HL.out) (ai (HA.out.2.2.trans (hb3.mono HA.out.2.2.size)) hN));have z0:=B3.out.1.cell 0 _ rfl;have z1:=B3.out.1.cell 1 _ rfl;have z2:=B3.out.1.cell 2 _ rfl;have f0:=B3.out.1.frozen 0;have f1:=B3.out.1.frozen 1;have f2:=B3.out.1.frozen 2;clear hb3 C hN;go_wp2;refine close13 Tryz.results33 ?_ B3.out.1 B3.out.2.1 B3.out.2.2 (HL.out);rfl
def prE (xs ys:List Nat):Int:=if 65536<xs.length∨65536<ys.length then 2 else if xs.length≠ys.length then 4 else if plE xs≠0 then plE xs else if plE ys≠0 then plE ys else if xs=[] then 3 else 0
theorem paired13 (xs ys:List Nat) (a b:Option Addr) (n m c d:Nat) (w:World) (hn:n=xs.length) (hm:m=ys.length) (hF:Fs w.heap.size w a xs) (hG:Fs w.heap.size w b ys) (hW:W64 xs) (hV:W64 ys) (E:Int) (hE:prE xs ys=E) :
 Calls Tryz.prog 32 #[.slice a n c,.slice b m d] w fun r w'=>r=.returned (.int .i64 E)∧Below w.heap.size w w':=by
 unfold prE at hE;rw [←hn,←hm] at hE
 by_cases h1:65536<n
 · rw [if_pos (.inl h1)] at hE
   have d1:decide ((65536:Int)<(n:Nat))=true:=by simp;omega
   subst hE;clear hn hm hF hG hW hV;go_enter Tryz.func32,Tryz.ntmps32;go_wp2;go_ret;exact ⟨rfl,Below.refl _ _⟩
 · have d1:decide ((65536:Int)<(n:Nat))=false:=by simp;omega
   by_cases h2:65536<m
   · rw [if_pos (.inr h2)] at hE
     have d2:decide ((65536:Int)<(m:Nat))=true:=by simp;omega
     subst hE;clear hn hm hF hG hW hV;go_enter Tryz.func32,Tryz.ntmps32;go_wp2;go_ret;exact ⟨rfl,Below.refl _ _⟩
   · have d2:decide ((65536:Int)<(m:Nat))=false:=by simp;omega
     rw [if_neg (by omega)] at hE
     by_cases h3:n=m
     · subst h3
       rw [if_neg (by simp)] at hE
       have HPx:=hid (fun (u:World) (hb:Below w.heap.size w u)=>plain13 xs a n c u hn ((hF.below hb).mono hb.size) hW (by omega))
       have HPy:=hid (fun (u:World) (hb:Below w.heap.size w u)=>plain13 ys b n d u hm ((hG.below hb).mono hb.size) hV (by omega))
       obtain ⟨ex,hex⟩:∃ e,plE xs=e:=⟨_,rfl⟩;obtain ⟨ey,hey⟩:∃ e,plE ys=e:=⟨_,rfl⟩;obtain ⟨⟨x1,x2,x3,x4,x5,x6⟩,hsx⟩:∃ s,sS xs=s:=⟨_,rfl⟩;obtain ⟨⟨y1,y2,y3,y4,y5,y6⟩,hsy⟩:∃ s,sS ys=s:=⟨_,rfl⟩;rw [hex,hsx] at HPx;rw [hey,hsy] at HPy;rw [hex,hey] at hE;simp only [Sp.agg] at HPx HPy;have HE:=qsd hE;have HN:=qsd hn;have hn6:n≤65536:=by omega
       obtain ⟨W,hWW⟩:∃ W,W=w.alloc (Obj.cells #[.slice a n c,.slice b n d] 24):=⟨_,rfl⟩
       have B0:Aside (Bl W w.heap.size 24 [.slice a n c,.slice b n d]∧Below w.heap.size w W):=by
        rw [hWW];exact ⟨Bl.new _ 24 [_,_],bel_alloc _ _⟩
       have HWW:=qsd hWW;clear hn hm hF hG hW hV hex hey hsx hsy hE hWW h1 h2;go_enter Tryz.func32,Tryz.ntmps32;go_wp2;rw [←HWW.out];clear HWW
       go_loopg [28] 2 (fun gk i wr=>∃ k:Nat,gk+k=2∧i=.int .i64 (k:Nat)∧Aside (Bl wr w.heap.size 24 [.slice a n c,.slice b n d]∧Below w.heap.size w wr∧(1≤k→ex=0)∧(2≤k→ey=0)))
       case atStart=>exact ⟨0,by omega,by simp,B0.out.1,B0.out.2,fun h=>absurd h (by decide),fun h=>absurd h (by decide)⟩
       case round =>
        obtain ⟨k,hgk,rfl,HA⟩:=hrel;clear B0;obtain hk|hk|hk:k=0∨k=1∨k=2:=by omega
        · subst hk
          have c0:=HA.out.1.cell 0 _ rfl;have C:=hid (HPx.out wr HA.out.2.1);have HA2:=HA;clear HPy
          go_wp2_with fail
          refine C.out.mono ?_;rintro r v ⟨hr,hb⟩;have B1:Aside (Bl v w.heap.size 24 [.slice a n c,.slice b n d]∧Below w.heap.size w v):=⟨HA.out.1.below hb HA.out.1.lt,HA.out.2.1.trans (hb.mono HA.out.2.1.size)⟩;clear hb C
          rcases hr with ⟨he,rfl⟩|⟨he,rfl⟩
          · unfold agg0
            have q1:(ex==0)=false:=by simp [he]
            have HEE:Aside (ex=E):=by have:=HE.out;rw [if_pos he] at this;exact this
            clear he;go_wp2;go_ret;exact ⟨congrArg (fun z=>Ending.returned (Value.int .i64 z)) HEE.out,B1.out.2.trans ((bel_alloc _ _).mono B1.out.2.size)⟩
          · have H3:Aside (∀ (t1 t2 t3 t4 t5 t6:Int),Bl (v.alloc (Obj.cells #[.int .i64 t1,.int .i64 t2,.int .i64 t3,.int .i64 t4,.int .i64 t5,.int .i64 t6] 57)) w.heap.size 24 [.slice a n c,.slice b n d]∧Below w.heap.size w (v.alloc (Obj.cells #[.int .i64 t1,.int .i64 t2,.int .i64 t3,.int .i64 t4,.int .i64 t5,.int .i64 t6] 57))):=fun _ _ _ _ _ _=>⟨B1.out.1.alloc _,B1.out.2.trans ((bel_alloc _ _).mono B1.out.2.size)⟩
            have HK:Aside (ex=0):=he;clear he;go_wp2
            go_roundg (gk-1)
            case measure=>omega
            case rel=>exact ⟨1,by omega,by first | rfl | simp,(H3.out _ _ _ _ _ _).1,(H3.out _ _ _ _ _ _).2,fun _=>HK.out,fun h=>absurd h (by decide)⟩
        · subst hk
          have c1:=HA.out.1.cell 1 _ rfl;have C:=hid (HPy.out wr HA.out.2.1);have HA2:=HA;clear HPx
          go_wp2_with fail
          refine C.out.mono ?_;rintro r v ⟨hr,hb⟩;have B1:Aside (Bl v w.heap.size 24 [.slice a n c,.slice b n d]∧Below w.heap.size w v):=⟨HA.out.1.below hb HA.out.1.lt,HA.out.2.1.trans (hb.mono HA.out.2.1.size)⟩;clear hb C
          rcases hr with ⟨he,rfl⟩|⟨he,rfl⟩
          · unfold agg0
            have q1:(ey==0)=false:=by simp [he]
            have HEE:Aside (ey=E):=by have:=HE.out;rw [if_neg (by rw [HA.out.2.2.1 (by decide)];decide),if_pos he] at this;exact this
            clear he;go_wp2;go_ret;exact ⟨congrArg (fun z=>Ending.returned (Value.int .i64 z)) HEE.out,B1.out.2.trans ((bel_alloc _ _).mono B1.out.2.size)⟩
          · have H3:Aside (∀ (t1 t2 t3 t4 t5 t6:Int),Bl (v.alloc (Obj.cells #[.int .i64 t1,.int .i64 t2,.int .i64 t3,.int .i64 t4,.int .i64 t5,.int .i64 t6] 57)) w.heap.size 24 [.slice a n c,.slice b n d]∧Below w.heap.size w (v.alloc (Obj.cells #[.int .i64 t1,.int .i64 t2,.int .i64 t3,.int .i64 t4,.int .i64 t5,.int .i64 t6] 57))):=fun _ _ _ _ _ _=>⟨B1.out.1.alloc _,B1.out.2.trans ((bel_alloc _ _).mono B1.out.2.size)⟩
            have HK:Aside (ey=0):=he;clear he;go_wp2
            go_roundg (gk-1)
            case measure=>omega
            case rel=>exact ⟨2,by omega,by first | rfl | simp,(H3.out _ _ _ _ _ _).1,(H3.out _ _ _ _ _ _).2,HA2.out.2.2.1 ∘ (fun _=>by decide),fun _=>HK.out⟩
        · subst hk
          have z1:=HA.out.2.2.1 (by decide)
          have z2:=HA.out.2.2.2 (by decide)
          have hE:=HE.out;rw [if_neg (by simp [z1]),if_neg (by simp [z2])] at hE
          clear HPx HPy z1 z2
          by_cases hn0:n=0
          · have hx0:xs=[]:=List.eq_nil_of_length_eq_zero (by have:=HN.out;omega)
            rw [if_pos hx0] at hE;have d5:((n:Int)==0)=true:=by simp [hn0]
            have HEE:=qsd hE;clear hE HE HN hx0;go_wp2;go_ret;exact ⟨congrArg (fun z=>Ending.returned (Value.int .i64 z)) HEE.out,HA.out.2.1⟩
          · have hx0:xs≠[]:=by rintro rfl;have:=HN.out;simp at this;omega
            rw [if_neg hx0] at hE;have d5:((n:Int)==0)=false:=by simp [hn0]
            have HEE:=qsd hE;clear hE HE HN hx0;go_wp2;go_ret;exact ⟨congrArg (fun z=>Ending.returned (Value.int .i64 z)) HEE.out,HA.out.2.1⟩
     · rw [if_pos h3] at hE
       have d3:((n:Int)==(m:Int))=false:=by simp;omega
       subst hE;clear hn hm hF hG hW hV;go_enter Tryz.func32,Tryz.ntmps32;go_wp2;go_ret;exact ⟨rfl,Below.refl _ _⟩
end
section
open Go.RowKit J
attribute [local go_sem] st_float
theorem ex_neg {V:Int}(k:Nat) (hk:k≤90000) (hb:V.natAbs<2^k):mkS (!dN (exV V)) (dX (exV V)) (dE (exV V))=exV (-V):=by
 by_cases h0:V=0
 · subst h0
   rw [ex_zero,show (-0:Int)=0 by decide,ex_zero]
   exact mkS_zero _ _
 · obtain ⟨X,e,ho,hX,he0,he1,hv,hbl,F⟩:=ex_parts13 h0 k hk hb
   obtain ⟨Y,f,ho2,hY,hf0,hf1,hv2,hbl2,F2⟩:=ex_parts13 (V:=-V) (by omega) k hk (by rw [Int.natAbs_neg];exact hb)
   have m1:mkS (decide (V<0)) V.natAbs (-2148)=some (decide (V<0),X,e):=ho;have m2:mkS (decide (-V<0)) (-V).natAbs (-2148)=some (decide (-V<0),Y,f):=ho2;rw [Int.natAbs_neg] at m2;have hn:V.natAbs≠0:=by omega
   unfold mkS at m1 m2;rw [if_neg hn] at m1 m2
   split at m1
   · cases m1
   · rename_i hh
     rw [if_neg hh] at m2;simp only [Option.some.injEq,Prod.mk.injEq,true_and] at m1 m2;obtain ⟨rfl,rfl⟩:=m1;obtain ⟨rfl,rfl⟩:=m2;rw [ho,ho2]
     show mkS (!decide (V<0)) _ _=_
     have e1:(!decide (V<0))=decide (-V<0):=by
      by_cases hs:V<0
      · rw [decide_eq_true hs,decide_eq_false (by omega)];rfl
      · rw [decide_eq_false hs,decide_eq_true (by omega)];rfl
     rw [e1];exact mkS_idem F2
theorem Nt.off13 {lo g T:Nat}{w w':World}{v:Value}{X:Nat}{C:List Value}(h:Nt lo w v X) (hB:Bl w g T C) (hT:T≠76) (hb:But g w w'):Nt lo w' v X:=by
 refine h.off hb ?_
 rcases h.2 with ⟨rfl,_⟩|⟨g',cap,cur,rfl,_,hg,_⟩
 · simp [Value.ownBlock]
 · intro e'
   obtain rfl:g'=g:=by simpa [Value.ownBlock] using e'
   rw [show w.heap[g']?=_ from hB] at hg
   simp at hg;exact hT hg.2
noncomputable def wqR (V W mode:Int):Nat×Int:=if W<0 then qvR (-V) (-W) mode else qvR V W mode
noncomputable def wtR (xs ys:List Nat) (mode:Int):Nat×Int :=
 if askE mode=0 then (if prE xs ys=0 then (bsd (wqR (wS xs ys) (vS ys) mode).2 (wqR (wS xs ys) (vS ys) mode).1,(wqR (wS xs ys) (vS ys) mode).2) else (0,prE xs ys)) else (0,askE mode)
theorem prE_ok {xs ys:List Nat}(h:prE xs ys=0):xs.length≤65536∧xs.length=ys.length∧plE xs=0∧plE ys=0∧xs≠[]:=by
 unfold prE at h
 by_cases h1:65536<xs.length∨65536<ys.length
 · rw [if_pos h1] at h;exact absurd h (by decide)
 · rw [if_neg h1] at h
   by_cases h2:xs.length≠ys.length
   · rw [if_pos h2] at h;exact absurd h (by decide)
   · rw [if_neg h2] at h
     by_cases h3:plE xs≠0
     · rw [if_pos h3] at h;exact absurd h h3
     · rw [if_neg h3] at h
       by_cases h4:plE ys≠0
       · rw [if_pos h4] at h;exact absurd h h4
       · rw [if_neg h4] at h
         by_cases h5:xs=[]
         · rw [if_pos h5] at h;exact absurd h (by decide)
         · exact ⟨by omega,by omega,by omega,by omega,h5⟩
theorem Weighted13 (xs ys:List Nat) (a b:Option Addr) (n m c d:Nat) (mode:Int) (w:World) (hn:n=xs.length) (hm:m=ys.length) (hF:Fs w.heap.size w a xs) (hG:Fs w.heap.size w b ys) (hW:W64 xs) (hV:W64 ys) (hT:Tab w) (z:Nat×Int) (hz:wtR xs ys mode=z) :
 Calls Tryz.prog 8 #[.slice a n c,.slice b m d,.int .i64 mode] w fun r w'=>r=.returned (.tuple #[.float .f64 z.1,.int .i64 z.2])∧Below w.heap.size w w':=by
 obtain ⟨X,E⟩:=z;simp only;have hmf:∀ (fn:Fn) (first cap:Array Value) (w:World),(Instr.makeFunc fn first cap).run Tryz.prog w=.ok (.func fn first cap) w:=fun _ _ _ _=>rfl
 have HA:=hid (fun u:World=>asked13 mode u)
 unfold wtR at hz;obtain ⟨ea,hea⟩:∃ e,askE mode=e:=⟨_,rfl⟩;rw [hea] at HA hz;obtain ⟨W,hWW⟩:∃ W,W=(w.alloc (Obj.cells #[.float .f64 0] 22)).alloc (Obj.cells #[.int .i64 0] 25):=⟨_,rfl⟩;obtain ⟨gx,hgx⟩:∃ g,g=w.heap.size:=⟨_,rfl⟩;obtain ⟨ge,hge⟩:∃ g,g=w.heap.size+1:=⟨_,rfl⟩;have HG:Aside (gx=w.heap.size∧ge=w.heap.size+1∧w.heap.size≤gx∧w.heap.size≤ge∧ge≠gx):=⟨hgx,hge,by omega,by omega,by omega⟩
 have B0:=two13 w;rw [←hWW,←hge] at B0;have B1:=qsd (seterr13 ea (show Bl W gx 22 [.float .f64 0] by rw [hgx];exact B0.1) B0.2.1 B0.2.2 HG.out.2.2.2.1 HG.out.2.2.2.2)
 have c1:=B0.2.1.cell 0 _ rfl;have f1:=B0.2.1.frozen 0;have HWW:=qsd hWW;have HX:=(qsd (ai hn (ai hm (ai hF (ai hG (ai hW (ai hV hT)))))));clear hn hm hF hG hW hV hT hWW hea hgx hge B0;go_enter_defers Tryz.func8,Tryz.ntmps8
 go_wp2_with fail
 rw [←HWW.out]
 try rw [show w.heap.size+1=ge by have:=HG.out;omega]
 try rw [show w.heap.size=gx by have:=HG.out;omega]
 clear HWW;refine (HA.out _).mono ?_;rintro r v ⟨rfl,hv⟩;rw [hv];clear hv v
 by_cases h0:ea=0
 · subst h0
   rw [if_pos rfl] at hz;obtain ⟨V,hV⟩:∃ V,V=W.setCell ⟨ge,0,none⟩ (.int .i64 0):=⟨_,rfl⟩;rw [←hV] at B1;have r1:=B1.out.2.1.cell 0 _ rfl;have HV:=qsd hV;obtain ⟨ep,hep⟩:∃ e,prE xs ys=e:=⟨_,rfl⟩;have HP:=hid (paired13 xs ys a b n m c d V HX.out.1 HX.out.2.1 ((HX.out.2.2.1.below B1.out.2.2).mono B1.out.2.2.size) ((HX.out.2.2.2.1.below B1.out.2.2).mono B1.out.2.2.size) HX.out.2.2.2.2.1 HX.out.2.2.2.2.2.1 ep hep);rw [hep] at hz;have HEP:=qsd hep;clear hV HA hep
   go_upto_region 3 with fail
   rw [←HV.out];clear HV c1 f1
   go_wp2_with fail
   refine HP.out.mono ?_;rintro r v ⟨rfl,hb⟩;obtain ⟨V2,hV2⟩:∃ V,V=v.setCell ⟨ge,0,none⟩ (.int .i64 ep):=⟨_,rfl⟩;have b1:=B1.out.1.below hb B1.out.1.lt;have b2:=B1.out.2.1.below hb B1.out.2.1.lt;have b3:=B1.out.2.2.trans (hb.mono B1.out.2.2.size);have B2:=qsd (seterr13 ep b1 b2 b3 HG.out.2.2.2.1 HG.out.2.2.2.2);rw [←hV2] at B2;have q1:=b2.cell 0 _ rfl;have q2:=b2.frozen 0;have HV2:=qsd hV2;clear hb HP B1 b1 b2 b3 hV2 r1
   by_cases he:ep=0
   · subst he
     rw [if_pos rfl] at hz;obtain ⟨hlen,hnm,hpx,hpy,hne0⟩:=prE_ok HEP.out;obtain rfl:n=m:=by rw [HX.out.1,HX.out.2.1];exact hnm
     have hTV:Tab V2:=HX.out.2.2.2.2.2.2.belows B2.out.2.2;have HPr:=hid (products13 xs ys a b n c d V2 HX.out.1 HX.out.2.1 ((HX.out.2.2.1.below B2.out.2.2).mono B2.out.2.2.size) ((HX.out.2.2.2.1.below B2.out.2.2).mono B2.out.2.2.size) HX.out.2.2.2.2.1 HX.out.2.2.2.2.2.1 hTV (by rw [HX.out.1];exact hlen))
     have HEx:=hid (fun (u:World) (hb:Below w.heap.size w u)=>exact13 ys b n d u HX.out.2.1 ((HX.out.2.2.2.1.below hb).mono hb.size) HX.out.2.2.2.2.2.1 (HX.out.2.2.2.2.2.2.belows hb) (by rw [HX.out.1];exact hlen))
     have Fv:=qsd (wS_fm HX.out.2.2.2.2.1 HX.out.2.2.2.2.2.1 hlen);have Fw:=qsd (vS_fm HX.out.2.2.2.2.2.1 (by omega))
     obtain ⟨kw,hkw,hwb⟩:=wS_bd HX.out.2.2.2.2.1 HX.out.2.2.2.2.2.1 hlen;obtain ⟨kv,hkv,hvb⟩:=vS_bd HX.out.2.2.2.2.2.1 (by omega)
     obtain ⟨Vs,hVs⟩:∃ V,wS xs ys=V:=⟨_,rfl⟩;obtain ⟨Ws,hWs⟩:∃ V,vS ys=V:=⟨_,rfl⟩;rw [hVs] at HPr Fv hwb hz;rw [hWs] at HEx Fw hvb hz;obtain ⟨g1,g2,g3⟩:=sgn_ex kv (by omega) hvb
     have n1:=ex_neg kw (by omega) hwb
     have n2:=ex_neg kv (by omega) hvb
     have Fv':=qsd (ex_fm (-Vs) kw (by omega) (by rw [Int.natAbs_neg];exact hwb))
     have Fw':=qsd (ex_fm (-Ws) kv (by omega) (by rw [Int.natAbs_neg];exact hvb))
     obtain ⟨⟨xl,el⟩,hl⟩:∃ z,wqR Vs Ws mode=z:=⟨_,rfl⟩;rw [hl] at hz;have hz1:(bsd el xl,el)=(X,E):=hz;have HXE:=qsd (Prod.mk.inj hz1)
     have HR0:∀ (o1 o2:Option (Bool×Nat×Int)) (z:Nat×Int),Fm o1→Fm o2→quoR rndS ⟨dN o1,.bool false,dX o1,dE o1,dN o2,.bool false,dX o2,dE o2⟩ mode=z→∀ (u:World) (p q:Option Addr) (cp cq:Nat),Tab u→Nt 0 u (.slice p (ws (dX o1)).length cp) (dX o1)→Nt 0 u (.slice q (ws (dX o2)).length cq) (dX o2)→Calls Tryz.prog 37 #[.agg #[.bool (dN o1),.slice p (ws (dX o1)).length cp,.int .i64 (dE o1),.bool (dN o2),.slice q (ws (dX o2)).length cq,.int .i64 (dE o2)],.int .i64 mode] u fun r w'=>r=.returned (.tuple #[.float .f64 z.1,.int .i64 z.2])∧Below u.heap.size u w':=fun o1 o2 z F1 F2 hq u p q cp cq hT n1 n2=>by
      have:=Quot11 (w:=u) (n:=dN o1) (m:=dN o2) (X:=dX o1) (Y:=dX o2) (e:=dE o1) (f:=dE o2) mode ⟨n1.av (Nat.le_trans F1.len (by decide)),n2.av (Nat.le_trans F2.len (by decide)),F1.rng,F2.rng⟩ hT
      rw [show quoR rndS ⟨dN o1,.slice p (ws (dX o1)).length cp,dX o1,dE o1,dN o2,.slice q (ws (dX o2)).length cq,dX o2,dE o2⟩ mode=z from hq] at this
      exact this
     have HNg0:∀ (o o':Option (Bool×Nat×Int)),Fm o→mkS (!dN o) (dX o) (dE o)=o'→∀ (u:World) (p:Option Addr) (cp:Nat),Tab u→Nt 0 u (.slice p (ws (dX o)).length cp) (dX o)→Calls Tryz.prog 36 #[.agg #[.bool (dN o),.slice p (ws (dX o)).length cp,.int .i64 (dE o)]] u fun r u'=>(∃ v,r=.returned (.agg #[.bool (dN o'),v,.int .i64 (dE o')])∧Nt u.heap.size u' v (dX o'))∧Below u.heap.size u u':=fun o o' F hm u p cp hT n1=>by
      have:=Neg_any (F.a12 n1) hT (dN o) (dE o) F.rng.1 F.rng.2;rw [val_ws,hm] at this;exact this
     have HS:Hid (∀ (u:World) (p:Option Addr) (q:Nat),Nt 0 u (.slice p (ws (dX (exV Ws))).length q) (dX (exV Ws))→Calls Tryz.prog 35 #[.agg #[.bool (dN (exV Ws)),.slice p (ws (dX (exV Ws))).length q,.int .i64 (dE (exV Ws))]] u fun r u'=>r=.returned (.int .i64 (sgn (dN (exV Ws)) (val (ws (dX (exV Ws))))))∧Below u.heap.size u u'):=fun u p q hN=>Sign_any3 (Fw.out.a12 hN) _ _
     have HNv:=hid (HNg0 _ _ Fv.out n1);have HNw:=hid (HNg0 _ _ Fw.out n2);have HR1:Hid (Ws<0→_):=fun hs=>HR0 (exV (-Vs)) (exV (-Ws)) (xl,el) Fv'.out Fw'.out (by rw [←hl];unfold wqR;rw [if_pos hs];rfl)
     have HR2:Hid (¬ Ws<0→_):=fun hs=>HR0 (exV Vs) (exV Ws) (xl,el) Fv.out Fw.out (by rw [←hl];unfold wqR;rw [if_neg hs];rfl)
     obtain ⟨ov,hov⟩:∃ o,exV Vs=o:=⟨_,rfl⟩;obtain ⟨ow,how⟩:∃ o,exV Ws=o:=⟨_,rfl⟩;obtain ⟨ov',hov'⟩:∃ o,exV (-Vs)=o:=⟨_,rfl⟩;obtain ⟨ow',how'⟩:∃ o,exV (-Ws)=o:=⟨_,rfl⟩;rw [hov] at HPr Fv HNv HR2;rw [how] at HEx Fw HNw HR2 HS g3;rw [hov'] at Fv' HNv HR1;rw [how'] at Fw' HNw HR1;obtain ⟨sg,hsg⟩:∃ s,sgn (dN ow) (val (ws (dX ow)))=s:=⟨_,rfl⟩;rw [hsg] at HS g3;have HG3:=qsd g3;have HTV:=qsd hTV;simp only at HR1 HR2;clear hlen hnm hpx hpy hne0 hwb hvb hkw hkv g1 g2 g3 n1 n2 hz hz1 hl HR0 HNg0 hov how hov' how' hsg hVs hWs HEP hTV kw kv;have r1:=B2.out.2.1.cell 0 _ rfl
     go_upto_region 5 with fail
     rw [←HV2.out];clear HV2 q1 q2
     go_wp2_with fail
     refine HPr.out.mono ?_;rintro r u1 ⟨v1,rfl,hN1,hb1⟩;obtain ⟨p1,k1,rfl,hN1⟩:=Lo.shape Fv.out hN1;have B3:Aside (Bl u1 gx 22 [.float .f64 0]∧Bl u1 ge 25 [.int .i64 0]∧Below w.heap.size w u1∧Nt 0 u1 (.slice p1 (ws (dX ov)).length k1) (dX ov)):=⟨B2.out.1.below hb1 B2.out.1.lt,B2.out.2.1.below hb1 B2.out.2.1.lt,B2.out.2.2.trans (hb1.mono B2.out.2.2.size),hN1⟩;clear hb1 hN1 HPr B2 r1;have CE:=hid (HEx.out u1 B3.out.2.2.1);clear HEx
     go_wp2_with fail
     refine CE.out.mono ?_;rintro r u2 ⟨v2,rfl,hN2,hb2⟩;obtain ⟨p2,k2,rfl,hN2⟩:=Lo.shape Fw.out hN2;obtain ⟨U,hU⟩:∃ U,U=u2.alloc (Obj.cells #[.bool (dN ov),.slice p1 (ws (dX ov)).length k1,.int .i64 (dE ov),.bool (dN ow),.slice p2 (ws (dX ow)).length k2,.int .i64 (dE ow)] 67):=⟨_,rfl⟩;obtain ⟨gr,hgr⟩:∃ g,u2.heap.size=g:=⟨_,rfl⟩
     have B4:Aside (Bl U gr 67 [.bool (dN ov),.slice p1 (ws (dX ov)).length k1,.int .i64 (dE ov),.bool (dN ow),.slice p2 (ws (dX ow)).length k2,.int .i64 (dE ow)]∧Bl U gx 22 [.float .f64 0]∧Bl U ge 25 [.int .i64 0]∧Below w.heap.size w U∧Tab U∧Nt 0 U (.slice p1 (ws (dX ov)).length k1) (dX ov)∧Nt 0 U (.slice p2 (ws (dX ow)).length k2) (dX ow)):=by
      have hb3:=B3.out.2.2.1.trans (hb2.mono B3.out.2.2.1.size);have hbU:Below u2.heap.size u2 U:=by rw [hU];exact below_alloc _ _
      have hbw:Below w.heap.size w U:=hb3.trans (hbU.mono hb3.size);refine ⟨by rw [hU,←hgr];exact Bl.new _ 67 [_,_,_,_,_,_],?_,?_,hbw,HX.out.2.2.2.2.2.2.belows hbw,(B3.out.2.2.2.below hb2).below hbU,hN2.below hbU⟩
      · exact (B3.out.1.below hb2 B3.out.1.lt).below hbU (by have:=B3.out.1.lt;have:=hb2.size;omega)
      · exact (B3.out.2.1.below hb2 B3.out.2.1.lt).below hbU (by have:=B3.out.2.1.lt;have:=hb2.size;omega)
     have HU:=qsd hU;have HGR:=qsd hgr;have HGR2:Aside (w.heap.size≤gr):=by have h1:=B3.out.2.2.1.size;have h2:=hb2.size;rw [Aside,←hgr];omega
     clear hb2 hN2 CE B3 hU hgr;have s3:=B4.out.1.cell 3 _ rfl;have s4:=B4.out.1.cell 4 _ rfl;have s5:=B4.out.1.cell 5 _ rfl
     go_upto_region 7 with fail
     rw [←HU.out,HGR.out];clear HU HGR;have CS:=hid (HS.out U p2 k2 B4.out.2.2.2.2.2.2);clear HS
     go_wp2_with fail
     refine CS.out.mono ?_;rintro r u3 ⟨rfl,hb3⟩
     have B5:Aside (Bl u3 gr 67 [.bool (dN ov),.slice p1 (ws (dX ov)).length k1,.int .i64 (dE ov),.bool (dN ow),.slice p2 (ws (dX ow)).length k2,.int .i64 (dE ow)]∧Bl u3 gx 22 [.float .f64 0]∧Bl u3 ge 25 [.int .i64 0]∧Below w.heap.size w u3∧Tab u3∧Nt 0 u3 (.slice p1 (ws (dX ov)).length k1) (dX ov)∧Nt 0 u3 (.slice p2 (ws (dX ow)).length k2) (dX ow)) :=
      ⟨B4.out.1.below hb3 B4.out.1.lt,B4.out.2.1.below hb3 B4.out.2.1.lt,B4.out.2.2.1.below hb3 B4.out.2.2.1.lt,B4.out.2.2.2.1.trans (hb3.mono B4.out.2.2.2.1.size),B4.out.2.2.2.2.1.belows hb3,B4.out.2.2.2.2.2.1.below hb3,B4.out.2.2.2.2.2.2.below hb3⟩
     clear hb3 CS B4 s3 s4 s5
     by_cases hs:Ws<0
     · have HR:=hid (HR1.out hs)
       have d5:decide (sg<0)=true:=decide_eq_true (HG3.out.1 hs);clear HR1 HR2
       go_upto_region 8 with fail
       refine calm13 ?_;have hdr:=(Below.refl u3.heap.size u3).drew;have BB:=(qsd (ai B5.out.1.drew (ai B5.out.2.1.drew (ai B5.out.2.2.1.drew (ai (B5.out.2.2.2.1.trans (hdr.mono B5.out.2.2.2.1.size)) (ai (B5.out.2.2.2.2.1.belows hdr) (ai (B5.out.2.2.2.2.2.1.below hdr) (B5.out.2.2.2.2.2.2.below hdr))))))));clear hdr B5;have s0:=BB.out.1.cell 0 _ rfl;have s1:=BB.out.1.cell 1 _ rfl;have s2:=BB.out.1.cell 2 _ rfl;have s3:=BB.out.1.cell 3 _ rfl;have s4:=BB.out.1.cell 4 _ rfl;have s5:=BB.out.1.cell 5 _ rfl;have y0:=BB.out.1.frozen 0;have y1:=BB.out.1.frozen 1;have y2:=BB.out.1.frozen 2;have y3:=BB.out.1.frozen 3;have y4:=BB.out.1.frozen 4;have y5:=BB.out.1.frozen 5
       go_region_with (first
        | (go_at_call 36
           with_reducible refine (HNv.out _ p1 k1 BB.out.2.2.2.2.1 BB.out.2.2.2.2.2.1).mono ?_
           rintro r v ⟨⟨q,rfl,hN⟩,hb⟩;obtain ⟨p3,k3,rfl,hN0⟩:=Lo.shape Fv'.out hN;have BB:=qsd (ai (BB.out.1.below hb BB.out.1.lt) (ai (BB.out.2.1.below hb BB.out.2.1.lt) (ai (BB.out.2.2.1.below hb BB.out.2.2.1.lt) (ai (BB.out.2.2.2.1.trans (hb.mono BB.out.2.2.2.1.size)) (ai (BB.out.2.2.2.2.1.belows hb) (ai (BB.out.2.2.2.2.2.1.below hb) (BB.out.2.2.2.2.2.2.below hb)))))));have Q2:=qsd hN0;have s0:=BB.out.1.cell 0 _ rfl;have s1:=BB.out.1.cell 1 _ rfl;have s2:=BB.out.1.cell 2 _ rfl;have s3:=BB.out.1.cell 3 _ rfl;have s4:=BB.out.1.cell 4 _ rfl;have s5:=BB.out.1.cell 5 _ rfl;clear hb hN hN0)
        | (go_at_call 36
           with_reducible refine (HNw.out _ p2 k2 BB.out.2.2.2.2.1 BB.out.2.2.2.2.2.2).mono ?_
           rintro r v ⟨⟨q,rfl,hN⟩,hb⟩;obtain ⟨p4,k4,rfl,hN0⟩:=Lo.shape Fw'.out hN;have BB:=qsd (ai (BB.out.1.below hb BB.out.1.lt) (ai (BB.out.2.1.below hb BB.out.2.1.lt) (ai (BB.out.2.2.1.below hb BB.out.2.2.1.lt) (ai (BB.out.2.2.2.1.trans (hb.mono BB.out.2.2.2.1.size)) (ai (BB.out.2.2.2.2.1.belows hb) (ai (Q2.out.below hb) hN0))))));have s0:=BB.out.1.cell 0 _ rfl;have s1:=BB.out.1.cell 1 _ rfl;have s2:=BB.out.1.cell 2 _ rfl;have s3:=BB.out.1.cell 3 _ rfl;have s4:=BB.out.1.cell 4 _ rfl;have s5:=BB.out.1.cell 5 _ rfl;have y0:=BB.out.1.frozen 0;have y1:=BB.out.1.frozen 1;have y2:=BB.out.1.frozen 2;have y3:=BB.out.1.frozen 3;have y4:=BB.out.1.frozen 4;have y5:=BB.out.1.frozen 5;clear hb hN hN0))
       all_goals
        clear HNv HNw Q2 s0 s1 s2 s3 s4 s5 y0 y1 y2 y3 y4 y5;obtain ⟨Z,hZ⟩:∃ Z,Z=(((((v.setCell ⟨gr,0,none⟩ (.bool (dN ov'))).setCell ⟨gr,1,none⟩ (.slice p3 (ws (dX ov')).length k3)).setCell ⟨gr,2,none⟩ (.int .i64 (dE ov'))).setCell ⟨gr,3,none⟩ (.bool (dN ow'))).setCell ⟨gr,4,none⟩ (.slice p4 (ws (dX ow')).length k4)).setCell ⟨gr,5,none⟩ (.int .i64 (dE ow')):=⟨_,rfl⟩
        have B7:Aside (Bl Z gr 67 [.bool (dN ov'),.slice p3 (ws (dX ov')).length k3,.int .i64 (dE ov'),.bool (dN ow'),.slice p4 (ws (dX ow')).length k4,.int .i64 (dE ow')]∧Bl Z gx 22 [.float .f64 0]∧Bl Z ge 25 [.int .i64 0]∧Below w.heap.size w Z∧Tab Z∧Nt 0 Z (.slice p3 (ws (dX ov')).length k3) (dX ov')∧Nt 0 Z (.slice p4 (ws (dX ow')).length k4) (dX ow')):=by
         have bz:But gr v Z:=by rw [hZ];exact Ps.But.set6 (But.refl _ _) _ _ _ _ _ _
         have hgx:gx≠gr:=by rintro rfl;have:=BB.out.2.1.symm.trans BB.out.1;simp at this
         have hge:ge≠gr:=by rintro rfl;have:=BB.out.2.2.1.symm.trans BB.out.1;simp at this
         have hgl:w.heap.size≤gr:=HGR2.out;have hbz:=But.below BB.out.2.2.2.1 bz BB.out.2.2.2.1.size hgl;refine ⟨by rw [hZ];exact (((((BB.out.1.set 0 _).set 1 _).set 2 _).set 3 _).set 4 _).set 5 _,BB.out.2.1.but bz hgx,BB.out.2.2.1.but bz hge,hbz,HX.out.2.2.2.2.2.2.belows hbz,BB.out.2.2.2.2.2.1.off13 BB.out.1 (by decide) bz,BB.out.2.2.2.2.2.2.off13 BB.out.1 (by decide) bz⟩
        rw [←hZ];clear hZ BB;have s0:=B7.out.1.cell 0 _ rfl;have s1:=B7.out.1.cell 1 _ rfl;have s2:=B7.out.1.cell 2 _ rfl;have s3:=B7.out.1.cell 3 _ rfl;have s4:=B7.out.1.cell 4 _ rfl;have s5:=B7.out.1.cell 5 _ rfl;have C:=hid (HR.out _ p3 p4 k3 k4 B7.out.2.2.2.2.1 B7.out.2.2.2.2.2.1 B7.out.2.2.2.2.2.2)
        go_wp2_with fail
        refine C.out.mono ?_;rintro r v ⟨rfl,hb⟩
        have B6:Aside (Bl v gx 22 [.float .f64 0]∧Bl v ge 25 [.int .i64 0]∧Below w.heap.size w v) :=
         ⟨B7.out.2.1.below hb B7.out.2.1.lt,B7.out.2.2.1.below hb B7.out.2.2.1.lt,B7.out.2.2.2.1.trans (hb.mono B7.out.2.2.2.1.size)⟩
        have t1:=B6.out.1.cell 0 _ rfl;have t2:=B6.out.1.frozen 0;have t3:=B6.out.2.1.cell 0 _ rfl;have t4:=B6.out.2.1.frozen 0;have hne1:ge≠gx:=HG.out.2.2.2.2;have hne2:gx≠ge:=fun h=>HG.out.2.2.2.2 h.symm
        clear hb B7 C HR s0 s1 s2 s3 s4 s5;go_wp2;refine finish13 Tryz.results8 Weighted1_d B6.out.1 B6.out.2.1 B6.out.2.2 HG.out.2.2.1 HG.out.2.2.2.1 HG.out.2.2.2.2 HXE.out.1 HXE.out.2 (fun _=>by simp [go_sem]) ?_ ?_ <;> rfl
     · have HR:=hid (HR2.out (by omega))
       have d5:decide (sg<0)=false:=decide_eq_false (fun h=>hs (HG3.out.2 h))
       clear HR1 HR2 HNv HNw;have s0:=B5.out.1.cell 0 _ rfl;have s1:=B5.out.1.cell 1 _ rfl;have s2:=B5.out.1.cell 2 _ rfl;have s3:=B5.out.1.cell 3 _ rfl;have s4:=B5.out.1.cell 4 _ rfl;have s5:=B5.out.1.cell 5 _ rfl;have C:=hid (HR.out _ p1 p2 k1 k2 B5.out.2.2.2.2.1 B5.out.2.2.2.2.2.1 B5.out.2.2.2.2.2.2)
       go_wp2_with fail
       refine C.out.mono ?_;rintro r v ⟨rfl,hb⟩
       have B6:Aside (Bl v gx 22 [.float .f64 0]∧Bl v ge 25 [.int .i64 0]∧Below w.heap.size w v) :=
        ⟨B5.out.2.1.below hb B5.out.2.1.lt,B5.out.2.2.1.below hb B5.out.2.2.1.lt,B5.out.2.2.2.1.trans (hb.mono B5.out.2.2.2.1.size)⟩
       have t1:=B6.out.1.cell 0 _ rfl;have t2:=B6.out.1.frozen 0;have t3:=B6.out.2.1.cell 0 _ rfl;have t4:=B6.out.2.1.frozen 0;have hne1:ge≠gx:=HG.out.2.2.2.2;have hne2:gx≠ge:=fun h=>HG.out.2.2.2.2 h.symm
       clear hb B5 C HR s0 s1 s2 s3 s4 s5;go_wp2;refine finish13 Tryz.results8 Weighted1_d B6.out.1 B6.out.2.1 B6.out.2.2 HG.out.2.2.1 HG.out.2.2.2.1 HG.out.2.2.2.2 HXE.out.1 HXE.out.2 (fun _=>by simp [go_sem]) ?_ ?_ <;> rfl
   · rw [if_neg he] at hz
     have HXE:=qsd (Prod.mk.inj hz);have h1:(ep==0)=false:=by simp [he]
     have r1:=B2.out.2.1.cell 0 _ rfl;clear hz HEP
     go_upto_region 5 with fail
     rw [←HV2.out];clear HV2 q1 q2;go_wp2;refine early13 Tryz.results8 Weighted1_d B2.out.1 B2.out.2.1 B2.out.2.2 HG.out.2.2.1 HG.out.2.2.2.2 ((bsd_zero _).trans HXE.out.1) HXE.out.2 (by simp [go_sem]) ?_ ?_ <;> rfl
 · rw [if_neg h0] at hz
   have HXE:=qsd (Prod.mk.inj hz);have h1:(ea==0)=false:=by simp [h0]
   clear hz HA;go_wp2;refine early13 Tryz.results8 Weighted1_d B1.out.1 B1.out.2.1 B1.out.2.2 HG.out.2.2.1 HG.out.2.2.2.2 ((bsd_zero _).trans HXE.out.1) HXE.out.2 (by simp [go_sem]) ?_ ?_ <;> rfl
end
section
open Go.RowKit J
open Go.Proofs.YtmkmndlpjenemaaGreatDoor.B (f64bits f64frombits)
attribute [local go_sem] st_float f64bits f64frombits
theorem own13 {V W:Int}(hV:V≠0) (hW:0<W) (k:Nat) (hk:k≤90000) (hb:V.natAbs<2^k) (hb2:W.natAbs<2^k) (L:Nat) (hL:L<9218868437227405312) (e:∀ j,j=1074→V.natAbs*2^j=vK L*W.natAbs) (mode:Int) (hm0:0≤mode) (hm4:mode≤4) :
 qvR V W mode=(L+(if V<0 then 9223372036854775808 else 0),0):=by
 obtain ⟨K,t,m,hL1,hR⟩:=quot_lies hV hW k hk hb hb2;rw [hR mode hm0 hm4,rK_own mode _ (hL1 1074 rfl) L hL (e 1074 rfl)]
theorem lenW_bd (N:Nat) (h:N≤65536) (k:Nat) (hk:k=2148):∃ j:Nat,j=4238∧((N:Int)*((2^k:Nat):Int)).natAbs<2^j:=by
 obtain ⟨j,hj⟩:∃ j:Nat,j=4238:=⟨_,rfl⟩;refine ⟨j,hj,?_⟩;rw [←Int.natCast_mul,Int.natAbs_natCast];have h1:N*2^k<2^17*2^k:=Nat.mul_lt_mul_of_pos_right (by omega) (Nat.two_pow_pos k)
 rw [←Nat.pow_add] at h1;exact Nat.lt_of_lt_of_le h1 (Nat.pow_le_pow_right (by decide) (by omega))
theorem lev_own {xs:List Nat}{s:Sp}{mode:Int}(hW:W64 xs) (hl:xs.length≤65536) (hne:xs≠[]) (hV:vS xs≠0) (hm0:0≤mode) (hm4:mode≤4) (L:Nat) (hL:L<9218868437227405312) (e:∀ j k,j=1074→k=2148→(vS xs).natAbs*2^j=vK L*(xs.length*2^k)) :
 levR xs s mode=(L+(if vS xs<0 then 9223372036854775808 else 0),0):=by
 unfold levR;obtain ⟨k,hk⟩:∃ k:Nat,k=2148:=⟨_,rfl⟩;obtain ⟨j,hj,hb⟩:=vS_bd hW hl;obtain ⟨j2,hj2,hb2⟩:=lenW_bd xs.length hl k hk;rw [if_neg hne,if_neg hV,qn_qv _ _ _ k hk];have hp:0<xs.length:=List.length_pos_iff.2 hne;have hpk:=Nat.two_pow_pos k;refine own13 hV ?_ j (by omega) hb (by rw [hj,←hj2];exact hb2) L hL ?_ mode hm0 hm4
 · rw [←Int.natCast_mul];have:=Nat.mul_pos hp hpk;omega
 · intro i hi
   rw [←Int.natCast_mul,Int.natAbs_natCast];exact e i k hi hk
theorem mean126:meanR [4607182418800017408,4611686018427387904,4618441417868443648] 0 0 0=(4613937818241073152,0):=by
 have e1:askE 0=0:=by decide
 have e2:sfE 0 0 [4607182418800017408,4611686018427387904,4618441417868443648]=0:=by decide +kernel
 have e3:vd (snd (sS [4607182418800017408,4611686018427387904,4618441417868443648]).n (sS [4607182418800017408,4611686018427387904,4618441417868443648]).u (sS [4607182418800017408,4611686018427387904,4618441417868443648]).d (sS [4607182418800017408,4611686018427387904,4618441417868443648]).m (sS [4607182418800017408,4611686018427387904,4618441417868443648]).p (sS [4607182418800017408,4611686018427387904,4618441417868443648]).a&&may 0 0) (sS [4607182418800017408,4611686018427387904,4618441417868443648]).n (sS [4607182418800017408,4611686018427387904,4618441417868443648]).u (sS [4607182418800017408,4611686018427387904,4618441417868443648]).d 0 0=(0,false):=by decide +kernel
 have e4:Ps.fin [4607182418800017408,4611686018427387904,4618441417868443648]=[4607182418800017408,4611686018427387904,4618441417868443648]:=by decide +kernel
 have hp:decide (0<vS [4607182418800017408,4611686018427387904,4618441417868443648])=true:=by decide +kernel
 have hp:=of_decide_eq_true hp;have e5:=lev_own (xs:=[4607182418800017408,4611686018427387904,4618441417868443648]) (s:=sS [4607182418800017408,4611686018427387904,4618441417868443648]) (mode:=0) (by unfold W64;decide) (by decide) (by decide) (by omega) (by decide) (by decide) 4613937818241073152 (by decide) (fun j k hj hk=>by subst hj hk;decide +kernel)
 unfold meanR;rw [e1,if_pos rfl,e2,if_pos rfl,e3,if_neg (by decide),e4,e5,if_neg (by omega)]
 rfl
theorem mid12:midR 4607182418800017408 4611686018427387904 0=(4609434218613702656,0):=by
 have e1:askE 0=0:=by decide
 have e2:plE [4607182418800017408,4611686018427387904]=0:=by decide +kernel
 have hp:decide (0<vS [4607182418800017408,4611686018427387904])=true:=by decide +kernel
 have hp:=of_decide_eq_true hp;have e5:=lev_own (xs:=[4607182418800017408,4611686018427387904]) (s:=sS [4607182418800017408,4611686018427387904]) (mode:=0) (by unfold W64;decide) (by decide) (by decide) (by omega) (by decide) (by decide) 4609434218613702656 (by decide) (fun j k hj hk=>by subst hj hk;decide +kernel)
 unfold midR plnR;rw [e1,if_pos rfl,e2,if_pos rfl,e5,if_neg (by omega)]
 rfl
theorem wt12:wtR [4607182418800017408,4611686018427387904] [4607182418800017408,4613937818241073152] 0=(4610560118520545280,0):=by
 have e1:askE 0=0:=by decide
 have e2:prE [4607182418800017408,4611686018427387904] [4607182418800017408,4613937818241073152]=0:=by decide +kernel
 have hp:decide (0<wS [4607182418800017408,4611686018427387904] [4607182418800017408,4613937818241073152])=true:=by decide +kernel
 have hp:=of_decide_eq_true hp;have hq:decide (0<vS [4607182418800017408,4613937818241073152])=true:=by decide +kernel
 have hq:=of_decide_eq_true hq;have w1:W64 [4607182418800017408,4611686018427387904]:=by unfold W64;decide
 have w2:W64 [4607182418800017408,4613937818241073152]:=by unfold W64;decide
 obtain ⟨k1,hk1,hb1⟩:=wS_bd w1 w2 (by decide)
 obtain ⟨k2,hk2,hb2⟩:=vS_bd w2 (by decide)
 have e5:=own13 (V:=wS [4607182418800017408,4611686018427387904] [4607182418800017408,4613937818241073152]) (W:=vS [4607182418800017408,4613937818241073152]) (by omega) hq k1 (by omega) hb1 (by rw [hk1,←hk2];exact hb2) 4610560118520545280 (by decide) (fun j hj=>by subst hj;decide +kernel) 0 (by decide) (by decide)
 unfold wtR wqR;rw [e1,if_pos rfl,e2,if_pos rfl,if_neg (by omega),e5,if_neg (by omega)]
 rfl
theorem lit13 (w:World) (xs:List Nat) (g:Nat) (hg:g=w.heap.size):Fs (w.alloc (Obj.cells (xs.map fun x=>Value.float .f64 x).toArray 22)).heap.size (w.alloc (Obj.cells (xs.map fun x=>Value.float .f64 x).toArray 22)) (some ⟨g,0,none⟩) xs:=by
 intro _;refine ⟨g,0,by simp;omega,rfl,fun i hi=>?_⟩
 have hB:=Bl.new w 22 (xs.map fun x=>Value.float .f64 x)
 rw [hg];refine (hB.cell (0+i) (.float .f64 (xs.getD i 0)) ?_);rw [Nat.zero_add,List.getElem?_map,List.getD_eq_getElem?_getD,List.getElem?_eq_getElem hi]
 rfl
theorem live13 (w:World) (hT:Tab w):Calls Tryz.prog 6 #[] w fun r w'=>r=.returned (.bool true)∧Below w.heap.size w w':=by
 have o3:(FloatKind.f64.format.order 4613937818241073152 4613937818241073152==some .eq)=true:=by decide +kernel
 have o175:(FloatKind.f64.format.order 4610560118520545280 4610560118520545280==some .eq)=true:=by decide +kernel
 have o15:(FloatKind.f64.format.order 4609434218613702656 4609434218613702656==some .eq)=true:=by decide +kernel
 obtain ⟨W1,hW1⟩:∃ W,W=w.alloc (Obj.cells #[.float .f64 4607182418800017408,.float .f64 4611686018427387904,.float .f64 4618441417868443648] 22):=⟨_,rfl⟩
 have B1:Aside (Below w.heap.size w W1∧Fs W1.heap.size W1 (some ⟨w.heap.size,0,none⟩) [4607182418800017408,4611686018427387904,4618441417868443648]):=by
  rw [hW1];exact ⟨bel_alloc _ _,lit13 w [_,_,_] _ rfl⟩
 have HT:=qsd hT;have C1:=hid (Mean13 [4607182418800017408,4611686018427387904,4618441417868443648] (some ⟨w.heap.size,0,none⟩) 3 3 0 0 0 W1 rfl B1.out.2 (by unfold W64;decide) (hT.belows B1.out.1) (by decide) _ mean126)
 have HW1:=qsd hW1;clear hW1 hT;go_enter Tryz.func6,Tryz.ntmps6
 go_wp2_with fail
 rw [←HW1.out];clear HW1;refine C1.out.mono ?_;rintro r u1 ⟨rfl,hb1⟩;have B2:=qsd (B1.out.1.trans (hb1.mono B1.out.1.size));clear hb1 C1 B1;obtain ⟨W2,hW2⟩:∃ W,W=(u1.alloc (Obj.cells #[.float .f64 4607182418800017408,.float .f64 4611686018427387904] 22)).alloc (Obj.cells #[.float .f64 4607182418800017408,.float .f64 4613937818241073152] 22):=⟨_,rfl⟩
 have B3:Aside (Below w.heap.size w W2∧Fs W2.heap.size W2 (some ⟨u1.heap.size,0,none⟩) [4607182418800017408,4611686018427387904]∧Fs W2.heap.size W2 (some ⟨u1.heap.size+1,0,none⟩) [4607182418800017408,4613937818241073152]):=by
  rw [hW2];exact ⟨(B2.out.trans ((bel_alloc _ _).mono B2.out.size)).trans ((bel_alloc _ _).mono (Nat.le_trans B2.out.size (by simp))),((lit13 u1 [_,_] _ rfl).below (bel_alloc _ _)).mono (by simp),lit13 _ [_,_] _ (by simp)⟩
 have C2:=hid (Weighted13 [4607182418800017408,4611686018427387904] [4607182418800017408,4613937818241073152] (some ⟨u1.heap.size,0,none⟩) (some ⟨u1.heap.size+1,0,none⟩) 2 2 2 2 0 W2 rfl rfl B3.out.2.1 B3.out.2.2 (by unfold W64;decide) (by unfold W64;decide) (HT.out.belows B3.out.1) _ wt12)
 have HW2:=qsd hW2;clear hW2
 go_wp2_with fail
 rw [←HW2.out];clear HW2;refine C2.out.mono ?_;rintro r u2 ⟨rfl,hb2⟩;have B4:=qsd (B3.out.1.trans (hb2.mono B3.out.1.size));clear hb2 C2 B3 B2;have C3:=hid (Middle13 4607182418800017408 4611686018427387904 (by decide) (by decide) 0 u2 (HT.out.belows B4.out) _ mid12)
 go_wp2_with fail
 refine C3.out.mono ?_;rintro r u3 ⟨rfl,hb3⟩;have B5:=qsd (B4.out.trans (hb3.mono B4.out.size));clear hb3 C3 B4;simp only;go_wp2;go_ret;exact ⟨rfl,B5.out⟩
theorem exact_law13 (x y:Nat) (w:World):Calls Tryz.prog 10 #[.float .f64 x,.float .f64 y] w fun r w'=>r=.returned (.bool (decide (x=y)))∧w'=w:=by
 go_enter Tryz.func10,Tryz.ntmps10;go_wp2;go_ret;refine ⟨congrArg (fun z=>Ending.returned (Value.bool z)) ?_,rfl⟩
 first | rfl | (rw [Bool.eq_iff_iff];simp;done) | (rw [Bool.eq_iff_iff];simp;omega)
end
section
open Go.RowKit J
def fS (xs:List Nat):Int:=xs.foldl (fun v x=>v+fvW x) 0
theorem fS_fold:∀ (xs:List Nat) (v:Int),xs.foldl (fun v x=>v+fvW x) v=v+fS xs
 | [],v=>by simp [fS]
 | x::xs,v=>by
   unfold fS;rw [List.foldl_cons,List.foldl_cons,fS_fold xs (v+_),fS_fold xs (0+_)];omega
theorem fS_cons (x:Nat) (xs:List Nat):fS (x::xs)=fvW x+fS xs:=by
 have:=fS_fold xs (0+fvW x);unfold fS at this ⊢;rw [List.foldl_cons,this];omega
theorem fv_one (k:Nat) (hk:k=1074):fvW 4607182418800017408=((2^k:Nat):Int):=by subst hk;decide +kernel
theorem vS_fS (k:Nat) (hk:k=1074):∀ {xs:List Nat},W64 xs→(∀ x ∈ xs,finW x)→vS xs=fS xs*((2^k:Nat):Int)
 | [],_,_=>by simp [vS,fS]
 | x::xs,h,hf=>by
   have hx:=h x List.mem_cons_self;have fx:=hf x List.mem_cons_self;have fo:finW 4607182418800017408:=by decide
   rw [vS_cons,fS_cons,(pT_mul hx (by decide) fx fo).1,fv_one k hk,vS_fS k hk (fun z hz=>h z (List.mem_cons_of_mem _ hz)) (fun z hz=>hf z (List.mem_cons_of_mem _ hz)),Int.add_mul]
theorem fv_abs (x:Nat):(fvW x).natAbs=vK (magW x):=by unfold fvW B.sg;cases negW x <;> simp
theorem vK_le {a b:Nat}(h:a≤b):vK a≤vK b:=by
 rcases Nat.lt_or_ge a b with q|q
 · exact Nat.le_of_lt (grid64.mono q)
 · rw [show a=b by omega];exact Nat.le_refl _
theorem fS_bd (T:Nat):∀ {xs:List Nat},(∀ x ∈ xs,magW x≤T)→(fS xs).natAbs≤xs.length*vK T
 | [],_=>by simp [fS]
 | x::xs,h=>by
   have ih:=fS_bd T (xs:=xs) (fun z hz=>h z (List.mem_cons_of_mem _ hz))
   have h1:=vK_le (h x List.mem_cons_self);have h2:=fv_abs x;rw [fS_cons,List.length_cons,Nat.add_mul,Nat.one_mul];have:=Int.natAbs_add_le (fvW x) (fS xs);omega
theorem lies_own (L S:Nat) (hL:L<9218868437227405312) (hS:0<S):Lies L true 0 (vK L*S) S:=⟨hL,hS,fun _=>rfl,fun h=>(by cases h),fun h=>(by cases h),fun h=>(by cases h)⟩
theorem mean_lies {xs:List Nat}(hW:W64 xs) (hf:∀ x ∈ xs,finW x) (hne:xs≠[]) (hl:xs.length≤65536) (hS:fS xs≠0) :
 ∃ K t m,Lies K t m (fS xs).natAbs xs.length∧∀ mode:Int,0≤mode→mode≤4→∀ s:Sp,levR xs s mode=(rK mode (decide (fS xs<0)) K t m+(if fS xs<0 then 9223372036854775808 else 0),0):=by
 obtain ⟨k,hk⟩:∃ k:Nat,k=2148:=⟨_,rfl⟩;obtain ⟨j,hj⟩:∃ k:Nat,k=1074:=⟨_,rfl⟩;have hV:=vS_fS j hj hW hf;have hpj:=Nat.two_pow_pos j;have hpk:=Nat.two_pow_pos k;have hp:0<xs.length:=List.length_pos_iff.2 hne;have hV0:vS xs≠0:=by rw [hV];intro h;rcases Int.mul_eq_zero.1 h with q | q;exact hS q;omega
 have hs:vS xs<0↔fS xs<0:=by
  rw [hV]
  constructor
  · intro h
    rcases Int.lt_or_le (fS xs) 0 with q|q
    · exact q
    · have:=Int.mul_nonneg q (Int.natCast_nonneg (2^j));omega
  · intro h;exact Int.mul_neg_of_neg_of_pos h (by omega)
 obtain ⟨i1,hi1,hb1⟩:=vS_bd hW hl;obtain ⟨i2,hi2,hb2⟩:=lenW_bd xs.length hl k hk;have hWp:0<(xs.length:Int)*((2^k:Nat):Int):=by rw [←Int.natCast_mul];have:=Nat.mul_pos hp hpk;omega
 obtain ⟨K,t,m,hL,hR⟩:=quot_lies hV0 hWp i1 (by omega) hb1 (by rw [hi1,←hi2];exact hb2)
 refine ⟨K,t,m,?_,fun mode hm0 hm4 s=>?_⟩
 · refine (hL j hj).ratio hp ?_
   rw [hV,←Int.natCast_mul,Int.natAbs_natCast,Int.natAbs_mul,Int.natAbs_natCast];have e:2^k=2^j*2^j:=by rw [←Nat.pow_add];congr 1;omega
   rw [e,Nat.mul_assoc (fS xs).natAbs,Nat.mul_assoc (fS xs).natAbs,Nat.mul_comm (2^j*2^j) xs.length]
 · unfold levR
   rw [if_neg hne,if_neg hV0,qn_qv _ _ _ k hk,hR mode hm0 hm4]
   by_cases q:fS xs<0
   · rw [if_pos q,if_pos (hs.2 q),decide_eq_true q,decide_eq_true (hs.2 q)]
   · rw [if_neg q,if_neg (fun h=>q (hs.1 h)),decide_eq_false q,decide_eq_false (fun h=>q (hs.1 h))]
theorem mean_top {xs:List Nat}{K:Nat}{t:Bool}{m:Int}(mode:Int) (n:Bool) (hL:Lies K t m (fS xs).natAbs xs.length) (T:Nat) (hT:T<9218868437227405312) (h:∀ x ∈ xs,magW x≤T):rK mode n K t m≤T:=by
 have h1:=lies_own T xs.length hT hL.pos;have h2:=fS_bd T h;have:=rK_mono mode n hL h1 (by rw [Nat.mul_comm];exact h2)
 have e:rK mode n T true 0=T:=by unfold rK;rw [if_pos rfl]
 omega
theorem fv_sum {r:Nat}{b:Bool}(h:r<9223372036854775808):fvW (r+(if b then 9223372036854775808 else 0))=B.sg b (vK r)∧magW (r+(if b then 9223372036854775808 else 0))=r∧negW (r+(if b then 9223372036854775808 else 0))=b:=by
 have e1:magW (r+(if b then 9223372036854775808 else 0))=r:=by unfold magW;cases b <;> simp <;> omega
 have e2:negW (r+(if b then 9223372036854775808 else 0))=b:=by unfold negW;cases b <;> simp <;> omega
 exact ⟨by unfold fvW;rw [e1,e2],e1,e2⟩
theorem nt_nought (ok:Bool) (n u d m p a mode:Int):nt ok n u d m p a mode=0∨nt ok n u d m p a mode=9223372036854775808:=by
 unfold nt
 (repeat' split) <;> first | exact .inl rfl | exact .inr rfl
end
section
open Go.RowKit J
theorem ask_ok {mode:Int}(h:askE mode=0):0≤mode∧mode≤4:=by
 unfold askE at h
 by_cases h1:mode<0∨4<mode
 · rw [if_pos h1] at h;exact absurd h (by decide)
 · omega
theorem qn_ok {V:Int}{N:Nat}{mode:Int}(hm:askE mode=0) (hV:V≠0) (k:Nat) (hk:k=4238) (hb:V.natAbs<2^k) (hN:0<N) (hN2:N≤65536):(qnR V N mode).2=0:=by
 obtain ⟨j,hj⟩:∃ k:Nat,k=2148:=⟨_,rfl⟩;obtain ⟨j2,hj2,hb2⟩:=lenW_bd N hN2 j hj;obtain ⟨m0,m4⟩:=ask_ok hm;rw [qn_qv _ _ _ j hj];obtain ⟨K,t,m,_,hR⟩:=quot_lies (V:=V) (W:=(N:Int)*((2^j:Nat):Int)) hV (by rw [←Int.natCast_mul];have:=Nat.mul_pos hN (Nat.two_pow_pos j);omega) k (by omega) hb (by rw [hk,←hj2];exact hb2)
 rw [hR mode m0 m4]
theorem lev_ok {xs:List Nat}{s:Sp}{mode:Int}(hm:askE mode=0) (hW:W64 xs) (hl:xs.length≤65536) (hne:xs≠[]):(levR xs s mode).2=0:=by
 by_cases hV:vS xs=0
 · unfold levR;rw [if_neg hne,if_pos hV]
 · obtain ⟨k,hk,hb⟩:=vS_bd hW hl
   unfold levR;rw [if_neg hne,if_neg hV];exact qn_ok hm hV k hk hb (List.length_pos_iff.2 hne) hl
theorem lev_bsd {xs:List Nat}{s:Sp}{mode:Int}(hm:askE mode=0) (hW:W64 xs) (hl:xs.length≤65536):bsd (levR xs s mode).2 (levR xs s mode).1=(levR xs s mode).1:=by
 by_cases h0:xs=[]
 · subst h0;unfold levR;rw [if_pos rfl];rfl
 · rw [lev_ok hm hW hl h0];rfl
theorem sS_small {xs:List Nat}(hW:W64 xs) (hl:xs.length≤65536):(0≤(sS xs).n∧(sS xs).n≤65536)∧(0≤(sS xs).u∧(sS xs).u≤65536)∧(0≤(sS xs).d∧(sS xs).d≤65536)∧(sS xs).a=xs.length∧(sS xs).a-(sS xs).n-(sS xs).u-(sS xs).d=(Ps.fin xs).length:=by
 rw [sS_cn hW];have h:=fun k=>List.countP_le_length (p:=fun x=>kd x==k) (l:=xs)
 have h5:=h 5;have h3:=h 3;have h4:=h 4;have hf:=fin_count (xs:=xs);unfold Ps.cn at *;refine ⟨⟨?_,?_⟩,⟨?_,?_⟩,⟨?_,?_⟩,rfl,?_⟩ <;> (simp only;omega)
theorem sS_fin {xs:List Nat}(hW:W64 xs) (hf:∀ x ∈ xs,finW x) (hl:xs.length≤65536):(sS xs).n=0∧(sS xs).u=0∧(sS xs).d=0:=by
 obtain ⟨b1,b2,b3,b4,b5⟩:=sS_small hW hl;rw [fin_id hW hf] at b5;omega
theorem plE_of_fin {xs:List Nat}(hW:W64 xs) (hf:∀ x ∈ xs,finW x) (hl:xs.length≤65536):plE xs=0:=by
 obtain ⟨h1,h2,h3⟩:=sS_fin hW hf hl;unfold plE;rw [if_neg (by omega),if_neg (by omega)]
theorem sfE_of_fin {xs:List Nat}{pa pb:Int}(hW:W64 xs) (hf:∀ x ∈ xs,finW x) (hl:xs.length≤65536) (hab:may pa pb=true):sfE pa pb xs=0:=by
 obtain ⟨h1,h2,h3⟩:=sS_fin hW hf hl;unfold sfE Ps.rf;rw [hab,if_neg (by decide),if_neg (by omega),h1,h2,h3,if_neg (by omega),if_neg (by omega)]
theorem mean_fin {xs:List Nat}{mode pa pb:Int}(hW:W64 xs) (hf:∀ x ∈ xs,finW x) (hl:xs.length≤65536) (hm:askE mode=0) (hab:may pa pb=true):meanR xs mode pa pb=levR xs (sS xs) mode:=by
 obtain ⟨h1,h2,h3⟩:=sS_fin hW hf hl
 have hv:(vd (snd (sS xs).n (sS xs).u (sS xs).d (sS xs).m (sS xs).p (sS xs).a&&may pa pb) (sS xs).n (sS xs).u (sS xs).d pa pb).2=false:=by
  unfold vd;rw [h1,h2,h3]
  split
  · rfl
  · rw [if_neg (by omega)]
    split
    · rfl
    · rw [if_neg (by omega),if_neg (by omega),if_neg (by omega)]
 unfold meanR;rw [if_pos hm,if_pos (sfE_of_fin hW hf hl hab),hv,if_neg (by decide),fin_id hW hf,lev_bsd hm hW hl]
end
section
open Go.RowKit J
theorem kd_mag (x:Nat) (hx:x<18446744073709551616):kd x=if 9218868437227405312<magW x then 5 else if magW x=9218868437227405312 then (if negW x then 4 else 3) else if magW x=0 then (if negW x then 1 else 2) else 0:=by
 unfold kd magW negW;have e:x/9223372036854775808=1↔9223372036854775808≤x:=by omega
 simp only [e,decide_eq_true_eq]
end
section
open Go.RowKit J
def sPl (x:Nat):Int:=sK (negW x) (magW x)
theorem wd_own (x:Nat) (hx:x<18446744073709551616):wd64 (negW x) (magW x)=x:=by
 unfold wd64 negW magW
 by_cases h:9223372036854775808≤x <;> simp [h] <;> omega
theorem eq13 {x y:Nat}(hx:x<18446744073709551616) (hy:y<18446744073709551616) (fx:finW x) (fy:finW y):(FloatKind.f64.format.order x y==some .eq)=decide (sPl x=sPl y):=by
 have h:=eq64 (negW x) (negW y) (magW x) (magW y) (Nat.le_of_lt fx) (Nat.le_of_lt fy);rw [wd_own x hx,wd_own y hy] at h;exact h
theorem vK_pos {L:Nat}(h:0<L):0<vK L:=by have:=grid64.mono h;omega
theorem fS_rep (x:Nat):∀ k:Nat,fS (List.replicate k x)=fvW x*k
 | 0=>by simp [fS]
 | k+1=>by
   rw [List.replicate_succ,fS_cons,fS_rep x k,Int.natCast_add,Int.mul_add];omega
theorem cn_rep (j x k:Nat):Ps.cn j (List.replicate k x)=if kd x=j then k else 0:=by
 unfold Ps.cn;rw [List.countP_replicate]
 by_cases h:kd x=j <;> simp [h]
theorem mean_like {x k:Nat}{mode:Int}(hx:x<18446744073709551616) (fx:finW x) (hk:0<k) (hk2:k≤65536) (hm0:0≤mode) (hm4:mode≤4):meanR (List.replicate k x) mode 0 0=(x,0):=by
 have hW:W64 (List.replicate k x):=fun z hz=>by rw [List.eq_of_mem_replicate hz];exact hx
 have hf:∀ z ∈ List.replicate k x,finW z:=fun z hz=>by rw [List.eq_of_mem_replicate hz];exact fx
 have hll:(List.replicate k x).length=k:=List.length_replicate;have hne:List.replicate k x≠[]:=by intro h;rw [h] at hll;simp at hll;omega
 have hm:askE mode=0:=if_neg (by omega)
 rw [mean_fin hW hf (by omega) hm (by decide)]
 obtain ⟨j,hj⟩:∃ k:Nat,k=1074:=⟨_,rfl⟩;have hS:=fS_rep x k
 by_cases h0:magW x=0
 · have hV:vS (List.replicate k x)=0:=by
    rw [vS_fS j hj hW hf,hS];unfold fvW B.sg;rw [h0,grid64.zero];cases negW x <;> simp
   have hkd:kd x=if negW x then 1 else 2:=by rw [kd_mag x hx,if_neg (by omega),if_neg (by omega),if_pos h0]
   unfold levR;rw [if_neg hne,if_pos hV,sS_cn hW,cn_rep,cn_rep,cn_rep,cn_rep,cn_rep,hll,hkd]
   have hx2:x=if negW x then 9223372036854775808 else 0:=by
    unfold negW magW at *
    by_cases h:9223372036854775808≤x <;> simp [h] <;> omega
   have sd:snd 0 0 0 (k:Int) 0 k=true:=by unfold snd ct;simp;omega
   have sd2:snd 0 0 0 0 (k:Int) k=true:=by unfold snd ct;simp;omega
   cases hn:negW x
   · rw [hn] at hx2
     simp only [Bool.false_eq_true,if_false] at hx2 ⊢;have f5:(if 2=5 then k else 0)=0:=rfl
     have f3:(if 2=3 then k else 0)=0:=rfl
     have f4:(if 2=4 then k else 0)=0:=rfl
     have f1:(if 2=1 then k else 0)=0:=rfl
     rw [f5,f3,f4,f1,if_pos trivial,show ((0:Nat):Int)=0 from rfl,sd2,hx2]
     unfold nt;rw [if_neg (by decide),if_neg (by omega),if_neg (by omega),if_pos (by omega)]
   · rw [hn] at hx2
     simp only [if_true] at hx2 ⊢;have f5:(if 1=5 then k else 0)=0:=rfl
     have f3:(if 1=3 then k else 0)=0:=rfl
     have f4:(if 1=4 then k else 0)=0:=rfl
     have f2:(if 1=2 then k else 0)=0:=rfl
     rw [f5,f3,f4,f2,show ((0:Nat):Int)=0 from rfl,sd,hx2]
     unfold nt;rw [if_neg (by decide),if_neg (by omega),if_pos (by omega)]
 · have hvp:=vK_pos (Nat.pos_of_ne_zero h0)
   have hkp:0<(vK (magW x):Int)*k:=Int.mul_pos (by omega) (by omega)
   have ha:fS (List.replicate k x)≠0∧(fS (List.replicate k x)<0↔negW x=true)∧(fS (List.replicate k x)).natAbs=vK (magW x)*(List.replicate k x).length:=by
    have e:(fvW x*(k:Int)).natAbs=vK (magW x)*k:=by rw [Int.natAbs_mul,fv_abs,Int.natAbs_natCast]
    rw [hS,e,hll];unfold fvW B.sg
    cases hn:negW x
    · simp only [Bool.false_eq_true,if_false]
      refine ⟨by omega,?_,?_⟩
      · first | exact ⟨fun h=>by omega,fun h=>by cases h⟩ | (constructor <;> intro h <;> first | omega | exact h.elim)
      · first | rfl | trivial
    · simp only [if_true,Int.neg_mul]
      refine ⟨by omega,?_,?_⟩
      · first | exact ⟨fun h=>trivial,fun h=>by omega⟩ | (constructor <;> intro h <;> first | rfl | trivial | omega)
      · first | rfl | trivial
   obtain ⟨a1,a2,a3⟩:=ha;obtain ⟨K,t,m,hL,hR⟩:=mean_lies hW hf hne (by omega) a1
   rw [hR mode hm0 hm4,rK_own mode _ hL (magW x) fx a3];have e:=wd_own x hx;unfold wd64 at e
   by_cases q:negW x=true
   · rw [if_pos (a2.2 q)]
     rw [if_pos q] at e;rw [e]
   · rw [if_neg (fun h=>q (a2.1 h))]
     rw [if_neg q] at e;rw [e]
end
section
open Go.RowKit J
def kW (x:Nat):Int:=if negW x then -1-(magW x:Int) else magW x
theorem kW_inj {x y:Nat}(hx:x<18446744073709551616) (hy:y<18446744073709551616) (h:kW x=kW y):x=y:=by
 unfold kW negW magW at h
 by_cases a:9223372036854775808≤x <;> by_cases b:9223372036854775808≤y <;> simp only [a,b,decide_true,decide_false,if_true,Bool.false_eq_true,if_false] at h <;> omega
def leK (x y:Nat):Bool:=decide (kW x≤kW y)
def srt (xs:List Nat):List Nat:=xs.mergeSort leK
theorem srt_perm (xs:List Nat):(srt xs).Perm xs:=List.mergeSort_perm xs leK
theorem srt_len (xs:List Nat):(srt xs).length=xs.length:=(srt_perm xs).length_eq
def trm (xs:List Nat) (k:Nat):List Nat:=((srt xs).drop k).take (xs.length-2*k)
theorem trm_len (xs:List Nat) (k:Nat):(trm xs k).length=xs.length-2*k:=by
 unfold trm;rw [List.length_take,List.length_drop,srt_len];omega
theorem trm_mem {xs:List Nat}{k:Nat}{x:Nat}(h:x ∈ trm xs k):x ∈ xs:=(srt_perm xs).mem_iff.1 (List.mem_of_mem_drop (List.mem_of_mem_take h))
theorem trm_get {xs:List Nat}{k i:Nat}(hi:i<(trm xs k).length):(trm xs k).getD i 0=(srt xs).getD (k+i) 0:=by
 rw [trm_len] at hi;unfold trm;rw [List.getD_eq_getElem?_getD,List.getD_eq_getElem?_getD,List.getElem?_take,if_pos hi,List.getElem?_drop]
theorem ky_kW {x:Nat}(hx:x<18446744073709551616) (fx:finW x):∃ s e f,e<2048∧f<4503599627370496∧x=B.bw s e f∧B.ky s e f=kW x:=by
 have hm:magW x<9218868437227405312:=fx;refine ⟨negW x,magW x/4503599627370496,magW x%4503599627370496,by omega,by omega,?_,?_⟩
 · unfold B.bw negW magW at *
   by_cases h:9223372036854775808≤x
   · rw [decide_eq_true h];simp only [Bool.toNat_true];omega
   · rw [decide_eq_false h];simp only [Bool.toNat_false];omega
 · unfold B.ky kW
   rw [if_neg (by omega)]
   have e:((magW x/4503599627370496:Nat):Int)*4503599627370496+(magW x%4503599627370496:Nat)=(magW x:Int):=by omega
   rw [e]
theorem order13s {x y:Nat}(hx:x<18446744073709551616) (hy:y<18446744073709551616) (fx:finW x) (fy:finW y) (w:World) :
 Calls Tryz.prog 81 #[.float .f64 x,.float .f64 y] w fun r w'=>r=.returned (.int .i64 (B.oc (kW x) (kW y)))∧w'=w:=by
 obtain ⟨s,e,f,h1,h2,h3,h4⟩:=ky_kW hx fx;obtain ⟨t,u,v,i1,i2,i3,i4⟩:=ky_kW hy fy;have h:=B.order_any s t e f u v h1 h2 i1 i2 w;rw [h4,i4,←h3,←i3] at h;exact h
end
section
open Go.RowKit J
attribute [local go_sem] st_float
def Fw10 (n:Nat):Value:=.float .f64 n
theorem Tryz.und_floats:Tryz.prog.underlying 24=some (.slice 22):=by kernel_rfl
theorem Tryz.info_f64:(Tryz.prog.info? 22).map (fun i=>(i.zero,i.size,i.bytes))=some (some (.float .f64 0),1,8):=by kernel_rfl
def OwnF (w:World) (g:Nat) (L:List Nat):Prop:=w.heap[g]?=some (.cells (L.map Fw10).toArray 22 (0,0))
theorem OwnF.lt {w:World}{g:Nat}{L:List Nat}(h:OwnF w g L):g<w.heap.size:=(Array.getElem?_eq_some_iff.1 h).1
theorem OwnF.cell {w:World}{g:Nat}{L:List Nat}(h:OwnF w g L) (i:Nat) (hi:i<L.length):w.cell? ⟨g,i,none⟩=some (.float .f64 (L.getD i 0)):=by
 unfold OwnF at h;simp [World.cell?,h,Fw10,hi]
theorem OwnF.frozen {w:World}{g:Nat}{L:List Nat}(h:OwnF w g L) (i:Nat):w.frozen? ⟨g,i,none⟩=false:=by
 unfold OwnF at h;simp [World.frozen?,h]
theorem OwnF.set {w:World}{g:Nat}{L:List Nat}(h:OwnF w g L) (i x:Nat):OwnF (w.setCell ⟨g,i,none⟩ (.float .f64 x)) g (L.set i x):=by
 unfold OwnF at h ⊢;simp only [World.setCell,Array.getElem?_modify,h];simp [Fw10,List.map_set]
theorem OwnF.below {w w':World}{g B:Nat}{L:List Nat}(h:OwnF w g L) (hb:Below B w w') (hg:g<B):OwnF w' g L:=by
 unfold OwnF at h ⊢;rw [hb.block g hg];exact h
theorem OwnF.fs {w:World}{g B:Nat}{L:List Nat}(h:OwnF w g L) (hg:g<B) (n:Nat):Fs B w (some ⟨g,0,none⟩) (L.take n):=by
 intro _;refine ⟨g,0,hg,rfl,fun i hi=>?_⟩
 rw [List.length_take] at hi;rw [Nat.zero_add,h.cell i (by omega)]
 congr 2
 rw [List.getD_eq_getElem?_getD,List.getD_eq_getElem?_getD,List.getElem?_take,if_pos (by omega)]
theorem make_floats (z:Int) (n:Nat) (hz:z=(n:Int)) (hn:n≤17592186044416) (w:World) :
 (Instr.makeSlice 24 (.int .i64 z) (.int .i64 z)).run Tryz.prog w=.ok (.slice (some ⟨w.heap.size,0,none⟩) n n) (w.alloc (.cells (madeCells #[.float .f64 0] n) 22)):=by
 subst hz;exact run_make_row' 24 22 (.float .f64 0) 8 Tryz.und_floats Tryz.info_f64 rfl .i64 .i64 n (by omega) (by omega) w
theorem OwnF.made (w:World) (n:Nat):OwnF (w.alloc (.cells (madeCells #[.float .f64 0] n) 22)) w.heap.size (List.replicate n 0):=by
 unfold OwnF;have h1:=heap_alloc_new w (.cells (madeCells #[.float .f64 0] n) 22);rw [h1]
 congr 2
 apply Array.toList_inj.1
 rw [toList_madeCells_one];simp [Fw10]
end
end Go.Proofs.YtmkmndlpjenemaaGreatDoor
