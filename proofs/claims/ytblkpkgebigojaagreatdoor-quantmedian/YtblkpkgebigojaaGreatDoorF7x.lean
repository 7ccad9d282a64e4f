import Derived.Test.YtblkpkgebigojaaGreatDoorZ9x
import Derived.Test.YtblkpkgebigojaaGreatDoorS11ax
import Derived.Test.YtblkpkgebigojaaGreatDoorD8x
import Derived.Test.YtblkpkgebigojaaGreatDoorD30x
import Derived.Deep.RegionHeld3
import Derived.Defers
import Derived.Test.YtblkpkgebigojaaGreatDoorM1x
import Derived.Laws.CopyOwn
import Derived.Deep.OwnRows
import Derived.Laws.MakeOwn
import Derived.ArgAppend
import Derived.Maps.AppendAt
import Derived.WalkMore
import Derived.Deep.RegionWith
import Derived.Deep.Cut
import Derived.Test.YtblkpkgebigojaaGreatDoorD21x
set_option linter.unusedVariables false
set_option linter.unusedSimpArgs false
set_option maxHeartbeats 16000000
set_option maxRecDepth 20000
namespace Go.Proofs.YtblkpkgebigojaaGreatDoor
namespace J
end J
section
open Go.RowKit J
def askE (mode:Int):Int:=if mode<0∨4<mode then 1 else 0
theorem asked13 (mode:Int) (w:World):Calls Tryz.prog 100 #[.int .i64 mode] w fun r w'=>r=.returned (.int .i64 (askE mode))∧w'=w:=by
 by_cases h0:mode<0
 · have e:askE mode=1:=if_pos (.inl h0)
   rw [e];clear e;go_enter Tryz.func100,Tryz.ntmps100;go_wp2;go_ret;exact ⟨rfl,rfl⟩
 · have d0:decide (mode<0)=false:=decide_eq_false h0
   by_cases h4:4<mode
   · have e:askE mode=1:=if_pos (.inr h4)
     rw [e];clear e;go_enter Tryz.func100,Tryz.ntmps100;go_wp2;go_ret;exact ⟨rfl,rfl⟩
   · have d4:decide (4<mode)=false:=decide_eq_false h4
     have e:askE mode=0:=if_neg (by omega)
     rw [e];clear e;go_enter Tryz.func100,Tryz.ntmps100;go_wp2;go_ret;exact ⟨rfl,rfl⟩
theorem beside13 (e:Int) (x:Nat) (w:World):Calls Tryz.prog 99 #[.int .i64 e,.float .f64 x] w fun r w'=>r=.returned (.float .f64 (if e=0 then x else 0))∧w'=w:=by
 by_cases h0:e=0
 · subst h0
   go_enter Tryz.func99,Tryz.ntmps99;go_wp2;go_ret;exact ⟨rfl,rfl⟩
 · rw [if_neg h0]
   have h1:(e==0)=false:=by simp [h0]
   go_enter Tryz.func99,Tryz.ntmps99;go_wp2;go_ret;exact ⟨rfl,rfl⟩
noncomputable def qnR (V:Int) (N:Nat) (mode:Int):Nat×Int:=quoR rndS ⟨dN (exV V),.bool false,dX (exV V),dE (exV V),dN (mkS false N 0),.bool false,dX (mkS false N 0),dE (mkS false N 0)⟩ mode
theorem int_fm (N:Nat) (h:N<2^41):Fm (mkS false N 0):=by
 obtain ⟨k,hk⟩:∃ k:Nat,k=2148:=⟨_,rfl⟩;rw [←int_ex N k hk];refine ex_fm _ (41+k) (by omega) ?_
 rw [←Int.natCast_mul,Int.natAbs_natCast,Nat.pow_add];exact Nat.mul_lt_mul_of_pos_right h (Nat.two_pow_pos k)
noncomputable def levR (xs:List Nat) (s:Sp) (mode:Int):Nat×Int :=
 if xs=[] then (0,3) else if vS xs=0 then (nt (snd s.n s.u s.d s.m s.p s.a) s.n s.u s.d s.m s.p s.a mode,0) else qnR (vS xs) xs.length mode
theorem sgn_ex {V:Int}(k:Nat) (hk:k≤90000) (hb:V.natAbs<2^k):(V=0→sgn (dN (exV V)) (val (ws (dX (exV V))))=0)∧(V≠0→(sgn (dN (exV V)) (val (ws (dX (exV V))))==0)=false)∧(V<0↔sgn (dN (exV V)) (val (ws (dX (exV V))))<0):=by
 rw [val_ws]
 by_cases h0:V=0
 · subst h0
   rw [ex_zero];exact ⟨fun _=>rfl,fun h=>absurd rfl h,by constructor <;> (intro h;exact absurd h (by decide))⟩
 · obtain ⟨X,e,ho,hX,he0,he1,hv,hbl,F⟩:=ex_parts13 h0 k hk hb
   rw [ho]
   show (V=0→sgn (decide (V<0)) X=0)∧(V≠0→(sgn (decide (V<0)) X==0)=false)∧(V<0↔sgn (decide (V<0)) X<0)
   unfold sgn;refine ⟨fun h=>absurd h h0,fun _=>?_,?_⟩
   · rw [if_neg (by omega)];by_cases hs:V<0 <;> simp [hs]
   · rw [if_neg (by omega)];by_cases hs:V<0 <;> simp [hs]
theorem level13 (xs:List Nat) (a:Option Addr) (n c:Nat) (sn su sd sm sp sa mode:Int) (w:World) (hn:n=xs.length) (hF:Fs w.heap.size w a xs) (hW:W64 xs) (hT:Tab w) (hl:n≤65536) (z:Nat×Int) (hz:levR xs ⟨sn,su,sd,sm,sp,sa⟩ mode=z) :
 Calls Tryz.prog 102 #[.slice a n c,.agg #[.int .i64 sn,.int .i64 su,.int .i64 sd,.int .i64 sm,.int .i64 sp,.int .i64 sa],.int .i64 mode] w fun r w'=>r=.returned (.tuple #[.float .f64 z.1,.int .i64 z.2])∧Below w.heap.size w w':=by
 obtain ⟨X,E⟩:=z;simp only
 by_cases h0:n=0
 · have e:(X,E)=(0,3):=by rw [←hz];unfold levR;rw [if_pos (List.eq_nil_of_length_eq_zero (by omega))]
   obtain ⟨rfl,rfl⟩:=Prod.mk.inj e;subst h0;clear hz hn hF hW hT e;go_enter Tryz.func102,Tryz.ntmps102;go_wp2;exact bodyPost_ret (v:=.tuple #[.float .f64 0,.int .i64 3]) (by simp [results,Tryz.results102,go_sem]) rfl ⟨rfl,bel_alloc _ _⟩
 · have hx0:xs≠[]:=by rintro rfl;simp at hn;omega
   unfold levR at hz;rw [if_neg hx0] at hz;simp only at hz;obtain ⟨k,hk,hvb⟩:=vS_bd hW (by omega)
   obtain ⟨g1,g2,g3⟩:=sgn_ex k (by omega) hvb
   have Fv:=qsd (vS_fm hW (by omega))
   obtain ⟨sb,W,hWs,HW⟩:∃ (sb:Value) (W:World),sb=.agg #[.int .i64 sn,.int .i64 su,.int .i64 sd,.int .i64 sm,.int .i64 sp,.int .i64 sa]∧W=w.alloc (Obj.cells #[.int .i64 sn,.int .i64 su,.int .i64 sd,.int .i64 sm,.int .i64 sp,.int .i64 sa] 119):=⟨_,_,rfl,rfl⟩;clear hWs
   have BW:Aside (Below w.heap.size w W∧Bl W w.heap.size 119 [.int .i64 sn,.int .i64 su,.int .i64 sd,.int .i64 sm,.int .i64 sp,.int .i64 sa]∧Tab W):=by
    rw [HW];exact ⟨bel_alloc _ _,Bl.new _ 119 [_,_,_,_,_,_],hT.belows (bel_alloc _ _)⟩
   have HE:=hid (exact13 xs a n c W hn ((hF.below BW.out.1).mono BW.out.1.size) hW BW.out.2.2 hl);obtain ⟨V,hV⟩:∃ V,vS xs=V:=⟨_,rfl⟩;rw [hV] at HE hz g1 g2 Fv;obtain ⟨ov,hov⟩:∃ o,exV V=o:=⟨_,rfl⟩;rw [hov] at HE g1 g2 Fv;have HS:Hid (∀ (u:World) (p:Option Addr) (q:Nat),Nt 0 u (.slice p (ws (dX ov)).length q) (dX ov)→Calls Tryz.prog 58 #[.agg #[.bool (dN ov),.slice p (ws (dX ov)).length q,.int .i64 (dE ov)]] u fun r u'=>r=.returned (.int .i64 (sgn (dN ov) (val (ws (dX ov)))))∧Below u.heap.size u u'):=fun u p q hN=>Sign_any3 (Fv.out.a12 hN) _ _
   have hnb:(n:Int)≠0:=by omega
   have HN:=qsd hn;have HTW:=qsd BW.out.2.2;obtain ⟨sg,hsg⟩:∃ sg,sgn (dN ov) (val (ws (dX ov)))=sg:=⟨_,rfl⟩;rw [hsg] at HS g1 g2;have HWW:=qsd HW;have G:=qsd (ai g1 g2);clear hn hF hW hT hx0 g1 g2 g3 hvb hk k hsg HW;go_enter Tryz.func102,Tryz.ntmps102
   go_wp2_with fail
   rw [←HWW.out];refine HE.out.mono ?_;rintro r u ⟨v,rfl,hN,hb⟩;obtain ⟨a1,c1,rfl,hN0⟩:=Lo.shape Fv.out hN;obtain ⟨U,hU⟩:∃ U,U=u.alloc (Obj.cells #[.bool (dN ov),.slice a1 (ws (dX ov)).length c1,.int .i64 (dE ov)] 62):=⟨_,rfl⟩;have bU:Below W.heap.size W U:=by rw [hU];exact hb.trans ((below_alloc _ _).mono hb.size)
   have H1:Aside (Lo U u.heap.size ov∧Bl U w.heap.size 119 [.int .i64 sn,.int .i64 su,.int .i64 sd,.int .i64 sm,.int .i64 sp,.int .i64 sa]∧Below w.heap.size w U∧Tab U∧Dk U u.heap.size (dN ov) (.slice a1 (ws (dX ov)).length c1) (dE ov)∧Nt 0 U (.slice a1 (ws (dX ov)).length c1) (dX ov)):=by
    refine ⟨?_,BW.out.2.1.below bU BW.out.2.1.lt,BW.out.1.trans (bU.mono BW.out.1.size),HTW.out.belows bU,?_,?_⟩
    · rw [hU];exact Lo.new hN0
    · rw [hU];exact Dk.new _ _ _ _
    · rw [hU];exact hN0.below (below_alloc _ _)
   obtain ⟨gd,hgd⟩:∃ g,g=u.heap.size:=⟨_,rfl⟩;have HU:=qsd hU;have C:=hid (HS.out U a1 c1 H1.out.2.2.2.2.2);rw [←hgd] at H1;obtain ⟨y0,y1,y2,yf0,yf1,yf2⟩:=H1.out.2.2.2.2.1.facts;clear hN hN0 hb bU hU HE HS
   go_upto_region 4 with fail
   try rw [←hgd]
   rw [←HU.out];clear HU hgd
   go_wp2_with fail
   refine C.out.mono ?_;rintro r v ⟨rfl,hb⟩
   have H2:Aside (Bl v w.heap.size 119 [.int .i64 sn,.int .i64 su,.int .i64 sd,.int .i64 sm,.int .i64 sp,.int .i64 sa]∧Below w.heap.size w v∧Tab v∧Dk v gd (dN ov) (.slice a1 (ws (dX ov)).length c1) (dE ov)∧Nt 0 v (.slice a1 (ws (dX ov)).length c1) (dX ov)) :=
    ⟨H1.out.2.1.below hb H1.out.2.1.lt,H1.out.2.2.1.trans (hb.mono H1.out.2.2.1.size),H1.out.2.2.2.1.belows hb,H1.out.2.2.2.2.1.below hb,H1.out.2.2.2.2.2.below hb⟩
   clear hb H1 C y0 y1 y2 yf0 yf1 yf2
   by_cases hv0:V=0
   · rw [if_pos hv0] at hz
     obtain ⟨hX,hE⟩:=Prod.mk.inj hz;have hs:=G.out.1 hv0;have HNo:=hid (fun u:World=>Nought_any sn su sd sm sp sa mode u)
     rw [hX] at HNo;subst hs;subst hE;have q0:=H2.out.1.cell 0 _ rfl;have q1:=H2.out.1.cell 1 _ rfl;have q2:=H2.out.1.cell 2 _ rfl;have q3:=H2.out.1.cell 3 _ rfl;have q4:=H2.out.1.cell 4 _ rfl;have q5:=H2.out.1.cell 5 _ rfl;clear hX hz G hov
     go_wp2_with fail
     refine (HNo.out _).mono ?_;rintro r u2 ⟨rfl,hb⟩;have B3:=qsd (H2.out.2.1.trans (hb.mono H2.out.2.1.size));clear hb HNo q0 q1 q2 q3 q4 q5;go_wp2;exact bodyPost_ret (v:=.tuple #[.float .f64 X,.int .i64 0]) (by simp [results,Tryz.results102,go_sem]) rfl ⟨rfl,B3.out⟩
   · rw [if_neg hv0] at hz
     have hs:=G.out.2 hv0;have hnN:n<2^41:=by omega
     have F1:=qsd (int_fm n hnN)
     have HI:Hid (∀ u:World,Tab u→Calls Tryz.prog 74 #[.int .i64 (n:Nat)] u fun r w'=>(∃ v,r=.returned (.agg #[.bool (dN (mkS false n 0)),v,.int .i64 (dE (mkS false n 0))])∧Nt u.heap.size w' v (dX (mkS false n 0)))∧Below u.heap.size u w'):=fun u hT=>by
      have:=Int_any (n:Nat) u hT (by omega) (by omega)
      rw [decide_eq_false (by omega),Int.natAbs_natCast] at this
      exact this
     have HR:Hid (∀ (u:World) (p q:Option Addr) (cp cq:Nat),Tab u→Nt 0 u (.slice p (ws (dX ov)).length cp) (dX ov)→Nt 0 u (.slice q (ws (dX (mkS false n 0))).length cq) (dX (mkS false n 0))→Calls Tryz.prog 77 #[.agg #[.bool (dN ov),.slice p (ws (dX ov)).length cp,.int .i64 (dE ov),.bool (dN (mkS false n 0)),.slice q (ws (dX (mkS false n 0))).length cq,.int .i64 (dE (mkS false n 0))],.int .i64 mode] u fun r w'=>r=.returned (.tuple #[.float .f64 X,.int .i64 E])∧Below u.heap.size u w'):=fun u p q cp cq hT n1 n2=>by
      have:=Quot11 (w:=u) (n:=dN ov) (m:=dN (mkS false n 0)) (X:=dX ov) (Y:=dX (mkS false n 0)) (e:=dE ov) (f:=dE (mkS false n 0)) mode ⟨n1.av (Nat.le_trans Fv.out.len (by decide)),n2.av (Nat.le_trans F1.out.len (by decide)),Fv.out.rng,F1.out.rng⟩ hT
      rw [show quoR rndS ⟨dN ov,.slice p (ws (dX ov)).length cp,dX ov,dE ov,dN (mkS false n 0),.slice q (ws (dX (mkS false n 0))).length cq,dX (mkS false n 0),dE (mkS false n 0)⟩ mode=(X,E) from (by rw [←hov,←hz,←HN.out];rfl)] at this
      exact this
     obtain ⟨ow,how⟩:∃ o,mkS false n 0=o:=⟨_,rfl⟩;rw [how] at HR HI F1;clear hz how G hov hv0 hnN
     go_upto_region 6 with fail
     have hdr:=(Below.refl v.heap.size v).drew;have BD:=qsd (ai (H2.out.2.1.trans (hdr.mono H2.out.2.1.size)) (ai (H2.out.2.2.2.1.below hdr) (ai (H2.out.2.2.2.2.below hdr) (H2.out.2.2.1.belows hdr))));clear hdr H2;have kS:=qsd (ai BD.out.2.1.facts.1 (ai BD.out.2.1.facts.2.1 BD.out.2.1.facts.2.2.1))
     go_region_held3 (fun w'=>w'.cell? ⟨gd,0,none⟩=some (.bool (dN ov))∧w'.cell? ⟨gd,1,none⟩=some (.slice a1 (ws (dX ov)).length c1)∧w'.cell? ⟨gd,2,none⟩=some (.int .i64 (dE ov))) (with_reducible exact kS.out) (first
      | (go_at_call 77
         with_reducible refine (HR.out _ a1 a2 c1 c2 BD.out.2.2.2 BD.out.2.2.1 Q2.out).mono ?_
         rintro r v ⟨rfl,hb⟩;have BD:=qsd (ai (BD.out.1.trans (hb.mono BD.out.1.size)) (ai (BD.out.2.1.below hb) (ai (BD.out.2.2.1.below hb) (BD.out.2.2.2.belows hb))));have kS:=qsd (ai BD.out.2.1.facts.1 (ai BD.out.2.1.facts.2.1 BD.out.2.1.facts.2.2.1));clear hb)
      | (go_at_call 74
         with_reducible refine (HI.out _ BD.out.2.2.2).mono ?_
         rintro r v ⟨⟨p,rfl,hN⟩,hb⟩;obtain ⟨a2,c2,rfl,hN0⟩:=Lo.shape F1.out hN;have BD:=qsd (ai (BD.out.1.trans (hb.mono BD.out.1.size)) (ai (BD.out.2.1.below hb) (ai (BD.out.2.2.1.below hb) (BD.out.2.2.2.belows hb))));have Q2:=qsd hN0;have kS:=qsd (ai BD.out.2.1.facts.1 (ai BD.out.2.1.facts.2.1 BD.out.2.1.facts.2.2.1));clear hb hN hN0))
     clear kS Q2 HR HI;go_wp2;exact bodyPost_ret (v:=.tuple #[.float .f64 X,.int .i64 E]) (by simp [results,Tryz.results102,go_sem]) rfl ⟨rfl,BD.out.1⟩
end
section
open Go.RowKit J
attribute [local go_sem] st_float
def bsd (e:Int) (x:Nat):Nat:=if e=0 then x else 0
theorem door13 {fn:Func}{f:FuncId}{px pe:Tmp}(hres:fn.results=#[.cell px 26,.cell pe 27]) {tmps:Array Value}{gx ge:Nat}{w:World}{x:Nat}{e:Int}{R:Ending→World→Prop}
 (hi:(callFunc f #[.pointer (some ⟨ge,0,none⟩),.pointer (some ⟨gx,0,none⟩)]).run Tryz.prog w=.ok (.enter f #[.pointer (some ⟨ge,0,none⟩),.pointer (some ⟨gx,0,none⟩)]) w)
 (HC:∀ (u:FrameMode),CallsD Tryz.prog f #[.pointer (some ⟨ge,0,none⟩),.pointer (some ⟨gx,0,none⟩)] u w fun r u' w'=>u'=u∧(r=.returned (.tuple #[])∧w'=w.setCell ⟨gx,0,none⟩ (.float .f64 (bsd e x))))
 (h1:tmps.getD px undef=.pointer (some ⟨gx,0,none⟩)) (h2:tmps.getD pe undef=.pointer (some ⟨ge,0,none⟩))
 (cx:w.cell? ⟨gx,0,none⟩=some (.float .f64 x)) (ce:w.cell? ⟨ge,0,none⟩=some (.int .i64 e)) (hne:ge≠gx)
 (hR:R (.returned (.tuple #[.float .f64 (bsd e x),.int .i64 e])) (w.setCell ⟨gx,0,none⟩ (.float .f64 (bsd e x)))) :
 Leaves Tryz.prog fn tmps R [{ target:=.fn (.func f) #[.pointer (some ⟨ge,0,none⟩),.pointer (some ⟨gx,0,none⟩)],args:=#[] }] .returning w:=by
 refine leaves_cons (f:=f) (args:=#[.pointer (some ⟨ge,0,none⟩),.pointer (some ⟨gx,0,none⟩)]) (by simp) (by simp [go_sem,hi]) ?_
 refine (HC _).mono ?_;rintro r u' w' ⟨rfl,rfl,rfl⟩;have q1:(w.setCell ⟨gx,0,none⟩ (.float .f64 (bsd e x))).cell? ⟨gx,0,none⟩=some (.float .f64 (bsd e x)):=World.cell?_setCell_same _ _ _ cx
 have q2:(w.setCell ⟨gx,0,none⟩ (.float .f64 (bsd e x))).cell? ⟨ge,0,none⟩=some (.int .i64 e):=by
  rw [World.cell?_setCell_other _ _ _ _ (by intro h;cases h;exact hne rfl)];exact ce
 rw [Array.getD_eq_getD_getElem?] at h1 h2;exact ⟨.tuple #[.float .f64 (bsd e x),.int .i64 e],by simp [results,hres,go_sem,h1,h2,q1,q2],hR⟩
theorem Middle1_d (gx ge x:Nat) (e:Int) (w:World) (cx:w.cell? ⟨gx,0,none⟩=some (.float .f64 x)) (ce:w.cell? ⟨ge,0,none⟩=some (.int .i64 e)) (fx:w.frozen? ⟨gx,0,none⟩=false) (u:FrameMode) :
 CallsD Tryz.prog 98 #[.pointer (some ⟨ge,0,none⟩),.pointer (some ⟨gx,0,none⟩)] u w fun r u' w'=>u'=u∧(r=.returned (.tuple #[])∧w'=w.setCell ⟨gx,0,none⟩ (.float .f64 (bsd e x))):=by
 have HB:=hid (fun w:World=>beside13 e x w)
 go_enter_d Tryz.func98,Tryz.ntmps98
 go_wp2_with fail
 refine (HB.out _).mono ?_;rintro r v ⟨rfl,rfl⟩;obtain ⟨b,hb⟩:∃ b,b=bsd e x:=⟨_,rfl⟩;have hb2:(if e=0 then x else 0)=b:=hb.symm
 rw [hb2];have HBB:=qsd hb;clear hb hb2 HB;go_wp2
 go_end0
 exact ⟨rfl,by rw [HBB.out]⟩
end
namespace Ps
open Go.RowKit
open Go.RowKit
def Wf (xs:List Nat):Prop:=∀ x ∈ xs,x<18446744073709551616
theorem Wf.get {xs:List Nat}(h:Wf xs) (k:Nat):xs.getD k 0<18446744073709551616:=by
 by_cases hk:k<xs.length
 · rw [List.getD_eq_getElem?_getD,List.getElem?_eq_getElem hk];exact h _ (List.getElem_mem hk)
 · rw [List.getD_eq_getElem?_getD,List.getElem?_eq_none (by omega)];decide
def U (n:Nat):Value:=.float .f64 n
def Rd (B:Nat) (w:World) (ao:Option Addr) (xs:List Nat):Prop :=
 xs≠[]→∃ b off,b<B∧ao=some ⟨b,off,none⟩∧∀ i,i<xs.length→w.cell? ⟨b,off+i,none⟩=some (.float .f64 (xs.getD i 0))
theorem Rd.below {B:Nat}{w w':World}{ao:Option Addr}{xs:List Nat}(h:Rd B w ao xs) (hb:Below B w w'):Rd B w' ao xs:=by
 intro hx;obtain ⟨b,off,hlt,rfl,hc⟩:=h hx;exact ⟨b,off,hlt,rfl,fun i hi=>(hb.cell (p:=⟨b,off+i,none⟩) hlt).trans (hc i hi)⟩
theorem Rd.mono {B B':Nat}{w:World}{ao:Option Addr}{xs:List Nat}(h:Rd B w ao xs) (hB:B≤B'):Rd B' w ao xs:=by
 intro hx;obtain ⟨b,off,hlt,rfl,hc⟩:=h hx;exact ⟨b,off,by omega,rfl,hc⟩
def Lt (lo:Nat) (w:World) (v:Value) (xs:List Nat):Prop:=w.ownsRow lo 26 1 v xs.length (xs.map U)
theorem Lt.nil (lo:Nat) (w:World):Lt lo w (.slice none 0 0) []:=World.ownsRow_nil _ _ _ _
theorem Tryz.info26:(Tryz.prog.info? 26).map (fun i=>(i.zero,i.size,i.bytes))=some (some (.float .f64 0),1,8):=by kernel_rfl
open Go.RowKit
abbrev Rw (lo:Nat) (w:World) (v:Value) (n:Nat) (ys:List Value):Prop:=w.ownsRow lo 26 1 v n ys
def Keep (w w':World):Prop:=∀ (g:Nat) (cur:Array Value) (e:TypeId),e≠22→e≠127→w.heap[g]?=some (.cells cur e (0,0))→w'.heap[g]?=some (.cells cur e (0,0))
theorem Keep.row {w w':World}{lo:Nat}{v:Value}{n:Nat}{ys:List Value}(h:Rw lo w v n ys) (k:Keep w w'):Rw lo w' v n ys:=by
 refine ⟨h.1,?_⟩
 rcases h.2 with hn|⟨g,cap,cur,rfl,hlo,hg,rest⟩
 · exact .inl hn
 · exact .inr ⟨g,cap,cur,rfl,hlo,k _ _ _ (by decide) (by decide) hg,rest⟩
theorem Keep.below {w w':World}(h:Below w.heap.size w w'):Keep w w':=fun g cur _ _ _ e=>by rw [h.block g (Array.getElem?_eq_some_iff.1 e).1];exact e
theorem row_other {w w':World}{lo e s:Nat}{v:Value}{n:Nat}{ys:List Value}(h:w.ownsRow lo e s v n ys) (hb:∀ g,v.ownBlock=some g→w'.heap[g]?=w.heap[g]?):w'.ownsRow lo e s v n ys:=by
 refine ⟨h.1,?_⟩
 rcases h.2 with hn|⟨g,cap,cur,rfl,hlo,hg,rest⟩
 · exact .inl hn
 · refine .inr ⟨g,cap,cur,rfl,hlo,?_,rest⟩
   rw [hb g rfl];exact hg
theorem append_word (w:World) (lo:Nat) (v:Value) (n:Nat) (ys:List Value) (x:Value) (s:Nat) (ty:TypeId) (hown:Rw lo w v n ys) (hx:w.cell? ⟨s,0,none⟩=some x) (h1:x.oneCell'=true)
 (hbig:n+1≤17592186044416) (hlo:lo≤w.heap.size) :
 ∃ v' w',(Builtin.append_ #[22,22] ty #[v,.slice (some ⟨s,0,none⟩) 1 1]).run Tryz.prog w=.ok v' w'∧Rw lo w' v' (n+1) (ys++[x])∧w.grownBy w' v.ownBlock ∧
   (v'.ownBlock=v.ownBlock∨∃ g,v'.ownBlock=some g∧w.heap.size≤g)∧(∀ (u:Value) (k:Nat) (zs:List Value),Rw lo w u k zs→(u.ownBlock=v.ownBlock→k≤n)→Rw lo w' u k zs):=by
 obtain ⟨i0,hi,hz0,hz1,hz2⟩:=info_parts Tryz.info26
 have hnews:∀ j u,[x][j]?=some u→w.cell? ((⟨s,0,none⟩:Addr).add j)=some u:=by
  intro j u hj
  match j,hj with
  | 0,hj=>simp at hj;subst hj;simpa [Addr.add] using hx
 have h1':∀ u ∈ [x],u.oneCell'=true:=by intro u hu;simp at hu;subst hu;exact h1
 have keep:∀ w',w.grownBy w' none→∀ (u:Value) (k:Nat) (zs:List Value),Rw lo w u k zs→Rw lo w' u k zs:=by
  intro w' hg u k zs hr
  rcases hr.2 with hn|⟨g,cap,cur,rfl,hl,hgb,rest⟩
  · exact ⟨hr.1,.inl hn⟩
  · refine ⟨hr.1,.inr ⟨g,cap,cur,rfl,hl,?_,rest⟩⟩
    rw [hg.block g (Array.getElem?_eq_some_iff.1 hgb).1 (by simp)];exact hgb
 have newb:∀ (v':Value) (w':World) (m:Nat) (zs:List Value),w'.ownsRow w.heap.size 26 1 v' (m+1) zs→∃ g,v'.ownBlock=some g∧w.heap.size≤g:=by
  intro v' w' m zs h
  rcases h.2 with ⟨_,h0⟩|⟨g,cap,cur,rfl,hl,_⟩
  · omega
  · exact ⟨g,rfl,hl⟩
 have mono:∀ (v':Value) (w':World) (m:Nat) (zs:List Value),w'.ownsRow w.heap.size 26 1 v' m zs→Rw lo w' v' m zs:=by
  intro v' w' m zs h;refine ⟨h.1,?_⟩
  rcases h.2 with hn|⟨g,cap,cur,rfl,hl,rest⟩
  · exact .inl hn
  · exact .inr ⟨g,cap,cur,rfl,by omega,rest⟩
 rcases hown.2 with ⟨rfl,rfl⟩|⟨g,cap,cur,rfl,hlg,hg,hnc,hm,hs,ht⟩
 · obtain ⟨v',w',r1,r2,r3,_,_⟩:=run_append_own_at (P:=Tryz.prog) w w.heap.size 22 ty 26 i0 (.float .f64 0) 1 8 Tryz.underlying22 hi hz0 hz1 hz2 rfl (by decide) (.slice none 0 0) 0 [] (World.ownsRow_nil _ _ _ _) ⟨s,0,none⟩ 1 1 [x] rfl hnews h1' (by unfold maxLen;omega) (by omega) (Nat.le_refl _)
   have hy:ys=[]:=List.eq_nil_of_length_eq_zero (by simpa using hown.1)
   subst hy;exact ⟨v',w',r1,mono _ _ _ _ (by simpa using r2),r3,.inr (newb _ _ 0 _ (by simpa using r2)),fun u k zs hr _=>keep _ r3 u k zs hr⟩
 · by_cases hroom:n+1≤cap
   · have hr:=run_append_room (P:=Tryz.prog) w 22 ty 26 i0 Tryz.underlying22 hi g n cap cur hg ⟨s,0,none⟩ 1 1 [x] (by rw [hz1];rfl) hnews h1' hroom (by rw [hz1,hs];simp;omega)
     rw [hz1] at hr;refine ⟨_,_,hr,⟨by simpa using hown.1,.inr ⟨g,cap,_,rfl,hlg,setRow_heap w g cur _ 26 _ hg,hroom,hm,?_,?_⟩⟩,⟨rfl,rfl,rfl,by simp,fun k _ hk=>setRow_other w g k _ (fun e=>hk (by simp [Value.ownBlock,e]))⟩,.inl rfl,?_⟩
     · simp only [List.size_toArray,List.length_append,List.length_take,List.length_drop,Array.length_toList,List.length_cons,List.length_nil]
       omega
     · rw [ht]
       have hyl:ys.length=n:=by simpa using hown.1
       simp only [Nat.mul_one,List.append_assoc];rw [←List.append_assoc];rw [List.take_append_of_le_length (by simp [hyl])]
       rw [List.take_of_length_le (by simp [hyl])]
     · intro u k zs hr2 hle
       rcases hr2.2 with hn|⟨g2,cap2,cur2,rfl,hl2,hg2,hnc2,hm2,hs2,ht2⟩
       · exact ⟨hr2.1,.inl hn⟩
       · by_cases he:g2=g
         · subst he
           rw [hg] at hg2
           cases hg2
           have hk:=hle rfl;refine ⟨hr2.1,.inr ⟨g2,cap2,_,rfl,hl2,setRow_heap w g2 cur _ 26 _ hg,hnc2,hm2,?_,?_⟩⟩
           · simp only [List.size_toArray,List.length_append,List.length_take,List.length_drop,Array.length_toList,List.length_cons,List.length_nil]
             omega
           · have hcl:cur.toList.length=cap2:=by simpa using hs2
             rw [←ht2];simp only [Nat.mul_one,List.append_assoc];rw [List.take_append_of_le_length (by rw [List.length_take];omega),List.take_take,Nat.min_eq_left hk]
         · refine ⟨hr2.1,.inr ⟨g2,cap2,cur2,rfl,hl2,?_,hnc2,hm2,hs2,ht2⟩⟩
           rw [setRow_other w g g2 _ he];exact hg2
   · obtain ⟨v',w',r1,r2,r3⟩:=run_append_arg_grows (P:=Tryz.prog) w 22 ty 26 i0 (.float .f64 0) 1 8 Tryz.underlying22 hi hz0 hz1 hz2 rfl (by decide) ⟨g,0,none⟩ n cap ys (by simpa using hown.1) (fun j u hj=>hown.cells (g:=g) (by simp [Value.ownBlock]) j u hj) ⟨s,0,none⟩ 1 1 [x] rfl hnews (by omega) (by unfold maxLen;omega) (by omega)
     exact ⟨v',w',r1,mono _ _ _ _ r2,⟨r3.os,r3.tape,r3.output,r3.size,fun k hk _=>r3.block k hk (by simp)⟩,.inr (newb _ _ n _ r2),fun u k zs hr _=>keep _ r3 u k zs hr⟩
theorem wpList_append_run2 {w:World}{ops:Array Oper}{rest:List Oper}{o:Oper}{a:Act}{Q:Exit→Act→World→Prop}(hgd:o.guard=none) (s x:Operand) (t:TypeId)
 (ho:o.op=.call { callee:=.builtin .append,args:=#[s,x],argTypes:=#[t,t] }) (v u:Value) (hs:a.eval s=v) (hx:a.eval x=u) (v':Value) (w':World)
 (hrun:(Builtin.append_ #[t,t] o.type #[v,u]).run Tryz.prog w=.ok v' w') (h:wpList Tryz.prog ops Q rest (a.put o.dst v') w'):wpList Tryz.prog ops Q (o::rest) a w:=by
 refine wpList_plain hgd fun K hK=>?_
 unfold Oper.wp;simp [execOp,ho,resolve,invoke,builtin,hs,hx,hrun,Result.andThen];exact hK _ _ h
end Ps
namespace Ps
open Go.RowKit
open Go.Proofs.YtblkpkgebigojaaGreatDoor.B (f64bits f64frombits bw)
attribute [local go_sem] f64bits f64frombits
theorem kd_le (b:Nat):kd b≤5:=by unfold kd;(repeat' split) <;> omega
open Go.RowKit
open Go.Proofs.YtblkpkgebigojaaGreatDoor.B (f64bits f64frombits bw bcell)
attribute [local go_sem] f64bits f64frombits
def cn (k:Nat) (xs:List Nat):Nat:=xs.countP (fun x=>kd x==k)
theorem cn_append (k:Nat) (xs ys:List Nat):cn k (xs++ys)=cn k xs+cn k ys:=by simp [cn,List.countP_append]
def one (k x:Nat):Nat:=if kd x=k then 1 else 0
theorem cn_one (k x:Nat):cn k [x]=one k x:=by unfold cn one;by_cases h:kd x=k <;> simp [h]
theorem take_succ' (xs:List Nat) (i:Nat) (h:i<xs.length):xs.take (i+1)=xs.take i++[xs.getD i 0]:=by
 rw [List.take_succ_eq_append_getElem h,List.getD_eq_getElem?_getD,List.getElem?_eq_getElem h];rfl
theorem cn_succ (k:Nat) (xs:List Nat) (i:Nat) (h:i<xs.length):cn k (xs.take (i+1))=cn k (xs.take i)+one k (xs.getD i 0):=by
 rw [take_succ' xs i h,cn_append,cn_one]
theorem cn_le (k:Nat) (xs:List Nat):cn k xs≤xs.length:=List.countP_le_length
def SpB (w:World) (g:Nat) (n u d m p a:Int):Prop:=w.heap[g]?=some (.cells #[.int .i64 n,.int .i64 u,.int .i64 d,.int .i64 m,.int .i64 p,.int .i64 a] 119 (0,0))
theorem SpB.lt {w:World}{g:Nat}{n u d m p a:Int}(h:SpB w g n u d m p a):g<w.heap.size:=(Array.getElem?_eq_some_iff.1 h).1
theorem SpB.c0 {w:World}{g:Nat}{n u d m p a:Int}(h:SpB w g n u d m p a):w.cell? ⟨g,0,none⟩=some (.int .i64 n):=by unfold SpB at h;simp [World.cell?,h]
theorem SpB.c1 {w:World}{g:Nat}{n u d m p a:Int}(h:SpB w g n u d m p a):w.cell? ⟨g,1,none⟩=some (.int .i64 u):=by unfold SpB at h;simp [World.cell?,h]
theorem SpB.c2 {w:World}{g:Nat}{n u d m p a:Int}(h:SpB w g n u d m p a):w.cell? ⟨g,2,none⟩=some (.int .i64 d):=by unfold SpB at h;simp [World.cell?,h]
theorem SpB.c3 {w:World}{g:Nat}{n u d m p a:Int}(h:SpB w g n u d m p a):w.cell? ⟨g,3,none⟩=some (.int .i64 m):=by unfold SpB at h;simp [World.cell?,h]
theorem SpB.c4 {w:World}{g:Nat}{n u d m p a:Int}(h:SpB w g n u d m p a):w.cell? ⟨g,4,none⟩=some (.int .i64 p):=by unfold SpB at h;simp [World.cell?,h]
theorem SpB.c5 {w:World}{g:Nat}{n u d m p a:Int}(h:SpB w g n u d m p a):w.cell? ⟨g,5,none⟩=some (.int .i64 a):=by unfold SpB at h;simp [World.cell?,h]
theorem SpB.frozen {w:World}{g:Nat}{n u d m p a:Int}(h:SpB w g n u d m p a) (i:Nat):w.frozen? ⟨g,i,none⟩=false:=by unfold SpB at h;simp [World.frozen?,h]
theorem SpB.below {w w':World}{g B:Nat}{n u d m p a:Int}(h:SpB w g n u d m p a) (hb:Below B w w') (hg:g<B):SpB w' g n u d m p a:=by
 unfold SpB at h ⊢;rw [hb.block g hg];exact h
theorem count_any (k g:Nat) (n u d m p a:Int) (w:World) (hk:k≤5) (hB:SpB w g n u d m p a) (hn:0≤n∧n≤65536) (hu:0≤u∧u≤65536) (hd:0≤d∧d≤65536) (hm:0≤m∧m≤65536) (hp:0≤p∧p≤65536) :
 Calls Tryz.prog 147 #[.pointer (some ⟨g,0,none⟩),.int .i64 (k:Nat)] w fun r w'=>r=.returned (.tuple #[]) ∧
  SpB w' g (if k=0 then n+1 else n) (if k=1 then u+1 else u) (if k=2 then d+1 else d) (if k=3 then m+1 else m) (if k=4 then p+1 else p) a∧But g w w':=by
 have hc0:=hB.c0;have hc1:=hB.c1;have hc2:=hB.c2;have hc3:=hB.c3;have hc4:=hB.c4;have hf0:=hB.frozen 0;have hf1:=hB.frozen 1;have hf2:=hB.frozen 2;have hf3:=hB.frozen 3;have hf4:=hB.frozen 4;have HB:=qsd hB;clear hB;obtain rfl|rfl|rfl|rfl|rfl|rfl:k=0∨k=1∨k=2∨k=3∨k=4∨k=5:=by omega
 · go_enter Tryz.func147,Tryz.ntmps147
   go_wp2
   go_end0
   refine ⟨rfl,?_,(But.refl _ _).set _ _⟩;have h:=HB.out;unfold SpB at h ⊢;simp [World.setCell,Array.getElem?_modify,h]
 · go_enter Tryz.func147,Tryz.ntmps147
   go_wp2
   go_end0
   refine ⟨rfl,?_,(But.refl _ _).set _ _⟩;have h:=HB.out;unfold SpB at h ⊢;simp [World.setCell,Array.getElem?_modify,h]
 · go_enter Tryz.func147,Tryz.ntmps147
   go_wp2
   go_end0
   refine ⟨rfl,?_,(But.refl _ _).set _ _⟩;have h:=HB.out;unfold SpB at h ⊢;simp [World.setCell,Array.getElem?_modify,h]
 · go_enter Tryz.func147,Tryz.ntmps147
   go_wp2
   go_end0
   refine ⟨rfl,?_,(But.refl _ _).set _ _⟩;have h:=HB.out;unfold SpB at h ⊢;simp [World.setCell,Array.getElem?_modify,h]
 · go_enter Tryz.func147,Tryz.ntmps147
   go_wp2
   go_end0
   refine ⟨rfl,?_,(But.refl _ _).set _ _⟩;have h:=HB.out;unfold SpB at h ⊢;simp [World.setCell,Array.getElem?_modify,h]
 · go_enter Tryz.func147,Tryz.ntmps147
   go_wp2
   go_end0
   exact ⟨rfl,HB.out,But.refl _ _⟩
def rf (n u d a b:Int):Int:=if 0<n∧a=2 then 60 else if 0<u+d∧b=2 then 61 else 0
theorem refusal_any (n u d m p l a b:Int) (w:World) (hu:0≤u∧u≤65536) (hd:0≤d∧d≤65536) :
 Calls Tryz.prog 148 #[.agg #[.int .i64 n,.int .i64 u,.int .i64 d,.int .i64 m,.int .i64 p,.int .i64 l],.agg #[.int .i64 a,.int .i64 b]] w fun r w'=>r=.returned (.int .i64 (rf n u d a b))∧Below w.heap.size w w':=by
 have below:∀ o o',Below w.heap.size w ((w.alloc o).alloc o'):=fun o o'=>((Below.refl _ _).alloc (Nat.le_refl _) _).alloc (by simp) _
 obtain ⟨t,ht⟩:∃ t,u+d=t:=⟨_,rfl⟩;have ht2:-9223372036854775808≤t∧t≤9223372036854775807:=by omega
 unfold rf;rw [ht]
 by_cases h1:0<n
 · by_cases h2:a=2
   · rw [if_pos ⟨h1,h2⟩]
     subst h2;go_enter Tryz.func148,Tryz.ntmps148;go_wp2;go_ret;exact ⟨rfl,below _ _⟩
   · have h2':(a==2)=false:=by rw [beq_eq_false_iff_ne];exact h2
     rw [if_neg (fun h=>h2 h.2)]
     by_cases h3:0<t
     · by_cases h4:b=2
       · rw [if_pos ⟨h3,h4⟩]
         subst h4;go_enter Tryz.func148,Tryz.ntmps148;go_wp2;go_ret;exact ⟨rfl,below _ _⟩
       · have h4':(b==2)=false:=by rw [beq_eq_false_iff_ne];exact h4
         rw [if_neg (fun h=>h4 h.2)]
         go_enter Tryz.func148,Tryz.ntmps148;go_wp2;go_ret;exact ⟨rfl,below _ _⟩
     · have h3':decide (0<t)=false:=decide_eq_false h3
       rw [if_neg (fun h=>h3 h.1)]
       go_enter Tryz.func148,Tryz.ntmps148;go_wp2;go_ret;exact ⟨rfl,below _ _⟩
 · have h1':decide (0<n)=false:=decide_eq_false h1
   rw [if_neg (fun h=>h1 h.1)]
   by_cases h3:0<t
   · by_cases h4:b=2
     · rw [if_pos ⟨h3,h4⟩]
       subst h4;go_enter Tryz.func148,Tryz.ntmps148;go_wp2;go_ret;exact ⟨rfl,below _ _⟩
     · have h4':(b==2)=false:=by rw [beq_eq_false_iff_ne];exact h4
       rw [if_neg (fun h=>h4 h.2)]
       go_enter Tryz.func148,Tryz.ntmps148;go_wp2;go_ret;exact ⟨rfl,below _ _⟩
   · have h3':decide (0<t)=false:=decide_eq_false h3
     rw [if_neg (fun h=>h3 h.1)]
     go_enter Tryz.func148,Tryz.ntmps148;go_wp2;go_ret;exact ⟨rfl,below _ _⟩
open Go.RowKit
open Go.Proofs.YtblkpkgebigojaaGreatDoor.B (f64bits f64frombits bw bcell)
attribute [local go_sem] f64bits f64frombits
theorem SpB.made (w:World) (n u d m p a:Int):SpB (w.alloc (.cells #[.int .i64 n,.int .i64 u,.int .i64 d,.int .i64 m,.int .i64 p,.int .i64 a] 119)) w.heap.size n u d m p a:=heap_alloc_new w _
def SpT (w:World) (g:Nat) (xs:List Nat) (a:Int):Prop:=SpB w g (cn 5 xs:Nat) (cn 3 xs:Nat) (cn 4 xs:Nat) (cn 1 xs:Nat) (cn 2 xs:Nat) a
theorem cn_bd (k:Nat) (xs:List Nat) (n:Nat) (h:xs.length≤n) (hn:n≤65536):0≤((cn k xs:Nat):Int)∧((cn k xs:Nat):Int)≤65536:=by have:=cn_le k xs;omega
theorem But.set6 {a w:World}{g:Nat}(h:But g a w) (u0 u1 u2 u3 u4 u5:Value) :
 But g a ((((((w.setCell ⟨g,0,none⟩ u0).setCell ⟨g,1,none⟩ u1).setCell ⟨g,2,none⟩ u2).setCell ⟨g,3,none⟩ u3).setCell ⟨g,4,none⟩ u4).setCell ⟨g,5,none⟩ u5) :=
 ((((((h.set 0 u0).set 1 u1).set 2 u2).set 3 u3).set 4 u4).set 5 u5)
theorem cset {w:World}{b o:Nat}{u:Value}(h:w.cell? ⟨b,o,none⟩=some u) (v:Value):(w.setCell ⟨b,o,none⟩ v).cell? ⟨b,o,none⟩=some v:=by
 simp only [World.cell?] at h ⊢;simp only [World.setCell,Array.getElem?_modify]
 cases hb:w.heap[b]? with
 | none=>rw [hb] at h;simp at h
 | some ob =>
   rw [hb] at h
   cases ob <;> simp_all
   rename_i cs _ _
   by_cases hl:o<cs.size
   · simp [hl]
   · rw [Array.getElem?_eq_none (by omega)] at h;cases h
theorem csetm (w:World) (b o:Nat) (v:Value):(w.setCell ⟨b,o,none⟩ v).cell? ⟨b,o,none⟩=(w.cell? ⟨b,o,none⟩).map (fun _=>v):=by
 cases h:w.cell? ⟨b,o,none⟩ with
 | some u=>rw [cset h v];rfl
 | none =>
   simp only [World.cell?] at h ⊢;simp only [World.setCell,Array.getElem?_modify]
   cases hb:w.heap[b]? with
   | none=>simp
   | some ob =>
     rw [hb] at h
     cases ob <;> simp_all
open Go.RowKit
open Go.Proofs.YtblkpkgebigojaaGreatDoor.B (f64bits f64frombits bw bcell)
attribute [local go_sem] f64bits f64frombits
def fin (xs:List Nat):List Nat:=xs.filter (fun x=>decide (kd x≤2))
theorem fin_append (xs ys:List Nat):fin (xs++ys)=fin xs++fin ys:=by simp [fin,List.filter_append]
theorem fin_le (xs:List Nat):(fin xs).length≤xs.length:=List.length_filter_le _ _
theorem fin_in (xs:List Nat) (i:Nat) (h:i<xs.length) (hk:kd (xs.getD i 0)≤2):fin (xs.take (i+1))=fin (xs.take i)++[xs.getD i 0]:=by
 rw [take_succ' xs i h,fin_append];simp [fin];simpa [List.getD_eq_getElem?_getD] using hk
theorem fin_out (xs:List Nat) (i:Nat) (h:i<xs.length) (hk:¬ kd (xs.getD i 0)≤2):fin (xs.take (i+1))=fin (xs.take i):=by
 rw [take_succ' xs i h,fin_append];simp [fin];simpa [List.getD_eq_getElem?_getD] using hk
def siftE (a b:Int) (xs:List Nat):Int:=if may a b=false then 1 else if 65536<xs.length then 2 else rf (cn 5 xs:Nat) (cn 3 xs:Nat) (cn 4 xs:Nat) a b
def siftL (a b:Int) (xs:List Nat):List Nat:=if siftE a b xs=0 then fin xs else []
def siftS (a b:Int) (xs:List Nat):Value:=if siftE a b xs=0 then .agg #[.int .i64 (cn 5 xs:Nat),.int .i64 (cn 3 xs:Nat),.int .i64 (cn 4 xs:Nat),.int .i64 (cn 1 xs:Nat),.int .i64 (cn 2 xs:Nat),.int .i64 (xs.length:Nat)] else .agg #[.int .i64 0,.int .i64 0,.int .i64 0,.int .i64 0,.int .i64 0,.int .i64 0]
def SiftAns (w:World) (a b:Int) (xs:List Nat) (r:Ending) (w':World):Prop:=∃ v,r=.returned (.tuple #[v,siftS a b xs,.int .i64 (siftE a b xs)])∧Lt w.heap.size w' v (siftL a b xs)∧Below w.heap.size w w'
theorem SiftAns.no {w w':World}{a b:Int}{xs:List Nat}(e:Int) (he:siftE a b xs=e) (h0:e≠0) (hb:Below w.heap.size w w'):SiftAns w a b xs (.returned (.tuple #[.slice none 0 0,.agg #[.int .i64 0,.int .i64 0,.int .i64 0,.int .i64 0,.int .i64 0,.int .i64 0],.int .i64 e])) w':=by
 subst he;refine ⟨.slice none 0 0,?_,?_,hb⟩
 · unfold siftS;rw [if_neg h0]
 · unfold siftL;rw [if_neg h0];exact Lt.nil _ _
theorem SiftAns.yes {w w':World}{a b:Int}{xs:List Nat}{v:Value}(he:siftE a b xs=0) (hv:Rw w.heap.size w' v (fin xs).length ((fin xs).map U)) (hb:Below w.heap.size w w') :
 SiftAns w a b xs (.returned (.tuple #[v,.agg #[.int .i64 (cn 5 xs:Nat),.int .i64 (cn 3 xs:Nat),.int .i64 (cn 4 xs:Nat),.int .i64 (cn 1 xs:Nat),.int .i64 (cn 2 xs:Nat),.int .i64 (xs.length:Nat)],.int .i64 0])) w':=by
 refine ⟨v,?_,?_,hb⟩
 · rw [he];unfold siftS;rw [if_pos he]
 · unfold siftL;rw [if_pos he];exact hv
theorem Rw.below {lo:Nat}{w w':World}{v:Value}{n:Nat}{ys:List Value}(h:Rw lo w v n ys) (hb:Below w.heap.size w w'):Rw lo w' v n ys :=
 Keep.row h (Keep.below hb)
theorem Rw.but {lo g:Nat}{w w':World}{v:Value}{n:Nat}{ys:List Value}(h:Rw lo w v n ys) (hb:But g w w') {cur:Array Value}{e:TypeId}(he:e≠26) (hg:w.heap[g]?=some (.cells cur e (0,0))):Rw lo w' v n ys:=by
 refine row_other h fun k hk=>?_
 rcases h.2 with ⟨rfl,_⟩|⟨g2,cap,c2,rfl,_,hg2,_⟩
 · cases hk
 · cases hk
   refine hb.block _ (Array.getElem?_eq_some_iff.1 hg2).1 (fun e2=>?_)
   subst e2;rw [hg] at hg2
   cases hg2
   exact he rfl
theorem Rw.mono {lo lo':Nat}{w:World}{v:Value}{n:Nat}{ys:List Value}(h:Rw lo w v n ys) (hl:lo'≤lo):Rw lo' w v n ys:=by
 refine ⟨h.1,?_⟩
 rcases h.2 with hn|⟨g,cap,cur,rfl,hlo,rest⟩
 · exact .inl hn
 · exact .inr ⟨g,cap,cur,rfl,by omega,rest⟩
theorem Rw.low {lo:Nat}{w:World}{v:Value}{n:Nat}{ys:List Value}(h:Rw lo w v n ys):∀ b,v.ownBlock=some b→lo≤b:=by
 intro b hb
 rcases h.2 with ⟨rfl,_⟩|⟨g,cap,cur,rfl,hlo,_⟩
 · cases hb
 · cases hb;exact hlo
theorem make_room (n:Nat) (hn:n≤65536) (w:World) :
 (Instr.makeSlice 22 (.int .i64 0) (.int .i64 (n:Nat))).run Tryz.prog w=.ok (.slice (some ⟨w.heap.size,0,none⟩) 0 n) (w.alloc (.cells (madeCells #[.float .f64 0] n) 26)):=by
 obtain ⟨i0,hi,hz0,hz1,hz2⟩:=info_parts Tryz.info26;have hr:=run_make (P:=Tryz.prog) w 22 26 i0 (.float .f64 0) Tryz.underlying22 hi hz0 .i64 .i64 0 (n:Int) (Int.le_refl _) (by omega) (by rw [hz2];omega) (by omega)
 rw [hz1,Nat.mul_one] at hr;simp only [Int.toNat_natCast,Int.toNat_zero] at hr;exact hr
theorem row_made (lo:Nat) (w:World) (n:Nat) (hn:n≤65536) (hlo:lo≤w.heap.size):Rw lo (w.alloc (.cells (madeCells #[.float .f64 0] n) 26)) (.slice (some ⟨w.heap.size,0,none⟩) 0 n) 0 []:=by
 refine ⟨rfl,.inr ⟨w.heap.size,n,madeCells #[.float .f64 0] n,rfl,hlo,heap_alloc_new w _,by omega,by unfold maxLen;omega,?_,?_⟩⟩
 · have:=congrArg List.length (toList_madeCells_one (.float .f64 0) n)
   simpa using this
 · simp
theorem push (lo:Nat) (w:World) (v:Value) (ys:List Nat) (x:Nat) (hrow:Rw lo w v ys.length (ys.map U)) (hn:ys.length≤65536) (hlo:lo≤w.heap.size) :
 ∃ v' w',(Builtin.append_ #[22,22] 22 #[v,.slice (some ⟨w.heap.size,0,none⟩) 1 1]).run Tryz.prog (w.alloc (.cells #[.float .f64 x] 26))=.ok v' w'∧Rw lo w' v' (ys++[x]).length ((ys++[x]).map U) ∧
   Below lo w w'∧(∀ (g:Nat) (cur:Array Value) (e:TypeId),e≠26→w.heap[g]?=some (.cells cur e (0,0))→w'.heap[g]?=some (.cells cur e (0,0)))∧w.heap.size≤w'.heap.size:=by
 obtain ⟨v',w',h1,h2,h3,_,_⟩:=append_word (w.alloc (.cells #[.float .f64 x] 26)) lo v ys.length (ys.map U) (.float .f64 x) w.heap.size 22 (hrow.alloc _) (by unfold World.cell?;simp only [heap_alloc_new];rfl) rfl (by omega) (by simp;omega)
 refine ⟨v',w',h1,by simpa [U] using h2,((Below.refl lo w).alloc hlo _).grown h3 (by simp;omega) hrow.low,?_,by have:=h3.size;simp at this;omega⟩
 intro g cur e he hg;have hgl:=(Array.getElem?_eq_some_iff.1 hg).1;rw [h3.block g (by simp;omega) (fun e2=>?_),Below.heap_alloc _ _ _ hgl]
 · exact hg
 · rcases hrow.2 with ⟨rfl,_⟩ | ⟨g2,cap,c2,rfl,_,hg2,_⟩
   · cases e2
   · cases e2
     rw [hg] at hg2
     cases hg2
     exact he rfl
structure SI (lo sb:Nat) (W1:World) (xs:List Nat) (i:Nat) (a:Int) (v:Value) (wr:World):Prop where
 row:Rw lo wr v (fin (xs.take i)).length ((fin (xs.take i)).map U)
 sp:SpT wr sb (xs.take i) a
 bel:Below lo W1 wr
 size:W1.heap.size≤wr.heap.size
theorem SI.kind {lo sb:Nat}{W1:World}{xs:List Nat}{i:Nat}{a:Int}{v:Value}{wr w1:World}(h:SI lo sb W1 xs i a v wr) (hb:Below wr.heap.size wr w1) (hlo:lo≤wr.heap.size):SI lo sb W1 xs i a v w1 :=
 ⟨h.row.below hb,SpB.below h.sp hb (SpB.lt h.sp),h.bel.trans (hb.mono hlo),Nat.le_trans h.size hb.size⟩
theorem SI.out {lo sb:Nat}{W1:World}{xs:List Nat}{i:Nat}{a:Int}{v:Value}{wr w2:World}(h:SI lo sb W1 xs i a v wr) (hi:i<xs.length) (hs:SpT w2 sb (xs.take (i+1)) a) (hb:But sb wr w2) (hlo:lo≤sb) (hl:lo≤wr.heap.size) (hk:¬ kd (xs.getD i 0)≤2):SI lo sb W1 xs (i+1) a v w2 :=
 ⟨by rw [fin_out xs i hi hk];exact h.row.but hb (by decide) h.sp,hs,But.below h.bel hb hl hlo,Nat.le_trans h.size hb.size⟩
theorem SI.row2 {lo sb:Nat}{W1:World}{xs:List Nat}{i:Nat}{a:Int}{v:Value}{wr w2:World}(h:SI lo sb W1 xs i a v wr) (hb:But sb wr w2):Rw lo w2 v (fin (xs.take i)).length ((fin (xs.take i)).map U):=h.row.but hb (by decide) h.sp
theorem SpB.keep {w w':World}{g:Nat}{n u d m p a:Int}(h:SpB w g n u d m p a) (hk:∀ (g:Nat) (cur:Array Value) (e:TypeId),e≠26→w.heap[g]?=some (.cells cur e (0,0))→w'.heap[g]?=some (.cells cur e (0,0))):SpB w' g n u d m p a :=
 hk _ _ _ (by decide) h
theorem SI.into {lo sb:Nat}{W1:World}{xs:List Nat}{i:Nat}{a:Int}{v v':Value}{wr w2 w3:World}(h:SI lo sb W1 xs i a v wr) (hi:i<xs.length) (hs:SpT w2 sb (xs.take (i+1)) a) (hb:But sb wr w2) (hlo:lo≤sb) (hl:lo≤wr.heap.size) (hk:kd (xs.getD i 0)≤2)
 (hrow:Rw lo w3 v' (fin (xs.take i)++[xs.getD i 0]).length ((fin (xs.take i)++[xs.getD i 0]).map U)) (hb3:Below lo w2 w3) (hkeep:∀ (g:Nat) (cur:Array Value) (e:TypeId),e≠26→w2.heap[g]?=some (.cells cur e (0,0))→w3.heap[g]?=some (.cells cur e (0,0))) (hsz:w2.heap.size≤w3.heap.size):SI lo sb W1 xs (i+1) a v' w3 :=
 ⟨by rw [fin_in xs i hi hk];exact hrow,SpB.keep hs hkeep,(But.below h.bel hb hl hlo).trans hb3,Nat.le_trans (Nat.le_trans h.size hb.size) hsz⟩
theorem kp_one (x:Nat) (n u d m p:Nat):(if kp (kd x)=0 then ((n:Nat):Int)+1 else n)=((n+one 5 x:Nat):Int)∧(if kp (kd x)=1 then ((u:Nat):Int)+1 else u)=((u+one 3 x:Nat):Int)∧(if kp (kd x)=2 then ((d:Nat):Int)+1 else d)=((d+one 4 x:Nat):Int) ∧
 (if kp (kd x)=3 then ((m:Nat):Int)+1 else m)=((m+one 1 x:Nat):Int)∧(if kp (kd x)=4 then ((p:Nat):Int)+1 else p)=((p+one 2 x:Nat):Int):=by
 have hk:=kd_le x;unfold one;generalize kd x=k at hk;obtain rfl|rfl|rfl|rfl|rfl|rfl:k=0∨k=1∨k=2∨k=3∨k=4∨k=5:=by omega
 all_goals simp [kp]
theorem kp_ge (x:Nat):3≤kp (kd x)↔kd x≤2:=by
 have hk:=kd_le x;generalize kd x=k at hk;obtain rfl|rfl|rfl|rfl|rfl|rfl:k=0∨k=1∨k=2∨k=3∨k=4∨k=5:=by omega
 all_goals simp [kp]
theorem kp_le (x:Nat):kp (kd x)≤5:=by unfold kp;(repeat' split) <;> omega
theorem SpT.counted {w w':World}{sb:Nat}{xs:List Nat}{i:Nat}{a:Int}(hi:i<xs.length)
 (h:SpB w' sb (if kp (kd (xs.getD i 0))=0 then ((cn 5 (xs.take i):Nat):Int)+1 else ((cn 5 (xs.take i):Nat):Int)) (if kp (kd (xs.getD i 0))=1 then ((cn 3 (xs.take i):Nat):Int)+1 else ((cn 3 (xs.take i):Nat):Int)) (if kp (kd (xs.getD i 0))=2 then ((cn 4 (xs.take i):Nat):Int)+1 else ((cn 4 (xs.take i):Nat):Int)) (if kp (kd (xs.getD i 0))=3 then ((cn 1 (xs.take i):Nat):Int)+1 else ((cn 1 (xs.take i):Nat):Int)) (if kp (kd (xs.getD i 0))=4 then ((cn 2 (xs.take i):Nat):Int)+1 else ((cn 2 (xs.take i):Nat):Int)) a) :
 SpT w' sb (xs.take (i+1)) a:=by
 obtain ⟨h1,h2,h3,h4,h5⟩:=kp_one (xs.getD i 0) (cn 5 (xs.take i)) (cn 3 (xs.take i)) (cn 4 (xs.take i)) (cn 1 (xs.take i)) (cn 2 (xs.take i));rw [h1,h2,h3,h4,h5] at h;unfold SpT;rw [cn_succ 5 xs i hi,cn_succ 3 xs i hi,cn_succ 4 xs i hi,cn_succ 1 xs i hi,cn_succ 2 xs i hi];exact h
end Ps
namespace Ps
open Go.RowKit
open Go.Proofs.YtblkpkgebigojaaGreatDoor.B (f64bits f64frombits bw bcell)
attribute [local go_sem] f64bits f64frombits
theorem Sift_arg (xs:List Nat) (ao:Option Addr) (n cap:Nat) (a b:Int) (w:World) (hm:may a b=false) :
 Calls Tryz.prog 104 #[.slice ao n cap,.agg #[.int .i64 a,.int .i64 b]] w (SiftAns w a b xs):=by
 have H:=hid (May_any a b);rw [hm] at H;have HE:Aside (siftE a b xs=1):=by unfold siftE;rw [hm];rfl
 clear hm;go_enter Tryz.func104,Tryz.ntmps104
 go_wp2_with fail
 refine (H.out _).mono ?_;rintro r w1 ⟨rfl,hb⟩;have hsz:=hb.size;simp at hsz;obtain ⟨hc,hf⟩:=bcell hb;have HB:=qsd hb;clear hb;go_wp2;refine bodyPost_ret (v:=.tuple #[.slice none 0 0,.agg #[.int .i64 0,.int .i64 0,.int .i64 0,.int .i64 0,.int .i64 0,.int .i64 0],.int .i64 1]) (by simp [results,Tryz.results104,go_sem,csetm,hc]) rfl (SiftAns.no 1 HE.out (by decide) ?_)
 exact But.below ((((Below.refl _ w).alloc (Nat.le_refl _) _).alloc (by simp) _).trans (HB.out.mono (by simp;omega))) (But.set6 (But.refl (w.heap.size+1) _) _ _ _ _ _ _) (by omega) (by omega)
theorem Sift_long (xs:List Nat) (ao:Option Addr) (n cap:Nat) (a b:Int) (w:World) (hn:n=xs.length) (hm:may a b=true) (hl:65536<n) (hn2:n≤35184372088832) :
 Calls Tryz.prog 104 #[.slice ao n cap,.agg #[.int .i64 a,.int .i64 b]] w (SiftAns w a b xs):=by
 have H:=hid (May_any a b);rw [hm] at H;have HE:Aside (siftE a b xs=2):=by unfold siftE;rw [if_neg (by rw [hm];decide),if_pos (by omega),Aside]
 clear hm hn;go_enter Tryz.func104,Tryz.ntmps104
 go_wp2_with fail
 refine (H.out _).mono ?_;rintro r w1 ⟨rfl,hb⟩;have hsz:=hb.size;simp at hsz;obtain ⟨hc,hf⟩:=bcell hb;have HB:=qsd hb;clear hb;go_wp2;refine bodyPost_ret (v:=.tuple #[.slice none 0 0,.agg #[.int .i64 0,.int .i64 0,.int .i64 0,.int .i64 0,.int .i64 0,.int .i64 0],.int .i64 2]) (by simp [results,Tryz.results104,go_sem,csetm,hc]) rfl (SiftAns.no 2 HE.out (by decide) ?_)
 exact But.below ((((Below.refl _ w).alloc (Nat.le_refl _) _).alloc (by simp) _).trans (HB.out.mono (by simp;omega))) (But.set6 (But.refl (w.heap.size+1) _) _ _ _ _ _ _) (by omega) (by omega)
set_option maxRecDepth 100000 in
theorem Sift_rest (xs:List Nat) (ao:Option Addr) (n cap B:Nat) (a b:Int) (w:World) (hn:n=xs.length) (hm:may a b=true) (hl:n≤65536) (hx:Wf xs) (hR:Rd B w ao xs) (hB:B≤w.heap.size) :
 Calls Tryz.prog 104 #[.slice ao n cap,.agg #[.int .i64 a,.int .i64 b]] w (SiftAns w a b xs):=by
 have H:=hid (May_any a b);rw [hm] at H;have HE:Aside (siftE a b xs=rf (cn 5 xs:Nat) (cn 3 xs:Nat) (cn 4 xs:Nat) a b):=by unfold siftE;rw [if_neg (by rw [hm];decide),if_neg (by omega),Aside]
 have hmk:=make_room n hl;have HX:=(qsd (ai hn (ai hx (ai hR hB))));clear hm hn hx hR hB;go_enter Tryz.func104,Tryz.ntmps104
 go_wp2_with fail
 refine (H.out _).mono ?_;rintro r w1 ⟨rfl,hb⟩;have hsz:=hb.size;simp at hsz;obtain ⟨hc,hf⟩:=bcell hb;have HB:=qsd hb
 have HZ:Aside (SpB w1 (w.heap.size+1) 0 0 0 0 0 0):=by
  have h1:=SpB.made (w.alloc (.cells #[.int .i64 a,.int .i64 b] 127)) 0 0 0 0 0 0;simp only [World.size_alloc] at h1;exact h1.below hb (by simp)
 clear hb;go_wp2
 go_loopg [7,28] n (fun gk lv cv wr=>∃ (i:Nat),gk+i=n∧cv=.int .i64 (i:Nat)∧Aside (SI w1.heap.size (w1.heap.size+1) w1 xs i (n:Nat) lv wr))
 case atStart =>
  refine ⟨0,by omega,rfl,?_⟩
  have h1:=(row_made w1.heap.size w1 n hl (Nat.le_refl _)).alloc (.cells #[.int .i64 0,.int .i64 0,.int .i64 0,.int .i64 0,.int .i64 0,.int .i64 (n:Nat)] 119);have h2:=SpB.made (w1.alloc (.cells (madeCells #[.float .f64 0] n) 26)) 0 0 0 0 0 (n:Nat);simp only [World.size_alloc] at h2;exact ⟨h1,h2,((Below.refl _ _).alloc (Nat.le_refl _) _).alloc (by simp) _,by simp;omega⟩
 case round =>
  obtain ⟨i,hi,rfl,HA⟩:=hrel
  by_cases hin:i=n
  · obtain rfl:gk=0:=by omega
    obtain ⟨hn,hx,hR,hB⟩:=HX.out;have hS:=HA.out;have e:xs.take i=xs:=List.take_of_length_le (by omega)
    have hT:=hS.sp;unfold SpT at hT;rw [e] at hT;have hc0:=hT.c0;have hc1:=hT.c1;have hc2:=hT.c2;have hc3:=hT.c3;have hc4:=hT.c4;have hc5:=hT.c5;have hlt:=hT.lt;have hcb:∀ b o,b<w1.heap.size→wr.cell? ⟨b,o,none⟩=w1.cell? ⟨b,o,none⟩:=fun b o h=>hS.bel.cell (p:=⟨b,o,none⟩) h
    have hp0:wr.cell? ⟨w.heap.size,0,none⟩=some (.int .i64 a):=by rw [hcb _ _ (by omega),hc _ _ (by simp;omega)];simp [go_sem]
    have hp1:wr.cell? ⟨w.heap.size,1,none⟩=some (.int .i64 b):=by rw [hcb _ _ (by omega),hc _ _ (by simp;omega)];simp [go_sem]
    have hZ:SpB wr (w.heap.size+1) 0 0 0 0 0 0:=HZ.out.below hS.bel (by omega)
    have hbd:=fun k=>cn_bd k xs n (by omega) hl
    have HRF:=hid (fun w=>refusal_any (cn 5 xs:Nat) (cn 3 xs:Nat) (cn 4 xs:Nat) (cn 1 xs:Nat) (cn 2 xs:Nat) (n:Nat) a b w (hbd 3) (hbd 4))
    obtain ⟨ee,hee⟩:∃ ee,rf (cn 5 xs:Nat) (cn 3 xs:Nat) (cn 4 xs:Nat) a b=ee:=⟨_,rfl⟩;have HEE:Aside (siftE a b xs=ee):=by rw [Aside,HE.out,hee]
    rw [hee] at HRF;obtain ⟨c5,e5⟩:∃ c,cn 5 xs=c:=⟨_,rfl⟩;obtain ⟨c3,e3⟩:∃ c,cn 3 xs=c:=⟨_,rfl⟩;obtain ⟨c4,e4⟩:∃ c,cn 4 xs=c:=⟨_,rfl⟩;obtain ⟨c1,e1⟩:∃ c,cn 1 xs=c:=⟨_,rfl⟩;obtain ⟨c2,e2⟩:∃ c,cn 2 xs=c:=⟨_,rfl⟩;rw [e5,e3,e4,e1,e2] at hT HRF;rw [e5] at hc0;rw [e3] at hc1;rw [e4] at hc2;rw [e1] at hc3;rw [e2] at hc4;have HY:=(qsd (ai hZ (ai hT (ai e (ai e1 (ai e2 (ai e3 (ai e4 e5))))))));have hBs:=hS.size;clear hn hx hR hB hS hT e hcb hbd hee e1 e2 e3 e4 e5 hZ;subst hin
    go_wp2_with fail
    refine (HRF.out _).mono ?_;rintro r w5 ⟨rfl,hb5⟩;obtain ⟨hZ,hT,e,e1,e2,e3,e4,e5⟩:=HY.out;have hZ5:=hZ.below hb5 hZ.lt;have hT5:=hT.below hb5 hT.lt;have hr5:=HA.out.row.below hb5;have hZf:=hZ5.frozen;have hz0:=hZ5.c0;have hz1:=hZ5.c1;have hz2:=hZ5.c2;have hz3:=hZ5.c3;have hz4:=hZ5.c4;have hz5:=hZ5.c5;have ht0:=hT5.c0;have ht1:=hT5.c1;have ht2:=hT5.c2;have ht3:=hT5.c3;have ht4:=hT5.c4;have ht5:=hT5.c5;have hzl:=hZ5.lt;have hbel5:Below w.heap.size w w5:=((((Below.refl _ w).alloc (Nat.le_refl _) _).alloc (by simp) _).trans (HB.out.mono (by simp;omega))).trans ((HA.out.bel.mono (by omega)).trans (hb5.mono (by omega)))
    have HV:=(qsd (ai hbel5 (ai hr5 (ai hZ5 (ai hT5 (ai e (ai e1 (ai e2 (ai e3 (ai e4 e5))))))))));clear hZ hT e e1 e2 e3 e4 e5 hb5 hZ5 hT5 hr5 hbel5 hc0 hc1 hc2 hc3 hc4 hc5 hp0 hp1 HY
    by_cases h0:ee=0
    · subst h0
      go_wp2
      go_region
      all_goals
       go_wp2;refine bodyPost_ret (v:=.tuple #[u7,.agg #[.int .i64 (c5:Nat),.int .i64 (c3:Nat),.int .i64 (c4:Nat),.int .i64 (c1:Nat),.int .i64 (c2:Nat),.int .i64 (i:Nat)],.int .i64 0]) (by simp [results,Tryz.results104,go_sem,csetm,hz0,hz1,hz2,hz3,hz4,hz5]) rfl ?_
       obtain ⟨hbel5,hr5,hZ5,hT5,e,e1,e2,e3,e4,e5⟩:=HV.out;have hbut:But (w.heap.size+1) w5 _:=(But.set6 (But.refl (w.heap.size+1) w5) (.int .i64 (c5:Nat)) (.int .i64 (c3:Nat)) (.int .i64 (c4:Nat)) (.int .i64 (c1:Nat)) (.int .i64 (c2:Nat)) (.int .i64 (i:Nat))).drew;have hR6:=Rw.mono (Rw.but hr5 hbut (by decide) hZ5) (show w.heap.size≤w1.heap.size by omega)
       rw [e] at hR6;have hans:=SiftAns.yes HEE.out hR6 (But.below hbel5 hbut (by omega) (by omega))
       rw [←HX.out.1,e1,e2,e3,e4,e5] at hans;exact hans
    · have h0':(ee==0)=false:=by rw [beq_eq_false_iff_ne];exact h0
      go_wp2;refine bodyPost_ret (v:=.tuple #[.slice none 0 0,.agg #[.int .i64 0,.int .i64 0,.int .i64 0,.int .i64 0,.int .i64 0,.int .i64 0],.int .i64 ee]) (by simp [results,Tryz.results104,go_sem,csetm,hz0,hz1,hz2,hz3,hz4,hz5]) rfl (SiftAns.no ee HEE.out h0 ?_)
      exact But.below HV.out.1 (But.set6 (But.refl (w.heap.size+1) _) _ _ _ _ _ _) (by omega) (by omega)
  · have hil:i<n:=by omega
    obtain ⟨hn,hx,hR,hB⟩:=HX.out;have hS:=HA.out;have hbw:Below w.heap.size w wr:=((((Below.refl _ w).alloc (Nat.le_refl _) _).alloc (by simp) _).trans (HB.out.mono (by simp;omega))).trans (hS.bel.mono (by omega))
    have hRw:Rd w.heap.size wr ao xs:=(hR.mono hB).below hbw;obtain ⟨bb,off,hlt2,rfl,hcell⟩:=hRw (by intro e;rw [e] at hn;simp at hn;omega)
    have hxc:=hcell i (by omega)
    have hxw:=hx.get i;obtain ⟨x,hxx⟩:∃ x,xs.getD i 0=x:=⟨_,rfl⟩;rw [hxx] at hxc hxw;have HK:=hid (kind_any x hxw);have hk5:=kp_le x;have hk3:=kp_ge x;obtain ⟨kk,hkk⟩:∃ kk,kp (kd x)=kk:=⟨_,rfl⟩;rw [hkk] at HK hk5 hk3;have l1:(xs.take i).length≤65536:=by rw [List.length_take];omega
    have hbd:=fun k=>cn_bd k (xs.take i) 65536 l1 (Nat.le_refl _)
    have hwl:=hS.size;have HY:=(qsd (ai hxx (ai hkk (ai hk3 (ai hbd (ai hn hlt2))))));clear hn hx hR hB hS hbw hRw hcell hxx hkk hk3 hbd l1 hin
    go_wp2_with fail
    refine (HK.out _).mono ?_;rintro r w2 ⟨rfl,hb2⟩;have HS2:=qsd (SI.kind HA.out hb2 hwl);have hxc2:w2.cell? ⟨bb,off+i,none⟩=some (.float .f64 x):=by rw [hb2.cell (p:=⟨bb,off+i,none⟩) (by have:=HY.out.2.2.2.2.2;simp;omega)];exact hxc
    have hsz2:=hb2.size;have HC:=hid (count_any kk (w1.heap.size+1) _ _ _ _ _ _ w2 hk5 HS2.out.sp (HY.out.2.2.2.1 5) (HY.out.2.2.2.1 3) (HY.out.2.2.2.1 4) (HY.out.2.2.2.1 1) (HY.out.2.2.2.1 2));clear hb2 hxc
    go_wp2_with fail
    refine Calls.mono HC.out ?_;rintro r w3 ⟨rfl,hs3,hbut3⟩;obtain ⟨hxx,hkk,hk3,hbd,hn,hlt2⟩:=HY.out;have hs3':SpT w3 (w1.heap.size+1) (xs.take (i+1)) (n:Nat):=SpT.counted (w:=w2) (by omega) (by rw [hxx,hkk];exact hs3)
    have hsz3:=hbut3.size
    have hxc3:w3.cell? ⟨bb,off+i,none⟩=some (.float .f64 x):=by
     have h9:=(But.below (Below.refl w1.heap.size w2) hbut3 (by omega) (by omega)).cell (p:=⟨bb,off+i,none⟩) (by simp;omega)
     rw [h9];exact hxc2
    by_cases hk2:kd x≤2
    · have hge:(3:Int)≤(kk:Int):=by have:=hk3.2 hk2;omega
      obtain ⟨v',w4,hap,hrow4,hb4,hkeep4,hsz4⟩:=push w1.heap.size w3 u7 (fin (xs.take i)) x (SI.row2 HS2.out hbut3) (by have h1:=fin_le (xs.take i);rw [List.length_take] at h1;omega) (by omega)
      have HI:=qsd (SI.into (v':=v') HS2.out (by omega) hs3' hbut3 (by omega) (by omega) (by rw [hxx];exact hk2) (by rw [hxx];exact hrow4) hb4 hkeep4 hsz4)
      have HAP:=hid hap;clear hap hrow4 hb4 hkeep4 hsz4 hs3 hs3' hbut3 hxx hkk hk3 hbd hn hlt2 hk2 hxc2
      go_wp2_with (at_builtin;refine wpList_append_run2 rfl (.tmp 40) (.tmp 45) 22 rfl _ _ rfl rfl _ _ HAP.out ?_)
      go_roundg (n-(i+1))
      case measure=>omega
      case rel=>exact ⟨i+1,by omega,by first | go_num | (congr 1;omega),HI⟩
    · have hge:decide ((3:Int)≤(kk:Int))=false:=decide_eq_false (fun h=>hk2 (hk3.1 (by omega)))
      have HI:=qsd (SI.out HS2.out (by omega) hs3' hbut3 (by omega) (by omega) (by rw [hxx];exact hk2))
      clear hs3 hs3' hbut3 hxx hkk hk3 hbd hn hlt2 hk2 hxc2;go_wp2
      go_roundg (n-(i+1))
      case measure=>omega
      case rel=>exact ⟨i+1,by omega,by first | go_num | (congr 1;omega),HI⟩
theorem Sift_any (xs:List Nat) (ao:Option Addr) (n cap B:Nat) (a b:Int) (w:World) (hn:n=xs.length) (hm:n≤35184372088832) (hx:Wf xs) (hR:Rd B w ao xs) (hB:B≤w.heap.size) :
 Calls Tryz.prog 104 #[.slice ao n cap,.agg #[.int .i64 a,.int .i64 b]] w (SiftAns w a b xs):=by
 rcases h:may a b with _|_
 · exact Sift_arg xs ao n cap a b w h
 · by_cases hl:65536<n
   · exact Sift_long xs ao n cap a b w hn h hl hm
   · exact Sift_rest xs ao n cap B a b w hn h (by omega) hx hR hB
end Ps
section
open Go.RowKit J
def kO13 (k:Nat):Nat:=if k=5 then 1 else if k=3 then 2 else if k=4 then 3 else if k=1 then 4 else if k=2 then 5 else 0
theorem m42:max (4:Int) 2=4:=by decide
theorem m32:max (3:Int) 2=3:=by decide
theorem m02:max (0:Int) 2=2:=by decide
theorem n42:min (4:Int) 2=2:=by decide
theorem n32:min (3:Int) 2=2:=by decide
theorem n02:min (0:Int) 2=0:=by decide
theorem pK_one13 {x:Nat}(hx:x<18446744073709551616):pK x 4607182418800017408=kO13 (kd x)∧(kd x≤2↔finW x):=by
 have c1:clW 4607182418800017408=2:=by decide +kernel
 have n1:ngW 4607182418800017408=false:=by decide +kernel
 have em:magW x=x%9223372036854775808:=rfl;have en:negW x=decide (9223372036854775808≤x):=rfl;unfold pK kO13;rw [c1,n1]
 rcases Nat.lt_trichotomy 9218868437227405312 (magW x) with h|h|h
 · have hk:kd x=5:=by unfold kd;rw [if_pos (by omega)]
   rw [cl_nan h,hk];refine ⟨by unfold pk;simp [m42,m32,m02,n42,n32,n02],?_⟩
   constructor
   · intro q;omega
   · intro q;exact absurd (show magW x<9218868437227405312 from q) (by omega)
 · obtain ⟨h1,h2⟩:=cl_inf h.symm
   rw [h1,h2];have hf:¬ finW x:=fun q=>absurd (show magW x<9218868437227405312 from q) (by omega)
   by_cases hs:9223372036854775808≤x
   · have hk:kd x=4:=by unfold kd;rw [if_neg (by omega),if_pos (by omega),if_pos (by omega)]
     rw [hk,en,decide_eq_true hs];refine ⟨by unfold pk;simp [m42,m32,m02,n42,n32,n02],?_⟩
     exact ⟨fun q=>by omega,fun q=>absurd q hf⟩
   · have hk:kd x=3:=by unfold kd;rw [if_neg (by omega),if_pos (by omega),if_neg (by omega)]
     rw [hk,en,decide_eq_false hs];refine ⟨by unfold pk;simp [m42,m32,m02,n42,n32,n02],?_⟩
     exact ⟨fun q=>by omega,fun q=>absurd q hf⟩
 · have fx:finW x:=h
   obtain ⟨p1,p2,p3,p4⟩:=fin_parts hx fx;rw [p1]
   by_cases h0:magW x=0
   · rw [h0,vK_zero] at p2
     have hfr:frW x=0:=by
      rcases Nat.mul_eq_zero.1 p2.symm with q|q
      · exact q
      · have:=Nat.two_pow_pos (xpW x+1074).toNat;omega
     have hc:clW x=0:=by
      rcases p4 with q|q
      · exact q.1
      · exact absurd hfr q.2
     rw [hc]
     by_cases hs:9223372036854775808≤x
     · have hk:kd x=1:=by unfold kd;rw [if_neg (by omega),if_neg (by omega),if_pos (by omega),if_pos (by omega)]
       rw [hk,en,decide_eq_true hs];exact ⟨by unfold pk;simp [m42,m32,m02,n42,n32,n02],fun _=>fx,fun _=>by omega⟩
     · have hk:kd x=2:=by unfold kd;rw [if_neg (by omega),if_neg (by omega),if_pos (by omega),if_neg (by omega)]
       rw [hk,en,decide_eq_false hs];exact ⟨by unfold pk;simp [m42,m32,m02,n42,n32,n02],fun _=>fx,fun _=>by omega⟩
   · have hk:kd x=0:=by unfold kd;rw [if_neg (by omega),if_neg (by omega),if_neg (by omega)]
     have hfr:frW x≠0:=by
      intro q;rw [q,Nat.zero_mul] at p2;have:=grid64.mono (show 0<magW x by omega)
      omega
     have hc:clW x=1∨clW x=2:=by
      rcases p4 with q|q
      · exact absurd q.2 hfr
      · exact q.1
     rw [hk];refine ⟨?_,fun _=>fx,fun _=>by omega⟩
     rcases hc with q|q
     · rw [q,show max (1:Int) 2=2 by decide,show min (1:Int) 2=1 by decide];unfold pk;simp
     · rw [q,show max (2:Int) 2=2 by decide,show min (2:Int) 2=2 by decide];unfold pk;simp
theorem kd5 (x:Nat):kd x≤5:=by unfold kd;(repeat' split) <;> omega
theorem cnt_fold13:∀ (xs:List Nat) (s:Sp),W64 xs→xs.foldl (fun s x=>s.cnt (pK x 4607182418800017408) 1) s=⟨s.n+Ps.cn 5 xs,s.u+Ps.cn 3 xs,s.d+Ps.cn 4 xs,s.m+Ps.cn 1 xs,s.p+Ps.cn 2 xs,s.a+xs.length⟩
 | [],s,_=>by simp [Ps.cn]
 | x::xs,s,h=>by
   rw [List.foldl_cons,cnt_fold13 xs _ (fun z hz=>h z (List.mem_cons_of_mem _ hz)),(pK_one13 (h x List.mem_cons_self)).1]
   have hk:=kd5 x;unfold Sp.cnt kO13 Ps.cn;simp only [List.countP_cons,List.length_cons];obtain q|q|q|q|q|q:kd x=0∨kd x=1∨kd x=2∨kd x=3∨kd x=4∨kd x=5:=by omega
   all_goals (rw [q];simp;(repeat' constructor) <;> omega)
theorem sS_cn {xs:List Nat}(h:W64 xs):sS xs=⟨(Ps.cn 5 xs:Nat),(Ps.cn 3 xs:Nat),(Ps.cn 4 xs:Nat),(Ps.cn 1 xs:Nat),(Ps.cn 2 xs:Nat),(xs.length:Nat)⟩:=by
 unfold sS;rw [cnt_fold13 xs _ h];simp
def sfE (pa pb:Int) (xs:List Nat):Int:=if may pa pb=false then 1 else if 65536<xs.length then 2 else Ps.rf (sS xs).n (sS xs).u (sS xs).d pa pb
def agg0:Value:=.agg #[.int .i64 0,.int .i64 0,.int .i64 0,.int .i64 0,.int .i64 0,.int .i64 0]
theorem ps_rd {B:Nat}{w:World}{a:Option Addr}{xs:List Nat}(h:Fs B w a xs):Ps.Rd B w a xs:=h
theorem lt_fs {lo:Nat}{w:World}{v:Value}{xs:List Nat}(h:Ps.Lt lo w v xs):∃ a c,v=.slice a xs.length c∧Fs w.heap.size w a xs∧∀ b o p,a=some ⟨b,o,p⟩→lo≤b:=by
 have h2:=h.2;unfold Ps.Lt at h
 rcases h2 with ⟨rfl,h0⟩|⟨g,cap,cur,rfl,hlo,hg,rest⟩
 · refine ⟨none,0,by rw [h0],fun hne=>absurd (List.eq_nil_of_length_eq_zero h0) hne,fun b o p h=>by cases h⟩
 · refine ⟨_,cap,rfl,fun _=>⟨g,0,(Array.getElem?_eq_some_iff.1 hg).1,rfl,fun i hi=>?_⟩,fun b o p h=>by cases h;exact hlo⟩
   have h1:=h.cells (g:=g) (by simp [Value.ownBlock]) i (.float .f64 (xs.getD i 0)) (by simp [Ps.U,hi])
   have e:(⟨g,0,none⟩:Addr).add i=⟨g,0+i,none⟩:=by unfold Addr.add;split <;> simp_all
   rw [e] at h1;exact h1
theorem Sift13 (xs:List Nat) (a:Option Addr) (n c:Nat) (pa pb:Int) (w:World) (hn:n=xs.length) (hm:n≤35184372088832) (hF:Fs w.heap.size w a xs) (hW:W64 xs) :
 Calls Tryz.prog 104 #[.slice a n c,.agg #[.int .i64 pa,.int .i64 pb]] w fun r w' =>
  ((sfE pa pb xs≠0∧∃ a' c',r=.returned (.tuple #[.slice a' 0 c',agg0,.int .i64 (sfE pa pb xs)])) ∨
   (sfE pa pb xs=0∧∃ a' c',r=.returned (.tuple #[.slice a' (Ps.fin xs).length c',(sS xs).agg,.int .i64 0])∧Fs w'.heap.size w' a' (Ps.fin xs)∧∀ b o p,a'=some ⟨b,o,p⟩→w.heap.size≤b))∧Below w.heap.size w w':=by
 have e1:Ps.siftE pa pb xs=sfE pa pb xs:=by unfold Ps.siftE sfE;rw [sS_cn hW]
 refine (Ps.Sift_any xs a n c w.heap.size pa pb w hn hm hW (ps_rd hF) (Nat.le_refl _)).mono ?_;rintro r w' ⟨v,rfl,hL,hb⟩;refine ⟨?_,hb⟩;unfold Ps.siftS;unfold Ps.siftL at hL;rw [e1] at hL ⊢
 by_cases h0:sfE pa pb xs=0
 · rw [if_pos h0] at hL ⊢
   obtain ⟨a',c',rfl,hF',hlo⟩:=lt_fs hL;exact .inr ⟨h0,a',c',by rw [h0,sS_cn hW];rfl,hF',hlo⟩
 · rw [if_neg h0] at hL ⊢
   obtain ⟨a',c',rfl,_⟩:=lt_fs hL;exact .inl ⟨h0,a',c',rfl⟩
theorem Fs.but' {B:Nat}{w w':World}{ao:Option Addr}{xs:List Nat}{g:Nat}(h:Fs B w ao xs) (hb:But g w w') (hg:∀ b o p,ao=some ⟨b,o,p⟩→b≠g):Fs B w' ao xs:=by
 intro hne;obtain ⟨b,off,h1,h2,h3⟩:=h hne;have hbg:b≠g:=hg _ _ _ h2;refine ⟨b,off,h1,h2,fun i hi=>?_⟩
 have hc:=h3 i hi
 have hlt:b<w.heap.size:=by
  rcases Nat.lt_or_ge b w.heap.size with q|q
  · exact q
  · unfold World.cell? at hc
    simp [Array.getElem?_eq_none q] at hc
 rw [World.cell?_of_block (a:=⟨b,off+i,none⟩) (hb.block b hlt hbg)];exact hc
end
section
open Go.RowKit J
attribute [local go_sem] st_float
theorem bsd_zero (e:Int):bsd e 0=0:=by unfold bsd;split <;> rfl
end
section
open Go.RowKit J
attribute [local go_sem] st_float
def plE (xs:List Nat):Int:=if 65536<xs.length then 2 else if 0<(sS xs).n∨0<(sS xs).u+(sS xs).d then 30 else 0
theorem sf22 (xs:List Nat):(sfE 2 2 xs=0∧plE xs=0)∨(sfE 2 2 xs=2∧plE xs=2)∨((sfE 2 2 xs=60∨sfE 2 2 xs=61)∧plE xs=30):=by
 have hm:may 2 2=true:=by decide
 unfold sfE plE Ps.rf;rw [hm,if_neg (by decide)]
 by_cases hl:65536<xs.length
 · rw [if_pos hl,if_pos hl];exact .inr (.inl ⟨rfl,rfl⟩)
 · rw [if_neg hl,if_neg hl]
   by_cases h1:0<(sS xs).n
   · rw [if_pos ⟨h1,rfl⟩,if_pos (.inl h1)];exact .inr (.inr ⟨.inl rfl,rfl⟩)
   · rw [if_neg (fun h=>h1 h.1)]
     by_cases h2:0<(sS xs).u+(sS xs).d
     · rw [if_pos ⟨h2,rfl⟩,if_pos (.inr h2)];exact .inr (.inr ⟨.inr rfl,rfl⟩)
     · rw [if_neg (fun h=>h2 h.1),if_neg (by omega)];exact .inl ⟨rfl,rfl⟩
theorem close6 {fn:Func}{p q:Tmp}(hfn:fn.results=#[.cell p 119,.tmp q]) {tmps:Array Value}{w:World}{g:Nat}{t1 t2 t3 t4 t5 t6 e:Int}{R:Ending→World→Prop}
 (h1:tmps.getD p undef=.pointer (some ⟨g,0,none⟩)) (h2:tmps.getD q undef=.int .i64 e) (hB:Bl w g 119 [.int .i64 t1,.int .i64 t2,.int .i64 t3,.int .i64 t4,.int .i64 t5,.int .i64 t6])
 (hR:R (.returned (.tuple #[.agg #[.int .i64 t1,.int .i64 t2,.int .i64 t3,.int .i64 t4,.int .i64 t5,.int .i64 t6],.int .i64 e])) w) :
 bodyPost Tryz.prog fn R .ret ⟨tmps,[]⟩ w:=by
 have c0:=hB.cell 0 _ rfl;have c1:=hB.cell 1 _ rfl;have c2:=hB.cell 2 _ rfl;have c3:=hB.cell 3 _ rfl;have c4:=hB.cell 4 _ rfl;have c5:=hB.cell 5 _ rfl;rw [Array.getD_eq_getD_getElem?] at h1 h2;exact bodyPost_ret (v:=.tuple #[.agg #[.int .i64 t1,.int .i64 t2,.int .i64 t3,.int .i64 t4,.int .i64 t5,.int .i64 t6],.int .i64 e]) (by simp [results,hfn,go_sem,Ps.csetm,h1,h2,c0,c1,c2,c3,c4,c5]) rfl hR
theorem plain13 (xs:List Nat) (a:Option Addr) (n c:Nat) (w:World) (hn:n=xs.length) (hF:Fs w.heap.size w a xs) (hW:W64 xs) (hl:n≤35184372088832) :
 Calls Tryz.prog 101 #[.slice a n c] w fun r w'=>((plE xs≠0∧r=.returned (.tuple #[agg0,.int .i64 (plE xs)]))∨(plE xs=0∧r=.returned (.tuple #[(sS xs).agg,.int .i64 0])))∧Below w.heap.size w w':=by
 obtain ⟨W,hWW⟩:∃ W,W=w.alloc (Obj.cells #[.int .i64 0,.int .i64 0,.int .i64 0,.int .i64 0,.int .i64 0,.int .i64 0] 119):=⟨_,rfl⟩
 have B0:Aside (Bl W w.heap.size 119 [.int .i64 0,.int .i64 0,.int .i64 0,.int .i64 0,.int .i64 0,.int .i64 0]∧Below w.heap.size w W):=by
  rw [hWW];exact ⟨Bl.new _ 119 [_,_,_,_,_,_],bel_alloc _ _⟩
 have HS:=hid (Sift13 xs a n c 2 2 W hn hl ((hF.below B0.out.2).mono B0.out.2.size) hW);have hsf:=sf22 xs;obtain ⟨es,hes⟩:∃ e,sfE 2 2 xs=e:=⟨_,rfl⟩;obtain ⟨ep,hep⟩:∃ e,plE xs=e:=⟨_,rfl⟩;obtain ⟨⟨sn,su,sd,sm,sp,sa⟩,hs⟩:∃ s,sS xs=s:=⟨_,rfl⟩;obtain ⟨fl,hfl⟩:∃ f,Ps.fin xs=f:=⟨_,rfl⟩;rw [hs,hes,hfl] at HS;rw [hes,hep] at hsf;rw [hep,hs];simp only [Sp.agg] at HS ⊢;have HSF:=qsd hsf;have HWW:=qsd hWW;clear hn hF hW hl hWW hes hep hs hfl hsf;go_enter Tryz.func101,Tryz.ntmps101
 go_wp2_with fail
 rw [←HWW.out];clear HWW;refine HS.out.mono ?_;rintro r v ⟨hr,hb⟩;have B1:Aside (Bl v w.heap.size 119 [.int .i64 0,.int .i64 0,.int .i64 0,.int .i64 0,.int .i64 0,.int .i64 0]∧Below w.heap.size w v):=⟨B0.out.1.below hb B0.out.1.lt,B0.out.2.trans (hb.mono B0.out.2.size)⟩
 have BU:Aside (∀ (t1 t2 t3 t4 t5 t6:Int) (U:World),U=v.alloc (Obj.cells #[.int .i64 t1,.int .i64 t2,.int .i64 t3,.int .i64 t4,.int .i64 t5,.int .i64 t6] 119) →
  Bl U w.heap.size 119 [.int .i64 0,.int .i64 0,.int .i64 0,.int .i64 0,.int .i64 0,.int .i64 0]∧Bl U v.heap.size 119 [.int .i64 t1,.int .i64 t2,.int .i64 t3,.int .i64 t4,.int .i64 t5,.int .i64 t6]∧Below w.heap.size w U∧w.heap.size<v.heap.size):=by
  intro t1 t2 t3 t4 t5 t6 U hU;rw [hU];exact ⟨B1.out.1.alloc _,Bl.new _ 119 [_,_,_,_,_,_],B1.out.2.trans ((bel_alloc _ _).mono B1.out.2.size),B1.out.1.lt⟩
 clear hb B0 HS
 rcases hr with ⟨he,a',c',rfl⟩|⟨he,a',c',rfl,hF',hlo⟩
 · unfold agg0
   obtain ⟨U,hU⟩:∃ U,U=v.alloc (Obj.cells #[.int .i64 0,.int .i64 0,.int .i64 0,.int .i64 0,.int .i64 0,.int .i64 0] 119):=⟨_,rfl⟩;obtain ⟨u1,u2,u3,u4⟩:=BU.out _ _ _ _ _ _ _ hU;obtain ⟨gs,hgs⟩:∃ g,v.heap.size=g:=⟨_,rfl⟩;rw [hgs] at u2 u4;have B3:=(qsd (ai u1 (ai u2 (ai u3 u4))));have s0:=u2.cell 0 _ rfl;have s1:=u2.cell 1 _ rfl;have s2:=u2.cell 2 _ rfl;have s3:=u2.cell 3 _ rfl;have s4:=u2.cell 4 _ rfl;have s5:=u2.cell 5 _ rfl;have z0:=u1.cell 0 _ rfl;have z1:=u1.cell 1 _ rfl;have z2:=u1.cell 2 _ rfl;have z3:=u1.cell 3 _ rfl;have z4:=u1.cell 4 _ rfl;have z5:=u1.cell 5 _ rfl;have y0:=u1.frozen 0;have y1:=u1.frozen 1;have y2:=u1.frozen 2;have y3:=u1.frozen 3;have y4:=u1.frozen 4;have y5:=u1.frozen 5;have HGS:=qsd hgs;have HU:=qsd hU;clear u1 u2 u3 u4 hU BU hgs
   go_upto_region 2 with fail
   rw [←HU.out,HGS.out];clear HU HGS;obtain ⟨h1,h2⟩|⟨h1,h2⟩|⟨h1|h1,h2⟩:=HSF.out
   · exact absurd h1 he
   all_goals
    subst h1 h2;clear he HSF;go_wp2;refine close6 Tryz.results101 ?_ ?_ ((((((B3.out.1.set 0 _).set 1 _).set 2 _).set 3 _).set 4 _).set 5 _) ⟨by first | exact .inl ⟨by decide,rfl⟩ | rfl,?_⟩
    · rfl
    · rfl
    · exact But.below B3.out.2.2.1 (Ps.But.set6 (But.refl w.heap.size _) _ _ _ _ _ _) B3.out.2.2.1.size (Nat.le_refl _)
 · subst he
   obtain rfl:ep=0:=by rcases HSF.out with ⟨h1,h2⟩|⟨h1,h2⟩|⟨h1|h1,h2⟩ <;> omega
   obtain ⟨U,hU⟩:∃ U,U=v.alloc (Obj.cells #[.int .i64 sn,.int .i64 su,.int .i64 sd,.int .i64 sm,.int .i64 sp,.int .i64 sa] 119):=⟨_,rfl⟩;obtain ⟨u1,u2,u3,u4⟩:=BU.out _ _ _ _ _ _ _ hU;obtain ⟨gs,hgs⟩:∃ g,v.heap.size=g:=⟨_,rfl⟩;rw [hgs] at u2 u4;have B3:=(qsd (ai u1 (ai u2 (ai u3 u4))));have s0:=u2.cell 0 _ rfl;have s1:=u2.cell 1 _ rfl;have s2:=u2.cell 2 _ rfl;have s3:=u2.cell 3 _ rfl;have s4:=u2.cell 4 _ rfl;have s5:=u2.cell 5 _ rfl;have z0:=u1.cell 0 _ rfl;have z1:=u1.cell 1 _ rfl;have z2:=u1.cell 2 _ rfl;have z3:=u1.cell 3 _ rfl;have z4:=u1.cell 4 _ rfl;have z5:=u1.cell 5 _ rfl;have y0:=u1.frozen 0;have y1:=u1.frozen 1;have y2:=u1.frozen 2;have y3:=u1.frozen 3;have y4:=u1.frozen 4;have y5:=u1.frozen 5;have HGS:=qsd hgs;have HU:=qsd hU;clear u1 u2 u3 u4 hU BU hgs hF' hlo
   go_upto_region 2 with fail
   rw [←HU.out,HGS.out];clear HU HGS HSF;go_wp2;refine close6 Tryz.results101 ?_ ?_ ((((((B3.out.1.set 0 _).set 1 _).set 2 _).set 3 _).set 4 _).set 5 _) ⟨by first | exact .inr ⟨rfl,rfl⟩ | rfl,?_⟩
   · rfl
   · rfl
   · exact But.below B3.out.2.2.1 (Ps.But.set6 (But.refl w.heap.size _) _ _ _ _ _ _) B3.out.2.2.1.size (Nat.le_refl _)
end
section
open Go.RowKit J
attribute [local go_sem] st_float
abbrev ClD (f:FuncId):Prop:=∀ (gx ge x:Nat) (e:Int) (w:World),w.cell? ⟨gx,0,none⟩=some (.float .f64 x)→w.cell? ⟨ge,0,none⟩=some (.int .i64 e)→w.frozen? ⟨gx,0,none⟩=false→∀ (u:FrameMode),
 CallsD Tryz.prog f #[.pointer (some ⟨ge,0,none⟩),.pointer (some ⟨gx,0,none⟩)] u w fun r u' w'=>u'=u∧(r=.returned (.tuple #[])∧w'=w.setCell ⟨gx,0,none⟩ (.float .f64 (bsd e x)))
theorem early13 {fn:Func}{f:FuncId}{px pe:Tmp}(hres:fn.results=#[.cell px 26,.cell pe 27]) (HC:ClD f) {tmps:Array Value}{gx ge x X:Nat}{e E:Int}{w v:World}
 (b1:Bl v gx 26 [.float .f64 x]) (b2:Bl v ge 27 [.int .i64 e]) (hb:Below w.heap.size w v) (hgx:w.heap.size≤gx) (hne:ge≠gx) (hX:bsd e x=X) (hE:e=E)
 (hi:(callFunc f #[.pointer (some ⟨ge,0,none⟩),.pointer (some ⟨gx,0,none⟩)]).run Tryz.prog v=.ok (.enter f #[.pointer (some ⟨ge,0,none⟩),.pointer (some ⟨gx,0,none⟩)]) v)
 (h1:tmps.getD px undef=.pointer (some ⟨gx,0,none⟩)) (h2:tmps.getD pe undef=.pointer (some ⟨ge,0,none⟩)) :
 Leaves Tryz.prog fn tmps (fun r w'=>r=.returned (.tuple #[.float .f64 X,.int .i64 E])∧Below w.heap.size w w') [{ target:=.fn (.func f) #[.pointer (some ⟨ge,0,none⟩),.pointer (some ⟨gx,0,none⟩)],args:=#[] }] .returning v:=by
 subst hX hE;refine door13 hres hi (HC gx ge x e v (b1.cell 0 _ rfl) (b2.cell 0 _ rfl) (b1.frozen 0)) h1 h2 (b1.cell 0 _ rfl) (b2.cell 0 _ rfl) hne ?_;have kb:But gx v (v.setCell ⟨gx,0,none⟩ (.float .f64 (bsd e x))):=(But.refl gx _).set 0 _;exact ⟨rfl,But.below hb kb hb.size hgx⟩
theorem finish13 {fn:Func}{f:FuncId}{px pe:Tmp}(hres:fn.results=#[.cell px 26,.cell pe 27]) (HC:ClD f) {tmps:Array Value}{gx ge x0 x X:Nat}{e0 e E:Int}{w v:World}
 (b1:Bl v gx 26 [.float .f64 x0]) (b2:Bl v ge 27 [.int .i64 e0]) (hb:Below w.heap.size w v) (hgx:w.heap.size≤gx) (hge:w.heap.size≤ge) (hne:ge≠gx) (hX:bsd e x=X) (hE:e=E)
 (hi:∀ v:World,(callFunc f #[.pointer (some ⟨ge,0,none⟩),.pointer (some ⟨gx,0,none⟩)]).run Tryz.prog v=.ok (.enter f #[.pointer (some ⟨ge,0,none⟩),.pointer (some ⟨gx,0,none⟩)]) v)
 (h1:tmps.getD px undef=.pointer (some ⟨gx,0,none⟩)) (h2:tmps.getD pe undef=.pointer (some ⟨ge,0,none⟩)) :
 Leaves Tryz.prog fn tmps (fun r w'=>r=.returned (.tuple #[.float .f64 X,.int .i64 E])∧Below w.heap.size w w') [{ target:=.fn (.func f) #[.pointer (some ⟨ge,0,none⟩),.pointer (some ⟨gx,0,none⟩)],args:=#[] }] .returning ((v.setCell ⟨gx,0,none⟩ (.float .f64 x)).setCell ⟨ge,0,none⟩ (.int .i64 e)):=by
 have bt:But gx v (v.setCell ⟨gx,0,none⟩ (.float .f64 x)):=(But.refl _ _).set 0 _;have be:But ge (v.setCell ⟨gx,0,none⟩ (.float .f64 x)) ((v.setCell ⟨gx,0,none⟩ (.float .f64 x)).setCell ⟨ge,0,none⟩ (.int .i64 e)):=(But.refl _ _).set 0 _;have k0:=But.below hb bt hb.size hgx;exact early13 hres HC ((b1.set 0 (.float .f64 x)).but be (fun h=>hne h.symm)) ((b2.but bt hne).set 0 (.int .i64 e)) (But.below k0 be k0.size hge) hgx hne hX hE (hi _) h1 h2
theorem two13 (w:World):Bl ((w.alloc (Obj.cells #[.float .f64 0] 26)).alloc (Obj.cells #[.int .i64 0] 27)) w.heap.size 26 [.float .f64 0]∧Bl ((w.alloc (Obj.cells #[.float .f64 0] 26)).alloc (Obj.cells #[.int .i64 0] 27)) (w.heap.size+1) 27 [.int .i64 0]∧Below w.heap.size w ((w.alloc (Obj.cells #[.float .f64 0] 26)).alloc (Obj.cells #[.int .i64 0] 27)):=by
 have z2:=Bl.new (w.alloc (Obj.cells #[.float .f64 0] 26)) 27 [.int .i64 0];rw [World.size_alloc] at z2;exact ⟨(Bl.new w 26 [_]).below (bel_alloc _ _) (by simp),z2,(bel_alloc _ _).trans ((bel_alloc _ _).mono (by simp))⟩
theorem seterr13 {w v:World}{gx ge x:Nat}{e0:Int}(e:Int) (b1:Bl v gx 26 [.float .f64 x]) (b2:Bl v ge 27 [.int .i64 e0]) (hb:Below w.heap.size w v) (hge:w.heap.size≤ge) (hne:ge≠gx) :
 Bl (v.setCell ⟨ge,0,none⟩ (.int .i64 e)) gx 26 [.float .f64 x]∧Bl (v.setCell ⟨ge,0,none⟩ (.int .i64 e)) ge 27 [.int .i64 e]∧Below w.heap.size w (v.setCell ⟨ge,0,none⟩ (.int .i64 e)):=by
 have be:But ge v (v.setCell ⟨ge,0,none⟩ (.int .i64 e)):=(But.refl _ _).set 0 _;exact ⟨b1.but be (fun h=>hne h.symm),b2.set 0 _,But.below hb be hb.size hge⟩
theorem stored13 {w v:World}{gx ge x:Nat}{e0:Int}{ao:Option Addr}{xs:List Nat}(b1:Bl v gx 26 [.float .f64 x]) (b2:Bl v ge 27 [.int .i64 e0]) (hb:Below w.heap.size w v) (hge:w.heap.size≤ge) (hne:ge≠gx) (hT:Tab w) (hF:Fs v.heap.size v ao xs) (hg:∀ b o p,ao=some ⟨b,o,p⟩→b≠ge) (e t1 t2 t3 t4 t5 t6:Int) (Z:World) (hZ:Z=(v.setCell ⟨ge,0,none⟩ (.int .i64 e)).alloc (Obj.cells #[.int .i64 t1,.int .i64 t2,.int .i64 t3,.int .i64 t4,.int .i64 t5,.int .i64 t6] 119)) :
 Bl Z gx 26 [.float .f64 x]∧Bl Z ge 27 [.int .i64 e]∧Bl Z v.heap.size 119 [.int .i64 t1,.int .i64 t2,.int .i64 t3,.int .i64 t4,.int .i64 t5,.int .i64 t6]∧Below w.heap.size w Z∧Tab Z∧Fs Z.heap.size Z ao xs:=by
 obtain ⟨k1,k2,k3⟩:=seterr13 (w:=w) e b1 b2 hb hge hne;have be:But ge v (v.setCell ⟨ge,0,none⟩ (.int .i64 e)):=(But.refl _ _).set 0 _;have hsz:(v.setCell ⟨ge,0,none⟩ (.int .i64 e)).heap.size=v.heap.size:=by simp
 have z1:=Bl.new (v.setCell ⟨ge,0,none⟩ (.int .i64 e)) 119 [.int .i64 t1,.int .i64 t2,.int .i64 t3,.int .i64 t4,.int .i64 t5,.int .i64 t6];rw [hsz] at z1;rw [hZ];have hbb:=k3.trans ((bel_alloc (v.setCell ⟨ge,0,none⟩ (.int .i64 e)) (Obj.cells #[.int .i64 t1,.int .i64 t2,.int .i64 t3,.int .i64 t4,.int .i64 t5,.int .i64 t6] 119)).mono k3.size);exact ⟨k1.alloc _,k2.alloc _,z1,hbb,hT.belows hbb,((hF.but' be hg).below ((bel_alloc _ _).mono (by simp))).mono (by simp)⟩
noncomputable def plnR (xs:List Nat) (mode:Int):Nat×Int:=if plE xs=0 then (bsd (levR xs (sS xs) mode).2 (levR xs (sS xs) mode).1,(levR xs (sS xs) mode).2) else (0,plE xs)
noncomputable def midR (x y:Nat) (mode:Int):Nat×Int:=if askE mode=0 then plnR [x,y] mode else (0,askE mode)
theorem fs_two (w:World) (x y:Nat):Fs (w.alloc (Obj.cells #[.float .f64 x,.float .f64 y] 26)).heap.size (w.alloc (Obj.cells #[.float .f64 x,.float .f64 y] 26)) (some ⟨w.heap.size,0,none⟩) [x,y]:=by
 intro _;refine ⟨w.heap.size,0,by simp,rfl,fun i hi=>?_⟩
 have hB:=Bl.new w 26 [.float .f64 x,.float .f64 y]
 match i,hi with
 | 0,_=>exact hB.cell 0 _ rfl
 | 1,_=>exact hB.cell 1 _ rfl
theorem Middle13 (x y:Nat) (hx:x<18446744073709551616) (hy:y<18446744073709551616) (mode:Int) (w:World) (hT:Tab w) (z:Nat×Int) (hz:midR x y mode=z) :
 Calls Tryz.prog 62 #[.float .f64 x,.float .f64 y,.int .i64 mode] w fun r w'=>r=.returned (.tuple #[.float .f64 z.1,.int .i64 z.2])∧Below w.heap.size w w':=by
 obtain ⟨X,E⟩:=z;simp only;have hmf:∀ (fn:Fn) (first cap:Array Value) (w:World),(Instr.makeFunc fn first cap).run Tryz.prog w=.ok (.func fn first cap) w:=fun _ _ _ _=>rfl
 have HA:=hid (fun u:World=>asked13 mode u)
 unfold midR at hz;obtain ⟨ea,hea⟩:∃ e,askE mode=e:=⟨_,rfl⟩;rw [hea] at HA hz;obtain ⟨W,hWW⟩:∃ W,W=(w.alloc (Obj.cells #[.float .f64 0] 26)).alloc (Obj.cells #[.int .i64 0] 27):=⟨_,rfl⟩;obtain ⟨gx,hgx⟩:∃ g,g=w.heap.size:=⟨_,rfl⟩;obtain ⟨ge,hge⟩:∃ g,g=w.heap.size+1:=⟨_,rfl⟩;have HG:Aside (gx=w.heap.size∧ge=w.heap.size+1∧w.heap.size≤gx∧w.heap.size≤ge∧ge≠gx):=⟨hgx,hge,by omega,by omega,by omega⟩
 have B0:=two13 w;rw [←hWW,←hge] at B0;have B1:=qsd (seterr13 ea (show Bl W gx 26 [.float .f64 0] by rw [hgx];exact B0.1) B0.2.1 B0.2.2 HG.out.2.2.2.1 HG.out.2.2.2.2)
 have c1:=B0.2.1.cell 0 _ rfl;have f1:=B0.2.1.frozen 0;have HWW:=qsd hWW;have HX:=qsd (ai hx (ai hy hT));clear hx hy hT hWW hea hgx hge B0;go_enter_defers Tryz.func62,Tryz.ntmps62
 go_wp2_with fail
 rw [←HWW.out]
 try rw [show w.heap.size+1=ge by have:=HG.out;omega]
 try rw [show w.heap.size=gx by have:=HG.out;omega]
 clear HWW;refine (HA.out _).mono ?_;rintro r v ⟨rfl,hv⟩;rw [hv];clear hv v
 by_cases h0:ea=0
 · subst h0
   rw [if_pos rfl] at hz;obtain ⟨V,hV⟩:∃ V,V=W.setCell ⟨ge,0,none⟩ (.int .i64 0):=⟨_,rfl⟩;rw [←hV] at B1;have r1:=B1.out.2.1.cell 0 _ rfl;obtain ⟨U,hU⟩:∃ U,U=V.alloc (Obj.cells #[.float .f64 x,.float .f64 y] 26):=⟨_,rfl⟩;obtain ⟨ga,hga⟩:∃ g,V.heap.size=g:=⟨_,rfl⟩
   have B2:Aside (Bl U gx 26 [.float .f64 0]∧Bl U ge 27 [.int .i64 0]∧Below w.heap.size w U∧Fs U.heap.size U (some ⟨ga,0,none⟩) [x,y]∧Tab U∧W64 [x,y]):=by
    have hbU:Below w.heap.size w U:=by rw [hU];exact B1.out.2.2.trans ((bel_alloc _ _).mono B1.out.2.2.size)
    refine ⟨by rw [hU];exact B1.out.1.alloc _,by rw [hU];exact B1.out.2.1.alloc _,hbU,by rw [hU,←hga];exact fs_two V x y,HX.out.2.2.belows hbU,?_⟩
    intro q hq;simp at hq
    rcases hq with rfl|rfl
    · exact HX.out.1
    · exact HX.out.2.1
   have HP:=hid (plain13 [x,y] (some ⟨ga,0,none⟩) 2 2 U rfl B2.out.2.2.2.1 B2.out.2.2.2.2.2 (by decide))
   have HW2:=qsd B2.out.2.2.2.2.2;have HGN:Aside (ga≠ge):=by have:=B1.out.2.1.lt;rw [Aside,←hga];omega
   obtain ⟨ep,hep⟩:∃ e,plE [x,y]=e:=⟨_,rfl⟩;obtain ⟨⟨sn,su,sd,sm,sp,sa⟩,hs⟩:∃ s,sS [x,y]=s:=⟨_,rfl⟩;unfold plnR at hz;rw [hep,hs] at HP hz;simp only [Sp.agg] at HP;have HV:=qsd hV;have HU:=qsd hU;have HGA:=qsd hga;clear hV hU hga hep hs HA
   go_upto_region 3 with fail
   rw [←HV.out];clear HV
   go_upto_region 5 with fail
   rw [←HU.out,HGA.out];clear HU HGA
   go_wp2_with fail
   refine HP.out.mono ?_;rintro r v ⟨hr,hb⟩;have B3:Aside (Bl v gx 26 [.float .f64 0]∧Bl v ge 27 [.int .i64 0]∧Below w.heap.size w v∧Fs v.heap.size v (some ⟨ga,0,none⟩) [x,y]∧ga≠ge):=⟨B2.out.1.below hb B2.out.1.lt,B2.out.2.1.below hb B2.out.2.1.lt,B2.out.2.2.1.trans (hb.mono B2.out.2.2.1.size),(B2.out.2.2.2.1.below hb).mono hb.size,HGN.out⟩;have q1:=B3.out.2.1.cell 0 _ rfl;have q2:=B3.out.2.1.frozen 0;have hlt:=B3.out.2.1.lt;have BU:=qsd (stored13 B3.out.1 B3.out.2.1 B3.out.2.2.1 HG.out.2.2.2.1 HG.out.2.2.2.2 HX.out.2.2 B3.out.2.2.2.1 (fun b o p h=>by cases h;exact B3.out.2.2.2.2))
   clear hb HP B2
   rcases hr with ⟨he,rfl⟩|⟨he,rfl⟩
   · unfold agg0
     rw [if_neg he] at hz;have HXE:=qsd (Prod.mk.inj hz);have h1:(ep==0)=false:=by simp [he]
     obtain ⟨Z,hZ⟩:∃ U,U=(v.setCell ⟨ge,0,none⟩ (.int .i64 ep)).alloc (Obj.cells #[.int .i64 0,.int .i64 0,.int .i64 0,.int .i64 0,.int .i64 0,.int .i64 0] 119):=⟨_,rfl⟩;have B4:=qsd (BU.out _ _ _ _ _ _ _ _ hZ);have r1:=B4.out.2.1.cell 0 _ rfl;have HZ:=qsd hZ;clear hZ BU hz
     go_upto_region 6 with fail
     rw [←HZ.out];clear HZ;go_wp2;refine early13 Tryz.results62 Middle1_d B4.out.1 B4.out.2.1 B4.out.2.2.2.1 HG.out.2.2.1 HG.out.2.2.2.2 ((bsd_zero _).trans HXE.out.1) HXE.out.2 (by simp [go_sem]) ?_ ?_ <;> rfl
   · subst he
     rw [if_pos rfl] at hz;obtain ⟨Z,hZ⟩:∃ U,U=(v.setCell ⟨ge,0,none⟩ (.int .i64 0)).alloc (Obj.cells #[.int .i64 sn,.int .i64 su,.int .i64 sd,.int .i64 sm,.int .i64 sp,.int .i64 sa] 119):=⟨_,rfl⟩;have B4:=qsd (BU.out _ _ _ _ _ _ _ _ hZ);obtain ⟨gs,hgs⟩:∃ g,v.heap.size=g:=⟨_,rfl⟩;rw [hgs] at B4;have r1:=B4.out.2.1.cell 0 _ rfl;have s0:=B4.out.2.2.1.cell 0 _ rfl;have s1:=B4.out.2.2.1.cell 1 _ rfl;have s2:=B4.out.2.2.1.cell 2 _ rfl;have s3:=B4.out.2.2.1.cell 3 _ rfl;have s4:=B4.out.2.2.1.cell 4 _ rfl;have s5:=B4.out.2.2.1.cell 5 _ rfl;obtain ⟨⟨xl,el⟩,hl⟩:∃ z,levR [x,y] ⟨sn,su,sd,sm,sp,sa⟩ mode=z:=⟨_,rfl⟩;rw [hl] at hz;have hz1:(bsd el xl,el)=(X,E):=hz;obtain ⟨hX,hE⟩:=Prod.mk.inj hz1;have HL:=hid (level13 [x,y] (some ⟨ga,0,none⟩) 2 2 sn su sd sm sp sa mode Z rfl B4.out.2.2.2.2.2 HW2.out B4.out.2.2.2.2.1 (by decide) (xl,el) hl)
     simp only at HL;have HXE:=qsd (ai hX hE);have HZ:=qsd hZ;have HGS:=qsd hgs;clear hZ BU hz hz1 hX hE hl hgs
     go_upto_region 6 with fail
     rw [←HZ.out,HGS.out];clear HZ HGS q1 q2 hlt
     go_wp2_with fail
     refine HL.out.mono ?_;rintro r v4 ⟨rfl,hb⟩
     have B6:Aside (Bl v4 gx 26 [.float .f64 0]∧Bl v4 ge 27 [.int .i64 0]∧Below w.heap.size w v4) :=
      ⟨B4.out.1.below hb B4.out.1.lt,B4.out.2.1.below hb B4.out.2.1.lt,B4.out.2.2.2.1.trans (hb.mono B4.out.2.2.2.1.size)⟩
     have t1:=B6.out.1.cell 0 _ rfl;have t2:=B6.out.1.frozen 0;have t3:=B6.out.2.1.cell 0 _ rfl;have t4:=B6.out.2.1.frozen 0;have hne1:ge≠gx:=HG.out.2.2.2.2;have hne2:gx≠ge:=fun h=>HG.out.2.2.2.2 h.symm
     clear hb B4 HL s0 s1 s2 s3 s4 s5;go_wp2;refine finish13 Tryz.results62 Middle1_d B6.out.1 B6.out.2.1 B6.out.2.2 HG.out.2.2.1 HG.out.2.2.2.1 HG.out.2.2.2.2 HXE.out.1 HXE.out.2 (fun _=>by simp [go_sem]) ?_ ?_ <;> rfl
 · rw [if_neg h0] at hz
   have HXE:=qsd (Prod.mk.inj hz);have h1:(ea==0)=false:=by simp [h0]
   clear hz HA;go_wp2;refine early13 Tryz.results62 Middle1_d B1.out.1 B1.out.2.1 B1.out.2.2 HG.out.2.2.1 HG.out.2.2.2.2 ((bsd_zero _).trans HXE.out.1) HXE.out.2 (by simp [go_sem]) ?_ ?_ <;> rfl
end
section
open Go.RowKit J
theorem ratio_lt {x S V S' V':Nat}(hS:0<S) (hS':0<S') (e:V*S'=V'*S):(x*S<V↔x*S'<V')∧(x*S=V↔x*S'=V')∧(V<x*S↔V'<x*S'):=by
 have a1:x*S*S'=x*S'*S:=by rw [Nat.mul_assoc,Nat.mul_comm S,←Nat.mul_assoc]
 have t1:x*S<V↔x*S*S'<V*S':=(Nat.mul_lt_mul_right hS').symm;have t2:x*S'<V'↔x*S'*S<V'*S:=(Nat.mul_lt_mul_right hS).symm;have t3:V<x*S↔V*S'<x*S*S':=(Nat.mul_lt_mul_right hS').symm;have t4:V'<x*S'↔V'*S<x*S'*S:=(Nat.mul_lt_mul_right hS).symm;rw [t1,t2,t3,t4,a1,e];refine ⟨Iff.rfl,?_,Iff.rfl⟩;rw [a1,e] at t1;rw [a1,e] at t3;omega
theorem Lies.ratio {K:Nat}{t:Bool}{m:Int}{V S V' S':Nat}(h:Lies K t m V S) (hS':0<S') (e:V*S'=V'*S):Lies K t m V' S':=by
 obtain ⟨h1,h2,h3,h4,h5,h6⟩:=h;have e2:(2*V)*S'=(2*V')*S:=by rw [Nat.mul_assoc,e,Nat.mul_assoc]
 refine ⟨h1,hS',fun a=>((ratio_lt h2 hS' e).2.1.1 (h3 a).symm).symm,fun a=>(ratio_lt h2 hS' e).1.1 (h4 a),fun a b=>?_,fun a=>?_⟩
 · have:=h5 a ((ratio_lt h2 hS' e).2.2.2 b)
   rw [←Nat.add_mul] at this ⊢;obtain ⟨r1,r2,r3⟩:=ratio_lt (x:=vK K+vK (K+1)) h2 hS' e2
   rcases this with ⟨q,r⟩|⟨q,r⟩|⟨q,r⟩
   · exact .inl ⟨q,r3.1 r⟩
   · exact .inr (.inl ⟨q,(r2.1 r.symm).symm⟩)
   · exact .inr (.inr ⟨q,r1.1 r⟩)
 · rcases h6 a with q | q
   · exact .inl ((ratio_lt h2 hS' e).2.2.1 q)
   · exact .inr q
noncomputable def qvR (V W mode:Int):Nat×Int:=quoR rndS ⟨dN (exV V),.bool false,dX (exV V),dE (exV V),dN (exV W),.bool false,dX (exV W),dE (exV W)⟩ mode
theorem quot_lies {V W:Int}(hV:V≠0) (hW:0<W) (k:Nat) (hk:k≤90000) (hb:V.natAbs<2^k) (hb2:W.natAbs<2^k) :
 ∃ K t m,(∀ j,j=1074→Lies K t m (V.natAbs*2^j) W.natAbs)∧∀ mode:Int,0≤mode→mode≤4→qvR V W mode=(rK mode (decide (V<0)) K t m+(if V<0 then 9223372036854775808 else 0),0):=by
 obtain ⟨X,e,ho,hX,he0,he1,hv,hbl,F⟩:=ex_parts13 hV k hk hb;obtain ⟨Y,f,ho2,hY,hf0,hf1,hv2,hbl2,F2⟩:=ex_parts13 (V:=W) (by omega) k hk hb2
 rw [decide_eq_false (by omega)] at ho2 F2
 obtain ⟨K,t,m,hL,hR⟩:=quo64 (decide (V<0)) X e Y f hX (by omega) hbl hbl2
 refine ⟨K,t,m,fun j hj=>?_,fun mode hm0 hm4=>?_⟩
 · refine hL.lies.ratio (by omega) ?_
   unfold rV11 rS11;rw [←hv,←hv2]
   have e1:X*2^(e-f+((1*1074:Nat):Int)).toNat*(Y*2^(f+2148).toNat)=X*Y*(2^((e-f+((1*1074:Nat):Int)).toNat+(f+2148).toNat)):=by
    rw [Nat.pow_add,Nat.mul_mul_mul_comm]
   have e2:X*2^(e+2148).toNat*2^j*(Y*2^(-(e-f+((1*1074:Nat):Int))).toNat)=X*Y*(2^((e+2148).toNat+j+(-(e-f+((1*1074:Nat):Int))).toNat)):=by
    rw [Nat.pow_add,Nat.pow_add,Nat.mul_assoc X,Nat.mul_mul_mul_comm]
   rw [e1,e2]
   congr 2
   omega
 · have hm1:mkS (decide (V<0)) X e=some (decide (V<0),X,e):=mkS_idem F
   have hm2:mkS false Y f=some (false,Y,f):=mkS_idem F2;unfold qvR;rw [ho,ho2]
   show quoR rndS ⟨decide (V<0),.bool false,X,e,false,.bool false,Y,f⟩ mode=_
   unfold quoR;rw [if_neg (by omega),if_pos (by rw [errL_one];show errN X (decide (V<0)) e Y false f=0;unfold errN;rw [if_neg (by unfold sgn;simp;split <;> omega),hm1,hm2];simp [dX];omega),hm1,hm2]
   show rndS (quoZ (decide (V<0)) X e Y f) mode=_
   rw [hR mode hm0 hm4];simp
theorem lenW_bd (N:Nat) (h:N≤65536) (k:Nat) (hk:k=2148):∃ j:Nat,j=4238∧((N:Int)*((2^k:Nat):Int)).natAbs<2^j:=by
 obtain ⟨j,hj⟩:∃ j:Nat,j=4238:=⟨_,rfl⟩;refine ⟨j,hj,?_⟩;rw [←Int.natCast_mul,Int.natAbs_natCast];have h1:N*2^k<2^17*2^k:=Nat.mul_lt_mul_of_pos_right (by omega) (Nat.two_pow_pos k)
 rw [←Nat.pow_add] at h1;exact Nat.lt_of_lt_of_le h1 (Nat.pow_le_pow_right (by decide) (by omega))
theorem qn_qv (V:Int) (N:Nat) (mode:Int) (k:Nat) (hk:k=2148):qnR V N mode=qvR V ((N:Int)*((2^k:Nat):Int)) mode:=by
 unfold qnR qvR;rw [int_ex N k hk]
end
end Go.Proofs.YtblkpkgebigojaaGreatDoor
