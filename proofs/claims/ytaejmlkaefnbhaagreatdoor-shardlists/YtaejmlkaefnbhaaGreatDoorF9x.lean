import Derived.Test.YtaejmlkaefnbhaaGreatDoorSD6x
import Derived.Test.YtaejmlkaefnbhaaGreatDoorF3x
import Derived.Test.YtaejmlkaefnbhaaGreatDoorS11ax
import Derived.Test.YtaejmlkaefnbhaaGreatDoorD21x
import Derived.Test.YtaejmlkaefnbhaaGreatDoorD30x
import Derived.Test.YtaejmlkaefnbhaaGreatDoorPR1x
import Derived.Test.YtaejmlkaefnbhaaGreatDoorBW6x
import Derived.Deep.RegionHeld3
import Derived.Deep.CutRange
set_option linter.unusedVariables false
set_option linter.unusedSimpArgs false
set_option maxHeartbeats 16000000
set_option maxRecDepth 20000
namespace Go.Proofs.YtaejmlkaefnbhaaGreatDoor
namespace J
end J
section
open Go.RowKit J
attribute [local go_sem] gZ
noncomputable def vU (xs:List Nat) (mode pa pb:Int):Nat×Int :=
 if tq mode=0 then
  if G6 pa pb xs=0 then
   if (vd (snd (sS xs).n (sS xs).u (sS xs).d (sS xs).m (sS xs).p (sS xs).a&&may pa pb) (sS xs).n (sS xs).u (sS xs).d pa pb).2=true then((vd (snd (sS xs).n (sS xs).u (sS xs).d (sS xs).m (sS xs).p (sS xs).a&&may pa pb) (sS xs).n (sS xs).u (sS xs).d pa pb).1,0)
   else(BJ (Hf (Ps.fin xs) (sS xs) mode).2 (Hf (Ps.fin xs) (sS xs) mode).1,(Hf (Ps.fin xs) (sS xs) mode).2)
  else(0,G6 pa pb xs)
 else(0,tq mode)
theorem pz(e:Int):BJ e 0=0:=by unfold BJ;split <;> rfl
theorem Mean13(xs:List Nat)(a:Option Addr)(n c:Nat)(mode pa pb:Int)(w:World)(hn:n=xs.length)(hF:Fs w.heap.size w a xs)(hW:eD xs)(hT:bO w)(hl:n<=35184372088832)(z:Nat×Int)(hz:vU xs mode pa pb=z) :
 Calls Tryz.prog 18 #[.slice a n c,.int .i64 mode,.agg #[.int .i64 pa,.int .i64 pb]] w fun r w'=>r=.returned (.tuple #[.float .f64 z.1,.int .i64 z.2])/\Below w.heap.size w w':=by
 obtain⟨X,E⟩:=z;simp only;have hmf:∀ (fn:Fn) (first cap:Array Value) (w:World),(Instr.makeFunc fn first cap).run Tryz.prog w=.ok (.func fn first cap) w:=fun _ _ _ _=>rfl;have HA:=hid (fun u:World=>MU mode u);unfold vU at hz;obtain⟨ea,hea⟩:∃ e,tq mode=e:=⟨_,rfl⟩;rw[hea] at HA hz;obtain⟨W,nS⟩:=ah (((w.alloc (Obj.cells #[.int .i64 pa,.int .i64 pb] 34)).alloc (Obj.cells #[.float .f64 0] 31)).alloc (Obj.cells #[.int .i64 0] 48));obtain⟨gp,hgp⟩:=ah (w.heap.size);obtain⟨gx,hgx⟩:=ah (w.heap.size+1);obtain⟨ge,hge⟩:=ah (w.heap.size+2)
 have B0:Aside (Bl W gp 34 [.int .i64 pa,.int .i64 pb]/\Bl W gx 31 [.float .f64 0]/\Bl W ge 48 [.int .i64 0]/\Below w.heap.size w W/\W.heap.size=w.heap.size+3):=by
  rw[nS,hgp,hgx,hge];have z1:=Bl.new (w.alloc (Obj.cells #[.int .i64 pa,.int .i64 pb] 34)) 31 [.float .f64 0];have z2:=Bl.new ((w.alloc (Obj.cells #[.int .i64 pa,.int .i64 pb] 34)).alloc (Obj.cells #[.float .f64 0] 31)) 48 [.int .i64 0];rw[dL] at z1;rw[dL,dL] at z2;exact⟨((Bl.new w 34 [_,_]).below (ak _ _) aL).below (ak _ _) (by simp;omega),z1.below (ak _ _) aL,z2,((ak _ _).trans ((ak _ _).mono aL)).trans ((ak _ _).mono (by simp;omega)),aL⟩
 have HG:Aside (gp=w.heap.size/\gx=w.heap.size+1/\ge=w.heap.size+2):=⟨hgp,hgx,hge⟩;have pg:=au nS;have HX:=iq hn hF hW hT hl;clear hn hF hW hT hl nS hea hgp hgx hge;go_enter_defers Tryz.func18,Tryz.ntmps18;go_wp2_with fail;rw[<-pg.o]
 try rw[show w.heap.size+1+1=ge by have:=HG.o.r2;omega]
 try rw[show w.heap.size+2=ge by have:=HG.o.r2;omega]
 try rw[show w.heap.size+1=gx by have:=HG.o.2.1;omega]
 try rw[show w.heap.size=gp by have:=HG.o.1;omega]
 clear pg;refine(HA.o _).mono ?_;rintro r v ⟨rfl,hv⟩;rw[hv];clear hv v;have c1:=B0.o.r2.1.cell 0 _ rfl;have f1:=B0.o.r2.1.frozen 0;have hne:=au (show ge≠gx by have:=HG.o.2;omega)
 have B1:Aside (Bl (W.setCell ⟨ge,0,none⟩ (.int .i64 ea)) gp 34 [.int .i64 pa,.int .i64 pb]/\Bl (W.setCell ⟨ge,0,none⟩ (.int .i64 ea)) gx 31 [.float .f64 0]/\Bl (W.setCell ⟨ge,0,none⟩ (.int .i64 ea)) ge 48 [.int .i64 ea]/\Below w.heap.size w (W.setCell ⟨ge,0,none⟩ (.int .i64 ea))):=by
  have hb:But ge W (W.setCell ⟨ge,0,none⟩ (.int .i64 ea)):=(But.refl _ _).set 0 _;exact⟨B0.o.1.but hb (by have:=HG.o;omega),B0.o.2.1.but hb (by have:=HG.o;omega),B0.o.r2.1.set 0 _,But.below B0.o.r3.1 hb B0.o.r3.1.size (by have:=HG.o;omega)⟩
 by_cases h0:ea=0
 · subst h0;rw[if_pos rfl] at hz;obtain⟨V,hV⟩:=ah (W.setCell ⟨ge,0,none⟩ (.int .i64 0));rw[<-hV] at B1;have HV:=au hV;have hTV:bO V:=HX.o.r3.1.belows B1.o.r3;have HS:=hid (TW xs a n c pa pb V HX.o.1 HX.o.r4 ((HX.o.2.1.below B1.o.r3).mono B1.o.r3.size) HX.o.r2.1);obtain⟨es,hes⟩:∃ e,G6 pa pb xs=e:=⟨_,rfl⟩;rw[hes] at HS hz;have Vg:=au hes;obtain⟨⟨sn,su,sd,sm,sp,sa⟩,hs⟩:∃ s,sS xs=s:=⟨_,rfl⟩;rw[hs] at HS hz;simp only[Sp.agg] at HS hz;obtain⟨fl,hfl⟩:∃ f,Ps.fin xs=f:=⟨_,rfl⟩;rw[hfl] at HS hz;have HFL:=au hfl;clear hs hfl;have HTV:=au hTV;have p0:=B1.o.1.cell 0 _ rfl;have p1:=B1.o.1.cell 1 _ rfl;have q1:=B1.o.r2.1.cell 0 _ rfl;have q2:=B1.o.r2.1.frozen 0;rw[hV] at p0 p1 q1 q2;clear hV HA hTV hes;go_wp2_with fail;rw[<-HV.o] at p0 p1 q1 q2 |-;refine HS.o.mono ?_;rintro r v ⟨hr,hb⟩
   have B2:Aside (Bl v gp 34 [.int .i64 pa,.int .i64 pb]/\Bl v gx 31 [.float .f64 0]/\Bl v ge 48 [.int .i64 0]/\Below w.heap.size w v/\bO v) :=
    ⟨B1.o.1.below hb B1.o.1.lt,B1.o.2.1.below hb B1.o.2.1.lt,B1.o.r2.1.below hb B1.o.r2.1.lt,B1.o.r3.trans (hb.mono B1.o.r3.size),HTV.o.belows hb⟩
   have q1:=B2.o.r2.1.cell 0 _ rfl;have q2:=B2.o.r2.1.frozen 0;have BVs:Aside (ge<V.heap.size/\gx<V.heap.size):=⟨B1.o.r2.1.lt,B1.o.2.1.lt⟩;clear hb B1 HV HS p0 p1 HTV c1 f1 B0
   have BU:Aside (∀ (e:Int) (t1 t2 t3 t4 t5 t6:Int) (U:World),U=(v.setCell ⟨ge,0,none⟩ (.int .i64 e)).alloc (Obj.cells #[.int .i64 t1,.int .i64 t2,.int .i64 t3,.int .i64 t4,.int .i64 t5,.int .i64 t6] 73) ->
    Bl U gp 34 [.int .i64 pa,.int .i64 pb]/\Bl U gx 31 [.float .f64 0]/\Bl U ge 48 [.int .i64 e]/\Bl U v.heap.size 73 [.int .i64 t1,.int .i64 t2,.int .i64 t3,.int .i64 t4,.int .i64 t5,.int .i64 t6]/\Below w.heap.size w U/\bO U/\(∀ ao (ys:List Nat),Fs v.heap.size v ao ys->(∀ b o p,ao=some ⟨b,o,p⟩->b≠ge)->Fs U.heap.size U ao ys)):=by
    intro e t1 t2 t3 t4 t5 t6 U hU;have hb:But ge v (v.setCell ⟨ge,0,none⟩ (.int .i64 e)):=(But.refl _ _).set 0 _;have hbb:=But.below B2.o.r3.1 hb B2.o.r3.1.size (by have:=HG.o;omega);have hsz:(v.setCell ⟨ge,0,none⟩ (.int .i64 e)).heap.size=v.heap.size:=by simp
    have z1:=Bl.new (v.setCell ⟨ge,0,none⟩ (.int .i64 e)) 73 [.int .i64 t1,.int .i64 t2,.int .i64 t3,.int .i64 t4,.int .i64 t5,.int .i64 t6];rw[hsz] at z1;rw[hU];refine⟨(B2.o.1.but hb (by have:=HG.o;omega)).alloc _,(B2.o.2.1.but hb (by have:=HG.o;omega)).alloc _,(B2.o.r2.1.set 0 _).alloc _,z1,hbb.trans ((ak _ _).mono hbb.size),HX.o.r3.1.belows (hbb.trans ((ak _ _).mono hbb.size)),?_⟩;intro ao ys hF hg;exact((hF.but' hb hg).below ((ak _ _).mono aL)).mono aL
   rcases hr with ⟨he,a',c',rfl⟩|⟨he,a',c',rfl,hF',hlo⟩
   · have hlt:=B2.o.r2.1.lt;have h1:(es==0)=false:=by simp[he]
     rw[if_neg he] at hz;obtain⟨rfl,rfl⟩:=fB hz;unfold agg0;obtain⟨U,hU⟩:=ah ((v.setCell ⟨ge,0,none⟩ (.int .i64 es)).alloc (Obj.cells #[.int .i64 0,.int .i64 0,.int .i64 0,.int .i64 0,.int .i64 0,.int .i64 0] 73));obtain⟨u1,u2,u3,u4,u5,u6,_⟩:=BU.o _ _ _ _ _ _ _ _ hU;have B3:=(bM u2 u3 u5);have r1:=u3.cell 0 _ rfl;have HU:=au hU;clear u1 u2 u3 u4 u5 u6 hU BU hz
     go_upto_region 5 with fail
     rw[<-HU.o];go_wp2;refine za Tryz.results18 ?_ (wR gx ge 0 es _ (B3.o.1.cell 0 _ rfl) (B3.o.2.1.cell 0 _ rfl) (B3.o.1.frozen 0)) rfl rfl (B3.o.1.cell 0 _ rfl) (B3.o.2.1.cell 0 _ rfl) hne.o ?_
     · simp[go_sem]
     · rw[pz];exact⟨rfl,But.below B3.o.r2 ((But.refl gx _).set 0 _) B3.o.r2.size (by have:=HG.o;omega)⟩
   · have hlt:=B2.o.r2.1.lt;subst he;rw[if_pos rfl] at hz;obtain⟨U,hU⟩:=ah ((v.setCell ⟨ge,0,none⟩ (.int .i64 0)).alloc (Obj.cells #[.int .i64 sn,.int .i64 su,.int .i64 sd,.int .i64 sm,.int .i64 sp,.int .i64 sa] 73));obtain⟨u1,u2,u3,u4,u5,u6,u7⟩:=BU.o _ _ _ _ _ _ _ _ hU;obtain⟨gs,hgs⟩:∃ g,v.heap.size=g:=⟨_,rfl⟩;have hlo2:∀ b o p,a'=some ⟨b,o,p⟩->b≠ge/\b≠gx:=fun b o p h=>by have:=hlo b o p h;have:=BVs.o;omega
     have B3:=(EG u1 u2 u3 u4 u5 u6 (u7 _ _ hF' (fun b o p h=>(hlo2 b o p h).1)) hlo2);rw[hgs] at B3 u4;have s0:=u4.cell 0 _ rfl;have s1:=u4.cell 1 _ rfl;have s2:=u4.cell 2 _ rfl;have s3:=u4.cell 3 _ rfl;have s4:=u4.cell 4 _ rfl;have s5:=u4.cell 5 _ rfl;have p0:=u1.cell 0 _ rfl;have p1:=u1.cell 1 _ rfl;have r1:=u3.cell 0 _ rfl;have HGS:=au hgs;have HU:=au hU;clear u1 u2 u3 u4 u5 u6 u7 hU BU hF' hgs hlo hlo2
     go_upto_region 5 with fail
     rw[<-HU.o,HGS.o];clear HU HGS;have HVd:=hid (fun u:World=>lT sn su sd sm sp sa pa pb u);obtain⟨⟨xv,tv⟩,hvd⟩:∃ z,vd (snd sn su sd sm sp sa&&may pa pb) sn su sd pa pb=z:=⟨_,rfl⟩;rw[hvd] at HVd hz;simp only at HVd hz;clear hvd q1 q2;go_wp2_with fail;refine(HVd.o _).mono ?_;rintro r v2 ⟨rfl,hb⟩;obtain⟨V3,G7⟩:=ah (v2.setCell ⟨gx,0,none⟩ (.float .f64 xv));have B4:Aside (Bl v2 gx 31 [.float .f64 0]):=B3.o.2.1.below hb B3.o.2.1.lt
     have B5:Aside (Bl V3 gx 31 [.float .f64 xv]/\Bl V3 ge 48 [.int .i64 0]/\Bl V3 gs 73 [.int .i64 sn,.int .i64 su,.int .i64 sd,.int .i64 sm,.int .i64 sp,.int .i64 sa]/\Below w.heap.size w V3/\bO V3/\(tv=false->Fs V3.heap.size V3 a' fl)):=by
      have hbt:But gx v2 V3:=by rw[G7];exact(But.refl _ _).set 0 _
      have hbw:=B3.o.r4.1.trans (hb.mono B3.o.r4.1.size);have hb3:=But.below hbw hbt hbw.size (by have:=HG.o;omega)
      have hgsl:gx≠gs:=by
       rintro rfl;have:=B3.o.2.1.symm.trans B3.o.r3.1;simp at this
      refine⟨by rw[G7];exact B4.o.set 0 _,(B3.o.r2.1.below hb B3.o.r2.1.lt).but hbt (by have:=HG.o;omega),(B3.o.r3.1.below hb B3.o.r3.1.lt).but hbt (fun h=>hgsl h.symm),hb3,HX.o.r3.1.belows hb3,fun _=>?_⟩;have hF3:=(((B3.o.r6.1.below hb).mono hb.size).but' hbt (fun b o p h=>(B3.o.r7 b o p h).2)).mono hbt.size;exact hF3
     have t1:=B4.o.cell 0 _ rfl;have t2:=B4.o.frozen 0;have HV3:=au G7;clear hb B3 B4 HVd G7 s0 s1 s2 s3 s4 s5 p0 p1 r1
     cases tv with
     | true =>
       simp only[if_true] at hz;obtain⟨hX,hE⟩:=fB hz;subst hX hE;go_wp2;rw[<-HV3.o];refine za Tryz.results18 ?_ (wR gx ge xv 0 _ (B5.o.1.cell 0 _ rfl) (B5.o.2.1.cell 0 _ rfl) (B5.o.1.frozen 0)) rfl rfl (B5.o.1.cell 0 _ rfl) (B5.o.2.1.cell 0 _ rfl) hne.o ?_
       · simp[go_sem]
       · exact⟨rfl,But.below B5.o.r3.1 ((But.refl gx _).set 0 _) B5.o.r3.1.size (by have:=HG.o;omega)⟩
     | false =>
       simp only[dY,if_false] at hz;obtain⟨⟨xl,el⟩,hl⟩:∃ z,Hf fl ⟨sn,su,sd,sm,sp,sa⟩ mode=z:=⟨_,rfl⟩;rw[hl] at hz;simp only at hz;obtain⟨hX,hE⟩:=fB hz;have HL:=hid (XD fl a' fl.length c' sn su sd sm sp sa mode V3 rfl (B5.o.r5 rfl) (by rw[<-HFL.o];exact wP HX.o.r2.1) B5.o.r4.1 (by rw[<-HFL.o];exact aV (xk _ _) (Xo Vg.o).1) (xl,el) hl);simp only at HL;have s0:=B5.o.r2.1.cell 0 _ rfl;have s1:=B5.o.r2.1.cell 1 _ rfl;have s2:=B5.o.r2.1.cell 2 _ rfl;have s3:=B5.o.r2.1.cell 3 _ rfl;have s4:=B5.o.r2.1.cell 4 _ rfl;have s5:=B5.o.r2.1.cell 5 _ rfl;have Kj:=aT hX hE;clear hz hX hE hl
       go_upto_region 7 with fail
       rw[<-HV3.o];clear t1 t2;go_wp2_with fail;refine HL.o.mono ?_;rintro r v4 ⟨rfl,hb⟩
       have B6:Aside (Bl v4 gx 31 [.float .f64 xv]/\Bl v4 ge 48 [.int .i64 0]/\Below w.heap.size w v4) :=
        ⟨B5.o.1.below hb B5.o.1.lt,B5.o.2.1.below hb B5.o.2.1.lt,B5.o.r3.1.trans (hb.mono B5.o.r3.1.size)⟩
       have t1:=B6.o.1.cell 0 _ rfl;have t2:=B6.o.1.frozen 0;have t3:=B6.o.2.1.cell 0 _ rfl;have t4:=B6.o.2.1.frozen 0;have hne1:ge≠gx:=hne.o;have hne2:gx≠ge:=fun h=>hne.o h.symm;clear hb B5 HL s0 s1 s2 s3 s4 s5 HV3;go_wp2;have bt:But gx v4 (v4.setCell ⟨gx,0,none⟩ (.float .f64 xl)):=(But.refl _ _).set 0 _;have k1:=(B6.o.1.set 0 (.float .f64 xl)).but ((But.refl ge (v4.setCell ⟨gx,0,none⟩ (.float .f64 xl))).set 0 (.int .i64 el)) hne2;have k2:=(B6.o.2.1.but bt hne1).set 0 (.int .i64 el);have k0:Below w.heap.size w (v4.setCell ⟨gx,0,none⟩ (.float .f64 xl)):=But.below B6.o.r2 bt B6.o.r2.size (by have:=HG.o;omega);have k3:Below w.heap.size w ((v4.setCell ⟨gx,0,none⟩ (.float .f64 xl)).setCell ⟨ge,0,none⟩ (.int .i64 el)):=But.below k0 ((But.refl ge (v4.setCell ⟨gx,0,none⟩ (.float .f64 xl))).set 0 (.int .i64 el)) k0.size (by have:=HG.o;omega);refine za Tryz.results18 ?_ (wR gx ge xl el _ (k1.cell 0 _ rfl) (k2.cell 0 _ rfl) (k1.frozen 0)) rfl rfl (k1.cell 0 _ rfl) (k2.cell 0 _ rfl) hne.o ?_
       · simp[go_sem]
       · rw[Kj.o.1,Kj.o.2];have kb:But gx ((v4.setCell ⟨gx,0,none⟩ (.float .f64 xl)).setCell ⟨ge,0,none⟩ (.int .i64 el)) (((v4.setCell ⟨gx,0,none⟩ (.float .f64 xl)).setCell ⟨ge,0,none⟩ (.int .i64 el)).setCell ⟨gx,0,none⟩ (.float .f64 X)):=(But.refl gx _).set 0 _;have hgl:w.heap.size<=gx:=by have:=HG.o;omega
         first | exact⟨rfl,But.below k3 kb k3.size hgl⟩ | (rw[Kj.o.2] at k3 kb;exact⟨rfl,But.below k3 kb k3.size hgl⟩)
 · rw[if_neg h0] at hz;obtain⟨rfl,rfl⟩:=fB hz;have h1:(ea==0)=false:=by simp[h0]
   clear hz HA;go_wp2;refine za Tryz.results18 ?_ (wR gx ge 0 ea _ (B1.o.2.1.cell 0 _ rfl) (B1.o.r2.1.cell 0 _ rfl) (B1.o.2.1.frozen 0)) rfl rfl (B1.o.2.1.cell 0 _ rfl) (B1.o.r2.1.cell 0 _ rfl) hne.o ?_
   · simp[go_sem]
   · rw[pz];exact⟨rfl,But.below B1.o.r3 ((But.refl gx _).set 0 _) B1.o.r3.size (by have:=HG.o;omega)⟩
end
section
open Go.RowKit J
attribute [local go_sem] gZ
abbrev ClD(f:FuncId):Prop:=∀ (gx ge x:Nat) (e:Int) (w:World),w.cell? ⟨gx,0,none⟩=some (.float .f64 x)->w.cell? ⟨ge,0,none⟩=some (.int .i64 e)->w.frozen? ⟨gx,0,none⟩=false->∀ (u:FrameMode),
 CallsD Tryz.prog f #[.pointer (some ⟨ge,0,none⟩),.pointer (some ⟨gx,0,none⟩)] u w fun r u' w'=>u'=u/\(r=.returned (.tuple #[])/\w'=w.setCell ⟨gx,0,none⟩ (.float .f64 (BJ e x)))
theorem wS {fn:Func}{f:FuncId}{px pe:Tmp}(hres:fn.results=#[.cell px 31,.cell pe 48]) (HC:ClD f) {tmps:Array Value}{gx ge x X:Nat}{e E:Int}{w v:World}
 (b1:Bl v gx 31 [.float .f64 x]) (b2:Bl v ge 48 [.int .i64 e]) (hb:Below w.heap.size w v) (hgx:w.heap.size<=gx) (hne:ge≠gx) (hX:BJ e x=X) (hE:e=E)
 (hi:(callFunc f #[.pointer (some ⟨ge,0,none⟩),.pointer (some ⟨gx,0,none⟩)]).run Tryz.prog v=.ok (.enter f #[.pointer (some ⟨ge,0,none⟩),.pointer (some ⟨gx,0,none⟩)]) v)
 (h1:tmps.getD px undef=.pointer (some ⟨gx,0,none⟩)) (h2:tmps.getD pe undef=.pointer (some ⟨ge,0,none⟩)) :
 Leaves Tryz.prog fn tmps (fun r w'=>r=.returned (.tuple #[.float .f64 X,.int .i64 E])/\Below w.heap.size w w') [{ target:=.fn (.func f) #[.pointer (some ⟨ge,0,none⟩),.pointer (some ⟨gx,0,none⟩)],args:=#[] }] .returning v:=by
 subst hX hE;refine za hres hi (HC gx ge x e v (b1.cell 0 _ rfl) (b2.cell 0 _ rfl) (b1.frozen 0)) h1 h2 (b1.cell 0 _ rfl) (b2.cell 0 _ rfl) hne ?_;have kb:But gx v (v.setCell ⟨gx,0,none⟩ (.float .f64 (BJ e x))):=(But.refl gx _).set 0 _;exact⟨rfl,But.below hb kb hb.size hgx⟩
theorem Ul {fn:Func}{f:FuncId}{px pe:Tmp}(hres:fn.results=#[.cell px 31,.cell pe 48]) (HC:ClD f) {tmps:Array Value}{gx ge x0 x X:Nat}{e0 e E:Int}{w v:World}
 (b1:Bl v gx 31 [.float .f64 x0]) (b2:Bl v ge 48 [.int .i64 e0]) (hb:Below w.heap.size w v) (hgx:w.heap.size<=gx) (hge:w.heap.size<=ge) (hne:ge≠gx) (hX:BJ e x=X) (hE:e=E)
 (hi:∀ v:World,(callFunc f #[.pointer (some ⟨ge,0,none⟩),.pointer (some ⟨gx,0,none⟩)]).run Tryz.prog v=.ok (.enter f #[.pointer (some ⟨ge,0,none⟩),.pointer (some ⟨gx,0,none⟩)]) v)
 (h1:tmps.getD px undef=.pointer (some ⟨gx,0,none⟩)) (h2:tmps.getD pe undef=.pointer (some ⟨ge,0,none⟩)) :
 Leaves Tryz.prog fn tmps (fun r w'=>r=.returned (.tuple #[.float .f64 X,.int .i64 E])/\Below w.heap.size w w') [{ target:=.fn (.func f) #[.pointer (some ⟨ge,0,none⟩),.pointer (some ⟨gx,0,none⟩)],args:=#[] }] .returning ((v.setCell ⟨gx,0,none⟩ (.float .f64 x)).setCell ⟨ge,0,none⟩ (.int .i64 e)):=by
 have bt:But gx v (v.setCell ⟨gx,0,none⟩ (.float .f64 x)):=(But.refl _ _).set 0 _;have be:But ge (v.setCell ⟨gx,0,none⟩ (.float .f64 x)) ((v.setCell ⟨gx,0,none⟩ (.float .f64 x)).setCell ⟨ge,0,none⟩ (.int .i64 e)):=(But.refl _ _).set 0 _;have k0:=But.below hb bt hb.size hgx;exact wS hres HC ((b1.set 0 (.float .f64 x)).but be (fun h=>hne h.symm)) ((b2.but bt hne).set 0 (.int .i64 e)) (But.below k0 be k0.size hge) hgx hne hX hE (hi _) h1 h2
theorem two13(w:World):Bl ((w.alloc (Obj.cells #[.float .f64 0] 31)).alloc (Obj.cells #[.int .i64 0] 48)) w.heap.size 31 [.float .f64 0]/\Bl ((w.alloc (Obj.cells #[.float .f64 0] 31)).alloc (Obj.cells #[.int .i64 0] 48)) (w.heap.size+1) 48 [.int .i64 0]/\Below w.heap.size w ((w.alloc (Obj.cells #[.float .f64 0] 31)).alloc (Obj.cells #[.int .i64 0] 48)):=by
 have z2:=Bl.new (w.alloc (Obj.cells #[.float .f64 0] 31)) 48 [.int .i64 0];rw[dL] at z2;exact⟨(Bl.new w 31 [_]).below (ak _ _) aL,z2,(ak _ _).trans ((ak _ _).mono aL)⟩
theorem ze{w v:World}{gx ge x:Nat}{e0:Int}(e:Int)(b1:Bl v gx 31 [.float .f64 x])(b2:Bl v ge 48 [.int .i64 e0])(hb:Below w.heap.size w v)(hge:w.heap.size<=ge)(hne:ge≠gx) :
 Bl (v.setCell ⟨ge,0,none⟩ (.int .i64 e)) gx 31 [.float .f64 x]/\Bl (v.setCell ⟨ge,0,none⟩ (.int .i64 e)) ge 48 [.int .i64 e]/\Below w.heap.size w (v.setCell ⟨ge,0,none⟩ (.int .i64 e)):=by
 have be:But ge v (v.setCell ⟨ge,0,none⟩ (.int .i64 e)):=(But.refl _ _).set 0 _;exact⟨b1.but be (fun h=>hne h.symm),b2.set 0 _,But.below hb be hb.size hge⟩
end
section
open Go.RowKit J
attribute [local go_sem] gZ
theorem calm13{P:Program}{c:Code}{K:Act->World->Prop}{Q:Exit->Act->World->Prop}{a:Act}{w:World}(h:c.wp P (Exit.then K (fun _ _ _=>False)) a w):c.wp P (Exit.then K Q) a w :=
 wp_mono h (fun e a w h=>by cases e <;> first | exact h | exact False.elim h)
noncomputable def qoR (ng:Bool) (X:Nat) (e:Int) (N:Nat) (mode:Int):Nat×Int:=Gy nC ⟨ng,.bool false,X,e,dN (mkS false N 0),.bool false,dX (mkS false N 0),dE (mkS false N 0)⟩ mode
noncomputable def zf (ng:Bool) (X:Nat) (e n mode:Int):Nat×Int :=
 if tq mode=0 then(if n<1\/1099511627776<n then(0,1) else(BJ (qoR ng X e n.toNat mode).2 (qoR ng X e n.toNat mode).1,(qoR ng X e n.toNat mode).2)) else(0,tq mode)
theorem xf{P:Prop}(h:P:=by
 obtain⟨k1,k2,k3⟩:=ze 1 B1.o.1 B1.o.2.1 B1.o.r2 HG.o.r3.1 HG.o.r4.1;have K:=(bM k1 k2 k3);clear hz k1 k2 k3;go_wp2;refine wS Tryz.results56 MV K.o.1 K.o.2.1 K.o.r2 HG.o.r2.1 HG.o.r4.1 ((pz _).trans Kj.o.1) Kj.o.2 (by simp[go_sem]) ?_ ?_ <;> rfl):P:=h
theorem Of13(ng:Bool)(a:Option Addr)(la ca Xn:Nat)(ex n mode:Int)(w:World)(hT:bO w)(hV:Av w (.slice a la ca) Xn)(he:-9223372036854775808<=ex/\ex<=9223372036854775807)(z:Nat×Int)(hz:zf ng Xn ex n mode=z) :
 Calls Tryz.prog 56 #[.agg #[.bool ng,.slice a la ca,.int .i64 ex],.int .i64 n,.int .i64 mode] w fun r w'=>r=.returned (.tuple #[.float .f64 z.1,.int .i64 z.2])/\Below w.heap.size w w':=by
 obtain⟨X,E⟩:=z;simp only;have hmf:∀ (fn:Fn) (first cap:Array Value) (w:World),(Instr.makeFunc fn first cap).run Tryz.prog w=.ok (.func fn first cap) w:=fun _ _ _ _=>rfl;have HA:=hid (fun u:World=>MU mode u);unfold zf at hz;obtain⟨ea,hea⟩:∃ e,tq mode=e:=⟨_,rfl⟩;rw[hea] at HA hz;obtain⟨W0,hW0⟩:=ah (w.alloc (Obj.cells #[.bool ng,.slice a la ca,.int .i64 ex] 77));obtain⟨W,nS⟩:=ah ((W0.alloc (Obj.cells #[.float .f64 0] 31)).alloc (Obj.cells #[.int .i64 0] 48));obtain⟨gd,hgd⟩:=ah (w.heap.size);obtain⟨gx,hgx⟩:=ah (w.heap.size+1);obtain⟨ge,hge⟩:=ah (w.heap.size+2);have hs0:W0.heap.size=w.heap.size+1:=by rw[hW0];simp
 have HG:Aside (gx=w.heap.size+1/\ge=w.heap.size+2/\w.heap.size<=gx/\w.heap.size<=ge/\ge≠gx/\gd=w.heap.size):=⟨hgx,hge,af,af,af,hgd⟩;have hb0:Below w.heap.size w W0:=by rw[hW0];exact ak _ _
 obtain⟨B01,B02,B03⟩:=two13 W0;rw[<-nS,hs0] at B01 B02 B03;rw[<-hgx] at B01;rw[show w.heap.size+1+1=ge by omega] at B02;have hbW:Below w.heap.size w W:=hb0.trans (B03.mono af)
 have BD0:Bl W gd 77 [.bool ng,.slice a la ca,.int .i64 ex]:=by
  have:Bl W0 gd 77 [.bool ng,.slice a la ca,.int .i64 ex]:=by rw[hW0,hgd];exact Bl.new _ 77 [_,_,_]
  exact this.below B03 af
 have B1:=au (ze ea B01 B02 hbW HG.o.r3.1 HG.o.r4.1);have BD1:Aside (Bl (W.setCell ⟨ge,0,none⟩ (.int .i64 ea)) gd 77 [.bool ng,.slice a la ca,.int .i64 ex]):=BD0.but ((But.refl ge W).set 0 _) (by have:=HG.o;omega);have c1:=B02.cell 0 _ rfl;have f1:=B02.frozen 0;have pg:=au (nS.trans (by rw[hW0]));have HX:=bM hT hV he;clear hT hV he hW0 nS hea hgx hge hgd B01 B02 B03 BD0 hs0 hb0 hbW;go_enter_defers Tryz.func56,Tryz.ntmps56;go_wp2_with fail;rw[<-pg.o]
 try rw[show w.heap.size+1+1=ge by have:=HG.o;omega]
 try rw[show w.heap.size+2=ge by have:=HG.o;omega]
 try rw[show w.heap.size+1=gx by have:=HG.o;omega]
 try rw[show w.heap.size=gd by have:=HG.o;omega]
 clear pg;refine(HA.o _).mono ?_;rintro r v ⟨rfl,hv⟩;rw[hv];clear hv v
 by_cases h0:ea=0
 · subst h0;rw[if_pos rfl] at hz;obtain⟨V,hV⟩:=ah (W.setCell ⟨ge,0,none⟩ (.int .i64 0));rw[<-hV] at B1 BD1;have r1:=B1.o.2.1.cell 0 _ rfl;have r2:=B1.o.2.1.frozen 0;have HV:=au hV;clear hV HA
   go_upto_region 3 with fail
   rw[<-HV.o];clear HV c1 f1
   by_cases hn1:n<1
   · rw[if_pos (.inl hn1)] at hz;have Kj:=au (fB hz);have d1:decide (n<1)=true:=decide_eq_true hn1;exact xf
   · have d1:decide (n<1)=false:=decide_eq_false hn1
     by_cases hn2:1099511627776<n
     · rw[if_pos (.inr hn2)] at hz;have Kj:=au (fB hz);exact xf
     · have d2:decide (1099511627776<n)=false:=decide_eq_false hn2;rw[if_neg af] at hz;obtain⟨N,hN⟩:∃ N:Nat,n=(N:Int):=⟨n.toNat,af⟩;subst hN;rw[kV] at hz;have hnN:N<2^41:=af
       have F1:=au (Uk N hnN)
       have HI:Hid (∀ u:World,bO u->Calls Tryz.prog 113 #[.int .i64 (N:Nat)] u fun r w'=>(∃ v,r=.returned (.agg #[.bool (dN (mkS false N 0)),v,.int .i64 (dE (mkS false N 0))])/\Nt u.heap.size w' v (dX (mkS false N 0)))/\Below u.heap.size u w'):=fun u hT=>by
        have:=si (N:Nat) u hT af af;rw[decide_eq_false af,xc] at this;exact this
       obtain⟨⟨xl,el⟩,hl⟩:∃ z,qoR ng Xn ex N mode=z:=⟨_,rfl⟩;rw[hl] at hz;have hz1:(BJ el xl,el)=(X,E):=hz;have Kj:=au (fB hz1)
       have HR:Hid (∀ (u:World) (q:Option Addr) (cq:Nat),bO u->Av u (.slice a la ca) Xn->Nt 0 u (.slice q (ws (dX (mkS false N 0))).length cq) (dX (mkS false N 0))->Calls Tryz.prog 70 #[.agg #[.bool ng,.slice a la ca,.int .i64 ex,.bool (dN (mkS false N 0)),.slice q (ws (dX (mkS false N 0))).length cq,.int .i64 (dE (mkS false N 0))],.int .i64 mode] u fun r w'=>r=.returned (.tuple #[.float .f64 xl,.int .i64 el])/\Below u.heap.size u w'):=fun u q cq hT n1 n2=>by
        have:=DJ (w:=u) (n:=ng) (m:=dN (mkS false N 0)) (X:=Xn) (Y:=dX (mkS false N 0)) (e:=ex) (f:=dE (mkS false N 0)) mode ⟨n1,n2.av (aV F1.o.len aA),HX.o.r2,F1.o.o7⟩ hT;rw[show Gy nC ⟨ng,.slice a la ca,Xn,ex,dN (mkS false N 0),.slice q (ws (dX (mkS false N 0))).length cq,dX (mkS false N 0),dE (mkS false N 0)⟩ mode=(xl,el) from hl] at this;exact this
       obtain⟨ow,how⟩:∃ o,mkS false N 0=o:=⟨_,rfl⟩;rw[how] at HR HI F1;clear hz hz1 hl how hnN
       go_upto_region 6 with fail
       have hdr:=(aG V.heap.size V).drew;have BB:=mh (B1.o.1.drew) (B1.o.2.1.drew) (B1.o.r2.trans (hdr.mono B1.o.r2.size)) (BD1.o.drew);clear hdr B1 BD1 r1 r2;have p0:=BB.o.r3.cell 0 _ rfl;have p1:=BB.o.r3.cell 1 _ rfl;have p2:=BB.o.r3.cell 2 _ rfl;have hne1:ge≠gx:=HG.o.r4.1;have hne2:gx≠ge:=fun h=>HG.o.r4.1 h.symm;refine calm13 ?_
       go_region_with (first
        | (go_at_call 70
           with_reducible refine(HR.o _ a2 c2 (HX.o.1.belows BB.o.r2.1) (HX.o.2.1.below BB.o.r2.1) Q2.o).mono ?_
           rintro r v ⟨rfl,hb⟩;have BB:=bM (BB.o.1.below hb BB.o.1.lt) (BB.o.2.1.below hb BB.o.2.1.lt) (BB.o.r2.1.trans (hb.mono BB.o.r2.1.size));have t1:=BB.o.1.cell 0 _ rfl;have t2:=BB.o.1.frozen 0;have t3:=BB.o.2.1.cell 0 _ rfl;have t4:=BB.o.2.1.frozen 0
           clear hb p0 p1 p2)
        | (go_at_call 113
           with_reducible refine(HI.o _ (HX.o.1.belows BB.o.r2.1)).mono ?_
           rintro r v ⟨⟨p,rfl,hN⟩,hb⟩;obtain⟨a2,c2,rfl,hN0⟩:=Lo.shape F1.o hN;have BB:=mh (BB.o.1.below hb BB.o.1.lt) (BB.o.2.1.below hb BB.o.2.1.lt) (BB.o.r2.1.trans (hb.mono BB.o.r2.1.size)) (BB.o.r3.below hb BB.o.r3.lt);have Q2:=au hN0;have p0:=BB.o.r3.cell 0 _ rfl;have p1:=BB.o.r3.cell 1 _ rfl;have p2:=BB.o.r3.cell 2 _ rfl
           clear hb hN hN0))
       all_goals
        clear HR HI Q2;go_wp2;refine Ul Tryz.results56 MV BB.o.1 BB.o.2.1 BB.o.r2 HG.o.r2.1 HG.o.r3.1 HG.o.r4.1 Kj.o.1 Kj.o.2 (fun _=>by simp[go_sem]) ?_ ?_ <;> rfl
 · rw[if_neg h0] at hz;have Kj:=au (fB hz);have h1:(ea==0)=false:=by simp[h0]
   clear hz HA;go_wp2;refine wS Tryz.results56 MV B1.o.1 B1.o.2.1 B1.o.r2 HG.o.r2.1 HG.o.r4.1 ((pz _).trans Kj.o.1) Kj.o.2 (by simp[go_sem]) ?_ ?_ <;> rfl
end
section
open Go Go.RowKit J
abbrev iZ(s:Sp):Int:=s.a-s.n-s.u-s.d
abbrev Um(s:Sp)(mode:Int):Nat:=nt (snd s.n s.u s.d s.m s.p s.a) s.n s.u s.d s.m s.p s.a mode
noncomputable def En (s:Sp) (o:Option (Bool×Nat×Int)) (mode a b:Int):Nat×Int :=
 if gN s mode a b=0 then(if (rA s a b).2=true then((rA s a b).1,0) else if dX o=0 then(Um s mode,0) else nC o mode) else(0,gN s mode a b)
noncomputable def wT (s:Sp) (o:Option (Bool×Nat×Int)) (mode a b:Int):Nat×Int :=
 if gN s mode a b=0 then(if (rA s a b).2=true then((rA s a b).1,0) else if iZ s=0 then(0,3) else if dX o=0 then(Um s mode,0) else zf (dN o) (dX o) (dE o) (iZ s) mode) else(0,gN s mode a b)
theorem zg(n:Bool)(X:Nat):(iP n X==0)=decide (X=0):=by
 unfold iP
 by_cases h:X=0
 · simp[h]
 · cases n <;> simp[h]
theorem Sum21{w:World}{g:Nat}{s:Sp}{o q:Option (Bool×Nat×Int)}{lo hi:Nat}(H:fe w g s o q lo hi)(hs:s.sm)(F:Fm o)(hT:bO w)(mode a b:Int)(z:Nat×Int)(hz:En s o mode a b=z) :
 Calls Tryz.prog 14 #[.pointer (some ⟨g,0,none⟩),.int .i64 mode,.agg #[.int .i64 a,.int .i64 b]] w fun r w'=>r=.returned (.tuple #[.float .f64 z.1,.int .i64 z.2])/\Below w.heap.size w w':=by
 obtain⟨X,E⟩:=z;simp only;have HA:=hid (fun(u:World) (hu:Below w.heap.size w u)=>Em (H.aD hu) hs mode a b);have jG:=hid (fun u:World=>mQ s hs u);obtain⟨a1,c1,a2,c2,k,n1,n2⟩:=H;have HC:Aside (∀ u:World,Below w.heap.size w u->Bl u g 79 (uE s o q a1 c1 a2 c2 lo hi)/\Nt 0 u (.slice a1 (ws (dX o)).length c1) (dX o)/\bO u):=au fun u hu=>⟨k.below hu k.lt,n1.below hu,hT.belows hu⟩
 have zh:Hid (∀ u:World,Below w.heap.size w u->Calls Tryz.prog 52 #[.agg #[.bool (dN o),.slice a1 (ws (dX o)).length c1,.int .i64 (dE o)]] u fun r w'=>r=.returned (.int .i64 (iP (dN o) (dX o)))/\Below u.heap.size u w'):=by
  intro u hu;have:=fK (F.a12 (n1.below hu)) (dN o) (dE o);exact xr
 have jf:Hid (∀ u:World,Below w.heap.size w u->Calls Tryz.prog 54 #[.agg #[.bool (dN o),.slice a1 (ws (dX o)).length c1,.int .i64 (dE o)],.int .i64 mode] u fun r w'=>r=.returned (.tuple #[.float .f64 (nC o mode).1,.int .i64 (nC o mode).2])/\Below u.heap.size u w'):=by
  intro u hu;have:=uo (F.a12 (n1.below hu)) (hT.belows hu) (dN o) (dE o) mode F.o7.1 F.o7.2;rw[aC,F.re] at this;exact this
 have HNT:=hid (fun u:World=>nu s.n s.u s.d s.m s.p s.a mode u);unfold En at hz;obtain⟨e,he⟩:=ah (gN s mode a b);rw[<-he] at HA hz;obtain⟨⟨vx,vc⟩,hv⟩:∃ v,v=rA s a b:=⟨_,rfl⟩;rw[<-hv] at HA hz;simp only at HA hz;obtain⟨nx,hnx⟩:=ah (Um s mode);rw[show nt (snd s.n s.u s.d s.m s.p s.a) s.n s.u s.d s.m s.p s.a mode=nx from hnx.symm] at HNT;rw[<-hnx] at hz;obtain⟨fl,hfl⟩:=ah (iZ s);rw[show s.a-s.n-s.u-s.d=fl from hfl.symm] at jG
 try rw[<-hfl] at hz jf
 obtain⟨W,hW⟩:=ah (w.alloc (Obj.cells #[.int .i64 a,.int .i64 b] 34));have E0:Aside (Below w.heap.size w W):=by rw[hW];exact ak _ _
 have HP:Aside (Bl W w.heap.size 34 [.int .i64 a,.int .i64 b]):=by rw[hW];exact Bl.new _ _ [_,_]
 have p0:=HP.o.cell 0 _ rfl;have p1:=HP.o.cell 1 _ rfl;have HW:=au hW;have hsg:=zg (dN o) (dX o);obtain⟨sg,Un⟩:=ah (iP (dN o) (dX o));rw[<-Un] at hsg zh;obtain⟨n,u,d,m,p,l⟩:=s;unfold Sp.agg at jG;simp only at HC jG HNT;clear hW k n1 n2 hs he hv hnx hfl hT Un F;go_enter Tryz.func14,Tryz.ntmps14
 go_upto_region 1 with fail
 rw[<-HW.o]
 by_cases h0:e=0
 case neg =>
  rw[if_neg h0] at hz;rw[if_neg h0,if_neg h0] at HA;obtain⟨rfl,rfl⟩:=fB hz;have t0:(e==0)=false:=by simp[h0]
  have t1:(e != 0)=true:=by simp[h0]
  have t2:decide (e=0)=false:=by simp[h0]
  clear hz;go_wp2_with fail;refine(HA.o _ E0.o).mono ?_;rintro r v ⟨rfl,hb⟩;have E1:=au (E0.o.trans (hb.mono E0.o.size));clear hb p0 p1 HA HP HW E0;go_wp2;refine aJ (v:=.tuple #[.float .f64 0,.int .i64 e]) (by simp[results,Tryz.results14,go_sem]) rfl ?_;exact⟨rfl,E1.o⟩
 case pos =>
 rw[if_pos h0] at hz;rw[if_pos h0,if_pos h0] at HA;subst h0
 cases vc
 case true =>
  rw[if_pos rfl] at hz;obtain⟨rfl,rfl⟩:=fB hz;clear hz;go_wp2_with fail;refine(HA.o _ E0.o).mono ?_;rintro r v ⟨rfl,hb⟩;have E1:=au (E0.o.trans (hb.mono E0.o.size));clear hb p0 p1 HA HP HW E0;go_wp2;refine aJ (v:=.tuple #[.float .f64 vx,.int .i64 0]) (by simp[results,Tryz.results14,go_sem]) rfl ?_;exact⟨rfl,E1.o⟩
 case false =>
 rw[if_neg aA] at hz;go_wp2_with fail;refine(HA.o _ E0.o).mono ?_;rintro r v ⟨rfl,hb⟩;have E1:=au (E0.o.trans (hb.mono E0.o.size));clear hb p0 p1 HA HP HW E0;have y6:=(HC.o v E1.o).1.cell 6 _ rfl;have y7:=(HC.o v E1.o).1.cell 7 _ rfl;have y8:=(HC.o v E1.o).1.cell 8 _ rfl;go_wp2_with fail;refine(zh.o _ E1.o).mono ?_;rintro r v5 ⟨rfl,hb⟩;have E5:=au (E1.o.trans (hb.mono E1.o.size));clear hb y6 y7 y8 zh
 by_cases h0:dX o=0
 · rw[if_pos h0] at hz;rw[decide_eq_true h0] at hsg;obtain⟨rfl,rfl⟩:=fB hz;clear hz h0;have y0:=(HC.o v5 E5.o).1.cell 0 _ rfl;have y1:=(HC.o v5 E5.o).1.cell 1 _ rfl;have y2:=(HC.o v5 E5.o).1.cell 2 _ rfl;have y3:=(HC.o v5 E5.o).1.cell 3 _ rfl;have y4:=(HC.o v5 E5.o).1.cell 4 _ rfl;have y5:=(HC.o v5 E5.o).1.cell 5 _ rfl;go_wp2_with fail;refine(HNT.o _).mono ?_;rintro r v6 ⟨rfl,hb⟩;have E6:=au (E5.o.trans (hb.mono E5.o.size));clear hb;go_wp2;refine aJ (v:=.tuple #[.float .f64 nx,.int .i64 0]) (by simp[results,Tryz.results14,go_sem]) rfl ?_;exact⟨rfl,E6.o⟩
 · rw[if_neg h0] at hz;rw[decide_eq_false h0] at hsg;clear h0;rw[hz] at jf;simp only at jf;have y6:=(HC.o v5 E5.o).1.cell 6 _ rfl;have y7:=(HC.o v5 E5.o).1.cell 7 _ rfl;have y8:=(HC.o v5 E5.o).1.cell 8 _ rfl;go_wp2_with fail;refine(jf.o _ E5.o).mono ?_;rintro r v6 ⟨rfl,hb⟩;have E6:=au (E5.o.trans (hb.mono E5.o.size));clear hb;go_wp2;refine aJ (v:=.tuple #[.float .f64 X,.int .i64 E]) (by simp[results,Tryz.results14,go_sem]) rfl ?_;exact⟨rfl,E6.o⟩
theorem Mean21{w:World}{g:Nat}{s:Sp}{o q:Option (Bool×Nat×Int)}{lo hi:Nat}(H:fe w g s o q lo hi)(hs:s.sm)(F:Fm o)(hT:bO w)(mode a b:Int)(z:Nat×Int)(hz:wT s o mode a b=z) :
 Calls Tryz.prog 15 #[.pointer (some ⟨g,0,none⟩),.int .i64 mode,.agg #[.int .i64 a,.int .i64 b]] w fun r w'=>r=.returned (.tuple #[.float .f64 z.1,.int .i64 z.2])/\Below w.heap.size w w':=by
 obtain⟨X,E⟩:=z;simp only;have HA:=hid (fun(u:World) (hu:Below w.heap.size w u)=>Em (H.aD hu) hs mode a b);have jG:=hid (fun u:World=>mQ s hs u);obtain⟨a1,c1,a2,c2,k,n1,n2⟩:=H;have HC:Aside (∀ u:World,Below w.heap.size w u->Bl u g 79 (uE s o q a1 c1 a2 c2 lo hi)/\Nt 0 u (.slice a1 (ws (dX o)).length c1) (dX o)/\bO u):=au fun u hu=>⟨k.below hu k.lt,n1.below hu,hT.belows hu⟩
 have zh:Hid (∀ u:World,Below w.heap.size w u->Calls Tryz.prog 52 #[.agg #[.bool (dN o),.slice a1 (ws (dX o)).length c1,.int .i64 (dE o)]] u fun r w'=>r=.returned (.int .i64 (iP (dN o) (dX o)))/\Below u.heap.size u w'):=by
  intro u hu;have:=fK (F.a12 (n1.below hu)) (dN o) (dE o);exact xr
 have jf:Hid (∀ u:World,Below w.heap.size w u->Calls Tryz.prog 56 #[.agg #[.bool (dN o),.slice a1 (ws (dX o)).length c1,.int .i64 (dE o)],.int .i64 (iZ s),.int .i64 mode] u fun r w'=>r=.returned (.tuple #[.float .f64 (zf (dN o) (dX o) (dE o) (iZ s) mode).1,.int .i64 (zf (dN o) (dX o) (dE o) (iZ s) mode).2])/\Below u.heap.size u w'):=by
  intro u hu;exact Of13 (dN o) a1 (ws (dX o)).length c1 (dX o) (dE o) (iZ s) mode u (hT.belows hu) ((n1.below hu).av (aV F.len aA)) F.o7 _ rfl
 have HNT:=hid (fun u:World=>nu s.n s.u s.d s.m s.p s.a mode u);unfold wT at hz;obtain⟨e,he⟩:=ah (gN s mode a b);rw[<-he] at HA hz;obtain⟨⟨vx,vc⟩,hv⟩:∃ v,v=rA s a b:=⟨_,rfl⟩;rw[<-hv] at HA hz;simp only at HA hz;obtain⟨nx,hnx⟩:=ah (Um s mode);rw[show nt (snd s.n s.u s.d s.m s.p s.a) s.n s.u s.d s.m s.p s.a mode=nx from hnx.symm] at HNT;rw[<-hnx] at hz;obtain⟨fl,hfl⟩:=ah (iZ s);rw[show s.a-s.n-s.u-s.d=fl from hfl.symm] at jG
 try rw[<-hfl] at hz jf
 obtain⟨W,hW⟩:=ah (w.alloc (Obj.cells #[.int .i64 a,.int .i64 b] 34));have E0:Aside (Below w.heap.size w W):=by rw[hW];exact ak _ _
 have HP:Aside (Bl W w.heap.size 34 [.int .i64 a,.int .i64 b]):=by rw[hW];exact Bl.new _ _ [_,_]
 have p0:=HP.o.cell 0 _ rfl;have p1:=HP.o.cell 1 _ rfl;have HW:=au hW;have hsg:=zg (dN o) (dX o);obtain⟨sg,Un⟩:=ah (iP (dN o) (dX o));rw[<-Un] at hsg zh;obtain⟨n,u,d,m,p,l⟩:=s;unfold Sp.agg at jG;simp only at HC jG HNT;clear hW k n1 n2 hs he hv hnx hfl hT Un F;go_enter Tryz.func15,Tryz.ntmps15
 go_upto_region 1 with fail
 rw[<-HW.o]
 by_cases h0:e=0
 case neg =>
  rw[if_neg h0] at hz;rw[if_neg h0,if_neg h0] at HA;obtain⟨rfl,rfl⟩:=fB hz;have t0:(e==0)=false:=by simp[h0]
  have t1:(e != 0)=true:=by simp[h0]
  have t2:decide (e=0)=false:=by simp[h0]
  clear hz;go_wp2_with fail;refine(HA.o _ E0.o).mono ?_;rintro r v ⟨rfl,hb⟩;have E1:=au (E0.o.trans (hb.mono E0.o.size));clear hb p0 p1 HA HP HW E0;have y0:=(HC.o v E1.o).1.cell 0 _ rfl;have y1:=(HC.o v E1.o).1.cell 1 _ rfl;have y2:=(HC.o v E1.o).1.cell 2 _ rfl;have y3:=(HC.o v E1.o).1.cell 3 _ rfl;have y4:=(HC.o v E1.o).1.cell 4 _ rfl;have y5:=(HC.o v E1.o).1.cell 5 _ rfl;go_wp2_with fail;refine(jG.o _).mono ?_;rintro r v2 ⟨rfl,hb⟩;have E2:=au (E1.o.trans (hb.mono E1.o.size));clear hb jG y0 y1 y2 y3 y4 y5;go_wp2;refine aJ (v:=.tuple #[.float .f64 0,.int .i64 e]) (by simp[results,Tryz.results15,go_sem]) rfl ?_;exact⟨rfl,E2.o⟩
 case pos =>
 rw[if_pos h0] at hz;rw[if_pos h0,if_pos h0] at HA;subst h0
 cases vc
 case true =>
  rw[if_pos rfl] at hz;obtain⟨rfl,rfl⟩:=fB hz;clear hz;go_wp2_with fail;refine(HA.o _ E0.o).mono ?_;rintro r v ⟨rfl,hb⟩;have E1:=au (E0.o.trans (hb.mono E0.o.size));clear hb p0 p1 HA HP HW E0;have y0:=(HC.o v E1.o).1.cell 0 _ rfl;have y1:=(HC.o v E1.o).1.cell 1 _ rfl;have y2:=(HC.o v E1.o).1.cell 2 _ rfl;have y3:=(HC.o v E1.o).1.cell 3 _ rfl;have y4:=(HC.o v E1.o).1.cell 4 _ rfl;have y5:=(HC.o v E1.o).1.cell 5 _ rfl;go_wp2_with fail;refine(jG.o _).mono ?_;rintro r v2 ⟨rfl,hb⟩;have E2:=au (E1.o.trans (hb.mono E1.o.size));clear hb jG y0 y1 y2 y3 y4 y5;go_wp2;refine aJ (v:=.tuple #[.float .f64 vx,.int .i64 0]) (by simp[results,Tryz.results15,go_sem]) rfl ?_;exact⟨rfl,E2.o⟩
 case false =>
 rw[if_neg aA] at hz;go_wp2_with fail;refine(HA.o _ E0.o).mono ?_;rintro r v ⟨rfl,hb⟩;have E1:=au (E0.o.trans (hb.mono E0.o.size));clear hb p0 p1 HA HP HW E0;have y0:=(HC.o v E1.o).1.cell 0 _ rfl;have y1:=(HC.o v E1.o).1.cell 1 _ rfl;have y2:=(HC.o v E1.o).1.cell 2 _ rfl;have y3:=(HC.o v E1.o).1.cell 3 _ rfl;have y4:=(HC.o v E1.o).1.cell 4 _ rfl;have y5:=(HC.o v E1.o).1.cell 5 _ rfl;go_wp2_with fail;refine(jG.o _).mono ?_;rintro r v2 ⟨rfl,hb⟩;have E2:=au (E1.o.trans (hb.mono E1.o.size));clear hb jG y0 y1 y2 y3 y4 y5
 by_cases hf:fl=0
 case pos =>
  rw[if_pos hf] at hz;obtain⟨rfl,rfl⟩:=fB hz;have t0:(fl==0)=true:=by simp[hf]
  clear hz hf;go_wp2;refine aJ (v:=.tuple #[.float .f64 0,.int .i64 3]) (by simp[results,Tryz.results15,go_sem]) rfl ?_;exact⟨rfl,E2.o⟩
 case neg =>
 rw[if_neg hf] at hz;have t0:(fl==0)=false:=by simp[hf]
 clear hf;have y6:=(HC.o v2 E2.o).1.cell 6 _ rfl;have y7:=(HC.o v2 E2.o).1.cell 7 _ rfl;have y8:=(HC.o v2 E2.o).1.cell 8 _ rfl;go_wp2_with fail;refine(zh.o _ E2.o).mono ?_;rintro r v5 ⟨rfl,hb⟩;have E5:=au (E2.o.trans (hb.mono E2.o.size));clear hb y6 y7 y8 zh
 by_cases h0:dX o=0
 · rw[if_pos h0] at hz;rw[decide_eq_true h0] at hsg;obtain⟨rfl,rfl⟩:=fB hz;clear hz h0;have y0:=(HC.o v5 E5.o).1.cell 0 _ rfl;have y1:=(HC.o v5 E5.o).1.cell 1 _ rfl;have y2:=(HC.o v5 E5.o).1.cell 2 _ rfl;have y3:=(HC.o v5 E5.o).1.cell 3 _ rfl;have y4:=(HC.o v5 E5.o).1.cell 4 _ rfl;have y5:=(HC.o v5 E5.o).1.cell 5 _ rfl;go_wp2_with fail;refine(HNT.o _).mono ?_;rintro r v6 ⟨rfl,hb⟩;have E6:=au (E5.o.trans (hb.mono E5.o.size));clear hb;go_wp2;refine aJ (v:=.tuple #[.float .f64 nx,.int .i64 0]) (by simp[results,Tryz.results15,go_sem]) rfl ?_;exact⟨rfl,E6.o⟩
 · rw[if_neg h0] at hz;rw[decide_eq_false h0] at hsg;clear h0;rw[hz] at jf;simp only at jf;have y6:=(HC.o v5 E5.o).1.cell 6 _ rfl;have y7:=(HC.o v5 E5.o).1.cell 7 _ rfl;have y8:=(HC.o v5 E5.o).1.cell 8 _ rfl;go_wp2_with fail;refine(jf.o _ E5.o).mono ?_;rintro r v6 ⟨rfl,hb⟩;have E6:=au (E5.o.trans (hb.mono E5.o.size));clear hb;go_wp2;refine aJ (v:=.tuple #[.float .f64 X,.int .i64 E]) (by simp[results,Tryz.results15,go_sem]) rfl ?_;exact⟨rfl,E6.o⟩
abbrev nT(s:Sp):Int:=s.a-s.n-s.u-s.d-s.m-s.p
theorem pl_nn{s:Sp}(h:s.sm):0<=nT s/\nT s<=1099511627776:=by
 have:=h.n0;have:=h.u0;have:=h.d0;have:=h.m0;have:=h.p0;have:=h.al;have:=h.le;unfold nT;omega
theorem wU(s:Sp)(hs:s.sm)(w:World) :
 Calls Tryz.prog 180 #[s.agg] w fun r w'=>r=.returned (.int .i64 (nT s))/\Below w.heap.size w w':=by
 have jG:=hid (fun u:World=>mQ s hs u);have i0:=hs.n0;have i1:=hs.u0;have i2:=hs.d0;have i3:=hs.m0;have i4:=hs.p0;have i5:=hs.al;have i6:=hs.le;obtain⟨n,u,d,m,p,l⟩:=s;simp only at i0 i1 i2 i3 i4 i5 i6;have w1:=Tz (x:=l-n-u-d) (y:=m) af af;have w2:=Tz (x:=l-n-u-d-m) (y:=p) af af;unfold Sp.agg at jG |-;simp only at jG |-;obtain⟨W,hW⟩:=ah (w.alloc (Obj.cells #[.int .i64 n,.int .i64 u,.int .i64 d,.int .i64 m,.int .i64 p,.int .i64 l] 73));have E0:Aside (Below w.heap.size w W/\Bl W w.heap.size 73 [.int .i64 n,.int .i64 u,.int .i64 d,.int .i64 m,.int .i64 p,.int .i64 l]):=by rw[hW];exact⟨ak _ _,Bl.new _ _ [_,_,_,_,_,_]⟩
 have HW:=au hW;have kS:Aside (W.drew.cell? ⟨w.heap.size,0,none⟩=some (.int .i64 n)/\W.drew.cell? ⟨w.heap.size,1,none⟩=some (.int .i64 u)/\W.drew.cell? ⟨w.heap.size,2,none⟩=some (.int .i64 d)/\W.drew.cell? ⟨w.heap.size,3,none⟩=some (.int .i64 m)/\W.drew.cell? ⟨w.heap.size,4,none⟩=some (.int .i64 p)/\W.drew.cell? ⟨w.heap.size,5,none⟩=some (.int .i64 l)):=au ⟨E0.o.2.drew.cell 0 _ rfl,E0.o.2.drew.cell 1 _ rfl,E0.o.2.drew.cell 2 _ rfl,E0.o.2.drew.cell 3 _ rfl,E0.o.2.drew.cell 4 _ rfl,E0.o.2.drew.cell 5 _ rfl⟩;clear hW hs i0 i1 i2 i3 i4 i5 i6;go_enter Tryz.func180,Tryz.ntmps180
 go_upto_region 1 with fail
 rw[<-HW.o]
 go_region_held3 (fun w'=>w'.cell? ⟨w.heap.size,0,none⟩=some (.int .i64 n)/\w'.cell? ⟨w.heap.size,1,none⟩=some (.int .i64 u)/\w'.cell? ⟨w.heap.size,2,none⟩=some (.int .i64 d)/\w'.cell? ⟨w.heap.size,3,none⟩=some (.int .i64 m)/\w'.cell? ⟨w.heap.size,4,none⟩=some (.int .i64 p)/\w'.cell? ⟨w.heap.size,5,none⟩=some (.int .i64 l)) (with_reducible exact kS.o) (first
  | (go_at_call 55
     with_reducible refine(jG.o _).mono ?_
     rintro r v ⟨rfl,hb⟩;have BE:Aside (Below w.heap.size w v):=au (E0.o.1.drew.trans (hb.mono E0.o.1.drew.size));have hB:=E0.o.2.drew.below hb E0.o.2.drew.lt;have kS:Aside (v.cell? ⟨w.heap.size,0,none⟩=some (.int .i64 n)/\v.cell? ⟨w.heap.size,1,none⟩=some (.int .i64 u)/\v.cell? ⟨w.heap.size,2,none⟩=some (.int .i64 d)/\v.cell? ⟨w.heap.size,3,none⟩=some (.int .i64 m)/\v.cell? ⟨w.heap.size,4,none⟩=some (.int .i64 p)/\v.cell? ⟨w.heap.size,5,none⟩=some (.int .i64 l)):=au ⟨hB.cell 0 _ rfl,hB.cell 1 _ rfl,hB.cell 2 _ rfl,hB.cell 3 _ rfl,hB.cell 4 _ rfl,hB.cell 5 _ rfl⟩
     clear hb hB))
 go_wp2;go_ret;exact⟨rfl,BE.o⟩
theorem Hg(k:Nat)(x:Int)(o:Option (Bool×Nat×Int))(ho:o=gV 0 (k:Int))(F:Fm o)(hk:k<=1099511627776)(hx:0<=x/\x<=100000)(hE:0<=dE o/\dE o<=100000)(w:World)(hT:bO w) :
 Calls Tryz.prog 237 #[.int .i64 (k:Nat),.int .i64 x] w fun r w'=>(∃ a c,r=.returned (.agg #[.bool (dN o),.slice a (ws (dX o)).length c,.int .i64 (dE o+x)])/\Nt 0 w' (.slice a (ws (dX o)).length c) (dX o))/\Below w.heap.size w w':=by
 obtain⟨W,hW⟩:=ah (w.alloc (Obj.cells #[.bool false,.slice none 0 0,.int .i64 0] 77));have H0:Aside (Below w.heap.size w W/\Bl W w.heap.size 77 [.bool false,.slice none 0 0,.int .i64 0]):=by rw[hW];exact⟨ak _ _,Bl.new _ _ [_,_,_]⟩
 have HC:=hid (show Calls Tryz.prog 113 #[.int .i64 (k:Nat)] W _ from si (k:Int) W (hT.belows H0.o.1) af af);rw[show mkS (decide ((k:Int)<0)) (k:Int).natAbs 0=o by rw[ho];rfl] at HC;have wx:IntKind.i64.wrap (dE o+x)=dE o+x:=by simp[IntKind.wrap,IntKind.bits,IntKind.signed];omega
 have HW:=au hW;have FF:=au F;clear hW ho F hk hx hE hT;go_enter Tryz.func237,Tryz.ntmps237
 go_upto_region 1 with fail
 rw[<-HW.o];clear HW;go_wp2_with fail;refine HC.o.mono ?_;rintro r v ⟨⟨vv,rfl,hN⟩,hb⟩;obtain⟨a,c,rfl,hN0⟩:=Lo.shape FF.o hN
 go_upto_region 2 with fail
 obtain⟨V,hV⟩:=ah (v.alloc (Obj.cells #[.bool (dN o),.slice a (ws (dX o)).length c,.int .i64 (dE o)] 77));rw[<-hV];obtain⟨gd,hgd⟩:=ah (v.heap.size);have zT:Below v.heap.size v V:=by rw[hV];exact ak _ _
 have hBd:Bl V gd 77 [.bool (dN o),.slice a (ws (dX o)).length c,.int .i64 (dE o)]:=by rw[hV,hgd];exact Bl.new _ _ [_,_,_]
 have vQ:Bl V w.heap.size 77 [.bool false,.slice none 0 0,.int .i64 0]:=(H0.o.2.below hb H0.o.2.lt).below zT (gG H0.o.2.lt hb.size);have hbb:Below w.heap.size w V:=(H0.o.1.trans (hb.mono H0.o.1.size)).trans (zT.mono (aV H0.o.1.size hb.size));have hne:w.heap.size≠gd:=by have:=H0.o.2.lt;have:=hb.size;omega
 rw[<-hgd];have K:Aside (Bl V gd 77 [.bool (dN o),.slice a (ws (dX o)).length c,.int .i64 (dE o)]/\Bl V w.heap.size 77 [.bool false,.slice none 0 0,.int .i64 0]/\Below w.heap.size w V/\Nt 0 V (.slice a (ws (dX o)).length c) (dX o)/\w.heap.size<=gd):=au ⟨hBd,vQ,hbb,hN0.below zT,by have:=H0.o.1.size;have:=hb.size;omega⟩;have d0:=hBd.cell 0 _ rfl;have d1:=hBd.cell 1 _ rfl;have d2:=hBd.cell 2 _ rfl;have f2:=hBd.frozen 2;have z0:=vQ.cell 0 _ rfl;have z1:=vQ.cell 1 _ rfl;have z2:=vQ.cell 2 _ rfl;have q0:=vQ.frozen 0;have q1:=vQ.frozen 1;have q2:=vQ.frozen 2;have hne':=hne.symm;clear hV hgd zT hBd vQ hbb hN hN0 hb HC;go_wp2;obtain⟨k1,k2,k3,k4,k5⟩:=K.o;have hb1:But gd V (V.setCell ⟨gd,2,none⟩ (.int .i64 (dE o+x))):=(But.refl gd V).set 2 _;have hz:=k2.but hb1 hne;have hb2:But w.heap.size (V.setCell ⟨gd,2,none⟩ (.int .i64 (dE o+x))) ((((V.setCell ⟨gd,2,none⟩ (.int .i64 (dE o+x))).setCell ⟨w.heap.size,0,none⟩ (.bool (dN o))).setCell ⟨w.heap.size,1,none⟩ (.slice a (ws (dX o)).length c)).setCell ⟨w.heap.size,2,none⟩ (.int .i64 (dE o+x))):=(((But.refl _ _).set 0 _).set 1 _).set 2 _;refine aJ (v:=.agg #[.bool (dN o),.slice a (ws (dX o)).length c,.int .i64 (dE o+x)]) (sJ Tryz.results237 _ _ w.heap.size _ _ _ aL (((hz.set 0 _).set 1 _).set 2 _)) rfl ?_;exact⟨⟨a,c,rfl,bZ (bZ k4 k1 aA hb1) hz aA hb2⟩,But.below (But.below k3 hb1 k3.size k5) hb2 (aV k3.size hb1.size) (aB _)⟩
theorem zV{w:World}{g:Nat}{s:Sp}{o q:Option (Bool×Nat×Int)}{lo hi:Nat}(H:fe w g s o q lo hi)(hs:s.sm) :
 Calls Tryz.prog 105 #[.pointer (some ⟨g,0,none⟩)] w fun r w'=>r=.returned (.bool true)/\Below w.heap.size w w':=by
 have HP:=hid (wU s hs w);have hk:=pl_nn hs;have t0:decide (0<=nT s)=true:=decide_eq_true hk.1;obtain⟨k,hkk⟩:=ah (nT s);rw[<-hkk] at HP t0;obtain⟨a1,c1,a2,c2,kb,n1,n2⟩:=H;have y0:=kb.cell 0 _ rfl;have y1:=kb.cell 1 _ rfl;have y2:=kb.cell 2 _ rfl;have y3:=kb.cell 3 _ rfl;have y4:=kb.cell 4 _ rfl;have y5:=kb.cell 5 _ rfl;obtain⟨n,u,d,m,p,l⟩:=s;unfold Sp.agg at HP;simp only at HP;clear kb n1 n2 hkk hk hs;go_enter Tryz.func105,Tryz.ntmps105;go_wp2_with fail;refine HP.o.mono ?_;rintro r v ⟨rfl,hb⟩;have E1:=au hb;clear hb HP;go_wp2;go_ret;exact⟨rfl,E1.o⟩
theorem Qba{P:Prop}(h:P:=by
 go_wp2;go_ret;exact⟨rfl,E3.o⟩):P:=h
theorem zi {w:World}{g:Nat}{s:Sp}{o q f:Option (Bool×Nat×Int)}{lo hi:Nat}(H:fe w g s o q lo hi) (k:Nat) (hf:f=gV 0 (k:Int)) (Ff:Fm f) (Fq:Fm q) (hk:k<=1099511627776) (hE:0<=dE f/\dE f<=100000) (hT:bO w)
 (h1:0<iP (dN q) (dX q)) (h2:l9 (dN q) (dX q) (dE q) (dN f) (dX f) (dE f+2048)<0) (h3:-2148<=dE q) :
 Calls Tryz.prog 181 #[.pointer (some ⟨g,0,none⟩),.int .i64 (k:Nat)] w fun r w'=>r=.returned (.bool true)/\Below w.heap.size w w':=by
 obtain⟨a1,c1,a2,c2,kb,n1,n2⟩:=H
 have zh:Hid (∀ u:World,Below w.heap.size w u->Calls Tryz.prog 52 #[.agg #[.bool (dN q),.slice a2 (ws (dX q)).length c2,.int .i64 (dE q)]] u fun r w'=>r=.returned (.int .i64 (iP (dN q) (dX q)))/\Below u.heap.size u w'):=by
  intro u hu;have:=fK (Fq.a12 (n2.below hu)) (dN q) (dE q);exact xr
 have HSC:=hid (fun(u:World) (hu:Below w.heap.size w u)=>Hg k 2048 f hf Ff hk aA hE u (hT.belows hu))
 have HCM:Hid (∀ (u:World) (b:Option Addr) (d:Nat),Below w.heap.size w u->Nt 0 u (.slice b (ws (dX f)).length d) (dX f)->Calls Tryz.prog 236 #[.agg #[.bool (dN q),.slice a2 (ws (dX q)).length c2,.int .i64 (dE q)],.agg #[.bool (dN f),.slice b (ws (dX f)).length d,.int .i64 (dE f+2048)]] u fun r w'=>r=.returned (.int .i64 (l9 (dN q) (dX q) (dE q) (dN f) (dX f) (dE f+2048)))/\Below u.heap.size u w'):=by
  intro u b d hu hN;have:=yB (Fq.a12 (n2.below hu)) (Ff.a12 hN) (dN q) (dN f) (dE q) (dE f+2048) Fq.o7.1 Fq.o7.2 af af;rw[aC,aC] at this;exact this
 obtain⟨sg,hsg⟩:=ah (iP (dN q) (dX q));obtain⟨cv,hcv⟩:=ah (l9 (dN q) (dX q) (dE q) (dN f) (dX f) (dE f+2048));rw[<-hsg] at zh h1;rw[<-hcv] at HCM h2;have t1:decide (0<sg)=true:=decide_eq_true h1;have t2:decide (cv<0)=true:=decide_eq_true h2;have t3:decide (-2148<=dE q)=true:=decide_eq_true h3;have HB:Aside (∀ u:World,Below w.heap.size w u->(u.cell? ⟨g,9,none⟩=some (.bool (dN q))/\u.cell? ⟨g,10,none⟩=some (.slice a2 (ws (dX q)).length c2)/\u.cell? ⟨g,11,none⟩=some (.int .i64 (dE q)))):=au fun u hu=>⟨(kb.below hu kb.lt).cell 9 _ rfl,(kb.below hu kb.lt).cell 10 _ rfl,(kb.below hu kb.lt).cell 11 _ rfl⟩;have E0:Aside (Below w.heap.size w w.drew):=au (aG _ _).drew;have kS:=au (HB.o w.drew E0.o);have C1:=hid (zh.o w.drew E0.o);obtain⟨ev,hev⟩:=ah (dE f+2048);rw[<-hev] at HSC HCM;clear kb n1 n2 hf Ff Fq hk hE hT h1 h2 h3 hsg hcv zh hev;go_enter Tryz.func181,Tryz.ntmps181;go_wp2_with fail
 go_region_held3 (fun w'=>w'.cell? ⟨g,9,none⟩=some (.bool (dN q))/\w'.cell? ⟨g,10,none⟩=some (.slice a2 (ws (dX q)).length c2)/\w'.cell? ⟨g,11,none⟩=some (.int .i64 (dE q))) (with_reducible exact kS.o) (first
  | (go_at_call 52
     with_reducible refine C1.o.mono ?_
     rintro r v1 ⟨rfl,hb⟩;have E1:Aside (Below w.heap.size w v1):=au (E0.o.trans (hb.mono E0.o.size));have kS:=au (HB.o v1 E1.o);have C2:=hid (HSC.o v1 E1.o)
     clear hb C1)
  | (go_at_call 237
     with_reducible refine C2.o.mono ?_
     rintro r v2 ⟨⟨b,d,rfl,hN⟩,hb⟩;have E2:Aside (Below w.heap.size w v2):=au (E1.o.trans (hb.mono E1.o.size));have kS:=au (HB.o v2 E2.o);have C3:=hid (HCM.o v2 b d E2.o hN)
     clear hb C2 hN)
  | (go_at_call 236
     with_reducible refine C3.o.mono ?_
     rintro r v3 ⟨rfl,hb⟩;have E3:Aside (Below w.heap.size w v3):=au (E2.o.trans (hb.mono E2.o.size));have kS:=au (HB.o v3 E3.o)
     clear hb C3))
 all_goals
  exact Qba
theorem Eo{w:World}{g:Nat}{s:Sp}{o q:Option (Bool×Nat×Int)}{lo hi:Nat}(H:fe w g s o q lo hi)(k:Int)(Fo:Fm o)(h0:dX o=0) :
 Calls Tryz.prog 182 #[.pointer (some ⟨g,0,none⟩),.int .i64 k] w fun r w'=>r=.returned (.bool true)/\Below w.heap.size w w':=by
 obtain⟨a1,c1,a2,c2,kb,n1,n2⟩:=H
 have zh:Hid (Calls Tryz.prog 52 #[.agg #[.bool (dN o),.slice a1 (ws (dX o)).length c1,.int .i64 (dE o)]] w fun r w'=>r=.returned (.int .i64 0)/\Below w.heap.size w w'):=by
  have:=fK (Fo.a12 n1) (dN o) (dE o);rw[aC,show iP (dN o) (dX o)=0 by unfold iP;rw[if_pos h0]] at this;exact this
 have y6:=kb.cell 6 _ rfl;have y7:=kb.cell 7 _ rfl;have y8:=kb.cell 8 _ rfl;clear kb n1 n2 Fo h0;go_enter Tryz.func182,Tryz.ntmps182;go_wp2_with fail;refine zh.o.mono ?_;rintro r v ⟨rfl,hb⟩;have E1:=au hb;clear hb zh;go_wp2;go_ret;exact⟨rfl,E1.o⟩
theorem Kk {w:World}{g:Nat}{s:Sp}{o q f so ss fq:Option (Bool×Nat×Int)}{lo hi:Nat}(H:fe w g s o q lo hi) (k:Nat) (hf:f=gV 0 (k:Int)) (Ff:Fm f) (Fo:Fm o) (Fq:Fm q) (Fso:Fm so) (Fss:Fm ss) (Ffq:Fm fq) (hk:k<=1099511627776) (hE:0<=dE f/\dE f<=100000) (hT:bO w)
 (e1:dN so=false) (e2:dX so=dX o) (e3:dE so=dE o) (m1:dM so so=ss) (m2:dM f q=fq) (h0:dX o≠0) (h1:-1074<=dE o) (h2:l9 false (dX o) (dE o) (dN f) (dX f) (dE f+1024)<0) (h3:l9 (dN ss) (dX ss) (dE ss) (dN fq) (dX fq) (dE fq)<=0) :
 Calls Tryz.prog 182 #[.pointer (some ⟨g,0,none⟩),.int .i64 (k:Nat)] w fun r w'=>r=.returned (.bool true)/\Below w.heap.size w w':=by
 obtain⟨a1,c1,a2,c2,kb,n1,n2⟩:=H
 have zh:Hid (Calls Tryz.prog 52 #[.agg #[.bool (dN o),.slice a1 (ws (dX o)).length c1,.int .i64 (dE o)]] w fun r w'=>r=.returned (.int .i64 (iP (dN o) (dX o)))/\Below w.heap.size w w'):=by
  have:=fK (Fo.a12 n1) (dN o) (dE o);exact xr
 have hs0:=zg (dN o) (dX o);rw[decide_eq_false h0] at hs0;obtain⟨sg,hsg⟩:=ah (iP (dN o) (dX o));rw[<-hsg] at zh hs0;have HSC:=hid (fun(u:World) (hu:Below w.heap.size w u)=>Hg k 1024 f hf Ff hk aA hE u (hT.belows hu))
 have HCM:Hid (∀ (u:World) (b:Option Addr) (d:Nat),Below w.heap.size w u->Nt 0 u (.slice b (ws (dX f)).length d) (dX f)->Calls Tryz.prog 236 #[.agg #[.bool false,.slice a1 (ws (dX o)).length c1,.int .i64 (dE o)],.agg #[.bool (dN f),.slice b (ws (dX f)).length d,.int .i64 (dE f+1024)]] u fun r w'=>r=.returned (.int .i64 (l9 false (dX o) (dE o) (dN f) (dX f) (dE f+1024)))/\Below u.heap.size u w'):=by
  intro u b d hu hN;have:=yB (Fo.a12 (n1.below hu)) (Ff.a12 hN) false (dN f) (dE o) (dE f+1024) Fo.o7.1 Fo.o7.2 af af;rw[aC,aC] at this;exact this
 have HT1:Hid (∀ u:World,Below w.heap.size w u->Calls Tryz.prog 138 #[.agg #[.bool false,.slice a1 (ws (dX o)).length c1,.int .i64 (dE o)],.agg #[.bool false,.slice a1 (ws (dX o)).length c1,.int .i64 (dE o)]] u fun r w'=>fD 0 w' r ss/\Below u.heap.size u w'):=by
  intro u hu;have hN:=n1.below hu;have:=DX (w:=u) (a:=a1) (b:=a1) (ca:=c1) (cb:=c1) Fso Fso Fss (by rw[e2];exact hN) (by rw[e2];exact hN) (hT.belows hu) m1;rw[e1,e2,e3] at this;exact this
 have HIN:Hid (∀ u:World,Below w.heap.size w u->Calls Tryz.prog 113 #[.int .i64 (k:Nat)] u fun r w'=>fD u.heap.size w' r f/\Below u.heap.size u w'):=by
  intro u hu;have:=si (k:Int) u (hT.belows hu) af af;rw[show mkS (decide ((k:Int)<0)) (k:Int).natAbs 0=f by rw[hf];rfl] at this;exact this
 have HT2:Hid (∀ (u:World) (b:Option Addr) (d:Nat),Below w.heap.size w u->Nt 0 u (.slice b (ws (dX f)).length d) (dX f)->Calls Tryz.prog 138 #[.agg #[.bool (dN f),.slice b (ws (dX f)).length d,.int .i64 (dE f)],.agg #[.bool (dN q),.slice a2 (ws (dX q)).length c2,.int .i64 (dE q)]] u fun r w'=>fD 0 w' r fq/\Below u.heap.size u w'):=fun u b d hu hN=>DX Ff Fq Ffq hN (n2.below hu) (hT.belows hu) m2
 have HC2:Hid (∀ (u:World) (b b':Option Addr) (d d':Nat),Nt 0 u (.slice b (ws (dX ss)).length d) (dX ss)->Nt 0 u (.slice b' (ws (dX fq)).length d') (dX fq)->Calls Tryz.prog 236 #[.agg #[.bool (dN ss),.slice b (ws (dX ss)).length d,.int .i64 (dE ss)],.agg #[.bool (dN fq),.slice b' (ws (dX fq)).length d',.int .i64 (dE fq)]] u fun r w'=>r=.returned (.int .i64 (l9 (dN ss) (dX ss) (dE ss) (dN fq) (dX fq) (dE fq)))/\Below u.heap.size u w'):=by
  intro u b b' d d' hN hN';have:=yB (Fss.a12 hN) (Ffq.a12 hN') (dN ss) (dN fq) (dE ss) (dE fq) Fss.o7.1 Fss.o7.2 Ffq.o7.1 Ffq.o7.2;rw[aC,aC] at this;exact this
 obtain⟨cv,hcv⟩:=ah (l9 false (dX o) (dE o) (dN f) (dX f) (dE f+1024));obtain⟨cw,hcw⟩:=ah (l9 (dN ss) (dX ss) (dE ss) (dN fq) (dX fq) (dE fq));rw[<-hcv] at HCM h2;rw[<-hcw] at HC2 h3;obtain⟨ev,hev⟩:=ah (dE f+1024);rw[<-hev] at HSC HCM;have t1:decide (dE o < -1074)=false:=by simp;exact h1
 have t2:decide (0<=cv)=false:=by simp;omega
 have t3:decide (cw<=0)=true:=decide_eq_true h3;have HFF:=(bM Ff Fss Ffq);have HB:Aside (∀ u:World,Below w.heap.size w u->Bl u g 79 (uE s o q a1 c1 a2 c2 lo hi)):=au fun u hu=>kb.below hu kb.lt;have y6:=kb.cell 6 _ rfl;have y7:=kb.cell 7 _ rfl;have y8:=kb.cell 8 _ rfl;clear kb n1 n2 hf Fo Fq Fso Ff Fss Ffq hk hE hT e1 e2 e3 m1 m2 h0 h1 h2 h3 hsg hcv hcw hev;go_enter Tryz.func182,Tryz.ntmps182;go_wp2_with fail;refine zh.o.mono ?_;rintro r v ⟨rfl,hb⟩;have E1:=au hb;clear hb zh y6 y7 y8
 go_upto_region 3 with fail
 have hBd:=HB.o v.drew E1.o.drew;have kS:Aside (v.drew.cell? ⟨g,7,none⟩=some (.slice a1 (ws (dX o)).length c1)/\v.drew.cell? ⟨g,8,none⟩=some (.int .i64 (dE o))):=au ⟨hBd.cell 7 _ rfl,hBd.cell 8 _ rfl⟩;clear hBd
 go_cut [5] from 12 to 22 (fun pv wx=>∃ gd:Nat,pv=.pointer (some ⟨gd,0,none⟩)/\Aside (Bl wx gd 77 [.bool false,.slice a1 (ws (dX o)).length c1,.int .i64 (dE o)]/\Below w.heap.size w wx))
 case first =>
  have hBa:=fun ob:Obj=>HB.o (v.alloc ob).drew ((E1.o.trans ((ak v ob).mono E1.o.size)).drew);have kA:Aside (∀ ob:Obj,(v.alloc ob).drew.cell? ⟨g,7,none⟩=some (.slice a1 (ws (dX o)).length c1)/\(v.alloc ob).drew.cell? ⟨g,8,none⟩=some (.int .i64 (dE o))):=au fun ob=>⟨(hBa ob).cell 7 _ rfl,(hBa ob).cell 8 _ rfl⟩;clear hBa
  go_region_held3 (fun w'=>w'.cell? ⟨g,7,none⟩=some (.slice a1 (ws (dX o)).length c1)/\w'.cell? ⟨g,8,none⟩=some (.int .i64 (dE o))) (first | with_reducible exact kS.o | with_reducible exact kA.o _) (fail)
  all_goals
   go_wp2_with fail
   go_meet
   case rel=>exact⟨v.heap.size,rfl,au ⟨(Bl.new v 77 [.bool false,.slice a1 (ws (dX o)).length c1,.int .i64 (dE o)]).drew,(E1.o.trans ((ak v _).mono E1.o.size)).drew⟩⟩
 obtain⟨gd,rfl,HD⟩:=hcut;clear kS E1;have D0:Aside (Bl wc.drew gd 77 [.bool false,.slice a1 (ws (dX o)).length c1,.int .i64 (dE o)]/\Below w.heap.size w wc.drew):=au ⟨HD.o.1.drew,HD.o.2.drew⟩;have ic:=HB.o wc.drew D0.o.2;have hDB:=D0.o.1;have kS:Aside (wc.drew.cell? ⟨gd,0,none⟩=some (.bool false)/\wc.drew.cell? ⟨gd,1,none⟩=some (.slice a1 (ws (dX o)).length c1)/\wc.drew.cell? ⟨gd,2,none⟩=some (.int .i64 (dE o))/\wc.drew.cell? ⟨g,8,none⟩=some (.int .i64 (dE o))):=au ⟨hDB.cell 0 _ rfl,hDB.cell 1 _ rfl,hDB.cell 2 _ rfl,ic.cell 8 _ rfl⟩;have C1:=hid (HSC.o wc.drew D0.o.2);clear ic hDB HSC;go_wp2_with fail
 go_region_held3 (fun w'=>w'.cell? ⟨gd,0,none⟩=some (.bool false)/\w'.cell? ⟨gd,1,none⟩=some (.slice a1 (ws (dX o)).length c1)/\w'.cell? ⟨gd,2,none⟩=some (.int .i64 (dE o))/\w'.cell? ⟨g,8,none⟩=some (.int .i64 (dE o))) (with_reducible exact kS.o) (first
  | (go_at_call 237
     with_reducible refine C1.o.mono ?_
     rintro r v1 ⟨⟨b,d,rfl,hN⟩,hb⟩;have D1:Aside (Bl v1 gd 77 [.bool false,.slice a1 (ws (dX o)).length c1,.int .i64 (dE o)]/\Below w.heap.size w v1):=au ⟨D0.o.1.below hb D0.o.1.lt,D0.o.2.trans (hb.mono D0.o.2.size)⟩;have ic:=HB.o v1 D1.o.2;have hDB:=D1.o.1;have kS:Aside (v1.cell? ⟨gd,0,none⟩=some (.bool false)/\v1.cell? ⟨gd,1,none⟩=some (.slice a1 (ws (dX o)).length c1)/\v1.cell? ⟨gd,2,none⟩=some (.int .i64 (dE o))/\v1.cell? ⟨g,8,none⟩=some (.int .i64 (dE o))):=au ⟨hDB.cell 0 _ rfl,hDB.cell 1 _ rfl,hDB.cell 2 _ rfl,ic.cell 8 _ rfl⟩;have C2:=hid (HCM.o v1 b d D1.o.2 hN)
     clear hb ic hDB C1 hN)
  | (go_at_call 236
     with_reducible refine C2.o.mono ?_
     rintro r v2 ⟨rfl,hb⟩;have D2:Aside (Bl v2 gd 77 [.bool false,.slice a1 (ws (dX o)).length c1,.int .i64 (dE o)]/\Below w.heap.size w v2):=au ⟨D1.o.1.below hb D1.o.1.lt,D1.o.2.trans (hb.mono D1.o.2.size)⟩;have ic:=HB.o v2 D2.o.2;have hDB:=D2.o.1;have kS:Aside (v2.cell? ⟨gd,0,none⟩=some (.bool false)/\v2.cell? ⟨gd,1,none⟩=some (.slice a1 (ws (dX o)).length c1)/\v2.cell? ⟨gd,2,none⟩=some (.int .i64 (dE o))/\v2.cell? ⟨g,8,none⟩=some (.int .i64 (dE o))):=au ⟨hDB.cell 0 _ rfl,hDB.cell 1 _ rfl,hDB.cell 2 _ rfl,ic.cell 8 _ rfl⟩;skip
     clear hb ic hDB C2 ))
 go_upto_region 6 with fail
 have D3:Aside (Bl v2.drew gd 77 [.bool false,.slice a1 (ws (dX o)).length c1,.int .i64 (dE o)]/\Below w.heap.size w v2.drew):=au ⟨D2.o.1.drew,D2.o.2.drew⟩;have ic:=HB.o v2.drew D3.o.2;have hDB:=D3.o.1;clear kS;have kS:Aside (v2.drew.cell? ⟨gd,0,none⟩=some (.bool false)/\v2.drew.cell? ⟨gd,1,none⟩=some (.slice a1 (ws (dX o)).length c1)/\v2.drew.cell? ⟨gd,2,none⟩=some (.int .i64 (dE o))/\v2.drew.cell? ⟨g,9,none⟩=some (.bool (dN q))/\v2.drew.cell? ⟨g,10,none⟩=some (.slice a2 (ws (dX q)).length c2)/\v2.drew.cell? ⟨g,11,none⟩=some (.int .i64 (dE q))):=au ⟨hDB.cell 0 _ rfl,hDB.cell 1 _ rfl,hDB.cell 2 _ rfl,ic.cell 9 _ rfl,ic.cell 10 _ rfl,ic.cell 11 _ rfl⟩;have T1:=hid (HT1.o v2.drew D3.o.2);clear ic hDB HT1 HCM D2 D1 D0
 go_region_held3 (fun w'=>w'.cell? ⟨gd,0,none⟩=some (.bool false)/\w'.cell? ⟨gd,1,none⟩=some (.slice a1 (ws (dX o)).length c1)/\w'.cell? ⟨gd,2,none⟩=some (.int .i64 (dE o))/\w'.cell? ⟨g,9,none⟩=some (.bool (dN q))/\w'.cell? ⟨g,10,none⟩=some (.slice a2 (ws (dX q)).length c2)/\w'.cell? ⟨g,11,none⟩=some (.int .i64 (dE q))) (with_reducible exact kS.o) (first
  | (go_at_call 138
     with_reducible refine T1.o.mono ?_
     rintro r v3 ⟨⟨x1,rfl,hN⟩,hb⟩;have D4:Aside (Bl v3 gd 77 [.bool false,.slice a1 (ws (dX o)).length c1,.int .i64 (dE o)]/\Below w.heap.size w v3):=au ⟨D3.o.1.below hb D3.o.1.lt,D3.o.2.trans (hb.mono D3.o.2.size)⟩;have ic:=HB.o v3 D4.o.2;have hDB:=D4.o.1;have kS:Aside (v3.cell? ⟨gd,0,none⟩=some (.bool false)/\v3.cell? ⟨gd,1,none⟩=some (.slice a1 (ws (dX o)).length c1)/\v3.cell? ⟨gd,2,none⟩=some (.int .i64 (dE o))/\v3.cell? ⟨g,9,none⟩=some (.bool (dN q))/\v3.cell? ⟨g,10,none⟩=some (.slice a2 (ws (dX q)).length c2)/\v3.cell? ⟨g,11,none⟩=some (.int .i64 (dE q))):=au ⟨hDB.cell 0 _ rfl,hDB.cell 1 _ rfl,hDB.cell 2 _ rfl,ic.cell 9 _ rfl,ic.cell 10 _ rfl,ic.cell 11 _ rfl⟩;obtain⟨sa,sc,rfl,hNs⟩:=Lo.shape HFF.o.2.1 hN;have T2:=hid (HIN.o v3 D4.o.2);have NS:=au hNs
     clear hb ic hDB T1 hN hNs)
  | (go_at_call 113
     with_reducible refine T2.o.mono ?_
     rintro r v4 ⟨⟨x2,rfl,hN⟩,hb⟩;have D5:Aside (Bl v4 gd 77 [.bool false,.slice a1 (ws (dX o)).length c1,.int .i64 (dE o)]/\Below w.heap.size w v4):=au ⟨D4.o.1.below hb D4.o.1.lt,D4.o.2.trans (hb.mono D4.o.2.size)⟩;have ic:=HB.o v4 D5.o.2;have hDB:=D5.o.1;have kS:Aside (v4.cell? ⟨gd,0,none⟩=some (.bool false)/\v4.cell? ⟨gd,1,none⟩=some (.slice a1 (ws (dX o)).length c1)/\v4.cell? ⟨gd,2,none⟩=some (.int .i64 (dE o))/\v4.cell? ⟨g,9,none⟩=some (.bool (dN q))/\v4.cell? ⟨g,10,none⟩=some (.slice a2 (ws (dX q)).length c2)/\v4.cell? ⟨g,11,none⟩=some (.int .i64 (dE q))):=au ⟨hDB.cell 0 _ rfl,hDB.cell 1 _ rfl,hDB.cell 2 _ rfl,ic.cell 9 _ rfl,ic.cell 10 _ rfl,ic.cell 11 _ rfl⟩;obtain⟨fa,fc,rfl,hNf⟩:=Lo.shape HFF.o.1 hN;have T3:=hid (HT2.o v4 fa fc D5.o.2 hNf);have NS2:=au (NS.o.below hb)
     clear hb ic hDB T2 hN hNf)
  | (go_at_call 138
     with_reducible refine T3.o.mono ?_
     rintro r v5 ⟨⟨x3,rfl,hN⟩,hb⟩;have D6:Aside (Bl v5 gd 77 [.bool false,.slice a1 (ws (dX o)).length c1,.int .i64 (dE o)]/\Below w.heap.size w v5):=au ⟨D5.o.1.below hb D5.o.1.lt,D5.o.2.trans (hb.mono D5.o.2.size)⟩;have ic:=HB.o v5 D6.o.2;have hDB:=D6.o.1;have kS:Aside (v5.cell? ⟨gd,0,none⟩=some (.bool false)/\v5.cell? ⟨gd,1,none⟩=some (.slice a1 (ws (dX o)).length c1)/\v5.cell? ⟨gd,2,none⟩=some (.int .i64 (dE o))/\v5.cell? ⟨g,9,none⟩=some (.bool (dN q))/\v5.cell? ⟨g,10,none⟩=some (.slice a2 (ws (dX q)).length c2)/\v5.cell? ⟨g,11,none⟩=some (.int .i64 (dE q))):=au ⟨hDB.cell 0 _ rfl,hDB.cell 1 _ rfl,hDB.cell 2 _ rfl,ic.cell 9 _ rfl,ic.cell 10 _ rfl,ic.cell 11 _ rfl⟩;obtain⟨qa,qc,rfl,hNq⟩:=Lo.shape HFF.o.r2 hN;have T4:=hid (HC2.o v5 sa qa sc qc (NS2.o.below hb) hNq)
     clear hb ic hDB T3 hN hNq)
  | (go_at_call 236
     with_reducible refine T4.o.mono ?_
     rintro r v6 ⟨rfl,hb⟩;have D7:Aside (Bl v6 gd 77 [.bool false,.slice a1 (ws (dX o)).length c1,.int .i64 (dE o)]/\Below w.heap.size w v6):=au ⟨D6.o.1.below hb D6.o.1.lt,D6.o.2.trans (hb.mono D6.o.2.size)⟩;have ic:=HB.o v6 D7.o.2;have hDB:=D7.o.1;have kS:Aside (v6.cell? ⟨gd,0,none⟩=some (.bool false)/\v6.cell? ⟨gd,1,none⟩=some (.slice a1 (ws (dX o)).length c1)/\v6.cell? ⟨gd,2,none⟩=some (.int .i64 (dE o))/\v6.cell? ⟨g,9,none⟩=some (.bool (dN q))/\v6.cell? ⟨g,10,none⟩=some (.slice a2 (ws (dX q)).length c2)/\v6.cell? ⟨g,11,none⟩=some (.int .i64 (dE q))):=au ⟨hDB.cell 0 _ rfl,hDB.cell 1 _ rfl,hDB.cell 2 _ rfl,ic.cell 9 _ rfl,ic.cell 10 _ rfl,ic.cell 11 _ rfl⟩;skip
     clear hb ic hDB T4 ))
 go_wp2;go_ret;exact⟨rfl,D7.o.2⟩
end
end Go.Proofs.YtaejmlkaefnbhaaGreatDoor
