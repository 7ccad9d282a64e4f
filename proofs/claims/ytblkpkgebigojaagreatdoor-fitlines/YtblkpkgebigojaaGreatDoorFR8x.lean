import Derived.Test.YtblkpkgebigojaaGreatDoorFR5x
set_option linter.unusedVariables false
set_option linter.unusedSimpArgs false
set_option maxHeartbeats 16000000
set_option maxRecDepth 20000
namespace Go.Proofs.YtblkpkgebigojaaGreatDoor
namespace J
end J
section
open Go Go.RowKit J
attribute [local go_sem] Ps.eD
section
variable {P : Program} {ops : Array Oper} {Q : Exit -> Act -> World -> Prop} {md : Region.Mode} {S : World -> Prop} {stop : Nat}
end
theorem kW {P:Program}{ops:Array Oper}{Q:Exit->Act->World->Prop}{md:Region.Mode}{S:World->Prop}{stop i j:Nat}{oi oj:Oper}{fuel:Nat}{listed:Array Bool}{a:Act}{w:World}(hr:Region.ready md ops listed=[i,j]) (ei:ops[i]?=some oi) (ej:ops[j]?=some oj)
 (hi:∀ K':Act->World->Prop,Shut (∀ b u,(i<stop->S u)->gH P md ops Q S stop fuel (listed.setIfInBounds i true) b u->K' b u)->if Region.wanted oi (yielded ops a.tmps)=true then Oper.wp P oi a w K' Q else K' (a.put oi.dst undef) w)
 (hj:∀ K':Act->World->Prop,Shut (∀ b u,(j<stop->S u)->gH P md ops Q S stop fuel (listed.setIfInBounds j true) b u->K' b u)->if Region.wanted oj (yielded ops a.tmps)=true then Oper.wp P oj a w K' Q else K' (a.put oj.dst undef) w) :
 gH P md ops Q S stop (fuel+1) listed a w :=
 ⟨fun h0=>(by rw [hr] at h0;cases h0),fun q hq=>by
  rw [hr] at hq;simp only [List.mem_cons,List.not_mem_nil,or_false] at hq;rcases hq with rfl|rfl
  · exact wpOp_step ei (fun K' hK=>hi K' (fun b u h1 h2=>hK b u ⟨h1,h2⟩))
  · exact wpOp_step ej (fun K' hK=>hj K' (fun b u h1 h2=>hK b u ⟨h1,h2⟩))⟩
theorem Pm {w:World}{a b:Option Addr}{n m c d:Nat}(mode E:Int) (hE:E≠0) (HA:Hid (∀ u:World,Below w.heap.size w u->Calls Tryz.prog 41 #[.slice a n c,.slice b m d,.int .i64 mode,.int .i64 2] u fun r w'=>r=.returned (.int .i64 E)/\Below u.heap.size u w')) :
 Calls Tryz.prog 16 #[.slice a n c,.slice b m d,.int .i64 mode] w fun r w'=>r=.returned (.tuple #[.agg #[.int .i64 0,.float .f64 0,.float .f64 0,.float .f64 0,.float .f64 0],.int .i64 E])/\Below w.heap.size w w':=by
 have hE2:(E==0)=false:=by simp [hE]
 clear hE;obtain ⟨W,hW⟩:=ah (w.alloc (Obj.cells #[.int .i64 0,.float .f64 0,.float .f64 0,.float .f64 0,.float .f64 0] 36))
 have B0:Aside (Bl W w.heap.size 36 [.int .i64 0,.float .f64 0,.float .f64 0,.float .f64 0,.float .f64 0]/\Below w.heap.size w W):=by
  rw [hW];exact ⟨Bl.new _ 36 [.int .i64 0,.float .f64 0,.float .f64 0,.float .f64 0,.float .f64 0],au _ _⟩
 have HW:=ay hW;have C:=hid (HA.o W B0.o.2);clear hW HA;go_enter Tryz.func16,Tryz.ntmps16
 go_upto_region 1 with fail
 rw [<-HW.o];clear HW;go_wp2_with fail;refine C.o.mono ?_;clear C;rintro r u ⟨rfl,hb⟩;have B1:=bB (B0.o.1.below hb B0.o.1.lt) (B0.o.2.trans (hb.mono B0.o.2.size));clear hb B0;obtain ⟨U,hU⟩:=ah u;rw [<-hU] at B1 |-;clear hU;have hbt:But w.heap.size U _:=(((((But.refl w.heap.size U).set 0 (.int .i64 0)).set 1 (.float .f64 0)).set 2 (.float .f64 0)).set 3 (.float .f64 0)).set 4 (.float .f64 0);have BE:=bB (((((B1.o.1.set 0 (.int .i64 0)).set 1 (.float .f64 0)).set 2 (.float .f64 0)).set 3 (.float .f64 0)).set 4 (.float .f64 0)) (But.below B1.o.2 hbt B1.o.2.size (aH _));clear hbt;have z0:=B1.o.1.cell 0 _ rfl;have vH:=B1.o.1.frozen 0;have z1:=B1.o.1.cell 1 _ rfl;have vJ:=B1.o.1.frozen 1;have z2:=B1.o.1.cell 2 _ rfl;have vL:=B1.o.1.frozen 2;have z3:=B1.o.1.cell 3 _ rfl;have wE:=B1.o.1.frozen 3;have z4:=B1.o.1.cell 4 _ rfl;have uz:=B1.o.1.frozen 4;go_wp2;refine iD (e:=E) Tryz.results16 ?_ ?_ BE.o.1 ?_
 · rfl
 · rfl
 · exact ⟨rfl,BE.o.2⟩
theorem F3 {w:World}{a b:Option Addr}{n m c d:Nat}{oX oY aL aK aM:Option (Bool×Nat×Int)}(mode:Int) {oD:Option (Bool×Nat×Int)}(hD:dX oD=0) (HA:Hid (∀ u:World,Below w.heap.size w u->Calls Tryz.prog 41 #[.slice a n c,.slice b m d,.int .i64 mode,.int .i64 2] u fun r w'=>r=.returned (.int .i64 0)/\Below u.heap.size u w')) (HS:Hid (∀ u:World,Below w.heap.size w u->Calls Tryz.prog 42 #[.slice a n c,.slice b m d] u fun r w'=>(∃ v,r=.returned v/\Si w' v n oX oY aL aK aM)/\Below u.heap.size u w')) (KD:Hid (∀ (u:World) {a1 a2 a3 a4 a5:Option Addr}{c1 c2 c3 c4 c5:Nat},(Nt 0 u (.slice a1 (ws (dX oX)).length c1) (dX oX)/\Nt 0 u (.slice a2 (ws (dX oY)).length c2) (dX oY)/\Nt 0 u (.slice a3 (ws (dX aL)).length c3) (dX aL)/\Nt 0 u (.slice a4 (ws (dX aK)).length c4) (dX aK)/\Nt 0 u (.slice a5 (ws (dX aM)).length c5) (dX aM))->Calls Tryz.prog 43 #[.agg #[.int .i64 (n:Nat),.bool (dN oX),.slice a1 (ws (dX oX)).length c1,.int .i64 (dE oX),.bool (dN oY),.slice a2 (ws (dX oY)).length c2,.int .i64 (dE oY),.bool (dN aL),.slice a3 (ws (dX aL)).length c3,.int .i64 (dE aL),.bool (dN aK),.slice a4 (ws (dX aK)).length c4,.int .i64 (dE aK),.bool (dN aM),.slice a5 (ws (dX aM)).length c5,.int .i64 (dE aM)]] u fun r w'=>dP 0 w' r oD/\Below u.heap.size u w')) :
 Calls Tryz.prog 16 #[.slice a n c,.slice b m d,.int .i64 mode] w fun r w'=>r=.returned (.tuple #[.agg #[.int .i64 0,.float .f64 0,.float .f64 0,.float .f64 0,.float .f64 0],.int .i64 190])/\Below w.heap.size w w':=by
 have hl:=wC (o:=oD);rw [decide_eq_true hD] at hl;have hl2:(ws (dX oD)).length=0:=by simpa using hl
 have Wq:=(bB hl hl2);clear hD hl hl2;obtain ⟨W,hW⟩:=ah (w.alloc (Obj.cells #[.int .i64 0,.float .f64 0,.float .f64 0,.float .f64 0,.float .f64 0] 36))
 have B0:Aside (Bl W w.heap.size 36 [.int .i64 0,.float .f64 0,.float .f64 0,.float .f64 0,.float .f64 0]/\Below w.heap.size w W):=by
  rw [hW];exact ⟨Bl.new _ 36 [.int .i64 0,.float .f64 0,.float .f64 0,.float .f64 0,.float .f64 0],au _ _⟩
 have HW:=ay hW;have C:=hid (HA.o W B0.o.2);clear hW HA;go_enter Tryz.func16,Tryz.ntmps16
 go_upto_region 1 with fail
 rw [<-HW.o];clear HW;go_wp2_with fail;refine C.o.mono ?_;clear C;rintro r u ⟨rfl,hb⟩;have B1:=bB (B0.o.1.below hb B0.o.1.lt) (B0.o.2.trans (hb.mono B0.o.2.size));clear hb B0;have C:=hid (HS.o u B1.o.2);clear HS;go_wp2_with fail;refine C.o.mono ?_;clear C;rintro r u2 ⟨⟨v,rfl,hv⟩,hb⟩;obtain ⟨a1,c1,a2,c2,a3,c3,a4,c4,a5,c5,rfl,n1,n2,n3,n4,n5⟩:=hv;obtain ⟨U,hU⟩:=ah (u2.alloc (Obj.cells #[.int .i64 (n:Nat),.bool (dN oX),.slice a1 (ws (dX oX)).length c1,.int .i64 (dE oX),.bool (dN oY),.slice a2 (ws (dX oY)).length c2,.int .i64 (dE oY),.bool (dN aL),.slice a3 (ws (dX aL)).length c3,.int .i64 (dE aL),.bool (dN aK),.slice a4 (ws (dX aK)).length c4,.int .i64 (dE aK),.bool (dN aM),.slice a5 (ws (dX aM)).length c5,.int .i64 (dE aM)] 70));obtain ⟨g,hg⟩:=ah (u2.heap.size)
 have B2:Aside (Bl U w.heap.size 36 [.int .i64 0,.float .f64 0,.float .f64 0,.float .f64 0,.float .f64 0]/\Bl U g 70 [.int .i64 (n:Nat),.bool (dN oX),.slice a1 (ws (dX oX)).length c1,.int .i64 (dE oX),.bool (dN oY),.slice a2 (ws (dX oY)).length c2,.int .i64 (dE oY),.bool (dN aL),.slice a3 (ws (dX aL)).length c3,.int .i64 (dE aL),.bool (dN aK),.slice a4 (ws (dX aK)).length c4,.int .i64 (dE aK),.bool (dN aM),.slice a5 (ws (dX aM)).length c5,.int .i64 (dE aM)]/\Below w.heap.size w U/\Nt 0 U (.slice a1 (ws (dX oX)).length c1) (dX oX)/\Nt 0 U (.slice a2 (ws (dX oY)).length c2) (dX oY)/\Nt 0 U (.slice a3 (ws (dX aL)).length c3) (dX aL)/\Nt 0 U (.slice a4 (ws (dX aK)).length c4) (dX aK)/\Nt 0 U (.slice a5 (ws (dX aM)).length c5) (dX aM)):=by
  rw [hU,hg];exact ⟨(B1.o.1.below hb B1.o.1.lt).alloc _,Bl.new _ 70 [.int .i64 (n:Nat),.bool (dN oX),.slice a1 (ws (dX oX)).length c1,.int .i64 (dE oX),.bool (dN oY),.slice a2 (ws (dX oY)).length c2,.int .i64 (dE oY),.bool (dN aL),.slice a3 (ws (dX aL)).length c3,.int .i64 (dE aL),.bool (dN aK),.slice a4 (ws (dX aK)).length c4,.int .i64 (dE aK),.bool (dN aM),.slice a5 (ws (dX aM)).length c5,.int .i64 (dE aM)],(B1.o.2.trans (hb.mono B1.o.2.size)).trans ((au _ _).mono (dD B1.o.2.size hb.size)),n1.below (af _ _),n2.below (af _ _),n3.below (af _ _),n4.below (af _ _),n5.below (af _ _)⟩
 have HU:=(bB hU hg);clear hU hg hb B1 n1 n2 n3 n4 n5
 go_upto_region 5 with fail
 rw [<-HU.o.1,<-HU.o.2];clear HU;have C:=hid (KD.o U ⟨B2.o.r3.1,B2.o.r4.1,B2.o.r5.1,B2.o.r6.1,B2.o.r7⟩);clear KD;have y0:=B2.o.2.1.cell 0 _ rfl;have y1:=B2.o.2.1.cell 1 _ rfl;have y2:=B2.o.2.1.cell 2 _ rfl;have y3:=B2.o.2.1.cell 3 _ rfl;have y4:=B2.o.2.1.cell 4 _ rfl;have y5:=B2.o.2.1.cell 5 _ rfl;have y6:=B2.o.2.1.cell 6 _ rfl;have y7:=B2.o.2.1.cell 7 _ rfl;have y8:=B2.o.2.1.cell 8 _ rfl;have y9:=B2.o.2.1.cell 9 _ rfl;have Dt:=B2.o.2.1.cell 10 _ rfl;have Du:=B2.o.2.1.cell 11 _ rfl;have Dv:=B2.o.2.1.cell 12 _ rfl;have y13:=B2.o.2.1.cell 13 _ rfl;have Dw:=B2.o.2.1.cell 14 _ rfl;have Tz:=B2.o.2.1.cell 15 _ rfl;go_wp2_with fail;refine C.o.mono ?_;clear C;rintro r v3 ⟨hd,hb⟩;obtain ⟨aD,cD,rfl,hN⟩:=hd.aZ;obtain ⟨V,hV⟩:=ah (v3.alloc (Obj.cells #[.bool (dN oD),.slice aD (ws (dX oD)).length cD,.int .i64 (dE oD)] 62));obtain ⟨gD,hg⟩:=ah (v3.heap.size);have jD:Below U.heap.size U V:=by rw [hV];exact hb.trans ((af _ _).mono hb.size)
 have hD0:Dk V gD (dN oD) (.slice aD (ws (dX oD)).length cD) (dE oD):=by rw [hV,hg];exact Dk.new _ _ _ _
 have hM0:Nt 0 V (.slice aD (ws (dX oD)).length cD) (dX oD):=by rw [hV];exact hN.below (af _ _)
 have B3:Aside (Bl V w.heap.size 36 [.int .i64 0,.float .f64 0,.float .f64 0,.float .f64 0,.float .f64 0]/\Bl V g 70 [.int .i64 (n:Nat),.bool (dN oX),.slice a1 (ws (dX oX)).length c1,.int .i64 (dE oX),.bool (dN oY),.slice a2 (ws (dX oY)).length c2,.int .i64 (dE oY),.bool (dN aL),.slice a3 (ws (dX aL)).length c3,.int .i64 (dE aL),.bool (dN aK),.slice a4 (ws (dX aK)).length c4,.int .i64 (dE aK),.bool (dN aM),.slice a5 (ws (dX aM)).length c5,.int .i64 (dE aM)]/\Below w.heap.size w V/\Nt 0 V (.slice a1 (ws (dX oX)).length c1) (dX oX)/\Nt 0 V (.slice a2 (ws (dX oY)).length c2) (dX oY)/\Nt 0 V (.slice a3 (ws (dX aL)).length c3) (dX aL)/\Nt 0 V (.slice a4 (ws (dX aK)).length c4) (dX aK)/\Nt 0 V (.slice a5 (ws (dX aM)).length c5) (dX aM)/\Dk V gD (dN oD) (.slice aD (ws (dX oD)).length cD) (dE oD)/\Nt 0 V (.slice aD (ws (dX oD)).length cD) (dX oD)):=⟨B2.o.1.below jD B2.o.1.lt,B2.o.2.1.below jD B2.o.2.1.lt,B2.o.r2.1.trans (jD.mono B2.o.r2.1.size),B2.o.r3.1.below jD,B2.o.r4.1.below jD,B2.o.r5.1.below jD,B2.o.r6.1.below jD,B2.o.r7.below jD,hD0,hM0⟩;have HV:=(bB hV hg);clear hV hg hb jD hN hd hD0 hM0 B2 y0 y1 y2 y3 y4 y5 y6 y7 y8 y9 Dt Du Dv y13 Dw Tz
 go_upto_region 6 with fail
 rw [<-HV.o.1,<-HV.o.2];clear HV;obtain ⟨d0,d1,d2,wS,wT,df2⟩:=B3.o.r8.1.facts;have hl:=Wq.o.1;have hl2:=Wq.o.2;have B1:=bB B3.o.1 B3.o.r2.1;obtain ⟨U,hU⟩:=ah V;rw [<-hU] at B1 d0 d1 d2 wS wT df2 |-;clear hU B3;have hbt:But w.heap.size U _:=(((((But.refl w.heap.size U).set 0 (.int .i64 0)).set 1 (.float .f64 0)).set 2 (.float .f64 0)).set 3 (.float .f64 0)).set 4 (.float .f64 0);have BE:=bB (((((B1.o.1.set 0 (.int .i64 0)).set 1 (.float .f64 0)).set 2 (.float .f64 0)).set 3 (.float .f64 0)).set 4 (.float .f64 0)) (But.below B1.o.2 hbt B1.o.2.size (aH _));clear hbt;have z0:=B1.o.1.cell 0 _ rfl;have vH:=B1.o.1.frozen 0;have z1:=B1.o.1.cell 1 _ rfl;have vJ:=B1.o.1.frozen 1;have z2:=B1.o.1.cell 2 _ rfl;have vL:=B1.o.1.frozen 2;have z3:=B1.o.1.cell 3 _ rfl;have wE:=B1.o.1.frozen 3;have z4:=B1.o.1.cell 4 _ rfl;have uz:=B1.o.1.frozen 4;go_wp2;refine iD (e:=190) Tryz.results16 ?_ ?_ BE.o.1 ?_
 · rfl
 · rfl
 · exact ⟨rfl,BE.o.2⟩
structure mF (w v:World) (g gD gC gT n:Nat) (a1 a2 a3 a4 a5 aD aC aT:Option Addr) (c1 c2 c3 c4 c5 cD cC cT:Nat) (oX oY aL aK aM oD oC oT:Option (Bool×Nat×Int)):Prop where
 b:Below w.heap.size w v
 z:Bl v w.heap.size 36 [.int .i64 0,.float .f64 0,.float .f64 0,.float .f64 0,.float .f64 0]
 s:Bl v g 70 [.int .i64 (n:Nat),.bool (dN oX),.slice a1 (ws (dX oX)).length c1,.int .i64 (dE oX),.bool (dN oY),.slice a2 (ws (dX oY)).length c2,.int .i64 (dE oY),.bool (dN aL),.slice a3 (ws (dX aL)).length c3,.int .i64 (dE aL),.bool (dN aK),.slice a4 (ws (dX aK)).length c4,.int .i64 (dE aK),.bool (dN aM),.slice a5 (ws (dX aM)).length c5,.int .i64 (dE aM)]
 ns:Nt 0 v (.slice a1 (ws (dX oX)).length c1) (dX oX)/\Nt 0 v (.slice a2 (ws (dX oY)).length c2) (dX oY)/\Nt 0 v (.slice a3 (ws (dX aL)).length c3) (dX aL)/\Nt 0 v (.slice a4 (ws (dX aK)).length c4) (dX aK)/\Nt 0 v (.slice a5 (ws (dX aM)).length c5) (dX aM)
 dd:Dk v gD (dN oD) (.slice aD (ws (dX oD)).length cD) (dE oD)
 nd:Nt 0 v (.slice aD (ws (dX oD)).length cD) (dX oD)
 dc:Dk v gC (dN oC) (.slice aC (ws (dX oC)).length cC) (dE oC)
 nc:Nt 0 v (.slice aC (ws (dX oC)).length cC) (dX oC)
 dt:Dk v gT (dN oT) (.slice aT (ws (dX oT)).length cT) (dE oT)
 nt:Nt 0 v (.slice aT (ws (dX oT)).length cT) (dX oT)
theorem mF.below {w v u:World}{g gD gC gT n:Nat}{a1 a2 a3 a4 a5 aD aC aT:Option Addr}{c1 c2 c3 c4 c5 cD cC cT:Nat}{oX oY aL aK aM oD oC oT:Option (Bool×Nat×Int)}(h:mF w v g gD gC gT n a1 a2 a3 a4 a5 aD aC aT c1 c2 c3 c4 c5 cD cC cT oX oY aL aK aM oD oC oT) (hb:Below v.heap.size v u):mF w u g gD gC gT n a1 a2 a3 a4 a5 aD aC aT c1 c2 c3 c4 c5 cD cC cT oX oY aL aK aM oD oC oT :=
 ⟨h.b.trans (hb.mono h.b.size),h.z.below hb h.z.lt,h.s.below hb h.s.lt,⟨h.ns.1.below hb,h.ns.2.1.below hb,h.ns.2.2.1.below hb,h.ns.2.2.2.1.below hb,h.ns.2.2.2.2.below hb⟩,h.dd.below hb,h.nd.below hb,h.dc.below hb,h.nc.below hb,h.dt.below hb,h.nt.below hb⟩
def VI (w:World) (g gD gC gT k:Nat):Prop:=w.heap.size<k/\g<k/\gD<k/\gC<k/\gT<k
theorem mF.up {w v:World}{g gD gC gT n:Nat}{a1 a2 a3 a4 a5 aD aC aT:Option Addr}{c1 c2 c3 c4 c5 cD cC cT:Nat}{oX oY aL aK aM oD oC oT:Option (Bool×Nat×Int)}(h:mF w v g gD gC gT n a1 a2 a3 a4 a5 aD aC aT c1 c2 c3 c4 c5 cD cC cT oX oY aL aK aM oD oC oT):VI w g gD gC gT v.heap.size:=⟨h.z.lt,h.s.lt,h.dd.lt,h.dc.lt,h.dt.lt⟩
theorem mF.but {w v u:World}{g gD gC gT n:Nat}{a1 a2 a3 a4 a5 aD aC aT:Option Addr}{c1 c2 c3 c4 c5 cD cC cT:Nat}{oX oY aL aK aM oD oC oT:Option (Bool×Nat×Int)}{k T:Nat}{L:List Value}(h:mF w v g gD gC gT n a1 a2 a3 a4 a5 aD aC aT c1 c2 c3 c4 c5 cD cC cT oX oY aL aK aM oD oC oT) (hb:But k v u) (hB:Bl v k T L) (hT:T≠147) (hk:VI w g gD gC gT k):mF w u g gD gC gT n a1 a2 a3 a4 a5 aD aC aT c1 c2 c3 c4 c5 cD cC cT oX oY aL aK aM oD oC oT:=by
 obtain ⟨k0,k1,k2,k3,k4⟩:=hk;exact ⟨But.below h.b hb h.b.size (jN k0),by unfold Bl;rw [hb.block _ h.z.lt ae];exact h.z,by unfold Bl;rw [hb.block _ h.s.lt ae];exact h.s,⟨h.ns.1.off hb (h.ns.1.bU hT hB),h.ns.2.1.off hb (h.ns.2.1.bU hT hB),h.ns.2.2.1.off hb (h.ns.2.2.1.bU hT hB),h.ns.2.2.2.1.off hb (h.ns.2.2.2.1.bU hT hB),h.ns.2.2.2.2.off hb (h.ns.2.2.2.2.bU hT hB)⟩,by unfold Dk;rw [hb.block _ h.dd.lt ae];exact h.dd,h.nd.off hb (h.nd.bU hT hB),by unfold Dk;rw [hb.block _ h.dc.lt ae];exact h.dc,h.nc.off hb (h.nc.bU hT hB),by unfold Dk;rw [hb.block _ h.dt.lt ae];exact h.dt,h.nt.off hb (h.nt.bU hT hB)⟩
def pV (w v:World) (g gD gC gT k:Nat) (L:List Value):Prop:=Bl v k 36 L/\VI w g gD gC gT k
theorem pV.below {w v u:World}{g gD gC gT k:Nat}{L:List Value}(h:pV w v g gD gC gT k L) (hb:Below v.heap.size v u):pV w u g gD gC gT k L:=⟨h.1.below hb h.1.lt,h.2⟩
end
end Go.Proofs.YtblkpkgebigojaaGreatDoor
