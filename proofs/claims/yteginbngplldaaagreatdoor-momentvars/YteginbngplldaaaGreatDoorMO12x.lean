import Derived.Test.YteginbngplldaaaGreatDoorZ44x
import Derived.Test.YteginbngplldaaaGreatDoorMO6x
import Derived.Test.YteginbngplldaaaGreatDoorZ22x
import Derived.Deep.LoopGhost
import Derived.Deep.RegionHeld3
import Derived.Deep.Cut
set_option linter.unusedVariables false
set_option linter.unusedSimpArgs false
set_option maxHeartbeats 16000000
set_option maxRecDepth 20000
namespace Go.Proofs.YteginbngplldaaaGreatDoor
namespace J
end J
section
open Go Go.RowKit J
open Go.Proofs.YteginbngplldaaaGreatDoor.B (aV aD)
attribute [local go_sem] aV aD
theorem G6 (xs:List Nat) (a:Option Addr) (n c:Nat) (less mode pa pb:Int) (w:World) (hn:n=xs.length) (hF:Fs w.heap.size w a xs) (hW:j4 xs) (hT:dF w) (hl:n<=35184372088832) (z:Nat×Int) (hz:lI lh xs less mode pa pb=z) :
 Calls Tryz.prog 36 #[.slice a n c,.int .i64 less,.int .i64 mode,.agg #[.int .i64 pa,.int .i64 pb],.func (.func 53) #[] #[]] w fun r w'=>r=.returned (.tuple #[.float .f64 z.1,.int .i64 z.2])/\Below w.heap.size w w':=by
 obtain ⟨X,E⟩:=z;simp only;obtain ⟨W,iq⟩:=af (w.alloc (Obj.cells #[.int .i64 pa,.int .i64 pb] 26))
 have B0:Aside (Bl W w.heap.size 26 [.int .i64 pa,.int .i64 pb]/\Below w.heap.size w W):=by
  exact zc
 have ik:=ak iq;clear iq;unfold lI at hz
 cases hm:qa mode with
 | false =>
   rw [hm,nK,if_neg (by decide)] at hz;obtain ⟨rfl,rfl⟩:=gJ hz;clear hz hn hF hW hT;go_enter Tryz.func36,Tryz.ntmps36
   go_upto_region 1 with fail
   rw [<-ik.o];clear ik;have C:=hid (iQ mode W);rw [hm] at C;go_wp2_with fail;refine C.o.mono ?_;rintro r v ⟨rfl,hv⟩;rw [hv];clear hv v C;go_wp2;exact aC (v:=.tuple #[.float .f64 0,.int .i64 1]) (by simp [results,Tryz.results36,go_sem]) rfl ⟨rfl,B0.o.2⟩
 | true =>
 cases hs:lsB less with
 | false =>
   rw [hm,hs,nT,if_neg (by decide)] at hz;obtain ⟨rfl,rfl⟩:=gJ hz;clear hz hn hF hW hT;go_enter Tryz.func36,Tryz.ntmps36
   go_upto_region 1 with fail
   rw [<-ik.o];clear ik;have C:=hid (iQ mode W);rw [hm] at C;go_wp2_with fail;refine C.o.mono ?_;rintro r v ⟨rfl,hv⟩;rw [hv];clear hv v C;have C:=hid (mQ less W);rw [hs] at C;go_wp2_with fail;refine C.o.mono ?_;rintro r v ⟨rfl,hv⟩;rw [hv];clear hv v C;go_wp2;exact aC (v:=.tuple #[.float .f64 0,.int .i64 1]) (by simp [results,Tryz.results36,go_sem]) rfl ⟨rfl,B0.o.2⟩
 | true =>
   rw [hm,hs,nT,if_pos rfl] at hz;have HS:=hid (PW xs a n c pa pb W hn hl ((hF.below B0.o.2).mono B0.o.2.size) hW);have HX:=iM hn hF hW hT (zA hm) (xQ hs);have HZ:=ak hz;obtain ⟨es,hes⟩:∃ e,Ps.bO pa pb xs=e:=⟨_,rfl⟩;rw [hes] at HS;have nP:=ak hes;have p0:=B0.o.1.cell 0 _ rfl;have p1:=B0.o.1.cell 1 _ rfl;clear hz hn hF hW hT hl hes;go_enter Tryz.func36,Tryz.ntmps36
   go_upto_region 1 with fail
   rw [<-ik.o];clear ik;have C:=hid (iQ mode W);rw [hm] at C;go_wp2_with fail;refine C.o.mono ?_;rintro r v ⟨rfl,hv⟩;rw [hv];clear hv v C;have C:=hid (mQ less W);rw [hs] at C;go_wp2_with fail;refine C.o.mono ?_;rintro r v ⟨rfl,hv⟩;rw [hv];clear hv v C;go_wp2_with fail;refine HS.o.mono ?_;rintro r v ⟨hr,hb⟩;have B1:=(aK (B0.o.1.below hb B0.o.1.lt) (B0.o.2.trans (hb.mono B0.o.2.size)));clear hb HS p0 p1 B0;rcases hr with ⟨he,a',c',rfl⟩|⟨he,a',c',rfl,hF'⟩
   · have h1:(es==0)=false:=by simp [he]
     exact qs
   · subst he;have HV:=hid (fun u:World=>zB nP.o u);have hz:=HZ.o;rw [if_pos nP.o] at hz;obtain ⟨s5,hs5⟩:∃ s:Int,(Ps.cn 5 xs:Nat)=s:=⟨_,rfl⟩;obtain ⟨s3,hs3⟩:∃ s:Int,(Ps.cn 3 xs:Nat)=s:=⟨_,rfl⟩;obtain ⟨s4,hs4⟩:∃ s:Int,(Ps.cn 4 xs:Nat)=s:=⟨_,rfl⟩;obtain ⟨s1,hs1⟩:∃ s:Int,(Ps.cn 1 xs:Nat)=s:=⟨_,rfl⟩;obtain ⟨s2,hs2⟩:∃ s:Int,(Ps.cn 2 xs:Nat)=s:=⟨_,rfl⟩;obtain ⟨sl,hsl⟩:∃ s:Int,(xs.length:Nat)=s:=⟨_,rfl⟩;rw [hs5,hs3,hs4,hs1,hs2,hsl] at HV |-;clear hs5 hs3 hs4 hs1 hs2 hsl;obtain ⟨fl,hfl⟩:∃ f,Ps.fin xs=f:=⟨_,rfl⟩;rw [hfl] at hF' hz |-
     have PF:Aside (j4 fl/\(∀ x ∈ fl,fZ x)/\fl.length<=65536/\rP fl=0):=by
      exact Qaw
     obtain ⟨m,nQ⟩:∃ m,fl.length=m:=⟨_,rfl⟩;obtain ⟨U,hU⟩:=af (v.alloc (Obj.cells #[.int .i64 s5,.int .i64 s3,.int .i64 s4,.int .i64 s1,.int .i64 s2,.int .i64 sl] 99));obtain ⟨gs,hgs⟩:=af (v.heap.size)
     have B2:Aside (Bl U gs 99 [.int .i64 s5,.int .i64 s3,.int .i64 s4,.int .i64 s1,.int .i64 s2,.int .i64 sl]/\Bl U w.heap.size 26 [.int .i64 pa,.int .i64 pb]/\Below w.heap.size w U/\Fs U.heap.size U a' fl):=by
      exact j9
     rw [nQ] at hz |-;have Eh:=ak nQ;have HU:=(aK hU hgs);obtain ⟨cr,hcr⟩:∃ b,GZ pa pb xs=b:=⟨_,rfl⟩;rw [hcr] at HV hz;clear hU hgs hF' B1 hfl nP HZ nQ hcr
     go_upto_region 6 with fail
     rw [<-HU.o.1,<-HU.o.2];clear HU;have q0:=B2.o.1.cell 0 _ rfl;have q1:=B2.o.1.cell 1 _ rfl;have q2:=B2.o.1.cell 2 _ rfl;have q3:=B2.o.1.cell 3 _ rfl;have q4:=B2.o.1.cell 4 _ rfl;have q5:=B2.o.1.cell 5 _ rfl;have p0:=B2.o.2.1.cell 0 _ rfl;have p1:=B2.o.2.1.cell 1 _ rfl;go_wp2_with fail;refine (HV.o _).mono ?_;rintro r u ⟨⟨x,rfl⟩,hb⟩;have B3:=(aK (B2.o.r2.1.trans (hb.mono B2.o.r2.1.size)) ((B2.o.r3.below hb).mono hb.size));clear hb HV q0 q1 q2 q3 q4 q5 p0 p1 B2
     cases cr with
     | true =>
       rw [if_pos rfl] at hz;obtain ⟨rfl,rfl⟩:=gJ hz;clear hz PF Eh;go_wp2;exact aC (v:=.tuple #[.float .f64 9221120237041090560,.int .i64 0]) (by simp [results,Tryz.results36,go_sem]) rfl ⟨rfl,B3.o.1⟩
     | false =>
       rw [if_neg (by decide)] at hz;have HZ:=ak hz;have HE:=hid (rQ fl a' m c' u Eh.o.symm B3.o.2 PF.o.1 (HX.o.r3.1.belows B3.o.1) (by have:=PF.o.r2.1;have:=Eh.o;omega));rw [PF.o.r3] at HE;clear hz;go_wp2_with fail;refine HE.o.mono ?_;rintro r u2 ⟨hr,hb⟩;rcases hr with ⟨hr,_⟩|⟨_,v2,rfl,hR⟩
       · exact absurd rfl hr
       obtain ⟨gA,p1,q1,rfl,hD,hN⟩:=hR;obtain ⟨oS,xS⟩:=af (gV 1074 (sX fl));rw [<-xS] at hN |-;obtain ⟨V,hV⟩:=af (u2.alloc (Obj.cells #[.slice (some ⟨gA,0,none⟩) m m,.bool (dN oS),.slice p1 (ws (dX oS)).length q1,.int .i64 (dE oS)] 62));obtain ⟨g7,qC⟩:=af (u2.heap.size)
       have B4:Aside (Bl V g7 62 [.slice (some ⟨gA,0,none⟩) m m,.bool (dN oS),.slice p1 (ws (dX oS)).length q1,.int .i64 (dE oS)]/\Below w.heap.size w V/\Dr V gA m m (fun i=>gV 1074 (fX fl i))/\Nt 0 V (.slice p1 (ws (dX oS)).length q1) (dX oS)):=by
        exact yW
       have HV:=(aK hV qC);have Ca:=ak xS;clear hV qC hb hD hN HE B3 xS
       go_upto_region 10 with fail
       rw [<-HV.o.1,<-HV.o.2];clear HV;have s0:=B4.o.1.cell 0 _ rfl
       by_cases hle:(m:Int)<=less
       · have Xh:decide ((m:Int)<=less)=true:=decide_eq_true hle;have hz:=HZ.o;rw [if_pos hle] at hz;obtain ⟨rfl,rfl⟩:=gJ hz;clear hz HZ;go_wp2;exact aC (v:=.tuple #[.float .f64 0,.int .i64 3]) (by simp [results,Tryz.results36,go_sem]) rfl ⟨rfl,B4.o.2.1⟩
       · have Xh:decide ((m:Int)<=less)=false:=decide_eq_false hle;have hz:=HZ.o;rw [if_neg hle] at hz;have m6:m<=65536:=by have:=PF.o.r2.1;have:=Eh.o;omega
         have qb:0<=less/\less<=1:=by have:=HX.o.r5;omega
         obtain ⟨oV,vU⟩:=af (gV 2148 (cS fl fl));obtain ⟨oD,pE⟩:=af (gV 0 ((m:Int)*((m:Int)-less)));rw [<-vU,<-pE] at hz;have FV:Fm oV:=by rw [vU];exact bB (by decide) (by decide) (ll PF.o.1 PF.o.2.1 PF.o.1 PF.o.2.1 PF.o.r2.1 rfl)
         have FD:Fm oD:=by rw [pE];exact bB (by decide) (by decide) (r9 (by omega) qb.1 qb.2)
         have Vb:Hid (∀ u:World,Below V.heap.size V u->Calls Tryz.prog 41 #[.agg #[.slice (some ⟨gA,0,none⟩) m m,.bool (dN oS),.slice p1 (ws (dX oS)).length q1,.int .i64 (dE oS)],.agg #[.slice (some ⟨gA,0,none⟩) m m,.bool (dN oS),.slice p1 (ws (dX oS)).length q1,.int .i64 (dE oS)]] u fun r w'=>aQ 0 w' r oV/\Below u.heap.size u w'):=fun u hu=>by
          exact Kp
         have qo:Hid (∀ u:World,dF u->Calls Tryz.prog 46 #[.int .i64 (m:Nat),.int .i64 less] u fun r w'=>aQ 0 w' r oD/\Below u.heap.size u w'):=fun u hu=>by
          rw [pE];exact rZ m less u hu (by omega) qb.1 qb.2 (by omega)
         have HR:Hid (∀ (u:World) (a b:Option Addr) (ca cb:Nat),dF u->Nt 0 u (.slice a (ws (dX oV)).length ca) (dX oV)->Nt 0 u (.slice b (ws (dX oD)).length cb) (dX oD)->Calls Tryz.prog 53 #[.agg #[.bool (dN oV),.slice a (ws (dX oV)).length ca,.int .i64 (dE oV),.bool (dN oD),.slice b (ws (dX oD)).length cb,.int .i64 (dE oD)],.int .i64 mode] u fun r w'=>r=.returned (.tuple #[.float .f64 X,.int .i64 E])/\Below u.heap.size u w'):=fun u a b ca cb qm n1 n2=>by
          have:=GV mode FV FD n1 n2 qm;exact y6
         have FF:=(aK FV FD);have HT:=ak HX.o.r3.1;have hdr:=(aB V.heap.size V).drew;have BD:=(aK (B4.o.1.below hdr B4.o.1.lt) (B4.o.2.1.trans (hdr.mono B4.o.2.1.size)));have C1:=hid (Vb.o V.drew hdr);clear hz HZ vU pE FV FD hdr Eh m6 qb PF HX Vb;have kS:Aside (V.drew.cell? ⟨g7,0,none⟩=some (.slice (some ⟨gA,0,none⟩) m m)/\V.drew.cell? ⟨g7,1,none⟩=some (.bool (dN oS))/\V.drew.cell? ⟨g7,2,none⟩=some (.slice p1 (ws (dX oS)).length q1)/\V.drew.cell? ⟨g7,3,none⟩=some (.int .i64 (dE oS))):=⟨BD.o.1.cell 0 _ rfl,BD.o.1.cell 1 _ rfl,BD.o.1.cell 2 _ rfl,BD.o.1.cell 3 _ rfl⟩;go_wp2_with fail;clear s0 B4
         go_region_held3 (fun w'=>w'.cell? ⟨g7,0,none⟩=some (.slice (some ⟨gA,0,none⟩) m m)/\w'.cell? ⟨g7,1,none⟩=some (.bool (dN oS))/\w'.cell? ⟨g7,2,none⟩=some (.slice p1 (ws (dX oS)).length q1)/\w'.cell? ⟨g7,3,none⟩=some (.int .i64 (dE oS))) (with_reducible exact kS.o) (first
          | (go_at_call 41
             with_reducible refine C1.o.mono ?_
             rintro r u3 ⟨hd,hb⟩;obtain ⟨a3,c3,rfl,dV⟩:=hd.aH;have BD:=cK (BD.o.1.below hb BD.o.1.lt) (BD.o.2.trans (hb.mono BD.o.2.size)) dV;have kS:=ak (ji hb kS.o);have C2:=hid (qo.o u3 (HT.o.belows BD.o.2.1))
             clear hb hd dV C1)
          | (go_at_call 46
             with_reducible refine C2.o.mono ?_
             rintro r u4 ⟨hd,hb⟩;obtain ⟨a4,c4,rfl,iy⟩:=hd.aH;have BE:=cK (BD.o.2.1.trans (hb.mono BD.o.2.1.size)) (BD.o.r2.below hb) iy;have kS:=ak (ji hb kS.o);have C3:=hid (HR.o u4 a3 a4 c3 c4 (HT.o.belows BE.o.1) BE.o.2.1 BE.o.r2)
             clear hb hd iy C2)
          | (go_at_call 53
             with_reducible refine C3.o.mono ?_
             rintro r u5 ⟨rfl,hb⟩;have BF:=ak (BE.o.1.trans (hb.mono BE.o.1.size));have kS:=ak (ji hb kS.o)
             clear hb C3))
         exact xr
theorem Vd (xs:List Nat) (a:Option Addr) (n c:Nat) (less mode pa pb:Int) (w:World) (hn:n=xs.length) (hF:Fs w.heap.size w a xs) (hW:j4 xs) (hT:dF w) (hl:n<=35184372088832) (z:Nat×Int) (hz:lI lh xs less mode pa pb=z) :
 Calls Tryz.prog 19 #[.slice a n c,.int .i64 less,.int .i64 mode,.agg #[.int .i64 pa,.int .i64 pb]] w fun r w'=>r=.returned (.tuple #[.float .f64 z.1,.int .i64 z.2])/\Below w.heap.size w w':=by
 obtain ⟨W,iq⟩:=af (w.alloc (Obj.cells #[.int .i64 pa,.int .i64 pb] 26))
 have B0:Aside (Bl W w.heap.size 26 [.int .i64 pa,.int .i64 pb]/\Below w.heap.size w W):=by
  exact zc
 have C:=hid (G6 xs a n c less mode pa pb W hn ((hF.below B0.o.2).mono B0.o.2.size) hW (hT.belows B0.o.2) hl z hz);have ik:=ak iq;obtain ⟨X,E⟩:=z;clear iq hn hF hW hT hl hz;simp only at C |-;go_enter Tryz.func19,Tryz.ntmps19
 go_upto_region 1 with fail
 rw [<-ik.o];clear ik;have p0:=B0.o.1.cell 0 _ rfl;have p1:=B0.o.1.cell 1 _ rfl;go_wp2_with fail;refine C.o.mono ?_;rintro r v ⟨rfl,hb⟩;have B1:=ak (B0.o.2.trans (hb.mono B0.o.2.size));clear hb C p0 p1;go_wp2;exact aC (v:=.tuple #[.float .f64 X,.int .i64 E]) (by simp [results,Tryz.results19,go_sem]) rfl ⟨rfl,B1.o⟩
end
section
open Go Go.RowKit J
theorem df {P:Program}{ops:Array Oper}{Q:Exit->Act->World->Prop}{md:Region.Mode}{S:World->Prop}{stop i j:Nat}{oi oj:Oper}{fuel:Nat}{listed:Array Bool}{a:Act}{w:World}(hr:Region.ready md ops listed=[i,j]) (ei:ops[i]?=some oi) (ej:ops[j]?=some oj)
 (hi:∀ K':Act->World->Prop,Shut (∀ b u,(i<stop->S u)->eQ P md ops Q S stop fuel (listed.setIfInBounds i true) b u->K' b u)->if Region.wanted oi (yielded ops a.tmps)=true then Oper.wp P oi a w K' Q else K' (a.put oi.dst undef) w)
 (hj:∀ K':Act->World->Prop,Shut (∀ b u,(j<stop->S u)->eQ P md ops Q S stop fuel (listed.setIfInBounds j true) b u->K' b u)->if Region.wanted oj (yielded ops a.tmps)=true then Oper.wp P oj a w K' Q else K' (a.put oj.dst undef) w) :
 eQ P md ops Q S stop (fuel+1) listed a w :=
 ⟨fun h0=>(by rw [hr] at h0;cases h0),fun q hq=>by
  rw [hr] at hq;simp only [List.mem_cons,List.not_mem_nil,or_false] at hq;rcases hq with rfl|rfl
  · exact wpOp_step ei (fun K' hK=>hi K' (fun b u h1 h2=>hK b u ⟨h1,h2⟩))
  · exact wpOp_step ej (fun K' hK=>hj K' (fun b u h1 h2=>hK b u ⟨h1,h2⟩))⟩
theorem qc {P:Program}{ops:Array Oper}{Q:Exit->Act->World->Prop}{md:Region.Mode}{S:World->Prop}{stop i j k:Nat}{oi oj ok:Oper}{fuel:Nat}{listed:Array Bool}{a:Act}{w:World}(hr:Region.ready md ops listed=[i,j,k]) (ei:ops[i]?=some oi) (ej:ops[j]?=some oj) (ek:ops[k]?=some ok)
 (hi:∀ K':Act->World->Prop,Shut (∀ b u,(i<stop->S u)->eQ P md ops Q S stop fuel (listed.setIfInBounds i true) b u->K' b u)->if Region.wanted oi (yielded ops a.tmps)=true then Oper.wp P oi a w K' Q else K' (a.put oi.dst undef) w)
 (hj:∀ K':Act->World->Prop,Shut (∀ b u,(j<stop->S u)->eQ P md ops Q S stop fuel (listed.setIfInBounds j true) b u->K' b u)->if Region.wanted oj (yielded ops a.tmps)=true then Oper.wp P oj a w K' Q else K' (a.put oj.dst undef) w)
 (hk:∀ K':Act->World->Prop,Shut (∀ b u,(k<stop->S u)->eQ P md ops Q S stop fuel (listed.setIfInBounds k true) b u->K' b u)->if Region.wanted ok (yielded ops a.tmps)=true then Oper.wp P ok a w K' Q else K' (a.put ok.dst undef) w) :
 eQ P md ops Q S stop (fuel+1) listed a w :=
 ⟨fun h0=>(by rw [hr] at h0;cases h0),fun q hq=>by
  rw [hr] at hq;simp only [List.mem_cons,List.not_mem_nil,or_false] at hq;rcases hq with rfl|rfl|rfl
  · exact wpOp_step ei (fun K' hK=>hi K' (fun b u h1 h2=>hK b u ⟨h1,h2⟩))
  · exact wpOp_step ej (fun K' hK=>hj K' (fun b u h1 h2=>hK b u ⟨h1,h2⟩))
  · exact wpOp_step ek (fun K' hK=>hk K' (fun b u h1 h2=>hK b u ⟨h1,h2⟩))⟩
theorem L6 (w:World) (n h0 h1:Nat) (A T:Nat->Option (Bool×Nat×Int)) (hn:n<=65536) (hT:dF w) (FA:∀ i,i<n->Fm (A i)) (FT:∀ i,i<=n->Fm (T i)) (ET:∀ i,i<n->il (T i) (A i)=T (i+1)) (E0:ig=T 0)
 (HC:Hid (∀ (i:Nat) (u:World),i<n->Below w.heap.size w u->Calls Tryz.prog 142 #[.int .i64 (i:Nat),.pointer (some ⟨h0,0,none⟩),.pointer (some ⟨h1,0,none⟩)] u fun r w'=>aQ 0 w' r (A i)/\Below u.heap.size u w')) :
 Calls Tryz.prog 84 #[.int .i64 (n:Nat),.func (.func 142) #[] #[.pointer (some ⟨h0,0,none⟩),.pointer (some ⟨h1,0,none⟩)]] w fun r w'=>aQ 0 w' r (T n)/\Below w.heap.size w w':=by
 obtain ⟨W,hW⟩:=af ((w.alloc (Obj.cells #[.bool false,.slice none 0 0,.int .i64 0] 37)).alloc (Obj.cells #[.bool false,.slice none 0 0,.int .i64 0] 37))
 have H0:Aside (Lo W (w.heap.size+1) (T 0)/\Lo W w.heap.size ig/\Below w.heap.size w W):=by
  subst hW;exact Up
 have HP:Hid (∀ (i:Nat) (u:World) (p q:Option Addr) (cp cq:Nat),i<n->dF u->Nt 0 u (.slice p (ws (dX (T i))).length cp) (dX (T i))->Nt 0 u (.slice q (ws (dX (A i))).length cq) (dX (A i))->Calls Tryz.prog 131 #[.agg #[.bool (dN (T i)),.slice p (ws (dX (T i))).length cp,.int .i64 (dE (T i))],.agg #[.bool (dN (A i)),.slice q (ws (dX (A i))).length cq,.int .i64 (dE (A i))]] u fun r w'=>aQ 0 w' r (T (i+1))/\Below u.heap.size u w') :=
  fun i u p q cp cq hi hT n1 n2=>Bu (FT i (by omega)) (FA i hi) (FT (i+1) (by omega)) n1 n2 hT (ET i hi)
 have HW:=ak hW;have PF:=aK FT FA;have HT:=ak hT;clear hW FT FA ET E0 hT;go_enter Tryz.func84,Tryz.ntmps84
 go_upto_region 2 with fail
 rw [<-HW.o];clear HW;go_wp2
 go_loopg [8] n (fun gk i wr=>∃ j:Nat,gk+j=n/\i=.int .i64 (j:Nat)/\Aside (Lo wr (w.heap.size+1) (T j)/\Lo wr w.heap.size ig/\Below w.heap.size w wr))
 case atStart=>exact ⟨0,by omega,by simp,H0.o⟩
 case round =>
  exact Zs
theorem L8 (w:World) (n h0 h1 h2 h3:Nat) (A T:Nat->Option (Bool×Nat×Int)) (hn:n<=65536) (hT:dF w) (FA:∀ i,i<n->Fm (A i)) (FT:∀ i,i<=n->Fm (T i)) (ET:∀ i,i<n->il (T i) (A i)=T (i+1)) (E0:ig=T 0)
 (HC:Hid (∀ (i:Nat) (u:World),i<n->Below w.heap.size w u->Calls Tryz.prog 95 #[.int .i64 (i:Nat),.pointer (some ⟨h0,0,none⟩),.pointer (some ⟨h1,0,none⟩),.pointer (some ⟨h2,0,none⟩),.pointer (some ⟨h3,0,none⟩)] u fun r w'=>aQ 0 w' r (A i)/\Below u.heap.size u w')) :
 Calls Tryz.prog 84 #[.int .i64 (n:Nat),.func (.func 95) #[] #[.pointer (some ⟨h0,0,none⟩),.pointer (some ⟨h1,0,none⟩),.pointer (some ⟨h2,0,none⟩),.pointer (some ⟨h3,0,none⟩)]] w fun r w'=>aQ 0 w' r (T n)/\Below w.heap.size w w':=by
 obtain ⟨W,hW⟩:=af ((w.alloc (Obj.cells #[.bool false,.slice none 0 0,.int .i64 0] 37)).alloc (Obj.cells #[.bool false,.slice none 0 0,.int .i64 0] 37))
 have H0:Aside (Lo W (w.heap.size+1) (T 0)/\Lo W w.heap.size ig/\Below w.heap.size w W):=by
  subst hW;exact Up
 have HP:Hid (∀ (i:Nat) (u:World) (p q:Option Addr) (cp cq:Nat),i<n->dF u->Nt 0 u (.slice p (ws (dX (T i))).length cp) (dX (T i))->Nt 0 u (.slice q (ws (dX (A i))).length cq) (dX (A i))->Calls Tryz.prog 131 #[.agg #[.bool (dN (T i)),.slice p (ws (dX (T i))).length cp,.int .i64 (dE (T i))],.agg #[.bool (dN (A i)),.slice q (ws (dX (A i))).length cq,.int .i64 (dE (A i))]] u fun r w'=>aQ 0 w' r (T (i+1))/\Below u.heap.size u w') :=
  fun i u p q cp cq hi hT n1 n2=>Bu (FT i (by omega)) (FA i hi) (FT (i+1) (by omega)) n1 n2 hT (ET i hi)
 have HW:=ak hW;have PF:=aK FT FA;have HT:=ak hT;clear hW FT FA ET E0 hT;go_enter Tryz.func84,Tryz.ntmps84
 go_upto_region 2 with fail
 rw [<-HW.o];clear HW;go_wp2
 go_loopg [8] n (fun gk i wr=>∃ j:Nat,gk+j=n/\i=.int .i64 (j:Nat)/\Aside (Lo wr (w.heap.size+1) (T j)/\Lo wr w.heap.size ig/\Below w.heap.size w wr))
 case atStart=>exact ⟨0,by omega,by simp,H0.o⟩
 case round =>
  exact Zs
def Ml:Nat->Nat->Int
 | _,0=>1
 | 1,1=>1
 | 2,1=>2
 | 2,2=>1
 | 3,1=>3
 | 3,2=>3
 | 3,3=>1
 | 4,1=>4
 | 4,2=>6
 | 4,3=>4
 | 4,4=>1
 | _,_=>0
theorem Kd{P:Prop}(h:P:=by
 exact ⟨rfl,by simp⟩):P:=h
theorem PX (w:World):Calls Tryz.prog 97 #[.int .i64 1,.int .i64 0] w fun r w'=>r=.returned (.int .i64 1)/\w'=w:=by
 go_enter Tryz.func97,Tryz.ntmps97;go_wp2
 go_loopg [5,8] 0 (fun gk v i wr=>wr=w/\((gk=0/\i=.int .i64 0/\v=.int .i64 1)))
 case atStart=>exact Kd
 case round =>
  obtain ⟨rfl,hrel⟩:=hrel;rcases hrel with ⟨rfl,rfl,rfl⟩
  · exact Z3
theorem PY (w:World):Calls Tryz.prog 97 #[.int .i64 1,.int .i64 1] w fun r w'=>r=.returned (.int .i64 1)/\w'=w:=by
 go_enter Tryz.func97,Tryz.ntmps97;go_wp2
 go_loopg [5,8] 1 (fun gk v i wr=>wr=w/\((gk=1/\i=.int .i64 0/\v=.int .i64 1)\/(gk=0/\i=.int .i64 1/\v=.int .i64 1)))
 case atStart=>exact Kd
 case round =>
  obtain ⟨rfl,hrel⟩:=hrel;rcases hrel with ⟨rfl,rfl,rfl⟩|⟨rfl,rfl,rfl⟩
  · go_wp2;go_roundg 0
    case measure=>omega
    case rel=>exact Kd
  · exact Z3
theorem PZ (w:World):Calls Tryz.prog 97 #[.int .i64 2,.int .i64 0] w fun r w'=>r=.returned (.int .i64 1)/\w'=w:=by
 go_enter Tryz.func97,Tryz.ntmps97;go_wp2
 go_loopg [5,8] 0 (fun gk v i wr=>wr=w/\((gk=0/\i=.int .i64 0/\v=.int .i64 1)))
 case atStart=>exact Kd
 case round =>
  obtain ⟨rfl,hrel⟩:=hrel;rcases hrel with ⟨rfl,rfl,rfl⟩
  · exact Z3
theorem P5 (w:World):Calls Tryz.prog 97 #[.int .i64 2,.int .i64 1] w fun r w'=>r=.returned (.int .i64 2)/\w'=w:=by
 go_enter Tryz.func97,Tryz.ntmps97;go_wp2
 go_loopg [5,8] 1 (fun gk v i wr=>wr=w/\((gk=1/\i=.int .i64 0/\v=.int .i64 1)\/(gk=0/\i=.int .i64 1/\v=.int .i64 2)))
 case atStart=>exact Kd
 case round =>
  obtain ⟨rfl,hrel⟩:=hrel;rcases hrel with ⟨rfl,rfl,rfl⟩|⟨rfl,rfl,rfl⟩
  · go_wp2;go_roundg 0
    case measure=>omega
    case rel=>exact Kd
  · exact Z3
theorem P6 (w:World):Calls Tryz.prog 97 #[.int .i64 2,.int .i64 2] w fun r w'=>r=.returned (.int .i64 1)/\w'=w:=by
 go_enter Tryz.func97,Tryz.ntmps97;go_wp2
 go_loopg [5,8] 2 (fun gk v i wr=>wr=w/\((gk=2/\i=.int .i64 0/\v=.int .i64 1)\/(gk=1/\i=.int .i64 1/\v=.int .i64 2)\/(gk=0/\i=.int .i64 2/\v=.int .i64 1)))
 case atStart=>exact Kd
 case round =>
  obtain ⟨rfl,hrel⟩:=hrel;rcases hrel with ⟨rfl,rfl,rfl⟩|⟨rfl,rfl,rfl⟩|⟨rfl,rfl,rfl⟩
  · go_wp2;go_roundg 1
    case measure=>omega
    case rel=>exact Kd
  · go_wp2;go_roundg 0
    case measure=>omega
    case rel=>exact Kd
  · exact Z3
theorem P7 (w:World):Calls Tryz.prog 97 #[.int .i64 3,.int .i64 0] w fun r w'=>r=.returned (.int .i64 1)/\w'=w:=by
 go_enter Tryz.func97,Tryz.ntmps97;go_wp2
 go_loopg [5,8] 0 (fun gk v i wr=>wr=w/\((gk=0/\i=.int .i64 0/\v=.int .i64 1)))
 case atStart=>exact Kd
 case round =>
  obtain ⟨rfl,hrel⟩:=hrel;rcases hrel with ⟨rfl,rfl,rfl⟩
  · exact Z3
theorem P8 (w:World):Calls Tryz.prog 97 #[.int .i64 3,.int .i64 1] w fun r w'=>r=.returned (.int .i64 3)/\w'=w:=by
 go_enter Tryz.func97,Tryz.ntmps97;go_wp2
 go_loopg [5,8] 1 (fun gk v i wr=>wr=w/\((gk=1/\i=.int .i64 0/\v=.int .i64 1)\/(gk=0/\i=.int .i64 1/\v=.int .i64 3)))
 case atStart=>exact Kd
 case round =>
  obtain ⟨rfl,hrel⟩:=hrel;rcases hrel with ⟨rfl,rfl,rfl⟩|⟨rfl,rfl,rfl⟩
  · go_wp2;go_roundg 0
    case measure=>omega
    case rel=>exact Kd
  · exact Z3
theorem P9 (w:World):Calls Tryz.prog 97 #[.int .i64 3,.int .i64 2] w fun r w'=>r=.returned (.int .i64 3)/\w'=w:=by
 go_enter Tryz.func97,Tryz.ntmps97;go_wp2
 go_loopg [5,8] 2 (fun gk v i wr=>wr=w/\((gk=2/\i=.int .i64 0/\v=.int .i64 1)\/(gk=1/\i=.int .i64 1/\v=.int .i64 3)\/(gk=0/\i=.int .i64 2/\v=.int .i64 3)))
 case atStart=>exact Kd
 case round =>
  obtain ⟨rfl,hrel⟩:=hrel;rcases hrel with ⟨rfl,rfl,rfl⟩|⟨rfl,rfl,rfl⟩|⟨rfl,rfl,rfl⟩
  · go_wp2;go_roundg 1
    case measure=>omega
    case rel=>exact Kd
  · go_wp2;go_roundg 0
    case measure=>omega
    case rel=>exact Kd
  · exact Z3
theorem Qa (w:World):Calls Tryz.prog 97 #[.int .i64 3,.int .i64 3] w fun r w'=>r=.returned (.int .i64 1)/\w'=w:=by
 go_enter Tryz.func97,Tryz.ntmps97;go_wp2
 go_loopg [5,8] 3 (fun gk v i wr=>wr=w/\((gk=3/\i=.int .i64 0/\v=.int .i64 1)\/(gk=2/\i=.int .i64 1/\v=.int .i64 3)\/(gk=1/\i=.int .i64 2/\v=.int .i64 3)\/(gk=0/\i=.int .i64 3/\v=.int .i64 1)))
 case atStart=>exact Kd
 case round =>
  obtain ⟨rfl,hrel⟩:=hrel;rcases hrel with ⟨rfl,rfl,rfl⟩|⟨rfl,rfl,rfl⟩|⟨rfl,rfl,rfl⟩|⟨rfl,rfl,rfl⟩
  · go_wp2;go_roundg 2
    case measure=>omega
    case rel=>exact Kd
  · go_wp2;go_roundg 1
    case measure=>omega
    case rel=>exact Kd
  · go_wp2;go_roundg 0
    case measure=>omega
    case rel=>exact Kd
  · exact Z3
theorem Qb (w:World):Calls Tryz.prog 97 #[.int .i64 4,.int .i64 0] w fun r w'=>r=.returned (.int .i64 1)/\w'=w:=by
 go_enter Tryz.func97,Tryz.ntmps97;go_wp2
 go_loopg [5,8] 0 (fun gk v i wr=>wr=w/\((gk=0/\i=.int .i64 0/\v=.int .i64 1)))
 case atStart=>exact Kd
 case round =>
  obtain ⟨rfl,hrel⟩:=hrel;rcases hrel with ⟨rfl,rfl,rfl⟩
  · exact Z3
theorem Qc (w:World):Calls Tryz.prog 97 #[.int .i64 4,.int .i64 1] w fun r w'=>r=.returned (.int .i64 4)/\w'=w:=by
 go_enter Tryz.func97,Tryz.ntmps97;go_wp2
 go_loopg [5,8] 1 (fun gk v i wr=>wr=w/\((gk=1/\i=.int .i64 0/\v=.int .i64 1)\/(gk=0/\i=.int .i64 1/\v=.int .i64 4)))
 case atStart=>exact Kd
 case round =>
  obtain ⟨rfl,hrel⟩:=hrel;rcases hrel with ⟨rfl,rfl,rfl⟩|⟨rfl,rfl,rfl⟩
  · go_wp2;go_roundg 0
    case measure=>omega
    case rel=>exact Kd
  · exact Z3
theorem Qd (w:World):Calls Tryz.prog 97 #[.int .i64 4,.int .i64 2] w fun r w'=>r=.returned (.int .i64 6)/\w'=w:=by
 go_enter Tryz.func97,Tryz.ntmps97;go_wp2
 go_loopg [5,8] 2 (fun gk v i wr=>wr=w/\((gk=2/\i=.int .i64 0/\v=.int .i64 1)\/(gk=1/\i=.int .i64 1/\v=.int .i64 4)\/(gk=0/\i=.int .i64 2/\v=.int .i64 6)))
 case atStart=>exact Kd
 case round =>
  obtain ⟨rfl,hrel⟩:=hrel;rcases hrel with ⟨rfl,rfl,rfl⟩|⟨rfl,rfl,rfl⟩|⟨rfl,rfl,rfl⟩
  · go_wp2;go_roundg 1
    case measure=>omega
    case rel=>exact Kd
  · go_wp2;go_roundg 0
    case measure=>omega
    case rel=>exact Kd
  · exact Z3
theorem Qe (w:World):Calls Tryz.prog 97 #[.int .i64 4,.int .i64 3] w fun r w'=>r=.returned (.int .i64 4)/\w'=w:=by
 go_enter Tryz.func97,Tryz.ntmps97;go_wp2
 go_loopg [5,8] 3 (fun gk v i wr=>wr=w/\((gk=3/\i=.int .i64 0/\v=.int .i64 1)\/(gk=2/\i=.int .i64 1/\v=.int .i64 4)\/(gk=1/\i=.int .i64 2/\v=.int .i64 6)\/(gk=0/\i=.int .i64 3/\v=.int .i64 4)))
 case atStart=>exact Kd
 case round =>
  obtain ⟨rfl,hrel⟩:=hrel;rcases hrel with ⟨rfl,rfl,rfl⟩|⟨rfl,rfl,rfl⟩|⟨rfl,rfl,rfl⟩|⟨rfl,rfl,rfl⟩
  · go_wp2;go_roundg 2
    case measure=>omega
    case rel=>exact Kd
  · go_wp2;go_roundg 1
    case measure=>omega
    case rel=>exact Kd
  · go_wp2;go_roundg 0
    case measure=>omega
    case rel=>exact Kd
  · exact Z3
theorem Qf (w:World):Calls Tryz.prog 97 #[.int .i64 4,.int .i64 4] w fun r w'=>r=.returned (.int .i64 1)/\w'=w:=by
 go_enter Tryz.func97,Tryz.ntmps97;go_wp2
 go_loopg [5,8] 4 (fun gk v i wr=>wr=w/\((gk=4/\i=.int .i64 0/\v=.int .i64 1)\/(gk=3/\i=.int .i64 1/\v=.int .i64 4)\/(gk=2/\i=.int .i64 2/\v=.int .i64 6)\/(gk=1/\i=.int .i64 3/\v=.int .i64 4)\/(gk=0/\i=.int .i64 4/\v=.int .i64 1)))
 case atStart=>exact Kd
 case round =>
  obtain ⟨rfl,hrel⟩:=hrel;rcases hrel with ⟨rfl,rfl,rfl⟩|⟨rfl,rfl,rfl⟩|⟨rfl,rfl,rfl⟩|⟨rfl,rfl,rfl⟩|⟨rfl,rfl,rfl⟩
  · go_wp2;go_roundg 3
    case measure=>omega
    case rel=>exact Kd
  · go_wp2;go_roundg 2
    case measure=>omega
    case rel=>exact Kd
  · go_wp2;go_roundg 1
    case measure=>omega
    case rel=>exact Kd
  · go_wp2;go_roundg 0
    case measure=>omega
    case rel=>exact Kd
  · exact Z3
theorem Xi (k j:Nat) (hk:1<=k) (hk4:k<=4) (hj:j<=k) (w:World):Calls Tryz.prog 97 #[.int .i64 (k:Nat),.int .i64 (j:Nat)] w fun r w'=>r=.returned (.int .i64 (Ml k j))/\w'=w:=by
 obtain rfl|rfl|rfl|rfl:k=1\/k=2\/k=3\/k=4:=by omega
 · obtain rfl | rfl:j=0\/j=1:=by omega
   · exact PX w
   · exact PY w
 · obtain rfl | rfl | rfl:j=0\/j=1\/j=2:=by omega
   · exact PZ w
   · exact P5 w
   · exact P6 w
 · obtain rfl | rfl | rfl | rfl:j=0\/j=1\/j=2\/j=3:=by omega
   · exact P7 w
   · exact P8 w
   · exact P9 w
   · exact Qa w
 · obtain rfl | rfl | rfl | rfl | rfl:j=0\/j=1\/j=2\/j=3\/j=4:=by omega
   · exact Qb w
   · exact Qc w
   · exact Qd w
   · exact Qe w
   · exact Qf w
theorem Jh (k j:Nat) (hk:1<=k) (hk4:k<=4) (hj:j<=k):0<=Ml k j/\Ml k j<=6:=by
 obtain rfl|rfl|rfl|rfl:k=1\/k=2\/k=3\/k=4:=by omega
 · obtain rfl | rfl:j=0\/j=1:=by omega
   · decide
   · decide
 · obtain rfl | rfl | rfl:j=0\/j=1\/j=2:=by omega
   · decide
   · decide
   · decide
 · obtain rfl | rfl | rfl | rfl:j=0\/j=1\/j=2\/j=3:=by omega
   · decide
   · decide
   · decide
   · decide
 · obtain rfl | rfl | rfl | rfl | rfl:j=0\/j=1\/j=2\/j=3\/j=4:=by omega
   · decide
   · decide
   · decide
   · decide
   · decide
theorem pF {w:World}{a:Option Addr}{ca k u m:Nat}{V:Int}(hk:k<=5) (hu:u<=1100) (hm:m<=2200) (bV:Bd m V) (hT:dF w) (N1:Nt 0 w (.slice a (ws (dX (gV u V))).length ca) (dX (gV u V))) :
 Calls Tryz.prog 51 #[.agg #[.bool (dN (gV u V)),.slice a (ws (dX (gV u V))).length ca,.int .i64 (dE (gV u V))],.int .i64 (k:Nat)] w fun r w'=>aQ 0 w' r (gV (u*k) (V^k))/\Below w.heap.size w w':=by
 have hq:∀ i,i<=k->u*i<=5500/\m*i<=11000:=fun i hi=>⟨dC (jr hu (by omega:i<=5)) (by decide),dC (jr hm (by omega:i<=5)) (by decide)⟩;refine Pw w a ca k (gV u V) (fun i=>gV (u*i) (V^i)) (by omega) hT (bB (by omega) (by omega) bV) (fun i hi=>bB (by have:=hq i hi;omega) (by have:=hq i hi;omega) (bV.pow i)) (fun i hi=>?_) ?_ N1
 · have:=hq i (by omega);rw [jZ (by omega) (by omega) (by omega) (by omega) (bV.pow i) bV,<-Cg,<-Int.pow_succ]
 · show gV 0 1=gV (u*0) (V^0);rw [nH,Int.pow_zero]
theorem L9 (i n k h0 h1 gx:Nat) (A:Nat->Option (Bool×Nat×Int)) (c:Option (Bool×Nat×Int)) (u:World) (hi:i<n) (hn:n<=65536)
 (HR:Hid (∀ (v:World) (a:Option Addr) (d:Nat),Below u.heap.size u v->Nt 0 v (.slice a (ws (dX (A i))).length d) (dX (A i))->Calls Tryz.prog 51 #[.agg #[.bool (dN (A i)),.slice a (ws (dX (A i))).length d,.int .i64 (dE (A i))],.int .i64 (k:Nat)] v fun r w'=>aQ 0 w' r c/\Below v.heap.size v w'))
 (k0:u.cell? ⟨h0,0,none⟩=some (.slice (some ⟨gx,0,none⟩) n n)) (k1:u.cell? ⟨h1,0,none⟩=some (.int .i64 (k:Nat))) (hx:Dr u gx n n A) :
 Calls Tryz.prog 142 #[.int .i64 (i:Nat),.pointer (some ⟨h0,0,none⟩),.pointer (some ⟨h1,0,none⟩)] u fun r w'=>aQ 0 w' r c/\Below u.heap.size u w':=by
 obtain ⟨W,hW⟩:=af (u.alloc (Obj.cells #[.bool false,.slice none 0 0,.int .i64 0] 37));have LT:Aside (h0<u.heap.size/\h1<u.heap.size/\gx<u.heap.size):=⟨lC u _ k0,lC u _ k1,hx.lt⟩;have hb:Below u.heap.size u W.drew:=by rw [hW];exact xG u
 have L0:Lo W.drew u.heap.size ig:=by rw [hW];exact xH u
 obtain ⟨p1,q1,x0,x1,x2,M1⟩:=(hx.below hb).facts i hi;have kS:Aside (W.drew.cell? ⟨h0,0,none⟩=some (.slice (some ⟨gx,0,none⟩) n n)/\W.drew.cell? ⟨h1,0,none⟩=some (.int .i64 (k:Nat))/\W.drew.cell? ⟨gx,i*3,none⟩=some (.bool (dN (A i)))/\W.drew.cell? ⟨gx,i*3+1,none⟩=some (.slice p1 (ws (dX (A i))).length q1)/\W.drew.cell? ⟨gx,i*3+2,none⟩=some (.int .i64 (dE (A i)))):=⟨lG k0 hb,lG k1 hb,x0,x1,x2⟩;have C:=hid (HR.o W.drew p1 q1 hb M1);have BD:=(aK hb L0);have HW:=ak hW;have HI:=ak hi;clear hW hb L0 x0 x1 x2 M1 k0 k1 hx HR;go_enter Tryz.func142,Tryz.ntmps142
 go_upto_region 1 with fail
 rw [<-HW.o];clear HW
 go_region_held3 (fun w'=>w'.cell? ⟨h0,0,none⟩=some (.slice (some ⟨gx,0,none⟩) n n)/\w'.cell? ⟨h1,0,none⟩=some (.int .i64 (k:Nat))/\w'.cell? ⟨gx,i*3,none⟩=some (.bool (dN (A i)))/\w'.cell? ⟨gx,i*3+1,none⟩=some (.slice p1 (ws (dX (A i))).length q1)/\w'.cell? ⟨gx,i*3+2,none⟩=some (.int .i64 (dE (A i)))) (first | with_reducible exact kS.o | with_reducible exact kT.o) (first
  | (go_at_call 51
     with_reducible refine C.o.mono ?_
     rintro r u3 ⟨hd,hb⟩;obtain ⟨a3,c3,rfl,dV⟩:=hd.aH;have BD:=cK (BD.o.1.trans (hb.mono BD.o.1.size)) (BD.o.2.below hb) dV;have kS:=ak (ck hb kS.o fun h=>ck1 hb h);have kT:=dK (lg (g:=u.heap.size) (x:=.bool (dN c)) (y:=.slice a3 (ws (dX c)).length c3) (z:=.int .i64 (dE c)) kS.o.1 (dH LT.o.1)) (lg (g:=u.heap.size) (x:=.bool (dN c)) (y:=.slice a3 (ws (dX c)).length c3) (z:=.int .i64 (dE c)) kS.o.2.1 (dH LT.o.2.1)) (lg (g:=u.heap.size) (x:=.bool (dN c)) (y:=.slice a3 (ws (dX c)).length c3) (z:=.int .i64 (dE c)) kS.o.r2.1 (dH LT.o.r2)) (lg (g:=u.heap.size) (x:=.bool (dN c)) (y:=.slice a3 (ws (dX c)).length c3) (z:=.int .i64 (dE c)) kS.o.r3.1 (dH LT.o.r2)) (lg (g:=u.heap.size) (x:=.bool (dN c)) (y:=.slice a3 (ws (dX c)).length c3) (z:=.int .i64 (dE c)) kS.o.r4 (dH LT.o.r2));obtain ⟨zp,zq,DZ,MZ⟩:=BD.o.2.1;obtain ⟨z0,z1,z2,fu,fw,fA⟩:=DZ.facts
     clear hb hd dV DZ MZ C))
 go_wp2;exact iI Tryz.results142 rfl BD.o.2.1 BD.o.1 (aA _) BD.o.r2
theorem yb{P:Prop}(h:P:=by
 have z1:=Bl.new (w.alloc (Obj.cells #[.slice (some ⟨gx,0,none⟩) n n,.bool (dN oS),.slice ax (ws (dX oS)).length cx,.int .i64 (dE oS)] 62)) 3 [.int .i64 (k:Nat)];rw [dw] at z1;rw [hW];exact z1.alloc _):P:=h
theorem z9{P:Prop}(h:P:=by
 have z2:=Lo.zero ((w.alloc (Obj.cells #[.slice (some ⟨gx,0,none⟩) n n,.bool (dN oS),.slice ax (ws (dX oS)).length cx,.int .i64 (dE oS)] 62)).alloc (Obj.cells #[.int .i64 (k:Nat)] 3));rw [dw,dw] at z2;rw [hW];exact z2):P:=h
theorem Ej (w:World) (n k gx:Nat) (ax:Option Addr) (cx:Nat) (oS oP:Option (Bool×Nat×Int))
 (HC:Hid (∀ u:World,Below w.heap.size w u->u.cell? ⟨w.heap.size,0,none⟩=some (.slice (some ⟨gx,0,none⟩) n n)->u.cell? ⟨w.heap.size+1,0,none⟩=some (.int .i64 (k:Nat))->Calls Tryz.prog 84 #[.int .i64 (n:Nat),.func (.func 142) #[] #[.pointer (some ⟨w.heap.size,0,none⟩),.pointer (some ⟨w.heap.size+1,0,none⟩)]] u fun r w'=>aQ 0 w' r oP/\Below u.heap.size u w')) :
 Calls Tryz.prog 96 #[.agg #[.slice (some ⟨gx,0,none⟩) n n,.bool (dN oS),.slice ax (ws (dX oS)).length cx,.int .i64 (dE oS)],.int .i64 (k:Nat)] w fun r w'=>aQ 0 w' r oP/\Below w.heap.size w w':=by
 obtain ⟨W,hW⟩:=af (((w.alloc (Obj.cells #[.slice (some ⟨gx,0,none⟩) n n,.bool (dN oS),.slice ax (ws (dX oS)).length cx,.int .i64 (dE oS)] 62)).alloc (Obj.cells #[.int .i64 (k:Nat)] 3)).alloc (Obj.cells #[.bool false,.slice none 0 0,.int .i64 0] 37))
 have H0:Aside (Bl W w.heap.size 62 [.slice (some ⟨gx,0,none⟩) n n,.bool (dN oS),.slice ax (ws (dX oS)).length cx,.int .i64 (dE oS)]/\Bl W (w.heap.size+1) 3 [.int .i64 (k:Nat)]/\Lo W (w.heap.size+2) ig/\Below w.heap.size w W):=by
  have hbW:Below w.heap.size w W:=by rw [hW];exact ((ae _ _).trans ((ae _ _).mono (by simp))).trans ((ae _ _).mono (by simp;omega))
  refine ⟨?_,?_,?_,hbW⟩
  · exact zj
  · exact yb
  · exact z9
 have HW:=ak hW;clear hW;go_enter Tryz.func96,Tryz.ntmps96
 go_upto_region 1 with fail
 rw [<-HW.o];clear HW;have s0:=H0.o.1.cell 0 _ rfl;have hmf:∀ (fn:Fn) (first cap:Array Value) (w:World),(Instr.makeFunc fn first cap).run Tryz.prog w=.ok (.func fn first cap) w:=fun _ _ _ _=>rfl;have C:=hid (HC.o W H0.o.r3 (H0.o.1.cell 0 _ rfl) (H0.o.2.1.cell 0 _ rfl));go_wp2_with fail;refine C.o.mono ?_;rintro r u1 ⟨hd,hb⟩;obtain ⟨a1,c1,rfl,hN1⟩:=hd.aH;have H1:=(cK (H0.o.r2.1.below hb) (H0.o.r3.trans (hb.mono H0.o.r3.size)) hN1);clear hb hd hN1 C s0 H0;obtain ⟨p2,q2,D2,M2⟩:=H1.o.1;obtain ⟨y0,y1,y2,bU,bZ,cu⟩:=D2.facts;clear D2 M2;go_wp2;exact iI Tryz.results96 rfl H1.o.1 H1.o.2.1 (by omega) H1.o.r2
theorem vV {f:Nat->Int}{n k:Nat}(bf:∀ i,i<n->Bd 2098 (f i)) (hn:n<=65536) (hk:k<=4) (j:Nat) (hj:j<=n):Bd (2098*k+16) (tS (fun i=>f i^k) j) :=
 DI (fun i hi=>(bf i hi).pow k) hn j hj
theorem Qg {w:World}{v:Value}{n k:Nat}{f:Nat->Int}{oS:Option (Bool×Nat×Int)}(hn:n<=65536) (hk:k<=4) (hT:dF w) (bf:∀ i,i<n->Bd 2098 (f i)) (h1:Rr w v n (fun i=>gV 1074 (f i)) oS) :
 Calls Tryz.prog 96 #[v,.int .i64 (k:Nat)] w fun r w'=>aQ 0 w' r (gV (1074*k) (tS (fun i=>f i^k) n))/\Below w.heap.size w w':=by
 obtain ⟨gx,ax,cx,rfl,hx,n1⟩:=h1;have hq:1074*k<=4296/\2098*k<=8392:=by omega
 refine Ej w n k gx ax cx oS _ (hid fun u hu k0 k1=>?_);refine L6 u n w.heap.size (w.heap.size+1) (fun i=>gV (1074*k) (f i^k)) (fun i=>gV (1074*k) (tS (fun i=>f i^k) i)) hn (hT.belows hu) (fun i hi=>bB (by omega) (by omega) ((bf i hi).pow k)) (fun i hi=>bB (by omega) (by omega) (vV bf hn hk i hi)) (fun i hi=>xz (by omega) (by omega) (vV bf hn hk i (by omega)) (((bf i hi).pow k).mono (by omega))) (qB _).symm (hid fun i v hi hv=>?_);have hv2:Below w.heap.size w v:=hu.trans (hv.mono hu.size);exact L9 i n k w.heap.size (w.heap.size+1) gx (fun i=>gV 1074 (f i)) (gV (1074*k) (f i^k)) v hi hn (hid fun y a d hy hN=>pF (by omega) (by decide) (by decide) (bf i hi) (hT.belows (hv2.trans (hy.mono hv2.size))) hN) (lG k0 hv) (lG k1 hv) (hx.below hv2)
structure El (u v:World) (n k h0 h1 h2 h3 gx:Nat) (ax:Option Addr) (cx:Nat) (A:Nat->Option (Bool×Nat×Int)) (oN oS oL:Option (Bool×Nat×Int)):Prop where
 n0:Lo v h0 oN
 x0:Bl v h1 62 [.slice (some ⟨gx,0,none⟩) n n,.bool (dN oS),.slice ax (ws (dX oS)).length cx,.int .i64 (dE oS)]
 dr:Dr v gx n n A
 nt:Nt 0 v (.slice ax (ws (dX oS)).length cx) (dX oS)
 k0:Bl v h2 3 [.int .i64 (k:Nat)]
 l0:Lo v h3 oL
 z0:Lo v u.heap.size ig
 b:Below u.heap.size u v
theorem El.below {u v y:World}{n k h0 h1 h2 h3 gx:Nat}{ax:Option Addr}{cx:Nat}{A:Nat->Option (Bool×Nat×Int)}{oN oS oL:Option (Bool×Nat×Int)}(h:El u v n k h0 h1 h2 h3 gx ax cx A oN oS oL) (hb:Below v.heap.size v y):El u y n k h0 h1 h2 h3 gx ax cx A oN oS oL :=
 ⟨h.n0.below hb,h.x0.below hb h.x0.lt,h.dr.below hb,h.nt.below hb,h.k0.below hb h.k0.lt,h.l0.below hb,h.z0.below hb,h.b.trans (hb.mono h.b.size)⟩
theorem El.other {u v:World}{n k h0 h1 h2 h3 gx g:Nat}{ax:Option Addr}{cx:Nat}{A:Nat->Option (Bool×Nat×Int)}{oN oS oL q:Option (Bool×Nat×Int)}(h:El u v n k h0 h1 h2 h3 gx ax cx A oN oS oL) (hL:Lo v g q) (hg:u.heap.size<g) (H:h0<u.heap.size/\h1<u.heap.size/\h2<u.heap.size/\h3<u.heap.size/\gx<u.heap.size) (x y z:Value):El u (dh v g x y z) n k h0 h1 h2 h3 gx ax cx A oN oS oL:=by
 have hb:=ky g v x y z;obtain ⟨a0,c0,hD,hM⟩:=hL;exact ⟨h.n0.other ⟨a0,c0,hD,hM⟩ (by omega) _ _ _,h.x0.but hb (by omega),h.dr.but (T:=37) (L:=[_,_,_]) hb hD (by omega) (by decide),h.nt.rM hD _ _ _,h.k0.but hb (by omega),h.l0.other ⟨a0,c0,hD,hM⟩ (by omega) _ _ _,h.z0.other ⟨a0,c0,hD,hM⟩ (by omega) _ _ _,dQ h.b h.b.size (by omega) _ _ _⟩
theorem Em (u:World) (n k j h0 h1 h2 h3 gx:Nat) (ax:Option Addr) (cx:Nat) (cb:Int) (A:Nat->Option (Bool×Nat×Int)) (oN oS oL oR1 oP oW oC oR2 oX oA:Option (Bool×Nat×Int)) (hT:dF u) (hj:j<=k) (hk:k<=4)
 (FF:Aside (Fm oR1/\Fm oP/\Fm oW/\Fm oC/\Fm oR2/\Fm oX/\Fm oA)) (EE:Aside (dZ oR1 oP=oW/\dZ oW oR2=oX/\dZ oC oX=oA))
 (HR1:Hid (∀ (v:World) (a:Option Addr) (d:Nat),dF v->Nt 0 v (.slice a (ws (dX oN)).length d) (dX oN)->Calls Tryz.prog 51 #[.agg #[.bool (dN oN),.slice a (ws (dX oN)).length d,.int .i64 (dE oN)],.int .i64 (j:Nat)] v fun r w'=>aQ 0 w' r oR1/\Below v.heap.size v w'))
 (HPw:Hid (∀ v:World,dF v->Rr v (.agg #[.slice (some ⟨gx,0,none⟩) n n,.bool (dN oS),.slice ax (ws (dX oS)).length cx,.int .i64 (dE oS)]) n A oS->Calls Tryz.prog 96 #[.agg #[.slice (some ⟨gx,0,none⟩) n n,.bool (dN oS),.slice ax (ws (dX oS)).length cx,.int .i64 (dE oS)],.int .i64 (j:Nat)] v fun r w'=>aQ 0 w' r oP/\Below v.heap.size v w'))
 (HOv:Hid (∀ v:World,Calls Tryz.prog 97 #[.int .i64 (k:Nat),.int .i64 (j:Nat)] v fun r w'=>r=.returned (.int .i64 cb)/\w'=v))
 (HI:Hid (∀ v:World,dF v->Calls Tryz.prog 52 #[.int .i64 cb] v fun r w'=>aQ 0 w' r oC/\Below v.heap.size v w'))
 (HR2:Hid (∀ (v:World) (a:Option Addr) (d:Nat),dF v->Nt 0 v (.slice a (ws (dX oL)).length d) (dX oL)->Calls Tryz.prog 51 #[.agg #[.bool (dN oL),.slice a (ws (dX oL)).length d,.int .i64 (dE oL)],.int .i64 ((k:Int)-(j:Int))] v fun r w'=>aQ 0 w' r oR2/\Below v.heap.size v w'))
 (B1:Lo u h0 oN) (B2:Bl u h1 62 [.slice (some ⟨gx,0,none⟩) n n,.bool (dN oS),.slice ax (ws (dX oS)).length cx,.int .i64 (dE oS)]) (B3:Dr u gx n n A) (B4:Nt 0 u (.slice ax (ws (dX oS)).length cx) (dX oS)) (B5:Bl u h2 3 [.int .i64 (k:Nat)]) (B6:Lo u h3 oL) :
 Calls Tryz.prog 95 #[.int .i64 (j:Nat),.pointer (some ⟨h0,0,none⟩),.pointer (some ⟨h1,0,none⟩),.pointer (some ⟨h2,0,none⟩),.pointer (some ⟨h3,0,none⟩)] u fun r w'=>aQ 0 w' r oA/\Below u.heap.size u w':=by
 obtain ⟨W,hW⟩:=af (u.alloc (Obj.cells #[.bool false,.slice none 0 0,.int .i64 0] 37));have HL:Aside (h0<u.heap.size/\h1<u.heap.size/\h2<u.heap.size/\h3<u.heap.size/\gx<u.heap.size):=⟨B1.lt,B2.lt,B5.lt,B6.lt,B3.lt⟩
 have H0:Aside (El u W n k h0 h1 h2 h3 gx ax cx A oN oS oL):=by
  rw [hW];exact ⟨B1.below (ae _ _),B2.alloc _,B3.below (ae _ _),B4.below (ae _ _),B5.alloc _,B6.below (ae _ _),Lo.zero _,ae _ _⟩
 have HW:=ak hW;have HT:=ak hT;have hwr:IntKind.i64.wrap ((k:Int)-(j:Int))=(k:Int)-(j:Int):=by rw [yc];omega
 clear hW hT B1 B2 B3 B4 B5 B6;go_enter Tryz.func95,Tryz.ntmps95
 go_upto_region 1 with fail
 rw [<-HW.o];clear HW
 go_cut [7] from 8 to 14 (fun q wx=>∃ g7:Nat,q=.pointer (some ⟨g7,0,none⟩)/\Aside (Lo wx g7 oW/\El u wx n k h0 h1 h2 h3 gx ax cx A oN oS oL/\u.heap.size<g7))
 case first =>
  have hdr:=(aB W.heap.size W).drew;obtain ⟨p1,q1,D1,M1⟩:=(H0.o.below hdr).n0;have kS:Aside (W.drew.cell? ⟨h0,0,none⟩=some (.bool (dN oN))/\W.drew.cell? ⟨h0,1,none⟩=some (.slice p1 (ws (dX oN)).length q1)/\W.drew.cell? ⟨h0,2,none⟩=some (.int .i64 (dE oN))/\W.drew.cell? ⟨h1,0,none⟩=some (.slice (some ⟨gx,0,none⟩) n n)/\W.drew.cell? ⟨h1,1,none⟩=some (.bool (dN oS))/\W.drew.cell? ⟨h1,2,none⟩=some (.slice ax (ws (dX oS)).length cx)/\W.drew.cell? ⟨h1,3,none⟩=some (.int .i64 (dE oS))):=⟨D1.facts.1,D1.facts.2.1,D1.facts.2.2.1,(H0.o.below hdr).x0.cell 0 _ rfl,(H0.o.below hdr).x0.cell 1 _ rfl,(H0.o.below hdr).x0.cell 2 _ rfl,(H0.o.below hdr).x0.cell 3 _ rfl⟩;have BD:=aK (H0.o.below hdr) M1;clear hdr D1 M1 H0;refine dS (fun w'=>w'.cell? ⟨h0,0,none⟩=some (.bool (dN oN))/\w'.cell? ⟨h0,1,none⟩=some (.slice p1 (ws (dX oN)).length q1)/\w'.cell? ⟨h0,2,none⟩=some (.int .i64 (dE oN))/\w'.cell? ⟨h1,0,none⟩=some (.slice (some ⟨gx,0,none⟩) n n)/\w'.cell? ⟨h1,1,none⟩=some (.bool (dN oS))/\w'.cell? ⟨h1,2,none⟩=some (.slice ax (ws (dX oS)).length cx)/\w'.cell? ⟨h1,3,none⟩=some (.int .i64 (dE oS))) 8 (by kernel_rfl) ?_;obtain ⟨Wd,hWd⟩:=af (W.drew);rw [<-hWd] at BD kS |-;clear hWd
  refine tk 0 [2,6] rfl kS.o ?_;try simp only [Act.put,sa,sb,sc]
  refine tk 1 [2,6] rfl kS.o ?_;try simp only [Act.put,sa,sb,sc]
  refine tk 3 [5,6] rfl kS.o ?_;try simp only [Act.put,sa,sb,sc]
  refine tk 4 [5,6] rfl kS.o ?_;try simp only [Act.put,sa,sb,sc]
  refine df (i:=2) (j:=7) (by kernel_rfl) rfl rfl (fun K' hK=>?_) (fun K' hK=>?_)
  · skip;have C:=hid (HR1.o Wd p1 q1 (HT.o.belows BD.o.1.b) BD.o.2);go_simp;refine C.o.mono ?_;rintro r u1 ⟨hd,hb⟩;obtain ⟨a1,c1,rfl,hN⟩:=hd.aH;have BD:=cK (BD.o.1.below hb) (BD.o.2.below hb) hN;have kS:=ak (ck hb kS.o fun h=>qI hb h);clear hb hd hN C;dsimp only;refine hK.out _ _ (fun _=>kS.o) ?_;clear hK K'
    try simp only [Act.put,sa,sb,sc]
    refine df (i:=5) (j:=7) (by kernel_rfl) rfl rfl (fun K' hK=>?_) (fun K' hK=>?_)
    · skip;have C:=hid (HPw.o u1 (HT.o.belows BD.o.1.b) ⟨gx,ax,cx,rfl,BD.o.1.dr,BD.o.1.nt⟩);go_simp;refine C.o.mono ?_;rintro r u2 ⟨hd,hb⟩;obtain ⟨a2,c2,rfl,hN⟩:=hd.aH;have BD:=fF (BD.o.1.below hb) (BD.o.2.1.below hb) (BD.o.r2.below hb) hN;have kS:=ak (ck hb kS.o fun h=>qI hb h);clear hb hd hN C;dsimp only;refine hK.out _ _ (fun _=>kS.o) ?_;clear hK K'
      try simp only [Act.put,sa,sb,sc]
      refine df (i:=6) (j:=7) (by kernel_rfl) rfl rfl (fun K' hK=>?_) (fun K' hK=>?_)
      · skip;have C:=hid (gM FF.o.1 FF.o.2.1 FF.o.r2.1 BD.o.r2.1 BD.o.r3 (HT.o.belows BD.o.1.b) EE.o.1);go_simp;refine C.o.mono ?_;rintro r u3 ⟨hd,hb⟩;obtain ⟨a3,c3,rfl,hN⟩:=hd.aH;have BD:=dK (BD.o.1.below hb) (BD.o.2.1.below hb) (BD.o.r2.1.below hb) (BD.o.r3.below hb) hN;have kS:=ak (ck hb kS.o fun h=>qI hb h);clear hb hd hN C;dsimp only;refine hK.out _ _ (fun _=>kS.o) ?_;clear hK K'
        try simp only [Act.put,sa,sb,sc]
        refine aj (i:=7) (by kernel_rfl) rfl (fun K' hK=>?_);go_simp;obtain ⟨g4,hg4⟩:=af (u3.heap.size);obtain ⟨V4,BL⟩:=af (u3.alloc (Obj.cells #[.bool false,.slice none 0 0,.int .i64 0] 37));have hb:Below u3.heap.size u3 V4:=by rw [BL];exact ae _ _
        have hZ:Lo V4 g4 ig:=by rw [BL,hg4];exact Lo.zero _
        have BD:=lZ (BD.o.1.below hb) (BD.o.2.1.below hb) (BD.o.r2.1.below hb) (BD.o.r3.1.below hb) (BD.o.r4.below hb) hZ (show u.heap.size<g4 by rw [hg4];exact BD.o.1.z0.lt);have kS:=ak (ck hb kS.o fun h=>qI hb h);have HV:=(aK BL hg4);clear hZ hb BL hg4;refine hK.out _ _ (fun _=>by rw [<-HV.o.1];exact kS.o) ?_;clear hK K';rw [<-HV.o.1,<-HV.o.2];clear HV
        try simp only [Act.put,sa,sb,sc]
        obtain ⟨zp,zq,DZ,MZ⟩:=BD.o.r5.1;obtain ⟨z0,z1,z2,fu,fw,fA⟩:=DZ.facts;clear DZ MZ;refine aj (i:=8) (by kernel_rfl) rfl (fun K' hK=>?_);go_simp;refine hK.out _ _ (fun h=>absurd h (by decide)) ?_;clear hK K' z0 z1 z2 fu fw fA kS;refine aM (by kernel_rfl) ?_ _;go_wp2_with fail
        go_meet
        case rel=>exact ⟨g4,rfl,BD.o.r5.1.set BD.o.r4.1,BD.o.1.other BD.o.r5.1 BD.o.r6 HL.o _ _ _,BD.o.r6⟩
      · skip;go_simp;obtain ⟨g5,hg5⟩:=af (u2.heap.size);obtain ⟨V5,Ji⟩:=af (u2.alloc (Obj.cells #[.bool false,.slice none 0 0,.int .i64 0] 37));have hb:Below u2.heap.size u2 V5:=by rw [Ji];exact ae _ _
        have hZ:Lo V5 g5 ig:=by rw [Ji,hg5];exact Lo.zero _
        have BD:=iM (BD.o.1.below hb) (BD.o.2.1.below hb) (BD.o.r2.1.below hb) (BD.o.r3.below hb) hZ (show u.heap.size<g5 by rw [hg5];exact BD.o.1.z0.lt);have kS:=ak (ck hb kS.o fun h=>qI hb h);have HV:=(aK Ji hg5);clear hZ hb Ji hg5;refine hK.out _ _ (fun _=>by rw [<-HV.o.1];exact kS.o) ?_;clear hK K';rw [<-HV.o.1,<-HV.o.2];clear HV
        try simp only [Act.put,sa,sb,sc]
        refine aj (i:=6) (by kernel_rfl) rfl (fun K' hK=>?_);have C:=hid (gM FF.o.1 FF.o.2.1 FF.o.r2.1 BD.o.r2.1 BD.o.r3.1 (HT.o.belows BD.o.1.b) EE.o.1);go_simp;refine C.o.mono ?_;rintro r u6 ⟨hd,hb⟩;obtain ⟨a6,c6,rfl,hN⟩:=hd.aH;have BD:=lZ (BD.o.1.below hb) (BD.o.2.1.below hb) (BD.o.r2.1.below hb) (BD.o.r3.1.below hb) (BD.o.r4.1.below hb) BD.o.r5 hN;have kS:=ak (ck hb kS.o fun h=>qI hb h);clear hb hd hN C;dsimp only;refine hK.out _ _ (fun _=>kS.o) ?_;clear hK K'
        try simp only [Act.put,sa,sb,sc]
        obtain ⟨zp,zq,DZ,MZ⟩:=BD.o.r4.1;obtain ⟨z0,z1,z2,fu,fw,fA⟩:=DZ.facts;clear DZ MZ;refine aj (i:=8) (by kernel_rfl) rfl (fun K' hK=>?_);go_simp;refine hK.out _ _ (fun h=>absurd h (by decide)) ?_;clear hK K' z0 z1 z2 fu fw fA kS;refine aM (by kernel_rfl) ?_ _;go_wp2_with fail
        go_meet
        case rel=>exact ⟨g5,rfl,BD.o.r4.1.set BD.o.r6,BD.o.1.other BD.o.r4.1 BD.o.r5.1 HL.o _ _ _,BD.o.r5.1⟩
    · skip;go_simp;obtain ⟨g7,qC⟩:=af (u1.heap.size);obtain ⟨V7,Jj⟩:=af (u1.alloc (Obj.cells #[.bool false,.slice none 0 0,.int .i64 0] 37));have hb:Below u1.heap.size u1 V7:=by rw [Jj];exact ae _ _
      have hZ:Lo V7 g7 ig:=by rw [Jj,qC];exact Lo.zero _
      have BD:=dK (BD.o.1.below hb) (BD.o.2.1.below hb) (BD.o.r2.below hb) hZ (show u.heap.size<g7 by rw [qC];exact BD.o.1.z0.lt);have kS:=ak (ck hb kS.o fun h=>qI hb h);have HV:=(aK Jj qC);clear hZ hb Jj qC;refine hK.out _ _ (fun _=>by rw [<-HV.o.1];exact kS.o) ?_;clear hK K';rw [<-HV.o.1,<-HV.o.2];clear HV
      try simp only [Act.put,sa,sb,sc]
      refine aj (i:=5) (by kernel_rfl) rfl (fun K' hK=>?_);have C:=hid (HPw.o V7 (HT.o.belows BD.o.1.b) ⟨gx,ax,cx,rfl,BD.o.1.dr,BD.o.1.nt⟩);go_simp;refine C.o.mono ?_;rintro r u8 ⟨hd,hb⟩;obtain ⟨a8,c8,rfl,hN⟩:=hd.aH;have BD:=iM (BD.o.1.below hb) (BD.o.2.1.below hb) (BD.o.r2.1.below hb) (BD.o.r3.1.below hb) BD.o.r4 hN;have kS:=ak (ck hb kS.o fun h=>qI hb h);clear hb hd hN C;dsimp only;refine hK.out _ _ (fun _=>kS.o) ?_;clear hK K'
      try simp only [Act.put,sa,sb,sc]
      refine aj (i:=6) (by kernel_rfl) rfl (fun K' hK=>?_);have C:=hid (gM FF.o.1 FF.o.2.1 FF.o.r2.1 BD.o.r2.1 BD.o.r5 (HT.o.belows BD.o.1.b) EE.o.1);go_simp;refine C.o.mono ?_;rintro r u9 ⟨hd,hb⟩;obtain ⟨a9,c9,rfl,hN⟩:=hd.aH;have BD:=lZ (BD.o.1.below hb) (BD.o.2.1.below hb) (BD.o.r2.1.below hb) (BD.o.r3.1.below hb) BD.o.r4.1 (BD.o.r5.below hb) hN;have kS:=ak (ck hb kS.o fun h=>qI hb h);clear hb hd hN C;dsimp only;refine hK.out _ _ (fun _=>kS.o) ?_;clear hK K'
      try simp only [Act.put,sa,sb,sc]
      obtain ⟨zp,zq,DZ,MZ⟩:=BD.o.r3.1;obtain ⟨z0,z1,z2,fu,fw,fA⟩:=DZ.facts;clear DZ MZ;refine aj (i:=8) (by kernel_rfl) rfl (fun K' hK=>?_);go_simp;refine hK.out _ _ (fun h=>absurd h (by decide)) ?_;clear hK K' z0 z1 z2 fu fw fA kS;refine aM (by kernel_rfl) ?_ _;go_wp2_with fail
      go_meet
      case rel=>exact ⟨g7,rfl,BD.o.r3.1.set BD.o.r6,BD.o.1.other BD.o.r3.1 BD.o.r4.1 HL.o _ _ _,BD.o.r4.1⟩
  · skip;go_simp;obtain ⟨g10,mg⟩:=af (Wd.heap.size);obtain ⟨Qh,si⟩:=af (Wd.alloc (Obj.cells #[.bool false,.slice none 0 0,.int .i64 0] 37));have hb:Below Wd.heap.size Wd Qh:=by rw [si];exact ae _ _
    have hZ:Lo Qh g10 ig:=by rw [si,mg];exact Lo.zero _
    have BD:=fF (BD.o.1.below hb) (BD.o.2.below hb) hZ (show u.heap.size<g10 by rw [mg];exact BD.o.1.z0.lt);have kS:=ak (ck hb kS.o fun h=>qI hb h);have HV:=(aK si mg);clear hZ hb si mg;refine hK.out _ _ (fun _=>by rw [<-HV.o.1];exact kS.o) ?_;clear hK K';rw [<-HV.o.1,<-HV.o.2];clear HV
    try simp only [Act.put,sa,sb,sc]
    refine aj (i:=2) (by kernel_rfl) rfl (fun K' hK=>?_);have C:=hid (HR1.o Qh p1 q1 (HT.o.belows BD.o.1.b) BD.o.2.1);go_simp;refine C.o.mono ?_;rintro r Ma ⟨hd,hb⟩;obtain ⟨XM,c11,rfl,hN⟩:=hd.aH;have BD:=dK (BD.o.1.below hb) (BD.o.2.1.below hb) (BD.o.r2.1.below hb) BD.o.r3 hN;have kS:=ak (ck hb kS.o fun h=>qI hb h);clear hb hd hN C;dsimp only;refine hK.out _ _ (fun _=>kS.o) ?_;clear hK K'
    try simp only [Act.put,sa,sb,sc]
    refine aj (i:=5) (by kernel_rfl) rfl (fun K' hK=>?_);have C:=hid (HPw.o Ma (HT.o.belows BD.o.1.b) ⟨gx,ax,cx,rfl,BD.o.1.dr,BD.o.1.nt⟩);go_simp;refine C.o.mono ?_;rintro r u12 ⟨hd,hb⟩;obtain ⟨a12,c12,rfl,hN⟩:=hd.aH;have BD:=iM (BD.o.1.below hb) (BD.o.2.1.below hb) (BD.o.r2.1.below hb) BD.o.r3.1 (BD.o.r4.below hb) hN;have kS:=ak (ck hb kS.o fun h=>qI hb h);clear hb hd hN C;dsimp only;refine hK.out _ _ (fun _=>kS.o) ?_;clear hK K'
    try simp only [Act.put,sa,sb,sc]
    refine aj (i:=6) (by kernel_rfl) rfl (fun K' hK=>?_);have C:=hid (gM FF.o.1 FF.o.2.1 FF.o.r2.1 BD.o.r4.1 BD.o.r5 (HT.o.belows BD.o.1.b) EE.o.1);go_simp;refine C.o.mono ?_;rintro r Qi ⟨hd,hb⟩;obtain ⟨a13,c13,rfl,hN⟩:=hd.aH;have BD:=lZ (BD.o.1.below hb) (BD.o.2.1.below hb) (BD.o.r2.1.below hb) BD.o.r3.1 (BD.o.r4.1.below hb) (BD.o.r5.below hb) hN;have kS:=ak (ck hb kS.o fun h=>qI hb h);clear hb hd hN C;dsimp only;refine hK.out _ _ (fun _=>kS.o) ?_;clear hK K'
    try simp only [Act.put,sa,sb,sc]
    obtain ⟨zp,zq,DZ,MZ⟩:=BD.o.r2.1;obtain ⟨z0,z1,z2,fu,fw,fA⟩:=DZ.facts;clear DZ MZ;refine aj (i:=8) (by kernel_rfl) rfl (fun K' hK=>?_);go_simp;refine hK.out _ _ (fun h=>absurd h (by decide)) ?_;clear hK K' z0 z1 z2 fu fw fA kS;refine aM (by kernel_rfl) ?_ _;go_wp2_with fail
    go_meet
    case rel=>exact ⟨g10,rfl,BD.o.r2.1.set BD.o.r6,BD.o.1.other BD.o.r2.1 BD.o.r3.1 HL.o _ _ _,BD.o.r3.1⟩
 obtain ⟨g7,rfl,K1⟩:=hcut;obtain ⟨U,hU⟩:=af wc;rw [<-hU] at K1 |-;clear hU H0 HR1 HPw;have hdr:=(aB U.heap.size U).drew;obtain ⟨p7,q7,D7,M7⟩:=K1.o.1.below hdr;obtain ⟨p3,q3,D3,M3⟩:=(K1.o.2.1.below hdr).l0;have kS:Aside (U.drew.cell? ⟨h2,0,none⟩=some (.int .i64 (k:Nat))/\U.drew.cell? ⟨g7,0,none⟩=some (.bool (dN oW))/\U.drew.cell? ⟨g7,1,none⟩=some (.slice p7 (ws (dX oW)).length q7)/\U.drew.cell? ⟨g7,2,none⟩=some (.int .i64 (dE oW))/\U.drew.cell? ⟨h3,0,none⟩=some (.bool (dN oL))/\U.drew.cell? ⟨h3,1,none⟩=some (.slice p3 (ws (dX oL)).length q3)/\U.drew.cell? ⟨h3,2,none⟩=some (.int .i64 (dE oL))):=⟨(K1.o.2.1.below hdr).k0.cell 0 _ rfl,D7.facts.1,D7.facts.2.1,D7.facts.2.2.1,D3.facts.1,D3.facts.2.1,D3.facts.2.2.1⟩;have BD:=cK (K1.o.2.1.below hdr) M7 M3;have C1:=hid (HOv.o U.drew);clear D7 D3 M7 M3
 go_upto_region 2 with fail
 go_region_held3 (fun w'=>w'.cell? ⟨h2,0,none⟩=some (.int .i64 (k:Nat))/\w'.cell? ⟨g7,0,none⟩=some (.bool (dN oW))/\w'.cell? ⟨g7,1,none⟩=some (.slice p7 (ws (dX oW)).length q7)/\w'.cell? ⟨g7,2,none⟩=some (.int .i64 (dE oW))/\w'.cell? ⟨h3,0,none⟩=some (.bool (dN oL))/\w'.cell? ⟨h3,1,none⟩=some (.slice p3 (ws (dX oL)).length q3)/\w'.cell? ⟨h3,2,none⟩=some (.int .i64 (dE oL))) (first | with_reducible exact kS.o | with_reducible exact kT.o) (first
  | (go_at_call 97
     with_reducible refine C1.o.mono ?_
     rintro r v ⟨rfl,hv⟩;rw [hv];have C2:=hid (HI.o U.drew (HT.o.belows BD.o.1.b))
     clear hv v C1)
  | (go_at_call 52
     with_reducible refine C2.o.mono ?_
     rintro r v1 ⟨hd,hb⟩;obtain ⟨a1,c1,rfl,hN⟩:=hd.aH;have BD:=fF (BD.o.1.below hb) (BD.o.2.1.below hb) (BD.o.r2.below hb) hN;have kS:=ak (ck hb kS.o fun h=>qI hb h);have C3:=hid (HR2.o v1 p3 q3 (HT.o.belows BD.o.1.b) BD.o.r2.1)
     clear hb hd hN C2)
  | (go_at_call 51
     with_reducible refine C3.o.mono ?_
     rintro r v2 ⟨hd,hb⟩;obtain ⟨a3,c3,rfl,hN⟩:=hd.aH;have BD:=dK (BD.o.1.below hb) (BD.o.2.1.below hb) (BD.o.r2.1.below hb) (BD.o.r3.below hb) hN;have kS:=ak (ck hb kS.o fun h=>qI hb h);have C4:=hid (gM FF.o.r2.1 FF.o.r4.1 FF.o.r5.1 BD.o.2.1 BD.o.r4 (HT.o.belows BD.o.1.b) EE.o.2.1)
     clear hb hd hN C3)
  | (go_at_call 40
     with_reducible refine C4.o.mono ?_
     rintro r v3 ⟨hd,hb⟩;obtain ⟨a4,c4,rfl,hN⟩:=hd.aH;have BD:=dK (BD.o.1.below hb) (BD.o.2.1.below hb) (BD.o.r2.1.below hb) (BD.o.r3.1.below hb) hN;have kS:=ak (ck hb kS.o fun h=>qI hb h);have C5:=hid (gM FF.o.r3.1 FF.o.r5.1 FF.o.r6 BD.o.r3.1 BD.o.r4 (HT.o.belows BD.o.1.b) EE.o.r2)
     clear hb hd hN C4)
  | (go_at_call 40
     with_reducible refine C5.o.mono ?_
     rintro r v4 ⟨hd,hb⟩;obtain ⟨a5,c5,rfl,hN⟩:=hd.aH;have BD:=fF (BD.o.1.below hb) (BD.o.2.1.below hb) (BD.o.r2.1.below hb) hN;have kS:=ak (ck hb kS.o fun h=>qI hb h);have kT:=lZ (lg (g:=u.heap.size) (x:=.bool (dN oA)) (y:=.slice a5 (ws (dX oA)).length c5) (z:=.int .i64 (dE oA)) kS.o.1 (dH HL.o.r2.1)) (lg (g:=u.heap.size) (x:=.bool (dN oA)) (y:=.slice a5 (ws (dX oA)).length c5) (z:=.int .i64 (dE oA)) kS.o.2.1 (kK K1.o.r2)) (lg (g:=u.heap.size) (x:=.bool (dN oA)) (y:=.slice a5 (ws (dX oA)).length c5) (z:=.int .i64 (dE oA)) kS.o.r2.1 (kK K1.o.r2)) (lg (g:=u.heap.size) (x:=.bool (dN oA)) (y:=.slice a5 (ws (dX oA)).length c5) (z:=.int .i64 (dE oA)) kS.o.r3.1 (kK K1.o.r2)) (lg (g:=u.heap.size) (x:=.bool (dN oA)) (y:=.slice a5 (ws (dX oA)).length c5) (z:=.int .i64 (dE oA)) kS.o.r4.1 (dH HL.o.r3.1)) (lg (g:=u.heap.size) (x:=.bool (dN oA)) (y:=.slice a5 (ws (dX oA)).length c5) (z:=.int .i64 (dE oA)) kS.o.r5.1 (dH HL.o.r3.1)) (lg (g:=u.heap.size) (x:=.bool (dN oA)) (y:=.slice a5 (ws (dX oA)).length c5) (z:=.int .i64 (dE oA)) kS.o.r6 (dH HL.o.r3.1));obtain ⟨zp,zq,DZ,MZ⟩:=BD.o.1.z0;obtain ⟨z0,z1,z2,fu,fw,fA⟩:=DZ.facts;clear DZ MZ
     clear hb hd hN C5))
 go_wp2;exact iI Tryz.results95 rfl BD.o.1.z0 BD.o.1.b (aA _) BD.o.r3
end
end Go.Proofs.YteginbngplldaaaGreatDoor
