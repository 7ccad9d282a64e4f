import Derived.Test.YtfmfhehbdfhnbaaGreatDoorZ14x
import Derived.Deep.RegionHeld
import Derived.Deep.RegionHeld3
import Derived.Test.YtfmfhehbdfhnbaaGreatDoorD8x
import Derived.Deep.LoopGhost
import Derived.Test.YtfmfhehbdfhnbaaGreatDoorD39x
import Derived.Test.YtfmfhehbdfhnbaaGreatDoorD32cx
import Derived.Deep.Cut
set_option linter.unusedVariables false
set_option linter.unusedSimpArgs false
set_option maxHeartbeats 16000000
set_option maxRecDepth 20000
namespace Go.Proofs.YtfmfhehbdfhnbaaGreatDoor
namespace J
end J
section
open Go Go.RowKit J
section
variable {P : Program} {ops : Array Oper} {Q : Exit -> Act -> World -> Prop} {md : Region.Mode} {S : World -> Prop} {stop : Nat}
def gz(P:Program)(md:Region.Mode)(ops:Array Oper)(Q:Exit->Act->World->Prop)(S:World->Prop)(stop:Nat):Nat->Array Bool->Act->World->Prop
 | 0,listed,a,w=>Region.ready md ops listed=[]/\Q .normal a w
 | fuel+1,listed,a,w=>(Region.ready md ops listed=[]->Q .normal a w) /\
  ∀ i ∈ Region.ready md ops listed,wpOp P ops Q i (fun b u=>(i<stop->S u)/\gz P md ops Q S stop fuel (listed.setIfInBounds i true) b u) a w
theorem wO:∀ (fuel:Nat) (listed:Array Bool) (a:Act) (w:World),gz P md ops Q S stop fuel listed a w->wpAny P md ops Q fuel listed a w
 | 0,_,_,_,h=>h
 | fuel+1,_,_,_,h=>⟨h.1,fun i hi=>wpOp_mono (fun b u k=>wO fuel _ b u k.2) (h.2 i hi)⟩
theorem fE{id:Nat}{a:Act}{w:World}(S:World->Prop)(stop:Nat)(hm:P.follows .mixedOrders=true)(h:gz P .any ops Q S stop ops.size (Array.replicate ops.size false) a w.drew):(Code.region id ops true).wp P Q a w :=
 wp_region_any hm (wO _ _ _ _ h)
def waits(md:Region.Mode)(ops:Array Oper)(i stop:Nat)(C:List Nat):Bool :=
 (List.range ops.size).all fun j=>!(C.contains j || decide (stop<=j)) || (match ops[j]? with | some o=>o.after.any (fun e=>Region.binds md e&&(e.on==i || C.contains e.on)) | none=>true)
def Gf(listed:Array Bool)(C:List Nat):Bool:=C.all fun k=>listed.getD k true==false
theorem Jt{i:Nat}{C:List Nat}(h:waits md ops i stop C=true){j:Nat}{oj:Oper}(hj:ops[j]?=some oj)(hc:j ∈ C\/stop<=j):∃ e ∈ oj.after,Region.binds md e=true/\(e.on=i\/e.on ∈ C):=by
 have h1:=(CP.1 h) j (by simp;exact(gL.1 hj).1);rw[hj] at h1
 have h2:(C.contains j || decide (stop<=j))=true:=by
  rcases hc with hc|hc
  · simp[hc]
  · simp[hc]
 rw[h2] at h1;simp only[Bool.not_true,Bool.false_or] at h1;rw[<-Array.any_toList] at h1;obtain⟨e,he,hb⟩:=List.any_eq_true.1 h1;have he:=Array.mem_toList_iff.1 he;simp only[vZ,Bool.or_eq_true,beq_iff_eq,List.contains_iff_mem] at hb;exact⟨e,he,hb.1,hb.2⟩
theorem Gg {i:Nat}{C:List Nat}{oi:Oper}{v:Value}(hi:ops[i]?=some oi) (hsel:∀ (j:Nat) (o:Oper) cs b,ops[j]?=some o->o.op≠.select cs b)
 (hQ:∀ x a w,Q (.panic x) (a.put oi.dst v) w->Q (.panic x) a w) (hlate:waits md ops i stop C=true) :
 ∀ (fuel:Nat) (listed:Array Bool) (a:Act) (w:World),
   (∀ j oj,ops[j]?=some oj->j≠i->listed.getD j true=false->(∀ e ∈ oj.after,Region.binds md e=true->e.on≠i)->oi.apart ops oj=true) ->
   i ∈ Region.ready md ops listed->(∀ k ∈ C,listed.getD k true=false)->YieldsIf P ops S oi v a->S w ->
   gz P md ops Q S stop fuel (listed.setIfInBounds i true) (a.put oi.dst v) w->gz P md ops Q S stop (fuel+1) listed a w:=by
 intro fuel
 induction fuel with
 | zero =>
   intro listed a w _ hr _ hy hS H;refine⟨fun h=>(by rw[h] at hr;cases hr),fun j hj=>?_⟩
   by_cases hji:j=i
   · subst hji;exact hy.wpOp hi hS ⟨fun _=>hS,H⟩
   · have:=ready_mono hj hji;rw[H.1] at this
     cases this
 | succ fuel ih =>
   intro listed a w hfree hr hcl hy hS H;refine⟨fun h=>(by rw[h] at hr;cases hr),fun j hj=>?_⟩
   by_cases hji:j=i
   · subst hji;exact hy.wpOp hi hS ⟨fun _=>hS,H⟩
   · have h1:=H.2 j (ready_mono hj hji);obtain⟨hjun,oj,hoj,hall⟩:=mem_ready.1 hj;have h0:=(mem_ready.1 hr).1
     have un:∀ k,listed.getD k true=false->listed.getD k false=true->False:=fun k a1 a2=>by
      rcases jK k listed.size with h'|h'
      · simp[h'] at a1 a2;rw[a1] at a2;cases a2
      · simp[Array.getElem?_eq_none h'] at a2
     have hnot:∀ e ∈ oj.after,Region.binds md e=true->e.on≠i:=fun e he hb heq=>un i h0 (heq ▸ hall e he hb)
     have hnw:¬(j ∈ C\/stop<=j):=fun hc=>by
      obtain⟨e,he,hb,heq⟩:=Jt hlate hoj hc;rcases heq with heq|heq
      · exact hnot e he hb heq
      · exact un _ (hcl _ heq) (hall e he hb)
     have hjs:j<stop:=by
      rcases jK j stop with h|h
      · exact h
      · exact(hnw (Or.inr h)).elim
     have h2:=wpOp_putIf hoj (hfree j oj hoj hji hjun hnot) (fun cs b=>hsel i oi cs b hi) (fun cs b=>hsel j oj cs b hoj) hQ hy h1
     have hfree':∀ k ok,ops[k]?=some ok->k≠i->(listed.setIfInBounds j true).getD k true=false ->
      (∀ e ∈ ok.after,Region.binds md e=true->e.on≠i)->oi.apart ops ok=true:=fun k ok hk hki hun hno=>by
      refine hfree k ok hk hki ?_ hno
      by_cases hjk:j=k
      · subst hjk;exact hjun
      · rw[Go.getD_set_ne true hjk] at hun;exact hun
     refine wpOp_mono (fun b u h3=>⟨h3.2.1,ih (listed.setIfInBounds j true) b u hfree' (ready_mono hr (Ne.symm hji)) (fun k hk=>by rw[Go.getD_set_ne true (show j≠k from fun e=>hnw (Or.inl (by rw[e];exact hk)))];exact hcl k hk) h3.1 (h3.2.1 hjs) ?_⟩) h2;rw[Array.setIfInBounds_comm _ _ hji];exact h3.2.2
theorem Ju {i:Nat}(C:List Nat) {oi:Oper}{v:Value}{fuel:Nat}{listed:Array Bool}{a:Act}{w:World}(hi:ops[i]?=some oi)
 (hs:Region.noSelect ops=true) (hf:Region.free md ops listed i=true) (hr:(Region.ready md ops listed).contains i=true) (hw:waits md ops i stop C=true) (hun:Gf listed C=true)
 (hQ:∀ c a w,Q (.panic c) (a.put oi.dst v) w->Q (.panic c) a w) (hy:YieldsIf P ops S oi v a) (hS:S w)
 (h:gz P md ops Q S stop fuel (listed.setIfInBounds i true) (a.put oi.dst v) w):gz P md ops Q S stop (fuel+1) listed a w :=
 Gg hi (Region.noSelect_spec hs) hQ hw fuel listed a w (Region.free_spec hi hf) (by simpa using hr) (fun k hk=>by have:=(CP.1 hun) k hk;simpa using this) hy hS h
theorem tk(i:Nat)(C:List Nat){oi:Oper}{v:Value}{fuel:Nat}{listed:Array Bool}{a:Act}{w:World}(hi:ops[i]?=some oi)(hS:S w)(h:gz P md ops Q S stop fuel (listed.setIfInBounds i true) (a.put oi.dst v) w)(hy:∀ w,S w->(execOp a.eval oi).run P w=.ok (.value v) w:=by intro u hSu;(try dsimp only at hSu);first|(go_simp;done)|(go_simp;with_reducible rfl))(hs:Region.noSelect ops=true:=by kernel_rfl)(hf:Region.free md ops listed i=true:=by kernel_rfl)(hr:(Region.ready md ops listed).contains i=true:=by kernel_rfl)(hw:waits md ops i stop C=true:=by kernel_rfl)(hun:Gf listed C=true:=by kernel_rfl)(hQ:∀ c a w,Q (.panic c) (a.put oi.dst v) w->Q (.panic c) a w:=by exact fun _ _ _ h=>h)(h1:Region.wanted oi (yielded ops a.tmps)=true:=by rfl):gz P md ops Q S stop (fuel+1) listed a w:=Ju C hi hs hf hr hw hun hQ (Or.inl ⟨h1,hy⟩) hS h
theorem sa{α:Type _}{l:List α}{i:Nat}{a:α}:l.toArray.setIfInBounds i a=(l.set i a).toArray:=List.setIfInBounds_toArray _ _ _
theorem sb{α:Type _}{x a:α}{l:List α}:(x::l).set 0 a=a::l:=rfl
theorem sc{α:Type _}{x a:α}{l:List α}{n:Nat}:(x::l).set (n+1) a=x::l.set n a:=rfl
theorem au {i:Nat}{o:Oper}{fuel:Nat}{listed:Array Bool}{a:Act}{w:World}(hr:Region.ready md ops listed=[i]) (ho:ops[i]?=some o)
 (h:∀ K':Act->World->Prop,Shut (∀ b u,(i<stop->S u)->gz P md ops Q S stop fuel (listed.setIfInBounds i true) b u->K' b u)->if Region.wanted o (yielded ops a.tmps)=true then Oper.wp P o a w K' Q else K' (a.put o.dst undef) w):gz P md ops Q S stop (fuel+1) listed a w :=
 ⟨fun h0=>(by rw[hr] at h0;cases h0),fun j hj=>by
  rw[hr] at hj;obtain rfl:=List.mem_singleton.1 hj
  exact wpOp_step ho (fun K' hK=>h K' (fun b u h1 h2=>hK b u ⟨h1,h2⟩))⟩
theorem aS{listed:Array Bool}{a:Act}{w:World}(hr:Region.ready md ops listed=[])(h:Q .normal a w):∀ fuel,gz P md ops Q S stop fuel listed a w
 | 0=>⟨hr,h⟩
 | _+1=>⟨fun _=>h,by rw[hr];simp⟩
end
theorem fB{B g:Nat}{a w:World}(h:Below B a w)(hB:B<=w.heap.size)(hg:B<=g)(x y z:Value):Below B a (dM w g x y z):=But.below h (mG g w x y z) hB hg
theorem ZM:∃ d:TypeDesc,Tryz.prog.underlying 25=some d/\d.isRow=true:=by
 have h:(Tryz.prog.underlying 25).any (·.isRow)=true:=by kernel_rfl
 cases hd:Tryz.prog.underlying 25 with
 | none=>rw[hd] at h;cases h
 | some d=>rw[hd] at h;exact⟨d,rfl,h⟩
theorem Wz:(Tryz.prog.info? 25).map (·.size)=some 3:=by kernel_rfl
theorem Sl{fn:Func}{p:Tmp}(h:fn.results=#[.cell p 25])(tmps:Array Value)(W:World)(g:Nat)(n:Bool)(v:Value)(e:Int)(hp:tmps.getD p undef=.pointer (some ⟨g,0,none⟩))(hD:Dk W g n v e) :
 (results fn tmps).run Tryz.prog W=.ok (.agg #[.bool n,v,.int .i64 e]) W:=by
 obtain⟨d,h1,h2⟩:=ZM
 cases d <;> first
  | exact results_cell_row (P:=Tryz.prog) h tmps W g 25 _ _ _ hp hD h1 rfl (by rw[Wz];rfl)
  | exact absurd h2 (by simp[TypeDesc.isRow])
theorem jT {fn:Func}{p:Tmp}(hfn:fn.results=#[.cell p 25]) {w base:World}{tmps:Array Value}{o q:Option (Bool×Nat×Int)}{a:Option Addr}{c g:Nat}(h2:tmps.getD p undef=.pointer (some ⟨g,0,none⟩))
 (hL:Lo base g q) (hbw:Below w.heap.size w base) (hg:w.heap.size<=g) (hN:Nt 0 base (.slice a (ws (dX o)).length c) (dX o)) :
 bodyPost Tryz.prog fn (fun r w'=>bI 0 w' r o/\Below w.heap.size w w') .ret ⟨tmps,[]⟩
  (((base.setCell ⟨g,0,none⟩ (.bool (dN o))).setCell ⟨g,1,none⟩ (.slice a (ws (dX o)).length c)).setCell ⟨g,2,none⟩ (.int .i64 (dE o))):=by
 obtain⟨a0,c0,hD,hM⟩:=hL;exact aG (v:=.agg #[.bool (dN o),.slice a (ws (dX o)).length c,.int .i64 (dE o)]) (Sl hfn _ _ g _ _ _ h2 (hD.set _ _ _)) rfl ⟨⟨_,rfl,hN.uj hD _ _ _⟩,fB hbw hbw.size hg _ _ _⟩
theorem qk{P:Prop}(h:P:=by
 rw[hU];have b0:=H0.o.r3;exact⟨(H0.o.r2.1.below hb).below (af _ _),Dk.new _ _ _ _,hN0.below (af _ _),(b0.trans (hb.mono b0.size)).trans ((af _ _).mono (dW b0.size hb.size))⟩):P:=h
theorem J0{P:Prop}(h:P:=by
 subst hW;have z1:=Dk.new (w.alloc (Obj.cells #[.bool (dN o),.slice a (ws (dX o)).length ca,.int .i64 (dE o)] 25)) (dN p) (.slice b (ws (dX p)).length cb) (dE p);have z2:=Lo.zero ((w.alloc (Obj.cells #[.bool (dN o),.slice a (ws (dX o)).length ca,.int .i64 (dE o)] 25)).alloc (Obj.cells #[.bool (dN p),.slice b (ws (dX p)).length cb,.int .i64 (dE p)] 25));rw[dD] at z1;rw[dD,dD] at z2;exact⟨((Dk.new _ _ _ _).below (af _ _)).below (af _ _),z1.below (af _ _),z2,((af _ _).trans ((af _ _).mono aQ)).trans ((af _ _).mono (by simp;omega))⟩):P:=h
theorem DV (w:World) (a b:Option Addr) (ca cb:Nat) (o p q:Option (Bool×Nat×Int)) (F:Fm q)
 (HC:Hid (∀ u:World,Below w.heap.size w u->Calls Tryz.prog 56 #[.agg #[.bool (dN o),.slice a (ws (dX o)).length ca,.int .i64 (dE o)],.agg #[.bool (dN p),.slice b (ws (dX p)).length cb,.int .i64 (dE p)]] u fun r w'=>(∃ v,r=.returned (.tuple #[.agg #[.bool (dN q),v,.int .i64 (dE q)],.int .i64 0])/\Nt u.heap.size w' v (dX q))/\Below u.heap.size u w')) :
 Calls Tryz.prog 51 #[.agg #[.bool (dN o),.slice a (ws (dX o)).length ca,.int .i64 (dE o)],.agg #[.bool (dN p),.slice b (ws (dX p)).length cb,.int .i64 (dE p)]] w fun r w'=>bI 0 w' r q/\Below w.heap.size w w':=by
 obtain⟨W,hW⟩:=ah (((w.alloc (Obj.cells #[.bool (dN o),.slice a (ws (dX o)).length ca,.int .i64 (dE o)] 25)).alloc (Obj.cells #[.bool (dN p),.slice b (ws (dX p)).length cb,.int .i64 (dE p)] 25)).alloc (Obj.cells zD3 25))
 have H0:Aside (Dk W w.heap.size (dN o) (.slice a (ws (dX o)).length ca) (dE o)/\Dk W (w.heap.size+1) (dN p) (.slice b (ws (dX p)).length cb) (dE p)/\Lo W (w.heap.size+2) iY/\Below w.heap.size w W):=by
  exact J0
 have HW:=aA hW;have Am:=hid (HC.o W H0.o.r3);have FF:=aA F;clear hW HC F;go_enter Tryz.func51,Tryz.ntmps51
 go_upto_region 1 with fail
 rw[<-HW.o];clear HW;obtain⟨x0,x1,x2,dw,dz,dA⟩:=H0.o.1.facts;obtain⟨y0,y1,y2,dF,dG,dH⟩:=H0.o.2.1.facts;go_wp2_with fail;refine Am.o.mono ?_;rintro r u ⟨⟨v,rfl,hN⟩,hb⟩;obtain⟨a1,c1,rfl,hN0⟩:=Lo.shape FF.o hN;obtain⟨U,hU⟩:=ah (u.alloc (Obj.cells #[.bool (dN q),.slice a1 (ws (dX q)).length c1,.int .i64 (dE q)] 25))
 have H1:Aside (Lo U (w.heap.size+2) iY/\Dk U u.heap.size (dN q) (.slice a1 (ws (dX q)).length c1) (dE q)/\Nt 0 U (.slice a1 (ws (dX q)).length c1) (dX q)/\Below w.heap.size w U):=by
  exact qk
 obtain⟨gq,xK⟩:=ah (u.heap.size);rw[<-xK] at H1;have HU:=(aP hU xK);clear hU hN hN0 hb Am H0 x0 x1 x2 dw dz dA y0 y1 y2 dF dG dH xK
 go_upto_region 2 with fail
 rw[<-HU.o.1,<-HU.o.2];clear HU;obtain⟨x0,x1,x2,dw,dz,dA⟩:=H1.o.2.1.facts;obtain⟨p4,q4,D4,M4⟩:=H1.o.1;obtain⟨y0,y1,y2,dF,dG,dH⟩:=D4.facts;clear D4 M4;go_wp2;exact jT Tryz.results51 rfl H1.o.1 H1.o.r3 ae H1.o.r2.1
theorem Gh (w:World) (a b:Option Addr) (ca cb:Nat) (o p q:Option (Bool×Nat×Int)) (F:Fm q)
 (HC:Hid (∀ u:World,Below w.heap.size w u->Calls Tryz.prog 100 #[.agg #[.bool (dN o),.slice a (ws (dX o)).length ca,.int .i64 (dE o)],.agg #[.bool (dN p),.slice b (ws (dX p)).length cb,.int .i64 (dE p)]] u fun r w'=>(∃ v,r=.returned (.tuple #[.agg #[.bool (dN q),v,.int .i64 (dE q)],.int .i64 0])/\Nt u.heap.size w' v (dX q))/\Below u.heap.size u w')) :
 Calls Tryz.prog 124 #[.agg #[.bool (dN o),.slice a (ws (dX o)).length ca,.int .i64 (dE o)],.agg #[.bool (dN p),.slice b (ws (dX p)).length cb,.int .i64 (dE p)]] w fun r w'=>bI 0 w' r q/\Below w.heap.size w w':=by
 obtain⟨W,hW⟩:=ah (((w.alloc (Obj.cells #[.bool (dN o),.slice a (ws (dX o)).length ca,.int .i64 (dE o)] 25)).alloc (Obj.cells #[.bool (dN p),.slice b (ws (dX p)).length cb,.int .i64 (dE p)] 25)).alloc (Obj.cells zD3 25))
 have H0:Aside (Dk W w.heap.size (dN o) (.slice a (ws (dX o)).length ca) (dE o)/\Dk W (w.heap.size+1) (dN p) (.slice b (ws (dX p)).length cb) (dE p)/\Lo W (w.heap.size+2) iY/\Below w.heap.size w W):=by
  exact J0
 have HW:=aA hW;have Am:=hid (HC.o W H0.o.r3);have FF:=aA F;clear hW HC F;go_enter Tryz.func124,Tryz.ntmps124
 go_upto_region 1 with fail
 rw[<-HW.o];clear HW;obtain⟨x0,x1,x2,dw,dz,dA⟩:=H0.o.1.facts;obtain⟨y0,y1,y2,dF,dG,dH⟩:=H0.o.2.1.facts;go_wp2_with fail;refine Am.o.mono ?_;rintro r u ⟨⟨v,rfl,hN⟩,hb⟩;obtain⟨a1,c1,rfl,hN0⟩:=Lo.shape FF.o hN;obtain⟨U,hU⟩:=ah (u.alloc (Obj.cells #[.bool (dN q),.slice a1 (ws (dX q)).length c1,.int .i64 (dE q)] 25))
 have H1:Aside (Lo U (w.heap.size+2) iY/\Dk U u.heap.size (dN q) (.slice a1 (ws (dX q)).length c1) (dE q)/\Nt 0 U (.slice a1 (ws (dX q)).length c1) (dX q)/\Below w.heap.size w U):=by
  exact qk
 obtain⟨gq,xK⟩:=ah (u.heap.size);rw[<-xK] at H1;have HU:=(aP hU xK);clear hU hN hN0 hb Am H0 x0 x1 x2 dw dz dA y0 y1 y2 dF dG dH xK
 go_upto_region 2 with fail
 rw[<-HU.o.1,<-HU.o.2];clear HU;obtain⟨x0,x1,x2,dw,dz,dA⟩:=H1.o.2.1.facts;obtain⟨p4,q4,D4,M4⟩:=H1.o.1;obtain⟨y0,y1,y2,dF,dG,dH⟩:=D4.facts;clear D4 M4;go_wp2;exact jT Tryz.results124 rfl H1.o.1 H1.o.r3 ae H1.o.r2.1
theorem Ba (w:World) (a b:Option Addr) (ca cb:Nat) (o p q:Option (Bool×Nat×Int)) (F:Fm q)
 (HC:Hid (∀ u:World,Below w.heap.size w u->Calls Tryz.prog 31 #[.agg #[.bool (dN o),.slice a (ws (dX o)).length ca,.int .i64 (dE o)],.agg #[.bool (dN p),.slice b (ws (dX p)).length cb,.int .i64 (dE p)]] u fun r w'=>(∃ v,r=.returned (.tuple #[.agg #[.bool (dN q),v,.int .i64 (dE q)],.int .i64 0])/\Nt u.heap.size w' v (dX q))/\Below u.heap.size u w')) :
 Calls Tryz.prog 69 #[.agg #[.bool (dN o),.slice a (ws (dX o)).length ca,.int .i64 (dE o)],.agg #[.bool (dN p),.slice b (ws (dX p)).length cb,.int .i64 (dE p)]] w fun r w'=>bI 0 w' r q/\Below w.heap.size w w':=by
 obtain⟨W,hW⟩:=ah (((w.alloc (Obj.cells #[.bool (dN o),.slice a (ws (dX o)).length ca,.int .i64 (dE o)] 25)).alloc (Obj.cells #[.bool (dN p),.slice b (ws (dX p)).length cb,.int .i64 (dE p)] 25)).alloc (Obj.cells zD3 25))
 have H0:Aside (Dk W w.heap.size (dN o) (.slice a (ws (dX o)).length ca) (dE o)/\Dk W (w.heap.size+1) (dN p) (.slice b (ws (dX p)).length cb) (dE p)/\Lo W (w.heap.size+2) iY/\Below w.heap.size w W):=by
  exact J0
 have HW:=aA hW;have Am:=hid (HC.o W H0.o.r3);have FF:=aA F;clear hW HC F;go_enter Tryz.func69,Tryz.ntmps69
 go_upto_region 1 with fail
 rw[<-HW.o];clear HW;obtain⟨x0,x1,x2,dw,dz,dA⟩:=H0.o.1.facts;obtain⟨y0,y1,y2,dF,dG,dH⟩:=H0.o.2.1.facts;go_wp2_with fail;refine Am.o.mono ?_;rintro r u ⟨⟨v,rfl,hN⟩,hb⟩;obtain⟨a1,c1,rfl,hN0⟩:=Lo.shape FF.o hN;obtain⟨U,hU⟩:=ah (u.alloc (Obj.cells #[.bool (dN q),.slice a1 (ws (dX q)).length c1,.int .i64 (dE q)] 25))
 have H1:Aside (Lo U (w.heap.size+2) iY/\Dk U u.heap.size (dN q) (.slice a1 (ws (dX q)).length c1) (dE q)/\Nt 0 U (.slice a1 (ws (dX q)).length c1) (dX q)/\Below w.heap.size w U):=by
  exact qk
 obtain⟨gq,xK⟩:=ah (u.heap.size);rw[<-xK] at H1;have HU:=(aP hU xK);clear hU hN hN0 hb Am H0 x0 x1 x2 dw dz dA y0 y1 y2 dF dG dH xK
 go_upto_region 2 with fail
 rw[<-HU.o.1,<-HU.o.2];clear HU;obtain⟨x0,x1,x2,dw,dz,dA⟩:=H1.o.2.1.facts;obtain⟨p4,q4,D4,M4⟩:=H1.o.1;obtain⟨y0,y1,y2,dF,dG,dH⟩:=D4.facts;clear D4 M4;go_wp2;exact jT Tryz.results69 rfl H1.o.1 H1.o.r3 ae H1.o.r2.1
theorem DY (w:World) (a b:Option Addr) (ca cb:Nat) (o p q:Option (Bool×Nat×Int)) (F:Fm q)
 (HC:Hid (∀ u:World,Below w.heap.size w u->Calls Tryz.prog 64 #[.agg #[.bool (dN o),.slice a (ws (dX o)).length ca,.int .i64 (dE o)],.agg #[.bool (dN p),.slice b (ws (dX p)).length cb,.int .i64 (dE p)]] u fun r w'=>(∃ v,r=.returned (.tuple #[.agg #[.bool (dN q),v,.int .i64 (dE q)],.int .i64 0])/\Nt u.heap.size w' v (dX q))/\Below u.heap.size u w')) :
 Calls Tryz.prog 70 #[.agg #[.bool (dN o),.slice a (ws (dX o)).length ca,.int .i64 (dE o)],.agg #[.bool (dN p),.slice b (ws (dX p)).length cb,.int .i64 (dE p)]] w fun r w'=>bI 0 w' r q/\Below w.heap.size w w':=by
 obtain⟨W,hW⟩:=ah (((w.alloc (Obj.cells #[.bool (dN o),.slice a (ws (dX o)).length ca,.int .i64 (dE o)] 25)).alloc (Obj.cells #[.bool (dN p),.slice b (ws (dX p)).length cb,.int .i64 (dE p)] 25)).alloc (Obj.cells zD3 25))
 have H0:Aside (Dk W w.heap.size (dN o) (.slice a (ws (dX o)).length ca) (dE o)/\Dk W (w.heap.size+1) (dN p) (.slice b (ws (dX p)).length cb) (dE p)/\Lo W (w.heap.size+2) iY/\Below w.heap.size w W):=by
  exact J0
 have HW:=aA hW;have Am:=hid (HC.o W H0.o.r3);have FF:=aA F;clear hW HC F;go_enter Tryz.func70,Tryz.ntmps70
 go_upto_region 1 with fail
 rw[<-HW.o];clear HW;obtain⟨x0,x1,x2,dw,dz,dA⟩:=H0.o.1.facts;obtain⟨y0,y1,y2,dF,dG,dH⟩:=H0.o.2.1.facts;go_wp2_with fail;refine Am.o.mono ?_;rintro r u ⟨⟨v,rfl,hN⟩,hb⟩;obtain⟨a1,c1,rfl,hN0⟩:=Lo.shape FF.o hN;obtain⟨U,hU⟩:=ah (u.alloc (Obj.cells #[.bool (dN q),.slice a1 (ws (dX q)).length c1,.int .i64 (dE q)] 25))
 have H1:Aside (Lo U (w.heap.size+2) iY/\Dk U u.heap.size (dN q) (.slice a1 (ws (dX q)).length c1) (dE q)/\Nt 0 U (.slice a1 (ws (dX q)).length c1) (dX q)/\Below w.heap.size w U):=by
  exact qk
 obtain⟨gq,xK⟩:=ah (u.heap.size);rw[<-xK] at H1;have HU:=(aP hU xK);clear hU hN hN0 hb Am H0 x0 x1 x2 dw dz dA y0 y1 y2 dF dG dH xK
 go_upto_region 2 with fail
 rw[<-HU.o.1,<-HU.o.2];clear HU;obtain⟨x0,x1,x2,dw,dz,dA⟩:=H1.o.2.1.facts;obtain⟨p4,q4,D4,M4⟩:=H1.o.1;obtain⟨y0,y1,y2,dF,dG,dH⟩:=D4.facts;clear D4 M4;go_wp2;exact jT Tryz.results70 rfl H1.o.1 H1.o.r3 ae H1.o.r2.1
theorem iL{w:World}{a b:Option Addr}{ca cb:Nat}{o p q:Option (Bool×Nat×Int)}(F:Fm o)(G:Fm p)(H:Fm q)(N1:Nt 0 w (.slice a (ws (dX o)).length ca) (dX o))(N2:Nt 0 w (.slice b (ws (dX p)).length cb) (dX p))(hT:dU w)(h:fu o p=q) :
 Calls Tryz.prog 51 #[.agg #[.bool (dN o),.slice a (ws (dX o)).length ca,.int .i64 (dE o)],.agg #[.bool (dN p),.slice b (ws (dX p)).length cb,.int .i64 (dE p)]] w fun r w'=>bI 0 w' r q/\Below w.heap.size w w' :=
 DV w a b ca cb o p q H (hid fun u hu=>ZF F G (N1.below hu) (N2.below hu) (hT.belows hu) h H)
theorem D5{w:World}{a b:Option Addr}{ca cb:Nat}{o p q:Option (Bool×Nat×Int)}(F:Fm o)(G:Fm p)(H:Fm q)(N1:Nt 0 w (.slice a (ws (dX o)).length ca) (dX o))(N2:Nt 0 w (.slice b (ws (dX p)).length cb) (dX p))(hT:dU w)(h:jv o p=q) :
 Calls Tryz.prog 124 #[.agg #[.bool (dN o),.slice a (ws (dX o)).length ca,.int .i64 (dE o)],.agg #[.bool (dN p),.slice b (ws (dX p)).length cb,.int .i64 (dE p)]] w fun r w'=>bI 0 w' r q/\Below w.heap.size w w' :=
 Gh w a b ca cb o p q H (hid fun u hu=>Wy F G (N1.below hu) (N2.below hu) (hT.belows hu) h H)
theorem Sm{w:World}{a b:Option Addr}{ca cb:Nat}{o p q:Option (Bool×Nat×Int)}(F:Fm o)(G:Fm p)(H:Fm q)(N1:Nt 0 w (.slice a (ws (dX o)).length ca) (dX o))(N2:Nt 0 w (.slice b (ws (dX p)).length cb) (dX p))(h:fu o p=q) :
 Calls Tryz.prog 69 #[.agg #[.bool (dN o),.slice a (ws (dX o)).length ca,.int .i64 (dE o)],.agg #[.bool (dN p),.slice b (ws (dX p)).length cb,.int .i64 (dE p)]] w fun r w'=>bI 0 w' r q/\Below w.heap.size w w' :=
 Ba w a b ca cb o p q H (hid fun u hu=>ZK F G (N1.below hu) (N2.below hu) h H)
theorem KS{w:World}{a b:Option Addr}{ca cb:Nat}{o p q:Option (Bool×Nat×Int)}(F:Fm o)(G:Fm p)(H:Fm q)(N1:Nt 0 w (.slice a (ws (dX o)).length ca) (dX o))(N2:Nt 0 w (.slice b (ws (dX p)).length cb) (dX p))(h:jv o p=q) :
 Calls Tryz.prog 70 #[.agg #[.bool (dN o),.slice a (ws (dX o)).length ca,.int .i64 (dE o)],.agg #[.bool (dN p),.slice b (ws (dX p)).length cb,.int .i64 (dE p)]] w fun r w'=>bI 0 w' r q/\Below w.heap.size w w' :=
 DY w a b ca cb o p q H (hid fun u hu=>ZL F G (N1.below hu) (N2.below hu) h H)
theorem bI.ko{w:World}{r:Ending}{lo:Nat}{q:Option (Bool×Nat×Int)}(H:Fm q)(h:bI lo w r q):∃ a c,r=.returned (.agg #[.bool (dN q),.slice a (ws (dX q)).length c,.int .i64 (dE q)])/\Nt 0 w (.slice a (ws (dX q)).length c) (dX q):=by
 obtain⟨v,rfl,hN⟩:=h;obtain⟨a,c,rfl,hN0⟩:=Lo.shape H hN;exact⟨a,c,rfl,hN0⟩
theorem bI.D6{w:World}{r:Ending}{lo:Nat}{q:Option (Bool×Nat×Int)}(h:bI lo w r q):bI 0 w r q:=by
 obtain⟨v,rfl,hN⟩:=h;exact⟨v,rfl,hN.mono (nV _)⟩
theorem zN(n:Int)(w:World)(hT:dU w)(h0:-9223372036854775808<=n)(h1:n<=9223372036854775807) :
 Calls Tryz.prog 48 #[.int .i64 n] w fun r w'=>bI 0 w' r (gV 0 n)/\Below w.heap.size w w' :=
 (Vn n w hT h0 h1).mono fun r w' h=>⟨h.1.D6,h.2⟩
theorem Sn(n:Int)(w:World)(h0:-9223372036854775808<=n)(h1:n<=9223372036854775807) :
 Calls Tryz.prog 22 #[.int .i64 n] w fun r w'=>bI 0 w' r (gV 0 n)/\Below w.heap.size w w' :=
 (QI n w h0 h1).mono fun r w' h=>⟨h.1.D6,h.2⟩
theorem K0{P:Prop}(h:P:=by
 go_wp2;go_roundg (gk-1)
 case measure=>omega
 case rel=>exact⟨j+1,ae,by first | rfl | simp,H3.o⟩):P:=h
theorem Sq(w:World)(a:Option Addr)(ca k:Nat)(od:Option (Bool×Nat×Int))(P:Nat->Option (Bool×Nat×Int))(hk:k<=60)(hT:dU w)(F0:Fm od)(FP:∀ i,i<=k->Fm (P i))(EP:∀ i,i<k->fu (P i) od=P (i+1))(E0:gV 0 1=P 0)(N1:Nt 0 w (.slice a (ws (dX od)).length ca) (dX od)) :
 Calls Tryz.prog 47 #[.agg #[.bool (dN od),.slice a (ws (dX od)).length ca,.int .i64 (dE od)],.int .i64 (k:Nat)] w fun r w'=>bI 0 w' r (P k)/\Below w.heap.size w w':=by
 obtain⟨W,hW⟩:=ah ((w.alloc (Obj.cells #[.bool (dN od),.slice a (ws (dX od)).length ca,.int .i64 (dE od)] 25)).alloc (Obj.cells zD3 25))
 have H0:Aside (Lo W w.heap.size od/\Lo W (w.heap.size+1) iY/\Below w.heap.size w W):=by
  subst hW;have z2:=Lo.zero (w.alloc (Obj.cells #[.bool (dN od),.slice a (ws (dX od)).length ca,.int .i64 (dE od)] 25));rw[dD] at z2;exact⟨(Lo.new N1).below (af _ _),z2,(af _ _).trans ((af _ _).mono aQ)⟩
 have HI:Hid (Calls Tryz.prog 48 #[.int .i64 1] W fun r w'=>bI 0 w' r (P 0)/\Below W.heap.size W w'):=by
  have:=zN 1 W (hT.belows H0.o.r2) aj aj;rw[E0] at this;exact this
 have HM:Hid (∀ (i:Nat) (u:World) (p q:Option Addr) (cp cq:Nat),i<k->dU u->Nt 0 u (.slice p (ws (dX (P i))).length cp) (dX (P i))->Nt 0 u (.slice q (ws (dX od)).length cq) (dX od)->Calls Tryz.prog 51 #[.agg #[.bool (dN (P i)),.slice p (ws (dX (P i))).length cp,.int .i64 (dE (P i))],.agg #[.bool (dN od),.slice q (ws (dX od)).length cq,.int .i64 (dE od)]] u fun r w'=>bI 0 w' r (P (i+1))/\Below u.heap.size u w') :=
  fun i u p q cp cq hi hT n1 n2=>iL (FP i ae) F0 (FP (i+1) ae) n1 n2 hT (EP i hi)
 have HW:=aA hW;have PF:=aA FP;have HT:=aA hT;clear hW N1 F0 FP EP E0 hT;go_enter Tryz.func47,Tryz.ntmps47
 go_upto_region 1 with fail
 rw[<-HW.o];clear HW;go_wp2_with fail;refine HI.o.mono ?_;rintro r u ⟨hd,hb⟩;obtain⟨a1,c1,rfl,hN0⟩:=hd.ko (PF.o 0 (nV _));obtain⟨U,hU⟩:=ah (u.alloc (Obj.cells #[.bool (dN (P 0)),.slice a1 (ws (dX (P 0))).length c1,.int .i64 (dE (P 0))] 25))
 have H1:Aside (Lo U u.heap.size (P 0)/\Lo U w.heap.size od/\Lo U (w.heap.size+1) iY/\Below w.heap.size w U/\w.heap.size+1<u.heap.size):=by
  rw[hU];have b0:=H0.o.r2;have l1:=(H0.o.2.1.below hb).lt;exact⟨Lo.new hN0,(H0.o.1.below hb).below (af _ _),(H0.o.2.1.below hb).below (af _ _),(b0.trans (hb.mono b0.size)).trans ((af _ _).mono (dW b0.size hb.size)),l1⟩
 obtain⟨gp,hgp⟩:=ah (u.heap.size);rw[<-hgp] at H1;have HU:=(aP hU hgp);clear hU hN0 hb hd HI H0 hgp
 go_upto_region 2 with fail
 rw[<-HU.o.1,<-HU.o.2];clear HU;go_wp2
 go_loopg [8] k (fun gk i wr=>∃ j:Nat,gk+j=k/\i=.int .i64 (j:Nat)/\Aside (Lo wr gp (P j)/\Lo wr w.heap.size od/\Lo wr (w.heap.size+1) iY/\Below w.heap.size w wr))
 case atStart=>exact⟨0,ae,aQ,H1.o.1,H1.o.2.1,H1.o.r2.1,H1.o.r3.1⟩
 case round =>
  obtain⟨j,hgj,rfl,HA⟩:=hrel
  by_cases hj:j<k
  · obtain⟨p1,q1,D1,M1⟩:=HA.o.1;obtain⟨p2,q2,D2,M2⟩:=HA.o.2.1;obtain⟨x0,x1,x2,dw,dz,dA⟩:=D1.facts;obtain⟨y0,y1,y2,dF,dG,dH⟩:=D2.facts;have C:=hid (HM.o j wr p1 p2 q1 q2 hj (HT.o.belows HA.o.r3) M1 M2);clear D1 D2 M1 M2;go_wp2_with fail;refine C.o.mono ?_;rintro r u3 ⟨hd,hb⟩;obtain⟨a3,c3,rfl,hN0⟩:=hd.ko (PF.o (j+1) ae);have s1:=HA.o.1.below hb;have b2:=HA.o.r3.trans (hb.mono HA.o.r3.size);have h5:=H1.o.r4;have H3:=ic (s1.set hN0) ((HA.o.2.1.below hb).other s1 ae (.bool (dN (P (j+1)))) (.slice a3 (ws (dX (P (j+1)))).length c3) (.int .i64 (dE (P (j+1))))) ((HA.o.r2.1.below hb).other s1 ae (.bool (dN (P (j+1)))) (.slice a3 (ws (dX (P (j+1)))).length c3) (.int .i64 (dE (P (j+1))))) (fB b2 b2.size (show w.heap.size<=gp by omega) (.bool (dN (P (j+1)))) (.slice a3 (ws (dX (P (j+1)))).length c3) (.int .i64 (dE (P (j+1)))));obtain⟨p3,q3,D3,M3⟩:=s1;obtain⟨z0,z1,z2,gQ,gT,gU⟩:=D3.facts;clear D3 M3 hN0 hb C x0 x1 x2 dw dz dA y0 y1 y2 dF dG dH hd b2 h5;exact K0
  · obtain rfl:k=j:=ae
    have hd:decide ((k:Int)<k)=false:=by simp
    obtain⟨p1,q1,D1,M1⟩:=HA.o.1;obtain⟨p2,q2,D2,M2⟩:=HA.o.r2.1;obtain⟨x0,x1,x2,dw,dz,dA⟩:=D1.facts;obtain⟨y0,y1,y2,dF,dG,dH⟩:=D2.facts;have D8:=aA M1;clear D1 D2 M1 M2;go_wp2;exact jT Tryz.results47 rfl HA.o.r2.1 HA.o.r3 ae D8.o
theorem Kf{P:Prop}(h:P:=by
 rw[<-E0];have z2:=Lo.zero (w.alloc (Obj.cells zD3 25));rw[dD] at z2;exact⟨z2,(Lo.zero w).below (af _ _),(af _ _).trans ((af _ _).mono aQ)⟩):P:=h
theorem Zs{P:Prop}(h:P:=by
 obtain⟨j,hgj,rfl,HA⟩:=hrel
 by_cases hj:j<n
 · obtain⟨p1,q1,D1,M1⟩:=HA.o.1;have hdr:=(aD wr.heap.size wr).drew;have kS:=dC (D1.below hdr).facts.1 (D1.below hdr).facts.2.1 (D1.below hdr).facts.2.2.1;have B1:=ic (D1.below hdr) (M1.below hdr) (HA.o.2.1.below hdr) (HA.o.r2.trans (hdr.mono HA.o.r2.size));have C:=hid (HC.o j wr.drew hj B1.o.r3);clear D1 M1 hdr
   go_upto_region 5 with fail
   refine fE (fun u=>u.cell? ⟨w.heap.size+1,0,none⟩=some (.bool (dN (T j)))/\u.cell? ⟨w.heap.size+1,1,none⟩=some (.slice p1 (ws (dX (T j))).length q1)/\u.cell? ⟨w.heap.size+1,2,none⟩=some (.int .i64 (dE (T j)))) 5 df ?_
   refine tk 0 [4] rfl kS.o ?_;try simp only[Act.put,sa,sb,sc]
   refine tk 1 [3,4] rfl kS.o ?_;try simp only[Act.put,sa,sb,sc]
   refine tk 2 [3,4] rfl kS.o ?_;try simp only[Act.put,sa,sb,sc]
   refine au (i:=3) df rfl (fun K' hK=>?_);go_simp;refine C.o.mono ?_;rintro r u3 ⟨hd,hb⟩;obtain⟨a3,c3,rfl,fV⟩:=hd.ko (PF.o.2 j hj);have B2:=fO (B1.o.1.below hb) (B1.o.2.1.below hb) (B1.o.r2.1.below hb) (B1.o.r3.trans (hb.mono B1.o.r3.size)) fV;have kS:=dC B2.o.1.facts.1 B2.o.1.facts.2.1 B2.o.1.facts.2.2.1;clear hb hd C B1 fV;dsimp only;refine hK.out _ _ (fun _=>kS.o) ?_;clear hK K'
   try simp only[Act.put,sa,sb,sc]
   have C:=hid (HP.o j u3 p1 a3 q1 c3 hj (HT.o.belows B2.o.r3.1) B2.o.2.1 B2.o.r4);refine au (i:=4) df rfl (fun K' hK=>?_);go_simp;refine C.o.mono ?_;rintro r u4 ⟨hd,hb⟩;obtain⟨a4,c4,rfl,iX⟩:=hd.ko (PF.o.1 (j+1) ae);have B3:=fO (B2.o.1.below hb) (B2.o.2.1.below hb) (B2.o.r2.1.below hb) (B2.o.r3.1.trans (hb.mono B2.o.r3.1.size)) iX;have kS:=dC B3.o.1.facts.1 B3.o.1.facts.2.1 B3.o.1.facts.2.2.1;clear hb hd C B2 iX;dsimp only;refine hK.out _ _ (fun _=>kS.o) ?_;clear hK K'
   try simp only[Act.put,sa,sb,sc]
   obtain⟨z0,z1,z2,gQ,gT,gU⟩:=B3.o.1.facts;refine au (i:=5) df rfl (fun K' hK=>?_);go_simp;refine hK.out _ _ (fun h=>absurd h aj) ?_;clear hK K' kS z0 z1 z2 gQ gT gU;refine aS df ?_ _;have LB:Lo u4 (w.heap.size+1) (T j):=⟨_,_,B3.o.1,B3.o.2.1⟩;have b3:=B3.o.r3.1;have H3:=dC (LB.set B3.o.r4) (B3.o.r2.1.other LB ae (.bool (dN (T (j+1)))) (.slice a4 (ws (dX (T (j+1)))).length c4) (.int .i64 (dE (T (j+1))))) (fB b3 b3.size (show w.heap.size<=w.heap.size+1 by omega) (.bool (dN (T (j+1)))) (.slice a4 (ws (dX (T (j+1)))).length c4) (.int .i64 (dE (T (j+1)))));clear LB b3;go_wp2;go_roundg (gk-1)
   case measure=>omega
   case rel=>exact⟨j+1,ae,by first | rfl | simp,H3.o⟩
 · obtain rfl:n=j:=ae
   have hd:decide ((n:Int)<n)=false:=by simp
   obtain⟨p1,q1,D1,M1⟩:=HA.o.1;obtain⟨p2,q2,D2,M2⟩:=HA.o.2.1;obtain⟨x0,x1,x2,dw,dz,dA⟩:=D1.facts;obtain⟨y0,y1,y2,dF,dG,dH⟩:=D2.facts;have D8:=aA M1;clear D1 D2 M1 M2;go_wp2;exact jT Tryz.results84 rfl HA.o.2.1 HA.o.r2 ae D8.o):P:=h
theorem OM (w:World) (n h0:Nat) (A T:Nat->Option (Bool×Nat×Int)) (hn:n<=65536) (hT:dU w) (FA:∀ i,i<n->Fm (A i)) (FT:∀ i,i<=n->Fm (T i)) (ET:∀ i,i<n->jv (T i) (A i)=T (i+1)) (E0:iY=T 0)
 (HC:Hid (∀ (i:Nat) (u:World),i<n->Below w.heap.size w u->Calls Tryz.prog 85 #[.int .i64 (i:Nat),.pointer (some ⟨h0,0,none⟩)] u fun r w'=>bI 0 w' r (A i)/\Below u.heap.size u w')) :
 Calls Tryz.prog 84 #[.int .i64 (n:Nat),.func (.func 85) #[] #[.pointer (some ⟨h0,0,none⟩)]] w fun r w'=>bI 0 w' r (T n)/\Below w.heap.size w w':=by
 obtain⟨W,hW⟩:=ah ((w.alloc (Obj.cells zD3 25)).alloc (Obj.cells zD3 25))
 have H0:Aside (Lo W (w.heap.size+1) (T 0)/\Lo W w.heap.size iY/\Below w.heap.size w W):=by
  subst hW;exact Kf
 have HP:Hid (∀ (i:Nat) (u:World) (p q:Option Addr) (cp cq:Nat),i<n->dU u->Nt 0 u (.slice p (ws (dX (T i))).length cp) (dX (T i))->Nt 0 u (.slice q (ws (dX (A i))).length cq) (dX (A i))->Calls Tryz.prog 124 #[.agg #[.bool (dN (T i)),.slice p (ws (dX (T i))).length cp,.int .i64 (dE (T i))],.agg #[.bool (dN (A i)),.slice q (ws (dX (A i))).length cq,.int .i64 (dE (A i))]] u fun r w'=>bI 0 w' r (T (i+1))/\Below u.heap.size u w') :=
  fun i u p q cp cq hi hT n1 n2=>D5 (FT i ae) (FA i hi) (FT (i+1) ae) n1 n2 hT (ET i hi)
 have HW:=aA hW;have PF:=aP FT FA;have HT:=aA hT;clear hW FT FA ET E0 hT;go_enter Tryz.func84,Tryz.ntmps84
 go_upto_region 2 with fail
 rw[<-HW.o];clear HW;go_wp2
 go_loopg [8] n (fun gk i wr=>∃ j:Nat,gk+j=n/\i=.int .i64 (j:Nat)/\Aside (Lo wr (w.heap.size+1) (T j)/\Lo wr w.heap.size iY/\Below w.heap.size w wr))
 case atStart=>exact⟨0,ae,aQ,H0.o⟩
 case round =>
  exact Zs
def Dr(w:World)(g n k:Nat)(A:Nat->Option (Bool×Nat×Int)):Prop:=∃ cur:Array Value,w.heap[g]?=some (.cells cur 25 (0,0))/\cur.size=n*3/\∀ i,i<k->∃ a c,cur[i*3]?=some (.bool (dN (A i)))/\cur[i*3+1]?=some (.slice a (ws (dX (A i))).length c)/\cur[i*3+2]?=some (.int .i64 (dE (A i)))/\Nt 0 w (.slice a (ws (dX (A i))).length c) (dX (A i))
theorem Dr.lt{w:World}{g n k:Nat}{A:Nat->Option (Bool×Nat×Int)}(h:Dr w g n k A):g<w.heap.size:=by obtain⟨c,h,_⟩:=h;exact(gL.1 h).1
theorem Dr.below{w w':World}{g n k:Nat}{A:Nat->Option (Bool×Nat×Int)}(h:Dr w g n k A)(hb:Below w.heap.size w w'):Dr w' g n k A:=by
 have hl:=h.lt;obtain⟨c,h,hs,r⟩:=h;refine⟨c,by rw[hb.block g hl];exact h,hs,fun i hi=>?_⟩;obtain⟨a,d,r1,r2,r3,r4⟩:=r i hi;exact⟨a,d,r1,r2,r3,r4.below hb⟩
theorem Dr.facts{w:World}{g n k:Nat}{A:Nat->Option (Bool×Nat×Int)}(h:Dr w g n k A)(i:Nat)(hi:i<k) :
 ∃ a c,w.cell? ⟨g,i*3,none⟩=some (.bool (dN (A i)))/\w.cell? ⟨g,i*3+1,none⟩=some (.slice a (ws (dX (A i))).length c)/\w.cell? ⟨g,i*3+2,none⟩=some (.int .i64 (dE (A i)))/\Nt 0 w (.slice a (ws (dX (A i))).length c) (dX (A i)):=by
 obtain⟨c,h,hs,r⟩:=h;obtain⟨a,d,r1,r2,r3,r4⟩:=r i hi;refine⟨a,d,?_,?_,?_,r4⟩ <;> simp[World.cell?,h,r1,r2,r3]
theorem Dr.room{w:World}{g n k:Nat}{A:Nat->Option (Bool×Nat×Int)}(h:Dr w g n k A)(j:Nat)(hj:j<n*3):(∃ v,w.cell? ⟨g,j,none⟩=some v)/\w.frozen? ⟨g,j,none⟩=false:=by
 obtain⟨c,h,hs,r⟩:=h;refine⟨⟨c[j]'(by omega),?_⟩,?_⟩
 · simp[World.cell?,h]
 · simp[World.frozen?,h]
abbrev st3o(w:World)(g o:Nat)(a b c:Value):World:=((w.setCell ⟨g,o,none⟩ a).setCell ⟨g,o+1,none⟩ b).setCell ⟨g,o+2,none⟩ c
theorem zO(g o:Nat)(w:World)(a b c:Value):But g w (st3o w g o a b c):=(((But.refl g w).set _ _).set _ _).set _ _
theorem z9{P:Prop}(h:P:=by
 simp[uJ,show i*3≠j*3 by omega,show i*3≠j*3+1 by omega,show i*3≠j*3+2 by omega,show i*3+1≠j*3 by omega,show i*3+1≠j*3+1 by omega,show i*3+1≠j*3+2 by omega,show i*3+2≠j*3 by omega,show i*3+2≠j*3+1 by omega,show i*3+2≠j*3+2 by omega,show i≠j by omega]):P:=h
theorem Dr.step{w:World}{g n i:Nat}{A:Nat->Option (Bool×Nat×Int)}(h:Dr w g n i A)(hi:i<n){a:Option Addr}{c:Nat}(hN:Nt 0 w (.slice a (ws (dX (A i))).length c) (dX (A i))) :
 Dr (st3o w g (i*3) (.bool (dN (A i))) (.slice a (ws (dX (A i))).length c) (.int .i64 (dE (A i)))) g n (i+1) A:=by
 obtain⟨cur,h1,hs,r⟩:=h;refine⟨_,DT (DT (DT h1 (i*3) _) (i*3+1) _) (i*3+2) _,by simp;exact hs,fun j hj=>?_⟩
 by_cases e:j=i
 · subst e;refine⟨a,c,?_,?_,?_,hN.off (zO _ _ _ _ _ _) (hN.ma aj h1)⟩ <;> (simp[uJ];omega)
 · obtain⟨b,d,r1,r2,r3,r4⟩:=r j ae;refine⟨b,d,?_,?_,?_,r4.off (zO _ _ _ _ _ _) (r4.ma aj h1)⟩
   · rw[<-r1];simp[uJ,show i*3≠j*3 by omega,show i*3+1≠j*3 by omega,show i*3+2≠j*3 by omega]
   · rw[<-r2];exact z9
   · rw[<-r3];exact z9
theorem Tryz.Gi:Tryz.prog.underlying 72=some (.slice 25):=by kernel_rfl
theorem Tryz.Gj:(Tryz.prog.info? 25).map (fun i=>(i.zero,i.size,i.bytes))=some (some (.agg zD3),3,40):=by kernel_rfl
theorem D9(n:Nat)(hn:n<=65536)(w:World) :
 (Instr.makeSlice 72 (.int .i64 (n:Nat)) (.int .i64 (n:Nat))).run Tryz.prog w=.ok (.slice (some ⟨w.heap.size,0,none⟩) n n) (w.alloc (.cells (madeCells zD3 (n*3)) 25)):=by
 have h:=Tryz.Gj
 cases hq:Tryz.prog.info? 25 with
 | none=>rw[hq] at h;cases h
 | some i =>
   rw[hq] at h;simp only[Option.map_some,Option.some.injEq,Prod.mk.injEq] at h;obtain⟨hz,hs,hb⟩:=h;have:=run_make (P:=Tryz.prog) w 72 25 i _ Tryz.Gi hq hz .i64 .i64 (n:Nat) (n:Nat) ae ae (by rw[hb];omega) ae;rw[hs,nW] at this;exact this
theorem Dr.made(w:World)(n:Nat)(A:Nat->Option (Bool×Nat×Int)):Dr (w.alloc (.cells (madeCells zD3 (n*3)) 25)) w.heap.size n 0 A :=
 ⟨_,gY _ _,size_madeCells _ _,fun i hi=>absurd hi ae⟩
theorem Sr(x:Nat)(hx:x<18446744073709551616)(fx:¬ dR x)(w:World)(hT:dU w) :
 Calls Tryz.prog 83 #[.float .f64 x] w fun r w'=>(∃ a c,r=.returned (.tuple #[.agg #[.bool false,.slice a 0 c,.int .i64 0],.int .i64 30])/\Nt w.heap.size w' (.slice a 0 c) 0)/\Below w.heap.size w w':=by
 have e:B.bw (aV x) (aK x/4503599627370496) (aK x%4503599627370496)=x:=by
  have h1:aK x=x%9223372036854775808:=rfl;unfold B.bw
  by_cases h:9223372036854775808<=x
  · rw[show aV x=true from decide_eq_true h];simp only[kU];omega
  · rw[show aV x=false from decide_eq_false h];simp only[kV];omega
 have hm:aK x<9223372036854775808:=lU _ aj;have hm2:¬ aK x<9218868437227405312:=fx;have:=QH (aV x) (aK x/4503599627370496) (aK x%4503599627370496) ae ae w hT;rw[e] at this;refine this.mono ?_;rintro r w' ⟨⟨v,rfl,hN⟩,hb⟩;have e1:Vj (aV x) (aK x/4503599627370496) (aK x%4503599627370496)=none:=by unfold Vj;rw[if_pos ae]
 have e2:QF (aK x/4503599627370496)=30:=by unfold QF;rw[if_pos ae]
 rw[e1] at hN |-;rw[e2];obtain⟨a,c,rfl,_⟩:=hN.arg (by show(ws 0).length<=_;rw[bO];decide);rw[show(ws (dX (none:Option (Bool×Nat×Int)))).length=0 by simp[dX,bO]] at hN |-;exact⟨⟨a,c,rfl,hN⟩,hb⟩
theorem of14(x:Nat)(hx:x<18446744073709551616)(fx:dR x)(w:World)(hT:dU w) :
 Calls Tryz.prog 83 #[.float .f64 x] w fun r w'=>(∃ v,r=.returned (.tuple #[.agg #[.bool (dN (gV 1074 (q8 x))),v,.int .i64 (dE (gV 1074 (q8 x)))],.int .i64 0])/\Nt w.heap.size w' v (dX (gV 1074 (q8 x))))/\Below w.heap.size w w':=Wx x ⟨hx,fx⟩ w hT
theorem Su(i n g4 gA:Nat)(A:Nat->Option (Bool×Nat×Int))(u:World)(hi:i<n)(hn:n<=65536)(hB:Bl u g4 72 [.slice (some ⟨gA,0,none⟩) n n])(hD:Dr u gA n n A) :
 Calls Tryz.prog 85 #[.int .i64 (i:Nat),.pointer (some ⟨g4,0,none⟩)] u fun r w'=>bI 0 w' r (A i)/\Below u.heap.size u w':=by
 obtain⟨W,hW⟩:=ah (u.alloc (Obj.cells zD3 25))
 have H0:Aside (Lo W u.heap.size iY/\Dr W gA n n A/\Bl W g4 72 [.slice (some ⟨gA,0,none⟩) n n]/\Below u.heap.size u W):=by
  rw[hW];exact⟨Lo.zero _,hD.below (af _ _),hB.below (af _ _) hB.lt,af _ _⟩
 have HW:=aA hW;clear hW hB hD;go_enter Tryz.func85,Tryz.ntmps85
 go_upto_region 1 with fail
 rw[<-HW.o];clear HW;have s0:=H0.o.r2.1.cell 0 _ rfl;obtain⟨a,c,x0,x1,x2,M⟩:=H0.o.2.1.facts i hi;have D8:=aA M;obtain⟨p2,q2,D2,M2⟩:=H0.o.1;obtain⟨y0,y1,y2,dF,dG,dH⟩:=D2.facts;clear D2 M2 M;go_wp2;exact jT Tryz.results85 rfl H0.o.1 H0.o.r3 ae D8.o
theorem Dr.but{w w':World}{g g' n k T:Nat}{A:Nat->Option (Bool×Nat×Int)}{L:List Value}(h:Dr w g n k A)(hb:But g' w w')(hB:Bl w g' T L)(hg:g≠g')(hT:T≠51):Dr w' g n k A:=by
 have hl:=h.lt;obtain⟨c,h,hs,r⟩:=h;refine⟨c,by rw[hb.block g hl hg];exact h,hs,fun i hi=>?_⟩;obtain⟨a,d,r1,r2,r3,r4⟩:=r i hi;exact⟨a,d,r1,r2,r3,r4.off hb (r4.ma hT hB)⟩
def fiB(xs:List Nat):Bool:=xs.all (fun x=>decide (aK x<9218868437227405312))
theorem ji(xs:List Nat):fiB xs=true↔∀ x ∈ xs,dR x:=by
 unfold fiB;rw[CP];constructor
 · intro h x hx;exact of_decide_eq_true (h x hx)
 · intro h x hx;exact decide_eq_true (h x hx)
def rR(xs:List Nat):Int:=if 65536<xs.length then 2 else if fiB xs then 0 else 30
def fX(xs:List Nat)(i:Nat):Int:=q8 (xs.getD i 0)
def sX(xs:List Nat):Int:=tS (fX xs) xs.length
theorem iD{xs:List Nat}(hW:mE xs)(hf:∀ x ∈ xs,dR x)(i:Nat)(hi:i<xs.length):Bd 2098 (fX xs i):=by
 unfold fX;rw[fF,gD hi];exact Sj (hW _ (nu hi)) (hf _ (nu hi))
theorem jf{xs:List Nat}(hW:mE xs)(hf:∀ x ∈ xs,dR x)(hl:xs.length<=65536)(k:Nat)(hk:k<=xs.length):Bd 2114 (tS (fX xs) k):=uk (fun i hi=>iD hW hf i hi) hl k hk
def Rr(w:World)(v:Value)(n:Nat)(A:Nat->Option (Bool×Nat×Int))(S:Option (Bool×Nat×Int)):Prop:=∃ gA a c,v=.agg #[.slice (some ⟨gA,0,none⟩) n n,.bool (dN S),.slice a (ws (dX S)).length c,.int .i64 (dE S)]/\Dr w gA n n A/\Nt 0 w (.slice a (ws (dX S)).length c) (dX S)
theorem Rr.below{w w':World}{v:Value}{n:Nat}{A:Nat->Option (Bool×Nat×Int)}{S:Option (Bool×Nat×Int)}(h:Rr w v n A S)(hb:Below w.heap.size w w'):Rr w' v n A S:=by
 obtain⟨g,a,c,e,h1,h2⟩:=h;exact⟨g,a,c,e,h1.below hb,h2.below hb⟩
theorem um(xs:List Nat)(a:Option Addr)(n c:Nat)(w:World)(hn:n=xs.length)(hF:Fs w.heap.size w a xs)(hW:mE xs)(hT:dU w)(hl:n<=35184372088832) :
 Calls Tryz.prog 45 #[.slice a n c] w fun r w' =>
  ((rR xs≠0/\r=.returned (.tuple #[.agg #[.slice none 0 0,.bool false,.slice none 0 0,.int .i64 0],.int .i64 (rR xs)])) \/
   (rR xs=0/\∃ v,r=.returned (.tuple #[v,.int .i64 0])/\Rr w' v n (fun i=>gV 1074 (fX xs i)) (gV 1074 (sX xs))))/\Below w.heap.size w w':=by
 obtain⟨W,nQ⟩:=ah (w.alloc (Obj.cells #[.slice none 0 0,.bool false,.slice none 0 0,.int .i64 0] 74))
 have H0:Aside (Bl W w.heap.size 74 [.slice none 0 0,.bool false,.slice none 0 0,.int .i64 0]/\Below w.heap.size w W):=by
  rw[nQ];exact⟨Bl.new _ 74 [_,_,_,_],aN _ _⟩
 have lG:=aA nQ;clear nQ
 by_cases hL:65536<n
 · have e:rR xs=2:=by unfold rR;rw[if_pos ae]
   rw[e];have d5:decide ((65536:Int)<(n:Nat))=true:=by simp;omega
   clear hn hF hW hT e;go_enter Tryz.func45,Tryz.ntmps45
   go_upto_region 1 with fail
   rw[<-lG.o];clear lG;have c0:=H0.o.1.cell 0 _ rfl;have c1:=H0.o.1.cell 1 _ rfl;have c2:=H0.o.1.cell 2 _ rfl;have c3:=H0.o.1.cell 3 _ rfl;have f0:=H0.o.1.frozen 0;have f1:=H0.o.1.frozen 1;have f2:=H0.o.1.frozen 2;have f3:=H0.o.1.frozen 3;go_wp2;have q:=(((H0.o.1.set 0 (.slice none 0 0)).set 1 (.bool false)).set 2 (.slice none 0 0)).set 3 (.int .i64 0);have g0:=q.cell 0 _ rfl;have g1:=q.cell 1 _ rfl;have g2:=q.cell 2 _ rfl;have g3:=q.cell 3 _ rfl;refine aG (v:=.tuple #[.agg #[.slice none 0 0,.bool false,.slice none 0 0,.int .i64 0],.int .i64 2]) (by simp[results,Tryz.results45,go_sem,g0,g1,g2,g3]) rfl ⟨.inl ⟨aj,rfl⟩,?_⟩;exact But.below H0.o.2 (((((But.refl _ _).set 0 _).set 1 _).set 2 _).set 3 _) H0.o.2.size (aC _)
 · have d5:decide ((65536:Int)<(n:Nat))=false:=by simp;omega
   have hmk:=D9 n ae;obtain⟨A,hA⟩:∃ A:Nat->Option (Bool×Nat×Int),A=fun i=>gV 1074 (fX xs i):=⟨_,rfl⟩;obtain⟨W1,hW1⟩:=ah ((W.alloc (.cells (madeCells zD3 (n*3)) 25)).alloc (Obj.cells #[.slice (some ⟨w.heap.size+1,0,none⟩) n n] 72));have hws:W.heap.size=w.heap.size+1:=by rw[lG.o];simp
   have H1:Aside (Dr W1 (w.heap.size+1) n 0 A/\Bl W1 (w.heap.size+2) 72 [.slice (some ⟨w.heap.size+1,0,none⟩) n n]/\Bl W1 w.heap.size 74 [.slice none 0 0,.bool false,.slice none 0 0,.int .i64 0]/\Below w.heap.size w W1):=by
    rw[hW1];have z1:=Dr.made W n A;rw[hws] at z1;have z2:=Bl.new (W.alloc (.cells (madeCells zD3 (n*3)) 25)) 72 [.slice (some ⟨w.heap.size+1,0,none⟩) n n];rw[dD,hws] at z2;have b0:=H0.o;exact⟨z1.below (af _ _),z2,(b0.1.alloc _).alloc _,(b0.2.trans ((af _ _).mono b0.2.size)).trans ((af _ _).mono (by simp;have:=b0.2.size;omega))⟩
   have HW1:=aA hW1;have HX:=fO hn hF hW hT hA;have HL:=aA hL
   have HE:Aside (∀ x ∈ xs,¬ dR x->rR xs=30):=by
    intro x hx hf;unfold rR;rw[if_neg ae,if_neg (by intro q;exact hf ((ji xs).1 q x hx))]
   clear hW1 hn hF hW hT hA hws hL;go_enter Tryz.func45,Tryz.ntmps45
   go_upto_region 1 with fail
   rw[<-lG.o]
   go_upto_region 4 with fail
   have hgs:W.heap.size=w.heap.size+1:=by rw[lG.o];simp
   try rw[hgs]
   rw[<-HW1.o];clear HW1 lG hgs;go_wp2
   go_loopg [17] n (fun gk i wr=>∃ j:Nat,gk+j=n/\i=.int .i64 (j:Nat)/\Aside (Dr wr (w.heap.size+1) n j A/\Bl wr (w.heap.size+2) 72 [.slice (some ⟨w.heap.size+1,0,none⟩) n n]/\Bl wr w.heap.size 74 [.slice none 0 0,.bool false,.slice none 0 0,.int .i64 0]/\Below w.heap.size w wr/\∀ i,i<j->dR (xs.getD i 0)))
   case atStart=>exact⟨0,ae,aQ,H1.o.1,H1.o.2.1,H1.o.r2.1,H1.o.r3,fun i hi=>absurd hi ae⟩
   case round =>
    obtain⟨j,hgj,rfl,HA⟩:=hrel
    by_cases hj:j<n
    · obtain⟨b,off,rfl,hc⟩:=HX.o.2.1.at HA.o.r3.1 j (by rw[<-HX.o.1];exact hj);obtain⟨x,hx⟩:=ah (xs.getD j 0);rw[<-hx] at hc;have Sv:x<18446744073709551616:=by rw[hx];exact HX.o.r2.1.get j
      by_cases hfx:dR x
      · have C:=hid (of14 x Sv hfx wr (HX.o.r3.1.belows HA.o.r3.1));have eA:gV 1074 (q8 x)=A j:=by rw[HX.o.r4,hx];rfl
        rw[eA] at C;have FA:Fm (A j):=by rw[<-eA];exact dJ aj aj (Sj Sv hfx)
        have PA:=(dC FA hfx hx);clear eA FA hfx hx Sv;go_wp2_with fail;refine C.o.mono ?_;rintro r u ⟨⟨v,rfl,hN⟩,hb⟩;obtain⟨a1,c1,rfl,hN0⟩:=Lo.shape PA.o.1 hN;obtain⟨U,hU⟩:=ah (u.alloc (Obj.cells #[.bool (dN (A j)),.slice a1 (ws (dX (A j))).length c1,.int .i64 (dE (A j))] 25))
        have H2:Aside (Dk U u.heap.size (dN (A j)) (.slice a1 (ws (dX (A j))).length c1) (dE (A j))/\Nt 0 U (.slice a1 (ws (dX (A j))).length c1) (dX (A j))/\Dr U (w.heap.size+1) n j A/\Bl U (w.heap.size+2) 72 [.slice (some ⟨w.heap.size+1,0,none⟩) n n]/\Bl U w.heap.size 74 [.slice none 0 0,.bool false,.slice none 0 0,.int .i64 0]/\Below w.heap.size w U):=by
         rw[hU];have b0:=HA.o.r3.1;exact⟨Dk.new _ _ _ _,hN0.below (af _ _),(HA.o.1.below hb).below (af _ _),(HA.o.2.1.below hb HA.o.2.1.lt).alloc _,(HA.o.r2.1.below hb HA.o.r2.1.lt).alloc _,(b0.trans (hb.mono b0.size)).trans ((af _ _).mono (dW b0.size hb.size))⟩
        obtain⟨gq,xK⟩:=ah (u.heap.size);rw[<-xK] at H2;have HU:=(aP hU xK);clear hU hN hN0 hb C xK hc
        go_upto_region 10 with fail
        rw[<-HU.o.1,<-HU.o.2];clear HU;obtain⟨x0,x1,x2,dw,dz,dA⟩:=H2.o.1.facts;have s0:=H2.o.r3.1.cell 0 _ rfl;obtain⟨⟨v0,k0⟩,kf0⟩:=H2.o.r2.1.room (j*3) ae;obtain⟨⟨v1,k1⟩,kf1⟩:=H2.o.r2.1.room (j*3+1) ae;obtain⟨⟨v2,k2⟩,kf2⟩:=H2.o.r2.1.room (j*3+2) ae;go_wp2;go_roundg (gk-1)
        case measure=>omega
        case rel =>
         have hbt:=zO (w.heap.size+1) (j*3) U (.bool (dN (A j))) (.slice a1 (ws (dX (A j))).length c1) (.int .i64 (dE (A j)));refine⟨j+1,ae,by first | rfl | simp,H2.o.r2.1.step hj H2.o.2.1,H2.o.r3.1.but hbt ae,H2.o.r4.1.but hbt ae,But.below H2.o.r5 hbt H2.o.r5.size ae,fun i hi=>?_⟩
         by_cases e:i=j
         · subst e;rw[<-PA.o.r2];exact PA.o.2.1
         · exact HA.o.r4 i ae
      · have C:=hid (Sr x Sv hfx wr (HX.o.r3.1.belows HA.o.r3.1));have e30:rR xs=30:=HE.o x (by rw[hx,fF,gD (by rw[<-HX.o.1];exact hj)];exact nu _) hfx;have E30:=aA e30;clear hfx hx Sv e30;go_wp2_with fail;refine C.o.mono ?_;rintro r u ⟨⟨a1,c1,rfl,hN⟩,hb⟩;obtain⟨U,hU⟩:=ah (u.alloc (Obj.cells #[.bool false,.slice a1 0 c1,.int .i64 0] 25))
        have H2:Aside (Bl U w.heap.size 74 [.slice none 0 0,.bool false,.slice none 0 0,.int .i64 0]/\Below w.heap.size w U):=by
         rw[hU];have b0:=HA.o.r3.1;exact⟨(HA.o.r2.1.below hb HA.o.r2.1.lt).alloc _,(b0.trans (hb.mono b0.size)).trans ((af _ _).mono (dW b0.size hb.size))⟩
        have HU:=aA hU;clear hU hN hb C hc
        go_upto_region 9 with fail
        rw[<-HU.o];clear HU;have c0:=H2.o.1.cell 0 _ rfl;have c1:=H2.o.1.cell 1 _ rfl;have c2:=H2.o.1.cell 2 _ rfl;have c3:=H2.o.1.cell 3 _ rfl;have f0:=H2.o.1.frozen 0;have f1:=H2.o.1.frozen 1;have f2:=H2.o.1.frozen 2;have f3:=H2.o.1.frozen 3;go_wp2;have q:=(((H2.o.1.set 0 (.slice none 0 0)).set 1 (.bool false)).set 2 (.slice none 0 0)).set 3 (.int .i64 0);have g0:=q.cell 0 _ rfl;have g1:=q.cell 1 _ rfl;have g2:=q.cell 2 _ rfl;have g3:=q.cell 3 _ rfl;refine aG (v:=.tuple #[.agg #[.slice none 0 0,.bool false,.slice none 0 0,.int .i64 0],.int .i64 30]) (by simp[results,Tryz.results45,go_sem,g0,g1,g2,g3]) rfl ⟨.inl ⟨by rw[E30.o];decide,by rw[E30.o]⟩,?_⟩;exact But.below H2.o.2 (((((But.refl _ _).set 0 _).set 1 _).set 2 _).set 3 _) H2.o.2.size (aC _)
    · obtain rfl:n=j:=ae
      have hd:decide ((n:Int)<n)=false:=by simp
      have hall:∀ x ∈ xs,dR x:=by
       intro x hx;obtain⟨i,hi,e⟩:=List.getElem_of_mem hx;have:=HA.o.r4 i (by rw[HX.o.1];exact hi);rw[fF,gD hi] at this;rw[<-e];exact this
      have e0:rR xs=0:=by unfold rR;rw[if_neg (by have:=HL.o;have:=HX.o.1;omega),if_pos ((ji xs).2 hall)]
      have E0:=aA e0;obtain⟨S,hS⟩:=ah (gV 1074 (sX xs));have FS:Fm S:=by rw[hS];exact dJ aj aj (jf HX.o.r2.1 hall (by have:=HL.o;have:=HX.o.1;omega) _ (aC _))
      have HS:=aA hS
      have HC:Hid (∀ u:World,Below wr.heap.size wr u->dU u->Calls Tryz.prog 84 #[.int .i64 (n:Nat),.func (.func 85) #[] #[.pointer (some ⟨w.heap.size+2,0,none⟩)]] u fun r w'=>bI 0 w' r S/\Below u.heap.size u w'):=fun u hu su=>by
       have hl:=HL.o
       have:=OM u n (w.heap.size+2) A (fun i=>gV 1074 (tS (fX xs) i)) ae su (fun i hi=>by rw[HX.o.r4];exact dJ aj aj (iD HX.o.r2.1 hall i (by rw[<-HX.o.1];exact hi)))
        (fun i hi=>dJ aj aj (jf HX.o.r2.1 hall (by have:=HX.o.1;omega) i (by rw[<-HX.o.1];exact hi)))
        (fun i hi=>by rw[HX.o.r4];exact zK aj aj (jf HX.o.r2.1 hall (by have:=HX.o.1;omega) i (by rw[<-HX.o.1];omega)) ((iD HX.o.r2.1 hall i (by rw[<-HX.o.1];exact hi)).mono aj))
        (nP 1074).symm (hid fun i v hi hv=>Su i n (w.heap.size+2) (w.heap.size+1) A v hi ae ((HA.o.2.1.below hu HA.o.2.1.lt).below hv (HA.o.2.1.below hu HA.o.2.1.lt).lt) ((HA.o.1.below hu).below hv))
       rw[hS];unfold sX;rw[<-HX.o.1];exact this
      have hdr:=(aD wr.heap.size wr).drew;have HT:=aA (HX.o.r3.1.belows HA.o.r3.1);have BD:=(ic (HA.o.1.below hdr) (HA.o.2.1.below hdr HA.o.2.1.lt) (HA.o.r2.1.below hdr HA.o.r2.1.lt) (HA.o.r3.1.trans (hdr.mono HA.o.r3.1.size)));have kS:=aA (BD.o.2.1.cell 0 _ rfl);have hmf:∀ (fn:Fn) (first cap:Array Value) (w:World),(Instr.makeFunc fn first cap).run Tryz.prog w=.ok (.func fn first cap) w:=fun _ _ _ _=>rfl;have FFS:=aA FS;have C:=hid (HC.o wr.drew hdr (HT.o.belows hdr));have r0:=BD.o.r2.1.frozen 0;have r1:=BD.o.r2.1.frozen 1;have r2:=BD.o.r2.1.frozen 2;have r3:=BD.o.r2.1.frozen 3;have q0:=BD.o.r2.1.cell 0 _ rfl;have q1:=BD.o.r2.1.cell 1 _ rfl;have q2:=BD.o.r2.1.cell 2 _ rfl;have q3:=BD.o.r2.1.cell 3 _ rfl;clear hS hdr hall HC FS e0
      go_upto_region 12 with fail
      go_region_held3 (fun w'=>w'.cell? ⟨w.heap.size+2,0,none⟩=some (.slice (some ⟨w.heap.size+1,0,none⟩) n n)) (first | with_reducible exact kS.o | exact(BD.o.2.1.but (((((But.refl _ _).set 0 _).set 1 _).set 2 _).set 3 _) ae).cell 0 _ rfl) (first
       | (go_at_call 84
          with_reducible refine C.o.mono ?_
          rintro r u3 ⟨hd2,hb⟩;obtain⟨a3,c3,rfl,fV⟩:=hd2.ko FFS.o;have BD:=fO (BD.o.1.below hb) (BD.o.2.1.below hb BD.o.2.1.lt) (BD.o.r2.1.below hb BD.o.r2.1.lt) (BD.o.r3.trans (hb.mono BD.o.r3.size)) fV;have kS:=aA (BD.o.2.1.cell 0 _ rfl);have r0:=BD.o.r2.1.frozen 0;have r1:=BD.o.r2.1.frozen 1;have r2:=BD.o.r2.1.frozen 2;have r3:=BD.o.r2.1.frozen 3;have q0:=BD.o.r2.1.cell 0 _ rfl;have q1:=BD.o.r2.1.cell 1 _ rfl;have q2:=BD.o.r2.1.cell 2 _ rfl;have q3:=BD.o.r2.1.cell 3 _ rfl
          clear hb hd2 fV))
      go_wp2;have qq:=(((BD.o.r2.1.set 0 (.slice (some ⟨w.heap.size+1,0,none⟩) n n)).set 1 (.bool (dN S))).set 2 (.slice a3 (ws (dX S)).length c3)).set 3 (.int .i64 (dE S));have g0:=qq.cell 0 _ rfl;have g1:=qq.cell 1 _ rfl;have g2:=qq.cell 2 _ rfl;have g3:=qq.cell 3 _ rfl;have aI:But w.heap.size u3 ((((u3.setCell ⟨w.heap.size,0,none⟩ (.slice (some ⟨w.heap.size+1,0,none⟩) n n)).setCell ⟨w.heap.size,1,none⟩ (.bool (dN S))).setCell ⟨w.heap.size,2,none⟩ (.slice a3 (ws (dX S)).length c3)).setCell ⟨w.heap.size,3,none⟩ (.int .i64 (dE S))):=((((But.refl _ _).set 0 _).set 1 _).set 2 _).set 3 _;refine aG (v:=.tuple #[.agg #[.slice (some ⟨w.heap.size+1,0,none⟩) n n,.bool (dN S),.slice a3 (ws (dX S)).length c3,.int .i64 (dE S)],.int .i64 0]) (by simp[results,Tryz.results45,go_sem,g0,g1,g2,g3]) rfl ⟨.inr ⟨E0.o,_,rfl,?_⟩,?_⟩;rw[<-HS.o,<-HX.o.r4];refine⟨w.heap.size+1,a3,c3,rfl,?_,?_⟩
      · exact BD.o.1.but aI BD.o.r2.1 ae aj
      · exact BD.o.r4.off aI (BD.o.r4.ma aj BD.o.r2.1)
      · exact But.below BD.o.r3.1 aI BD.o.r3.1.size (aC _)
def uo(o1 o2:Option (Bool×Nat×Int)):Option (Bool×Nat×Int):=if o1.isSome&&o2.isSome then jv o1 (mkS (!dN o2) (dX o2) (dE o2)) else none
def pG(w:World)(r:Ending)(o:Option (Bool×Nat×Int))(e:Int):Prop:=∃ v,r=.returned (.tuple #[.agg #[.bool (dN o),v,.int .i64 (dE o)],.int .i64 e])/\Nt 0 w v (dX o)
theorem dm.ZN{lo:Nat}{w:World}{r:Ending}{o:Option (Bool×Nat×Int)}(h:dm lo w r o):pG w r o (o7 o):=by
 obtain⟨v,rfl,hN⟩:=h;exact⟨v,rfl,hN.mono (nV _)⟩
theorem Nt.aL{w:World}{v:Value}{X:Nat}(h:Nt 0 w v X):∃ a c,v=.slice a (ws X).length c/\Nt 0 w (.slice a (ws X).length c) X:=by
 obtain⟨a,c,rfl,-⟩:=h.shape;exact⟨a,c,rfl,h⟩
theorem pG.aL{w:World}{r:Ending}{o:Option (Bool×Nat×Int)}{e:Int}(h:pG w r o e):∃ a c,r=.returned (.tuple #[.agg #[.bool (dN o),.slice a (ws (dX o)).length c,.int .i64 (dE o)],.int .i64 e])/\Nt 0 w (.slice a (ws (dX o)).length c) (dX o):=by
 obtain⟨v,rfl,hN⟩:=h;obtain⟨a,c,rfl,hN⟩:=hN.aL;exact⟨a,c,rfl,hN⟩
theorem bI.aL{lo:Nat}{w:World}{r:Ending}{o:Option (Bool×Nat×Int)}(h:bI lo w r o):∃ a c,r=.returned (.agg #[.bool (dN o),.slice a (ws (dX o)).length c,.int .i64 (dE o)])/\Nt 0 w (.slice a (ws (dX o)).length c) (dX o):=by
 obtain⟨v,rfl,hN⟩:=h.D6;obtain⟨a,c,rfl,hN⟩:=hN.aL;exact⟨a,c,rfl,hN⟩
theorem zP(W:World):Below W.heap.size W (W.alloc (Obj.cells zD3 25)).drew:=(af W (Obj.cells zD3 25)).trans (((aD (W.alloc (Obj.cells zD3 25)).heap.size (W.alloc (Obj.cells zD3 25))).drew).mono aQ)
theorem zQ(W:World):Lo (W.alloc (Obj.cells zD3 25)).drew W.heap.size iY:=(Lo.zero W).below (aD _ _).drew
theorem zR{o:Option (Bool×Nat×Int)}(h:o.isSome=true):o7 o=0:=by unfold o7;rw[h];rfl
theorem zS{o:Option (Bool×Nat×Int)}(h:o.isSome=false):o7 o=2:=by unfold o7;rw[h];rfl
structure uq (w u:World) (np ns nt:Bool) (ap az at':Option Addr) (lp cp ls cs lt ct:Nat) (ep es et:Int):Prop where
 p:Dk u w.heap.size np (.slice ap lp cp) ep
 s:Dk u (w.heap.size+1) ns (.slice az ls cs) es
 t:Dk u (w.heap.size+2) nt (.slice at' lt ct) et
 z:Lo u (w.heap.size+3) iY
 b:Below w.heap.size w u
theorem uq.below{w u v:World}{np ns nt:Bool}{ap az at':Option Addr}{lp cp ls cs lt ct:Nat}{ep es et:Int}(h:uq w u np ns nt ap az at' lp cp ls cs lt ct ep es et)(hb:Below u.heap.size u v):uq w v np ns nt ap az at' lp cp ls cs lt ct ep es et :=
 ⟨h.p.below hb,h.s.below hb,h.t.below hb,h.z.below hb,h.b.trans (hb.mono h.b.size)⟩
theorem uq.other{w u:World}{np ns nt:Bool}{ap az at':Option Addr}{lp cp ls cs lt ct g:Nat}{ep es et:Int}{q:Option (Bool×Nat×Int)}(h:uq w u np ns nt ap az at' lp cp ls cs lt ct ep es et)(hL:Lo u g q)(hg:w.heap.size+3<g)(x y z:Value):uq w (dM u g x y z) np ns nt ap az at' lp cp ls cs lt ct ep es et :=
 ⟨h.p.other g ae _ _ _,h.s.other g ae _ _ _,h.t.other g ae _ _ _,h.z.other hL ae _ _ _,fB h.b h.b.size ae _ _ _⟩
theorem J1{P:Prop}(h:P:=by
 subst hW;have z1:=Dk.new (w.alloc (Obj.cells #[.bool np,.slice ap lp cp,.int .i64 ep] 25)) ns (.slice az ls cs) es;have z2:=Dk.new ((w.alloc (Obj.cells #[.bool np,.slice ap lp cp,.int .i64 ep] 25)).alloc (Obj.cells #[.bool ns,.slice az ls cs,.int .i64 es] 25)) nt (.slice at' lt ct) et;have z3:=Lo.zero (((w.alloc (Obj.cells #[.bool np,.slice ap lp cp,.int .i64 ep] 25)).alloc (Obj.cells #[.bool ns,.slice az ls cs,.int .i64 es] 25)).alloc (Obj.cells #[.bool nt,.slice at' lt ct,.int .i64 et] 25));rw[dD] at z1;rw[dD,dD] at z2;rw[dD,dD,dD] at z3;exact⟨(((Dk.new _ _ _ _).below (af _ _)).below (af _ _)).below (af _ _),(z1.below (af _ _)).below (af _ _),z2.below (af _ _),z3,(((af _ _).trans ((af _ _).mono aQ)).trans ((af _ _).mono (by simp;omega))).trans ((af _ _).mono (by simp;omega))⟩):P:=h
theorem ZD{P:Prop}(h:P:=by
 have hdr:=(aD W.heap.size W).drew;have BB:=aA (H0.o.below hdr);have BZ:=aP (H0.o.below (zP W)) (zQ W);have k0:=BB.o.p.facts;have kS:=dC k0.1 k0.2.1 k0.2.2.1;have h3l:=H0.o.z.lt;clear hdr k0
 go_region_held3 (fun w'=>w'.cell? ⟨w.heap.size,0,none⟩=some (.bool np)/\w'.cell? ⟨w.heap.size,1,none⟩=some (.slice ap lp cp)/\w'.cell? ⟨w.heap.size,2,none⟩=some (.int .i64 ep)) (first | with_reducible exact kS.o | with_reducible exact⟨BZ.o.1.p.facts.1,BZ.o.1.p.facts.2.1,BZ.o.1.p.facts.2.2.1⟩ | with_reducible exact⟨kZ.o.facts.1,kZ.o.facts.2.1,kZ.o.facts.2.2.1⟩ | with_reducible exact kT.o | with_reducible exact⟨kM.o.facts.1,kM.o.facts.2.1,kM.o.facts.2.2.1⟩ | with_reducible exact⟨kN.o.facts.1,kN.o.facts.2.1,kN.o.facts.2.2.1⟩) (first
  | (go_at_call 48
     with_reducible refine(HI.o _ BB.o.b).mono ?_
     rintro r u1 ⟨hd,hb⟩;obtain⟨a3,c3,rfl,fV⟩:=hd.aL;have BC:=aP (BB.o.below hb) fV;have kS:=dC BC.o.1.p.facts.1 BC.o.1.p.facts.2.1 BC.o.1.p.facts.2.2.1;have kZ:=aA (BC.o.1.p.below (af u1 (Obj.cells zD3 25)));have Yg:=BC.o.1.z.lt
     clear hb hd fV)
  | (go_at_call 48
     with_reducible refine(HI.o _ BZ.o.1.b).mono ?_
     rintro r u1 ⟨hd,hb⟩;obtain⟨a3,c3,rfl,fV⟩:=hd.aL;have BC:=aP (BZ.o.1.below hb) fV;have ZB:=aA (BZ.o.2.below hb);have kS:=dC BC.o.1.p.facts.1 BC.o.1.p.facts.2.1 BC.o.1.p.facts.2.2.1
     clear hb hd fV)
  | (go_at_call 56
     with_reducible refine(KT.o _ a3 c3 BC.o.1.b BC.o.2).mono ?_
     rintro r u2 ⟨hd,hb⟩;obtain⟨a4,c4,rfl,iX⟩:=hd.aL;have BE:=aP (BC.o.1.below hb) iX;have kS:=dC BE.o.1.p.facts.1 BE.o.1.p.facts.2.1 BE.o.1.p.facts.2.2.1;have kZ:=aA (BE.o.1.p.below (af u2 (Obj.cells zD3 25)));have kM:=aA (BE.o.1.p.below (af u2 (Obj.cells #[.bool (dN o1),.slice a4 (ws (dX o1)).length c4,.int .i64 (dE o1)] 25)));have kN:=aA ((BE.o.1.p.below (af u2 (Obj.cells zD3 25))).other u2.heap.size (by have:=BE.o.1.z.lt;omega) (.bool (dN o1)) (.slice a4 (ws (dX o1)).length c4) (.int .i64 (dE o1)))
     try have ZB:=aA (ZB.o.below hb)
     try have kT:=aA (show _ from(ai (BE.o.1.p.other _ (show w.heap.size≠W.heap.size by omega) (.bool (dN o1)) (.slice a4 (ws (dX o1)).length c4) (.int .i64 (dE o1))).facts.1 (ai (BE.o.1.p.other _ (show w.heap.size≠W.heap.size by omega) (.bool (dN o1)) (.slice a4 (ws (dX o1)).length c4) (.int .i64 (dE o1))).facts.2.1 (BE.o.1.p.other _ (show w.heap.size≠W.heap.size by omega) (.bool (dN o1)) (.slice a4 (ws (dX o1)).length c4) (.int .i64 (dE o1))).facts.2.2.1)))
     try (obtain⟨zp,zq,DZ,MZ⟩:=ZB.o;obtain⟨z0,z1,z2,gQ,gT,gU⟩:=DZ.facts;clear DZ MZ)
     clear hb hd iX)
  | (go_at_call 56
     with_reducible refine(KT.o _ a3 c3 (BC.o.1.below (af u1 (Obj.cells zD3 25))).b (BC.o.2.below (af u1 (Obj.cells zD3 25)))).mono ?_
     rintro r u2 ⟨hd,hb⟩;obtain⟨a4,c4,rfl,iX⟩:=hd.aL;have BE:=aP ((BC.o.1.below (af u1 (Obj.cells zD3 25))).below hb) iX;have ZC:=aA ((Lo.zero u1).below hb);have kS:=dC BE.o.1.p.facts.1 BE.o.1.p.facts.2.1 BE.o.1.p.facts.2.2.1;have kT:=dC (BE.o.1.p.other _ (show w.heap.size≠u1.heap.size by omega) (.bool (dN o1)) (.slice a4 (ws (dX o1)).length c4) (.int .i64 (dE o1))).facts.1 (BE.o.1.p.other _ (show w.heap.size≠u1.heap.size by omega) (.bool (dN o1)) (.slice a4 (ws (dX o1)).length c4) (.int .i64 (dE o1))).facts.2.1 (BE.o.1.p.other _ (show w.heap.size≠u1.heap.size by omega) (.bool (dN o1)) (.slice a4 (ws (dX o1)).length c4) (.int .i64 (dE o1))).facts.2.2.1;obtain⟨zp,zq,DZ,MZ⟩:=ZC.o;obtain⟨z0,z1,z2,gQ,gT,gU⟩:=DZ.facts
     clear hb hd iX DZ MZ))
 all_goals
  go_wp2_with fail
  go_meet
  case rel =>
   first
    | exact⟨u2.heap.size,rfl,rfl,Lo.new BE.o.2,BE.o.1.below (af _ _),BE.o.1.z.lt⟩
    | exact⟨u2.heap.size,rfl,rfl,(Lo.zero u2).set (BE.o.2.below (af _ _)),(BE.o.1.below (af _ _)).other (Lo.zero u2) BE.o.1.z.lt _ _ _,BE.o.1.z.lt⟩
    | exact⟨W.heap.size,rfl,rfl,ZB.o.set BE.o.2,BE.o.1.other ZB.o h3l _ _ _,h3l⟩
    | exact⟨u1.heap.size,rfl,rfl,ZC.o.set BE.o.2,BE.o.1.other ZC.o Yg _ _ _,Yg⟩):P:=h
theorem WA (w:World) (n:Int) (np ns nt:Bool) (ap az at':Option Addr) (lp cp ls cs lt ct:Nat) (ep es et:Int) (oI o1 o2:Option (Bool×Nat×Int)) (e1 e2:Int)
 (HI:Hid (∀ u:World,Below w.heap.size w u->Calls Tryz.prog 48 #[.int .i64 n] u fun r w'=>bI 0 w' r oI/\Below u.heap.size u w'))
 (KT:Hid (∀ (u:World) (a:Option Addr) (c:Nat),Below w.heap.size w u->Nt 0 u (.slice a (ws (dX oI)).length c) (dX oI)->Calls Tryz.prog 56 #[.agg #[.bool (dN oI),.slice a (ws (dX oI)).length c,.int .i64 (dE oI)],.agg #[.bool np,.slice ap lp cp,.int .i64 ep]] u fun r w'=>pG w' r o1 e1/\Below u.heap.size u w')) (x1:(e1==0)=false) :
 Calls Tryz.prog 26 #[.int .i64 n,.agg #[.bool np,.slice ap lp cp,.int .i64 ep],.agg #[.bool ns,.slice az ls cs,.int .i64 es],.agg #[.bool nt,.slice at' lt ct,.int .i64 et]] w fun r w'=>pG w' r (none:Option (Bool×Nat×Int)) e1/\Below w.heap.size w w':=by
 obtain⟨W,hW⟩:=ah ((((w.alloc (Obj.cells #[.bool np,.slice ap lp cp,.int .i64 ep] 25)).alloc (Obj.cells #[.bool ns,.slice az ls cs,.int .i64 es] 25)).alloc (Obj.cells #[.bool nt,.slice at' lt ct,.int .i64 et] 25)).alloc (Obj.cells zD3 25))
 have H0:Aside (uq w W np ns nt ap az at' lp cp ls cs lt ct ep es et):=by
  exact J1
 have HW:=aA hW;clear hW;go_enter Tryz.func26,Tryz.ntmps26
 go_upto_region 1 with fail
 rw[<-HW.o];clear HW
 go_cut [10,11] from 13 to 19 (fun q e wx=>∃ gq:Nat,q=.pointer (some ⟨gq,0,none⟩)/\e=.int .i64 e1/\Aside (Lo wx gq o1/\uq w wx np ns nt ap az at' lp cp ls cs lt ct ep es et/\w.heap.size+3<gq))
 case first =>
  exact ZD
 obtain⟨gq,rfl,rfl,K1⟩:=hcut;obtain⟨U,hU⟩:=ah wc;rw[<-hU] at K1 |-;clear hU H0;obtain⟨p4,q4,D4,M4⟩:=K1.o.2.1.z;obtain⟨y0,y1,y2,dF,dG,dH⟩:=D4.facts;have HE:=aP (D4.set false (.slice none 0 0) 0) (fB K1.o.2.1.b K1.o.2.1.b.size (show w.heap.size<=w.heap.size+3 by omega) (.bool false) (.slice none 0 0) (.int .i64 0));unfold dM at HE;clear D4 M4;go_wp2;obtain⟨f0,f1,f2,_,_,_⟩:=HE.o.1.facts;exact aG (v:=.tuple #[.agg zD3,.int .i64 e1]) (by simp[results,Tryz.results26,go_sem,f0,f1,f2]) rfl ⟨⟨_,rfl,Nt.nil _ _⟩,HE.o.2⟩
theorem Qas{P:Prop}(h:P:=by
 rw[hV,hgr];exact⟨(K1.o.1.below hb).below (af _ _),(K1.o.2.1.below hb).below (af _ _),Lo.new wX⟩):P:=h
theorem WB (w:World) (n:Int) (np ns nt:Bool) (ap az at':Option Addr) (lp cp ls cs lt ct:Nat) (ep es et:Int) (oI o1 o2:Option (Bool×Nat×Int)) (e1 e2:Int)
 (HI:Hid (∀ u:World,Below w.heap.size w u->Calls Tryz.prog 48 #[.int .i64 n] u fun r w'=>bI 0 w' r oI/\Below u.heap.size u w'))
 (KT:Hid (∀ (u:World) (a:Option Addr) (c:Nat),Below w.heap.size w u->Nt 0 u (.slice a (ws (dX oI)).length c) (dX oI)->Calls Tryz.prog 56 #[.agg #[.bool (dN oI),.slice a (ws (dX oI)).length c,.int .i64 (dE oI)],.agg #[.bool np,.slice ap lp cp,.int .i64 ep]] u fun r w'=>pG w' r o1 e1/\Below u.heap.size u w'))
 (Yh:Hid (∀ u:World,Below w.heap.size w u->Calls Tryz.prog 56 #[.agg #[.bool ns,.slice az ls cs,.int .i64 es],.agg #[.bool nt,.slice at' lt ct,.int .i64 et]] u fun r w'=>pG w' r o2 e2/\Below u.heap.size u w')) (x1:e1=0) (x2:(e2==0)=false) :
 Calls Tryz.prog 26 #[.int .i64 n,.agg #[.bool np,.slice ap lp cp,.int .i64 ep],.agg #[.bool ns,.slice az ls cs,.int .i64 es],.agg #[.bool nt,.slice at' lt ct,.int .i64 et]] w fun r w'=>pG w' r (none:Option (Bool×Nat×Int)) e2/\Below w.heap.size w w':=by
 obtain⟨W,hW⟩:=ah ((((w.alloc (Obj.cells #[.bool np,.slice ap lp cp,.int .i64 ep] 25)).alloc (Obj.cells #[.bool ns,.slice az ls cs,.int .i64 es] 25)).alloc (Obj.cells #[.bool nt,.slice at' lt ct,.int .i64 et] 25)).alloc (Obj.cells zD3 25))
 have H0:Aside (uq w W np ns nt ap az at' lp cp ls cs lt ct ep es et):=by
  exact J1
 have HW:=aA hW;clear hW;subst x1;go_enter Tryz.func26,Tryz.ntmps26
 go_upto_region 1 with fail
 rw[<-HW.o];clear HW
 go_cut [10,11] from 13 to 19 (fun q e wx=>∃ gq:Nat,q=.pointer (some ⟨gq,0,none⟩)/\e=.int .i64 0/\Aside (Lo wx gq o1/\uq w wx np ns nt ap az at' lp cp ls cs lt ct ep es et/\w.heap.size+3<gq))
 case first =>
  exact ZD
 obtain⟨gq,rfl,rfl,K1⟩:=hcut;obtain⟨U,hU⟩:=ah wc;rw[<-hU] at K1 |-;clear hU H0
 go_upto_region 4 with fail
 obtain⟨x0,x1,x2,dw,dz,dA⟩:=K1.o.2.1.s.facts;obtain⟨y0,y1,y2,dF,dG,dH⟩:=K1.o.2.1.t.facts;have C:=hid (Yh.o U K1.o.2.1.b);go_wp2_with fail;refine C.o.mono ?_;rintro r u3 ⟨hd,hb⟩;obtain⟨a5,c5,rfl,wX⟩:=hd.aL;obtain⟨V,hV⟩:=ah (u3.alloc (Obj.cells #[.bool (dN o2),.slice a5 (ws (dX o2)).length c5,.int .i64 (dE o2)] 25));obtain⟨gr,hgr⟩:=ah (u3.heap.size)
 have K2:Aside (Lo V gq o1/\uq w V np ns nt ap az at' lp cp ls cs lt ct ep es et/\Lo V gr o2):=by
  exact Qas
 have HV:=(aP hV hgr);clear hV hgr hb hd wX C x0 x1 x2 dw dz dA y0 y1 y2 dF dG dH K1
 go_upto_region 5 with fail
 rw[<-HV.o.1,<-HV.o.2];clear HV;obtain⟨p4,q4,D4,M4⟩:=K2.o.2.1.z;obtain⟨y0,y1,y2,dF,dG,dH⟩:=D4.facts;have HE:=aP (D4.set false (.slice none 0 0) 0) (fB K2.o.2.1.b K2.o.2.1.b.size (show w.heap.size<=w.heap.size+3 by omega) (.bool false) (.slice none 0 0) (.int .i64 0));unfold dM at HE;clear D4 M4;go_wp2;obtain⟨f0,f1,f2,_,_,_⟩:=HE.o.1.facts;exact aG (v:=.tuple #[.agg zD3,.int .i64 e2]) (by simp[results,Tryz.results26,go_sem,f0,f1,f2]) rfl ⟨⟨_,rfl,Nt.nil _ _⟩,HE.o.2⟩
end
end Go.Proofs.YtfmfhehbdfhnbaaGreatDoor
