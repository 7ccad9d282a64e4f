import Derived.Test.YtaejmlkaefnbhaaGreatDoorBIeeex
import Derived.Deep.RegionHeld
import Derived.Laws.BitsAllLaws
import Derived.WalkLawsBesides
import Derived.Test.YtaejmlkaefnbhaaGreatDoorW24x
import Derived.Deep.RegionWith
import Derived.Laws.StructEq
set_option linter.unusedVariables false
set_option linter.unusedSimpArgs false
set_option maxHeartbeats 16000000
set_option maxRecDepth 20000
namespace Go.Proofs.YtaejmlkaefnbhaaGreatDoor
section
open Go Go.RowKit
section
variable {P : Program} {ops : Array Oper} {Q : Exit -> Act -> World -> Prop} {md : Region.Mode} {S : World -> Prop} {stop : Nat}
def fF(P:Program)(md:Region.Mode)(ops:Array Oper)(Q:Exit->Act->World->Prop)(S:World->Prop)(stop:Nat):Nat->Array Bool->Act->World->Prop
 | 0,listed,a,w=>Region.ready md ops listed=[]/\Q .normal a w
 | fuel+1,listed,a,w=>(Region.ready md ops listed=[]->Q .normal a w) /\
  ∀ i ∈ Region.ready md ops listed,wpOp P ops Q i (fun b u=>(i<stop->S u)/\fF P md ops Q S stop fuel (listed.setIfInBounds i true) b u) a w
theorem vI:∀ (fuel:Nat) (listed:Array Bool) (a:Act) (w:World),fF P md ops Q S stop fuel listed a w->wpAny P md ops Q fuel listed a w
 | 0,_,_,_,h=>h
 | fuel+1,_,_,_,h=>⟨h.1,fun i hi=>wpOp_mono (fun b u k=>vI fuel _ b u k.2) (h.2 i hi)⟩
theorem eZ{id:Nat}{a:Act}{w:World}(S:World->Prop)(stop:Nat)(hm:P.follows .mixedOrders=true)(h:fF P .any ops Q S stop ops.size (Array.replicate ops.size false) a w.drew):(Code.region id ops true).wp P Q a w :=
 wp_region_any hm (vI _ _ _ _ h)
def waits(md:Region.Mode)(ops:Array Oper)(i stop:Nat)(C:List Nat):Bool :=
 (List.range ops.size).all fun j=>!(C.contains j || decide (stop<=j)) || (match ops[j]? with | some o=>o.after.any (fun e=>Region.binds md e&&(e.on==i || C.contains e.on)) | none=>true)
def FK(listed:Array Bool)(C:List Nat):Bool:=C.all fun k=>listed.getD k true==false
theorem Jw{i:Nat}{C:List Nat}(h:waits md ops i stop C=true){j:Nat}{oj:Oper}(hj:ops[j]?=some oj)(hc:j ∈ C\/stop<=j):∃ e ∈ oj.after,Region.binds md e=true/\(e.on=i\/e.on ∈ C):=by
 have h1:=(List.all_eq_true.1 h) j (by simp;exact(fG.1 hj).1);rw[hj] at h1
 have h2:(C.contains j || decide (stop<=j))=true:=by
  rcases hc with hc|hc
  · simp[hc]
  · simp[hc]
 rw[h2] at h1;simp only[Bool.not_true,Bool.false_or] at h1;rw[<-Array.any_toList] at h1;obtain⟨e,he,hb⟩:=List.any_eq_true.1 h1;have he:=Array.mem_toList_iff.1 he;simp only[xD,Bool.or_eq_true,beq_iff_eq,List.contains_iff_mem] at hb;exact⟨e,he,hb.1,hb.2⟩
theorem FM {i:Nat}{C:List Nat}{oi:Oper}{v:Value}(hi:ops[i]?=some oi) (hsel:∀ (j:Nat) (o:Oper) cs b,ops[j]?=some o->o.op≠.select cs b)
 (hQ:∀ x a w,Q (.panic x) (a.put oi.dst v) w->Q (.panic x) a w) (hlate:waits md ops i stop C=true) :
 ∀ (fuel:Nat) (listed:Array Bool) (a:Act) (w:World),
   (∀ j oj,ops[j]?=some oj->j≠i->listed.getD j true=false->(∀ e ∈ oj.after,Region.binds md e=true->e.on≠i)->oi.apart ops oj=true) ->
   i ∈ Region.ready md ops listed->(∀ k ∈ C,listed.getD k true=false)->YieldsIf P ops S oi v a->S w ->
   fF P md ops Q S stop fuel (listed.setIfInBounds i true) (a.put oi.dst v) w->fF P md ops Q S stop (fuel+1) listed a w:=by
 intro fuel
 induction fuel with
 | zero =>
   intro listed a w _ hr _ hy hS H;refine⟨fun h=>(by rw[h] at hr;cases hr),fun j hj=>?_⟩
   by_cases hji:j=i
   · subst hji;exact hy.wpOp hi hS ⟨fun _=>hS,H⟩
   · have:=ready_mono hj hji;rw[H.1] at this
     cases this
 | succ fuel ih =>
   intro listed a w hfree hr hcl hy hS H;refine⟨fun h=>(by rw[h] at hr;cases hr),fun j hj=>?_⟩
   by_cases hji:j=i
   · subst hji;exact hy.wpOp hi hS ⟨fun _=>hS,H⟩
   · have h1:=H.2 j (ready_mono hj hji);obtain⟨hjun,oj,hoj,hall⟩:=mem_ready.1 hj;have h0:=(mem_ready.1 hr).1
     have un:∀ k,listed.getD k true=false->listed.getD k false=true->False:=fun k a1 a2=>by
      rcases iJ k listed.size with h'|h'
      · simp[h'] at a1 a2;rw[a1] at a2;cases a2
      · simp[xE h'] at a2
     have hnot:∀ e ∈ oj.after,Region.binds md e=true->e.on≠i:=fun e he hb heq=>un i h0 (heq ▸ hall e he hb)
     have hnw:¬(j ∈ C\/stop<=j):=fun hc=>by
      obtain⟨e,he,hb,heq⟩:=Jw hlate hoj hc;rcases heq with heq|heq
      · exact hnot e he hb heq
      · exact un _ (hcl _ heq) (hall e he hb)
     have hjs:j<stop:=by
      rcases iJ j stop with h|h
      · exact h
      · exact(hnw (Or.inr h)).elim
     have h2:=wpOp_putIf hoj (hfree j oj hoj hji hjun hnot) (fun cs b=>hsel i oi cs b hi) (fun cs b=>hsel j oj cs b hoj) hQ hy h1
     have hfree':∀ k ok,ops[k]?=some ok->k≠i->(listed.setIfInBounds j true).getD k true=false ->
      (∀ e ∈ ok.after,Region.binds md e=true->e.on≠i)->oi.apart ops ok=true:=fun k ok hk hki hun hno=>by
      refine hfree k ok hk hki ?_ hno
      by_cases hjk:j=k
      · subst hjk;exact hjun
      · rw[Go.getD_set_ne true hjk] at hun;exact hun
     refine wpOp_mono (fun b u h3=>⟨h3.2.1,ih (listed.setIfInBounds j true) b u hfree' (ready_mono hr (Ne.symm hji)) (fun k hk=>by rw[Go.getD_set_ne true (show j≠k from fun e=>hnw (Or.inl (by rw[e];exact hk)))];exact hcl k hk) h3.1 (h3.2.1 hjs) ?_⟩) h2;rw[Array.setIfInBounds_comm _ _ hji];exact h3.2.2
theorem qU {i:Nat}(C:List Nat) {oi:Oper}{v:Value}{fuel:Nat}{listed:Array Bool}{a:Act}{w:World}(hi:ops[i]?=some oi)
 (hs:Region.noSelect ops=true) (hf:Region.free md ops listed i=true) (hr:(Region.ready md ops listed).contains i=true) (hw:waits md ops i stop C=true) (hun:FK listed C=true)
 (hQ:∀ c a w,Q (.panic c) (a.put oi.dst v) w->Q (.panic c) a w) (hy:YieldsIf P ops S oi v a) (hS:S w)
 (h:fF P md ops Q S stop fuel (listed.setIfInBounds i true) (a.put oi.dst v) w):fF P md ops Q S stop (fuel+1) listed a w :=
 FM hi (Region.noSelect_spec hs) hQ hw fuel listed a w (Region.free_spec hi hf) (by simpa using hr) (fun k hk=>by have:=(List.all_eq_true.1 hun) k hk;simpa using this) hy hS h
theorem tk(i:Nat)(C:List Nat){oi:Oper}{v:Value}{fuel:Nat}{listed:Array Bool}{a:Act}{w:World}(hi:ops[i]?=some oi)(hS:S w)(h:fF P md ops Q S stop fuel (listed.setIfInBounds i true) (a.put oi.dst v) w)(hy:∀ w,S w->(execOp a.eval oi).run P w=.ok (.value v) w:=by intro u hSu;(try dsimp only at hSu);first|(go_simp;done)|(go_simp;with_reducible rfl))(hs:Region.noSelect ops=true:=by kernel_rfl)(hf:Region.free md ops listed i=true:=by kernel_rfl)(hr:(Region.ready md ops listed).contains i=true:=by kernel_rfl)(hw:waits md ops i stop C=true:=by kernel_rfl)(hun:FK listed C=true:=by kernel_rfl)(hQ:∀ c a w,Q (.panic c) (a.put oi.dst v) w->Q (.panic c) a w:=by exact fun _ _ _ h=>h)(h1:Region.wanted oi (yielded ops a.tmps)=true:=by rfl):fF P md ops Q S stop (fuel+1) listed a w:=qU C hi hs hf hr hw hun hQ (Or.inl ⟨h1,hy⟩) hS h
theorem sa{α:Type _}{l:List α}{i:Nat}{a:α}:l.toArray.setIfInBounds i a=(l.set i a).toArray:=List.setIfInBounds_toArray _ _ _
theorem sb{α:Type _}{x a:α}{l:List α}:(x::l).set 0 a=a::l:=rfl
theorem sc{α:Type _}{x a:α}{l:List α}{n:Nat}:(x::l).set (n+1) a=x::l.set n a:=rfl
theorem aO {i:Nat}{o:Oper}{fuel:Nat}{listed:Array Bool}{a:Act}{w:World}(hr:Region.ready md ops listed=[i]) (ho:ops[i]?=some o)
 (h:∀ K':Act->World->Prop,Shut (∀ b u,(i<stop->S u)->fF P md ops Q S stop fuel (listed.setIfInBounds i true) b u->K' b u)->if Region.wanted o (yielded ops a.tmps)=true then Oper.wp P o a w K' Q else K' (a.put o.dst undef) w):fF P md ops Q S stop (fuel+1) listed a w :=
 ⟨fun h0=>(by rw[hr] at h0;cases h0),fun j hj=>by
  rw[hr] at hj;obtain rfl:=List.mem_singleton.1 hj
  exact wpOp_step ho (fun K' hK=>h K' (fun b u h1 h2=>hK b u ⟨h1,h2⟩))⟩
theorem gY{listed:Array Bool}{a:Act}{w:World}(hr:Region.ready md ops listed=[])(h:Q .normal a w):∀ fuel,fF P md ops Q S stop fuel listed a w
 | 0=>⟨hr,h⟩
 | _+1=>⟨fun _=>h,by rw[hr];simp⟩
end
end
section
open Go.RowKit
theorem RB (g:Nat) (L xs:List Nat) (V T:Int) (s:Sp) (k:Nat) (ng:Bool) (ao:Option Addr) (n cap p:Nat) (w:World) (hs:s.ok) (hk:k<=5) (hA:Ac w g L s) (hl:L.length=133) (hL:Wf L) (hv:(val L:Int)=V%(PB:Int)) (h0:-(HB:Int)<V) (h1:V<(HB:Int))
 (hx:Arg w ao n cap xs) (hp:p+32*n<=4256) (hT:kY ng (val xs*2^p)=T) (hT0:-(HB:Int)<T) (hT1:T<(HB:Int)) :
 Calls Tryz.prog 120 #[.pointer (some ⟨g,0,none⟩),.agg #[.int .i64 (k:Nat),.bool ng,.slice ao n cap,.int .i64 (p:Nat)]] w (Did g w (zO V s k T)):=by
 obtain⟨t,ht⟩:=ah (s.cnt k 1);obtain⟨X,hX⟩:=ah (zO V s k T);rw[<-hX];have HC:=hid (fun u:World=>Fy s k 1 u hk hs aA aA);rw[<-ht] at HC;obtain⟨sn,su,sd,sm,sp,sa⟩:=s;obtain⟨tn,tu,td,tm,tp,ta⟩:=t;have HR:Aside (Ac w g L ⟨sn,su,sd,sm,sp,sa⟩/\L.length=133/\Wf L/\(val L:Int)=V%(PB:Int)/\-(HB:Int)<V/\V<(HB:Int)/\Arg w ao n cap xs/\p+32*n<=4256/\kY ng (val xs*2^p)=T/\-(HB:Int)<T/\T<(HB:Int)):=⟨hA,hl,hL,hv,h0,h1,hx,hp,hT,hT0,hT1⟩;have HX:Aside (X=zO V ⟨sn,su,sd,sm,sp,sa⟩ k T/\⟨tn,tu,td,tm,tp,ta⟩=Sp.cnt ⟨sn,su,sd,sm,sp,sa⟩ k 1):=⟨hX,ht⟩;simp only[Sp.agg] at HC;clear hA hl hL hv h0 h1 hx hp hT hT0 hT1 hX ht hs;go_enter Tryz.func120,Tryz.ntmps120;have a5:=HR.o.1.cell HR.o.2.1 5 _ rfl;have alt:=HR.o.1.lt
 by_cases hmax:sa=1099511627776
 · subst hmax;go_wp2;go_ret;rw[HX.o.1];unfold zO;rw[if_pos rfl];obtain⟨hA,hl,hL,hv,h0,h1,_⟩:=HR.o;exact⟨rfl,⟨L,hl,hL,hv,h0,h1,hA.alloc _⟩,(But.refl g w).tX (ak _ _)⟩
 have hmax':(sa==1099511627776)=false:=by simpa using hmax
 go_wp2
 have HP:Aside (X=AJ V ⟨sn,su,sd,sm,sp,sa⟩ T ⟨tn,tu,td,tm,tp,ta⟩):=by
  refine au ?_;rw[HX.o.1,HX.o.2];unfold zO;rw[if_neg hmax]
 obtain⟨w1,hw1⟩:=ah (w.alloc (Obj.cells #[.int .i64 (k:Nat),.bool ng,.slice ao n cap,.int .i64 (p:Nat)] 155));rw[<-hw1]
 have H1:Aside (Bl w1 w.heap.size 155 [.int .i64 (k:Nat),.bool ng,.slice ao n cap,.int .i64 (p:Nat)]/\Below w.heap.size w w1/\w1.heap.size=w.heap.size+1):=by
  subst hw1;exact⟨Bl.new w 155 [_,_,_,_],ak _ _,aL⟩
 clear hw1 hmax hmax' a5 alt;have hu:=Tryz.iW;have hsz:(Tryz.prog.info? 150).map (·.size)=some (L.map U).length:=by rw[Tryz.iV,qC,HR.o.2.1]
 have A0:=au (HR.o.1.below H1.o.2.1 HR.o.1.lt);have BB:Aside (Below w1.heap.size w1 w1.drew):=(aG _ _).drew;have kS:=EG (A0.o.drew.range) (A0.o.drew.cell HR.o.2.1 0 _ rfl) (A0.o.drew.cell HR.o.2.1 1 _ rfl) (A0.o.drew.cell HR.o.2.1 2 _ rfl) (A0.o.drew.cell HR.o.2.1 3 _ rfl) (A0.o.drew.cell HR.o.2.1 4 _ rfl) (A0.o.drew.cell HR.o.2.1 5 _ rfl) (H1.o.1.drew.four);have HW:=hid (fun(u:World) (hb:Below w1.heap.size w1 u)=>Re L xs ao n cap p (k:Nat) ng u HR.o.2.1 HR.o.r2.1 ((HR.o.r6.1.below H1.o.2.1).below hb) HR.o.r7.1)
 have hTT:Aside (kY ng (val xs*2^p)=T/\-(HB:Int)<T/\T<(HB:Int)):=by
  have h:=HR.o.r8;refine⟨?_,af,af⟩
  first | exact h.1 | (rw[<-h.1];cases ng <;> simp[kY])
 refine eZ (fun w'=>w'.rangeAt g 0 (L.map U)/\w'.cell? ⟨g,133,none⟩=some (.int .i64 sn)/\w'.cell? ⟨g,134,none⟩=some (.int .i64 su)/\w'.cell? ⟨g,135,none⟩=some (.int .i64 sd)/\w'.cell? ⟨g,136,none⟩=some (.int .i64 sm)/\w'.cell? ⟨g,137,none⟩=some (.int .i64 sp)/\w'.cell? ⟨g,138,none⟩=some (.int .i64 sa)/\w'.cell? ⟨w.heap.size,0,none⟩=some (.int .i64 (k:Nat))/\w'.cell? ⟨w.heap.size,1,none⟩=some (.bool ng)/\w'.cell? ⟨w.heap.size,2,none⟩=some (.slice ao n cap)/\w'.cell? ⟨w.heap.size,3,none⟩=some (.int .i64 (p:Nat))) 14 gD ?_
 refine tk 0 [] rfl kS.o ?_;try simp only[Act.put,sa,sb,sc]
 refine tk 1 [2,3,4,6] rfl kS.o ?_;try simp only[Act.put,sa,sb,sc]
 refine tk 2 [3,4,6] rfl kS.o ?_;try simp only[Act.put,sa,sb,sc]
 refine tk 3 [4,6] rfl kS.o ?_;try simp only[Act.put,sa,sb,sc]
 refine qU (i:=4) [6] rfl gD gD gD gD gD (fun _ _ _ h=>h) (yieldsIf_load_mid (by rfl) _ _ rfl g 0 rfl (L.map U) _ (fun u h=>h.1) hu rfl hsz) kS.o ?_
 try simp only[Act.put,sa,sb,sc]
 refine tk 5 [6] rfl kS.o ?_;try simp only[Act.put,sa,sb,sc]
 refine tk 7 [8,9,10,13] rfl kS.o ?_;try simp only[Act.put,sa,sb,sc]
 refine tk 8 [9,10,13] rfl kS.o ?_;try simp only[Act.put,sa,sb,sc]
 refine tk 9 [10,13] rfl kS.o ?_;try simp only[Act.put,sa,sb,sc]
 refine tk 10 [13] rfl kS.o ?_;try simp only[Act.put,sa,sb,sc]
 refine tk 11 [12,13] rfl kS.o ?_;try simp only[Act.put,sa,sb,sc]
 refine tk 12 [13] rfl kS.o ?_;try simp only[Act.put,sa,sb,sc]
 refine aO (i:=6) gD rfl (fun K' hK=>?_);go_simp;refine(HW.o _ BB.o).mono ?_;rintro r u1 ⟨M,rfl,dG,bD,Vb,hb⟩;have HM:=bM dG bD Vb;have BB:=au (BB.o.trans (hb.mono BB.o.size));have A1:=A0.o.below BB.o A0.o.lt;have Z1:=H1.o.1.below BB.o H1.o.1.lt;have kS:=EG (A1.range) (A1.cell HR.o.2.1 0 _ rfl) (A1.cell HR.o.2.1 1 _ rfl) (A1.cell HR.o.2.1 2 _ rfl) (A1.cell HR.o.2.1 3 _ rfl) (A1.cell HR.o.2.1 4 _ rfl) (A1.cell HR.o.2.1 5 _ rfl) (Z1.four);clear hb A1 Z1 dG bD Vb;dsimp only;refine hK.out _ _ (fun _=>kS.o) ?_;clear hK K'
 try simp only[Act.put,sa,sb,sc]
 refine aO (i:=13) gD rfl (fun K' hK=>?_);go_simp;refine(HC.o _).mono ?_;rintro r u2 ⟨rfl,hb⟩;have BB:=au (BB.o.trans (hb.mono BB.o.size));have A1:=A0.o.below BB.o A0.o.lt;have Z1:=H1.o.1.below BB.o H1.o.1.lt;have kS:=EG (A1.range) (A1.cell HR.o.2.1 0 _ rfl) (A1.cell HR.o.2.1 1 _ rfl) (A1.cell HR.o.2.1 2 _ rfl) (A1.cell HR.o.2.1 3 _ rfl) (A1.cell HR.o.2.1 4 _ rfl) (A1.cell HR.o.2.1 5 _ rfl) (Z1.four);clear hb A1 Z1;dsimp only;refine hK.out _ _ (fun _=>kS.o) ?_;clear hK K'
 try simp only[Act.put,sa,sb,sc]
 refine aO (i:=14) gD rfl (fun K' hK=>?_);go_simp;have CB:=Jv g L M V T ⟨sn,su,sd,sm,sp,sa⟩ ⟨tn,tu,td,tm,tp,ta⟩ u2 (A0.o.below BB.o A0.o.lt) HR.o.2.1 HR.o.r2.1 HR.o.r3.1 HR.o.r4.1 HR.o.r5.1 HM.o.2.1 HM.o.1 (by rw[HM.o.r2,hTT.o.1,HR.o.r3.1,tT]) hTT.o.2.1 hTT.o.r2;rw[<-HP.o] at CB;simp only[Sp.agg] at CB;refine CB.mono ?_;rintro r u3 hD;have HD3:=au hD;obtain⟨rfl,_,_⟩:=hD;clear CB;dsimp only;refine hK.out _ _ (fun h=>absurd h aA) ?_;clear hK K'
 try simp only[Act.put,sa,sb,sc]
 refine aO (i:=15) gD rfl (fun K' hK=>?_);go_simp;refine hK.out _ _ (fun h=>absurd h aA) ?_;clear hK K';refine gY gD ?_ _;clear kS;go_wp2;go_ret;obtain⟨h1,h2,h3⟩:=HD3.o;exact⟨rfl,h2,((But.refl g w).tX H1.o.2.1).trans (((But.refl g w1).tX BB.o).trans h3)⟩
def sW(x:Nat):Bool:=decide (9223372036854775808<=x)
def eW(x:Nat):Nat:=x%9223372036854775808/4503599627370496
def fW(x:Nat):Nat:=x%4503599627370496
theorem iN(x:Nat)(hx:x<18446744073709551616):x=B.bw (sW x) (eW x) (fW x)/\eW x<2048/\fW x<4503599627370496:=by
 unfold B.bw sW eW fW;refine⟨?_,af,af⟩
 by_cases h:9223372036854775808<=x
 · simp only[h,decide_true,iD];omega
 · simp only[h,decide_false,iE];omega
def lJ(x:Nat):Int:=B.cls (eW x) (fW x)
def FN(x:Nat):Int:=B.xp (eW x)
def wm(x:Nat):Nat:=(B.fr (eW x) (fW x)).toNat
def RD(x:Nat):Bool:=B.ng (sW x) (eW x) (fW x)
def pK(x y:Nat):Nat:=pk (max (lJ x) (lJ y)) (min (lJ x) (lJ y)) (!RD x==RD y)
def pT(x y:Nat):Int:=Yx (max (lJ x) (lJ y)) (min (lJ x) (lJ y)) (!RD x==RD y) (wm x) (wm y) (FN x+FN y)
theorem Yy(hi lo:Int)(ng:Bool):pk hi lo ng<=5:=by
 unfold pk
 split
 · omega
 · split
   · split <;> omega
   · split
     · split <;> omega
     · omega
theorem CY(k:Nat)(hk:k=4238):HB=2^k:=by
 obtain⟨j,hj⟩:=ah (32*132);rw[Rj,Jb,<-hj,show k=14+j by omega,aW]
theorem AO(ng:Bool)(X B:Nat)(h:X<B):-(B:Int)<kY ng X/\kY ng X<(B:Int):=by cases ng <;> simp only[kY,if_true,if_false] <;> constructor <;> (try simp) <;> omega
theorem Qbq{P:Prop}(h:P:=by
 refine gG (jV h1 (bK _)) ?_;rw[<-aW];exact gF aA (by unfold FN;omega)):P:=h
theorem Qau{P:Prop}(h:P:=by
 have:wm x*wm y<=9007199254740991*9007199254740991:=mo (by unfold wm;omega) (by unfold wm;omega);exact iC this aA):P:=h
theorem RF(x y:Nat)(hx:x<18446744073709551616)(hy:y<18446744073709551616):-(HB:Int)<pT x y/\pT x y<(HB:Int):=by
 unfold pT Yx;have hp:=oJ
 split
 · refine AO _ _ _ ?_;have f1:=mH (eW x) (fW x) (iN x hx).2.2;have f2:=mH (eW y) (fW y) (iN y hy).2.2;have x1:=mG (eW x) (iN x hx).2.1;have x2:=mG (eW y) (iN y hy).2.1
   have h1:wm x*wm y<2^106:=by
    exact Qau
   obtain⟨k,hk⟩:∃ k,k=4238:=⟨_,rfl⟩;rw[CY k hk];exact Qbq
 · constructor <;> omega
theorem RG(x y:Nat)(hx:x<18446744073709551616)(hy:y<18446744073709551616)(w:World) :
 Calls Tryz.prog 200 #[.float .f64 x,.float .f64 y] w fun r w'=>∃ v,r=.returned v/\Th w.heap.size w' v (pK x y) (pT x y)/\Below w.heap.size w w':=by
 obtain⟨a1,a2,a3⟩:=iN x hx;obtain⟨b1,b2,b3⟩:=iN y hy;have h1:=LQ (sW x) (eW x) (fW x) a2 a3;have h2:=LQ (sW y) (eW y) (fW y) b2 b3;rw[<-a1] at h1;rw[<-b1] at h2;exact FJ x y _ _ _ _ _ _ _ _ w h1 h2 (mG _ a2) (mG _ b2) (mH _ _ a3) (mH _ _ b3)
theorem VP(x:Nat)(hx:x<18446744073709551616)(w:World) :
 Calls Tryz.prog 121 #[.float .f64 x] w fun r w'=>∃ v,r=.returned v/\Th w.heap.size w' v (pK x 4607182418800017408) (pT x 4607182418800017408)/\Below w.heap.size w w':=by
 have HP:=hid (fun u:World=>RG x 4607182418800017408 hx aA u);clear hx;go_enter Tryz.func121,Tryz.ntmps121;go_wp2_with fail;refine(HP.o _).mono ?_;rintro r w1 ⟨v,rfl,hT,hb⟩;obtain⟨ng,a,n,c,p,xs,hlo,rfl,hA,hp,hv⟩:=hT;have HL:=au hlo;have Z:=au ((Bl.new w 155 [Value.int .i64 0,Value.bool false,Value.slice none 0 0,Value.int .i64 0]).below hb aL);have HA:=mh hA hp hv hb;obtain⟨z0,z1,z2,z3⟩:=Z.o.four;have g0:=Z.o.frozen 0;have g1:=Z.o.frozen 1;have g2:=Z.o.frozen 2;have g3:=Z.o.frozen 3;clear hA hp hv hb hlo;go_wp2;obtain⟨w5,mF⟩:=ah (((((w1.setCell ⟨w.heap.size,0,none⟩ (.int .i64 (pK x 4607182418800017408:Nat))).setCell ⟨w.heap.size,1,none⟩ (.bool ng)).setCell ⟨w.heap.size,2,none⟩ (.slice a n c)).setCell ⟨w.heap.size,3,none⟩ (.int .i64 (p:Nat))));rw[<-mF];have q:Bl w5 w.heap.size 155 [.int .i64 (pK x 4607182418800017408:Nat),.bool ng,.slice a n c,.int .i64 (p:Nat)]:=by rw[mF];exact FI Z.o
 have aF:But w.heap.size w1 w5:=by rw[mF];exact((((But.refl _ w1).set 0 _).set 1 _).set 2 _).set 3 _
 have hBw:Below w.heap.size w w1:=(ak w _).trans (HA.o.r3.mono aL);have qb:Below w.heap.size w w5:=But.below hBw aF hBw.size (aB _);clear mF;obtain⟨q0,q1,q2,q3⟩:=q.four;refine aJ (v:=.agg #[.int .i64 (pK x 4607182418800017408:Nat),.bool ng,.slice a n c,.int .i64 (p:Nat)]) (by simp[results,Tryz.results121,go_sem,q0,q1,q2,q3]) rfl ?_;refine⟨_,rfl,⟨ng,a,n,c,p,xs,fun ad e=>?_,rfl,?_,HA.o.2.1,HA.o.r2.1⟩,qb⟩
 · have:=HL.o ad e;simp at this;omega
 · obtain⟨r1,r2,r3,r4,r5,r6⟩:=HA.o.1;refine⟨r1,r2,r3,r4,fun hne=>?_,r6⟩;obtain⟨b,off,hlt,rfl,hc⟩:=r5 hne;have hbb:=HL.o _ rfl;simp at hbb;refine⟨b,off,gG hlt aF.size,rfl,fun i hi=>?_⟩;rw[<-hc i hi];exact rR (a:=⟨b,off+i,none⟩) (aF.block b hlt af)
theorem put7(g:Nat)(V T:Int)(s:Sp)(k lo:Nat)(v:Value)(w:World)(hA:kG w g V s)(hs:s.ok)(hk:k<=5)(ht:Th lo w v k T)(h0:-(HB:Int)<T)(h1:T<(HB:Int)) :
 Calls Tryz.prog 120 #[.pointer (some ⟨g,0,none⟩),v] w (Did g w (zO V s k T)):=by
 obtain⟨L,a1,a2,a3,a4,a5,a6⟩:=hA;obtain⟨ng,a,n,c,p,xs,_,rfl,hx,hp,hv⟩:=ht;exact RB g L xs V T s k ng a n c p w hs hk a6 a1 a2 a3 a4 a5 hx hp hv h0 h1
theorem Add7(g:Nat)(V:Int)(s:Sp)(x:Nat)(w:World)(hA:kG w g V s)(hs:s.ok)(hx:x<18446744073709551616) :
 Calls Tryz.prog 61 #[.pointer (some ⟨g,0,none⟩),.float .f64 x] w (Did g w (zO V s (pK x 4607182418800017408) (pT x 4607182418800017408))):=by
 obtain⟨X,hX⟩:=ah (zO V s (pK x 4607182418800017408) (pT x 4607182418800017408));rw[<-hX];have HP:=hid (fun u:World=>VP x hx u);have HB:=au (RF x 4607182418800017408 hx aA);have HA:=bM hA hs hX;clear hA hs hX hx;go_enter Tryz.func61,Tryz.ntmps61;go_wp2_with fail;refine(HP.o _).mono ?_;rintro r w1 ⟨v,rfl,hT,hb⟩;have HT:=aT hT hb;clear hT hb;go_wp2_with fail;have CP:=put7 g V (pT x 4607182418800017408) s (pK x 4607182418800017408) w.heap.size v w1 (HA.o.1.aD HT.o.2) HA.o.2.1 (Yy _ _ _) HT.o.1 HB.o.1 HB.o.2;rw[<-HA.o.r2] at CP;refine CP.mono ?_;rintro r w2 hD;have HD:=au hD;obtain⟨rfl,_,_⟩:=hD;clear CP;go_wp2;go_ret;exact⟨rfl,HD.o.2.1,((But.refl g w).tX HT.o.2).trans HD.o.r2⟩
theorem RH(N:Nat)(V:Int)(h:(N:Int)=V%(PB:Int))(h0:-(HB:Int)<V)(h1:V<(HB:Int)):tV N=decide (V<0)/\Rm N=V.natAbs:=by
 have e:=LU;have hp:=oJ;unfold Rm tV
 by_cases hv:0<=V
 · rw[uT hv af] at h;rw[decide_eq_false af,decide_eq_false af];refine⟨rfl,?_⟩;rw[if_neg aA];omega
 · have h2:V%(PB:Int)=V+PB:=by
    rw[<-Int.add_emod_right,uT af af]
   rw[h2] at h;rw[decide_eq_true af,decide_eq_true af];refine⟨rfl,?_⟩;rw[if_pos rfl];omega
def mi(V:Int):Option (Bool×Nat×Int):=mkS (decide (V<0)) V.natAbs (-2148)
theorem _root_.Nat.le.ne7{a b c:Nat}(h:a<=b)(e:a=c+1):b≠c:=af
theorem Nt.lo7{lo k:Nat}{w:World}{v:Value}{X:Nat}(h:Nt lo w v X)(hk:k<=lo):k<=lo:=hk
theorem Qbr{P:Prop}(h:P:=by
 obtain⟨d,h1,h2⟩:=(Option.any_eq_true _ _).1 h;exact⟨d,h1,h2⟩):P:=h
theorem Tryz.xZ:∃ d:TypeDesc,Tryz.prog.underlying 77=some d/\d.isRow=true:=by
 have h:(Tryz.prog.underlying 77).any (·.isRow)=true:=by kernel_rfl
 exact Qbr
theorem Tryz.uf:(Tryz.prog.info? 77).map (·.size)=some 3:=by kernel_rfl
theorem jK {fn:Func}{p:Tmp}{ty:TypeId}(h:fn.results=#[.cell p ty]) (tmps:Array Value) (w:World) (g:Nat) (cs:List Value)
 (hp:tmps.getD p undef=.pointer (some ⟨g,0,none⟩)) (hg:Bl w g ty cs) (hdr:∃ d:TypeDesc,Tryz.prog.underlying ty=some d/\d.isRow=true) (hi:(Tryz.prog.info? ty).map (·.size)=some cs.toArray.size) :
 (results fn tmps).run Tryz.prog w=.ok (.agg cs.toArray) w:=by
 obtain⟨d,h1,h2⟩:=hdr
 cases d <;> first
  | exact results_cell_row (P:=Tryz.prog) h tmps w g ty _ _ _ hp hg h1 rfl hi
  | exact absurd h2 (by simp[TypeDesc.isRow])
theorem FO {w base:World}{tmps:Array Value}{o:Option (Bool×Nat×Int)}{v x y z:Value}{lo:Nat}(h2:tmps.getD 2 undef=.pointer (some ⟨w.heap.size,0,none⟩))
 (hZ:Bl base w.heap.size 77 [x,y,z]) (hbw:Below w.heap.size w base) (hN:Nt lo base v (dX o)) (hlo:w.heap.size<lo) :
 bodyPost Tryz.prog Tryz.f123 (fun r w'=>∃ v,r=.returned (.agg #[.bool (dN o),v,.int .i64 (dE o)])/\Nt w.heap.size w' v (dX o)/\Below w.heap.size w w') .ret ⟨tmps,[]⟩
  (((base.setCell ⟨w.heap.size,0,none⟩ (.bool (dN o))).setCell ⟨w.heap.size,1,none⟩ v).setCell ⟨w.heap.size,2,none⟩ (.int .i64 (dE o))):=by
 have q:Bl (((base.setCell ⟨w.heap.size,0,none⟩ (.bool (dN o))).setCell ⟨w.heap.size,1,none⟩ v).setCell ⟨w.heap.size,2,none⟩ (.int .i64 (dE o))) w.heap.size 77 [.bool (dN o),v,.int .i64 (dE o)]:=((hZ.set 0 _).set 1 _).set 2 _;have aF:But w.heap.size base (((base.setCell ⟨w.heap.size,0,none⟩ (.bool (dN o))).setCell ⟨w.heap.size,1,none⟩ v).setCell ⟨w.heap.size,2,none⟩ (.int .i64 (dE o))):=(((But.refl _ _).set 0 _).set 1 _).set 2 _;refine aJ (v:=.agg #[.bool (dN o),v,.int .i64 (dE o)]) (jK Tryz.results123 _ _ w.heap.size [.bool (dN o),v,.int .i64 (dE o)] h2 q Tryz.xZ (by rw[Tryz.uf];rfl)) rfl ?_;exact⟨v,rfl,(hN.Rz aF hlo).mono af,But.below hbw aF hbw.size (aB _)⟩
theorem CZ {w base:World}{tmps:Array Value}{o:Option (Bool×Nat×Int)}{v x y z:Value}{lo:Nat}{ob:Obj}(h2:tmps.getD 2 undef=.pointer (some ⟨w.heap.size,0,none⟩))
 (hZ:Bl base w.heap.size 77 [x,y,z]) (hbw:Below w.heap.size w base) (hN:Nt lo base v (dX o)) (hlo:w.heap.size<lo) :
 bodyPost Tryz.prog Tryz.f123 (fun r w'=>∃ v,r=.returned (.agg #[.bool (dN o),v,.int .i64 (dE o)])/\Nt w.heap.size w' v (dX o)/\Below w.heap.size w w') .ret ⟨tmps,[]⟩
  ((((base.setCell ⟨w.heap.size,0,none⟩ (.bool (dN o))).setCell ⟨w.heap.size,1,none⟩ v).setCell ⟨w.heap.size,2,none⟩ (.int .i64 (dE o))).alloc ob):=by
 have q:Bl (((base.setCell ⟨w.heap.size,0,none⟩ (.bool (dN o))).setCell ⟨w.heap.size,1,none⟩ v).setCell ⟨w.heap.size,2,none⟩ (.int .i64 (dE o))) w.heap.size 77 [.bool (dN o),v,.int .i64 (dE o)]:=((hZ.set 0 _).set 1 _).set 2 _;have aF:But w.heap.size base (((base.setCell ⟨w.heap.size,0,none⟩ (.bool (dN o))).setCell ⟨w.heap.size,1,none⟩ v).setCell ⟨w.heap.size,2,none⟩ (.int .i64 (dE o))):=(((But.refl _ _).set 0 _).set 1 _).set 2 _;have hW:=But.below hbw aF hbw.size (aB _);refine aJ (v:=.agg #[.bool (dN o),v,.int .i64 (dE o)]) (jK Tryz.results123 _ _ w.heap.size [.bool (dN o),v,.int .i64 (dE o)] h2 (q.alloc ob) Tryz.xZ (by rw[Tryz.uf];rfl)) rfl ?_;exact⟨v,rfl,((hN.Rz aF hlo).mono af).below (ak _ _),hW.trans ((ak _ _).mono hW.size)⟩
theorem RI(g:Nat)(V:Int)(s:Sp)(w:World)(hA:kG w g V s)(hT:bO w):Calls Tryz.prog 123 #[.pointer (some ⟨g,0,none⟩)] w fun r w' =>
 ∃ v,r=.returned (.agg #[.bool (dN (mi V)),v,.int .i64 (dE (mi V))])/\Nt w.heap.size w' v (dX (mi V))/\Below w.heap.size w w':=by
 obtain⟨o,ho⟩:=ah (mi V);rw[<-ho];obtain⟨L,a1,a2,a3,a4,a5,a6⟩:=hA;have hnm:=RH (val L) V a3 a4 a5;have HA:=rG a1 a2 a6.hd hT ho hnm;have hlt:=a6.lt;clear a1 a2 a3 a4 a5 a6 hT ho hnm;have HLT:=au hlt;clear hlt;obtain⟨W1,hW1⟩:=ah (w.alloc (.cells #[.bool false,.slice none 0 0,.int .i64 0] 77))
 have H1:Aside (Below w.heap.size w W1/\Bl W1 w.heap.size 77 [.bool false,.slice none 0 0,.int .i64 0]/\W1.heap.size=w.heap.size+1):=by
  subst hW1;exact⟨ak _ _,Bl.new _ 77 [_,_,_],aL⟩
 go_enter Tryz.func123,Tryz.ntmps123;go_wp2;rw[<-hW1];clear hW1;have BB:Aside (Below W1.heap.size W1 W1.drew):=(aG _ _).drew;have HH:Aside (∀ W:World,Below W1.heap.size W1 W->Hd W g L):=fun W h=>(HA.o.r2.1.below H1.o.1 HLT.o (aB _)).below h (gG HLT.o H1.o.1.size) (aB _);have HTT:Aside (∀ W:World,Below W1.heap.size W1 W->bO W):=fun W h=>(HA.o.r3.1.belows H1.o.1).belows h
 go_region_with (first
  | (go_at_call 201
     with_reducible refine(Az g L _ HA.o.1 HA.o.2.1 (HH.o _ (by first | exact BB.o | exact BB.o.trans ((ak _ _).mono BB.o.size) | exact(ak _ _).drew))).mono ?_
     rintro r u ⟨rfl,rfl⟩)
  | (go_at_call 202
     with_reducible refine(N8 L g _ HA.o.1 HA.o.2.1 (HH.o _ (by first | exact BB.o | exact BB.o.trans ((ak _ _).mono BB.o.size) | exact(ak _ _).drew))).mono ?_
     rintro r u ⟨b,cap,M,rfl,hM,Vb,hb⟩;have hu:Below W1.heap.size W1 u:=by first | exact BB.o.trans (hb.mono BB.o.size) | exact(BB.o.trans ((ak _ _).mono BB.o.size)).trans (hb.mono (by have:=BB.o.size;simp;omega)) | exact((ak _ _).drew).trans (hb.mono aL)
     try have DZ:=aT (DZ.o.1.below hb DZ.o.1.lt) DZ.o.2
     try have DZ:=aT ((Bl.new _ 77 [Value.bool false,Value.slice none 0 0,Value.int .i64 0]).below hb aL) BB.o.size
     try have DZ:=aT ((Bl.new W1 77 [Value.bool false,Value.slice none 0 0,Value.int .i64 0]).drew.below hb aL) (aB W1.heap.size)
     have BB:=au hu;have HM:=aT hM (show mkS (tV (val L)) (val M) (-2148)=o by rw[HA.o.r4.1,Vb,HA.o.r5.1,HA.o.r6];rfl)
     clear hM Vb hb hu)
  | (go_at_call 192
     with_reducible refine(fJ (by first | exact HM.o.1 | exact HM.o.1.below (ak _ _)) (HTT.o _ (by first | exact BB.o | exact BB.o.trans ((ak _ _).mono BB.o.size) | exact(ak _ _).drew)) (tV (val L)) (-2148) aA aA).mono ?_
     rintro r u ⟨hD,hb⟩;rw[HM.o.2] at hD;obtain⟨v,rfl,hN⟩:=hD
     try have DL:=au DZ.o.1.lt
     have hu:Below W1.heap.size W1 u:=by first | exact BB.o.trans (hb.mono BB.o.size) | exact(BB.o.trans ((ak _ _).mono BB.o.size)).trans (hb.mono (by have:=BB.o.size;simp;omega)) | exact((ak _ _).drew).trans (hb.mono aL)
     try have DZ:=aT (DZ.o.1.below hb DZ.o.1.lt) DZ.o.2
     try have DZ:=aT ((Bl.new _ 77 [Value.bool false,Value.slice none 0 0,Value.int .i64 0]).below hb aL) BB.o.size
     try have DZ:=aT ((Bl.new W1 77 [Value.bool false,Value.slice none 0 0,Value.int .i64 0]).drew.below hb aL) (aB W1.heap.size)
     have zI:=ai hN (hN.lo7 (k:=W1.heap.size) (by first | exact BB.o.size | (have:=BB.o.size;simp;omega)))
     obtain⟨a,c,rfl,_⟩:=hN.arg (by
      refine aV ((cO _ 133).2 ?_) aA;have e:=HM.o.2;have hm:=df M HM.o.1.wf;rw[<-HM.o.1.len] at hm;rw[<-e];refine iC ?_ hm;unfold mkS dX
      split
      · exact jd _
      · split
        · exact jd _
        · exact uU _ _)
     have HN:=aT zI hu;have Z:=au (H1.o.2.1.below hu (by have:=H1.o.r2;omega));have z0:=Z.o.cell 0 _ rfl;have z1:=Z.o.cell 1 _ rfl;have z2:=Z.o.cell 2 _ rfl;have g0:=Z.o.frozen 0;have g1:=Z.o.frozen 1;have g2:=Z.o.frozen 2
     try have d0:=DZ.o.1.cell 0 _ rfl
     try have d1:=DZ.o.1.cell 1 _ rfl
     try have d2:=DZ.o.1.cell 2 _ rfl
     try have e0:=DZ.o.1.frozen 0
     try have e1:=DZ.o.1.frozen 1
     try have e2:=DZ.o.1.frozen 2
     have hlu:w.heap.size<u.heap.size:=Z.o.lt
     try have nx:=DZ.o.2.ne7 H1.o.r2
     try have ny:=nx.symm
     clear hN zI hb hu))
 all_goals (
  clear HM HA HH HTT BB;go_wp2;have hW:Below w.heap.size w u:=H1.o.1.trans (HN.o.2.mono H1.o.1.size);have hlo:=HN.o.1.2;have hl1:=H1.o.r2
  first
   | (with_reducible refine CZ (x:=.bool false) (y:=.slice none 0 0) (z:=.int .i64 0) ?_ Z.o hW HN.o.1.1 af
      rfl)
   | (with_reducible refine FO (x:=.bool false) (y:=.slice none 0 0) (z:=.int .i64 0) ?_ (Bl.but Z.o ((((But.refl _ _).set 0 _).set 1 _).set 2 _) ny) (But.below hW ((((But.refl _ _).set 0 _).set 1 _).set 2 _) hW.size (by have:=DZ.o.2;omega)) (HN.o.1.1.Rz ((((But.refl _ _).set 0 _).set 1 _).set 2 _) (by first | exact DL.o | (simp;done) | (simp;omega))) af
      rfl))
end
namespace B
theorem Jy(s t:Bool)(e f u v:Nat)(he:e<2048)(hf:f<4503599627370496)(hu:u<2048)(hv:v<4503599627370496) :
 (FloatKind.f64.format.order (bw s e f) (bw t u v)==some .lt)=(!odd e f&&(!odd u v&&decide (pl s e f<pl t u v))):=by
 rw[ord s t e f u v he hf hu hv]
 cases odd e f <;> cases odd u v <;> simp
 by_cases h:pl s e f<pl t u v
 · rw[uY.2 h];simp[h]
 · rw[decide_eq_false h]
   by_cases h2:pl t u v<pl s e f
   · rw[uZ.2 h2];rfl
   · rw[ve.2 af];rfl
theorem RJ(s t:Bool)(e f u v:Nat)(he:e<2048)(hf:f<4503599627370496)(hu:u<2048)(hv:v<4503599627370496) :
 (FloatKind.f64.format.order (bw s e f) (bw t u v)==some .gt)=(!odd e f&&(!odd u v&&decide (pl t u v<pl s e f))):=by
 rw[ord s t e f u v he hf hu hv]
 cases odd e f <;> cases odd u v <;> simp
 by_cases h:pl t u v<pl s e f
 · rw[uZ.2 h];simp[h]
 · rw[decide_eq_false h]
   by_cases h2:pl s e f<pl t u v
   · rw[uY.2 h2];rfl
   · rw[ve.2 af];rfl
theorem Zu(s t:Bool)(e f u v:Nat)(he:e<2048)(hf:f<4503599627370496)(hu:u<2048)(hv:v<4503599627370496) :
 (FloatKind.f64.format.order (bw s e f) (bw t u v)==some .eq)=(!odd e f&&(!odd u v&&decide (pl s e f=pl t u v))):=by
 rw[ord s t e f u v he hf hu hv]
 cases odd e f <;> cases odd u v <;> simp
 by_cases h:pl s e f<pl t u v
 · rw[uY.2 h,decide_eq_false af];rfl
 · by_cases h2:pl t u v<pl s e f
   · rw[uZ.2 h2,decide_eq_false af];rfl
   · rw[ve.2 af,decide_eq_true af];rfl
theorem C8(e f:Nat)(h:e<2047):odd e f=false:=by
 have:(e==2047)=false:=by simp;omega
 simp[odd,this]
theorem RL(e:Nat):odd e 0=false:=by simp[odd]
theorem LV:bw false 0 0=0:=rfl
theorem Zv:bw false 2046 4503599627370495=9218868437227405311:=rfl
theorem Zw(s:Bool)(e f:Nat)(he:e<2048)(hf:f<4503599627370496) :
 (FloatKind.f64.format.order (bw s e f) 9218868437227405311==some .gt)=(!s&&(e==2047&&f==0)):=by
 have h:=RJ s false e f 2046 4503599627370495 he hf af af;rw[Zv] at h;rw[h,C8 2046 _ af]
 cases ho:odd e f
 · have:=gK e f ho;rw[xG]
   cases s <;> simp[pl,sg] <;> omega
 · obtain⟨h1,h2⟩:=l7 e f ho;have h3:(f==0)=false:=by simp[h2]
   simp[h1,h3]
theorem LW(s:Bool)(e f:Nat)(he:e<2048)(hf:f<4503599627370496) :
 (FloatKind.f64.format.order (bw s e f) 0==some .eq)=(e==0&&f==0):=by
 have h:=Zu s false e f 0 0 he hf af af;rw[LV] at h;rw[h,C8 0 _ af]
 cases ho:odd e f
 · rw[xG]
   cases s <;> simp[pl,sg] <;> omega
 · obtain⟨h1,h2⟩:=l7 e f ho;have h3:(e==0)=false:=by simp[h1]
   simp[h3]
theorem LX(s:Bool)(e f:Nat)(he:e<2048)(hf:f<4503599627370496)(ho:odd e f=false)(hz:(e==0&&f==0)=false) :
 (FloatKind.f64.format.order (bw s e f) 0==some .lt)=s:=by
 have h:=Jy s false e f 0 0 he hf af af;rw[LV] at h;rw[h,C8 0 _ af,ho];have hz':¬ (e=0/\f=0):=by rintro ⟨rfl,rfl⟩;simp at hz
 rw[xG]
 cases s <;> simp[pl,sg] <;> omega
theorem RN(s:Bool)(e f:Nat)(he:e<2048)(hf:f<4503599627370496):bits .andNot .u64 ((bw s e f:Nat):Int) 9223372036854775808=(bw false e f:Int):=by
 have h:=u64_andNot_nat (bw s e f) 9223372036854775808 (xW s e f he hf) af;rw[show(((9223372036854775808:Nat)):Int)=9223372036854775808 from rfl] at h;rw[h,show 18446744073709551615-9223372036854775808=2^63-1 from rfl,IY];congr 1;exact yq
def ky(s:Bool)(e f:Nat):Int:=if e=2047/\f≠0 then 9221120237041090560 else if s then -1-((e:Int)*4503599627370496+f) else(e:Int)*4503599627370496+f
def oc(a b:Int):Int:=if a<b then -1 else if b<a then 1 else 0
theorem RO{a b:Int}(h:a<b):oc a b=-1:=if_pos h
theorem RP{a b:Int}(h:b<a):oc a b=1:=by unfold oc;rw[if_neg af,if_pos h]
theorem oc_eq{a b:Int}(h:a=b):oc a b=0:=by unfold oc;rw[if_neg af,if_neg af]
theorem Da(s:Bool)(e f:Nat)(h:odd e f=true):ky s e f=9221120237041090560:=if_pos (l7 e f h)
theorem Yz(s:Bool)(e f:Nat)(he:e<2048)(hf:f<4503599627370496)(h:odd e f=false):ky s e f<9221120237041090560:=by
 have:=gK e f h;unfold ky;rw[if_neg this];split <;> omega
theorem wO(s:Bool)(e f:Nat)(h:odd e f=false):ky s e f=if s then -1-((e:Int)*4503599627370496+f) else(e:Int)*4503599627370496+f:=if_neg (gK e f h)
theorem FP(s t:Bool)(e f u v:Nat)(h1:odd e f=false)(h2:odd u v=false)(h:pl s e f<pl t u v):ky s e f<ky t u v:=by
 rw[wO s e f h1,wO t u v h2];unfold pl sg at h
 cases s <;> cases t <;> simp at h |- <;> omega
theorem Zx(s t:Bool)(e f u v:Nat)(he:e<2048)(hf:f<4503599627370496)(hu:u<2048)(hv:v<4503599627370496)(h:bw s e f=bw t u v):s=t/\e=u/\f=v:=by
 unfold bw at h
 cases s <;> cases t <;> simp only[iD,iE] at h
 · exact⟨rfl,af,af⟩
 · omega
 · omega
 · exact⟨rfl,af,af⟩
theorem RS(s t:Bool)(e f u v:Nat)(he:e<2048)(hf:f<4503599627370496)(hu:u<2048)(hv:v<4503599627370496)(h:cb s e f=cb t u v):ky s e f=ky t u v:=by
 cases h1:odd e f
 · rw[kF s e f (gK e f h1)] at h
   cases h2:odd u v
   · rw[kF t u v (gK u v h2)] at h;obtain⟨rfl,rfl,rfl⟩:=Zx s t e f u v he hf hu hv h;rfl
   · rw[qO t u v (l7 u v h2)] at h;exact absurd h (pW s e f he hf h1)
 · rw[qO s e f (l7 e f h1)] at h
   cases h2:odd u v
   · rw[kF t u v (gK u v h2)] at h;exact absurd h.symm (pW t u v hu hv h2)
   · rw[Da s e f h1,Da t u v h2]
theorem VQ(s t:Bool)(e f u v:Nat)(h1:odd e f=false)(h2:odd u v=false)(hne:¬ bw s e f=bw t u v)(h:pl s e f=pl t u v):(s=false->ky t u v<ky s e f)/\(s=true->ky s e f<ky t u v):=by
 rw[wO s e f h1,wO t u v h2];unfold bw at hne;unfold pl sg at h
 cases s <;> cases t <;> simp at h hne |- <;> omega
end B
section
open Go.RowKit
open Go.Proofs.YtaejmlkaefnbhaaGreatDoor.B (bu aM bw)
attribute [local go_sem] bu aM
def kn(a:Int):Bool:=decide (0<=a)&&decide (a<=2)
def may(a b:Int):Bool:=kn a&&kn b
def ct(a:Int):Bool:=decide (0<=a)&&decide (a<=1099511627776)
theorem xa{P:Prop}(h:P:=by
 go_ret;exact⟨by first | rfl | simp,rfl⟩):P:=h
theorem ug(a:Int)(w:World):Calls Tryz.prog 119 #[.int .i64 a] w fun r w'=>r=.returned (.bool (kn a))/\w'=w:=by
 unfold kn
 by_cases h:0<=a
 · have hd:decide (0<=a)=true:=decide_eq_true h;rw[hd];go_enter Tryz.func119,Tryz.ntmps119;go_wp2;exact xa
 · have hd:decide (0<=a)=false:=decide_eq_false h;rw[hd];go_enter Tryz.func119,Tryz.ntmps119;go_wp2;exact xa
theorem qF(a:Int)(w:World):Calls Tryz.prog 187 #[.int .i64 a] w fun r w'=>r=.returned (.bool (ct a))/\w'=w:=by
 unfold ct
 by_cases h:0<=a
 · have hd:decide (0<=a)=true:=decide_eq_true h;rw[hd];go_enter Tryz.func187,Tryz.ntmps187;go_wp2;exact xa
 · have hd:decide (0<=a)=false:=decide_eq_false h;rw[hd];go_enter Tryz.func187,Tryz.ntmps187;go_wp2;exact xa
theorem jR(a b:Int)(w:World):Calls Tryz.prog 59 #[.agg #[.int .i64 a,.int .i64 b]] w fun r w'=>r=.returned (.bool (may a b))/\Below w.heap.size w w':=by
 unfold may;rcases ha:kn a with _|_
 · have H:=hid (fun w=>ha ▸ ug a w);clear ha;go_enter Tryz.func59,Tryz.ntmps59;go_wp2_with fail;refine(H.o _).mono ?_;rintro r w1 ⟨rfl,rfl⟩;go_wp2;go_ret;exact⟨rfl,(aG _ _).alloc (aB _) _⟩
 · have H:=hid (fun w=>ha ▸ ug a w);have H2:=hid (fun w=>ug b w);obtain⟨kb,hkb⟩:∃ k,kn b=k:=⟨_,rfl⟩;rw[hkb] at H2 |-;clear ha hkb;go_enter Tryz.func59,Tryz.ntmps59;go_wp2_with fail;refine(H.o _).mono ?_;rintro r w1 ⟨rfl,rfl⟩;go_wp2_with fail;refine(H2.o _).mono ?_;rintro r w1 ⟨rfl,rfl⟩;go_wp2;go_ret;exact⟨by first | rfl | simp,(aG _ _).alloc (aB _) _⟩
theorem Db(w:World):Calls Tryz.prog 127 #[.int .i64 1] w fun r w'=>r=.returned (.float .f64 9218868437227405312)/\w'=w:=by
 go_enter Tryz.func127,Tryz.ntmps127;go_wp2;exact Ks
theorem uh(w:World):Calls Tryz.prog 127 #[.int .i64 (-1)] w fun r w'=>r=.returned (.float .f64 18442240474082181120)/\w'=w:=by
 go_enter Tryz.func127,Tryz.ntmps127;go_wp2;exact Ks
theorem AQ(w:World):Calls Tryz.prog 110 #[.float .f64 0,.float .f64 13830554455654793216] w fun r w'=>r=.returned (.float .f64 9223372036854775808)/\w'=w:=by
 have h1:bits .andNot .u64 0 9223372036854775808=0:=by decide +kernel
 have h2:bits .and .u64 13830554455654793216 9223372036854775808=9223372036854775808:=by decide +kernel
 have h3:bits .or .u64 0 9223372036854775808=9223372036854775808:=by decide +kernel
 go_enter Tryz.func110,Tryz.ntmps110;go_wp2;exact Ks
open Go.RowKit
open Go.Proofs.YtaejmlkaefnbhaaGreatDoor.B (bu aM bw aU)
attribute [local go_sem] bu aM
def snd(n u d m p a:Int):Bool:=ct n&&ct u&&ct d&&(ct m&&ct p&&ct a)&&decide (n+u+d+m+p<=a)
theorem r9{n:Int}(h:ct n=true):0<=n/\n<=1099511627776:=by unfold ct at h;simpa using h
theorem VR{n u d m p:Int}(i:Nat)(hi:i<5)(h:ct ([n,u,d,m,p].getD i 0)=false)(a:Int):snd n u d m p a=false:=by
 unfold snd;obtain rfl|rfl|rfl|rfl|rfl:i=0\/i=1\/i=2\/i=3\/i=4:=af
 all_goals (simp at h;simp[h])
def ps(L:List Int)(i:Nat):Int:=(L.take i).sum
theorem VS(L:List Int)(i:Nat)(h:i<L.length):ps L (i+1)=ps L i+L.getD i 0:=by
 unfold ps;rw[xm h,List.sum_append,aS,aY h];simp
theorem Qah{P:Prop}(h:P:=by
 rw[ha] at HA HS;clear ha;go_wp2_with fail;refine(HA.o _).mono ?_;rintro r w1 ⟨rfl,rfl⟩;go_wp2;go_ret;exact⟨by rw[HS.o];first | rfl | simp,hbel⟩):P:=h
theorem AR(n u d m p a:Int)(w:World):Calls Tryz.prog 109 #[.agg #[.int .i64 n,.int .i64 u,.int .i64 d,.int .i64 m,.int .i64 p,.int .i64 a]] w fun r w'=>r=.returned (.bool (snd n u d m p a))/\Below w.heap.size w w':=by
 obtain⟨L,hL⟩:∃ L:List Int,L=[n,u,d,m,p]:=⟨_,rfl⟩;have hlen:L.length=5:=by rw[hL];rfl
 have HL:=(aT hL hlen);obtain⟨W,hW⟩:=ah ((w.alloc (.cells #[.int .i64 n,.int .i64 u,.int .i64 d,.int .i64 m,.int .i64 p,.int .i64 a] 73)).alloc (.cells #[.int .i64 n,.int .i64 u,.int .i64 d,.int .i64 m,.int .i64 p] 209))
 have hcell:∀ i,i<5->W.cell? ⟨w.heap.size+1,i,none⟩=some (.int .i64 (L.getD i 0)):=by
  intro i hi;have h1:=jC (w.alloc (.cells #[.int .i64 n,.int .i64 u,.int .i64 d,.int .i64 m,.int .i64 p,.int .i64 a] 73)) (.cells #[.int .i64 n,.int .i64 u,.int .i64 d,.int .i64 m,.int .i64 p] 209);rw[<-hW] at h1;simp only[dL] at h1;subst hL;simp only[World.cell?,h1];obtain rfl|rfl|rfl|rfl|rfl:i=0\/i=1\/i=2\/i=3\/i=4:=af
  all_goals simp
 have ha5:W.cell? ⟨w.heap.size,5,none⟩=some (.int .i64 a):=by rw[hW];simp[go_sem]
 have hbel:Below w.heap.size w W:=by rw[hW];exact((aG _ _).alloc (aB _) _).alloc aL _
 have HC:=(mh hcell hbel hW ha5);clear hL hlen hcell hbel hW ha5;have HA:=hid (qF a);go_enter Tryz.func109,Tryz.ntmps109;go_wp2
 go_loopg [4,17] 5 (fun gk sv iv wr=>∃ i:Nat,gk+i=5/\sv=.int .i64 (ps L i)/\iv=.int .i64 (i:Nat)/\wr=W/\Aside (∀ j,j<i->ct (L.getD j 0)=true)/\0<=ps L i/\ps L i<=(i:Int)*1099511627776)
 case atStart=>exact⟨0,rfl,rfl,rfl,by rw[HC.o.r2.1],fun j hj=>absurd hj af,by simp[ps],by simp[ps]⟩
 case round =>
  obtain⟨i,hi,rfl,rfl,rfl,HT,hp0,hp1⟩:=hrel;obtain⟨hcell,hbel,hW,ha5⟩:=HC.o
  by_cases hi5:i=5
  · obtain rfl:gk=0:=af
    subst hi5
    have hs:snd n u d m p a=(ct a&&decide (ps L 5<=a)):=by
     have h0:=HT.o 0 af;have h1:=HT.o 1 af;have h2:=HT.o 2 af;have h3:=HT.o 3 af;have h4:=HT.o 4 af;have e:=HL.o.1;subst e;have e2:ps [n,u,d,m,p] 5=n+u+d+m+p:=by simp[ps];omega
     rw[e2];simp at h0 h1 h2 h3 h4;unfold snd;rw[h0,h1,h2,h3,h4];simp
    obtain⟨q,hq⟩:∃ q,ps L 5=q:=⟨_,rfl⟩;rw[hq] at hp0 hp1 hs |-;have HS:=au hs;clear hcell hW hs hq;rcases ha:ct a with _|_
    · exact Qah
    · exact Qah
  · have hil:i<5:=af
    have hci:=hcell i hil;have HK:=hid (qF (L.getD i 0));have hps:=VS L i (by rw[HL.o.2];exact hil);obtain⟨x,hx⟩:∃ x,L.getD i 0=x:=⟨_,rfl⟩;rw[hx] at hci HK hps;rcases hc:ct x with _|_
    · rw[hc] at HK
      have HS:Aside (snd n u d m p a=false):=by
       have h1:=hc;rw[<-hx,HL.o.1] at h1;exact VR i hil h1 a
      have HB:=au hbel;clear hcell hbel hW ha5 hps hx hc hi5 HC HL;go_wp2_with fail;refine(HK.o _).mono ?_;rintro r w1 ⟨rfl,rfl⟩;go_wp2;go_ret;exact⟨by rw[HS.o];rfl,HB.o⟩
    · rw[hc] at HK;have hb:=r9 hc;obtain⟨q,hq⟩:∃ q,ps L i=q:=⟨_,rfl⟩;obtain⟨q2,hq2⟩:∃ q,ps L (i+1)=q:=⟨_,rfl⟩;rw[hq,hq2] at hps;rw[hq] at hp0 hp1 |-;have hq3:q+x=q2:=hps.symm
      have hq4:0<=q2/\q2<=((i:Int)+1)*1099511627776:=by
       have:((i:Int)+1)*1099511627776=(i:Int)*1099511627776+1099511627776:=af
       omega
      have hq5:q2<=9223372036854775807:=af
      have hq6:-9223372036854775808<=q2:=af
      have HR:=(iq hq2 hq4 hx hc hq3);clear hcell hbel hW ha5 hps hx hc hi5 HC hq2 hq hp0 hp1 hb hq4;go_wp2_with fail;refine(HK.o _).mono ?_;rintro r w1 ⟨rfl,rfl⟩;go_wp2;go_roundg (5-(i+1))
      case measure=>omega
      case rel =>
       obtain⟨hq2,hq4,hx,hc,hq3⟩:=HR.o;refine⟨i+1,af,?_,by first | go_num | (congr 1;omega),rfl,?_,by rw[hq2];exact hq4.1,by rw[hq2];have:=hq4.2;push_cast;exact this⟩
       · first | (rw[hq2];done) | (rw[hq2,<-hq3];done)
       · intro j hj
         by_cases hji:j=i
         · subst hji;rw[hx];exact hc
         · exact HT.o j af
def vd(ok:Bool)(n u d a b:Int):Nat×Bool :=
 if ok=false then(0,false) else if 0<n/\a=0 then(9221120237041090560,true) else if ¬ b=0 then(0,false)
 else if 0<u/\0<d then(9221120237041090560,true) else if 0<u then(9218868437227405312,true) else if 0<d then(18442240474082181120,true) else(0,false)
def nt(ok:Bool)(n u d m p a mode:Int):Nat :=
 if ok=false then 0 else if a-n-u-d=0 then 0 else if m=a-n-u-d then 9223372036854775808 else if p=a-n-u-d then 0 else if mode=3 then 9223372036854775808 else 0
theorem Zy{n u d m p a:Int}(h:snd n u d m p a=true):(0<=n/\n<=1099511627776)/\(0<=u/\u<=1099511627776)/\(0<=d/\d<=1099511627776)/\(0<=a/\a<=1099511627776):=by
 unfold snd at h;simp only[xD] at h;exact⟨r9 h.1.1.1.1,r9 h.1.1.1.2,r9 h.1.1.2,r9 h.1.2.2⟩
end
section
open Go.RowKit
open Go.Proofs.YtaejmlkaefnbhaaGreatDoor.B (bu aM bw aU)
attribute [local go_sem] bu aM
theorem Kp{P:Prop}(h:P:=by
 go_ret2
 exact⟨by first | rfl | simp,((((aG _ w).alloc (aB _) _).alloc aL _).trans (B1.o.mono (by simp;omega))).trans (B2.o.mono af)⟩):P:=h
theorem J1{P:Prop}(h:P:=by
 go_enter Tryz.func67,Tryz.ntmps67;go_wp2_with fail;refine(HS.o _).mono ?_;rintro r w1 ⟨rfl,hb1⟩;have hz1:=hb1.size;simp at hz1;obtain⟨hc1,hf1⟩:=aU hb1;have B1:=au hb1;clear hb1;go_wp2_with fail;refine(HM.o _).mono ?_;rintro r w2 ⟨rfl,hb2⟩;have hz2:=hb2.size;obtain⟨hc2,hf2⟩:=aU hb2;have hc3:∀ b o,b<w.heap.size+1+1->w2.cell? ⟨b,o,none⟩=w1.cell? ⟨b,o,none⟩:=fun b o h=>hc2 b o af;have B2:=au hb2;clear hb2 hc2 hf2;go_wp2
 go_ret2
 exact⟨by first | rfl | simp,((((aG _ w).alloc (aB _) _).alloc aL _).trans (B1.o.mono (by simp;omega))).trans (B2.o.mono af)⟩):P:=h
theorem lT(n u d m p l a b:Int)(w:World):Calls Tryz.prog 67 #[.agg #[.int .i64 n,.int .i64 u,.int .i64 d,.int .i64 m,.int .i64 p,.int .i64 l],.agg #[.int .i64 a,.int .i64 b]] w fun r w'=>r=.returned (.tuple #[.float .f64 (vd (snd n u d m p l&&may a b) n u d a b).1,.bool (vd (snd n u d m p l&&may a b) n u d a b).2])/\Below w.heap.size w w':=by
 have HS:=hid (AR n u d m p l);have HM:=hid (jR a b);have HN:=hid (B.wM);have HU:=hid (Db);have HD:=hid (uh);rcases hs:snd n u d m p l with _|_
 · rw[hs] at HS;rw[vg];have hv:vd false n u d a b=(0,false):=by unfold vd;rw[if_pos rfl]
   rw[hv];clear hs hv;go_enter Tryz.func67,Tryz.ntmps67;go_wp2_with fail;refine(HS.o _).mono ?_;rintro r w1 ⟨rfl,hb1⟩;have hz1:=hb1.size;simp at hz1;obtain⟨hc1,hf1⟩:=aU hb1;have B1:=au hb1;clear hb1;go_wp2
   go_ret2
   exact⟨by first | rfl | simp,(((aG _ w).alloc (aB _) _).alloc aL _).trans (B1.o.mono (by simp;omega))⟩
 rcases hm:may a b with _|_
 · rw[hs] at HS;rw[hm] at HM;have hv:vd (true&&false) n u d a b=(0,false):=if_pos rfl;rw[hv];clear hs hm hv;exact J1
 rw[hs] at HS;rw[hm] at HM;rw[vk];clear hs hm
 have way1:0<n->a=0->Calls Tryz.prog 67 #[.agg #[.int .i64 n,.int .i64 u,.int .i64 d,.int .i64 m,.int .i64 p,.int .i64 l],.agg #[.int .i64 a,.int .i64 b]] w fun r w'=>r=.returned (.tuple #[.float .f64 (vd true n u d a b).1,.bool (vd true n u d a b).2])/\Below w.heap.size w w':=by
  intro p1 p2;have hv:vd true n u d a b=(9221120237041090560,true):=by unfold vd;rw[if_neg aA,if_pos ⟨p1,p2⟩]
  rw[hv];clear hv;have q1:0<n:=p1;have q2:a=0:=p2;subst q2;go_enter Tryz.func67,Tryz.ntmps67;go_wp2_with fail;refine(HS.o _).mono ?_;rintro r w1 ⟨rfl,hb1⟩;have hz1:=hb1.size;simp at hz1;obtain⟨hc1,hf1⟩:=aU hb1;have B1:=au hb1;clear hb1;go_wp2_with fail;refine(HM.o _).mono ?_;rintro r w2 ⟨rfl,hb2⟩;have hz2:=hb2.size;obtain⟨hc2,hf2⟩:=aU hb2;have hc3:∀ b o,b<w.heap.size+1+1->w2.cell? ⟨b,o,none⟩=w1.cell? ⟨b,o,none⟩:=fun b o h=>hc2 b o af;have B2:=au hb2;clear hb2 hc2 hf2;go_wp2_with fail;refine(HN.o _).mono ?_;rintro r w3 ⟨rfl,rfl⟩;go_wp2
  exact Kp
 have way2:0<n->¬ (a=0)->¬ (b=0)->Calls Tryz.prog 67 #[.agg #[.int .i64 n,.int .i64 u,.int .i64 d,.int .i64 m,.int .i64 p,.int .i64 l],.agg #[.int .i64 a,.int .i64 b]] w fun r w'=>r=.returned (.tuple #[.float .f64 (vd true n u d a b).1,.bool (vd true n u d a b).2])/\Below w.heap.size w w':=by
  intro p1 p2 p3;have hv:vd true n u d a b=(0,false):=by unfold vd;rw[if_neg aA,if_neg (fun h=>p2 h.2),if_pos p3]
  rw[hv];clear hv;have q1:0<n:=p1;have q2:(a==0)=false:=by rw[beq_eq_false_iff_ne];exact p2
  have q3:(b==0)=false:=by rw[beq_eq_false_iff_ne];exact p3
  exact J1
 have way3:0<n->¬ (a=0)->b=0->0<u->0<d->Calls Tryz.prog 67 #[.agg #[.int .i64 n,.int .i64 u,.int .i64 d,.int .i64 m,.int .i64 p,.int .i64 l],.agg #[.int .i64 a,.int .i64 b]] w fun r w'=>r=.returned (.tuple #[.float .f64 (vd true n u d a b).1,.bool (vd true n u d a b).2])/\Below w.heap.size w w':=by
  intro p1 p2 p3 p4 p5;have hv:vd true n u d a b=(9221120237041090560,true):=by unfold vd;rw[if_neg aA,if_neg (fun h=>p2 h.2),if_neg (not_not_intro p3),if_pos ⟨p4,p5⟩]
  rw[hv];clear hv;have q1:0<n:=p1;have q2:(a==0)=false:=by rw[beq_eq_false_iff_ne];exact p2
  have q3:b=0:=p3;have q4:0<u:=p4;have q5:0<d:=p5;subst q3;go_enter Tryz.func67,Tryz.ntmps67;go_wp2_with fail;refine(HS.o _).mono ?_;rintro r w1 ⟨rfl,hb1⟩;have hz1:=hb1.size;simp at hz1;obtain⟨hc1,hf1⟩:=aU hb1;have B1:=au hb1;clear hb1;go_wp2_with fail;refine(HM.o _).mono ?_;rintro r w2 ⟨rfl,hb2⟩;have hz2:=hb2.size;obtain⟨hc2,hf2⟩:=aU hb2;have hc3:∀ b o,b<w.heap.size+1+1->w2.cell? ⟨b,o,none⟩=w1.cell? ⟨b,o,none⟩:=fun b o h=>hc2 b o af;have B2:=au hb2;clear hb2 hc2 hf2;go_wp2_with fail;refine(HN.o _).mono ?_;rintro r w3 ⟨rfl,rfl⟩;go_wp2
  exact Kp
 have way4:0<n->¬ (a=0)->b=0->0<u->¬ (0<d)->Calls Tryz.prog 67 #[.agg #[.int .i64 n,.int .i64 u,.int .i64 d,.int .i64 m,.int .i64 p,.int .i64 l],.agg #[.int .i64 a,.int .i64 b]] w fun r w'=>r=.returned (.tuple #[.float .f64 (vd true n u d a b).1,.bool (vd true n u d a b).2])/\Below w.heap.size w w':=by
  intro p1 p2 p3 p4 p5;have hv:vd true n u d a b=(9218868437227405312,true):=by unfold vd;rw[if_neg aA,if_neg (fun h=>p2 h.2),if_neg (not_not_intro p3),if_neg (fun h=>p5 h.2),if_pos p4]
  rw[hv];clear hv;have q1:0<n:=p1;have q2:(a==0)=false:=by rw[beq_eq_false_iff_ne];exact p2
  have q3:b=0:=p3;have q4:0<u:=p4;have q5:decide (0<d)=false:=decide_eq_false p5;subst q3;go_enter Tryz.func67,Tryz.ntmps67;go_wp2_with fail;refine(HS.o _).mono ?_;rintro r w1 ⟨rfl,hb1⟩;have hz1:=hb1.size;simp at hz1;obtain⟨hc1,hf1⟩:=aU hb1;have B1:=au hb1;clear hb1;go_wp2_with fail;refine(HM.o _).mono ?_;rintro r w2 ⟨rfl,hb2⟩;have hz2:=hb2.size;obtain⟨hc2,hf2⟩:=aU hb2;have hc3:∀ b o,b<w.heap.size+1+1->w2.cell? ⟨b,o,none⟩=w1.cell? ⟨b,o,none⟩:=fun b o h=>hc2 b o af;have B2:=au hb2;clear hb2 hc2 hf2;go_wp2_with fail;refine(HU.o _).mono ?_;rintro r w3 ⟨rfl,rfl⟩;go_wp2
  exact Kp
 have way5:0<n->¬ (a=0)->b=0->¬ (0<u)->0<d->Calls Tryz.prog 67 #[.agg #[.int .i64 n,.int .i64 u,.int .i64 d,.int .i64 m,.int .i64 p,.int .i64 l],.agg #[.int .i64 a,.int .i64 b]] w fun r w'=>r=.returned (.tuple #[.float .f64 (vd true n u d a b).1,.bool (vd true n u d a b).2])/\Below w.heap.size w w':=by
  intro p1 p2 p3 p4 p5;have hv:vd true n u d a b=(18442240474082181120,true):=by unfold vd;rw[if_neg aA,if_neg (fun h=>p2 h.2),if_neg (not_not_intro p3),if_neg (fun h=>p4 h.1),if_neg p4,if_pos p5]
  rw[hv];clear hv;have q1:0<n:=p1;have q2:(a==0)=false:=by rw[beq_eq_false_iff_ne];exact p2
  have q3:b=0:=p3;have q4:decide (0<u)=false:=decide_eq_false p4;have q5:0<d:=p5;subst q3;go_enter Tryz.func67,Tryz.ntmps67;go_wp2_with fail;refine(HS.o _).mono ?_;rintro r w1 ⟨rfl,hb1⟩;have hz1:=hb1.size;simp at hz1;obtain⟨hc1,hf1⟩:=aU hb1;have B1:=au hb1;clear hb1;go_wp2_with fail;refine(HM.o _).mono ?_;rintro r w2 ⟨rfl,hb2⟩;have hz2:=hb2.size;obtain⟨hc2,hf2⟩:=aU hb2;have hc3:∀ b o,b<w.heap.size+1+1->w2.cell? ⟨b,o,none⟩=w1.cell? ⟨b,o,none⟩:=fun b o h=>hc2 b o af;have B2:=au hb2;clear hb2 hc2 hf2;go_wp2_with fail;refine(HD.o _).mono ?_;rintro r w3 ⟨rfl,rfl⟩;go_wp2
  exact Kp
 have way6:0<n->¬ (a=0)->b=0->¬ (0<u)->¬ (0<d)->Calls Tryz.prog 67 #[.agg #[.int .i64 n,.int .i64 u,.int .i64 d,.int .i64 m,.int .i64 p,.int .i64 l],.agg #[.int .i64 a,.int .i64 b]] w fun r w'=>r=.returned (.tuple #[.float .f64 (vd true n u d a b).1,.bool (vd true n u d a b).2])/\Below w.heap.size w w':=by
  intro p1 p2 p3 p4 p5;have hv:vd true n u d a b=(0,false):=by unfold vd;rw[if_neg aA,if_neg (fun h=>p2 h.2),if_neg (not_not_intro p3),if_neg (fun h=>p4 h.1),if_neg p4,if_neg p5]
  rw[hv];clear hv;have q1:0<n:=p1;have q2:(a==0)=false:=by rw[beq_eq_false_iff_ne];exact p2
  have q3:b=0:=p3;have q4:decide (0<u)=false:=decide_eq_false p4;have q5:decide (0<d)=false:=decide_eq_false p5;subst q3;exact J1
 have way7:¬ (0<n)->¬ (b=0)->Calls Tryz.prog 67 #[.agg #[.int .i64 n,.int .i64 u,.int .i64 d,.int .i64 m,.int .i64 p,.int .i64 l],.agg #[.int .i64 a,.int .i64 b]] w fun r w'=>r=.returned (.tuple #[.float .f64 (vd true n u d a b).1,.bool (vd true n u d a b).2])/\Below w.heap.size w w':=by
  intro p1 p3;have hv:vd true n u d a b=(0,false):=by unfold vd;rw[if_neg aA,if_neg (fun h=>p1 h.1),if_pos p3]
  rw[hv];clear hv;have q1:decide (0<n)=false:=decide_eq_false p1;have q3:(b==0)=false:=by rw[beq_eq_false_iff_ne];exact p3
  exact J1
 have way8:¬ (0<n)->b=0->0<u->0<d->Calls Tryz.prog 67 #[.agg #[.int .i64 n,.int .i64 u,.int .i64 d,.int .i64 m,.int .i64 p,.int .i64 l],.agg #[.int .i64 a,.int .i64 b]] w fun r w'=>r=.returned (.tuple #[.float .f64 (vd true n u d a b).1,.bool (vd true n u d a b).2])/\Below w.heap.size w w':=by
  intro p1 p3 p4 p5;have hv:vd true n u d a b=(9221120237041090560,true):=by unfold vd;rw[if_neg aA,if_neg (fun h=>p1 h.1),if_neg (not_not_intro p3),if_pos ⟨p4,p5⟩]
  rw[hv];clear hv;have q1:decide (0<n)=false:=decide_eq_false p1;have q3:b=0:=p3;have q4:0<u:=p4;have q5:0<d:=p5;subst q3;go_enter Tryz.func67,Tryz.ntmps67;go_wp2_with fail;refine(HS.o _).mono ?_;rintro r w1 ⟨rfl,hb1⟩;have hz1:=hb1.size;simp at hz1;obtain⟨hc1,hf1⟩:=aU hb1;have B1:=au hb1;clear hb1;go_wp2_with fail;refine(HM.o _).mono ?_;rintro r w2 ⟨rfl,hb2⟩;have hz2:=hb2.size;obtain⟨hc2,hf2⟩:=aU hb2;have hc3:∀ b o,b<w.heap.size+1+1->w2.cell? ⟨b,o,none⟩=w1.cell? ⟨b,o,none⟩:=fun b o h=>hc2 b o af;have B2:=au hb2;clear hb2 hc2 hf2;go_wp2_with fail;refine(HN.o _).mono ?_;rintro r w3 ⟨rfl,rfl⟩;go_wp2
  exact Kp
 have way9:¬ (0<n)->b=0->0<u->¬ (0<d)->Calls Tryz.prog 67 #[.agg #[.int .i64 n,.int .i64 u,.int .i64 d,.int .i64 m,.int .i64 p,.int .i64 l],.agg #[.int .i64 a,.int .i64 b]] w fun r w'=>r=.returned (.tuple #[.float .f64 (vd true n u d a b).1,.bool (vd true n u d a b).2])/\Below w.heap.size w w':=by
  intro p1 p3 p4 p5;have hv:vd true n u d a b=(9218868437227405312,true):=by unfold vd;rw[if_neg aA,if_neg (fun h=>p1 h.1),if_neg (not_not_intro p3),if_neg (fun h=>p5 h.2),if_pos p4]
  rw[hv];clear hv;have q1:decide (0<n)=false:=decide_eq_false p1;have q3:b=0:=p3;have q4:0<u:=p4;have q5:decide (0<d)=false:=decide_eq_false p5;subst q3;go_enter Tryz.func67,Tryz.ntmps67;go_wp2_with fail;refine(HS.o _).mono ?_;rintro r w1 ⟨rfl,hb1⟩;have hz1:=hb1.size;simp at hz1;obtain⟨hc1,hf1⟩:=aU hb1;have B1:=au hb1;clear hb1;go_wp2_with fail;refine(HM.o _).mono ?_;rintro r w2 ⟨rfl,hb2⟩;have hz2:=hb2.size;obtain⟨hc2,hf2⟩:=aU hb2;have hc3:∀ b o,b<w.heap.size+1+1->w2.cell? ⟨b,o,none⟩=w1.cell? ⟨b,o,none⟩:=fun b o h=>hc2 b o af;have B2:=au hb2;clear hb2 hc2 hf2;go_wp2_with fail;refine(HU.o _).mono ?_;rintro r w3 ⟨rfl,rfl⟩;go_wp2
  exact Kp
 have way10:¬ (0<n)->b=0->¬ (0<u)->0<d->Calls Tryz.prog 67 #[.agg #[.int .i64 n,.int .i64 u,.int .i64 d,.int .i64 m,.int .i64 p,.int .i64 l],.agg #[.int .i64 a,.int .i64 b]] w fun r w'=>r=.returned (.tuple #[.float .f64 (vd true n u d a b).1,.bool (vd true n u d a b).2])/\Below w.heap.size w w':=by
  intro p1 p3 p4 p5;have hv:vd true n u d a b=(18442240474082181120,true):=by unfold vd;rw[if_neg aA,if_neg (fun h=>p1 h.1),if_neg (not_not_intro p3),if_neg (fun h=>p4 h.1),if_neg p4,if_pos p5]
  rw[hv];clear hv;have q1:decide (0<n)=false:=decide_eq_false p1;have q3:b=0:=p3;have q4:decide (0<u)=false:=decide_eq_false p4;have q5:0<d:=p5;subst q3;go_enter Tryz.func67,Tryz.ntmps67;go_wp2_with fail;refine(HS.o _).mono ?_;rintro r w1 ⟨rfl,hb1⟩;have hz1:=hb1.size;simp at hz1;obtain⟨hc1,hf1⟩:=aU hb1;have B1:=au hb1;clear hb1;go_wp2_with fail;refine(HM.o _).mono ?_;rintro r w2 ⟨rfl,hb2⟩;have hz2:=hb2.size;obtain⟨hc2,hf2⟩:=aU hb2;have hc3:∀ b o,b<w.heap.size+1+1->w2.cell? ⟨b,o,none⟩=w1.cell? ⟨b,o,none⟩:=fun b o h=>hc2 b o af;have B2:=au hb2;clear hb2 hc2 hf2;go_wp2_with fail;refine(HD.o _).mono ?_;rintro r w3 ⟨rfl,rfl⟩;go_wp2
  exact Kp
 have way11:¬ (0<n)->b=0->¬ (0<u)->¬ (0<d)->Calls Tryz.prog 67 #[.agg #[.int .i64 n,.int .i64 u,.int .i64 d,.int .i64 m,.int .i64 p,.int .i64 l],.agg #[.int .i64 a,.int .i64 b]] w fun r w'=>r=.returned (.tuple #[.float .f64 (vd true n u d a b).1,.bool (vd true n u d a b).2])/\Below w.heap.size w w':=by
  intro p1 p3 p4 p5;have hv:vd true n u d a b=(0,false):=by unfold vd;rw[if_neg aA,if_neg (fun h=>p1 h.1),if_neg (not_not_intro p3),if_neg (fun h=>p4 h.1),if_neg p4,if_neg p5]
  rw[hv];clear hv;have q1:decide (0<n)=false:=decide_eq_false p1;have q3:b=0:=p3;have q4:decide (0<u)=false:=decide_eq_false p4;have q5:decide (0<d)=false:=decide_eq_false p5;subst q3;exact J1
 by_cases p1:0<n
 · by_cases p2:a=0
   · exact way1 p1 p2
   · by_cases p3:b=0
     · by_cases p4:0<u <;> by_cases p5:0<d
       · exact way3 p1 p2 p3 p4 p5
       · exact way4 p1 p2 p3 p4 p5
       · exact way5 p1 p2 p3 p4 p5
       · exact way6 p1 p2 p3 p4 p5
     · exact way2 p1 p2 p3
 · by_cases p3:b=0
   · by_cases p4:0<u <;> by_cases p5:0<d
     · exact way8 p1 p3 p4 p5
     · exact way9 p1 p3 p4 p5
     · exact way10 p1 p3 p4 p5
     · exact way11 p1 p3 p4 p5
   · exact way7 p1 p3
end
section
open Go.RowKit
open Go.Proofs.YtaejmlkaefnbhaaGreatDoor.B (bu aM bw aU)
attribute [local go_sem] bu aM
theorem Kx{P:Prop}(h:P:=by
 go_enter Tryz.func53,Tryz.ntmps53;go_wp2_with fail;refine(HS.o _).mono ?_;rintro r w1 ⟨rfl,hb1⟩;have hz1:=hb1.size;simp at hz1;obtain⟨hc1,hf1⟩:=aU hb1;have B1:=au hb1;clear hb1;go_wp2_with fail;refine(HM.o _).mono ?_;rintro r w3 ⟨rfl,rfl⟩;go_wp2;go_ret;exact⟨by first | rfl | simp,((aG _ w).alloc (aB _) _).trans (B1.o.mono aL)⟩):P:=h
theorem nu(n u d m p l mode:Int)(w:World):Calls Tryz.prog 53 #[.agg #[.int .i64 n,.int .i64 u,.int .i64 d,.int .i64 m,.int .i64 p,.int .i64 l],.int .i64 mode] w fun r w'=>r=.returned (.float .f64 (nt (snd n u d m p l) n u d m p l mode))/\Below w.heap.size w w':=by
 have HS:=hid (AR n u d m p l);have HM:=hid (AQ);rcases hs:snd n u d m p l with _|_
 · rw[hs] at HS;have hv:nt false n u d m p l mode=0:=if_pos rfl;rw[hv];clear hs hv;go_enter Tryz.func53,Tryz.ntmps53;go_wp2_with fail;refine(HS.o _).mono ?_;rintro r w1 ⟨rfl,hb1⟩;have hz1:=hb1.size;simp at hz1;obtain⟨hc1,hf1⟩:=aU hb1;have B1:=au hb1;clear hb1;go_wp2;go_ret;exact⟨by first | rfl | simp,((aG _ w).alloc (aB _) _).trans (B1.o.mono aL)⟩
 have bd:=Zy hs;rw[hs] at HS;obtain⟨f,hf⟩:∃ f,l-n-u-d=f:=⟨_,rfl⟩;have hfb:-9223372036854775808<=f/\f<=9223372036854775807:=af
 have hb1:0<=n/\n<=1099511627776:=bd.1;have hb2:0<=u/\u<=1099511627776:=bd.2.1;have hb3:0<=d/\d<=1099511627776:=bd.2.2.1;have hb4:0<=l/\l<=1099511627776:=bd.2.2.2;unfold nt;rw[if_neg aA,hf];clear hs bd
 by_cases p1:f=0
 · rw[if_pos p1];have q1:(f==0)=true:=by rw[beq_iff_eq];exact p1
   clear p1;exact Kx
 rw[if_neg p1];have q1:(f==0)=false:=by rw[beq_eq_false_iff_ne];exact p1
 clear p1
 by_cases p2:m=f
 · rw[if_pos p2];have q2:(m==f)=true:=by rw[beq_iff_eq];exact p2
   clear p2;exact Kx
 rw[if_neg p2];have q2:(m==f)=false:=by rw[beq_eq_false_iff_ne];exact p2
 clear p2
 by_cases p3:p=f
 · rw[if_pos p3];have q3:(p==f)=true:=by rw[beq_iff_eq];exact p3
   clear p3;exact Kx
 rw[if_neg p3];have q3:(p==f)=false:=by rw[beq_eq_false_iff_ne];exact p3
 clear p3
 by_cases p4:mode=3
 · rw[if_pos p4];subst p4;exact Kx
 · rw[if_neg p4];have q4:(mode==3)=false:=by rw[beq_eq_false_iff_ne];exact p4
   clear p4;exact Kx
end
section
open Go.RowKit
def RU(V:Int)(s:Sp)(mode a b:Int):Nat×Bool×Int :=
 if (vd (snd s.n s.u s.d s.m s.p s.a&&may a b) s.n s.u s.d a b).2 then((vd (snd s.n s.u s.d s.m s.p s.a&&may a b) s.n s.u s.d a b).1,true,0)
 else if V=0 then(nt (snd s.n s.u s.d s.m s.p s.a) s.n s.u s.d s.m s.p s.a mode,true,0) else(0,false,0)
theorem qN(L:List Nat)(V:Int)(hl:L.length=133)(hL:Wf L)(hv:(val L:Int)=V%(PB:Int))(h0:-(HB:Int)<V)(h1:V<(HB:Int)):decide (L=List.replicate 133 0)=decide (V=0):=by
 rw[decide_eq_decide];have e:=LU;constructor
 · intro h;rw[h,kK] at hv;have h2:=Int.emod_emod_of_dvd V (Int.dvd_refl (PB:Int));have h3:(PB:Int) ∣ V:=Int.dvd_of_emod_eq_zero (by simpa using hv.symm);obtain⟨k,hk⟩:=h3
   by_cases hk0:k=0
   · rw[hk,hk0];simp
   · have hp:=oJ
     have:(PB:Int)<=V\/V<=-(PB:Int):=by
      rcases Int.lt_or_gt_of_ne hk0 with h|h
      · right
        have:(PB:Int)*k<=(PB:Int)*(-1):=Int.mul_le_mul_of_nonneg_left af af;omega
      · left
        have:(PB:Int)*1<=(PB:Int)*k:=Int.mul_le_mul_of_nonneg_left af af;omega
     omega
 · rintro rfl;refine val_inj (by simp[hl]) hL (Wf.zeros 133) ?_;rw[kK];simpa using hv
theorem mI{w:World}{a:Option Addr}{n c:Nat}{xs:List Nat}(h1:Arg w a n c xs)(hT:bO w)(neg:Bool)(e:Int)(he0:-9223372036854775808<=e)(he1:e<=9223372036854775807) :
 Calls Tryz.prog 188 #[.agg #[.bool neg,.slice a n c,.int .i64 e]] w fun r w'=>dh w.heap.size w' r (mkS neg (val xs) e)/\Below w.heap.size w w':=by
 have HB:=au (show Below w.heap.size w ((w.alloc (.cells #[.bool neg,.slice a n c,.int .i64 e] 77)).alloc (.cells #[.bool false,.slice none 0 0,.int .i64 0] 77)) from(((aG _ _).alloc (aB _) _).alloc aL _));have H1:=hid (fJ (h1.below HB.o) (hT.belows HB.o) neg e he0 he1);have hl:=bC neg (val xs) e;obtain⟨o,ho⟩:∃ o,mkS neg (val xs) e=o:=⟨_,rfl⟩;rw[ho] at H1 hl |-;unfold dh at H1 |-;obtain⟨dn,hdn⟩:∃ d,dN o=d:=⟨_,rfl⟩;obtain⟨X,Zz⟩:∃ d,dX o=d:=⟨_,rfl⟩;obtain⟨de,hde⟩:∃ d,dE o=d:=⟨_,rfl⟩;obtain⟨er,her⟩:∃ d,qx o=d:=⟨_,rfl⟩;rw[hdn,Zz,hde,her] at H1 |-;rw[Zz] at hl;clear h1 ho hdn Zz hde her hT he0 he1;go_enter Tryz.func188,Tryz.ntmps188;go_wp2_with fail;refine H1.o.mono ?_;rintro r w2 ⟨⟨v,rfl,hN⟩,hb⟩;obtain⟨a2,c2,rfl,_⟩:=hN.arg af;obtain⟨hc,hf⟩:=aU hb;have HF:=au (Fin.of 2 HB.o aL hN hb);have hz:w.heap.size+1<w2.heap.size:=by have:=hb.size;simp at this;omega
 clear hN hb;go_wp2;exact aJ (v:=.tuple #[.agg #[.bool dn,.slice a2 (ws X).length c2,.int .i64 de],.int .i64 er]) (by simp[results,Tryz.results188,go_sem,hc]) rfl (Fin.qy (m:=w.heap.size+2) (by repeat (first | exact HF.o | refine Fin.alloc ?_ _ | refine Fin.set ?_ _ _ _ af af)) af)
def fD(lo:Nat)(w:World)(r:Ending)(o:Option (Bool×Nat×Int)):Prop :=
 ∃ v,r=.returned (.agg #[.bool (dN o),v,.int .i64 (dE o)])/\Nt lo w v (dX o)
theorem Fin.dval{lo m:Nat}{w0 w:World}{n:Bool}{v:Value}{X:Nat}{e:Int}(H:Fin lo m w0 w v X)(h:lo<=m) :
 (∃ v',Ending.returned (.agg #[.bool n,v,.int .i64 e])=.returned (.agg #[.bool n,v',.int .i64 e])/\Nt lo w v' X)/\Below lo w0 w:=⟨⟨v,rfl,H.nt.mono h⟩,H.aD⟩
theorem Jz(a:Option Addr)(n c:Nat)(neg:Bool)(e:Int)(w:World) :
 Calls Tryz.prog 245 #[.agg #[.bool neg,.slice a n c,.int .i64 e]] w fun r w'=>r=.returned (.agg #[.bool (!neg),.slice a n c,.int .i64 e])/\Below w.heap.size w w':=by
 go_enter Tryz.func245,Tryz.ntmps245;go_wp2;exact aJ (v:=.agg #[.bool (!neg),.slice a n c,.int .i64 e]) (by simp[results,Tryz.results245,go_sem]) rfl ⟨rfl,by repeat (first | exact aG _ _ | refine Below.alloc ?_ (by first | omega | simp) _ | refine Below.qR ?_ _ _ _ af aL)⟩
end
namespace B
open Go.RowKit
attribute [local go_sem] bu aM
theorem LY(a c:Bool)(k l x y f g:Int)(w:World):(Op.equalIn 10000 222 (.agg #[.bool a,.int .i64 k,.int .i64 x,.int .u64 f]) (.agg #[.bool c,.int .i64 l,.int .i64 y,.int .u64 g])).run Tryz.prog w=.ok (a==c&&(k==l&&(x==y&&f==g))) w:=by
 have u3:=Tryz.underlying3;have u4:=Tryz.underlying4;have u23:=Tryz.underlying82;have hS:Tryz.prog.underlying 222=some (.struct (Tryz.prog.fieldsOf 222)):=by kernel_rfl
 have hp:Tryz.prog.stoodInHeld 222=false:=by kernel_rfl
 rw[show(10000:Nat)=9999+1 from rfl,run_equalIn_agg w 9999 222 _ _ hS hp];simp only[Program.fieldsOf,Tryz.underlying222];go_simp
 by_cases h1:a=c <;> by_cases h2:k=l <;> by_cases h3:x=y <;> by_cases h4:f=g <;> simp[h1,h2,h3,h4]
attribute [local go_sem] LY
theorem fld0(a:Bool)(k x f:Int)(w:World):(Instr.field 222 (.agg #[.bool a,.int .i64 k,.int .i64 x,.int .u64 f]) 0).run Tryz.prog w=.ok (.bool a) w:=by kernel_rfl
theorem fld1(a:Bool)(k x f:Int)(w:World):(Instr.field 222 (.agg #[.bool a,.int .i64 k,.int .i64 x,.int .u64 f]) 1).run Tryz.prog w=.ok (.int .i64 k) w:=by kernel_rfl
theorem fld2(a:Bool)(k x f:Int)(w:World):(Instr.field 222 (.agg #[.bool a,.int .i64 k,.int .i64 x,.int .u64 f]) 2).run Tryz.prog w=.ok (.int .i64 x) w:=by kernel_rfl
theorem fld3(a:Bool)(k x f:Int)(w:World):(Instr.field 222 (.agg #[.bool a,.int .i64 k,.int .i64 x,.int .u64 f]) 3).run Tryz.prog w=.ok (.int .u64 f) w:=by kernel_rfl
attribute [local go_sem] fld0 fld1 fld2 fld3
theorem AU(s:Bool)(e f:Nat)(he:e<2048)(hf:f<4503599627370496)(w:World) :
 Calls Tryz.prog 135 #[.float .f64 (bw s e f)] w fun r w'=>r=.returned (.int .i64 (cls e f))/\Below w.heap.size w w':=by
 go_enter Tryz.func135,Tryz.ntmps135
 go_wp2_with (go_at_call 203;refine(mE s e f he hf _).mono ?_;rintro r w1 ⟨rfl,hb⟩)
 go_ret;exact⟨rfl,hb⟩
theorem FQ(s t:Bool)(e f u v:Nat)(he:e<2048)(hf:f<4503599627370496)(hu:u<2048)(hv:v<4503599627370496)(w:World) :
 Calls Tryz.prog 168 #[.float .f64 (bw s e f),.float .f64 (bw t u v)] w fun r w'=>r=.returned (.bool (decide (cb s e f=cb t u v)))/\w'=w:=by
 cases h1:odd e f
 · cases h2:odd u v
   · have h3:((bw s e f:Int)==(bw t u v:Int))=decide (cb s e f=cb t u v):=by
      rw[kF s e f (gK e f h1),kF t u v (gK u v h2),xG];simp;omega
     go_enter Tryz.func168,Tryz.ntmps168;go_wp2_with fail;refine(bJ s e f he hf _).mono ?_;rintro r w1 ⟨rfl,rfl⟩;go_wp2_with fail;refine(bJ t u v hu hv _).mono ?_;rintro r w1 ⟨rfl,rfl⟩;go_wp2_with fail;exact Ks
   · have h3:decide (cb s e f=cb t u v)=false:=by
      rw[kF s e f (gK e f h1),qO t u v (l7 u v h2)];exact decide_eq_false (pW s e f he hf h1)
     rw[h3];clear h3;go_enter Tryz.func168,Tryz.ntmps168;go_wp2_with fail;refine(bJ s e f he hf _).mono ?_;rintro r w1 ⟨rfl,rfl⟩;go_wp2_with fail;refine(bJ t u v hu hv _).mono ?_;rintro r w1 ⟨rfl,rfl⟩;go_wp2_with fail;refine(bJ s e f he hf _).mono ?_;rintro r w1 ⟨rfl,rfl⟩;go_wp2_with fail;exact Ks
 · have h3:decide (cb s e f=cb t u v)=odd u v:=by
    rw[qO s e f (l7 e f h1)]
    cases h2:odd u v
    · rw[kF t u v (gK u v h2)];exact decide_eq_false (fun h=>pW t u v hu hv h2 h.symm)
    · rw[qO t u v (l7 u v h2)];rfl
   rw[h3];clear h3;go_enter Tryz.func168,Tryz.ntmps168;go_wp2_with fail;refine(bJ s e f he hf _).mono ?_;rintro r w1 ⟨rfl,rfl⟩;go_wp2_with fail;refine(bJ s e f he hf _).mono ?_;rintro r w1 ⟨rfl,rfl⟩;go_wp2_with fail;refine(bJ t u v hu hv _).mono ?_;rintro r w1 ⟨rfl,rfl⟩;go_wp2_with fail;exact Ks
end B
end Go.Proofs.YtaejmlkaefnbhaaGreatDoor
