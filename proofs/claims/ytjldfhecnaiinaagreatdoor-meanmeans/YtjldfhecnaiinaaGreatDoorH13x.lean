import Derived.Test.YtjldfhecnaiinaaGreatDoorM1x
import Derived.ProofKit
import Derived.OpenShut
import Derived.ChangeOld
import Derived.ChangeArms
import Derived.SizedLaws
import Derived.Laws.Cover2
import Derived.Test.YtjldfhecnaiinaaGreatDoorY6x
import Derived.Test.YtjldfhecnaiinaaGreatDoorZ9x
import Derived.Deep.CutRange
import Derived.Test.YtjldfhecnaiinaaGreatDoorX1x
import Derived.Test.YtjldfhecnaiinaaGreatDoorD40x
import Derived.Test.YtjldfhecnaiinaaGreatDoorD20x
import Derived.Deep.RegionHeld3
import Derived.Test.YtjldfhecnaiinaaGreatDoorP2x
import Derived.Test.YtjldfhecnaiinaaGreatDoorF6x
import Derived.Test.YtjldfhecnaiinaaGreatDoorS7x
import Derived.Deep.RegionWith
import Derived.BigQuiet
set_option linter.unusedVariables false
set_option linter.unusedSimpArgs false
set_option maxHeartbeats 16000000
set_option maxRecDepth 20000
namespace Go.Proofs.YtjldfhecnaiinaaGreatDoor
namespace J
end J
section
open Go.ChangeShapes Go.WideShapes Go.ChangeAt Go.RowKit
theorem trodF {H:Type}{enc:TypeId×Value→H}{P:Program}{w:World}{base:Nat}{spare:Nat→Bool}{held:Bool}{fuel:Nat}{t:TypeId}{cs:List Value}{x:DataW H×List MemPlace}{k:FloatKind}(ht:P.underlying t=some (.float k)) (h:DataW.trod enc P w base spare held fuel t cs=some x):∃ n,cs=[.float k n]∧x=(.lit (.float k n),[])∧(Lit.float k n).wf=true:=by
 cases fuel with
 | zero=>simp [DataW.trod] at h
 | succ m =>
   simp only [DataW.trod,ht] at h
   split at h <;> simp_all
structure CameF (w:World) (a:Option Addr) (n c:Nat) (xs:List Nat):Prop where
 len:n=xs.length
 cap:n≤c
 wf:W64 xs
 rd:Fs w.heap.size w a xs
 nil:a=none→c=0
theorem add_noneF (b off i:Nat):(⟨b,off,none⟩:Addr).add i=⟨b,off+i,none⟩:=by unfold Addr.add;split <;> simp_all
def numF {H:Type} (y:DataW H×List MemPlace):Nat:=match y.1 with | .lit (.float _ n)=>n | _=>0
theorem Tryz.cellsF:Tryz.prog.cellsOf 24=1:=by kernel_rfl
theorem Tryz.bytesF:Tryz.prog.bytesOf 24=8:=by kernel_rfl
theorem cameF_of {H:Type}{enc:TypeId×Value→H}{W:World}{a:Option Addr}{n c:Nat}{d:DataW H}{p:List MemPlace}(h:DataW.Trod enc Tryz.prog W 0 (fun _=>true) true 23 (.slice a n c) d p) :
 ∃ xs,CameF W a n c xs∧((d=.nil∧c=0)∨∃ elems spare:List (DataW H),d=.slice elems spare∧elems.length+spare.length=c):=by
 obtain ⟨fuel,hf⟩:=h
 rcases DataW.trod_slice Tryz.underlying23 hf with ⟨hcs,hx⟩|⟨x,l,cp,elems,rest,m,_,hcs,hx,hb,hl,hm,hlen,hel,hsp,hns⟩
 · simp [Value.cells] at hcs
   obtain ⟨rfl,rfl,rfl⟩:=hcs;exact ⟨[],⟨rfl,Nat.le_refl _,(fun x hx=>by cases hx),(fun h=>absurd rfl h),fun _=>rfl⟩,.inl ⟨(Prod.mk.inj hx).1,rfl⟩⟩
 · simp [Value.cells] at hcs
   obtain ⟨rfl,rfl,rfl⟩:=hcs
   have each:∀ i y,i<n→elems[i]?=some y→y=(.lit (.float .f64 (numF y)),[])∧(Lit.float .f64 (numF y)).wf=true∧W.cell? (x.add i)=some (.float .f64 (numF y)):=by
    intro i y hi hy;have hb':=hel i hi;rw [hy,Tryz.cellsF,Nat.mul_one,Option.bind_eq_some_iff] at hb';obtain ⟨cs',hcs,hy'⟩:=hb';obtain ⟨k,rfl,rfl,hw⟩:=trodF Tryz.underlying24 hy';exact ⟨rfl,hw,cell_of_cells?_one hcs⟩
   refine ⟨elems.map numF,⟨by simp [hlen],hl,?_,?_,fun e=>by cases e⟩,.inr ⟨_,_,(Prod.mk.inj hx).1,?_⟩⟩
   · intro y hy
     obtain ⟨z,hz,rfl⟩:=List.mem_map.1 hy;obtain ⟨i,hi⟩:=List.getElem?_of_mem hz;have hil:=(List.getElem?_eq_some_iff.1 hi).1;have:=(each i z (by omega) hi).2.1
     exact of_decide_eq_true this
   · intro hne
     obtain ⟨b,off,spot⟩:=x
     have hn0:0<n:=by
      rcases Nat.eq_zero_or_pos n with h0|h0
      · rw [h0] at hlen;have:=List.eq_nil_of_length_eq_zero hlen;subst this;simp at hne
      · exact h0
     have hc0:=(each 0 (elems[0]'(by omega)) hn0 (List.getElem?_eq_getElem _)).2.2
     have hspot:spot=none:=by simpa [Addr.add] using World.cell?_spot hc0
     subst hspot;refine ⟨b,off,World.block_lt_of_cell? W _ (by simpa [Addr.add] using hc0),rfl,fun i hi=>?_⟩
     rw [List.length_map] at hi;have hadd:=add_noneF b off i;have:=(each i (elems[i]'hi) (by omega) (List.getElem?_eq_getElem _)).2.2
     rw [hadd] at this;rw [this];simp [List.getD_eq_getElem?_getD,hi]
   · have hr:=(hsp rfl).1
     simp only [List.length_map];omega
theorem cameF_reach {H:Type}{ts:List TypeId}{ds:List (DataW H)}(h:(DataW.weightsEach Tryz.prog ts ds).all (·≤reachBytes)=true) {j:Nat}{d:DataW H}{c n:Nat}(ht:ts[j]?=some 23) (hd:ds[j]?=some d) (hn:n≤c)
 (hc:(d=.nil∧c=0)∨∃ elems spare:List (DataW H),d=.slice elems spare∧elems.length+spare.length=c):n≤17592186043904:=by
 rcases hc with ⟨_,rfl⟩|⟨elems,spare,rfl,hl⟩
 · omega
 · have:=sized_slice h ht hd Tryz.underlying23
   rw [Tryz.bytesF,hl] at this;simp only [reachBytes] at this;omega
end
section
open Go.RowKit J
theorem kd_cases {x:Nat}(hx:x<18446744073709551616):(9218868437227405312<magW x∧kd x=5)∨(magW x=9218868437227405312∧negW x=true∧kd x=4)∨(magW x=9218868437227405312∧negW x=false∧kd x=3)∨(magW x<9218868437227405312∧kd x≤2):=by
 have e:magW x=x%9223372036854775808:=rfl;have e2:negW x=decide (9223372036854775808≤x):=rfl;rw [e,e2];unfold kd
 by_cases h1:9218868437227405312<x%9223372036854775808
 · exact .inl ⟨h1,if_pos h1⟩
 · rw [if_neg h1]
   by_cases h2:x%9223372036854775808=9218868437227405312
   · rw [if_pos h2]
     by_cases h3:x/9223372036854775808=1
     · exact .inr (.inl ⟨h2,decide_eq_true (by omega),if_pos h3⟩)
     · exact .inr (.inr (.inl ⟨h2,decide_eq_false (by omega),if_neg h3⟩))
   · rw [if_neg h2]
     refine .inr (.inr (.inr ⟨by omega,?_⟩))
     repeat' split
     all_goals omega
end
section
open Go.RowKit
theorem rgreat7 (b:Bool) (X:Nat) (e:Int) (a:Option Addr) (c:Nat) (w:World) (hA:Arg w a (ws X).length c (ws X)) (hbl:bl X≤262144) (he0:-2000000≤e) (he1:e≤2000000) :
 Calls Tryz.prog 113 #[.agg #[.bool b,.slice a (ws X).length c,.int .i64 e]] w fun r w'=>r=.returned (.bool (decide ((2090:Int)<(bl X:Int)+e)))∧Below w.heap.size w w':=by
 have HL:Hid (∀ u:World,Below w.heap.size w u→Calls Tryz.prog 147 #[.slice a (ws X).length c] u fun r w'=>r=.returned (.int .i64 (bl X:Nat))∧w'=u):=fun u hb=>by
  have hA':=hA.below hb;have h8:=hA'.big;have:=rLen_any (ws X) a (ws X).length c u.heap.size u rfl (by omega) hA'.wf hA'.rd
  rw [val_ws] at this;exact this
 obtain ⟨W,hW⟩:∃ W,W=w.alloc (Obj.cells #[.bool b,.slice a (ws X).length c,.int .i64 e] 41):=⟨_,rfl⟩;have HD:Aside (Dk W w.heap.size b (.slice a (ws X).length c) e∧Below w.heap.size w W):=by rw [hW];exact ⟨Dk.new _ _ _ _,bel_alloc _ _⟩
 have HW:=qsd hW;obtain ⟨B,hB⟩:∃ B:Nat,B=bl X:=⟨_,rfl⟩;rw [←hB] at HL hbl ⊢;have hwr:IntKind.i64.wrap ((B:Int)+e)=(B:Int)+e:=by rw [IntKind.wrap_i64];omega
 clear hA hW hB;go_enter Tryz.func113,Tryz.ntmps113
 go_upto_region 1 with fail
 rw [←HW.out];have kS:Aside (W.drew.cell? ⟨w.heap.size,1,none⟩=some (.slice a (ws X).length c)∧W.drew.cell? ⟨w.heap.size,2,none⟩=some (.int .i64 e)):=⟨HD.out.1.facts.2.1,HD.out.1.facts.2.2.1⟩
 go_region_held3 (fun w'=>w'.cell? ⟨w.heap.size,1,none⟩=some (.slice a (ws X).length c)∧w'.cell? ⟨w.heap.size,2,none⟩=some (.int .i64 e)) (with_reducible exact kS.out) (first
  | (go_at_call 147
     with_reducible refine (HL.out _ HD.out.2.drew).mono ?_
     rintro r u ⟨rfl,rfl⟩))
 all_goals (
  clear kS;go_wp2;refine bodyPost_ret (v:=.bool (decide ((2090:Int)<(B:Int)+e))) (by simp [results,Tryz.results113,go_sem]) rfl ⟨rfl,HD.out.2.drew⟩)
theorem Nt.stay {lo lo':Nat}{w w':World}{v:Value}{X:Nat}(h:Nt lo w v X) (hb:∀ g,lo≤g→w'.heap[g]?=w.heap[g]?) (hl:lo'≤lo):Nt lo' w' v X:=by
 refine ⟨h.1,?_⟩
 rcases h.2 with hn|⟨g,cap,cur,rfl,hlo,hgc,rest⟩
 · exact .inl hn
 · exact .inr ⟨g,cap,cur,rfl,by omega,(hb g hlo).trans hgc,rest⟩
theorem st_bel7 {B:Nat}{a w:World}{g i:Nat}{v:Value}(hg:B≤g) (h:Below B a w):Below B a (w.setCell ⟨g,i,none⟩ v):=h.trans ⟨rfl,rfl,rfl,by simp [World.setCell],fun k hk=>Below.heap_setCell _ _ _ _ (by simp;omega)⟩
theorem rOf7_no (x k:Nat) (w:World) (HK:Hid (∀ u:World,Calls Tryz.prog 115 #[.float .f64 x] u fun r w'=>r=.returned (.int .i64 (k:Nat))∧w'=u)) (hk:((k:Int)==0)=false) :
 Calls Tryz.prog 74 #[.float .f64 x] w fun r w'=>r=.returned (.agg #[.int .i64 (k:Nat),.bool false,.slice none 0 0,.int .i64 0])∧Below w.heap.size w w':=by
 have hne:w.heap.size≠w.heap.size+1:=by omega
 go_enter Tryz.func74,Tryz.ntmps74
 go_wp2_with fail
 refine (HK.out _).mono ?_;rintro r w1 ⟨rfl,rfl⟩;clear HK;go_wp2;exact bodyPost_ret (v:=.agg #[.int .i64 (k:Nat),.bool false,.slice none 0 0,.int .i64 0]) (by simp [results,Tryz.results74,go_sem]) rfl ⟨rfl,by first | exact (bel_alloc _ _).trans ((bel_alloc _ _).mono (by simp)) | exact st_bel7 (by simp) ((bel_alloc _ _).trans ((bel_alloc _ _).mono (by simp)))⟩
end
section
open Go.RowKit J
attribute [local go_sem] st_float
theorem cls_kd {x:Nat}(hx:x<18446744073709551616):(kd x=5∧clW x=4)∨((kd x=3∨kd x=4)∧clW x=3∧ngW x=negW x)∨((kd x=1∨kd x=2)∧clW x=0∧ngW x=negW x∧finW x∧fvW x=0)∨(kd x=0∧(clW x=1∨clW x=2)∧ngW x=negW x∧finW x):=by
 rcases kd_cases hx with ⟨a1,a2⟩|⟨a1,a2,a3⟩|⟨a1,a2,a3⟩|⟨a1,a2⟩
 · exact .inl ⟨a2,cl_nan a1⟩
 · exact .inr (.inl ⟨.inr a3,(cl_inf a1).1,(cl_inf a1).2⟩)
 · exact .inr (.inl ⟨.inl a3,(cl_inf a1).1,(cl_inf a1).2⟩)
 · have fx:finW x:=a1
   obtain ⟨p1,p2,p3,p4⟩:=fin_parts hx fx
   by_cases h0:magW x=0
   · have hk:kd x=1∨kd x=2:=by
      have e:x%9223372036854775808=0:=h0;unfold kd;rw [if_neg (by omega),if_neg (by omega),if_pos e]
      split
      · exact .inl rfl
      · exact .inr rfl
     rw [h0,vK_zero] at p2
     have hfr:frW x=0:=by
      rcases Nat.mul_eq_zero.1 p2.symm with q|q
      · exact q
      · have:=Nat.two_pow_pos (xpW x+1074).toNat;omega
     refine .inr (.inr (.inl ⟨hk,?_,p1,fx,?_⟩))
     · rcases p4 with q | q
       · exact q.1
       · exact absurd hfr q.2
     · unfold fvW
       rw [h0,vK_zero]
       cases negW x <;> rfl
   · have hk:kd x=0:=by
      have e:¬ x%9223372036854775808=0:=h0;have e2:x%9223372036854775808<9218868437227405312:=a1;unfold kd;rw [if_neg (by omega),if_neg (by omega),if_neg e]
     refine .inr (.inr (.inr ⟨hk,?_,p1,fx⟩))
     rcases p4 with q|q
     · exfalso
       rw [q.2,Nat.zero_mul] at p2;have:=(vK_lt (K:=0) (L:=magW x)).2 (by omega)
       omega
     · exact q.1
theorem oZ_zero {x:Nat}(h:finW x) (h0:fvW x=0):oZ x=o00:=by
 rw [oZ_fin h];unfold oW;rw [h0];exact mkS_zero _ _
theorem rOf7y (x:Nat) (w:World) (hx:x<18446744073709551616) (fx:finW x) (hk:kd x=0) :
 Calls Tryz.prog 74 #[.float .f64 x] w fun r w'=>(∃ v,r=.returned (.agg #[.int .i64 0,.bool (dN (oZ x)),v,.int .i64 (dE (oZ x))])∧Nt w.heap.size w' v (dX (oZ x)))∧Below w.heap.size w w':=by
 have HK:=hid (fun u:World=>Kind_any x hx u)
 rw [hk] at HK;have HO:=hid (fun u:World=>rof12 x hx fx u)
 have FX:=qsd (oW_fm x hx fx);rw [oZ_fin fx];obtain ⟨ox,hox⟩:∃ o,o=oW x:=⟨_,rfl⟩;rw [←hox] at HO FX ⊢;have hne:w.heap.size≠w.heap.size+1:=by omega
 obtain ⟨W,hW⟩:∃ W,W=(w.alloc (Obj.cells #[.int .i64 0,.bool false,.slice none 0 0,.int .i64 0] 95)).alloc (Obj.cells #[.int .i64 0,.bool false,.slice none 0 0,.int .i64 0] 95):=⟨_,rfl⟩
 have HD:Aside (Bl W w.heap.size 95 [.int .i64 0,.bool false,.slice none 0 0,.int .i64 0]∧Bl W (w.heap.size+1) 95 [.int .i64 0,.bool false,.slice none 0 0,.int .i64 0]∧Below w.heap.size w W∧W.heap.size=w.heap.size+2):=by
  rw [hW];exact ⟨(Bl.new w 95 [_,_,_,_]).alloc _,Bl.new' (w.alloc _) 95 _ [_,_,_,_] (by simp),(bel_alloc _ _).trans ((bel_alloc _ _).mono (by simp)),by simp⟩
 have HWW:=qsd hW;clear hW hx fx hk hox;go_enter Tryz.func74,Tryz.ntmps74
 go_wp2_with fail
 refine (HK.out _).mono ?_;rintro r w1 ⟨rfl,rfl⟩;clear HK
 go_upto_region 2 with fail
 first | rw [←HWW.out] | skip
 have z0:=HD.out.2.1.cell 0 _ rfl
 go_wp2_with fail
 refine (HO.out W).mono ?_;rintro r u ⟨⟨v1,rfl,hN1⟩,hb1⟩;obtain ⟨a1,c1,rfl,hN0⟩:=Lo.shape FX.out hN1;have D1:=HD.out.1.below hb1 HD.out.1.lt;have D2:=HD.out.2.1.below hb1 HD.out.2.1.lt;obtain ⟨U,hU⟩:∃ U,U=((u.setCell ⟨w.heap.size+1,1,none⟩ (.bool (dN ox))).setCell ⟨w.heap.size+1,2,none⟩ (.slice a1 (ws (dX ox)).length c1)).setCell ⟨w.heap.size+1,3,none⟩ (.int .i64 (dE ox)):=⟨_,rfl⟩;have s0:=D2.cell 0 _ rfl;have s1:=D2.cell 1 _ rfl;have s2:=D2.cell 2 _ rfl;have s3:=D2.cell 3 _ rfl;have g1:=D2.frozen 1;have g2:=D2.frozen 2;have g3:=D2.frozen 3
 have HN:Aside (Bl U w.heap.size 95 [.int .i64 0,.bool false,.slice none 0 0,.int .i64 0]∧Bl U (w.heap.size+1) 95 [.int .i64 0,.bool (dN ox),.slice a1 (ws (dX ox)).length c1,.int .i64 (dE ox)]∧Nt (w.heap.size+2) U (.slice a1 (ws (dX ox)).length c1) (dX ox)∧Below w.heap.size w U):=by
  have hz:=HD.out.2.2.2;rw [hU];refine ⟨Bl.but D1 ((((But.refl _ _).set 1 _).set 2 _).set 3 _) hne,((D2.set 1 _).set 2 _).set 3 _,?_,?_⟩
  · refine (hN1.mono (show w.heap.size+2≤W.heap.size by omega)).stay (fun g hg=>?_) (Nat.le_refl _)
    rw [Below.heap_setCell _ _ _ _ (by simp;omega),Below.heap_setCell _ _ _ _ (by simp;omega),Below.heap_setCell _ _ _ _ (by simp;omega)]
  · have:=HD.out.2.2.1.trans (hb1.mono HD.out.2.2.1.size)
    exact st_bel7 (by omega) (st_bel7 (by omega) (st_bel7 (by omega) this))
 have HU:=qsd hU;clear hU hN1 hN0 hb1 HO D1 D2 HD HWW z0
 go_upto_region 4 with fail
 rw [←HU.out];clear HU s0 s1 s2 s3 g1 g2 g3;have q0:=HN.out.1.cell 0 _ rfl;have q1:=HN.out.1.cell 1 _ rfl;have q2:=HN.out.1.cell 2 _ rfl;have q3:=HN.out.1.cell 3 _ rfl;have f0:=HN.out.1.frozen 0;have f1:=HN.out.1.frozen 1;have f2:=HN.out.1.frozen 2;have f3:=HN.out.1.frozen 3;have s0:=HN.out.2.1.cell 0 _ rfl;have s1:=HN.out.2.1.cell 1 _ rfl;have s2:=HN.out.2.1.cell 2 _ rfl;have s3:=HN.out.2.1.cell 3 _ rfl
 have HF:Aside (Bl ((((U.setCell ⟨w.heap.size,0,none⟩ (.int .i64 0)).setCell ⟨w.heap.size,1,none⟩ (.bool (dN ox))).setCell ⟨w.heap.size,2,none⟩ (.slice a1 (ws (dX ox)).length c1)).setCell ⟨w.heap.size,3,none⟩ (.int .i64 (dE ox))) w.heap.size 95 [.int .i64 0,.bool (dN ox),.slice a1 (ws (dX ox)).length c1,.int .i64 (dE ox)]∧Nt w.heap.size ((((U.setCell ⟨w.heap.size,0,none⟩ (.int .i64 0)).setCell ⟨w.heap.size,1,none⟩ (.bool (dN ox))).setCell ⟨w.heap.size,2,none⟩ (.slice a1 (ws (dX ox)).length c1)).setCell ⟨w.heap.size,3,none⟩ (.int .i64 (dE ox))) (.slice a1 (ws (dX ox)).length c1) (dX ox)∧Below w.heap.size w ((((U.setCell ⟨w.heap.size,0,none⟩ (.int .i64 0)).setCell ⟨w.heap.size,1,none⟩ (.bool (dN ox))).setCell ⟨w.heap.size,2,none⟩ (.slice a1 (ws (dX ox)).length c1)).setCell ⟨w.heap.size,3,none⟩ (.int .i64 (dE ox)))):=by
  refine ⟨(((HN.out.1.set 0 _).set 1 _).set 2 _).set 3 _,?_,?_⟩
  · refine HN.out.2.2.1.stay (fun g hg=>?_) (by omega)
    rw [Below.heap_setCell _ _ _ _ (by simp;omega),Below.heap_setCell _ _ _ _ (by simp;omega),Below.heap_setCell _ _ _ _ (by simp;omega),Below.heap_setCell _ _ _ _ (by simp;omega)]
  · exact st_bel7 (Nat.le_refl _) (st_bel7 (Nat.le_refl _) (st_bel7 (Nat.le_refl _) (st_bel7 (Nat.le_refl _) HN.out.2.2.2)))
 clear HN;go_wp2;have t0:=HF.out.1.cell 0 _ rfl;have t1:=HF.out.1.cell 1 _ rfl;have t2:=HF.out.1.cell 2 _ rfl;have t3:=HF.out.1.cell 3 _ rfl;refine bodyPost_ret (v:=.agg #[.int .i64 0,.bool (dN ox),.slice a1 (ws (dX ox)).length c1,.int .i64 (dE ox)]) (by simp [results,Tryz.results74,go_sem,t0,t1,t2,t3]) rfl ⟨⟨_,rfl,HF.out.2.1⟩,HF.out.2.2⟩
theorem rOf7x (x:Nat) (w:World) (hx:x<18446744073709551616) :
 Calls Tryz.prog 74 #[.float .f64 x] w fun r w'=>(∃ v,r=.returned (.agg #[.int .i64 (kd x:Nat),.bool (dN (oZ x)),v,.int .i64 (dE (oZ x))])∧Nt w.heap.size w' v (dX (oZ x)))∧Below w.heap.size w w':=by
 have no:∀ k:Nat,kd x=k→((k:Int)==0)=false→oZ x=o00→Calls Tryz.prog 74 #[.float .f64 x] w fun r w'=>(∃ v,r=.returned (.agg #[.int .i64 (kd x:Nat),.bool (dN (oZ x)),v,.int .i64 (dE (oZ x))])∧Nt w.heap.size w' v (dX (oZ x)))∧Below w.heap.size w w':=fun k hk h0 ho=>by
  refine (rOf7_no x k w (hid (fun u=>by have:=Kind_any x hx u;rw [hk] at this;exact this)) h0).mono ?_
  rintro r w' ⟨rfl,hb⟩;rw [ho,hk];exact ⟨⟨_,rfl,Nt.nil _ _⟩,hb⟩
 rcases cls_kd hx with ⟨k,c⟩|⟨k,c,_⟩|⟨k,c,n,f,v⟩|⟨k,c,n,f⟩
 · refine no 5 k rfl (oZ_odd ?_)
   intro f
   rcases (fin_parts hx f).2.2.2 with q|q <;> omega
 · have nf:¬ finW x:=by intro f;rcases (fin_parts hx f).2.2.2 with q | q <;> omega
   rcases k with k|k
   · exact no 3 k rfl (oZ_odd nf)
   · exact no 4 k rfl (oZ_odd nf)
 · rcases k with k | k
   · exact no 1 k rfl (oZ_zero f v)
   · exact no 2 k rfl (oZ_zero f v)
 · rw [k]
   exact rOf7y x w hx f k
end
section
open Go.RowKit J
attribute [local go_sem] st_float
def nz7 (j:Nat):Bool:=((j:Int)==1) || ((j:Int)==2)
def en7 (j:Nat):Bool:=((j:Int)==3) || ((j:Int)==4)
def na7 (x y:Nat):Bool:=((kd x:Int)==5) || ((kd y:Int)==5) || ((nz7 (kd x) || nz7 (kd y))&&(en7 (kd x) || en7 (kd y)))
theorem prod7 {x y:Nat}(hx:x<18446744073709551616) (hy:y<18446744073709551616) :
 (na7 x y=true→pK x y=1∧pT x y=0)∧(na7 x y=false→(en7 (kd x) || en7 (kd y))=true→(magW x≤9218868437227405312∧magW y≤9218868437227405312)∧pK x y=(if (negW x != negW y) then 3 else 2)∧pT x y=0) ∧
 (na7 x y=false→(en7 (kd x) || en7 (kd y))=false→(nz7 (kd x) || nz7 (kd y))=true→(magW x≤9218868437227405312∧magW y≤9218868437227405312)∧pK x y=(if (negW x != negW y) then 4 else 5)∧pT x y=0) ∧
 (na7 x y=false→(en7 (kd x) || en7 (kd y))=false→(nz7 (kd x) || nz7 (kd y))=false→finW x∧finW y∧pK x y=0):=by
 have hng:∀ a b:Bool,(!a==b)=(a != b):=by decide
 have inf:∀ z:Nat,clW z=3→magW z≤9218868437227405312:=fun z h=>by
  rcases Nat.lt_or_ge 9218868437227405312 (magW z) with q|q
  · rw [cl_nan q] at h;omega
  · exact q
 have tz:pK x y≠0→pT x y=0:=fun h=>by unfold pT;unfold pK at h;exact pv7_no h
 unfold na7
 rcases cls_kd hx with ⟨k,c⟩|⟨k,c,n⟩|⟨k,c,n,f,v⟩|⟨k,c,n,f⟩
 · have e:pK x y=1:=by
    unfold pK pk;rw [c,if_pos (.inl (by have:=cl_range y;omega))]
   rw [k];refine ⟨fun _=>⟨e,tz (by omega)⟩,(fun h=>by simp at h),(fun h=>by simp at h),(fun h=>by simp at h)⟩
 · rcases cls_kd hy with ⟨k',c'⟩ | ⟨k',c',n'⟩ | ⟨k',c',n',f',v'⟩ | ⟨k',c',n',f'⟩
   · have e:pK x y=1:=by unfold pK pk;rw [c,c',if_pos (.inl (by omega))]
     rw [k'];refine ⟨fun _=>⟨e,tz (by omega)⟩,(fun h=>by simp at h),(fun h=>by simp at h),(fun h=>by simp at h)⟩
   · have e:pK x y=(if (negW x != negW y) then 3 else 2):=by unfold pK pk;rw [c,c',n,n',hng,if_neg (by omega),if_pos (by omega)]
     have e0:pK x y≠0:=by rw [e];split <;> omega
     refine ⟨fun h=>?_,fun _ _=>⟨⟨inf x c,inf y c'⟩,e,tz e0⟩,fun _ h=>?_,fun _ h=>?_⟩
     · exfalso;rcases k with k | k <;> rcases k' with k' | k' <;> rw [k,k'] at h <;> simp [nz7,en7] at h
     · exfalso;rcases k with k | k <;> rw [k] at h <;> simp [en7] at h
     · exfalso;rcases k with k | k <;> rw [k] at h <;> simp [en7] at h
   · have e:pK x y=1:=by unfold pK pk;rw [c,c',if_pos (.inr (by omega))]
     refine ⟨fun _=>⟨e,tz (by omega)⟩,fun h=>?_,fun h=>?_,fun h=>?_⟩
     all_goals exfalso;rcases k with k | k <;> rcases k' with k' | k' <;> rw [k,k'] at h <;> simp [nz7,en7] at h
   · have e:pK x y=(if (negW x != negW y) then 3 else 2):=by unfold pK pk;rw [c,n,n',hng,if_neg (by omega),if_pos (by omega)]
     have e0:pK x y≠0:=by rw [e];split <;> omega
     have hyf:magW y≤9218868437227405312:=Nat.le_of_lt f';refine ⟨fun h=>?_,fun _ _=>⟨⟨inf x c,hyf⟩,e,tz e0⟩,fun _ h=>?_,fun _ h=>?_⟩
     · exfalso;rcases k with k | k <;> rw [k,k'] at h <;> simp [nz7,en7] at h
     · exfalso;rcases k with k | k <;> rw [k] at h <;> simp [en7] at h
     · exfalso;rcases k with k | k <;> rw [k] at h <;> simp [en7] at h
 · have hxf:magW x≤9218868437227405312:=Nat.le_of_lt f
   rcases cls_kd hy with ⟨k',c'⟩|⟨k',c',n'⟩|⟨k',c',n',f',v'⟩|⟨k',c',n',f'⟩
   · have e:pK x y=1:=by unfold pK pk;rw [c,c',if_pos (.inl (by omega))]
     rw [k'];refine ⟨fun _=>⟨e,tz (by omega)⟩,(fun h=>by simp at h),(fun h=>by simp at h),(fun h=>by simp at h)⟩
   · have e:pK x y=1:=by unfold pK pk;rw [c,c',if_pos (.inr (by omega))]
     refine ⟨fun _=>⟨e,tz (by omega)⟩,fun h=>?_,fun h=>?_,fun h=>?_⟩
     all_goals exfalso;rcases k with k | k <;> rcases k' with k' | k' <;> rw [k,k'] at h <;> simp [nz7,en7] at h
   · have e:pK x y=(if (negW x != negW y) then 4 else 5):=by unfold pK pk;rw [c,c',n,n',hng,if_neg (by omega),if_neg (by omega),if_pos (by omega)]
     have e0:pK x y≠0:=by rw [e];split <;> omega
     have hyf:magW y≤9218868437227405312:=Nat.le_of_lt f';refine ⟨fun h=>?_,fun _ h=>?_,fun _ _ _=>⟨⟨hxf,hyf⟩,e,tz e0⟩,fun _ _ h=>?_⟩
     · exfalso;rcases k with k | k <;> rcases k' with k' | k' <;> rw [k,k'] at h <;> simp [nz7,en7] at h
     · exfalso;rcases k with k | k <;> rcases k' with k' | k' <;> rw [k,k'] at h <;> simp [en7] at h
     · exfalso;rcases k with k | k <;> rw [k] at h <;> simp [nz7] at h
   · have e:pK x y=(if (negW x != negW y) then 4 else 5):=by unfold pK pk;rw [c,n,n',hng,if_neg (by omega),if_neg (by omega),if_pos (by omega)]
     have e0:pK x y≠0:=by rw [e];split <;> omega
     have hyf:magW y≤9218868437227405312:=Nat.le_of_lt f';refine ⟨fun h=>?_,fun _ h=>?_,fun _ _ _=>⟨⟨hxf,hyf⟩,e,tz e0⟩,fun _ _ h=>?_⟩
     · exfalso;rcases k with k | k <;> rw [k,k'] at h <;> simp [nz7,en7] at h
     · exfalso;rcases k with k | k <;> rw [k,k'] at h <;> simp [en7] at h
     · exfalso;rcases k with k | k <;> rw [k] at h <;> simp [nz7] at h
 · have hxf:magW x≤9218868437227405312:=Nat.le_of_lt f
   rcases cls_kd hy with ⟨k',c'⟩|⟨k',c',n'⟩|⟨k',c',n',f',v'⟩|⟨k',c',n',f'⟩
   · have e:pK x y=1:=by unfold pK pk;rw [c',if_pos (.inl (by omega))]
     rw [k'];refine ⟨fun _=>⟨e,tz (by omega)⟩,(fun h=>by simp at h),(fun h=>by simp at h),(fun h=>by simp at h)⟩
   · have e:pK x y=(if (negW x != negW y) then 3 else 2):=by unfold pK pk;rw [c',n,n',hng,if_neg (by omega),if_pos (by omega)]
     have e0:pK x y≠0:=by rw [e];split <;> omega
     refine ⟨fun h=>?_,fun _ _=>⟨⟨hxf,inf y c'⟩,e,tz e0⟩,fun _ h=>?_,fun _ h=>?_⟩
     · exfalso;rcases k' with k' | k' <;> rw [k,k'] at h <;> simp [nz7,en7] at h
     · exfalso;rcases k' with k' | k' <;> rw [k'] at h <;> simp [en7] at h
     · exfalso;rcases k' with k' | k' <;> rw [k'] at h <;> simp [en7] at h
   · have e:pK x y=(if (negW x != negW y) then 4 else 5):=by unfold pK pk;rw [c',n,n',hng,if_neg (by omega),if_neg (by omega),if_pos (by omega)]
     have e0:pK x y≠0:=by rw [e];split <;> omega
     have hyf:magW y≤9218868437227405312:=Nat.le_of_lt f';refine ⟨fun h=>?_,fun _ h=>?_,fun _ _ _=>⟨⟨hxf,hyf⟩,e,tz e0⟩,fun _ _ h=>?_⟩
     · exfalso;rcases k' with k' | k' <;> rw [k,k'] at h <;> simp [nz7,en7] at h
     · exfalso;rcases k' with k' | k' <;> rw [k,k'] at h <;> simp [en7] at h
     · exfalso;rcases k' with k' | k' <;> rw [k'] at h <;> simp [nz7] at h
   · have e:pK x y=0:=by unfold pK pk;rw [if_neg (by omega),if_neg (by omega),if_neg (by omega)]
     refine ⟨fun h=>?_,fun _ h=>?_,fun _ _ h=>?_,fun _ _ _=>⟨f,f',e⟩⟩
     all_goals exfalso;rw [k,k'] at h;simp [nz7,en7] at h
end
section
open Go.RowKit J
attribute [local go_sem] st_float
def Lt (w:World) (g:Nat) (k:Nat) (o:Option (Bool×Nat×Int)):Prop:=∃ a c,Bl w g 95 [.int .i64 (k:Nat),.bool (dN o),.slice a (ws (dX o)).length c,.int .i64 (dE o)]∧Nt 0 w (.slice a (ws (dX o)).length c) (dX o)
theorem Lt.below {w w':World}{g k:Nat}{o:Option (Bool×Nat×Int)}(h:Lt w g k o) (hb:Below w.heap.size w w'):Lt w' g k o:=by
 obtain ⟨a,c,h1,h2⟩:=h;exact ⟨a,c,h1.below hb h1.lt,h2.below hb⟩
theorem Lt.new {w:World}{k:Nat}{o:Option (Bool×Nat×Int)}{a:Option Addr}{c:Nat}(hN:Nt 0 w (.slice a (ws (dX o)).length c) (dX o)):Lt (w.alloc (Obj.cells #[.int .i64 (k:Nat),.bool (dN o),.slice a (ws (dX o)).length c,.int .i64 (dE o)] 95)) w.heap.size k o :=
 ⟨a,c,Bl.new w 95 [_,_,_,_],hN.below (below_alloc _ _)⟩
end
section
open Go.RowKit J
attribute [local go_sem] st_float
def laC (o:Option (Bool×Nat×Int)) (a:Option Addr) (c:Nat) (s:Sp):List Value:=[.bool (dN o),.slice a (ws (dX o)).length c,.int .i64 (dE o),.int .i64 s.n,.int .i64 s.u,.int .i64 s.d,.int .i64 s.m,.int .i64 s.p,.int .i64 s.a]
def La (w:World) (g:Nat) (o:Option (Bool×Nat×Int)) (s:Sp):Prop:=∃ a c,Bl w g 63 (laC o a c s)∧Nt 0 w (.slice a (ws (dX o)).length c) (dX o)
theorem La.below {w w':World}{g:Nat}{o:Option (Bool×Nat×Int)}{s:Sp}(h:La w g o s) (hb:Below w.heap.size w w'):La w' g o s:=by
 obtain ⟨a,c,h1,h2⟩:=h;exact ⟨a,c,h1.below hb h1.lt,h2.below hb⟩
theorem La.lt {w:World}{g:Nat}{o:Option (Bool×Nat×Int)}{s:Sp}(h:La w g o s):g<w.heap.size:=by
 obtain ⟨a,c,h1,h2⟩:=h;exact h1.lt
theorem Nt.offA {lo g T:Nat}{w w':World}{v:Value}{X:Nat}{C:List Value}(h:Nt lo w v X) (hB:Bl w g T C) (hT:T≠122) (hb:But g w w'):Nt lo w' v X:=by
 refine h.off hb ?_
 rcases h.2 with ⟨rfl,_⟩|⟨g',cap,cur,rfl,_,hg,_⟩
 · simp [Value.ownBlock]
 · intro e'
   obtain rfl:g'=g:=by simpa [Value.ownBlock] using e'
   rw [show w.heap[g']?=_ from hB] at hg
   simp at hg;exact hT hg.2
theorem ex_great {V:Int}(j:Nat) (hj:j=4238) (hV:V.natAbs<2^j):decide ((2090:Int)<(bl (dX (exV V)):Int)+dE (exV V))=false∧bl (dX (exV V))≤262144∧-2000000≤dE (exV V)∧dE (exV V)≤2000000:=by
 obtain ⟨n,X,e,ho,F,hx⟩:=ex_iv V j (by omega) hV
 rw [ho];have h1:=F.size;have h2:=F.down;have h3:=F.up
 show decide ((2090:Int)<(bl X:Int)+e)=false∧bl X≤262144∧-2000000≤e∧e≤2000000
 refine ⟨decide_eq_false ?_,h1,by omega,by omega⟩
 rcases hx with h|⟨h4,h5⟩
 · rcases F.odd with q | ⟨_,q,_⟩
   · omega
   · have hb:bl 0=0:=by decide
     rcases F.odd with r|⟨r1,r2,r3⟩
     · omega
     · subst h
       rw [hb];omega
 · omega
end
section
open Go.RowKit J
attribute [local go_sem] st_float
theorem Bl.facts9 {w:World}{g T:Nat}{a b c d e f h i j:Value}(H:Bl w g T [a,b,c,d,e,f,h,i,j]):(w.cell? ⟨g,0,none⟩=some a∧w.cell? ⟨g,1,none⟩=some b∧w.cell? ⟨g,2,none⟩=some c)∧(w.cell? ⟨g,3,none⟩=some d∧w.cell? ⟨g,4,none⟩=some e∧w.cell? ⟨g,5,none⟩=some f∧w.cell? ⟨g,6,none⟩=some h∧w.cell? ⟨g,7,none⟩=some i∧w.cell? ⟨g,8,none⟩=some j) :=
 ⟨⟨H.cell 0 _ rfl,H.cell 1 _ rfl,H.cell 2 _ rfl⟩,H.cell 3 _ rfl,H.cell 4 _ rfl,H.cell 5 _ rfl,H.cell 6 _ rfl,H.cell 7 _ rfl,H.cell 8 _ rfl⟩
theorem La.st3T {w:World}{g gq:Nat}{o p:Option (Bool×Nat×Int)}{s:Sp}(h:La w g o s) (hq:Lo w gq p) (hne:g≠gq) (x y z:Value):La (st3 w gq x y z) g o s:=by
 obtain ⟨a,c,h1,h2⟩:=h;obtain ⟨_,_,k1,_⟩:=hq;exact ⟨a,c,Bl.but h1 (st3_but12 gq w x y z) hne,h2.off12 k1 _ _ _⟩
theorem Lt.st3T {w:World}{g gq k:Nat}{o p:Option (Bool×Nat×Int)}(h:Lt w g k o) (hq:Lo w gq p) (hne:g≠gq) (x y z:Value):Lt (st3 w gq x y z) g k o:=by
 obtain ⟨a,c,h1,h2⟩:=h;obtain ⟨_,_,k1,_⟩:=hq;exact ⟨a,c,Bl.but h1 (st3_but12 gq w x y z) hne,h2.off12 k1 _ _ _⟩
theorem addW0 (W:World):Below W.heap.size W (W.alloc (Obj.cells #[.bool false,.slice none 0 0,.int .i64 0] 41)).drew:=(below_alloc W (Obj.cells #[.bool false,.slice none 0 0,.int .i64 0] 41)).trans (((Below.refl (W.alloc (Obj.cells #[.bool false,.slice none 0 0,.int .i64 0] 41)).heap.size (W.alloc (Obj.cells #[.bool false,.slice none 0 0,.int .i64 0] 41))).drew).mono (by simp))
theorem addZ {W w3:World}(hb:Below (W.alloc (Obj.cells #[.bool false,.slice none 0 0,.int .i64 0] 41)).drew.heap.size (W.alloc (Obj.cells #[.bool false,.slice none 0 0,.int .i64 0] 41)).drew w3):Lo w3 W.heap.size o00∧Below W.heap.size W w3:=by
 have h1:Lo (W.alloc (Obj.cells #[.bool false,.slice none 0 0,.int .i64 0] 41)).drew W.heap.size o00:=(Lo.zero W).below (Below.refl _ _).drew;have h2:Below W.heap.size W (W.alloc (Obj.cells #[.bool false,.slice none 0 0,.int .i64 0] 41)).drew:=addW0 W;exact ⟨h1.below hb,h2.trans (hb.mono h2.size)⟩
theorem addW (W:World):Below W.heap.size W (W.alloc (Obj.cells #[.bool false,.slice none 0 0,.int .i64 0] 41)).drew:=addW0 W
set_option maxRecDepth 100000 in
theorem rAdd7 (g:Nat) (V T:Int) (n u d m p a:Int) (k:Nat) (b:Option Addr) (cb:Nat) (w:World) (hA:La w g (exV V) ⟨n,u,d,m,p,a⟩) (hs:(Sp.mk n u d m p a).ok) (hk:k≤5) (ha:a≠1099511627776) (N:Nt 0 w (.slice b (ws (dX (exV T))).length cb) (dX (exV T))) (j:Nat) (hj:j=4238) (hV:V.natAbs<2^j) (hT:T.natAbs<2^j) (hVT:(V+T).natAbs<2^j) :
 Calls Tryz.prog 73 #[.pointer (some ⟨g,0,none⟩),.agg #[.int .i64 (k:Nat),.bool (dN (exV T)),.slice b (ws (dX (exV T))).length cb,.int .i64 (dE (exV T))]] w fun r w'=>r=.returned (.int .i64 0)∧La w' g (exV (V+T)) ((Sp.mk n u d m p a).cnt (kOf k) 1)∧But g w w':=by
 have FV:=ex_fm V j (by omega) hV
 have FT:=ex_fm T j (by omega) hT
 have FS:=ex_fm (V+T) j (by omega) hVT
 have EA:=add_ex j (by omega) hV hT
 obtain ⟨gr1,gr2,gr3,gr4⟩:=ex_great (V:=V+T) j hj hVT;have HC:=hid (fun w':World=>rcounted7 n u d m p a k hk hs w')
 obtain ⟨ov,hov⟩:∃ o,o=exV V:=⟨_,rfl⟩;obtain ⟨ot,hot⟩:∃ o,o=exV T:=⟨_,rfl⟩;obtain ⟨os,hos⟩:∃ o,o=exV (V+T):=⟨_,rfl⟩;rw [←hov] at FV EA hA;rw [←hot] at FT EA N ⊢;rw [←hos] at FS EA gr1 gr2 gr3 gr4 ⊢;obtain ⟨⟨n1,u1,d1,m1,p1,a1⟩,hs1⟩:∃ s,s=(Sp.mk n u d m p a).cnt (kOf k) 1:=⟨_,rfl⟩;rw [←hs1] at HC ⊢;unfold Sp.agg at HC;simp only at HC;have FF:=qsd (ai FV (ai FT (ai FS EA)));have GG:=qsd (ai gr1 (ai gr2 (ai gr3 gr4)));have ha':(a==1099511627776)=false:=by simpa using ha
 have glt:=hA.lt;obtain ⟨W,hW⟩:∃ W,W=w.alloc (Obj.cells #[.int .i64 (k:Nat),.bool (dN ot),.slice b (ws (dX ot)).length cb,.int .i64 (dE ot)] 95):=⟨_,rfl⟩;obtain ⟨g3,hg3⟩:∃ x,x=w.heap.size:=⟨_,rfl⟩
 have K0:Aside (La W g ov ⟨n,u,d,m,p,a⟩∧Lt W g3 k ot∧Below w.heap.size w W∧g<g3):=by
  rw [hW,hg3];exact ⟨hA.below (below_alloc _ _),Lt.new N,below_alloc _ _,glt⟩
 have HW:=qsd hW;have HG:=qsd hg3;clear FV FT FS EA gr1 gr2 gr3 gr4 hov hot hos hs1 hA N ha hV hT hVT hj hW glt hs hg3;go_enter Tryz.func73,Tryz.ntmps73
 go_upto_region 1 with fail
 rw [←HW.out,←HG.out];clear HW;obtain ⟨aV,cV,BV,NV⟩:=K0.out.1;obtain ⟨aT,cT,BT,NT⟩:=K0.out.2.1;unfold laC at BV;obtain ⟨⟨v0,v1,v2⟩,v3,v4,v5,v6,v7,v8⟩:=BV.facts9;obtain ⟨t0,t1,t2,t3⟩:=BT.four;have PB:Hid (∀ U:World,Below W.heap.size W U→Calls Tryz.prog 50 #[.agg #[.bool (dN ov),.slice aV (ws (dX ov)).length cV,.int .i64 (dE ov)],.agg #[.bool (dN ot),.slice aT (ws (dX ot)).length cT,.int .i64 (dE ot)]] U fun r w'=>(∃ v,r=.returned (.tuple #[.agg #[.bool (dN os),v,.int .i64 (dE os)],.int .i64 0])∧Nt U.heap.size w' v (dX os))∧Below U.heap.size U w'):=fun U hU=>radd12 FF.out.1 FF.out.2.1 (NV.below hU) (NT.below hU) FF.out.2.2.2 FF.out.2.2.1
 clear BV NV BT NT
 go_upto_region 3 with fail
 go_cut [5,6] from 13 to 22 (fun q e wx=>∃ gq:Nat,q=.pointer (some ⟨gq,0,none⟩)∧e=.int .i64 0∧Aside (Lo wx gq os∧La wx g ov ⟨n,u,d,m,p,a⟩∧Lt wx g3 k ot∧Below w.heap.size w wx∧g3<gq))
 case first =>
  have hgl:g<W.heap.size:=K0.out.1.lt;have hg3l:g3<W.heap.size:=by obtain ⟨_,_,h,_⟩:=K0.out.2.1;exact h.lt
  go_region_with (go_at_call 50;first
   | (refine (PB.out _ (Below.refl _ W).drew).mono ?_;rintro r w3 ⟨⟨v,rfl,hN⟩,hb3⟩;obtain ⟨a3,c3,rfl,hN0⟩:=Lo.shape FF.out.2.2.1 hN;have HQ:=qsd (ai hN0 ((Below.refl _ W).drew.trans hb3));clear hN hN0 hb3)
   | (refine (PB.out _ (addW W)).mono ?_;rintro r w3 ⟨⟨v,rfl,hN⟩,hb3⟩;obtain ⟨a3,c3,rfl,hN0⟩:=Lo.shape FF.out.2.2.1 hN;have HZ:=qsd (ai hN0 (addZ hb3));obtain ⟨zp,zq,DZ,MZ⟩:=HZ.out.2.1;obtain ⟨z0,z1,z2,zf0,zf1,zf2⟩:=DZ.facts;clear hN hN0 hb3 DZ MZ))
  all_goals
   go_wp2_with fail
   go_meet
   case rel =>
    first
     | exact ⟨w3.heap.size,rfl,rfl,Lo.new HQ.out.1,(K0.out.1.below HQ.out.2).below (below_alloc _ _),(K0.out.2.1.below HQ.out.2).below (below_alloc _ _),(K0.out.2.2.1.trans (HQ.out.2.mono K0.out.2.2.1.size)).trans ((below_alloc _ _).mono (Nat.le_trans K0.out.2.2.1.size HQ.out.2.size)),Nat.lt_of_lt_of_le hg3l HQ.out.2.size⟩
     | exact ⟨W.heap.size,rfl,rfl,HZ.out.2.1.set HZ.out.1,(K0.out.1.below HZ.out.2.2).st3T HZ.out.2.1 (by omega) _ _ _,(K0.out.2.1.below HZ.out.2.2).st3T HZ.out.2.1 (by omega) _ _ _,st3_bel12 (K0.out.2.2.1.trans (HZ.out.2.2.mono K0.out.2.2.1.size)) (Nat.le_trans K0.out.2.2.1.size HZ.out.2.2.size) K0.out.2.2.1.size _ _ _,hg3l⟩
 obtain ⟨gq,rfl,rfl,K1⟩:=hcut;obtain ⟨U,hU⟩:∃ U,U=wc:=⟨_,rfl⟩;rw [←hU] at K1 ⊢;clear hU v0 v1 v2 v3 v4 v5 v6 v7 v8 t0 t1 t2 t3 PB;obtain ⟨q0,r0,D0,M0⟩:=K1.out.1;obtain ⟨x0,x1,x2,xf0,xf1,xf2⟩:=D0.facts
 have HGr:Hid (Calls Tryz.prog 113 #[.agg #[.bool (dN os),.slice q0 (ws (dX os)).length r0,.int .i64 (dE os)]] U fun r w'=>r=.returned (.bool false)∧Below U.heap.size U w'):=by
  have:=rgreat7 (dN os) (dX os) (dE os) q0 r0 U (FF.out.2.2.1.a12 M0) GG.out.2.1 GG.out.2.2.1 GG.out.2.2.2;rw [GG.out.1] at this;exact this
 clear D0 M0
 go_wp2_with fail
 refine HGr.out.mono ?_;rintro r u2 ⟨rfl,hb⟩;have l0:=K1.out.1.below hb;have l1:=K1.out.2.1.below hb;have l2:=K1.out.2.2.1.below hb;have b2:=K1.out.2.2.2.1.trans (hb.mono K1.out.2.2.2.1.size);have hg3:=K1.out.2.2.2.2;obtain ⟨q0,r0,D0,M0⟩:=l0;obtain ⟨y0,y1,y2,yf0,yf1,yf2⟩:=D0.facts;obtain ⟨aV,cV,BV,NV⟩:=l1;unfold laC at BV;obtain ⟨⟨v0,v1,v2⟩,v3,v4,v5,v6,v7,v8⟩:=BV.facts9;have vf0:=BV.frozen 0;have vf1:=BV.frozen 1;have vf2:=BV.frozen 2;obtain ⟨U2,hU2⟩:∃ U2,U2=st3 u2 g (.bool (dN os)) (.slice q0 (ws (dX os)).length r0) (.int .i64 (dE os)):=⟨_,rfl⟩
 have K2:Aside (Bl U2 g 63 (laC os q0 r0 ⟨n,u,d,m,p,a⟩)∧Nt 0 U2 (.slice q0 (ws (dX os)).length r0) (dX os)∧Lt U2 g3 k ot∧But g w U2∧g<g3∧w.heap.size≤U2.heap.size):=by
  rw [hU2];refine ⟨((BV.set 0 _).set 1 _).set 2 _,M0.offA BV (by decide) (st3_but12 _ _ _ _ _),?_,((But.refl g w).of_bel b2).trans (st3_but12 _ _ _ _ _),K0.out.2.2.2,Nat.le_trans b2.size (by simp [st3,World.setCell])⟩
  obtain ⟨aT,cT,BT,NT⟩:=l2;exact ⟨aT,cT,Bl.but BT (st3_but12 _ _ _ _ _) (by have:=K0.out.2.2.2;omega),NT.offA BV (by decide) (st3_but12 _ _ _ _ _)⟩
 unfold st3 at hU2;have HU:=qsd hU2;clear D0 M0 BV NV l2 b2 hb hU2 HGr x0 x1 x2 xf0 xf1 xf2 K1
 go_upto_region 7 with fail
 rw [←HU.out];clear HU v0 v1 v2 v3 v4 v5 v6 v7 v8 vf0 vf1 vf2 y0 y1 y2 yf0 yf1 yf2;obtain ⟨v3,v4,v5,v6,v7,v8⟩:=(show Bl U2 g 63 [_,_,_,_,_,_,_,_,_] from K2.out.1).facts9.2
 obtain ⟨aT,cT,BT,NT⟩:=K2.out.2.2.1;have t0:=BT.cell 0 _ rfl;have HB:Hid (Bl U2 g 63 [.bool (dN os),.slice q0 (ws (dX os)).length r0,.int .i64 (dE os),.int .i64 n,.int .i64 u,.int .i64 d,.int .i64 m,.int .i64 p,.int .i64 a]):=K2.out.1;have hlt:g<U2.heap.size:=HB.out.lt;clear BT NT
 go_region_with (go_at_call 114;refine (HC.out _).mono ?_;rintro r w3 ⟨rfl,hb3⟩;have HQ:=qsd (Bl.below (w:=U2.drew) HB.out hb3 hlt);have q3:=HQ.out.cell 3 _ rfl;have q4:=HQ.out.cell 4 _ rfl;have q5:=HQ.out.cell 5 _ rfl;have q6:=HQ.out.cell 6 _ rfl;have q7:=HQ.out.cell 7 _ rfl;have q8:=HQ.out.cell 8 _ rfl;have f3:=HQ.out.frozen 3;have f4:=HQ.out.frozen 4;have f5:=HQ.out.frozen 5;have f6:=HQ.out.frozen 6;have f7:=HQ.out.frozen 7;have f8:=HQ.out.frozen 8;have HB3:=qsd hb3;clear hb3)
 all_goals
  go_wp2;go_ret;have hbd:Below U2.heap.size U2 w3:=(Below.refl _ U2).drew.trans HB3.out;refine ⟨rfl,⟨q0,r0,((((((HQ.out.set 3 _).set 4 _).set 5 _).set 6 _).set 7 _).set 8 _),?_⟩,?_⟩
  · exact (K2.out.2.1.below hbd).offA HQ.out (by decide) ((((((But.refl g w3).set 3 _).set 4 _).set 5 _).set 6 _).set 7 _ |>.set 8 _)
  · exact K2.out.2.2.2.1.trans (((But.refl g U2).of_bel hbd).trans ((((((But.refl g w3).set 3 _).set 4 _).set 5 _).set 6 _).set 7 _ |>.set 8 _))
end
section
open Go.RowKit
open Go.Proofs.YtjldfhecnaiinaaGreatDoor.B (f64bits f64frombits bw bcell)
attribute [local go_sem] f64bits f64frombits
theorem MayBe_any (n u d m p a:Int) (w:World):Calls Tryz.prog 75 #[.agg #[.int .i64 n,.int .i64 u,.int .i64 d,.int .i64 m,.int .i64 p,.int .i64 a]] w fun r w'=>r=.returned (.bool (snd n u d m p a))∧Below w.heap.size w w':=by
 have below:∀ o,Below w.heap.size w (w.alloc o):=fun o=>(Below.refl _ _).alloc (Nat.le_refl _) _
 unfold snd;have Hn:=hid (within_any n);have Hu:=hid (within_any u);have Hd:=hid (within_any d);have Hm:=hid (within_any m);have Hp:=hid (within_any p);have Ha:=hid (within_any a);have h1:(ct n=false)∨(ct n=true∧ct u=false)∨(ct n=true∧ct u=true∧ct d=false)∨(ct n=true∧ct u=true∧ct d=true):=by cases ct n <;> cases ct u <;> cases ct d <;> simp
 have h2:(ct m=false)∨(ct m=true∧ct p=false)∨(ct m=true∧ct p=true∧ct a=false)∨(ct m=true∧ct p=true∧ct a=true):=by cases ct m <;> cases ct p <;> cases ct a <;> simp
 rcases h1 with e1|⟨e1,e2⟩|⟨e1,e2,e3⟩|⟨e1,e2,e3⟩ <;> rcases h2 with g1|⟨g1,g2⟩|⟨g1,g2,g3⟩|⟨g1,g2,g3⟩
 · rw [e1,g1]
   rw [e1] at Hn;rw [g1] at Hm;clear e1 g1;go_enter Tryz.func75,Tryz.ntmps75
   go_wp2_with fail
   refine (Hn.out _).mono ?_;rintro r w1 ⟨rfl,rfl⟩
   go_wp2_with fail
   refine (Hm.out _).mono ?_;rintro r w1 ⟨rfl,rfl⟩;go_wp2;go_ret;exact ⟨by first | rfl | simp,below _⟩
 · rw [e1,g1,g2]
   rw [e1] at Hn;rw [g1] at Hm;rw [g2] at Hp;clear e1 g1 g2;go_enter Tryz.func75,Tryz.ntmps75
   go_wp2_with fail
   refine (Hn.out _).mono ?_;rintro r w1 ⟨rfl,rfl⟩
   go_wp2_with fail
   refine (Hm.out _).mono ?_;rintro r w1 ⟨rfl,rfl⟩
   go_wp2_with fail
   refine (Hp.out _).mono ?_;rintro r w1 ⟨rfl,rfl⟩;go_wp2;go_ret;exact ⟨by first | rfl | simp,below _⟩
 · rw [e1,g1,g2,g3]
   rw [e1] at Hn;rw [g1] at Hm;rw [g2] at Hp;rw [g3] at Ha;clear e1 g1 g2 g3;go_enter Tryz.func75,Tryz.ntmps75
   go_wp2_with fail
   refine (Hn.out _).mono ?_;rintro r w1 ⟨rfl,rfl⟩
   go_wp2_with fail
   refine (Hm.out _).mono ?_;rintro r w1 ⟨rfl,rfl⟩
   go_wp2_with fail
   refine (Hp.out _).mono ?_;rintro r w1 ⟨rfl,rfl⟩
   go_wp2_with fail
   refine (Ha.out _).mono ?_;rintro r w1 ⟨rfl,rfl⟩;go_wp2;go_ret;exact ⟨by first | rfl | simp,below _⟩
 · rw [e1,g1,g2,g3]
   rw [e1] at Hn;rw [g1] at Hm;rw [g2] at Hp;rw [g3] at Ha;clear e1 g1 g2 g3;go_enter Tryz.func75,Tryz.ntmps75
   go_wp2_with fail
   refine (Hn.out _).mono ?_;rintro r w1 ⟨rfl,rfl⟩
   go_wp2_with fail
   refine (Hm.out _).mono ?_;rintro r w1 ⟨rfl,rfl⟩
   go_wp2_with fail
   refine (Hp.out _).mono ?_;rintro r w1 ⟨rfl,rfl⟩
   go_wp2_with fail
   refine (Ha.out _).mono ?_;rintro r w1 ⟨rfl,rfl⟩;go_wp2;go_ret;exact ⟨by first | rfl | simp,below _⟩
 · rw [e1,e2,g1]
   rw [e1] at Hn;rw [e2] at Hu;rw [g1] at Hm;clear e1 e2 g1;go_enter Tryz.func75,Tryz.ntmps75
   go_wp2_with fail
   refine (Hn.out _).mono ?_;rintro r w1 ⟨rfl,rfl⟩
   go_wp2_with fail
   refine (Hu.out _).mono ?_;rintro r w1 ⟨rfl,rfl⟩
   go_wp2_with fail
   refine (Hm.out _).mono ?_;rintro r w1 ⟨rfl,rfl⟩;go_wp2;go_ret;exact ⟨by first | rfl | simp,below _⟩
 · rw [e1,e2,g1,g2]
   rw [e1] at Hn;rw [e2] at Hu;rw [g1] at Hm;rw [g2] at Hp;clear e1 e2 g1 g2;go_enter Tryz.func75,Tryz.ntmps75
   go_wp2_with fail
   refine (Hn.out _).mono ?_;rintro r w1 ⟨rfl,rfl⟩
   go_wp2_with fail
   refine (Hu.out _).mono ?_;rintro r w1 ⟨rfl,rfl⟩
   go_wp2_with fail
   refine (Hm.out _).mono ?_;rintro r w1 ⟨rfl,rfl⟩
   go_wp2_with fail
   refine (Hp.out _).mono ?_;rintro r w1 ⟨rfl,rfl⟩;go_wp2;go_ret;exact ⟨by first | rfl | simp,below _⟩
 · rw [e1,e2,g1,g2,g3]
   rw [e1] at Hn;rw [e2] at Hu;rw [g1] at Hm;rw [g2] at Hp;rw [g3] at Ha;clear e1 e2 g1 g2 g3;go_enter Tryz.func75,Tryz.ntmps75
   go_wp2_with fail
   refine (Hn.out _).mono ?_;rintro r w1 ⟨rfl,rfl⟩
   go_wp2_with fail
   refine (Hu.out _).mono ?_;rintro r w1 ⟨rfl,rfl⟩
   go_wp2_with fail
   refine (Hm.out _).mono ?_;rintro r w1 ⟨rfl,rfl⟩
   go_wp2_with fail
   refine (Hp.out _).mono ?_;rintro r w1 ⟨rfl,rfl⟩
   go_wp2_with fail
   refine (Ha.out _).mono ?_;rintro r w1 ⟨rfl,rfl⟩;go_wp2;go_ret;exact ⟨by first | rfl | simp,below _⟩
 · rw [e1,e2,g1,g2,g3]
   rw [e1] at Hn;rw [e2] at Hu;rw [g1] at Hm;rw [g2] at Hp;rw [g3] at Ha;clear e1 e2 g1 g2 g3;go_enter Tryz.func75,Tryz.ntmps75
   go_wp2_with fail
   refine (Hn.out _).mono ?_;rintro r w1 ⟨rfl,rfl⟩
   go_wp2_with fail
   refine (Hu.out _).mono ?_;rintro r w1 ⟨rfl,rfl⟩
   go_wp2_with fail
   refine (Hm.out _).mono ?_;rintro r w1 ⟨rfl,rfl⟩
   go_wp2_with fail
   refine (Hp.out _).mono ?_;rintro r w1 ⟨rfl,rfl⟩
   go_wp2_with fail
   refine (Ha.out _).mono ?_;rintro r w1 ⟨rfl,rfl⟩;go_wp2;go_ret;exact ⟨by first | rfl | simp,below _⟩
 · rw [e1,e2,e3,g1]
   rw [e1] at Hn;rw [e2] at Hu;rw [e3] at Hd;rw [g1] at Hm;clear e1 e2 e3 g1;go_enter Tryz.func75,Tryz.ntmps75
   go_wp2_with fail
   refine (Hn.out _).mono ?_;rintro r w1 ⟨rfl,rfl⟩
   go_wp2_with fail
   refine (Hu.out _).mono ?_;rintro r w1 ⟨rfl,rfl⟩
   go_wp2_with fail
   refine (Hd.out _).mono ?_;rintro r w1 ⟨rfl,rfl⟩
   go_wp2_with fail
   refine (Hm.out _).mono ?_;rintro r w1 ⟨rfl,rfl⟩;go_wp2;go_ret;exact ⟨by first | rfl | simp,below _⟩
 · rw [e1,e2,e3,g1,g2]
   rw [e1] at Hn;rw [e2] at Hu;rw [e3] at Hd;rw [g1] at Hm;rw [g2] at Hp;clear e1 e2 e3 g1 g2;go_enter Tryz.func75,Tryz.ntmps75
   go_wp2_with fail
   refine (Hn.out _).mono ?_;rintro r w1 ⟨rfl,rfl⟩
   go_wp2_with fail
   refine (Hu.out _).mono ?_;rintro r w1 ⟨rfl,rfl⟩
   go_wp2_with fail
   refine (Hd.out _).mono ?_;rintro r w1 ⟨rfl,rfl⟩
   go_wp2_with fail
   refine (Hm.out _).mono ?_;rintro r w1 ⟨rfl,rfl⟩
   go_wp2_with fail
   refine (Hp.out _).mono ?_;rintro r w1 ⟨rfl,rfl⟩;go_wp2;go_ret;exact ⟨by first | rfl | simp,below _⟩
 · rw [e1,e2,e3,g1,g2,g3]
   rw [e1] at Hn;rw [e2] at Hu;rw [e3] at Hd;rw [g1] at Hm;rw [g2] at Hp;rw [g3] at Ha;clear e1 e2 e3 g1 g2 g3;go_enter Tryz.func75,Tryz.ntmps75
   go_wp2_with fail
   refine (Hn.out _).mono ?_;rintro r w1 ⟨rfl,rfl⟩
   go_wp2_with fail
   refine (Hu.out _).mono ?_;rintro r w1 ⟨rfl,rfl⟩
   go_wp2_with fail
   refine (Hd.out _).mono ?_;rintro r w1 ⟨rfl,rfl⟩
   go_wp2_with fail
   refine (Hm.out _).mono ?_;rintro r w1 ⟨rfl,rfl⟩
   go_wp2_with fail
   refine (Hp.out _).mono ?_;rintro r w1 ⟨rfl,rfl⟩
   go_wp2_with fail
   refine (Ha.out _).mono ?_;rintro r w1 ⟨rfl,rfl⟩;go_wp2;go_ret;exact ⟨by first | rfl | simp,below _⟩
 · rw [e1,e2,e3,g1,g2,g3]
   rw [e1] at Hn;rw [e2] at Hu;rw [e3] at Hd;rw [g1] at Hm;rw [g2] at Hp;rw [g3] at Ha;clear e1 e2 e3 g1 g2 g3;go_enter Tryz.func75,Tryz.ntmps75
   go_wp2_with fail
   refine (Hn.out _).mono ?_;rintro r w1 ⟨rfl,rfl⟩
   go_wp2_with fail
   refine (Hu.out _).mono ?_;rintro r w1 ⟨rfl,rfl⟩
   go_wp2_with fail
   refine (Hd.out _).mono ?_;rintro r w1 ⟨rfl,rfl⟩
   go_wp2_with fail
   refine (Hm.out _).mono ?_;rintro r w1 ⟨rfl,rfl⟩
   go_wp2_with fail
   refine (Hp.out _).mono ?_;rintro r w1 ⟨rfl,rfl⟩
   go_wp2_with fail
   refine (Ha.out _).mono ?_;rintro r w1 ⟨rfl,rfl⟩;go_wp2;go_ret;exact ⟨by first | rfl | simp,below _⟩
 · rw [e1,e2,e3,g1]
   rw [e1] at Hn;rw [e2] at Hu;rw [e3] at Hd;rw [g1] at Hm;clear e1 e2 e3 g1;go_enter Tryz.func75,Tryz.ntmps75
   go_wp2_with fail
   refine (Hn.out _).mono ?_;rintro r w1 ⟨rfl,rfl⟩
   go_wp2_with fail
   refine (Hu.out _).mono ?_;rintro r w1 ⟨rfl,rfl⟩
   go_wp2_with fail
   refine (Hd.out _).mono ?_;rintro r w1 ⟨rfl,rfl⟩
   go_wp2_with fail
   refine (Hm.out _).mono ?_;rintro r w1 ⟨rfl,rfl⟩;go_wp2;go_ret;exact ⟨by first | rfl | simp,below _⟩
 · rw [e1,e2,e3,g1,g2]
   rw [e1] at Hn;rw [e2] at Hu;rw [e3] at Hd;rw [g1] at Hm;rw [g2] at Hp;clear e1 e2 e3 g1 g2;go_enter Tryz.func75,Tryz.ntmps75
   go_wp2_with fail
   refine (Hn.out _).mono ?_;rintro r w1 ⟨rfl,rfl⟩
   go_wp2_with fail
   refine (Hu.out _).mono ?_;rintro r w1 ⟨rfl,rfl⟩
   go_wp2_with fail
   refine (Hd.out _).mono ?_;rintro r w1 ⟨rfl,rfl⟩
   go_wp2_with fail
   refine (Hm.out _).mono ?_;rintro r w1 ⟨rfl,rfl⟩
   go_wp2_with fail
   refine (Hp.out _).mono ?_;rintro r w1 ⟨rfl,rfl⟩;go_wp2;go_ret;exact ⟨by first | rfl | simp,below _⟩
 · rw [e1,e2,e3,g1,g2,g3]
   rw [e1] at Hn;rw [e2] at Hu;rw [e3] at Hd;rw [g1] at Hm;rw [g2] at Hp;rw [g3] at Ha;clear e1 e2 e3 g1 g2 g3;go_enter Tryz.func75,Tryz.ntmps75
   go_wp2_with fail
   refine (Hn.out _).mono ?_;rintro r w1 ⟨rfl,rfl⟩
   go_wp2_with fail
   refine (Hu.out _).mono ?_;rintro r w1 ⟨rfl,rfl⟩
   go_wp2_with fail
   refine (Hd.out _).mono ?_;rintro r w1 ⟨rfl,rfl⟩
   go_wp2_with fail
   refine (Hm.out _).mono ?_;rintro r w1 ⟨rfl,rfl⟩
   go_wp2_with fail
   refine (Hp.out _).mono ?_;rintro r w1 ⟨rfl,rfl⟩
   go_wp2_with fail
   refine (Ha.out _).mono ?_;rintro r w1 ⟨rfl,rfl⟩;go_wp2;go_ret;exact ⟨by first | rfl | simp,below _⟩
 · rw [e1,e2,e3,g1,g2,g3]
   rw [e1] at Hn;rw [e2] at Hu;rw [e3] at Hd;rw [g1] at Hm;rw [g2] at Hp;rw [g3] at Ha;have kn:=ct_true e1;have ku:=ct_true e2;have kd:=ct_true e3;have km:=ct_true g1;have kp:=ct_true g2;have ka:=ct_true g3;clear e1 e2 e3 g1 g2 g3;go_enter Tryz.func75,Tryz.ntmps75
   go_wp2_with fail
   refine (Hn.out _).mono ?_;rintro r w1 ⟨rfl,rfl⟩
   go_wp2_with fail
   refine (Hu.out _).mono ?_;rintro r w1 ⟨rfl,rfl⟩
   go_wp2_with fail
   refine (Hd.out _).mono ?_;rintro r w1 ⟨rfl,rfl⟩
   go_wp2_with fail
   refine (Hm.out _).mono ?_;rintro r w1 ⟨rfl,rfl⟩
   go_wp2_with fail
   refine (Hp.out _).mono ?_;rintro r w1 ⟨rfl,rfl⟩
   go_wp2_with fail
   refine (Ha.out _).mono ?_;rintro r w1 ⟨rfl,rfl⟩;go_wp2;go_ret;exact ⟨by first | rfl | simp,below _⟩
end
section
open Go.RowKit
open Go.Proofs.YtjldfhecnaiinaaGreatDoor.B (f64bits f64frombits bw bcell)
attribute [local go_sem] f64bits f64frombits
theorem rVerdict_any (n u d m p l a b:Int) (w:World):Calls Tryz.prog 38 #[.agg #[.int .i64 n,.int .i64 u,.int .i64 d,.int .i64 m,.int .i64 p,.int .i64 l],.agg #[.int .i64 a,.int .i64 b]] w fun r w'=>r=.returned (.tuple #[.float .f64 (vd (snd n u d m p l&&may a b) n u d a b).1,.bool (vd (snd n u d m p l&&may a b) n u d a b).2])∧Below w.heap.size w w':=by
 have HS:=hid (MayBe_any n u d m p l);have HM:=hid (rMay_any a b);have HN:=hid (TheNaN_any);have HU:=hid (rInf_any false);have HD:=hid (rInf_any true)
 rcases hs:snd n u d m p l with _|_
 · rw [hs] at HS
   rw [Bool.false_and];have hv:vd false n u d a b=(0,false):=by unfold vd;rw [if_pos rfl]
   rw [hv];obtain ⟨mb,hmb⟩:∃ mb,may a b=mb:=⟨_,rfl⟩;rw [hmb] at HM;clear hs hv hmb;go_enter Tryz.func38,Tryz.ntmps38
   go_wp2_with fail
   refine (HS.out _).mono ?_;rintro r w1 ⟨rfl,hb1⟩;have hz1:=hb1.size;simp at hz1;obtain ⟨hc1,hf1⟩:=bcell hb1;have B1:=qsd hb1;clear hb1
   go_wp2_with fail
   refine (HM.out _).mono ?_;rintro r w2 ⟨rfl,hb2⟩;have hz2:=hb2.size;obtain ⟨hc2,hf2⟩:=bcell hb2;have hc3:∀ b o,b<w.heap.size+1+1→w2.cell? ⟨b,o,none⟩=w1.cell? ⟨b,o,none⟩:=fun b o h=>hc2 b o (by omega)
   have B2:=qsd hb2;clear hb2 hc2 hf2;go_wp2
   go_ret2
   exact ⟨by first | rfl | simp,((((Below.refl _ w).alloc (Nat.le_refl _) _).alloc (by simp) _).trans (B1.out.mono (by simp;omega))).trans (B2.out.mono (by omega))⟩
 rcases hm:may a b with _|_
 · rw [hs] at HS
   rw [hm] at HM;have hv:vd (true&&false) n u d a b=(0,false):=if_pos rfl;rw [hv];clear hs hm hv;go_enter Tryz.func38,Tryz.ntmps38
   go_wp2_with fail
   refine (HS.out _).mono ?_;rintro r w1 ⟨rfl,hb1⟩;have hz1:=hb1.size;simp at hz1;obtain ⟨hc1,hf1⟩:=bcell hb1;have B1:=qsd hb1;clear hb1
   go_wp2_with fail
   refine (HM.out _).mono ?_;rintro r w2 ⟨rfl,hb2⟩;have hz2:=hb2.size;obtain ⟨hc2,hf2⟩:=bcell hb2;have hc3:∀ b o,b<w.heap.size+1+1→w2.cell? ⟨b,o,none⟩=w1.cell? ⟨b,o,none⟩:=fun b o h=>hc2 b o (by omega)
   have B2:=qsd hb2;clear hb2 hc2 hf2;go_wp2
   go_ret2
   exact ⟨by first | rfl | simp,((((Below.refl _ w).alloc (Nat.le_refl _) _).alloc (by simp) _).trans (B1.out.mono (by simp;omega))).trans (B2.out.mono (by omega))⟩
 rw [hs] at HS;rw [hm] at HM;rw [Bool.true_and];clear hs hm
 have way1:0<n→a=0→Calls Tryz.prog 38 #[.agg #[.int .i64 n,.int .i64 u,.int .i64 d,.int .i64 m,.int .i64 p,.int .i64 l],.agg #[.int .i64 a,.int .i64 b]] w fun r w'=>r=.returned (.tuple #[.float .f64 (vd true n u d a b).1,.bool (vd true n u d a b).2])∧Below w.heap.size w w':=by
  intro p1 p2;have hv:vd true n u d a b=(9221120237041090560,true):=by unfold vd;rw [if_neg (by decide),if_pos ⟨p1,p2⟩]
  rw [hv];clear hv;have q1:0<n:=p1;have q2:a=0:=p2;subst q2;go_enter Tryz.func38,Tryz.ntmps38
  go_wp2_with fail
  refine (HS.out _).mono ?_;rintro r w1 ⟨rfl,hb1⟩;have hz1:=hb1.size;simp at hz1;obtain ⟨hc1,hf1⟩:=bcell hb1;have B1:=qsd hb1;clear hb1
  go_wp2_with fail
  refine (HM.out _).mono ?_;rintro r w2 ⟨rfl,hb2⟩;have hz2:=hb2.size;obtain ⟨hc2,hf2⟩:=bcell hb2;have hc3:∀ b o,b<w.heap.size+1+1→w2.cell? ⟨b,o,none⟩=w1.cell? ⟨b,o,none⟩:=fun b o h=>hc2 b o (by omega)
  have B2:=qsd hb2;clear hb2 hc2 hf2
  go_wp2_with fail
  refine (HN.out _).mono ?_;rintro r w3 ⟨rfl,rfl⟩;go_wp2
  go_ret2
  exact ⟨by first | rfl | simp,((((Below.refl _ w).alloc (Nat.le_refl _) _).alloc (by simp) _).trans (B1.out.mono (by simp;omega))).trans (B2.out.mono (by omega))⟩
 have way2:0<n→¬ (a=0)→¬ (b=0)→Calls Tryz.prog 38 #[.agg #[.int .i64 n,.int .i64 u,.int .i64 d,.int .i64 m,.int .i64 p,.int .i64 l],.agg #[.int .i64 a,.int .i64 b]] w fun r w'=>r=.returned (.tuple #[.float .f64 (vd true n u d a b).1,.bool (vd true n u d a b).2])∧Below w.heap.size w w':=by
  intro p1 p2 p3;have hv:vd true n u d a b=(0,false):=by unfold vd;rw [if_neg (by decide),if_neg (fun h=>p2 h.2),if_pos p3]
  rw [hv];clear hv;have q1:0<n:=p1;have q2:(a==0)=false:=by rw [beq_eq_false_iff_ne];exact p2
  have q3:(b==0)=false:=by rw [beq_eq_false_iff_ne];exact p3
  go_enter Tryz.func38,Tryz.ntmps38
  go_wp2_with fail
  refine (HS.out _).mono ?_;rintro r w1 ⟨rfl,hb1⟩;have hz1:=hb1.size;simp at hz1;obtain ⟨hc1,hf1⟩:=bcell hb1;have B1:=qsd hb1;clear hb1
  go_wp2_with fail
  refine (HM.out _).mono ?_;rintro r w2 ⟨rfl,hb2⟩;have hz2:=hb2.size;obtain ⟨hc2,hf2⟩:=bcell hb2;have hc3:∀ b o,b<w.heap.size+1+1→w2.cell? ⟨b,o,none⟩=w1.cell? ⟨b,o,none⟩:=fun b o h=>hc2 b o (by omega)
  have B2:=qsd hb2;clear hb2 hc2 hf2;go_wp2
  go_ret2
  exact ⟨by first | rfl | simp,((((Below.refl _ w).alloc (Nat.le_refl _) _).alloc (by simp) _).trans (B1.out.mono (by simp;omega))).trans (B2.out.mono (by omega))⟩
 have way3:0<n→¬ (a=0)→b=0→0<u→0<d→Calls Tryz.prog 38 #[.agg #[.int .i64 n,.int .i64 u,.int .i64 d,.int .i64 m,.int .i64 p,.int .i64 l],.agg #[.int .i64 a,.int .i64 b]] w fun r w'=>r=.returned (.tuple #[.float .f64 (vd true n u d a b).1,.bool (vd true n u d a b).2])∧Below w.heap.size w w':=by
  intro p1 p2 p3 p4 p5;have hv:vd true n u d a b=(9221120237041090560,true):=by unfold vd;rw [if_neg (by decide),if_neg (fun h=>p2 h.2),if_neg (not_not_intro p3),if_pos ⟨p4,p5⟩]
  rw [hv];clear hv;have q1:0<n:=p1;have q2:(a==0)=false:=by rw [beq_eq_false_iff_ne];exact p2
  have q3:b=0:=p3;have q4:0<u:=p4;have q5:0<d:=p5;subst q3;go_enter Tryz.func38,Tryz.ntmps38
  go_wp2_with fail
  refine (HS.out _).mono ?_;rintro r w1 ⟨rfl,hb1⟩;have hz1:=hb1.size;simp at hz1;obtain ⟨hc1,hf1⟩:=bcell hb1;have B1:=qsd hb1;clear hb1
  go_wp2_with fail
  refine (HM.out _).mono ?_;rintro r w2 ⟨rfl,hb2⟩;have hz2:=hb2.size;obtain ⟨hc2,hf2⟩:=bcell hb2;have hc3:∀ b o,b<w.heap.size+1+1→w2.cell? ⟨b,o,none⟩=w1.cell? ⟨b,o,none⟩:=fun b o h=>hc2 b o (by omega)
  have B2:=qsd hb2;clear hb2 hc2 hf2
  go_wp2_with fail
  refine (HN.out _).mono ?_;rintro r w3 ⟨rfl,rfl⟩;go_wp2
  go_ret2
  exact ⟨by first | rfl | simp,((((Below.refl _ w).alloc (Nat.le_refl _) _).alloc (by simp) _).trans (B1.out.mono (by simp;omega))).trans (B2.out.mono (by omega))⟩
 have way4:0<n→¬ (a=0)→b=0→0<u→¬ (0<d)→Calls Tryz.prog 38 #[.agg #[.int .i64 n,.int .i64 u,.int .i64 d,.int .i64 m,.int .i64 p,.int .i64 l],.agg #[.int .i64 a,.int .i64 b]] w fun r w'=>r=.returned (.tuple #[.float .f64 (vd true n u d a b).1,.bool (vd true n u d a b).2])∧Below w.heap.size w w':=by
  intro p1 p2 p3 p4 p5;have hv:vd true n u d a b=(9218868437227405312,true):=by unfold vd;rw [if_neg (by decide),if_neg (fun h=>p2 h.2),if_neg (not_not_intro p3),if_neg (fun h=>p5 h.2),if_pos p4]
  rw [hv];clear hv;have q1:0<n:=p1;have q2:(a==0)=false:=by rw [beq_eq_false_iff_ne];exact p2
  have q3:b=0:=p3;have q4:0<u:=p4;have q5:decide (0<d)=false:=decide_eq_false p5;subst q3;go_enter Tryz.func38,Tryz.ntmps38
  go_wp2_with fail
  refine (HS.out _).mono ?_;rintro r w1 ⟨rfl,hb1⟩;have hz1:=hb1.size;simp at hz1;obtain ⟨hc1,hf1⟩:=bcell hb1;have B1:=qsd hb1;clear hb1
  go_wp2_with fail
  refine (HM.out _).mono ?_;rintro r w2 ⟨rfl,hb2⟩;have hz2:=hb2.size;obtain ⟨hc2,hf2⟩:=bcell hb2;have hc3:∀ b o,b<w.heap.size+1+1→w2.cell? ⟨b,o,none⟩=w1.cell? ⟨b,o,none⟩:=fun b o h=>hc2 b o (by omega)
  have B2:=qsd hb2;clear hb2 hc2 hf2
  go_wp2_with fail
  refine (HU.out _).mono ?_;rintro r w3 ⟨rfl,rfl⟩;go_wp2
  go_ret2
  exact ⟨by first | rfl | simp,((((Below.refl _ w).alloc (Nat.le_refl _) _).alloc (by simp) _).trans (B1.out.mono (by simp;omega))).trans (B2.out.mono (by omega))⟩
 have way5:0<n→¬ (a=0)→b=0→¬ (0<u)→0<d→Calls Tryz.prog 38 #[.agg #[.int .i64 n,.int .i64 u,.int .i64 d,.int .i64 m,.int .i64 p,.int .i64 l],.agg #[.int .i64 a,.int .i64 b]] w fun r w'=>r=.returned (.tuple #[.float .f64 (vd true n u d a b).1,.bool (vd true n u d a b).2])∧Below w.heap.size w w':=by
  intro p1 p2 p3 p4 p5;have hv:vd true n u d a b=(18442240474082181120,true):=by unfold vd;rw [if_neg (by decide),if_neg (fun h=>p2 h.2),if_neg (not_not_intro p3),if_neg (fun h=>p4 h.1),if_neg p4,if_pos p5]
  rw [hv];clear hv;have q1:0<n:=p1;have q2:(a==0)=false:=by rw [beq_eq_false_iff_ne];exact p2
  have q3:b=0:=p3;have q4:decide (0<u)=false:=decide_eq_false p4;have q5:0<d:=p5;subst q3;go_enter Tryz.func38,Tryz.ntmps38
  go_wp2_with fail
  refine (HS.out _).mono ?_;rintro r w1 ⟨rfl,hb1⟩;have hz1:=hb1.size;simp at hz1;obtain ⟨hc1,hf1⟩:=bcell hb1;have B1:=qsd hb1;clear hb1
  go_wp2_with fail
  refine (HM.out _).mono ?_;rintro r w2 ⟨rfl,hb2⟩;have hz2:=hb2.size;obtain ⟨hc2,hf2⟩:=bcell hb2;have hc3:∀ b o,b<w.heap.size+1+1→w2.cell? ⟨b,o,none⟩=w1.cell? ⟨b,o,none⟩:=fun b o h=>hc2 b o (by omega)
  have B2:=qsd hb2;clear hb2 hc2 hf2
  go_wp2_with fail
  refine (HD.out _).mono ?_;rintro r w3 ⟨rfl,rfl⟩;go_wp2
  go_ret2
  exact ⟨by first | rfl | simp,((((Below.refl _ w).alloc (Nat.le_refl _) _).alloc (by simp) _).trans (B1.out.mono (by simp;omega))).trans (B2.out.mono (by omega))⟩
 have way6:0<n→¬ (a=0)→b=0→¬ (0<u)→¬ (0<d)→Calls Tryz.prog 38 #[.agg #[.int .i64 n,.int .i64 u,.int .i64 d,.int .i64 m,.int .i64 p,.int .i64 l],.agg #[.int .i64 a,.int .i64 b]] w fun r w'=>r=.returned (.tuple #[.float .f64 (vd true n u d a b).1,.bool (vd true n u d a b).2])∧Below w.heap.size w w':=by
  intro p1 p2 p3 p4 p5;have hv:vd true n u d a b=(0,false):=by unfold vd;rw [if_neg (by decide),if_neg (fun h=>p2 h.2),if_neg (not_not_intro p3),if_neg (fun h=>p4 h.1),if_neg p4,if_neg p5]
  rw [hv];clear hv;have q1:0<n:=p1;have q2:(a==0)=false:=by rw [beq_eq_false_iff_ne];exact p2
  have q3:b=0:=p3;have q4:decide (0<u)=false:=decide_eq_false p4;have q5:decide (0<d)=false:=decide_eq_false p5;subst q3;go_enter Tryz.func38,Tryz.ntmps38
  go_wp2_with fail
  refine (HS.out _).mono ?_;rintro r w1 ⟨rfl,hb1⟩;have hz1:=hb1.size;simp at hz1;obtain ⟨hc1,hf1⟩:=bcell hb1;have B1:=qsd hb1;clear hb1
  go_wp2_with fail
  refine (HM.out _).mono ?_;rintro r w2 ⟨rfl,hb2⟩;have hz2:=hb2.size;obtain ⟨hc2,hf2⟩:=bcell hb2;have hc3:∀ b o,b<w.heap.size+1+1→w2.cell? ⟨b,o,none⟩=w1.cell? ⟨b,o,none⟩:=fun b o h=>hc2 b o (by omega)
  have B2:=qsd hb2;clear hb2 hc2 hf2;go_wp2
  go_ret2
  exact ⟨by first | rfl | simp,((((Below.refl _ w).alloc (Nat.le_refl _) _).alloc (by simp) _).trans (B1.out.mono (by simp;omega))).trans (B2.out.mono (by omega))⟩
 have way7:¬ (0<n)→¬ (b=0)→Calls Tryz.prog 38 #[.agg #[.int .i64 n,.int .i64 u,.int .i64 d,.int .i64 m,.int .i64 p,.int .i64 l],.agg #[.int .i64 a,.int .i64 b]] w fun r w'=>r=.returned (.tuple #[.float .f64 (vd true n u d a b).1,.bool (vd true n u d a b).2])∧Below w.heap.size w w':=by
  intro p1 p3;have hv:vd true n u d a b=(0,false):=by unfold vd;rw [if_neg (by decide),if_neg (fun h=>p1 h.1),if_pos p3]
  rw [hv];clear hv;have q1:decide (0<n)=false:=decide_eq_false p1;have q3:(b==0)=false:=by rw [beq_eq_false_iff_ne];exact p3
  go_enter Tryz.func38,Tryz.ntmps38
  go_wp2_with fail
  refine (HS.out _).mono ?_;rintro r w1 ⟨rfl,hb1⟩;have hz1:=hb1.size;simp at hz1;obtain ⟨hc1,hf1⟩:=bcell hb1;have B1:=qsd hb1;clear hb1
  go_wp2_with fail
  refine (HM.out _).mono ?_;rintro r w2 ⟨rfl,hb2⟩;have hz2:=hb2.size;obtain ⟨hc2,hf2⟩:=bcell hb2;have hc3:∀ b o,b<w.heap.size+1+1→w2.cell? ⟨b,o,none⟩=w1.cell? ⟨b,o,none⟩:=fun b o h=>hc2 b o (by omega)
  have B2:=qsd hb2;clear hb2 hc2 hf2;go_wp2
  go_ret2
  exact ⟨by first | rfl | simp,((((Below.refl _ w).alloc (Nat.le_refl _) _).alloc (by simp) _).trans (B1.out.mono (by simp;omega))).trans (B2.out.mono (by omega))⟩
 have way8:¬ (0<n)→b=0→0<u→0<d→Calls Tryz.prog 38 #[.agg #[.int .i64 n,.int .i64 u,.int .i64 d,.int .i64 m,.int .i64 p,.int .i64 l],.agg #[.int .i64 a,.int .i64 b]] w fun r w'=>r=.returned (.tuple #[.float .f64 (vd true n u d a b).1,.bool (vd true n u d a b).2])∧Below w.heap.size w w':=by
  intro p1 p3 p4 p5;have hv:vd true n u d a b=(9221120237041090560,true):=by unfold vd;rw [if_neg (by decide),if_neg (fun h=>p1 h.1),if_neg (not_not_intro p3),if_pos ⟨p4,p5⟩]
  rw [hv];clear hv;have q1:decide (0<n)=false:=decide_eq_false p1;have q3:b=0:=p3;have q4:0<u:=p4;have q5:0<d:=p5;subst q3;go_enter Tryz.func38,Tryz.ntmps38
  go_wp2_with fail
  refine (HS.out _).mono ?_;rintro r w1 ⟨rfl,hb1⟩;have hz1:=hb1.size;simp at hz1;obtain ⟨hc1,hf1⟩:=bcell hb1;have B1:=qsd hb1;clear hb1
  go_wp2_with fail
  refine (HM.out _).mono ?_;rintro r w2 ⟨rfl,hb2⟩;have hz2:=hb2.size;obtain ⟨hc2,hf2⟩:=bcell hb2;have hc3:∀ b o,b<w.heap.size+1+1→w2.cell? ⟨b,o,none⟩=w1.cell? ⟨b,o,none⟩:=fun b o h=>hc2 b o (by omega)
  have B2:=qsd hb2;clear hb2 hc2 hf2
  go_wp2_with fail
  refine (HN.out _).mono ?_;rintro r w3 ⟨rfl,rfl⟩;go_wp2
  go_ret2
  exact ⟨by first | rfl | simp,((((Below.refl _ w).alloc (Nat.le_refl _) _).alloc (by simp) _).trans (B1.out.mono (by simp;omega))).trans (B2.out.mono (by omega))⟩
 have way9:¬ (0<n)→b=0→0<u→¬ (0<d)→Calls Tryz.prog 38 #[.agg #[.int .i64 n,.int .i64 u,.int .i64 d,.int .i64 m,.int .i64 p,.int .i64 l],.agg #[.int .i64 a,.int .i64 b]] w fun r w'=>r=.returned (.tuple #[.float .f64 (vd true n u d a b).1,.bool (vd true n u d a b).2])∧Below w.heap.size w w':=by
  intro p1 p3 p4 p5;have hv:vd true n u d a b=(9218868437227405312,true):=by unfold vd;rw [if_neg (by decide),if_neg (fun h=>p1 h.1),if_neg (not_not_intro p3),if_neg (fun h=>p5 h.2),if_pos p4]
  rw [hv];clear hv;have q1:decide (0<n)=false:=decide_eq_false p1;have q3:b=0:=p3;have q4:0<u:=p4;have q5:decide (0<d)=false:=decide_eq_false p5;subst q3;go_enter Tryz.func38,Tryz.ntmps38
  go_wp2_with fail
  refine (HS.out _).mono ?_;rintro r w1 ⟨rfl,hb1⟩;have hz1:=hb1.size;simp at hz1;obtain ⟨hc1,hf1⟩:=bcell hb1;have B1:=qsd hb1;clear hb1
  go_wp2_with fail
  refine (HM.out _).mono ?_;rintro r w2 ⟨rfl,hb2⟩;have hz2:=hb2.size;obtain ⟨hc2,hf2⟩:=bcell hb2;have hc3:∀ b o,b<w.heap.size+1+1→w2.cell? ⟨b,o,none⟩=w1.cell? ⟨b,o,none⟩:=fun b o h=>hc2 b o (by omega)
  have B2:=qsd hb2;clear hb2 hc2 hf2
  go_wp2_with fail
  refine (HU.out _).mono ?_;rintro r w3 ⟨rfl,rfl⟩;go_wp2
  go_ret2
  exact ⟨by first | rfl | simp,((((Below.refl _ w).alloc (Nat.le_refl _) _).alloc (by simp) _).trans (B1.out.mono (by simp;omega))).trans (B2.out.mono (by omega))⟩
 have way10:¬ (0<n)→b=0→¬ (0<u)→0<d→Calls Tryz.prog 38 #[.agg #[.int .i64 n,.int .i64 u,.int .i64 d,.int .i64 m,.int .i64 p,.int .i64 l],.agg #[.int .i64 a,.int .i64 b]] w fun r w'=>r=.returned (.tuple #[.float .f64 (vd true n u d a b).1,.bool (vd true n u d a b).2])∧Below w.heap.size w w':=by
  intro p1 p3 p4 p5;have hv:vd true n u d a b=(18442240474082181120,true):=by unfold vd;rw [if_neg (by decide),if_neg (fun h=>p1 h.1),if_neg (not_not_intro p3),if_neg (fun h=>p4 h.1),if_neg p4,if_pos p5]
  rw [hv];clear hv;have q1:decide (0<n)=false:=decide_eq_false p1;have q3:b=0:=p3;have q4:decide (0<u)=false:=decide_eq_false p4;have q5:0<d:=p5;subst q3;go_enter Tryz.func38,Tryz.ntmps38
  go_wp2_with fail
  refine (HS.out _).mono ?_;rintro r w1 ⟨rfl,hb1⟩;have hz1:=hb1.size;simp at hz1;obtain ⟨hc1,hf1⟩:=bcell hb1;have B1:=qsd hb1;clear hb1
  go_wp2_with fail
  refine (HM.out _).mono ?_;rintro r w2 ⟨rfl,hb2⟩;have hz2:=hb2.size;obtain ⟨hc2,hf2⟩:=bcell hb2;have hc3:∀ b o,b<w.heap.size+1+1→w2.cell? ⟨b,o,none⟩=w1.cell? ⟨b,o,none⟩:=fun b o h=>hc2 b o (by omega)
  have B2:=qsd hb2;clear hb2 hc2 hf2
  go_wp2_with fail
  refine (HD.out _).mono ?_;rintro r w3 ⟨rfl,rfl⟩;go_wp2
  go_ret2
  exact ⟨by first | rfl | simp,((((Below.refl _ w).alloc (Nat.le_refl _) _).alloc (by simp) _).trans (B1.out.mono (by simp;omega))).trans (B2.out.mono (by omega))⟩
 have way11:¬ (0<n)→b=0→¬ (0<u)→¬ (0<d)→Calls Tryz.prog 38 #[.agg #[.int .i64 n,.int .i64 u,.int .i64 d,.int .i64 m,.int .i64 p,.int .i64 l],.agg #[.int .i64 a,.int .i64 b]] w fun r w'=>r=.returned (.tuple #[.float .f64 (vd true n u d a b).1,.bool (vd true n u d a b).2])∧Below w.heap.size w w':=by
  intro p1 p3 p4 p5;have hv:vd true n u d a b=(0,false):=by unfold vd;rw [if_neg (by decide),if_neg (fun h=>p1 h.1),if_neg (not_not_intro p3),if_neg (fun h=>p4 h.1),if_neg p4,if_neg p5]
  rw [hv];clear hv;have q1:decide (0<n)=false:=decide_eq_false p1;have q3:b=0:=p3;have q4:decide (0<u)=false:=decide_eq_false p4;have q5:decide (0<d)=false:=decide_eq_false p5;subst q3;go_enter Tryz.func38,Tryz.ntmps38
  go_wp2_with fail
  refine (HS.out _).mono ?_;rintro r w1 ⟨rfl,hb1⟩;have hz1:=hb1.size;simp at hz1;obtain ⟨hc1,hf1⟩:=bcell hb1;have B1:=qsd hb1;clear hb1
  go_wp2_with fail
  refine (HM.out _).mono ?_;rintro r w2 ⟨rfl,hb2⟩;have hz2:=hb2.size;obtain ⟨hc2,hf2⟩:=bcell hb2;have hc3:∀ b o,b<w.heap.size+1+1→w2.cell? ⟨b,o,none⟩=w1.cell? ⟨b,o,none⟩:=fun b o h=>hc2 b o (by omega)
  have B2:=qsd hb2;clear hb2 hc2 hf2;go_wp2
  go_ret2
  exact ⟨by first | rfl | simp,((((Below.refl _ w).alloc (Nat.le_refl _) _).alloc (by simp) _).trans (B1.out.mono (by simp;omega))).trans (B2.out.mono (by omega))⟩
 by_cases p1:0<n
 · by_cases p2:a=0
   · exact way1 p1 p2
   · by_cases p3:b=0
     · by_cases p4:0<u <;> by_cases p5:0<d
       · exact way3 p1 p2 p3 p4 p5
       · exact way4 p1 p2 p3 p4 p5
       · exact way5 p1 p2 p3 p4 p5
       · exact way6 p1 p2 p3 p4 p5
     · exact way2 p1 p2 p3
 · by_cases p3:b=0
   · by_cases p4:0<u <;> by_cases p5:0<d
     · exact way8 p1 p3 p4 p5
     · exact way9 p1 p3 p4 p5
     · exact way10 p1 p3 p4 p5
     · exact way11 p1 p3 p4 p5
   · exact way7 p1 p3
open Go.RowKit
open Go.Proofs.YtjldfhecnaiinaaGreatDoor.B (f64bits f64frombits bw bcell)
attribute [local go_sem] f64bits f64frombits
theorem rNought_any (n u d m p l mode:Int) (w:World):Calls Tryz.prog 78 #[.agg #[.int .i64 n,.int .i64 u,.int .i64 d,.int .i64 m,.int .i64 p,.int .i64 l],.int .i64 mode] w fun r w'=>r=.returned (.float .f64 (nt (snd n u d m p l) n u d m p l mode))∧Below w.heap.size w w':=by
 have HS:=hid (MayBe_any n u d m p l);have HM:=hid (minus_any);have HT:=hid (Zero_any true);have HF:=hid (Zero_any false)
 rcases hs:snd n u d m p l with _|_
 · rw [hs] at HS
   have hv:nt false n u d m p l mode=0:=if_pos rfl;rw [hv];clear hs hv;go_enter Tryz.func78,Tryz.ntmps78
   go_wp2_with fail
   refine (HS.out _).mono ?_;rintro r w1 ⟨rfl,hb1⟩;have hz1:=hb1.size;simp at hz1;obtain ⟨hc1,hf1⟩:=bcell hb1;have B1:=qsd hb1;clear hb1
   go_wp2_with fail
   refine (HF.out _).mono ?_;rintro r w3 ⟨rfl,rfl⟩;go_wp2;go_ret;exact ⟨by first | rfl | simp,((Below.refl _ w).alloc (Nat.le_refl _) _).trans (B1.out.mono (by simp))⟩
 have bd:=snd_bd hs;rw [hs] at HS;obtain ⟨f,hf⟩:∃ f,l-n-u-d=f:=⟨_,rfl⟩;have hfb:-9223372036854775808≤f∧f≤9223372036854775807:=by omega
 have hb1:0≤n∧n≤1099511627776:=bd.1;have hb2:0≤u∧u≤1099511627776:=bd.2.1;have hb3:0≤d∧d≤1099511627776:=bd.2.2.1;have hb4:0≤l∧l≤1099511627776:=bd.2.2.2;unfold nt;rw [if_neg (by decide),hf]
 clear hs bd
 by_cases p1:f=0
 · rw [if_pos p1]
   have q1:(f==0)=true:=by rw [beq_iff_eq];exact p1
   clear p1;go_enter Tryz.func78,Tryz.ntmps78
   go_wp2_with fail
   refine (HS.out _).mono ?_;rintro r w1 ⟨rfl,hb1⟩;have hz1:=hb1.size;simp at hz1;obtain ⟨hc1,hf1⟩:=bcell hb1;have B1:=qsd hb1;clear hb1
   go_wp2_with fail
   refine (HF.out _).mono ?_;rintro r w3 ⟨rfl,rfl⟩;go_wp2;go_ret;exact ⟨by first | rfl | simp,((Below.refl _ w).alloc (Nat.le_refl _) _).trans (B1.out.mono (by simp))⟩
 rw [if_neg p1];have q1:(f==0)=false:=by rw [beq_eq_false_iff_ne];exact p1
 clear p1
 by_cases p2:m=f
 · rw [if_pos p2]
   have q2:(m==f)=true:=by rw [beq_iff_eq];exact p2
   clear p2;go_enter Tryz.func78,Tryz.ntmps78
   go_wp2_with fail
   refine (HS.out _).mono ?_;rintro r w1 ⟨rfl,hb1⟩;have hz1:=hb1.size;simp at hz1;obtain ⟨hc1,hf1⟩:=bcell hb1;have B1:=qsd hb1;clear hb1
   go_wp2_with fail
   refine (HT.out _).mono ?_;rintro r w3 ⟨rfl,rfl⟩;go_wp2;go_ret;exact ⟨by first | rfl | simp,((Below.refl _ w).alloc (Nat.le_refl _) _).trans (B1.out.mono (by simp))⟩
 rw [if_neg p2];have q2:(m==f)=false:=by rw [beq_eq_false_iff_ne];exact p2
 clear p2
 by_cases p3:p=f
 · rw [if_pos p3]
   have q3:(p==f)=true:=by rw [beq_iff_eq];exact p3
   clear p3;go_enter Tryz.func78,Tryz.ntmps78
   go_wp2_with fail
   refine (HS.out _).mono ?_;rintro r w1 ⟨rfl,hb1⟩;have hz1:=hb1.size;simp at hz1;obtain ⟨hc1,hf1⟩:=bcell hb1;have B1:=qsd hb1;clear hb1
   go_wp2_with fail
   refine (HF.out _).mono ?_;rintro r w3 ⟨rfl,rfl⟩;go_wp2;go_ret;exact ⟨by first | rfl | simp,((Below.refl _ w).alloc (Nat.le_refl _) _).trans (B1.out.mono (by simp))⟩
 rw [if_neg p3];have q3:(p==f)=false:=by rw [beq_eq_false_iff_ne];exact p3
 clear p3
 by_cases p4:mode=3
 · rw [if_pos p4]
   subst p4;go_enter Tryz.func78,Tryz.ntmps78
   go_wp2_with fail
   refine (HS.out _).mono ?_;rintro r w1 ⟨rfl,hb1⟩;have hz1:=hb1.size;simp at hz1;obtain ⟨hc1,hf1⟩:=bcell hb1;have B1:=qsd hb1;clear hb1
   go_wp2_with fail
   refine (HT.out _).mono ?_;rintro r w3 ⟨rfl,rfl⟩;go_wp2;go_ret;exact ⟨by first | rfl | simp,((Below.refl _ w).alloc (Nat.le_refl _) _).trans (B1.out.mono (by simp))⟩
 · rw [if_neg p4]
   have q4:(mode==3)=false:=by rw [beq_eq_false_iff_ne];exact p4
   clear p4;go_enter Tryz.func78,Tryz.ntmps78
   go_wp2_with fail
   refine (HS.out _).mono ?_;rintro r w1 ⟨rfl,hb1⟩;have hz1:=hb1.size;simp at hz1;obtain ⟨hc1,hf1⟩:=bcell hb1;have B1:=qsd hb1;clear hb1
   go_wp2_with fail
   refine (HF.out _).mono ?_;rintro r w3 ⟨rfl,rfl⟩;go_wp2;go_ret;exact ⟨by first | rfl | simp,((Below.refl _ w).alloc (Nat.le_refl _) _).trans (B1.out.mono (by simp))⟩
end
section
open Go.RowKit J
attribute [local go_sem] st_float
def rfz (n u d a b:Int):Int:=if 0<n∧a=2 then 60 else if 0<u+d∧b=2 then 61 else 0
theorem rRefused12 (n u d m p l a b:Int) (w:World) (hu:0≤u∧u≤1099511627776) (hd:0≤d∧d≤1099511627776) :
 Calls Tryz.prog 37 #[.agg #[.int .i64 n,.int .i64 u,.int .i64 d,.int .i64 m,.int .i64 p,.int .i64 l],.agg #[.int .i64 a,.int .i64 b]] w fun r w'=>r=.returned (.int .i64 (rfz n u d a b))∧Below w.heap.size w w':=by
 have hne:w.heap.size≠w.heap.size+1:=by omega
 have bb:=qsd ((bel_alloc w (Obj.cells #[.int .i64 n,.int .i64 u,.int .i64 d,.int .i64 m,.int .i64 p,.int .i64 l] 51)).trans ((bel_alloc (w.alloc (Obj.cells #[.int .i64 n,.int .i64 u,.int .i64 d,.int .i64 m,.int .i64 p,.int .i64 l] 51)) (Obj.cells #[.int .i64 a,.int .i64 b] 29)).mono (by simp)))
 obtain ⟨x1,h1⟩:∃ x,decide (0<n)=x:=⟨_,rfl⟩;obtain ⟨x2,h2⟩:∃ x,(a==2)=x:=⟨_,rfl⟩;obtain ⟨x3,h3⟩:∃ x,decide (0<u+d)=x:=⟨_,rfl⟩;obtain ⟨x4,h4⟩:∃ x,(b==2)=x:=⟨_,rfl⟩
 have key:rfz n u d a b=if x1&&x2 then 60 else if x3&&x4 then 61 else 0:=by
  unfold rfz;rw [←h1,←h2,←h3,←h4];simp
 rw [key];clear key
 cases x1
 · cases x3
   · go_enter Tryz.func37,Tryz.ntmps37
     go_wp2;go_ret;exact ⟨by first | rfl | simp,bb.out⟩
   · cases x4
     · go_enter Tryz.func37,Tryz.ntmps37
       go_wp2;go_ret;exact ⟨by first | rfl | simp,bb.out⟩
     · go_enter Tryz.func37,Tryz.ntmps37
       go_wp2;go_ret;exact ⟨by first | rfl | simp,bb.out⟩
 · cases x2
   · cases x3
     · go_enter Tryz.func37,Tryz.ntmps37
       go_wp2;go_ret;exact ⟨by first | rfl | simp,bb.out⟩
     · cases x4
       · go_enter Tryz.func37,Tryz.ntmps37
         go_wp2;go_ret;exact ⟨by first | rfl | simp,bb.out⟩
       · go_enter Tryz.func37,Tryz.ntmps37
         go_wp2;go_ret;exact ⟨by first | rfl | simp,bb.out⟩
   · go_enter Tryz.func37,Tryz.ntmps37
     go_wp2;go_ret;exact ⟨by first | rfl | simp,bb.out⟩
end
section
open Go.RowKit J
attribute [local go_sem] st_float
theorem bd12 {V:Int}(n:Nat) (hn:n≤65536) (h:-((n*QB:Nat):Int)≤V∧V≤((n*QB:Nat):Int)) (j:Nat) (hj:j=4238):V.natAbs<2^j:=by
 rw [←HB_two j hj,QB_HB];have h3:n*QB≤65536*QB:=Nat.mul_le_mul_right _ hn;have h5:=QB_pos;omega
end
end Go.Proofs.YtjldfhecnaiinaaGreatDoor
