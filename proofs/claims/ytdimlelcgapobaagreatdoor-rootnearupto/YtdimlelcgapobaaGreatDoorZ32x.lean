import Derived.Test.YtdimlelcgapobaaGreatDoorN4x
import Derived.OwnWalk
import Derived.ArgAppend
import Derived.Maps.AppendAt
import Derived.WalkMore
import Derived.Test.YtdimlelcgapobaaGreatDoorZ14x
set_option linter.unusedVariables false
set_option linter.unusedSimpArgs false
set_option maxHeartbeats 16000000
set_option maxRecDepth 20000
namespace Go.Proofs.YtdimlelcgapobaaGreatDoor
section
open Go.RowKit
def Fw10 (n:Nat):Value:=.float .f64 n
theorem Tryz.und_floats:Tryz.prog.underlying 94=some (.slice 31):=by kernel_rfl
theorem Tryz.info_f64:(Tryz.prog.info? 31).map (fun i=>(i.zero,i.size,i.bytes))=some (some (.float .f64 0),1,8):=by kernel_rfl
def Fs (B:Nat) (w:World) (ao:Option Addr) (xs:List Nat):Prop :=
 xs≠[]→∃ b off,b<B∧ao=some ⟨b,off,none⟩∧∀ i,i<xs.length→w.cell? ⟨b,off+i,none⟩=some (.float .f64 (xs.getD i 0))
theorem Fs.nil (B:Nat) (w:World) (ao:Option Addr):Fs B w ao []:=fun h=>absurd rfl h
theorem wpList_append10 {w:World}{ops:Array Oper}{rest:List Oper}{o:Oper}{a:Act}{Q:Exit→Act→World→Prop}(hgd:o.guard=none) (s x:Operand) (t:TypeId)
 (ho:o.op=.call { callee:=.builtin .append,args:=#[s,x],argTypes:=#[t,t] }) (v u:Value) (hs:a.eval s=v) (hx:a.eval x=u) (v':Value) (w':World)
 (hrun:(Builtin.append_ #[t,t] o.type #[v,u]).run Tryz.prog w=.ok v' w') (h:wpList Tryz.prog ops Q rest (a.put o.dst v') w'):wpList Tryz.prog ops Q (o::rest) a w:=by
 refine wpList_plain hgd fun K hK=>?_
 unfold Oper.wp;simp [execOp,ho,resolve,invoke,builtin,hs,hx,hrun,Result.andThen];exact hK _ _ h
theorem append10 (lo:Nat) (v:Value) (K:List Nat) (x:Nat) (w:World) (hb:w.ownsRow lo 31 1 v K.length (K.map Fw10)) (hlo:lo≤w.heap.size) (hk:K.length≤1000000) :
 ∃ v' w',(Builtin.append_ #[94,94] 94 #[v,.slice (some ⟨w.heap.size,0,none⟩) 1 1]).run Tryz.prog (w.alloc (.cells #[.float .f64 x] 31))=.ok v' w'∧w'.ownsRow lo 31 1 v' (K++[x]).length ((K++[x]).map Fw10)∧Below lo w w'∧w.heap.size≤w'.heap.size:=by
 obtain ⟨i0,hi,hz0,hz1,hz2⟩:=info_parts Tryz.info_f64;obtain ⟨W,hW⟩:∃ W,W=w.alloc (.cells #[.float .f64 x] 31):=⟨_,rfl⟩;have hcx:W.cell? ⟨w.heap.size,0,none⟩=some (.float .f64 x):=by subst hW;unfold World.cell?;simp only [heap_alloc_new];rfl
 have hWb:W.ownsRow lo 31 1 v K.length (K.map Fw10):=by subst hW;exact World.ownsRow.alloc hb _
 have hWs:w.heap.size≤W.heap.size:=by subst hW;simp
 obtain ⟨v',w',r1,r2,r3,_,r5⟩:=run_append_own_at (P:=Tryz.prog) W lo 94 94 31 i0 (.float .f64 0) 1 8 Tryz.und_floats hi hz0 hz1 hz2 rfl (by decide) v K.length (K.map Fw10) hWb ⟨w.heap.size,0,none⟩ 1 1 [.float .f64 x] rfl (by
  intro j u hj
  match j,hj with
  | 0,hj=>simp at hj;subst hj;simpa [Addr.add] using hcx) (by intro u hu;simp at hu;subst hu;rfl) (by unfold maxLen;omega) (by omega) (by omega)
 rw [←hW];refine ⟨v',w',r1,?_,?_,?_⟩
 · rw [List.length_append,List.map_append];exact r2
 · have hlw:Below lo w W:=by subst hW;exact (Below.refl _ _).alloc hlo _
   refine ⟨r3.os.trans hlw.os,r3.tape.trans hlw.tape,r3.output.trans hlw.output,Nat.le_trans hlw.size r3.size,fun k hkl=>?_⟩
   rw [r3.block k (by omega) (fun e=>by
    rcases hWb.2 with ⟨e2,_⟩|⟨g,cap,cur,e2,hlo2,_⟩
    · rw [e2] at e;simp [Value.ownBlock] at e
    · rw [e2] at e;simp [Value.ownBlock] at e;omega)]
   exact hlw.block k hkl
 · exact Nat.le_trans hWs r3.size
theorem own_below10 {lo:Nat}{w w':World}{v:Value}{n:Nat}{L:List Value}(h:w.ownsRow lo 31 1 v n L) (hb:Below w.heap.size w w'):w'.ownsRow lo 31 1 v n L:=by
 refine ⟨h.1,?_⟩
 rcases h.2 with hn|⟨g,cap,cur,rfl,hlo,hgc,rest⟩
 · exact .inl hn
 · refine .inr ⟨g,cap,cur,rfl,hlo,?_,rest⟩
   rw [hb.block g (Array.getElem?_eq_some_iff.1 hgc).1];exact hgc
theorem own_fs10 {w:World}{lo n:Nat}{v:Value}{xs:List Nat}(h:w.ownsRow lo 31 1 v n (xs.map Fw10)) (hn:n=xs.length):∃ a c,v=.slice a n c∧n≤c∧Fs w.heap.size w a xs:=by
 have h':=h
 rcases h.2 with ⟨rfl,hn0⟩|⟨g,cap,cur,rfl,hlo,hg,hn1,hm,hs,ht⟩
 · have e:xs=[]:=List.eq_nil_of_length_eq_zero (by rw [←hn];simpa using hn0)
   subst e;have:n=0:=by simpa using hn
   subst this;exact ⟨none,0,rfl,Nat.le_refl _,Fs.nil _ _ _⟩
 · refine ⟨some ⟨g,0,none⟩,cap,rfl,hn1,fun _=>⟨g,0,(Array.getElem?_eq_some_iff.1 hg).1,rfl,fun i hi=>?_⟩⟩
   have:=World.ownsRow.cellAt h' i (by omega)
   rw [Nat.zero_add,this,List.getElem?_map,List.getElem?_eq_getElem hi,List.getD_eq_getElem?_getD,List.getElem?_eq_getElem hi]
   rfl
theorem Rq.low {w w':World}{lo g:Nat}{n:Bool}{v:Value}{e:Int}{m:Bool}{u:Value}{f:Int}(h:Rq w g n v e m u f) (hb:Below lo w w') (hg:g<lo):Rq w' g n v e m u f:=by
 unfold Rq;rw [hb.block g hg];exact h
def Lg (g:Nat→Nat) (k:Nat):List Nat:=(List.range k).map g
theorem Lg_succ (g:Nat→Nat) (k:Nat):Lg g (k+1)=Lg g k++[g k]:=by unfold Lg;rw [List.range_succ,List.map_append];rfl
theorem Lg_len (g:Nat→Nat) (k:Nat):(Lg g k).length=k:=by simp [Lg]
theorem Lg_get (g:Nat→Nat) {k i:Nat}(h:i<k):(Lg g k).getD i 0=g i:=by simp [Lg,List.getD_eq_getElem?_getD,h]
section

theorem within_q_apart {w:World}{n m:Bool}{a b:Option Addr}{la ca lb cb:Nat}{e f:Int}(g:Nat→Nat) (p:Nat→Nat) (q:Nat→Int)
 (HQ:Hid (∀ (u:World) (k:Nat),k<5→Below w.heap.size w u→Calls Tryz.prog 10 #[.agg #[.bool n,.slice a la ca,.int .i64 e,.bool m,.slice b lb cb,.int .i64 f],.int .i64 (k:Nat)] u fun r w'=>r=.returned (.tuple #[.float .f64 (g k),.int .i64 (0)])∧Below u.heap.size u w'))
 (HO:Hid (∀ j:Nat,j<5→FloatKind.f64.format.order (g j) (g 3)=some Ordering.eq∨FloatKind.f64.format.order (g j) (g 2)=some Ordering.eq))
 (HU:Hid (FloatKind.f64.format.order (g 3) (g 2)=some Ordering.lt∧FloatKind.f64.format.order (g 1) (if n then g 2 else g 3)=some Ordering.eq))
 (HNr:Hid (∀ u:World,Below w.heap.size w u→Calls Tryz.prog 72 #[.float .f64 (g 0),.agg #[.bool n,.slice a la ca,.int .i64 e,.bool m,.slice b lb cb,.int .i64 f],.bool false] u fun r w'=>r=.returned (.bool true)∧Below u.heap.size u w'))
 :
 Calls Tryz.prog 38 #[.agg #[.bool n,.slice a la ca,.int .i64 e,.bool m,.slice b lb cb,.int .i64 f],.bool false] w fun r w'=>r=.returned (.bool true)∧Below w.heap.size w w':=by
 obtain ⟨W1,hW1⟩:∃ W,W=w.alloc (.cells #[.bool n,.slice a la ca,.int .i64 e,.bool m,.slice b lb cb,.int .i64 f] 30):=⟨_,rfl⟩;have HB:Aside (Below w.heap.size w W1∧Rq W1 w.heap.size n (.slice a la ca) e m (.slice b lb cb) f):=by rw [hW1];exact ⟨below_alloc _ _,Rq.new _ _ _ _ _ _ _⟩
 go_enter Tryz.func38,Tryz.ntmps38
 go_upto_region 1 with fail
 rw [←hW1];clear hW1;go_wp2
 go_loopg [6,5] 5 (fun gk i v wr=>∃ (k:Nat) (v0:Value),gk+k=5∧i=.int .i64 (k:Nat)∧v=v0∧Aside (wr.ownsRow (w.heap.size+1) 31 1 v0 (Lg g k).length ((Lg g k).map Fw10)∧Below w.heap.size w wr∧Rq wr w.heap.size n (.slice a la ca) e m (.slice b lb cb) f∧w.heap.size+1≤wr.heap.size))
 case atStart=>exact ⟨0,_,by omega,by simp,rfl,World.ownsRow_nil W1 (w.heap.size+1) 31 1,HB.out.1,HB.out.2,HB.out.2.lt⟩
 case round =>
  obtain ⟨k,v,hgk,rfl,hv,HA⟩:=hrel;have hv':=hv.symm;clear hv;subst hv'
  by_cases hk:k<5
  · have hk6:decide ((k:Int)<5)=true:=by simp;omega
    obtain ⟨x0,x1,x2,x3,x4,x5⟩:=HA.out.2.2.1.facts;have HC:=hid (HQ.out wr k hk HA.out.2.1)
    go_wp2_with fail
    refine HC.out.mono ?_;rintro r u1 ⟨rfl,hb⟩;have HD:=sd (ai (own_below10 HA.out.1 hb) (ai (HA.out.2.1.trans (hb.mono HA.out.2.1.size)) (ai (HA.out.2.2.1.below hb) (Nat.le_trans HA.out.2.2.2 hb.size))));clear HC hb x0 x1 x2 x3 x4 x5 HA;obtain ⟨v',w',r1,r2,r3,r4⟩:=append10 (w.heap.size+1) v (Lg g k) (g k) u1 HD.out.1 HD.out.2.2.2 (by rw [Lg_len];omega)
    have HR1:=sd r1;have HN:=sd (ai r2 (ai (HD.out.2.1.trans (r3.mono (Nat.le_succ _))) (ai (HD.out.2.2.1.low r3 (Nat.lt_succ_self _)) (Nat.le_trans HD.out.2.2.2 r4))));clear r1 r2 r3 r4 HD
    go_wp2_with (at_builtin;refine wpList_append10 rfl (.tmp 38) (.tmp 40) 94 rfl _ _ rfl rfl _ _ HR1.out ?_)
    go_roundg (gk-1)
    case measure=>omega
    case rel =>
     refine ⟨k+1,_,by omega,by first | rfl | simp,rfl,?_⟩
     rw [Lg_succ];exact HN
  · obtain rfl:k=5:=by omega
    obtain ⟨a2,c2,hv2,hc2,hF2⟩:=own_fs10 HA.out.1 rfl;rw [Lg_len] at hv2 hc2;subst hv2;obtain ⟨gb,off,_,e1,hcell⟩:=hF2 (by intro h;have:=Lg_len g 5;rw [h] at this;cases this)
    subst e1;rw [Lg_len] at hcell;have cells:∀ i,i<5→wr.cell? ⟨gb,off+i,none⟩=some (.float .f64 (g i)):=fun i hi=>by rw [hcell i hi,Lg_get g hi]
    have hgb:gb<wr.heap.size:=World.block_lt_of_cell? wr _ (cells 0 (by omega))
    have hk6:decide ((5:Int)<5)=false:=by decide
    have HX:=sd (ai cells (ai hgb (ai HA.out.2.1 (ai HA.out.2.2.1 HA.out.2.2.2))));have q2:=cells 2 (by omega)
    have q3:=cells 3 (by omega)
    clear hcell hF2 hgb cells HA;go_wp2
    go_loopg [11] 5 (fun gj i wq=>∃ (j:Nat),gj+j=5∧i=.int .i64 (j:Nat)∧wq=wr)
    case atStart=>exact ⟨0,by omega,by simp,rfl⟩
    case round =>
     obtain ⟨j,hgj,rfl,rfl⟩:=hrel
     by_cases hj:j<5
     · have hj6:decide ((j:Int)<5)=true:=by simp;omega
       have hjc:=HX.out.1 j hj
       rcases HO.out j hj with h3|h3
       · have h4:(FloatKind.f64.format.order (g j) (g 3) != some Ordering.eq)=false:=by rw [h3];rfl
         go_wp2_with fail
         go_roundg (gk-1)
         case measure=>omega
         case rel=>exact ⟨j+1,by omega,by first | rfl | simp,rfl⟩
       · by_cases h5:FloatKind.f64.format.order (g j) (g 3)=some Ordering.eq
         · have h4:(FloatKind.f64.format.order (g j) (g 3) != some Ordering.eq)=false:=by rw [h5];rfl
           go_wp2_with fail
           go_roundg (gk-1)
           case measure=>omega
           case rel=>exact ⟨j+1,by omega,by first | rfl | simp,rfl⟩
         · have h4:(FloatKind.f64.format.order (g j) (g 3) != some Ordering.eq)=true:=by simp [h5]
           have h6:(FloatKind.f64.format.order (g j) (g 2) != some Ordering.eq)=false:=by rw [h3];rfl
           go_wp2_with fail
           go_roundg (gk-1)
           case measure=>omega
           case rel=>exact ⟨j+1,by omega,by first | rfl | simp,rfl⟩
     · obtain rfl:j=5:=by omega
       have hj6:decide ((5:Int)<5)=false:=by decide
       have q0:=HX.out.1 0 (by omega)
       have q1:=HX.out.1 1 (by omega)
       have q9:=q0;rw [Nat.add_zero] at q9;have u1:(FloatKind.f64.format.order (g 3) (g 2) != some Ordering.eq)=true:=by rw [HU.out.1];rfl
       have u2:=HU.out.1;have HXX:=sd (ai HX.out.2.2.1 (ai HX.out.2.2.2.1 (ai q9 HX.out.2.1)));obtain ⟨x0,x1,x2,x3,x4,x5⟩:=HX.out.2.2.2.1.facts;have T1:=hid (HNr.out wr HX.out.2.2.1);have T2:=hid (HNr.out wr.drew HX.out.2.2.1.drew);clear HX HO
       cases n
       · have u3:FloatKind.f64.format.order (g 1) (g 3)=some Ordering.eq:=HU.out.2
         clear HU
         go_wp2_with fail
         go_cut [14] from 84 to 89 (fun v wx=>v=.bool true∧Aside (Below w.heap.size w wx))
         case first =>
          go_region_held3 (fun w'=>w'.cell? ⟨gb,off,none⟩=some (.float .f64 (g 0))∧w'.cell? ⟨gb,off+0,none⟩=some (.float .f64 (g 0))∧w'.cell? ⟨w.heap.size,0,none⟩=some (.bool false)∧w'.cell? ⟨w.heap.size,1,none⟩=some (.slice a la ca)∧w'.cell? ⟨w.heap.size,2,none⟩=some (.int .i64 e)∧w'.cell? ⟨w.heap.size,3,none⟩=some (.bool m)∧w'.cell? ⟨w.heap.size,4,none⟩=some (.slice b lb cb)∧w'.cell? ⟨w.heap.size,5,none⟩=some (.int .i64 f)) (go_keep) (first
           | (go_at_call 72
              first | with_reducible refine T1.out.mono ?_ | with_reducible refine T2.out.mono ?_
              rintro r v1 ⟨rfl,hb⟩;have hb1:Below w.heap.size w v1:=by first | exact HXX.out.1.trans (hb.mono HXX.out.1.size) | exact HXX.out.1.drew.trans (hb.mono HXX.out.1.size)
              have hw:Below wr.heap.size wr v1:=by first | exact hb | exact ((Below.refl _ wr).drew).trans (hb.mono (Nat.le_refl _))
              obtain ⟨m0,m1,m2,m3,m4,m5⟩:=(HXX.out.2.1.below hw).facts;have m6:=(hw.cell (p:=⟨gb,off,none⟩) HXX.out.2.2.2).trans HXX.out.2.2.1;have m7:v1.cell? ⟨gb,off+0,none⟩=some (.float .f64 (g 0)):=m6;have S4:=sd hb1;clear hb hb1 hw)
           | fail)
          all_goals (
           go_wp2_with fail
           go_meet
           case rel=>exact ⟨rfl,S4⟩)
         case rest =>
          obtain ⟨rfl,Z0⟩:=hcut;clear T1 T2 x0 x1 x2 x3 x4 x5 q0 q1 q9;go_wp2;go_ret;exact ⟨rfl,Z0.out⟩
       · have u3:FloatKind.f64.format.order (g 1) (g 2)=some Ordering.eq:=HU.out.2
         clear HU
         go_wp2_with fail
         go_cut [14] from 84 to 89 (fun v wx=>v=.bool true∧Aside (Below w.heap.size w wx))
         case first =>
          go_region_held3 (fun w'=>w'.cell? ⟨gb,off,none⟩=some (.float .f64 (g 0))∧w'.cell? ⟨gb,off+0,none⟩=some (.float .f64 (g 0))∧w'.cell? ⟨w.heap.size,0,none⟩=some (.bool true)∧w'.cell? ⟨w.heap.size,1,none⟩=some (.slice a la ca)∧w'.cell? ⟨w.heap.size,2,none⟩=some (.int .i64 e)∧w'.cell? ⟨w.heap.size,3,none⟩=some (.bool m)∧w'.cell? ⟨w.heap.size,4,none⟩=some (.slice b lb cb)∧w'.cell? ⟨w.heap.size,5,none⟩=some (.int .i64 f)) (go_keep) (first
           | (go_at_call 72
              first | with_reducible refine T1.out.mono ?_ | with_reducible refine T2.out.mono ?_
              rintro r v1 ⟨rfl,hb⟩;have hb1:Below w.heap.size w v1:=by first | exact HXX.out.1.trans (hb.mono HXX.out.1.size) | exact HXX.out.1.drew.trans (hb.mono HXX.out.1.size)
              have hw:Below wr.heap.size wr v1:=by first | exact hb | exact ((Below.refl _ wr).drew).trans (hb.mono (Nat.le_refl _))
              obtain ⟨m0,m1,m2,m3,m4,m5⟩:=(HXX.out.2.1.below hw).facts;have m6:=(hw.cell (p:=⟨gb,off,none⟩) HXX.out.2.2.2).trans HXX.out.2.2.1;have m7:v1.cell? ⟨gb,off+0,none⟩=some (.float .f64 (g 0)):=m6;have S4:=sd hb1;clear hb hb1 hw)
           | fail)
          all_goals (
           go_wp2_with fail
           go_meet
           case rel=>exact ⟨rfl,S4⟩)
         case rest =>
          obtain ⟨rfl,Z0⟩:=hcut;clear T1 T2 x0 x1 x2 x3 x4 x5 q0 q1 q9;go_wp2;go_ret;exact ⟨rfl,Z0.out⟩
theorem within_s_apart {w:World}{n m:Bool}{a b:Option Addr}{la ca lb cb:Nat}{e f:Int}(g:Nat→Nat) (p:Nat→Nat) (q:Nat→Int)
 (HQ:Hid (∀ (u:World) (k:Nat),k<5→Below w.heap.size w u→Calls Tryz.prog 10 #[.agg #[.bool n,.slice a la ca,.int .i64 e,.bool m,.slice b lb cb,.int .i64 f],.int .i64 (k:Nat)] u fun r w'=>r=.returned (.tuple #[.float .f64 (p k),.int .i64 (q k)])∧Below u.heap.size u w')) (HR:Hid (∀ (u:World) (k:Nat),k<5→Below w.heap.size w u→Calls Tryz.prog 14 #[.agg #[.bool n,.slice a la ca,.int .i64 e,.bool m,.slice b lb cb,.int .i64 f],.int .i64 (k:Nat)] u fun r w'=>r=.returned (.tuple #[.float .f64 (g k),.int .i64 (0)])∧Below u.heap.size u w'))
 (HO:Hid (∀ j:Nat,j<5→FloatKind.f64.format.order (g j) (g 3)=some Ordering.eq∨FloatKind.f64.format.order (g j) (g 2)=some Ordering.eq))
 (HU:Hid (FloatKind.f64.format.order (g 3) (g 2)=some Ordering.lt∧FloatKind.f64.format.order (g 1) (if n then g 2 else g 3)=some Ordering.eq))
 (HNr:Hid (∀ u:World,Below w.heap.size w u→Calls Tryz.prog 72 #[.float .f64 (g 0),.agg #[.bool n,.slice a la ca,.int .i64 e,.bool m,.slice b lb cb,.int .i64 f],.bool true] u fun r w'=>r=.returned (.bool true)∧Below u.heap.size u w'))
 :
 Calls Tryz.prog 38 #[.agg #[.bool n,.slice a la ca,.int .i64 e,.bool m,.slice b lb cb,.int .i64 f],.bool true] w fun r w'=>r=.returned (.bool true)∧Below w.heap.size w w':=by
 obtain ⟨W1,hW1⟩:∃ W,W=w.alloc (.cells #[.bool n,.slice a la ca,.int .i64 e,.bool m,.slice b lb cb,.int .i64 f] 30):=⟨_,rfl⟩;have HB:Aside (Below w.heap.size w W1∧Rq W1 w.heap.size n (.slice a la ca) e m (.slice b lb cb) f):=by rw [hW1];exact ⟨below_alloc _ _,Rq.new _ _ _ _ _ _ _⟩
 go_enter Tryz.func38,Tryz.ntmps38
 go_upto_region 1 with fail
 rw [←hW1];clear hW1;go_wp2
 go_loopg [6,5] 5 (fun gk i v wr=>∃ (k:Nat) (v0:Value),gk+k=5∧i=.int .i64 (k:Nat)∧v=v0∧Aside (wr.ownsRow (w.heap.size+1) 31 1 v0 (Lg g k).length ((Lg g k).map Fw10)∧Below w.heap.size w wr∧Rq wr w.heap.size n (.slice a la ca) e m (.slice b lb cb) f∧w.heap.size+1≤wr.heap.size))
 case atStart=>exact ⟨0,_,by omega,by simp,rfl,World.ownsRow_nil W1 (w.heap.size+1) 31 1,HB.out.1,HB.out.2,HB.out.2.lt⟩
 case round =>
  obtain ⟨k,v,hgk,rfl,hv,HA⟩:=hrel;have hv':=hv.symm;clear hv;subst hv'
  by_cases hk:k<5
  · have hk6:decide ((k:Int)<5)=true:=by simp;omega
    obtain ⟨x0,x1,x2,x3,x4,x5⟩:=HA.out.2.2.1.facts;have HC:=hid (HQ.out wr k hk HA.out.2.1)
    go_wp2_with fail
    refine HC.out.mono ?_;rintro r u1 ⟨rfl,hb⟩;have HD:=sd (ai (own_below10 HA.out.1 hb) (ai (HA.out.2.1.trans (hb.mono HA.out.2.1.size)) (ai (HA.out.2.2.1.below hb) (Nat.le_trans HA.out.2.2.2 hb.size))));clear HC hb x0 x1 x2 x3 x4 x5 HA;obtain ⟨x0,x1,x2,x3,x4,x5⟩:=HD.out.2.2.1.facts;have HC:=hid (HR.out u1 k hk HD.out.2.1)
    go_wp2_with fail
    refine HC.out.mono ?_;rintro r u2 ⟨rfl,hb⟩;have HE:=sd (ai (own_below10 HD.out.1 hb) (ai (HD.out.2.1.trans (hb.mono HD.out.2.1.size)) (ai (HD.out.2.2.1.below hb) (Nat.le_trans HD.out.2.2.2 hb.size))));clear HC hb x0 x1 x2 x3 x4 x5 HD;obtain ⟨v',w',r1,r2,r3,r4⟩:=append10 (w.heap.size+1) v (Lg g k) (g k) u2 HE.out.1 HE.out.2.2.2 (by rw [Lg_len];omega)
    have HR1:=sd r1;have HN:=sd (ai r2 (ai (HE.out.2.1.trans (r3.mono (Nat.le_succ _))) (ai (HE.out.2.2.1.low r3 (Nat.lt_succ_self _)) (Nat.le_trans HE.out.2.2.2 r4))));clear r1 r2 r3 r4 HE
    go_wp2_with (at_builtin;refine wpList_append10 rfl (.tmp 38) (.tmp 40) 94 rfl _ _ rfl rfl _ _ HR1.out ?_)
    go_roundg (gk-1)
    case measure=>omega
    case rel =>
     refine ⟨k+1,_,by omega,by first | rfl | simp,rfl,?_⟩
     rw [Lg_succ];exact HN
  · obtain rfl:k=5:=by omega
    obtain ⟨a2,c2,hv2,hc2,hF2⟩:=own_fs10 HA.out.1 rfl;rw [Lg_len] at hv2 hc2;subst hv2;obtain ⟨gb,off,_,e1,hcell⟩:=hF2 (by intro h;have:=Lg_len g 5;rw [h] at this;cases this)
    subst e1;rw [Lg_len] at hcell;have cells:∀ i,i<5→wr.cell? ⟨gb,off+i,none⟩=some (.float .f64 (g i)):=fun i hi=>by rw [hcell i hi,Lg_get g hi]
    have hgb:gb<wr.heap.size:=World.block_lt_of_cell? wr _ (cells 0 (by omega))
    have hk6:decide ((5:Int)<5)=false:=by decide
    have HX:=sd (ai cells (ai hgb (ai HA.out.2.1 (ai HA.out.2.2.1 HA.out.2.2.2))));have q2:=cells 2 (by omega)
    have q3:=cells 3 (by omega)
    clear hcell hF2 hgb cells HA;go_wp2
    go_loopg [11] 5 (fun gj i wq=>∃ (j:Nat),gj+j=5∧i=.int .i64 (j:Nat)∧wq=wr)
    case atStart=>exact ⟨0,by omega,by simp,rfl⟩
    case round =>
     obtain ⟨j,hgj,rfl,rfl⟩:=hrel
     by_cases hj:j<5
     · have hj6:decide ((j:Int)<5)=true:=by simp;omega
       have hjc:=HX.out.1 j hj
       rcases HO.out j hj with h3|h3
       · have h4:(FloatKind.f64.format.order (g j) (g 3) != some Ordering.eq)=false:=by rw [h3];rfl
         go_wp2_with fail
         go_roundg (gk-1)
         case measure=>omega
         case rel=>exact ⟨j+1,by omega,by first | rfl | simp,rfl⟩
       · by_cases h5:FloatKind.f64.format.order (g j) (g 3)=some Ordering.eq
         · have h4:(FloatKind.f64.format.order (g j) (g 3) != some Ordering.eq)=false:=by rw [h5];rfl
           go_wp2_with fail
           go_roundg (gk-1)
           case measure=>omega
           case rel=>exact ⟨j+1,by omega,by first | rfl | simp,rfl⟩
         · have h4:(FloatKind.f64.format.order (g j) (g 3) != some Ordering.eq)=true:=by simp [h5]
           have h6:(FloatKind.f64.format.order (g j) (g 2) != some Ordering.eq)=false:=by rw [h3];rfl
           go_wp2_with fail
           go_roundg (gk-1)
           case measure=>omega
           case rel=>exact ⟨j+1,by omega,by first | rfl | simp,rfl⟩
     · obtain rfl:j=5:=by omega
       have hj6:decide ((5:Int)<5)=false:=by decide
       have q0:=HX.out.1 0 (by omega)
       have q1:=HX.out.1 1 (by omega)
       have q9:=q0;rw [Nat.add_zero] at q9;have u1:(FloatKind.f64.format.order (g 3) (g 2) != some Ordering.eq)=true:=by rw [HU.out.1];rfl
       have u2:=HU.out.1;have HXX:=sd (ai HX.out.2.2.1 (ai HX.out.2.2.2.1 (ai q9 HX.out.2.1)));obtain ⟨x0,x1,x2,x3,x4,x5⟩:=HX.out.2.2.2.1.facts;have T1:=hid (HNr.out wr HX.out.2.2.1);have T2:=hid (HNr.out wr.drew HX.out.2.2.1.drew);clear HX HO
       cases n
       · have u3:FloatKind.f64.format.order (g 1) (g 3)=some Ordering.eq:=HU.out.2
         clear HU
         go_wp2_with fail
         go_cut [14] from 84 to 89 (fun v wx=>v=.bool true∧Aside (Below w.heap.size w wx))
         case first =>
          go_region_held3 (fun w'=>w'.cell? ⟨gb,off,none⟩=some (.float .f64 (g 0))∧w'.cell? ⟨gb,off+0,none⟩=some (.float .f64 (g 0))∧w'.cell? ⟨w.heap.size,0,none⟩=some (.bool false)∧w'.cell? ⟨w.heap.size,1,none⟩=some (.slice a la ca)∧w'.cell? ⟨w.heap.size,2,none⟩=some (.int .i64 e)∧w'.cell? ⟨w.heap.size,3,none⟩=some (.bool m)∧w'.cell? ⟨w.heap.size,4,none⟩=some (.slice b lb cb)∧w'.cell? ⟨w.heap.size,5,none⟩=some (.int .i64 f)) (go_keep) (first
           | (go_at_call 72
              first | with_reducible refine T1.out.mono ?_ | with_reducible refine T2.out.mono ?_
              rintro r v1 ⟨rfl,hb⟩;have hb1:Below w.heap.size w v1:=by first | exact HXX.out.1.trans (hb.mono HXX.out.1.size) | exact HXX.out.1.drew.trans (hb.mono HXX.out.1.size)
              have hw:Below wr.heap.size wr v1:=by first | exact hb | exact ((Below.refl _ wr).drew).trans (hb.mono (Nat.le_refl _))
              obtain ⟨m0,m1,m2,m3,m4,m5⟩:=(HXX.out.2.1.below hw).facts;have m6:=(hw.cell (p:=⟨gb,off,none⟩) HXX.out.2.2.2).trans HXX.out.2.2.1;have m7:v1.cell? ⟨gb,off+0,none⟩=some (.float .f64 (g 0)):=m6;have S4:=sd hb1;clear hb hb1 hw)
           | fail)
          all_goals (
           go_wp2_with fail
           go_meet
           case rel=>exact ⟨rfl,S4⟩)
         case rest =>
          obtain ⟨rfl,Z0⟩:=hcut;clear T1 T2 x0 x1 x2 x3 x4 x5 q0 q1 q9;go_wp2;go_ret;exact ⟨rfl,Z0.out⟩
       · have u3:FloatKind.f64.format.order (g 1) (g 2)=some Ordering.eq:=HU.out.2
         clear HU
         go_wp2_with fail
         go_cut [14] from 84 to 89 (fun v wx=>v=.bool true∧Aside (Below w.heap.size w wx))
         case first =>
          go_region_held3 (fun w'=>w'.cell? ⟨gb,off,none⟩=some (.float .f64 (g 0))∧w'.cell? ⟨gb,off+0,none⟩=some (.float .f64 (g 0))∧w'.cell? ⟨w.heap.size,0,none⟩=some (.bool true)∧w'.cell? ⟨w.heap.size,1,none⟩=some (.slice a la ca)∧w'.cell? ⟨w.heap.size,2,none⟩=some (.int .i64 e)∧w'.cell? ⟨w.heap.size,3,none⟩=some (.bool m)∧w'.cell? ⟨w.heap.size,4,none⟩=some (.slice b lb cb)∧w'.cell? ⟨w.heap.size,5,none⟩=some (.int .i64 f)) (go_keep) (first
           | (go_at_call 72
              first | with_reducible refine T1.out.mono ?_ | with_reducible refine T2.out.mono ?_
              rintro r v1 ⟨rfl,hb⟩;have hb1:Below w.heap.size w v1:=by first | exact HXX.out.1.trans (hb.mono HXX.out.1.size) | exact HXX.out.1.drew.trans (hb.mono HXX.out.1.size)
              have hw:Below wr.heap.size wr v1:=by first | exact hb | exact ((Below.refl _ wr).drew).trans (hb.mono (Nat.le_refl _))
              obtain ⟨m0,m1,m2,m3,m4,m5⟩:=(HXX.out.2.1.below hw).facts;have m6:=(hw.cell (p:=⟨gb,off,none⟩) HXX.out.2.2.2).trans HXX.out.2.2.1;have m7:v1.cell? ⟨gb,off+0,none⟩=some (.float .f64 (g 0)):=m6;have S4:=sd hb1;clear hb hb1 hw)
           | fail)
          all_goals (
           go_wp2_with fail
           go_meet
           case rel=>exact ⟨rfl,S4⟩)
         case rest =>
          obtain ⟨rfl,Z0⟩:=hcut;clear T1 T2 x0 x1 x2 x3 x4 x5 q0 q1 q9;go_wp2;go_ret;exact ⟨rfl,Z0.out⟩
theorem within_q_same {w:World}{n m:Bool}{a b:Option Addr}{la ca lb cb:Nat}{e f:Int}(g:Nat→Nat) (p:Nat→Nat) (q:Nat→Int) {X Y:Nat}(o1 o3:Option (Bool×Nat×Int))
 (HQ:Hid (∀ (u:World) (k:Nat),k<5→Below w.heap.size w u→Calls Tryz.prog 10 #[.agg #[.bool n,.slice a la ca,.int .i64 e,.bool m,.slice b lb cb,.int .i64 f],.int .i64 (k:Nat)] u fun r w'=>r=.returned (.tuple #[.float .f64 (g k),.int .i64 (0)])∧Below u.heap.size u w'))
 (HO:Hid (∀ j:Nat,j<5→FloatKind.f64.format.order (g j) (g 3)=some Ordering.eq∨FloatKind.f64.format.order (g j) (g 2)=some Ordering.eq))
 (HU:Hid (FloatKind.f64.format.order (g 3) (g 2)=some Ordering.eq))
 (HOf:Hid (∀ u:World,Calls Tryz.prog 73 #[.float .f64 (g 3)] u fun r w'=>(∃ p k,r=.returned (.tuple #[.agg #[.bool (dN o1),p,.int .i64 (dE o1)],.int .i64 k])∧Nt u.heap.size w' p (dX o1))∧Below u.heap.size u w'))
 (hN:Aside (Al w (.slice a la ca) X)) (hD:Aside (Al w (.slice b lb cb) Y)) (BD:Aside ((-9223372036854775808≤e∧e≤9223372036854775807)∧-9223372036854775808≤f∧f≤9223372036854775807))
 (FF:Aside (Fm o1∧Fm o3))
 (EQ:Aside (mulD o1 (mkS m Y f)=o3∧cmpV (dN o3) (dX o3) (dE o3) n X e=0))
 :
 Calls Tryz.prog 38 #[.agg #[.bool n,.slice a la ca,.int .i64 e,.bool m,.slice b lb cb,.int .i64 f],.bool false] w fun r w'=>r=.returned (.bool true)∧Below w.heap.size w w':=by
 obtain ⟨W1,hW1⟩:∃ W,W=w.alloc (.cells #[.bool n,.slice a la ca,.int .i64 e,.bool m,.slice b lb cb,.int .i64 f] 30):=⟨_,rfl⟩;have HB:Aside (Below w.heap.size w W1∧Rq W1 w.heap.size n (.slice a la ca) e m (.slice b lb cb) f):=by rw [hW1];exact ⟨below_alloc _ _,Rq.new _ _ _ _ _ _ _⟩
 go_enter Tryz.func38,Tryz.ntmps38
 go_upto_region 1 with fail
 rw [←hW1];clear hW1;go_wp2
 go_loopg [6,5] 5 (fun gk i v wr=>∃ (k:Nat) (v0:Value),gk+k=5∧i=.int .i64 (k:Nat)∧v=v0∧Aside (wr.ownsRow (w.heap.size+1) 31 1 v0 (Lg g k).length ((Lg g k).map Fw10)∧Below w.heap.size w wr∧Rq wr w.heap.size n (.slice a la ca) e m (.slice b lb cb) f∧w.heap.size+1≤wr.heap.size))
 case atStart=>exact ⟨0,_,by omega,by simp,rfl,World.ownsRow_nil W1 (w.heap.size+1) 31 1,HB.out.1,HB.out.2,HB.out.2.lt⟩
 case round =>
  obtain ⟨k,v,hgk,rfl,hv,HA⟩:=hrel;have hv':=hv.symm;clear hv;subst hv'
  by_cases hk:k<5
  · have hk6:decide ((k:Int)<5)=true:=by simp;omega
    obtain ⟨x0,x1,x2,x3,x4,x5⟩:=HA.out.2.2.1.facts;have HC:=hid (HQ.out wr k hk HA.out.2.1)
    go_wp2_with fail
    refine HC.out.mono ?_;rintro r u1 ⟨rfl,hb⟩;have HD:=sd (ai (own_below10 HA.out.1 hb) (ai (HA.out.2.1.trans (hb.mono HA.out.2.1.size)) (ai (HA.out.2.2.1.below hb) (Nat.le_trans HA.out.2.2.2 hb.size))));clear HC hb x0 x1 x2 x3 x4 x5 HA;obtain ⟨v',w',r1,r2,r3,r4⟩:=append10 (w.heap.size+1) v (Lg g k) (g k) u1 HD.out.1 HD.out.2.2.2 (by rw [Lg_len];omega)
    have HR1:=sd r1;have HN:=sd (ai r2 (ai (HD.out.2.1.trans (r3.mono (Nat.le_succ _))) (ai (HD.out.2.2.1.low r3 (Nat.lt_succ_self _)) (Nat.le_trans HD.out.2.2.2 r4))));clear r1 r2 r3 r4 HD
    go_wp2_with (at_builtin;refine wpList_append10 rfl (.tmp 38) (.tmp 40) 94 rfl _ _ rfl rfl _ _ HR1.out ?_)
    go_roundg (gk-1)
    case measure=>omega
    case rel =>
     refine ⟨k+1,_,by omega,by first | rfl | simp,rfl,?_⟩
     rw [Lg_succ];exact HN
  · obtain rfl:k=5:=by omega
    obtain ⟨a2,c2,hv2,hc2,hF2⟩:=own_fs10 HA.out.1 rfl;rw [Lg_len] at hv2 hc2;subst hv2;obtain ⟨gb,off,_,e1,hcell⟩:=hF2 (by intro h;have:=Lg_len g 5;rw [h] at this;cases this)
    subst e1;rw [Lg_len] at hcell;have cells:∀ i,i<5→wr.cell? ⟨gb,off+i,none⟩=some (.float .f64 (g i)):=fun i hi=>by rw [hcell i hi,Lg_get g hi]
    have hgb:gb<wr.heap.size:=World.block_lt_of_cell? wr _ (cells 0 (by omega))
    have hk6:decide ((5:Int)<5)=false:=by decide
    have HX:=sd (ai cells (ai hgb (ai HA.out.2.1 (ai HA.out.2.2.1 HA.out.2.2.2))));have q2:=cells 2 (by omega)
    have q3:=cells 3 (by omega)
    clear hcell hF2 hgb cells HA;go_wp2
    go_loopg [11] 5 (fun gj i wq=>∃ (j:Nat),gj+j=5∧i=.int .i64 (j:Nat)∧wq=wr)
    case atStart=>exact ⟨0,by omega,by simp,rfl⟩
    case round =>
     obtain ⟨j,hgj,rfl,rfl⟩:=hrel
     by_cases hj:j<5
     · have hj6:decide ((j:Int)<5)=true:=by simp;omega
       have hjc:=HX.out.1 j hj
       rcases HO.out j hj with h3|h3
       · have h4:(FloatKind.f64.format.order (g j) (g 3) != some Ordering.eq)=false:=by rw [h3];rfl
         go_wp2_with fail
         go_roundg (gk-1)
         case measure=>omega
         case rel=>exact ⟨j+1,by omega,by first | rfl | simp,rfl⟩
       · by_cases h5:FloatKind.f64.format.order (g j) (g 3)=some Ordering.eq
         · have h4:(FloatKind.f64.format.order (g j) (g 3) != some Ordering.eq)=false:=by rw [h5];rfl
           go_wp2_with fail
           go_roundg (gk-1)
           case measure=>omega
           case rel=>exact ⟨j+1,by omega,by first | rfl | simp,rfl⟩
         · have h4:(FloatKind.f64.format.order (g j) (g 3) != some Ordering.eq)=true:=by simp [h5]
           have h6:(FloatKind.f64.format.order (g j) (g 2) != some Ordering.eq)=false:=by rw [h3];rfl
           go_wp2_with fail
           go_roundg (gk-1)
           case measure=>omega
           case rel=>exact ⟨j+1,by omega,by first | rfl | simp,rfl⟩
     · obtain rfl:j=5:=by omega
       have hj6:decide ((5:Int)<5)=false:=by decide
       have u1:(FloatKind.f64.format.order (g 3) (g 2) != some Ordering.eq)=false:=by rw [HU.out];rfl
       have u2:=HU.out;have S0:=sd (ai HX.out.2.2.1 (ai HX.out.2.2.2.1 (ai (hN.out.below HX.out.2.2.1) (hD.out.below HX.out.2.2.1))));have hQ0:Aside (w.heap.size<wr.heap.size):=sd HX.out.2.2.2.1.lt;clear HX HO HU hN hD q2 q3;obtain ⟨bel,QR,AN,AD⟩:=S0.out;have HC:=hid (HOf.out wr);clear bel QR AN AD
       go_wp2_with fail
       refine HC.out.mono ?_;rintro r u1 ⟨⟨p,k1,rfl,hN⟩,hb⟩;obtain ⟨q1,d1,rfl,-⟩:=hN.shape;clear HC;obtain ⟨bel,QR,AN,AD⟩:=S0.out;have hbn:=bel.trans (hb.mono bel.size);have S1:=sd (ai hbn (ai (QR.below hb) (ai (AN.below hb) (ai (AD.below hb) (hN.al FF.out.1)))));clear bel QR AN AD;clear hb hbn S0;clear hN HOf
       have hSQ:Aside (w.heap.size<u1.heap.size):=by
        obtain ⟨bel,QR,AN,AD,A1⟩:=S1.out;exact sd QR.lt
       obtain ⟨A2,hU2⟩:∃ U,U=u1.alloc (.cells #[.bool (dN o1),.slice q1 (ws (dX o1)).length d1,.int .i64 (dE o1)] 27):=⟨_,rfl⟩;obtain ⟨bel,QR,AN,AD,A1⟩:=S1.out;have hbA:Below u1.heap.size u1 A2:=by rw [hU2];exact below_alloc _ _
       have hbB:=bel.trans (hbA.mono bel.size);have T2:=ai hbB (ai (QR.below hbA) (ai (AN.below hbA) (ai (AD.below hbA) (ai (A1.below hbA) (show Dk A2 u1.heap.size (dN o1) (.slice q1 (ws (dX o1)).length d1) (dE o1) by rw [hU2];exact Dk.new _ _ _ _)))))
       have S2:=sd T2;clear bel QR AN AD A1;clear hbA hbB T2 S1;obtain ⟨x0,x1,x2,x3,x4,x5⟩:=S2.out.2.2.2.2.2.facts;obtain ⟨y0,y1,y2,y3,y4,y5⟩:=S2.out.2.1.facts;obtain ⟨bel,QR,AN,AD,A1,D1⟩:=S2.out;have HC:=hid (rmulW A1 AD FF.out.1.rng BD.out.2 o3 (by rw [FF.out.1.re];exact EQ.out.1))
       clear bel QR AN AD A1 D1
       go_upto_region 28 with fail
       rw [←hU2];clear hU2
       go_wp2_with fail
       clear x0 x1 x2 x3 x4 x5 y0 y1 y2 y3 y4 y5;refine HC.out.mono ?_;rintro r u3 ⟨⟨p,rfl,hN⟩,hb⟩;obtain ⟨q3,d3,rfl,-⟩:=hN.shape;clear HC;obtain ⟨bel,QR,AN,AD,A1,D1⟩:=S2.out;have hbn:=bel.trans (hb.mono bel.size);have S3:=sd (ai hbn (ai (QR.below hb) (ai (AN.below hb) (ai (AD.below hb) (ai (A1.below hb) (ai (D1.below hb) (hN.al FF.out.2)))))));clear bel QR AN AD A1 D1;clear hb hbn S2;clear hN;obtain ⟨A4,hU4⟩:∃ U,U=u3.alloc (.cells #[.bool (dN o3),.slice q3 (ws (dX o3)).length d3,.int .i64 (dE o3)] 27):=⟨_,rfl⟩;obtain ⟨bel,QR,AN,AD,A1,D1,A3⟩:=S3.out;have hbA:Below u3.heap.size u3 A4:=by rw [hU4];exact below_alloc _ _
       have hbB:=bel.trans (hbA.mono bel.size);have T4:=ai hbB (ai (QR.below hbA) (ai (AN.below hbA) (ai (AD.below hbA) (ai (A1.below hbA) (ai (D1.below hbA) (ai (A3.below hbA) (show Dk A4 u3.heap.size (dN o3) (.slice q3 (ws (dX o3)).length d3) (dE o3) by rw [hU4];exact Dk.new _ _ _ _)))))))
       have S4:=sd T4;clear bel QR AN AD A1 D1 A3;clear hbA hbB T4 S3;obtain ⟨x0,x1,x2,x3,x4,x5⟩:=S4.out.2.2.2.2.2.2.2.facts;obtain ⟨y0,y1,y2,y3,y4,y5⟩:=S4.out.2.1.facts;obtain ⟨bel,QR,AN,AD,A1,D1,A3,D3⟩:=S4.out;have HC:=hid (rcmpW A3 AN FF.out.2.rng BD.out.1 0 EQ.out.2);clear bel QR AN AD A1 D1 A3 D3
       go_upto_region 29 with fail
       rw [←hU4];clear hU4
       go_wp2_with fail
       clear x0 x1 x2 x3 x4 x5 y0 y1 y2 y3 y4 y5;refine HC.out.mono ?_;rintro r u5 ⟨rfl,hb⟩;clear HC;obtain ⟨bel,QR,AN,AD,A1,D1,A3,D3⟩:=S4.out;have hbn:=bel.trans (hb.mono bel.size);have S5:=sd (ai hbn (ai (QR.below hb) (ai (AN.below hb) (ai (AD.below hb) (ai (A1.below hb) (ai (D1.below hb) (ai (A3.below hb) (D3.below hb))))))));clear bel QR AN AD A1 D1 A3 D3;clear hb hbn S4;have S99:=sd S5.out.1;clear S5 FF EQ BD;go_wp2;go_ret;exact ⟨rfl,S99.out⟩
theorem within_s_same {w:World}{n m:Bool}{a b:Option Addr}{la ca lb cb:Nat}{e f:Int}(g:Nat→Nat) (p:Nat→Nat) (q:Nat→Int) {X Y:Nat}(o1 o2 o3:Option (Bool×Nat×Int))
 (HQ:Hid (∀ (u:World) (k:Nat),k<5→Below w.heap.size w u→Calls Tryz.prog 10 #[.agg #[.bool n,.slice a la ca,.int .i64 e,.bool m,.slice b lb cb,.int .i64 f],.int .i64 (k:Nat)] u fun r w'=>r=.returned (.tuple #[.float .f64 (p k),.int .i64 (q k)])∧Below u.heap.size u w')) (HR:Hid (∀ (u:World) (k:Nat),k<5→Below w.heap.size w u→Calls Tryz.prog 14 #[.agg #[.bool n,.slice a la ca,.int .i64 e,.bool m,.slice b lb cb,.int .i64 f],.int .i64 (k:Nat)] u fun r w'=>r=.returned (.tuple #[.float .f64 (g k),.int .i64 (0)])∧Below u.heap.size u w'))
 (HO:Hid (∀ j:Nat,j<5→FloatKind.f64.format.order (g j) (g 3)=some Ordering.eq∨FloatKind.f64.format.order (g j) (g 2)=some Ordering.eq))
 (HU:Hid (FloatKind.f64.format.order (g 3) (g 2)=some Ordering.eq))
 (HOf:Hid (∀ u:World,Calls Tryz.prog 73 #[.float .f64 (g 3)] u fun r w'=>(∃ p k,r=.returned (.tuple #[.agg #[.bool (dN o1),p,.int .i64 (dE o1)],.int .i64 k])∧Nt u.heap.size w' p (dX o1))∧Below u.heap.size u w'))
 (hN:Aside (Al w (.slice a la ca) X)) (hD:Aside (Al w (.slice b lb cb) Y)) (BD:Aside ((-9223372036854775808≤e∧e≤9223372036854775807)∧-9223372036854775808≤f∧f≤9223372036854775807))
 (FF:Aside (Fm o1∧Fm o2∧Fm o3))
 (EQ:Aside (mulD o1 o1=o2∧mulD o2 (mkS m Y f)=o3∧cmpV (dN o3) (dX o3) (dE o3) n X e=0))
 :
 Calls Tryz.prog 38 #[.agg #[.bool n,.slice a la ca,.int .i64 e,.bool m,.slice b lb cb,.int .i64 f],.bool true] w fun r w'=>r=.returned (.bool true)∧Below w.heap.size w w':=by
 obtain ⟨W1,hW1⟩:∃ W,W=w.alloc (.cells #[.bool n,.slice a la ca,.int .i64 e,.bool m,.slice b lb cb,.int .i64 f] 30):=⟨_,rfl⟩;have HB:Aside (Below w.heap.size w W1∧Rq W1 w.heap.size n (.slice a la ca) e m (.slice b lb cb) f):=by rw [hW1];exact ⟨below_alloc _ _,Rq.new _ _ _ _ _ _ _⟩
 go_enter Tryz.func38,Tryz.ntmps38
 go_upto_region 1 with fail
 rw [←hW1];clear hW1;go_wp2
 go_loopg [6,5] 5 (fun gk i v wr=>∃ (k:Nat) (v0:Value),gk+k=5∧i=.int .i64 (k:Nat)∧v=v0∧Aside (wr.ownsRow (w.heap.size+1) 31 1 v0 (Lg g k).length ((Lg g k).map Fw10)∧Below w.heap.size w wr∧Rq wr w.heap.size n (.slice a la ca) e m (.slice b lb cb) f∧w.heap.size+1≤wr.heap.size))
 case atStart=>exact ⟨0,_,by omega,by simp,rfl,World.ownsRow_nil W1 (w.heap.size+1) 31 1,HB.out.1,HB.out.2,HB.out.2.lt⟩
 case round =>
  obtain ⟨k,v,hgk,rfl,hv,HA⟩:=hrel;have hv':=hv.symm;clear hv;subst hv'
  by_cases hk:k<5
  · have hk6:decide ((k:Int)<5)=true:=by simp;omega
    obtain ⟨x0,x1,x2,x3,x4,x5⟩:=HA.out.2.2.1.facts;have HC:=hid (HQ.out wr k hk HA.out.2.1)
    go_wp2_with fail
    refine HC.out.mono ?_;rintro r u1 ⟨rfl,hb⟩;have HD:=sd (ai (own_below10 HA.out.1 hb) (ai (HA.out.2.1.trans (hb.mono HA.out.2.1.size)) (ai (HA.out.2.2.1.below hb) (Nat.le_trans HA.out.2.2.2 hb.size))));clear HC hb x0 x1 x2 x3 x4 x5 HA;obtain ⟨x0,x1,x2,x3,x4,x5⟩:=HD.out.2.2.1.facts;have HC:=hid (HR.out u1 k hk HD.out.2.1)
    go_wp2_with fail
    refine HC.out.mono ?_;rintro r u2 ⟨rfl,hb⟩;have HE:=sd (ai (own_below10 HD.out.1 hb) (ai (HD.out.2.1.trans (hb.mono HD.out.2.1.size)) (ai (HD.out.2.2.1.below hb) (Nat.le_trans HD.out.2.2.2 hb.size))));clear HC hb x0 x1 x2 x3 x4 x5 HD;obtain ⟨v',w',r1,r2,r3,r4⟩:=append10 (w.heap.size+1) v (Lg g k) (g k) u2 HE.out.1 HE.out.2.2.2 (by rw [Lg_len];omega)
    have HR1:=sd r1;have HN:=sd (ai r2 (ai (HE.out.2.1.trans (r3.mono (Nat.le_succ _))) (ai (HE.out.2.2.1.low r3 (Nat.lt_succ_self _)) (Nat.le_trans HE.out.2.2.2 r4))));clear r1 r2 r3 r4 HE
    go_wp2_with (at_builtin;refine wpList_append10 rfl (.tmp 38) (.tmp 40) 94 rfl _ _ rfl rfl _ _ HR1.out ?_)
    go_roundg (gk-1)
    case measure=>omega
    case rel =>
     refine ⟨k+1,_,by omega,by first | rfl | simp,rfl,?_⟩
     rw [Lg_succ];exact HN
  · obtain rfl:k=5:=by omega
    obtain ⟨a2,c2,hv2,hc2,hF2⟩:=own_fs10 HA.out.1 rfl;rw [Lg_len] at hv2 hc2;subst hv2;obtain ⟨gb,off,_,e1,hcell⟩:=hF2 (by intro h;have:=Lg_len g 5;rw [h] at this;cases this)
    subst e1;rw [Lg_len] at hcell;have cells:∀ i,i<5→wr.cell? ⟨gb,off+i,none⟩=some (.float .f64 (g i)):=fun i hi=>by rw [hcell i hi,Lg_get g hi]
    have hgb:gb<wr.heap.size:=World.block_lt_of_cell? wr _ (cells 0 (by omega))
    have hk6:decide ((5:Int)<5)=false:=by decide
    have HX:=sd (ai cells (ai hgb (ai HA.out.2.1 (ai HA.out.2.2.1 HA.out.2.2.2))));have q2:=cells 2 (by omega)
    have q3:=cells 3 (by omega)
    clear hcell hF2 hgb cells HA;go_wp2
    go_loopg [11] 5 (fun gj i wq=>∃ (j:Nat),gj+j=5∧i=.int .i64 (j:Nat)∧wq=wr)
    case atStart=>exact ⟨0,by omega,by simp,rfl⟩
    case round =>
     obtain ⟨j,hgj,rfl,rfl⟩:=hrel
     by_cases hj:j<5
     · have hj6:decide ((j:Int)<5)=true:=by simp;omega
       have hjc:=HX.out.1 j hj
       rcases HO.out j hj with h3|h3
       · have h4:(FloatKind.f64.format.order (g j) (g 3) != some Ordering.eq)=false:=by rw [h3];rfl
         go_wp2_with fail
         go_roundg (gk-1)
         case measure=>omega
         case rel=>exact ⟨j+1,by omega,by first | rfl | simp,rfl⟩
       · by_cases h5:FloatKind.f64.format.order (g j) (g 3)=some Ordering.eq
         · have h4:(FloatKind.f64.format.order (g j) (g 3) != some Ordering.eq)=false:=by rw [h5];rfl
           go_wp2_with fail
           go_roundg (gk-1)
           case measure=>omega
           case rel=>exact ⟨j+1,by omega,by first | rfl | simp,rfl⟩
         · have h4:(FloatKind.f64.format.order (g j) (g 3) != some Ordering.eq)=true:=by simp [h5]
           have h6:(FloatKind.f64.format.order (g j) (g 2) != some Ordering.eq)=false:=by rw [h3];rfl
           go_wp2_with fail
           go_roundg (gk-1)
           case measure=>omega
           case rel=>exact ⟨j+1,by omega,by first | rfl | simp,rfl⟩
     · obtain rfl:j=5:=by omega
       have hj6:decide ((5:Int)<5)=false:=by decide
       have u1:(FloatKind.f64.format.order (g 3) (g 2) != some Ordering.eq)=false:=by rw [HU.out];rfl
       have u2:=HU.out;have S0:=sd (ai HX.out.2.2.1 (ai HX.out.2.2.2.1 (ai (hN.out.below HX.out.2.2.1) (hD.out.below HX.out.2.2.1))));have hQ0:Aside (w.heap.size<wr.heap.size):=sd HX.out.2.2.2.1.lt;clear HX HO HU hN hD q2 q3;obtain ⟨bel,QR,AN,AD⟩:=S0.out;have HC:=hid (HOf.out wr);clear bel QR AN AD
       go_wp2_with fail
       refine HC.out.mono ?_;rintro r u1 ⟨⟨p,k1,rfl,hN⟩,hb⟩;obtain ⟨q1,d1,rfl,-⟩:=hN.shape;clear HC;obtain ⟨bel,QR,AN,AD⟩:=S0.out;have hbn:=bel.trans (hb.mono bel.size);have S1:=sd (ai hbn (ai (QR.below hb) (ai (AN.below hb) (ai (AD.below hb) (hN.al FF.out.1)))));clear bel QR AN AD;clear hb hbn S0;clear hN HOf
       have hSQ:Aside (w.heap.size<u1.heap.size):=by
        obtain ⟨bel,QR,AN,AD,A1⟩:=S1.out;exact sd QR.lt
       obtain ⟨A2,hU2⟩:∃ U,U=u1.alloc (.cells #[.bool (dN o1),.slice q1 (ws (dX o1)).length d1,.int .i64 (dE o1)] 27):=⟨_,rfl⟩;obtain ⟨bel,QR,AN,AD,A1⟩:=S1.out;have hbA:Below u1.heap.size u1 A2:=by rw [hU2];exact below_alloc _ _
       have hbB:=bel.trans (hbA.mono bel.size);have T2:=ai hbB (ai (QR.below hbA) (ai (AN.below hbA) (ai (AD.below hbA) (ai (A1.below hbA) (show Dk A2 u1.heap.size (dN o1) (.slice q1 (ws (dX o1)).length d1) (dE o1) by rw [hU2];exact Dk.new _ _ _ _)))))
       have S2:=sd T2;clear bel QR AN AD A1;clear hbA hbB T2 S1;obtain ⟨x0,x1,x2,x3,x4,x5⟩:=S2.out.2.2.2.2.2.facts;obtain ⟨bel,QR,AN,AD,A1,D1⟩:=S2.out;have HC:=hid (rmulW A1 A1 FF.out.1.rng FF.out.1.rng o2 (by rw [FF.out.1.re];exact EQ.out.1))
       clear bel QR AN AD A1 D1
       go_upto_region 27 with fail
       rw [←hU2];clear hU2
       go_wp2_with fail
       clear x0 x1 x2 x3 x4 x5;refine HC.out.mono ?_;rintro r u3 ⟨⟨p,rfl,hN⟩,hb⟩;obtain ⟨q2,d2,rfl,-⟩:=hN.shape;clear HC;obtain ⟨bel,QR,AN,AD,A1,D1⟩:=S2.out;have hbn:=bel.trans (hb.mono bel.size);have S3:=sd (ai hbn (ai (QR.below hb) (ai (AN.below hb) (ai (AD.below hb) (ai (D1.below hb) (hN.al FF.out.2.1))))));clear bel QR AN AD A1 D1;clear hb hbn S2;clear hN;obtain ⟨A4,hU4⟩:∃ U,U=st3 u3 u1.heap.size (.bool (dN o2)) (.slice q2 (ws (dX o2)).length d2) (.int .i64 (dE o2)):=⟨_,rfl⟩;obtain ⟨bel,QR,AN,AD,D1,A2⟩:=S3.out;have hbB:Below w.heap.size w A4:=by rw [hU4];exact below_st3 bel bel.size (by have:=hSQ.out;omega) _ _ _
       obtain ⟨z0,z1,z2,z3,z4,z5⟩:=D1.facts;have S4:=sd (ai hbB (ai ((show Rq A4 w.heap.size n (.slice a la ca) e m (.slice b lb cb) f by rw [hU4];exact QR.but (set3_but _ _ _ _ _) (by have:=hSQ.out;omega))) (ai ((show Al A4 (.slice a la ca) X by rw [hU4];exact AN.off D1 _ _ _)) (ai ((show Al A4 (.slice b lb cb) Y by rw [hU4];exact AD.off D1 _ _ _)) (ai ((show Dk A4 u1.heap.size (dN o2) (.slice q2 (ws (dX o2)).length d2) (dE o2) by rw [hU4];exact D1.set _ _ _)) (show Al A4 (.slice q2 (ws (dX o2)).length d2) (dX o2) by rw [hU4];exact A2.off D1 _ _ _))))))
       clear bel QR AN AD D1 A2;clear hbB S3;unfold st3 at hU4
       go_upto_region 28 with fail
       rw [←hU4];clear hU4 z0 z1 z2 z3 z4 z5;obtain ⟨x0,x1,x2,x3,x4,x5⟩:=S4.out.2.2.2.2.1.facts;obtain ⟨y0,y1,y2,y3,y4,y5⟩:=S4.out.2.1.facts;obtain ⟨bel,QR,AN,AD,D1,A2⟩:=S4.out;have HC:=hid (rmulW A2 AD FF.out.2.1.rng BD.out.2 o3 (by rw [FF.out.2.1.re];exact EQ.out.2.1))
       clear bel QR AN AD D1 A2
       go_wp2_with fail
       clear x0 x1 x2 x3 x4 x5 y0 y1 y2 y3 y4 y5;refine HC.out.mono ?_;rintro r u5 ⟨⟨p,rfl,hN⟩,hb⟩;obtain ⟨q3,d3,rfl,-⟩:=hN.shape;clear HC;obtain ⟨bel,QR,AN,AD,D1,A2⟩:=S4.out;have hbn:=bel.trans (hb.mono bel.size);have S5:=sd (ai hbn (ai (QR.below hb) (ai (AN.below hb) (ai (AD.below hb) (ai (D1.below hb) (ai (A2.below hb) (hN.al FF.out.2.2)))))));clear bel QR AN AD D1 A2;clear hb hbn S4;clear hN;obtain ⟨A6,hU6⟩:∃ U,U=u5.alloc (.cells #[.bool (dN o3),.slice q3 (ws (dX o3)).length d3,.int .i64 (dE o3)] 27):=⟨_,rfl⟩;obtain ⟨bel,QR,AN,AD,D1,A2,A3⟩:=S5.out;have hbA:Below u5.heap.size u5 A6:=by rw [hU6];exact below_alloc _ _
       have hbB:=bel.trans (hbA.mono bel.size);have T6:=ai hbB (ai (QR.below hbA) (ai (AN.below hbA) (ai (AD.below hbA) (ai (D1.below hbA) (ai (A2.below hbA) (ai (A3.below hbA) (show Dk A6 u5.heap.size (dN o3) (.slice q3 (ws (dX o3)).length d3) (dE o3) by rw [hU6];exact Dk.new _ _ _ _)))))))
       have S6:=sd T6;clear bel QR AN AD D1 A2 A3;clear hbA hbB T6 S5;obtain ⟨x0,x1,x2,x3,x4,x5⟩:=S6.out.2.2.2.2.2.2.2.facts;obtain ⟨y0,y1,y2,y3,y4,y5⟩:=S6.out.2.1.facts;obtain ⟨bel,QR,AN,AD,D1,A2,A3,D3⟩:=S6.out;have HC:=hid (rcmpW A3 AN FF.out.2.2.rng BD.out.1 0 EQ.out.2.2);clear bel QR AN AD D1 A2 A3 D3
       go_upto_region 29 with fail
       rw [←hU6];clear hU6
       go_wp2_with fail
       clear x0 x1 x2 x3 x4 x5 y0 y1 y2 y3 y4 y5;refine HC.out.mono ?_;rintro r u7 ⟨rfl,hb⟩;clear HC;obtain ⟨bel,QR,AN,AD,D1,A2,A3,D3⟩:=S6.out;have hbn:=bel.trans (hb.mono bel.size);have S7:=sd (ai hbn (ai (QR.below hb) (ai (AN.below hb) (ai (AD.below hb) (ai (D1.below hb) (ai (A2.below hb) (ai (A3.below hb) (D3.below hb))))))));clear bel QR AN AD D1 A2 A3 D3;clear hb hbn S6;have S99:=sd S7.out.1;clear S7 FF EQ BD;go_wp2;go_ret;exact ⟨rfl,S99.out⟩
end
end
section
open Go.RowKit
theorem cmpZ_scale (x y c:Int) (hc:0<c):cmpZ (x*c) (y*c)=cmpZ x y:=by
 unfold cmpZ;have h1:x*c<y*c↔x<y:=⟨fun h=>Int.lt_of_mul_lt_mul_right h (Int.le_of_lt hc),fun h=>Int.mul_lt_mul_of_pos_right h hc⟩
 have h2:y*c<x*c↔y<x:=⟨fun h=>Int.lt_of_mul_lt_mul_right h (Int.le_of_lt hc),fun h=>Int.mul_lt_mul_of_pos_right h hc⟩
 simp only [h1,h2]
theorem cmpZ_negs (x y:Int):cmpZ (-x) (-y)=cmpZ y x:=by
 unfold cmpZ
 (repeat' split) <;> omega
theorem cmp_fv {o p:Option (Bool×Nat×Int)}{C x y:Int}(hC:C≤-1048576) (h1:Fv C o x) (h2:Fv C p y):cmpV (dN o) (dX o) (dE o) (dN p) (dX p) (dE p)=cmpZ x y:=by
 obtain ⟨n,X,e,rfl,F,hx⟩:=h1.ex;obtain ⟨m,Y,f,rfl,G,hy⟩:=h2.ex
 show cmpV n X e m Y f=_
 rw [cmpV_z n X e m Y f C (Int.le_trans hC F.down) (Int.le_trans hC G.down),←hx,←hy];rfl
theorem frm_fv {n:Bool}{X:Nat}{e:Int}(F:Frm n X e) (B:Int):Fv B (some (n,X,e)) (zv B (n,X,e)):=⟨n,X,e,rfl,F,rfl⟩
theorem ofK_fv (s:Bool) (K:Nat) (hK:K<9218868437227405312) {B:Int}(hB:B≤-1048576):Fv B (ofK s K) (sg1 s*((vK K*2^(-1074-B).toNat:Nat):Int)):=by
 obtain ⟨n,X,e,h1,F,_,_,h2⟩:=ofK_val s K hK;exact ⟨n,X,e,h1,F,h2 B (by omega)⟩
theorem ofK_iv (s:Bool) (K:Nat) (hK:K<9218868437227405312):Iv (ofK s K) (-1074) 1024:=by
 obtain ⟨x,hx⟩:∃ x,K/4503599627370496=x:=⟨_,rfl⟩;obtain ⟨f,hf⟩:∃ f,K%4503599627370496=f:=⟨_,rfl⟩;have hxl:x<2047:=by omega
 have hfl:f<4503599627370496:=by omega
 obtain ⟨M,hM⟩:∃ M,(if x=0 then f else f+4503599627370496)=M:=⟨_,rfl⟩
 obtain ⟨E,hE⟩:∃ E:Int,(if x=0 then (-1074:Int) else (x:Int)-1075)=E:=⟨_,rfl⟩
 have hME:(x=0∧M=f∧E=-1074)∨(x≠0∧M=f+4503599627370496∧E=(x:Int)-1075):=by
  by_cases h:x=0
  · rw [if_pos h] at hM hE;exact .inl ⟨h,hM.symm,hE.symm⟩
  · rw [if_neg h] at hM hE;exact .inr ⟨h,hM.symm,hE.symm⟩
 have hMl:M<9007199254740992:=by omega
 have hO:ofK s K=mkS s M E:=by unfold ofK ofR;rw [hx,hf,if_neg (by omega),hM,hE]
 rw [hO];have hb:=bl_le53 M hMl;exact mkS_iv s M E (-1074) 1024 (.inr (by omega)) (by omega) (by omega) (by omega)
theorem bl_one:bl 1≤1:=by decide
theorem one_iv (k:Int) (h0:0≤k) (h1:k≤10):Iv (mkS false 1 k) 0 11:=by
 have h:=bl_one;exact mkS_iv false 1 k 0 11 (.inr ⟨h0,by omega⟩) (by omega) (by omega) (by omega)
theorem one_fv (k:Int) (h0:0≤k) (h1:k≤10) {B:Int}(hB:B≤-1048576):Fv B (mkS false 1 k) ((2^(k-B).toNat:Nat):Int):=by
 have h:=Fv.raw (n:=false) (X:=1) (e:=k) (B:=B) (by omega) (one_iv k h0 h1).some
 rw [Nat.one_mul,show sg1 false=1 from rfl,Int.one_mul] at h
 exact h
theorem pow2_pos (k:Nat):(0:Int)<((2^k:Nat):Int):=by have:=Nat.two_pow_pos k;omega
theorem free_q (s:Bool) (A X Y:Nat) (e f B:Int) (hB:B≤-1048576) (he:-1048576≤e) (hf:-1048576≤f) :
 cmpZ (sg1 s*((A*2^(-1074-B).toNat:Nat):Int)*(sg1 false*((Y*2^(f-B).toNat:Nat):Int))) (sg1 s*((X*2^(e-B).toNat:Nat):Int)*((2^(1-B).toNat:Nat):Int)) =
  if s then cmpZ ((2*rV11 X e f 1074 1:Nat):Int) ((A*rS11 Y e f 1074 1:Nat):Int) else cmpZ ((A*rS11 Y e f 1074 1:Nat):Int) ((2*rV11 X e f 1074 1:Nat):Int):=by
 obtain ⟨c,hc⟩:∃ c:Nat,(-1074-B).toNat+(f-B).toNat=(-(e-f+((1*1074:Nat):Int))).toNat+c:=⟨(-1074-B).toNat+(f-B).toNat-(-(e-f+((1*1074:Nat):Int))).toNat,by omega⟩
 have hd:(e-B).toNat+(1-B).toNat=1+(e-f+((1*1074:Nat):Int)).toNat+c:=by omega
 have e1:((A*2^(-1074-B).toNat:Nat):Int)*(sg1 false*((Y*2^(f-B).toNat:Nat):Int))=((A*rS11 Y e f 1074 1:Nat):Int)*((2^c:Nat):Int):=by
  rw [show sg1 false=1 from rfl,Int.one_mul,←Int.natCast_mul,←Int.natCast_mul]
  congr 1
  unfold rS11;rw [Nat.mul_mul_mul_comm,←Nat.pow_add,hc,Nat.pow_add];simp only [Nat.mul_assoc]
 have e2:((X*2^(e-B).toNat:Nat):Int)*((2^(1-B).toNat:Nat):Int)=((2*rV11 X e f 1074 1:Nat):Int)*((2^c:Nat):Int):=by
  rw [←Int.natCast_mul,←Int.natCast_mul]
  congr 1
  unfold rV11;rw [Nat.mul_assoc,←Nat.pow_add,hd,Nat.pow_add,Nat.pow_add,Nat.pow_one];simp only [Nat.mul_assoc,Nat.mul_left_comm]
 rw [Int.mul_assoc,Int.mul_assoc,e1,e2]
 cases s
 · rw [show sg1 false=1 from rfl,Int.one_mul,Int.one_mul,cmpZ_scale _ _ _ (pow2_pos c)];rfl
 · rw [show sg1 true=-1 from rfl,Int.neg_one_mul,Int.neg_one_mul,cmpZ_negs,cmpZ_scale _ _ _ (pow2_pos c)];rfl
theorem free_s (A X Y:Nat) (e f B:Int) (hB:B≤-1048576) (he:-1048576≤e) (hf:-1048576≤f) :
 cmpZ (((A*2^(-1074-B).toNat:Nat):Int)*((A*2^(-1074-B).toNat:Nat):Int)*(sg1 false*((Y*2^(f-B).toNat:Nat):Int))) (((X*2^(e-B).toNat:Nat):Int)*((2^(2-B).toNat:Nat):Int)*((2^(0-B).toNat:Nat):Int)) =
  cmpZ ((A^2*rS11 Y e f 1074 2:Nat):Int) ((4*rV11 X e f 1074 2:Nat):Int):=by
 obtain ⟨c,hc⟩:∃ c:Nat,(-1074-B).toNat+(-1074-B).toNat+(f-B).toNat=(-(e-f+((2*1074:Nat):Int))).toNat+c:=⟨(-1074-B).toNat+(-1074-B).toNat+(f-B).toNat-(-(e-f+((2*1074:Nat):Int))).toNat,by omega⟩
 have hd:(e-B).toNat+(2-B).toNat+(0-B).toNat=2+(e-f+((2*1074:Nat):Int)).toNat+c:=by omega
 have e1:((A*2^(-1074-B).toNat:Nat):Int)*((A*2^(-1074-B).toNat:Nat):Int)*(sg1 false*((Y*2^(f-B).toNat:Nat):Int))=((A^2*rS11 Y e f 1074 2:Nat):Int)*((2^c:Nat):Int):=by
  rw [show sg1 false=1 from rfl,Int.one_mul,←Int.natCast_mul,←Int.natCast_mul,←Int.natCast_mul]
  congr 1
  unfold rS11;rw [Nat.mul_mul_mul_comm A,Nat.mul_mul_mul_comm (A*A),←Nat.pow_add,←Nat.pow_add,hc,Nat.pow_add,Nat.pow_two];simp only [Nat.mul_assoc]
 have e2:((X*2^(e-B).toNat:Nat):Int)*((2^(2-B).toNat:Nat):Int)*((2^(0-B).toNat:Nat):Int)=((4*rV11 X e f 1074 2:Nat):Int)*((2^c:Nat):Int):=by
  rw [←Int.natCast_mul,←Int.natCast_mul,←Int.natCast_mul]
  congr 1
  unfold rV11;rw [Nat.mul_assoc X,←Nat.pow_add,Nat.mul_assoc X,←Nat.pow_add,hd,Nat.pow_add,Nat.pow_add];simp only [Nat.mul_assoc,Nat.mul_left_comm]
 rw [e1,e2,cmpZ_scale _ _ _ (pow2_pos c)]
end
section
open Go.RowKit
structure Asked (o p:Option (Bool×Nat×Int)) (s:Bool) (X:Nat) (e:Int) (Y:Nat) (f:Int):Prop where
 ho:o=some (s,X,e)
 hp:p=some (false,Y,f)
 F:Frm s X e
 G:Frm false Y f
 no:Y≠0
 io:Iv o (-9000) 10400
 ip:Iv p (-20000) 26400
theorem Asked.of {n m:Bool}{X Y:Nat}{e f:Int}(h:MayR (mkS n X e) (mkS m Y f)):Asked (mkS n X e) (mkS m Y f) (dN (mkS n X e)) (dX (mkS n X e)) (dE (mkS n X e)) (dX (mkS m Y f)) (dE (mkS m Y f)):=by
 have U:=h.us';have F1:=frm_of h.so;have F2:=frm_of h.sp;obtain ⟨⟨a1,a2,a3⟩,ha⟩:=Option.isSome_iff_exists.1 h.so;obtain ⟨⟨b1,b2,b3⟩,hb⟩:=Option.isSome_iff_exists.1 h.sp;have hn:dN (mkS m Y f)=false:=h.neg;refine ⟨?_,?_,F1,?_,h.no,U.io,U.ip⟩
 · rw [ha];rfl
 · rw [hb] at hn ⊢
   have:b1=false:=hn;subst this;rfl
 · rw [hn] at F2;exact F2
theorem mkS_plus {n s:Bool}{X X1:Nat}{e e1:Int}(h:mkS n X e=some (s,X1,e1)):mkS false X e=some (false,X1,e1):=by
 unfold mkS at h ⊢
 by_cases h0:X=0
 · rw [if_pos h0] at h ⊢;cases h;rfl
 · rw [if_neg h0] at h ⊢
   split at h
   · cases h
   · rename_i hc
     rw [if_neg hc]
     cases h;rfl
theorem Frm.plus {s:Bool}{X:Nat}{e:Int}(F:Frm s X e):Frm false X e:=⟨by rcases F.odd with h | h;exact .inl h;exact .inr ⟨h.1,rfl,h.2.2⟩,F.size,F.up,F.down⟩
theorem Asked.plus {n:Bool}{X0:Nat}{e0:Int}{p:Option (Bool×Nat×Int)}{s:Bool}{X:Nat}{e:Int}{Y:Nat}{f:Int}(h:Asked (mkS n X0 e0) p s X e Y f):Asked (mkS false X0 e0) p false X e Y f:=by
 have h1:=mkS_plus h.ho;refine ⟨h1,h.hp,h.F.plus,h.G,h.no,?_,h.ip⟩;obtain ⟨a,b,c,hx,F,hr⟩:=h.io;rw [h.ho] at hx
 cases hx
 exact ⟨_,_,_,h1,h.F.plus,hr⟩
theorem Iv.fm {o:Option (Bool×Nat×Int)}{a b:Int}(h:Iv o a b):Fm o:=by
 obtain ⟨n,X,e,rfl,F,_⟩:=h;exact ⟨0,_,frm_fv F 0⟩
def midQ (s:Bool) (a b X:Nat) (e:Int) (Y:Nat) (f:Int):Int:=if s then cmpZ ((2*rV11 X e f 1074 1:Nat):Int) (((vK a+vK b)*rS11 Y e f 1074 1:Nat):Int) else cmpZ (((vK a+vK b)*rS11 Y e f 1074 1:Nat):Int) ((2*rV11 X e f 1074 1:Nat):Int)
def midS (a b X:Nat) (e:Int) (Y:Nat) (f:Int):Int:=cmpZ (((vK a+vK b)^2*rS11 Y e f 1074 2:Nat):Int) ((4*rV11 X e f 1074 2:Nat):Int)
theorem sum_fv (s:Bool) {a b:Nat}(ha:a<9218868437227405312) (hb:b<9218868437227405312) {B:Int}(hB:B≤-1048576):Fv B (addD (ofK s a) (ofK s b)) (sg1 s*(((vK a+vK b)*2^(-1074-B).toNat:Nat):Int)):=by
 have i3:=(ofK_iv s a ha).add (ofK_iv s b hb) (by omega) (by omega) (by omega)
 have h:=(ofK_fv s a ha hB).add hB (ofK_fv s b hb hB) i3.some;rw [←Int.mul_add,←Int.natCast_add,←Nat.add_mul] at h;exact h
theorem midQ_val {o p:Option (Bool×Nat×Int)}{s:Bool}{X:Nat}{e:Int}{Y:Nat}{f:Int}(h:Asked o p s X e Y f) {a b:Nat}(ha:a<9218868437227405312) (hb:b<9218868437227405312) :
 (Fm (ofK s a)∧Fm (ofK s b)∧Fm (addD (ofK s a) (ofK s b))∧Fm (mulD o (mkS false 1 1))∧Fm (mulD (addD (ofK s a) (ofK s b)) p)) ∧
 cmpV (dN (mulD (addD (ofK s a) (ofK s b)) p)) (dX (mulD (addD (ofK s a) (ofK s b)) p)) (dE (mulD (addD (ofK s a) (ofK s b)) p)) (dN (mulD o (mkS false 1 1))) (dX (mulD o (mkS false 1 1))) (dE (mulD o (mkS false 1 1)))=midQ s a b X e Y f:=by
 have i1:=ofK_iv s a ha;have i2:=ofK_iv s b hb;have i3:=i1.add i2 (by omega) (by omega) (by omega)
 have i7:=i3.mul h.ip (by omega) (by omega) (by omega)
 have i4:=h.io.mul (one_iv 1 (by omega) (by omega)) (by omega) (by omega) (by omega)
 refine ⟨⟨i1.fm,i2.fm,i3.fm,i4.fm,i7.fm⟩,?_⟩;obtain ⟨B,hB⟩:∃ B:Int,B=-1048576:=⟨_,rfl⟩;have hB':B≤-1048576:=by omega
 have f3:=sum_fv s ha hb hB';have fp:Fv B p (zv B (false,Y,f)):=by rw [h.hp];exact frm_fv h.G B
 have fo:Fv B o (zv B (s,X,e)):=by rw [h.ho];exact frm_fv h.F B
 have f7:=f3.mul hB' hB' fp i7.some;have f4:=fo.mul hB' hB' (one_fv 1 (by omega) (by omega) hB') i4.some
 rw [cmp_fv (by omega) f7 f4]
 exact free_q s (vK a+vK b) X Y e f B hB' h.F.down h.G.down
theorem midS_val {o p:Option (Bool×Nat×Int)}{X:Nat}{e:Int}{Y:Nat}{f:Int}(h:Asked o p false X e Y f) {a b:Nat}(ha:a<9218868437227405312) (hb:b<9218868437227405312) :
 (Fm (ofK false a)∧Fm (ofK false b)∧Fm (addD (ofK false a) (ofK false b))∧Fm (mulD o (mkS false 1 1))∧Fm (mulD (addD (ofK false a) (ofK false b)) (addD (ofK false a) (ofK false b)))∧Fm (mulD o (mkS false 1 2))∧Fm (mulD (mulD (addD (ofK false a) (ofK false b)) (addD (ofK false a) (ofK false b))) p)) ∧
 cmpV (dN (mulD (mulD (addD (ofK false a) (ofK false b)) (addD (ofK false a) (ofK false b))) p)) (dX (mulD (mulD (addD (ofK false a) (ofK false b)) (addD (ofK false a) (ofK false b))) p)) (dE (mulD (mulD (addD (ofK false a) (ofK false b)) (addD (ofK false a) (ofK false b))) p)) (dN (mulD o (mkS false 1 2))) (dX (mulD o (mkS false 1 2))) (dE (mulD o (mkS false 1 2)))=midS a b X e Y f:=by
 have i1:=ofK_iv false a ha;have i2:=ofK_iv false b hb;have i3:=i1.add i2 (by omega) (by omega) (by omega)
 have i5:=i3.mul i3 (by omega) (by omega) (by omega)
 have i7:=i5.mul h.ip (by omega) (by omega) (by omega)
 have i4:=h.io.mul (one_iv 1 (by omega) (by omega)) (by omega) (by omega) (by omega)
 have i6:=h.io.mul (one_iv 2 (by omega) (by omega)) (by omega) (by omega) (by omega)
 refine ⟨⟨i1.fm,i2.fm,i3.fm,i4.fm,i5.fm,i6.fm,i7.fm⟩,?_⟩;obtain ⟨B,hB⟩:∃ B:Int,B=-1048576:=⟨_,rfl⟩;have hB':B≤-1048576:=by omega
 have f3:=sum_fv false ha hb hB';rw [show sg1 false=1 from rfl,Int.one_mul] at f3
 have fp:Fv B p (zv B (false,Y,f)):=by rw [h.hp];exact frm_fv h.G B
 have fo:Fv B o (zv B (false,X,e)):=by rw [h.ho];exact frm_fv h.F B
 have f5:=f3.mul hB' hB' f3 i5.some;have f7:=f5.mul (by omega) hB' fp i7.some
 have f6:=fo.mul hB' hB' (one_fv 2 (by omega) (by omega) hB') i6.some
 have f6':Fv (B+B+B) (mulD o (mkS false 1 2)) (zv B (false,X,e)*((2^(2-B).toNat:Nat):Int)*((2^(0-B).toNat:Nat):Int)):=by
  obtain ⟨n',X',e',hx,F',hz⟩:=f6.ex;refine ⟨n',X',e',hx,F',?_⟩;rw [←hz];unfold zv;simp only;rw [Int.mul_assoc,←Int.natCast_mul,Nat.mul_assoc,←Nat.pow_add];have:=F'.down;rw [show (e'-(B+B+B)).toNat=(e'-(B+B)).toNat+(0-B).toNat by omega]
 rw [cmp_fv (by omega) f7 f6']
 have:=free_s (vK a+vK b) X Y e f B hB' h.F.down h.G.down;unfold zv;simp only;rw [show sg1 false=1 from rfl,Int.one_mul,Int.one_mul] at *
 exact this
end
section
open Go.RowKit
def cN (n a b V S:Nat):Int:=cmpZ (((vK a+vK b)^n*S:Nat):Int) ((2^n*V:Nat):Int)
theorem cmpZ_gt {x y:Nat}(h:y<x):cmpZ (x:Int) (y:Int)=1:=by unfold cmpZ;rw [if_neg (by omega),if_pos (by omega)]
theorem cmpZ_lt {x y:Nat}(h:x<y):cmpZ (x:Int) (y:Int)=-1:=by unfold cmpZ;rw [if_pos (by omega)]
theorem cmpZ_eq {x y:Nat}(h:x=y):cmpZ (x:Int) (y:Int)=0:=by unfold cmpZ;rw [if_neg (by omega),if_neg (by omega)]
theorem pow_lt {a b n:Nat}(hn:n≠0) (h:a<b):a^n<b^n:=Nat.pow_lt_pow_left h hn
theorem near_pure {n K V S:Nat}{m:Int}(hn:n≠0) (L:LiesG vK 9218868437227405312 n K false m V S) (s:Bool) (K0:Nat) (hK:(if outS 0 K m s then K+1 else K)=K0) (hb:K0<9214364837600034816) :
 (K0=0→0≤cN n 0 1 V S)∧(K0≠0→(0<cN n K0 (K0+1) V S∨cN n K0 (K0+1) V S=0∧K0%2=0)∧(cN n K0 (K0-1) V S<0∨cN n K0 (K0-1) V S=0∧K0%2=0)):=by
 have hS:=L.pos;have hlow:=L.low rfl;have h2:0<2^n:=Nat.two_pow_pos n;have ho:outS 0 K m s=(decide (0<m) || (decide (m=0)&&decide (K%2=1))):=by unfold outS;rw [if_pos rfl]
 rw [ho] at hK
 have hK1:K+1≤9214364837600034816:=by
  split at hK <;> omega
 have hup:V<vK (K+1)^n*S:=by
  rcases L.high rfl with h|⟨h,_⟩
  · exact h
  · omega
 have M:=L.mids rfl hup;have mono:∀ {k l:Nat},k<l→vK k<vK l:=fun h=>grid64.mono h
 have lowest:∀ j,j<K→(vK K+vK j)^n*S<2^n*V:=by
  intro j hj;have h1:vK j<vK K:=mono hj;have h3:=pow_lt hn (show vK K+vK j<2*vK K by omega)
  rw [Nat.mul_pow] at h3;have h4:=Nat.mul_lt_mul_of_pos_right h3 hS;have h5:=Nat.mul_lt_mul_of_pos_left hlow h2;rw [Nat.mul_assoc] at h4;omega
 have highest:2^n*V<(vK (K+1)+vK (K+1+1))^n*S:=by
  have h1:vK (K+1)<vK (K+1+1):=mono (by omega)
  have h3:=pow_lt hn (show 2*vK (K+1)<vK (K+1)+vK (K+1+1) by omega)
  rw [Nat.mul_pow] at h3;have h4:=Nat.mul_lt_mul_of_pos_right h3 hS;have h5:=Nat.mul_lt_mul_of_pos_left hup h2;rw [Nat.mul_assoc] at h4;omega
 by_cases hout:(decide (0<m) || (decide (m=0)&&decide (K%2=1)))=true
 · rw [if_pos hout] at hK
   subst hK;refine ⟨fun h=>by omega,fun _=>⟨.inl ?_,?_⟩⟩
   · unfold cN;rw [cmpZ_gt highest];omega
   · rw [Nat.add_sub_cancel]
     unfold cN;rw [Nat.add_comm (vK (K+1)) (vK K)]
     rcases M with ⟨hm,h⟩|⟨hm,h⟩|⟨hm,h⟩
     · subst hm;simp at hout
     · right
       rw [cmpZ_eq h.symm];subst hm;simp at hout;exact ⟨rfl,by omega⟩
     · left;rw [cmpZ_lt h];omega
 · rw [if_neg hout] at hK
   subst hK
   have hmid:0<cN n K (K+1) V S∨cN n K (K+1) V S=0∧K%2=0:=by
    unfold cN
    rcases M with ⟨hm,h⟩|⟨hm,h⟩|⟨hm,h⟩
    · left;rw [cmpZ_gt h];omega
    · right
      rw [cmpZ_eq h.symm];subst hm;simp at hout;exact ⟨rfl,by omega⟩
    · subst hm;simp at hout
   refine ⟨fun h=>?_,fun h0=>⟨hmid,.inl ?_⟩⟩
   · subst h
     have h9:0≤cN n 0 (0+1) V S:=by rcases hmid with h | h <;> omega
     exact h9
   · unfold cN;rw [cmpZ_lt (lowest (K-1) (by omega))];omega
theorem midQ_cN (s:Bool) (a b X:Nat) (e:Int) (Y:Nat) (f:Int):midQ s a b X e Y f=if s then -cN 1 a b (rV11 X e f 1074 1) (rS11 Y e f 1074 1) else cN 1 a b (rV11 X e f 1074 1) (rS11 Y e f 1074 1):=by
 unfold midQ cN;rw [Nat.pow_one,Nat.pow_one,cmpZ_neg ((2*rV11 X e f 1074 1:Nat):Int)]
theorem midS_cN (a b X:Nat) (e:Int) (Y:Nat) (f:Int):midS a b X e Y f=cN 2 a b (rV11 X e f 1074 2) (rS11 Y e f 1074 2):=rfl
theorem cmpZ_range (x y:Int):-1≤cmpZ x y∧cmpZ x y≤1:=by unfold cmpZ;(repeat' split) <;> omega
theorem cmp_raw {n s:Bool}{X0 X:Nat}{e0 e:Int}(h:mkS n X0 e0=some (s,X,e)) (a:Bool) (b:Nat) (c:Int):cmpV a b c n X0 e0=cmpV a b c s X e:=by
 obtain ⟨C,h1,h2,h3⟩:∃ C:Int,C≤c∧C≤e0∧C≤e:=⟨min c (min e0 e),Int.min_le_left _ _,Int.le_trans (Int.min_le_right _ _) (Int.min_le_left _ _),Int.le_trans (Int.min_le_right _ _) (Int.min_le_right _ _)⟩;rw [cmpV_z a b c n X0 e0 C h1 h2,cmpV_z a b c s X e C h1 h3,←zv_mkS h C (.inr h2)];rfl
theorem rebase {o:Option (Bool×Nat×Int)}{B x:Int}(h:Fv B o x) (hB:B≤-1048576) (D:Int) (hD:D≤0):Fv (B+D) o (x*((2^(0-D).toNat:Nat):Int)):=by
 obtain ⟨n',X',e',hx,F',hz⟩:=h.ex;refine ⟨n',X',e',hx,F',?_⟩;rw [←hz];unfold zv;simp only;rw [Int.mul_assoc,←Int.natCast_mul,Nat.mul_assoc,←Nat.pow_add];have:=F'.down;rw [show (e'-(B+D)).toNat=(e'-B).toNat+(0-D).toNat by omega]
theorem exactQ {o p:Option (Bool×Nat×Int)}{s:Bool}{X:Nat}{e:Int}{Y:Nat}{f:Int}(h:Asked o p s X e Y f) {K:Nat}(hK:K<9218868437227405312) (hV:rV11 X e f 1074 1=vK K^1*rS11 Y e f 1074 1) :
 (Fm (ofK s K)∧Fm (mulD (ofK s K) p))∧cmpV (dN (mulD (ofK s K) p)) (dX (mulD (ofK s K) p)) (dE (mulD (ofK s K) p)) s X e=0:=by
 have i1:=ofK_iv s K hK;have i3:=i1.mul h.ip (by omega) (by omega) (by omega)
 refine ⟨⟨i1.fm,i3.fm⟩,?_⟩;obtain ⟨B,hB⟩:∃ B:Int,B=-1048576:=⟨_,rfl⟩;have hB':B≤-1048576:=by omega
 have fp:Fv B p (zv B (false,Y,f)):=by rw [h.hp];exact frm_fv h.G B
 have fo:Fv B (some (s,X,e)) (zv B (s,X,e)):=frm_fv h.F B;have f3:=(ofK_fv s K hK hB').mul hB' hB' fp i3.some;have fo':=rebase fo hB' B (by omega)
 have:=cmp_fv (by omega) f3 fo'
 refine this.trans (cmpZ_self' ?_);have he:=h.F.down;have hf:=h.G.down;obtain ⟨c,hc⟩:∃ c:Nat,(-1074-B).toNat+(f-B).toNat=(-(e-f+((1*1074:Nat):Int))).toNat+c:=⟨(-1074-B).toNat+(f-B).toNat-(-(e-f+((1*1074:Nat):Int))).toNat,by omega⟩
 have hd:(e-B).toNat+(0-B).toNat=(e-f+((1*1074:Nat):Int)).toNat+c:=by omega
 unfold zv;simp only;rw [show sg1 false=1 from rfl,Int.one_mul,Int.mul_assoc,Int.mul_assoc,←Int.natCast_mul,←Int.natCast_mul]
 congr 2
 rw [Nat.mul_mul_mul_comm,←Nat.pow_add,hc,Nat.mul_assoc X,←Nat.pow_add,hd,Nat.pow_add,Nat.pow_add];unfold rV11 rS11 at hV;rw [Nat.pow_one] at hV;rw [←Nat.mul_assoc,←Nat.mul_assoc,hV,Nat.mul_assoc (vK K)]
theorem exactS {o p:Option (Bool×Nat×Int)}{X:Nat}{e:Int}{Y:Nat}{f:Int}(h:Asked o p false X e Y f) {K:Nat}(hK:K<9218868437227405312) (hV:rV11 X e f 1074 2=vK K^2*rS11 Y e f 1074 2) :
 (Fm (ofK false K)∧Fm (mulD (ofK false K) (ofK false K))∧Fm (mulD (mulD (ofK false K) (ofK false K)) p))∧cmpV (dN (mulD (mulD (ofK false K) (ofK false K)) p)) (dX (mulD (mulD (ofK false K) (ofK false K)) p)) (dE (mulD (mulD (ofK false K) (ofK false K)) p)) false X e=0:=by
 have i1:=ofK_iv false K hK;have i2:=i1.mul i1 (by omega) (by omega) (by omega)
 have i3:=i2.mul h.ip (by omega) (by omega) (by omega)
 refine ⟨⟨i1.fm,i2.fm,i3.fm⟩,?_⟩;obtain ⟨B,hB⟩:∃ B:Int,B=-1048576:=⟨_,rfl⟩;have hB':B≤-1048576:=by omega
 have fp:Fv B p (zv B (false,Y,f)):=by rw [h.hp];exact frm_fv h.G B
 have fo:Fv B (some (false,X,e)) (zv B (false,X,e)):=frm_fv h.F B;have f1:=ofK_fv false K hK hB';rw [show sg1 false=1 from rfl,Int.one_mul] at f1
 have f3:=(f1.mul hB' hB' f1 i2.some).mul (by omega) hB' fp i3.some
 have fo':=rebase (rebase fo hB' B (by omega)) (by omega) B (by omega)
 have:=cmp_fv (by omega) f3 fo'
 refine this.trans (cmpZ_self' ?_);have he:=h.F.down;have hf:=h.G.down;obtain ⟨c,hc⟩:∃ c:Nat,(-1074-B).toNat+(-1074-B).toNat+(f-B).toNat=(-(e-f+((2*1074:Nat):Int))).toNat+c:=⟨(-1074-B).toNat+(-1074-B).toNat+(f-B).toNat-(-(e-f+((2*1074:Nat):Int))).toNat,by omega⟩
 have hd:(e-B).toNat+(0-B).toNat+(0-B).toNat=(e-f+((2*1074:Nat):Int)).toNat+c:=by omega
 unfold zv;simp only;rw [show sg1 false=1 from rfl,Int.one_mul,Int.one_mul,←Int.natCast_mul,←Int.natCast_mul,←Int.natCast_mul,←Int.natCast_mul]
 congr 1
 rw [Nat.mul_mul_mul_comm (vK K),Nat.mul_mul_mul_comm (vK K*vK K),←Nat.pow_add,←Nat.pow_add,hc,Nat.mul_assoc X,←Nat.pow_add,Nat.mul_assoc X,←Nat.pow_add,hd,Nat.pow_add,Nat.pow_add];unfold rV11 rS11 at hV;rw [Nat.pow_two] at hV;rw [←Nat.mul_assoc,←Nat.mul_assoc,hV,Nat.mul_assoc (vK K*vK K)]
end
section
open Go.RowKit
theorem wd64_of (s:Bool) (K:Nat):wd64 s K=(if s then 9223372036854775808 else 0)+K:=by unfold wd64;omega
theorem middleQ {w:World}{n m:Bool}{a b:Option Addr}{la ca lb cb X0 Y0:Nat}{e0 f0:Int}(hN:Al w (.slice a la ca) X0) (hD:Al w (.slice b lb cb) Y0) (be:-9223372036854775808≤e0∧e0≤9223372036854775807) (bf:-9223372036854775808≤f0∧f0≤9223372036854775807)
 {s:Bool} {X:Nat} {e:Int} {Y:Nat} {f:Int} (h:Asked (mkS n X0 e0) (mkS m Y0 f0) s X e Y f) {i j:Nat} (hi:i<9218868437227405312) (hj:j<9218868437227405312) :
 Calls Tryz.prog 104 #[.float .f64 (wd64 s i),.float .f64 (wd64 s j),.agg #[.bool n,.slice a la ca,.int .i64 e0,.bool m,.slice b lb cb,.int .i64 f0],.bool false] w fun r w'=>r=.returned (.int .i64 (midQ s i j X e Y f))∧Below w.heap.size w w':=by
 obtain ⟨F,hc⟩:=midQ_val h hi hj;exact middle_q (wd64 s i) (wd64 s j) (ofK s i) (ofK s j) _ _ _ _ hN hD be bf (hid fun u=>rofW hi _ (wd64_of s i) _ rfl) (hid fun u=>rofW hj _ (wd64_of s j) _ rfl) (sd F) (sd ⟨rfl,rfl,rfl,hc⟩)
theorem middleS {w:World}{n m:Bool}{a b:Option Addr}{la ca lb cb X0 Y0:Nat}{e0 f0:Int}(hN:Al w (.slice a la ca) X0) (hD:Al w (.slice b lb cb) Y0) (be:-9223372036854775808≤e0∧e0≤9223372036854775807) (bf:-9223372036854775808≤f0∧f0≤9223372036854775807)
 {X:Nat} {e:Int} {Y:Nat} {f:Int} (h:Asked (mkS n X0 e0) (mkS m Y0 f0) false X e Y f) {i j:Nat} (hi:i<9218868437227405312) (hj:j<9218868437227405312) :
 Calls Tryz.prog 104 #[.float .f64 (wd64 false i),.float .f64 (wd64 false j),.agg #[.bool n,.slice a la ca,.int .i64 e0,.bool m,.slice b lb cb,.int .i64 f0],.bool true] w fun r w'=>r=.returned (.int .i64 (midS i j X e Y f))∧Below w.heap.size w w':=by
 obtain ⟨F,hc⟩:=midS_val h hi hj;exact middle_s (wd64 false i) (wd64 false j) (ofK false i) (ofK false j) _ _ _ _ _ _ hN hD be bf (hid fun u=>rofW hi _ (wd64_of false i) _ rfl) (hid fun u=>rofW hj _ (wd64_of false j) _ rfl) (sd F) (sd ⟨rfl,rfl,rfl,rfl,rfl,hc⟩)
theorem wd64_even (s:Bool) (K:Nat):(((wd64 s K:Nat):Int)%2==0)=decide (K%2=0):=by
 have h:(((wd64 s K:Nat):Int)%2=0)↔K%2=0:=by unfold wd64;cases s <;> simp <;> omega
 by_cases hk:K%2=0
 · rw [decide_eq_true hk];exact beq_iff_eq.2 (h.2 hk)
 · rw [decide_eq_false hk];exact beq_eq_false_iff_ne.2 (fun hh=>hk (h.1 hh))
theorem wd64_up (s:Bool) (K:Nat) (hK:K<9218868437227405312):IntKind.u64.wrap (((wd64 s K:Nat):Int)+1)=((wd64 s (K+1):Nat):Int):=by
 rw [IntKind.wrap_u64];unfold wd64;cases s <;> simp <;> omega
theorem wd64_down (s:Bool) (K:Nat) (hK:K<9218868437227405312) (h0:K≠0):IntKind.u64.wrap (((wd64 s K:Nat):Int)-1)=((wd64 s (K-1):Nat):Int):=by
 rw [IntKind.wrap_u64];unfold wd64;cases s <;> simp <;> omega
theorem cN_range (n a b V S:Nat):-1≤cN n a b V S∧cN n a b V S≤1:=cmpZ_range _ _
theorem wrap_small (c:Int) (h:-1≤c∧c≤1):IntKind.i64.wrap c=c:=by rw [IntKind.wrap_i64];omega
theorem nearestQ {w:World}{n m:Bool}{a b:Option Addr}{la ca lb cb X0 Y0:Nat}{e0 f0:Int}(hN:Al w (.slice a la ca) X0) (hD:Al w (.slice b lb cb) Y0) (be:-9223372036854775808≤e0∧e0≤9223372036854775807) (bf:-9223372036854775808≤f0∧f0≤9223372036854775807)
 {s:Bool} {X:Nat} {e:Int} {Y:Nat} {f:Int} (h:Asked (mkS n X0 e0) (mkS m Y0 f0) s X e Y f) (hns:n=s) {K:Nat} {mm:Int} (L:LiesG vK 9218868437227405312 1 K false mm (rV11 X e f 1074 1) (rS11 Y e f 1074 1)) (K0:Nat) (hK:(if outS 0 K mm s then K+1 else K)=K0) :
 Calls Tryz.prog 72 #[.float .f64 (wd64 s K0),.agg #[.bool n,.slice a la ca,.int .i64 e0,.bool m,.slice b lb cb,.int .i64 f0],.bool false] w fun r w'=>r=.returned (.bool true)∧Below w.heap.size w w':=by
 have hfin:=L.fin;have hle:K0≤9218868437227405312:=by split at hK <;> omega
 have hand:=size_and s K0 (by omega)
 by_cases hb:9214364837600034816≤K0
 · exact nearest_big (wd64 s K0) K0 false hand (decide_eq_true (by omega))
 · obtain ⟨p0,p1⟩:=near_pure (by omega) L s K0 hK (by omega)
   by_cases h0:K0=0
   · subst h0
     have:=p0 rfl;refine nearest_zero (wd64 s 0) (midQ false 0 1 X e Y f) false hand true (decide_eq_true (by rw [midQ_cN];exact this)) (hid fun u hu=>?_)
     exact middleQ (i:=0) (j:=1) (hN.below hu) (hD.below hu) be bf h.plus (by omega) (by omega)
   · obtain ⟨q1,q2⟩:=p1 h0
     have hz:(((K0:Nat):Int)==0)=false:=beq_eq_false_iff_ne.2 (by omega)
     have r1:=cN_range 1 K0 (K0+1) (rV11 X e f 1074 1) (rS11 Y e f 1074 1);have r2:=cN_range 1 K0 (K0-1) (rV11 X e f 1074 1) (rS11 Y e f 1074 1);have M1:=hid fun u (hu:Below w.heap.size w u)=>middleQ (i:=K0) (j:=K0+1) (hN.below hu) (hD.below hu) be bf h (by omega) (by omega)
     have M2:=hid fun u (hu:Below w.heap.size w u)=>middleQ (i:=K0) (j:=K0-1) (hN.below hu) (hD.below hu) be bf h (by omega) (by omega)
     rw [midQ_cN] at M1 M2
     have A:(0<cN 1 K0 (K0+1) (rV11 X e f 1074 1) (rS11 Y e f 1074 1)∨cN 1 K0 (K0+1) (rV11 X e f 1074 1) (rS11 Y e f 1074 1)=0∧decide (K0%2=0)=true)∧(cN 1 K0 (K0-1) (rV11 X e f 1074 1) (rS11 Y e f 1074 1)<0∨cN 1 K0 (K0-1) (rV11 X e f 1074 1) (rS11 Y e f 1074 1)=0∧decide (K0%2=0)=true):=by
      refine ⟨?_,?_⟩
      · rcases q1 with q | ⟨q,q'⟩
        · exact .inl q
        · exact .inr ⟨q,decide_eq_true q'⟩
      · rcases q2 with q | ⟨q,q'⟩
        · exact .inl q
        · exact .inr ⟨q,decide_eq_true q'⟩
     generalize cN 1 K0 (K0+1) (rV11 X e f 1074 1) (rS11 Y e f 1074 1)=z1 at *;generalize cN 1 K0 (K0-1) (rV11 X e f 1074 1) (rS11 Y e f 1074 1)=z2 at *;subst hns
     cases n with
     | false =>
       rw [if_neg (by decide)] at M1 M2
       exact nearest_pos (wd64 false K0) (wd64 false (K0+1)) (wd64 false (K0-1)) K0 z1 z2 _ _ false (decide (K0%2=0)) rfl hand (decide_eq_false (by omega)) hz (wd64_up false K0 (by omega)) (wd64_down false K0 (by omega) h0) (wd64_even false K0) rfl rfl (hid A) M1 M2
     | true =>
       rw [if_pos rfl] at M1 M2;exact nearest_neg (wd64 true K0) (wd64 true (K0+1)) (wd64 true (K0-1)) K0 (-z1) (-z2) z1 z2 false (decide (K0%2=0)) rfl hand (decide_eq_false (by omega)) hz (wd64_up true K0 (by omega)) (wd64_down true K0 (by omega) h0) (wd64_even true K0) (by rw [Int.neg_neg];exact wrap_small _ r1) (by rw [Int.neg_neg];exact wrap_small _ r2) (hid A) M1 M2
theorem nearestS {w:World}{n m:Bool}{a b:Option Addr}{la ca lb cb X0 Y0:Nat}{e0 f0:Int}(hN:Al w (.slice a la ca) X0) (hD:Al w (.slice b lb cb) Y0) (be:-9223372036854775808≤e0∧e0≤9223372036854775807) (bf:-9223372036854775808≤f0∧f0≤9223372036854775807)
 {X:Nat} {e:Int} {Y:Nat} {f:Int} (h:Asked (mkS n X0 e0) (mkS m Y0 f0) false X e Y f) (hns:n=false) {K:Nat} {mm:Int} (L:LiesG vK 9218868437227405312 2 K false mm (rV11 X e f 1074 2) (rS11 Y e f 1074 2)) (K0:Nat) (hK:(if outS 0 K mm false then K+1 else K)=K0) :
 Calls Tryz.prog 72 #[.float .f64 (wd64 false K0),.agg #[.bool n,.slice a la ca,.int .i64 e0,.bool m,.slice b lb cb,.int .i64 f0],.bool true] w fun r w'=>r=.returned (.bool true)∧Below w.heap.size w w':=by
 have hfin:=L.fin;have hle:K0≤9218868437227405312:=by split at hK <;> omega
 have hand:=size_and false K0 (by omega)
 by_cases hb:9214364837600034816≤K0
 · exact nearest_big (wd64 false K0) K0 true hand (decide_eq_true (by omega))
 · obtain ⟨p0,p1⟩:=near_pure (by omega) L false K0 hK (by omega)
   by_cases h0:K0=0
   · subst h0
     have:=p0 rfl;refine nearest_zero (wd64 false 0) (midS 0 1 X e Y f) true hand true (decide_eq_true (by rw [midS_cN];exact this)) (hid fun u hu=>?_)
     exact middleS (i:=0) (j:=1) (hN.below hu) (hD.below hu) be bf h.plus (by omega) (by omega)
   · obtain ⟨q1,q2⟩:=p1 h0
     have hz:(((K0:Nat):Int)==0)=false:=beq_eq_false_iff_ne.2 (by omega)
     have M1:=hid fun u (hu:Below w.heap.size w u)=>middleS (i:=K0) (j:=K0+1) (hN.below hu) (hD.below hu) be bf h (by omega) (by omega)
     have M2:=hid fun u (hu:Below w.heap.size w u)=>middleS (i:=K0) (j:=K0-1) (hN.below hu) (hD.below hu) be bf h (by omega) (by omega)
     rw [midS_cN] at M1 M2
     have A:(0<cN 2 K0 (K0+1) (rV11 X e f 1074 2) (rS11 Y e f 1074 2)∨cN 2 K0 (K0+1) (rV11 X e f 1074 2) (rS11 Y e f 1074 2)=0∧decide (K0%2=0)=true)∧(cN 2 K0 (K0-1) (rV11 X e f 1074 2) (rS11 Y e f 1074 2)<0∨cN 2 K0 (K0-1) (rV11 X e f 1074 2) (rS11 Y e f 1074 2)=0∧decide (K0%2=0)=true):=by
      refine ⟨?_,?_⟩
      · rcases q1 with q | ⟨q,q'⟩
        · exact .inl q
        · exact .inr ⟨q,decide_eq_true q'⟩
      · rcases q2 with q | ⟨q,q'⟩
        · exact .inl q
        · exact .inr ⟨q,decide_eq_true q'⟩
     generalize cN 2 K0 (K0+1) (rV11 X e f 1074 2) (rS11 Y e f 1074 2)=z1 at *;generalize cN 2 K0 (K0-1) (rV11 X e f 1074 2) (rS11 Y e f 1074 2)=z2 at *;subst hns;exact nearest_pos (wd64 false K0) (wd64 false (K0+1)) (wd64 false (K0-1)) K0 z1 z2 _ _ true (decide (K0%2=0)) rfl hand (decide_eq_false (by omega)) hz (wd64_up false K0 (by omega)) (wd64_down false K0 (by omega) h0) (wd64_even false K0) rfl rfl (hid A) M1 M2
end
end Go.Proofs.YtdimlelcgapobaaGreatDoor
