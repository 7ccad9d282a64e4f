import Derived.Test.YtjldfhecnaiinaaGreatDoorF2x
import Derived.Test.YtjldfhecnaiinaaGreatDoorZ14x
import Derived.OwnWalk
import Derived.ArgAppend
import Derived.Maps.AppendAt
import Derived.WalkMore
import Derived.Test.YtjldfhecnaiinaaGreatDoorD38x
import Derived.Test.YtjldfhecnaiinaaGreatDoorD21x
import Derived.Deep.Cut
import Derived.Deep.RegionHeld3
import Derived.Test.YtjldfhecnaiinaaGreatDoorP2x
import Derived.Test.YtjldfhecnaiinaaGreatDoorM1x
import Derived.Test.YtjldfhecnaiinaaGreatDoorW13x
import Derived.BigQuiet
import Derived.RangeFuncNested
import Derived.RangeFuncBound
import Derived.RangeFuncCalls
import Derived.RangeFuncLeaves
import Derived.RangeFuncBox
import Derived.Shelf.Abstract
import Derived.Shelf.RegionOpen
import Derived.WalkKit
import Derived.OwnWalkIn
import Derived.TacticsInMore
import Derived.LoopNIn
import Derived.LoopIn
import Derived.Test.YtjldfhecnaiinaaGreatDoorS9x
import Derived.Test.YtjldfhecnaiinaaGreatDoorS7x
import Derived.Test.YtjldfhecnaiinaaGreatDoorW17x
import Derived.Deep.CutRange
import Derived.KernelRfl
import Derived.Deep.LoopGhost
import Derived.ProofKit
import Derived.OpenShut
import Derived.ChangeOld
import Derived.ChangeArms
import Derived.SizedLaws
import Derived.Laws.Cover2
import Derived.Deep.RegionWith
set_option linter.unusedVariables false
set_option linter.unusedSimpArgs false
set_option maxHeartbeats 16000000
set_option maxRecDepth 20000
namespace Go.Proofs.YtjldfhecnaiinaaGreatDoor
namespace J
end J
section
open Go.RowKit
theorem num64_step11 (k:Nat):(num64 k).2≤(num64 (k+1)).2∧(num64 (k+1)).2≤(num64 k).2+1∧-1074≤(num64 k).2:=by
 unfold num64
 by_cases h:k/4503599627370496=0
 · rw [if_pos h]
   by_cases h':(k+1)/4503599627370496=0
   · rw [if_pos h'];simp only;omega
   · rw [if_neg h'];simp only;omega
 · rw [if_neg h,if_neg (by omega)]
   simp only;omega
namespace S
end S
structure Wd11 (dg ls:Int) (En:Nat) (v:Nat→Nat) (u:Nat) (num:Nat→Nat×Int):Prop where
 grid:Grid v En
 small:En<9223372036854775808
 ub:u≤2000
 call:∀ (k:Nat) (w:World),k≤En→Calls Tryz.prog 130 #[.agg #[.int .i64 dg,.int .i64 ls,.int .u64 (En:Nat)],.int .u64 (k:Nat)] w fun r w'=>∃ p,r=.returned (.tuple #[p,.int .i64 (num k).2])∧Nt w.heap.size w' p (num k).1∧Below w.heap.size w w'
 val:∀ (k:Nat) (B:Int),B≤-(u:Int)→(num k).1*2^((num k).2-B).toNat=v k*2^(-(u:Int)-B).toNat∧(num k).1<9007199254740992∧B≤(num k).2∧((num k).1=0↔k=0)
 step:∀ k:Nat,(num k).2≤(num (k+1)).2∧(num (k+1)).2≤(num k).2+1∧-(u:Int)≤(num k).2
 top:∀ k:Nat,k≤En→(num k).2≤2000
theorem wd64_is:Wd11 53 (-1074) 9218868437227405312 vK 1074 num64 :=
 ⟨grid64,by omega,by omega,fun k w hk=>rNumber64 k hk w,fun k B hB=>num64_vK k B hB,num64_step11,fun k hk=>by unfold num64;split <;> simp only <;> omega⟩
theorem len_prod {A Y:Nat}(hA:bl A≤200) (hY:bl Y≤262144):(ws (A*Y)).length≤2000000:=by
 have:=bl_mul_le A Y;rw [ws_len_bl];omega
theorem wrap_in (x:Int) (h0:-4611686018427387904≤x) (h1:x≤4611686018427387904):IntKind.i64.wrap x=x:=by rw [IntKind.wrap_i64];omega
theorem cmpZ_three (x y:Int):cmpZ x y=-1∨cmpZ x y=0∨cmpZ x y=1:=by unfold cmpZ;(repeat' split) <;> simp
theorem cmpZ_le0 {x y:Nat}:cmpZ (x:Int) (y:Int)≤0↔x≤y:=by unfold cmpZ;(repeat' split) <;> omega
theorem cmpZ_gt0 {x y:Nat}:0<cmpZ (x:Int) (y:Int)↔y<x:=by unfold cmpZ;(repeat' split) <;> omega
theorem cmpZ_eq0 {x y:Nat}:cmpZ (x:Int) (y:Int)=0↔x=y:=by unfold cmpZ;(repeat' split) <;> omega
theorem againstN {dg ls:Int}{En:Nat}{v:Nat→Nat}{u:Nat}{num:Nat→Nat×Int}(H:Wd11 dg ls En v u num) {w:World}{s mb:Bool}{p a b:Option Addr}{lp cp la ca lb cb X Y:Nat}{e f:Int}(hN:Al w (.slice a la ca) X) (hD:Al w (.slice b lb cb) Y) (he:-1048576≤e∧e≤1048576) (hf:-1048576≤f∧f≤1048576) (hY:bl Y≤262144)
 (A W n U:Nat) (g B:Int) (hA:Al w (.slice p lp cp) A) (hn:n=1∨n=2) (hAb:bl A≤100) (hg:-4000≤g∧g≤4000) (hU:U≤4000) (h1:B≤g) (h2:B≤-(U:Int)) (hv:A*2^(g-B).toNat=W*2^(-(U:Int)-B).toNat) (sq:Bool) (hsq:sq=decide (n=2)) :
 Calls Tryz.prog 169 #[.slice p lp cp,.int .i64 g,.agg #[.bool s,.slice a la ca,.int .i64 e,.bool mb,.slice b lb cb,.int .i64 f],.bool sq] w fun r w'=>r=.returned (.int .i64 (cmpZ ((W^n*rS11 Y e f U n:Nat):Int) ((rV11 X e f U n:Nat):Int)))∧Below w.heap.size w w':=by
 have P:=pow_units h1 h2 hv hn
 rcases hn with rfl|rfl
 · have e1:=ag_gen (A^1) (W^1) X Y (((1:Nat):Int)*g) e f (((1:Nat):Int)*B) U 1 (by omega) (by omega) P
   rw [Nat.pow_one,show ((1:Nat):Int)*g=g by omega] at e1
   subst hsq;rw [←e1];exact against11_q hA hN hD (by omega) (g+f) 0 (wrap_in _ (by omega) (by omega)) (by omega) (A*Y) rfl (len_prod (by omega) hY)
 · have e1:=ag_gen (A^2) (W^2) X Y (((2:Nat):Int)*g) e f (((2:Nat):Int)*B) U 2 (by omega) (by omega) P
   rw [Nat.pow_two,show ((2:Nat):Int)*g=2*g by omega] at e1
   subst hsq;rw [←e1];have hb:=bl_mul_le A A;exact against11_s hA hN hD (by omega) (2*g+f) (2*g) (wrap_in _ (by omega) (by omega)) (wrap_in _ (by omega) (by omega)) (by omega) (A*A*Y) rfl (len_prod (by omega) hY) (by rw [ws_len_bl];omega)
theorem nearbyG {dg ls:Int}{En:Nat}{v:Nat→Nat}{u:Nat}{num:Nat→Nat×Int}(H:Wd11 dg ls En v u num) {w:World}{s mb:Bool}{a b:Option Addr}{la ca lb cb X Y:Nat}{e f:Int}(hN:Al w (.slice a la ca) X) (hD:Al w (.slice b lb cb) Y) (he:-1048576≤e∧e≤1048576) (hf:-1048576≤f∧f≤1048576) (hY:bl Y≤262144)
 {n K:Nat} {t:Bool} {m:Int} (hn:n=1∨n=2) (L:LiesG v En n K t m (rV11 X e f u n) (rS11 Y e f u n)) (sq:Bool) (hsq:sq=decide (n=2)) (mode:Int) (hm0:0≤mode) (hm4:mode≤4) :
 Calls Tryz.prog 137 #[.agg #[.int .i64 dg,.int .i64 ls,.int .u64 (En:Nat)],.agg #[.bool s,.slice a la ca,.int .i64 e,.bool mb,.slice b lb cb,.int .i64 f],.bool sq,.int .i64 mode] w fun r w'=>r=.returned (.int .u64 ((if t then K else if outS mode K m s then K+1 else K:Nat):Nat))∧Below w.heap.size w w':=by
 have hub:=H.ub;have hone:=H.grid.one;have hsm:=H.small;have lnum:∀ k,bl (num k).1≤53:=fun k=>bl_le53 _ (H.val k _ (Int.le_refl _)).2.1
 have C:=nearby11 (w:=w) (n:=s) (m:=mb) (a:=a) (b:=b) (la:=la) (ca:=ca) (lb:=lb) (cb:=cb) (e:=e) (f:=f) dg ls En (by omega) hsm num
  (fun k=>cmpZ ((v k^n*rS11 Y e f u n:Nat):Int) ((rV11 X e f u n:Nat):Int)) (fun k=>cmpZ (((v k+v (k+1))^n*rS11 Y e f u n:Nat):Int) ((2^n*rV11 X e f u n:Nat):Int)) sq mode hm0 hm4
  (fun k=>len8 (by have:=lnum k;omega)) (fun k=>cmpZ_three _ _) (hid fun k w' hk=>H.call k w' (by omega))
  (hid fun k w' p l c hk hb hA=>by
   obtain ⟨h1,h2,h3,h4⟩:=H.val k (-(u:Int)) (Int.le_refl _);have h5:=H.top k (by omega)
   exact againstN H (hN.below hb) (hD.below hb) he hf hY (num k).1 (v k) n u (num k).2 (-(u:Int)) hA hn (by have:=lnum k;omega) (by omega) (by omega) h3 (Int.le_refl _) h1 sq hsq)
  (hid fun k w' hk hb=>by
   obtain ⟨h1,h2,h3,h4⟩:=H.val k (-(u:Int)-1) (by omega)
   obtain ⟨i1,i2,i3,i4⟩:=H.val (k+1) (-(u:Int)-1) (by omega)
   obtain ⟨j1,j2,j3⟩:=H.step k;have h5:=H.top k (by omega)
   have l1:=lnum k;have l2:=lnum (k+1);obtain ⟨q,hq⟩:∃ q,(num (k+1)).2-(num k).2=q:=⟨_,rfl⟩;have hq2:q=0∨q=1:=by omega
   have hp:(2:Nat)^q.toNat≤2:=by rcases hq2 with h | h <;> subst h <;> decide
   have hM:(num (k+1)).1*2^q.toNat≤(num (k+1)).1*2:=Nat.mul_le_mul_left _ hp;have M:=mid_units (u:=u) (B:=-(u:Int)-1) (by omega) (by omega) hq.symm (by omega) h1 i1 rfl
   have lM:bl ((num (k+1)).1*2^q.toNat)≤60:=bl_lt_pow (by rw [show (2:Nat)^60=1152921504606846976 by rfl];omega)
   have lS:bl ((num k).1+(num (k+1)).1*2^q.toNat)≤60:=bl_lt_pow (by rw [show (2:Nat)^60=1152921504606846976 by rfl];omega)
   refine half11 dg ls En (k:Int) ((k+1:Nat):Int) (num k).2 (num (k+1)).2 q ((num k).2-1) _ (num k).1 (num (k+1)).1 _ sq (by rw [IntKind.wrap_u64];omega) (by rw [hq];exact wrap_in _ (by omega) (by omega)) (by omega) (by omega) (wrap_in _ (by omega) (by omega)) rfl (fun h=>by have:=i4.1 h;omega) (len8 (by omega)) (len8 (by omega)) (len8 (by omega)) (len8 (by omega)) (hid fun x=>H.call k x (by omega)) (hid fun x=>H.call (k+1) x (by omega)) (hid fun x p l c hx hA=>?_)
   have:=againstN H ((hN.below hb).below hx) ((hD.below hb).below hx) he hf hY ((num k).1+(num (k+1)).1*2^q.toNat) (v k+v (k+1)) n (u+1) ((num k).2-1) (-(u:Int)-1) hA hn (by omega) (by omega) (by omega) (by omega) (by omega) M sq hsq (s:=s) (mb:=mb)
   rw [half_units] at this;exact this)
 refine C.mono ?_;rintro r w' ⟨⟨k,rfl,hk,k1,k2⟩,hb⟩;refine ⟨?_,hb⟩
 obtain ⟨d1,d2,d3⟩:=L.doc H.grid (by omega) k hk (by
  rcases k1 with rfl|h
  · rw [H.grid.zero,Nat.zero_pow (by omega),Nat.zero_mul];exact Nat.zero_le _
  · exact cmpZ_le0.1 h) (by
  rcases k2 with h|h
  · exact .inl h
  · exact .inr (cmpZ_gt0.1 h))
 subst d1
 congr 3
 unfold nbyD11
 by_cases hx:rV11 X e f u n=v k^n*rS11 Y e f u n
 · rw [if_pos (cmpZ_eq0.2 hx.symm),d2,decide_eq_true hx,if_pos rfl]
 · have ht:t=false:=by rw [d2];exact decide_eq_false hx
   have hm:-cmpZ (((v k+v (k+1))^n*rS11 Y e f u n:Nat):Int) ((2^n*rV11 X e f u n:Nat):Int)=m:=by
    rw [d3 ht,←cmpZ_neg];unfold cmpN cmpZ;simp only [Int.ofNat_lt]
   rw [if_neg (fun h=>hx (cmpZ_eq0.1 h).symm),hm,ht];rfl
end
section
open Go.RowKit
section
attribute [local go_sem] B.f64frombits
theorem wide64_any (k:Nat) (hk:k<9223372036854775808) (neg:Bool) (er:Int) (w:World) :
 Calls Tryz.prog 100 #[.int .u64 (k:Nat),.bool neg,.int .i64 er] w fun r w'=>r=.returned (.tuple #[.float .f64 (k+(if neg then 9223372036854775808 else 0)),.int .i64 er])∧w'=w:=by
 have e1:IntKind.u64.wrap ((k:Int)+9223372036854775808)=((k+9223372036854775808:Nat):Int):=by rw [IntKind.wrap_u64];omega
 cases neg
 · go_enter Tryz.func100,Tryz.ntmps100
   go_wp2;exact bodyPost_ret (v:=.tuple #[.float .f64 k,.int .i64 er]) (by simp [results,Tryz.results100,go_sem]) rfl ⟨by simp,rfl⟩
 · go_enter Tryz.func100,Tryz.ntmps100
   go_wp2;exact bodyPost_ret (v:=.tuple #[.float .f64 (k+9223372036854775808),.int .i64 er]) (by simp [results,Tryz.results100,go_sem] <;> omega) rfl ⟨by simp,rfl⟩
end
end
section
open Go.RowKit
theorem Tryz.und_ratios:Tryz.prog.underlying 147=some (.slice 71):=by kernel_rfl
theorem Tryz.info_ratio:(Tryz.prog.info? 71).map (fun i=>(i.zero,i.size,i.bytes))=some (some (.agg #[.bool false,.slice none 0 0,.int .i64 0,.bool false,.slice none 0 0,.int .i64 0]),6,80):=by kernel_rfl
structure R1 (w:World) (v:Value) (n:Bool) (x:Value) (e:Int) (m:Bool) (y:Value) (f:Int):Prop where
 ex:∃ g cap,v=.slice (some ⟨g,0,none⟩) 1 cap∧1≤cap∧g<w.heap.size∧(w.cell? ⟨g,0,none⟩=some (.bool n)∧w.cell? ⟨g,1,none⟩=some x∧w.cell? ⟨g,2,none⟩=some (.int .i64 e)∧w.cell? ⟨g,3,none⟩=some (.bool m)∧w.cell? ⟨g,4,none⟩=some y∧w.cell? ⟨g,5,none⟩=some (.int .i64 f))
theorem append_r (w:World) (n:Bool) (a:Option Addr) (l c:Nat) (e:Int) (m:Bool) (b:Option Addr) (k d:Nat) (f:Int) :
 ∃ v' w',(Builtin.append_ #[147,147] 147 #[.slice none 0 0,.slice (some ⟨w.heap.size,0,none⟩) 1 1]).run Tryz.prog (w.alloc (.cells #[.bool n,.slice a l c,.int .i64 e,.bool m,.slice b k d,.int .i64 f] 71))=.ok v' w'∧R1 w' v' n (.slice a l c) e m (.slice b k d) f∧Below w.heap.size w w':=by
 obtain ⟨i0,hi,hz0,hz1,hz2⟩:=info_parts Tryz.info_ratio;obtain ⟨W,hW⟩:∃ W,W=w.alloc (.cells #[.bool n,.slice a l c,.int .i64 e,.bool m,.slice b k d,.int .i64 f] 71):=⟨_,rfl⟩;have hq:Rq W w.heap.size n (.slice a l c) e m (.slice b k d) f:=by rw [hW];exact Rq.new _ _ _ _ _ _ _
 obtain ⟨x0,x1,x2,x3,x4,x5⟩:=hq.facts;have hWs:w.heap.size≤W.heap.size:=by subst hW;simp
 obtain ⟨v',w',r1,r2,r3,r4,r5⟩:=run_append_own_at (P:=Tryz.prog) W w.heap.size 147 147 71 i0 _ 6 80 Tryz.und_ratios hi hz0 hz1 hz2 rfl (by decide) (.slice none 0 0) 0 [] (World.ownsRow_nil W w.heap.size 71 6) ⟨w.heap.size,0,none⟩ 1 1 [.bool n,.slice a l c,.int .i64 e,.bool m,.slice b k d,.int .i64 f] rfl (by
  intro j u hj
  match j,hj with
  | 0,hj=>simp at hj;subst hj;simpa [Addr.add] using x0
  | 1,hj=>simp at hj;subst hj;simpa [Addr.add] using x1
  | 2,hj=>simp at hj;subst hj;simpa [Addr.add] using x2
  | 3,hj=>simp at hj;subst hj;simpa [Addr.add] using x3
  | 4,hj=>simp at hj;subst hj;simpa [Addr.add] using x4
  | 5,hj=>simp at hj;subst hj;simpa [Addr.add] using x5
  | j+6,hj=>simp at hj) (by intro u hu;simp at hu;rcases hu with rfl | rfl | rfl | rfl | rfl | rfl <;> rfl) (by unfold maxLen;omega) (by omega) hWs
 rw [←hW];refine ⟨v',w',r1,?_,?_⟩
 · rcases r2.2 with ⟨h1,h2⟩ | ⟨g,cap,cur,rfl,hlo,hg,hn1,hm,hs,ht⟩
   · exact absurd (r4.1 h1).2 (by decide)
   · have C:∀ i,i<6→w'.cell? ⟨g,i,none⟩=([.bool n,.slice a l c,.int .i64 e,.bool m,.slice b k d,.int .i64 f]:List Value)[i]?:=by
      intro i hi6;have:=World.ownsRow.cellAt r2 i (by simp;omega)
      simpa using this
     exact ⟨g,cap,rfl,hn1,(Array.getElem?_eq_some_iff.1 hg).1,C 0 (by omega),C 1 (by omega),C 2 (by omega),C 3 (by omega),C 4 (by omega),C 5 (by omega)⟩
 · have hlw:Below w.heap.size w W:=by subst hW;exact below_alloc _ _
   refine ⟨r3.os.trans hlw.os,r3.tape.trans hlw.tape,r3.output.trans hlw.output,Nat.le_trans hlw.size r3.size,fun k hkl=>?_⟩
   rw [r3.block k (by omega) (fun e=>by simp [Value.ownBlock] at e)]
   exact hlw.block k hkl
end
section
open Go.RowKit J
attribute [local go_sem] st_float
theorem wpList_append10 {w:World}{ops:Array Oper}{rest:List Oper}{o:Oper}{a:Act}{Q:Exit→Act→World→Prop}(hgd:o.guard=none) (s x:Operand) (t:TypeId)
 (ho:o.op=.call { callee:=.builtin .append,args:=#[s,x],argTypes:=#[t,t] }) (v u:Value) (hs:a.eval s=v) (hx:a.eval x=u) (v':Value) (w':World)
 (hrun:(Builtin.append_ #[t,t] o.type #[v,u]).run Tryz.prog w=.ok v' w') (h:wpList Tryz.prog ops Q rest (a.put o.dst v') w'):wpList Tryz.prog ops Q (o::rest) a w:=by
 refine wpList_plain hgd fun K hK=>?_
 unfold Oper.wp;simp [execOp,ho,resolve,invoke,builtin,hs,hx,hrun,Result.andThen];exact hK _ _ h
end
section
open Go.RowKit
theorem sign_al {w:World}{v:Value}{X:Nat}(h1:Al w v X) (ng:Bool) (e:Int):Calls Tryz.prog 168 #[.agg #[.bool ng,v,.int .i64 e]] w fun r w'=>r=.returned (.int .i64 (sgn ng X))∧Below w.heap.size w w':=by
 obtain ⟨a,l,c,xs,rfl,hA,rfl,hl⟩:=h1;exact rSign_any3 hA ng e
theorem made_al {w:World}{v:Value}{X:Nat}(h1:Al w v X) (n:Bool) (e:Int) (be:-9223372036854775808≤e∧e≤9223372036854775807) (o:Option (Bool×Nat×Int)) (ho:mkS n X e=o) (s:Bool) (hs:o.isSome=s):Calls Tryz.prog 59 #[.agg #[.bool n,v,.int .i64 e]] w fun r w'=>(∃ p,r=.returned (.tuple #[.agg #[.bool (dN o),p,.int .i64 (dE o)],.bool s])∧Nt w.heap.size w' p (dX o))∧Below w.heap.size w w':=by
 obtain ⟨a,l,c,xs,rfl,hA,rfl,hl⟩:=h1;subst ho hs;exact rMade_any hA hl n e be.1 be.2
def MayA (lo:Nat) (w:World) (r:Ending) (o p:Option (Bool×Nat×Int)) (er:Int):Prop :=
 ∃ v,r=.returned (.tuple #[v,.int .i64 er])∧(er=0→∃ x y,R1 w v (dN o) x (dE o) (dN p) y (dE p)∧Nt lo w x (dX o)∧Nt lo w y (dX p))
theorem may1 {w:World}{g:Nat}{n m:Bool}{a b:Option Addr}{la ca lb cb X Y:Nat}{e f:Int}(hq:Rq w g n (.slice a la ca) e m (.slice b lb cb) f) (hN:Al w (.slice a la ca) X) (hD:Al w (.slice b lb cb) Y) (be:-9223372036854775808≤e∧e≤9223372036854775807) (bf:-9223372036854775808≤f∧f≤9223372036854775807)
 (o p:Option (Bool×Nat×Int)) (ho:mkS n X e=o) (hp:mkS m Y f=p) (er:Int) (her:errN X n e Y m f=er) :
 Calls Tryz.prog 136 #[.slice (some ⟨g,0,none⟩) 1 1] w fun r w'=>MayA w.heap.size w' r o p er∧Below w.heap.size w w':=by
 have S0:=(qsd (ai (Below.refl w.heap.size w) hq));have AA:=(qsd (ai hN (ai hD (ai be (ai bf (ai ho (ai hp her)))))));have LL:Aside ((ws (dX o)).length≤8192∧(ws (dX p)).length≤8192):=qsd ⟨by rw [←ho];exact mkS_len _ _ _,by rw [←hp];exact mkS_len _ _ _⟩
 obtain ⟨sg,hsg⟩:∃ x,sgn m Y=x:=⟨_,rfl⟩;have SG:=qsd hsg;clear hq hN hD be bf ho hp her hsg;have one:decide ((1:Int)<1)=false:=by decide
 go_enter Tryz.func136,Tryz.ntmps136;go_wp2
 go_loopg [4] 1 (fun gk i wr=>∃ k:Nat,gk+k=1∧i=.int .i64 (k:Nat)∧Aside (Below w.heap.size w wr∧(k=1→¬ sgn m Y<0)))
 case atStart=>exact ⟨0,by omega,by simp,qsd ⟨S0.out.1,fun h=>by cases h⟩⟩
 case round =>
  obtain ⟨k,hgk,rfl,HA⟩:=hrel
  by_cases hk:k<1
  · obtain rfl:k=0:=by omega
    obtain ⟨x0,x1,x2,x3,x4,x5⟩:=(S0.out.2.below HA.out.1).facts;have HC:=hid (sign_al (AA.out.2.1.below HA.out.1) m f);rw [SG.out] at HC
    go_wp2_with fail
    clear x0 x1 x2 x3 x4 x5;refine HC.out.mono ?_;rintro r u1 ⟨rfl,hb⟩;have HB:=qsd (HA.out.1.trans (hb.mono HA.out.1.size));clear HC hb HA
    by_cases hs:sg<0
    · have hs':decide (sg<0)=true:=decide_eq_true hs
      have HE:Aside (er=1):=qsd (by rw [←AA.out.2.2.2.2.2.2];unfold errN;rw [if_pos (by rw [SG.out];exact hs)])
      clear hs;go_wp2;exact bodyPost_ret (v:=.tuple #[.slice none 0 0,.int .i64 1]) (by simp [results,Tryz.results136,go_sem]) rfl ⟨⟨_,by rw [HE.out],fun h=>by rw [HE.out] at h;cases h⟩,HB.out⟩
    · have hs':decide (sg<0)=false:=decide_eq_false hs
      have HS:=qsd hs;clear hs
      go_wp2_with fail
      go_roundg 0
      case measure=>omega
      case rel=>exact ⟨1,by omega,by first | rfl | simp,qsd ⟨HB.out,fun _=>by rw [SG.out];exact HS.out⟩⟩
  · obtain rfl:k=1:=by omega
    have HS:=qsd (HA.out.2 rfl);have HB:=qsd HA.out.1;clear HA;go_wp2
    go_loopg [6,5] 1 (fun gk i v wr=>∃ (k:Nat) (v0:Value),gk+k=1∧i=.int .i64 (k:Nat)∧v=v0∧Aside (Below w.heap.size w wr∧(k=0→v0=.slice none 0 0)∧(k=1→o.isSome=true∧p.isSome=true∧∃ x y,R1 wr v0 (dN o) x (dE o) (dN p) y (dE p)∧Nt w.heap.size wr x (dX o)∧Nt w.heap.size wr y (dX p))))
    case atStart=>exact ⟨0,_,by omega,by simp,rfl,qsd ⟨HB.out,fun _=>rfl,fun h=>by cases h⟩⟩
    case round =>
     obtain ⟨j,v,hgj,rfl,hv,HA⟩:=hrel
     by_cases hj:j<1
     · obtain rfl:j=0:=by omega
       have hv0:=HA.out.2.1 rfl;subst hv0;subst hv;obtain ⟨s1,hs1⟩:∃ x,o.isSome=x:=⟨_,rfl⟩;obtain ⟨s2,hs2⟩:∃ x,p.isSome=x:=⟨_,rfl⟩;have SS:=(qsd (ai hs1 hs2));have S1:=(qsd (ai HA.out.1 (ai (S0.out.2.below HA.out.1) (ai (AA.out.1.below HA.out.1) (AA.out.2.1.below HA.out.1)))));clear hs1 hs2 HA;obtain ⟨x0,x1,x2,x3,x4,x5⟩:=S1.out.2.1.facts;have HC:=hid (made_al S1.out.2.2.1 n e AA.out.2.2.1 o AA.out.2.2.2.2.1 s1 SS.out.1)
       go_wp2_with fail
       clear x0 x1 x2 x3 x4 x5;refine HC.out.mono ?_;rintro r u1 ⟨⟨q,rfl,hN⟩,hb⟩;obtain ⟨q1,d1,rfl,-⟩:=hN.shape;obtain ⟨U1,hU1⟩:∃ U,U=u1.alloc (.cells #[.bool (dN o),.slice q1 (ws (dX o)).length d1,.int .i64 (dE o)] 41):=⟨_,rfl⟩
       have S2:Aside (Below w.heap.size w U1∧Rq U1 g n (.slice a la ca) e m (.slice b lb cb) f∧Al U1 (.slice b lb cb) Y∧Dk U1 u1.heap.size (dN o) (.slice q1 (ws (dX o)).length d1) (dE o)∧Nt w.heap.size U1 (.slice q1 (ws (dX o)).length d1) (dX o)):=by
        have b0:=S1.out.1;have b1:=b0.trans (hb.mono b0.size);have hA:Below u1.heap.size u1 U1:=by rw [hU1];exact below_alloc _ _
        exact qsd ⟨b1.trans (hA.mono b1.size),(S1.out.2.1.below hb).below hA,(S1.out.2.2.2.below hb).below hA,by rw [hU1];exact Dk.new _ _ _ _,(hN.mono b0.size).below hA⟩
       clear HC hb hN S1;obtain ⟨x0,x1,x2,x3,x4,x5⟩:=S2.out.2.1.facts;have HC:=hid (made_al S2.out.2.2.1 m f AA.out.2.2.2.1 p AA.out.2.2.2.2.2.1 s2 SS.out.2)
       go_upto_region 11 with fail
       rw [←hU1];clear hU1
       go_wp2_with fail
       clear x0 x1 x2 x3 x4 x5;refine HC.out.mono ?_;rintro r u2 ⟨⟨q,rfl,hN⟩,hb⟩;obtain ⟨q2,d2,rfl,-⟩:=hN.shape;obtain ⟨U2,hU2⟩:∃ U,U=u2.alloc (.cells #[.bool (dN p),.slice q2 (ws (dX p)).length d2,.int .i64 (dE p)] 41):=⟨_,rfl⟩
       have S3:Aside (Below w.heap.size w U2∧Dk U2 u1.heap.size (dN o) (.slice q1 (ws (dX o)).length d1) (dE o)∧Nt w.heap.size U2 (.slice q1 (ws (dX o)).length d1) (dX o)∧Dk U2 u2.heap.size (dN p) (.slice q2 (ws (dX p)).length d2) (dE p)∧Nt w.heap.size U2 (.slice q2 (ws (dX p)).length d2) (dX p)):=by
        have b0:=S2.out.1;have b1:=b0.trans (hb.mono b0.size);have hA:Below u2.heap.size u2 U2:=by rw [hU2];exact below_alloc _ _
        exact qsd ⟨b1.trans (hA.mono b1.size),(S2.out.2.2.2.1.below hb).below hA,(S2.out.2.2.2.2.below hb).below hA,by rw [hU2];exact Dk.new _ _ _ _,(hN.mono b0.size).below hA⟩
       clear HC hb hN S2
       by_cases hbad:s1=true∧s2=true
       · obtain ⟨rfl,rfl⟩:=hbad
         obtain ⟨x0,x1,x2,x3,x4,x5⟩:=S3.out.2.1.facts;obtain ⟨y0,y1,y2,y3,y4,y5⟩:=S3.out.2.2.2.1.facts;obtain ⟨v',w',r1,r2,r3⟩:=append_r U2 (dN o) q1 (ws (dX o)).length d1 (dE o) (dN p) q2 (ws (dX p)).length d2 (dE p);have HR:=qsd r1;have HN:=(qsd (ai r2 (ai (S3.out.1.trans (r3.mono S3.out.1.size)) (ai (S3.out.2.2.1.below r3) (S3.out.2.2.2.2.below r3)))));clear r1 r2 r3
         go_upto_region 14 with fail
         rw [←hU2];clear hU2
         go_wp2_with (at_builtin;refine wpList_append10 rfl (.tmp 55) (.tmp 59) 147 rfl _ _ rfl rfl _ _ HR.out ?_)
         go_roundg 0
         case measure=>omega
         case rel=>exact ⟨1,_,by omega,by first | rfl | simp,rfl,qsd ⟨HN.out.2.1,(fun h=>by cases h),fun _=>⟨SS.out.1,SS.out.2,_,_,HN.out.1,HN.out.2.2.1,HN.out.2.2.2⟩⟩⟩
       · have HE:Aside (er=2):=qsd (by
          rw [←AA.out.2.2.2.2.2.2];unfold errN;rw [if_neg (by have:=HS.out;omega),AA.out.2.2.2.2.1,AA.out.2.2.2.2.2.1,SS.out.1,SS.out.2]
          rw [if_neg (by intro h;rw [Bool.and_eq_true] at h;exact hbad h)])
         have H5:=qsd S3.out.1;clear S3
         cases s1
         · go_upto_region 12 with fail
           rw [←hU2];clear hU2 hbad;go_wp2;exact bodyPost_ret (v:=.tuple #[.slice none 0 0,.int .i64 2]) (by simp [results,Tryz.results136,go_sem]) rfl ⟨⟨_,by rw [HE.out],fun h=>by rw [HE.out] at h;cases h⟩,H5.out⟩
         · cases s2
           · go_upto_region 12 with fail
             rw [←hU2];clear hU2 hbad;go_wp2;exact bodyPost_ret (v:=.tuple #[.slice none 0 0,.int .i64 2]) (by simp [results,Tryz.results136,go_sem]) rfl ⟨⟨_,by rw [HE.out],fun h=>by rw [HE.out] at h;cases h⟩,H5.out⟩
           · exact absurd ⟨rfl,rfl⟩ hbad
     · obtain rfl:j=1:=by omega
       obtain ⟨i1,i2,x,y,hR,hx,hy⟩:=HA.out.2.2 rfl;obtain ⟨gg,cap,rfl,hcap,hgg,c0,c1,c2,c3,c4,c5⟩:=hR.ex;subst hv;obtain ⟨q1,d1,rfl,-⟩:=hx.shape;obtain ⟨q2,d2,rfl,-⟩:=hy.shape;have HX:=(qsd (ai HA.out.1 (ai hR (ai hx (ai hy (ai i1 i2))))));clear HA hR hx hy hgg i1 i2;go_wp2
       go_loopg [11] 1 (fun gk i wq=>∃ (k:Nat),gk+k=1∧i=.int .i64 (k:Nat)∧wq=wr∧Aside (k=1→dX p≠0))
       case atStart=>exact ⟨0,by omega,by simp,rfl,qsd fun h=>by cases h⟩
       case round =>
        obtain ⟨i,hgi,rfl,rfl,HP⟩:=hrel
        by_cases hi:i<1
        · obtain rfl:i=0:=by omega
          by_cases h0:dX p=0
          · have r1:((((ws (dX p)).length:Nat):Int)==0)=true:=by rw [h0,ws0];rfl
            have r2:((ws (dX p)).length==0)=true:=by rw [h0,ws0];rfl
            have HE:Aside (er=21):=qsd (by
             rw [←AA.out.2.2.2.2.2.2];unfold errN;rw [if_neg (by have:=HS.out;omega),AA.out.2.2.2.2.1,AA.out.2.2.2.2.2.1,HX.out.2.2.2.2.1,HX.out.2.2.2.2.2,if_pos (by decide),if_pos h0])
            clear h0;go_wp2;exact bodyPost_ret (v:=.tuple #[.slice none 0 0,.int .i64 21]) (by simp [results,Tryz.results136,go_sem]) rfl ⟨⟨_,by rw [HE.out],fun h=>by rw [HE.out] at h;cases h⟩,HX.out.1⟩
          · have r1:((((ws (dX p)).length:Nat):Int)==0)=false:=len_ne h0
            have r2:((ws (dX p)).length==0)=false:=beq_eq_false_iff_ne.2 (fun h=>h0 ((ws_len_zero _).1 h))
            have H0:=qsd h0;clear h0
            go_wp2_with fail
            go_roundg 0
            case measure=>omega
            case rel=>exact ⟨1,by omega,by first | rfl | simp,rfl,qsd fun _=>H0.out⟩
        · obtain rfl:i=1:=by omega
          have HE:Aside (er=0):=qsd (by
           rw [←AA.out.2.2.2.2.2.2];unfold errN;rw [if_neg (by have:=HS.out;omega),AA.out.2.2.2.2.1,AA.out.2.2.2.2.2.1,HX.out.2.2.2.2.1,HX.out.2.2.2.2.2,if_pos (by decide),if_neg (HP.out rfl)])
          go_wp2;exact bodyPost_ret (v:=.tuple #[.slice (some ⟨gg,0,none⟩) 1 cap,.int .i64 0]) (by simp [results,Tryz.results136,go_sem]) rfl ⟨⟨_,by rw [HE.out],fun _=>⟨_,_,HX.out.2.1,HX.out.2.2.1,HX.out.2.2.2.1⟩⟩,HX.out.1⟩
end
section
open Go.RowKit
theorem rounded_mode {w:World}{n m:Bool}{a b:Option Addr}{la ca lb cb X Y:Nat}{e f:Int}(dg ls:Int) (En:Nat) (sq:Bool) (mode:Int) (hm:mode<0∨4<mode) :
 Calls Tryz.prog 99 #[.agg #[.int .i64 dg,.int .i64 ls,.int .u64 (En:Nat)],.agg #[.bool n,.slice a la ca,.int .i64 e,.bool m,.slice b lb cb,.int .i64 f],.bool sq,.int .i64 mode] w fun r w'=>r=.returned (.tuple #[.int .u64 0,.bool false,.int .i64 1])∧Below w.heap.size w w':=by
 obtain ⟨W1,hW1⟩:∃ W,W=(w.alloc (.cells #[.int .i64 dg,.int .i64 ls,.int .u64 (En:Nat)] 110)).alloc (.cells #[.bool n,.slice a la ca,.int .i64 e,.bool m,.slice b lb cb,.int .i64 f] 71):=⟨_,rfl⟩;obtain ⟨hB,Z,QR⟩:=two_boxes w dg ls En n _ e m _ f W1 hW1;have S9:=qsd hB;clear hB Z QR;have hd:(mode<0)∨(¬ mode<0∧4<mode):=by omega
 clear hm;go_enter Tryz.func99,Tryz.ntmps99
 go_upto_region 1 with fail
 rw [←hW1];clear hW1
 rcases hd with hd|⟨hd,hd2⟩
 · have d1:=decide_eq_true hd
   clear hd;go_wp2;exact bodyPost_ret (v:=.tuple #[.int .u64 0,.bool false,.int .i64 1]) (by simp [results,Tryz.results99,go_sem]) rfl ⟨rfl,S9.out⟩
 · have d1:=decide_eq_false hd
   have d2:=decide_eq_true hd2;clear hd hd2;go_wp2;exact bodyPost_ret (v:=.tuple #[.int .u64 0,.bool false,.int .i64 1]) (by simp [results,Tryz.results99,go_sem]) rfl ⟨rfl,S9.out⟩
theorem rounded_err {w:World}{n m:Bool}{a b:Option Addr}{la ca lb cb X Y:Nat}{e f:Int}(dg ls:Int) (En:Nat) (sq:Bool) (mode:Int) (hm0:0≤mode) (hm4:mode≤4) (hN:Al w (.slice a la ca) X) (hD:Al w (.slice b lb cb) Y) (be:-9223372036854775808≤e∧e≤9223372036854775807) (bf:-9223372036854775808≤f∧f≤9223372036854775807)
 (o p:Option (Bool×Nat×Int)) (ho:mkS n X e=o) (hp:mkS m Y f=p) (er:Int) (her:errN X n e Y m f=er) (hne:er≠0) :
 Calls Tryz.prog 99 #[.agg #[.int .i64 dg,.int .i64 ls,.int .u64 (En:Nat)],.agg #[.bool n,.slice a la ca,.int .i64 e,.bool m,.slice b lb cb,.int .i64 f],.bool sq,.int .i64 mode] w fun r w'=>r=.returned (.tuple #[.int .u64 0,.bool false,.int .i64 er])∧Below w.heap.size w w':=by
 obtain ⟨W1,hW1⟩:∃ W,W=(w.alloc (.cells #[.int .i64 dg,.int .i64 ls,.int .u64 (En:Nat)] 110)).alloc (.cells #[.bool n,.slice a la ca,.int .i64 e,.bool m,.slice b lb cb,.int .i64 f] 71):=⟨_,rfl⟩;obtain ⟨hB,Z,QR⟩:=two_boxes w dg ls En n _ e m _ f W1 hW1;obtain ⟨L1,hL1⟩:∃ W,W=W1.alloc (.cells #[.bool n,.slice a la ca,.int .i64 e,.bool m,.slice b lb cb,.int .i64 f] 71):=⟨_,rfl⟩;have hB2:Below W1.heap.size W1 L1:=by rw [hL1];exact below_alloc _ _
 have bel:=hB.trans (hB2.mono hB.size);have LQ:Rq L1 W1.heap.size n (.slice a la ca) e m (.slice b lb cb) f:=by rw [hL1];exact Rq.new _ _ _ _ _ _ _
 have HC:=hid (may1 LQ (hN.below bel) (hD.below bel) be bf o p ho hp er her);have LL:Aside ((ws (dX o)).length≤8192∧(ws (dX p)).length≤8192):=qsd ⟨by rw [←ho];exact mkS_len _ _ _,by rw [←hp];exact mkS_len _ _ _⟩
 obtain ⟨x0,x1,x2,x3,x4,x5⟩:=QR.facts;have S0:=(qsd (ai bel (Z.below hB2)));have d1:decide (mode<0)=false:=decide_eq_false (by omega)
 have d2:decide (4<mode)=false:=decide_eq_false (by omega)
 clear hB hB2 bel LQ Z QR hN hD be bf ho hp her hm0 hm4;go_enter Tryz.func99,Tryz.ntmps99
 go_upto_region 1 with fail
 rw [←hW1];clear hW1
 go_wp2_with fail
 rw [←hL1];clear hL1 x0 x1 x2 x3 x4 x5;refine HC.out.mono ?_;rintro r u1 ⟨⟨v,rfl,hR⟩,hb⟩;have S9:=qsd (S0.out.1.trans (hb.mono S0.out.1.size));have hne':(er != 0)=true:=by simpa using hne
 have hne2:(er==0)=false:=by simpa using hne
 clear hb hR HC S0 LL;go_wp2;exact bodyPost_ret (v:=.tuple #[.int .u64 0,.bool false,.int .i64 er]) (by simp [results,Tryz.results99,go_sem]) rfl ⟨rfl,S9.out⟩
theorem rounded_ok {w:World}{n m:Bool}{a b:Option Addr}{la ca lb cb X Y:Nat}{e f:Int}(dg ls:Int) (En:Nat) (sq:Bool) (mode:Int) (hm0:0≤mode) (hm4:mode≤4) (hN:Al w (.slice a la ca) X) (hD:Al w (.slice b lb cb) Y) (be:-9223372036854775808≤e∧e≤9223372036854775807) (bf:-9223372036854775808≤f∧f≤9223372036854775807)
 (o p:Option (Bool×Nat×Int)) (ho:mkS n X e=o) (hp:mkS m Y f=p) (er:Int) (her:errN X n e Y m f=er) (h0:er=0) (hsq:sq=false∨dN o=false) (K:Nat)
 (HNb:Hid (∀ (u:World) (x y:Option Addr) (lx cx ly cy:Nat),Below w.heap.size w u→Al u (.slice x lx cx) (dX o)→Al u (.slice y ly cy) (dX p)→Calls Tryz.prog 137 #[.agg #[.int .i64 dg,.int .i64 ls,.int .u64 (En:Nat)],.agg #[.bool (dN o),.slice x lx cx,.int .i64 (dE o),.bool (dN p),.slice y ly cy,.int .i64 (dE p)],.bool sq,.int .i64 mode] u fun r w'=>r=.returned (.int .u64 (K:Nat))∧Below u.heap.size u w')) :
 Calls Tryz.prog 99 #[.agg #[.int .i64 dg,.int .i64 ls,.int .u64 (En:Nat)],.agg #[.bool n,.slice a la ca,.int .i64 e,.bool m,.slice b lb cb,.int .i64 f],.bool sq,.int .i64 mode] w fun r w'=>r=.returned (.tuple #[.int .u64 (K:Nat),.bool (dN o),.int .i64 0])∧Below w.heap.size w w':=by
 obtain ⟨W1,hW1⟩:∃ W,W=(w.alloc (.cells #[.int .i64 dg,.int .i64 ls,.int .u64 (En:Nat)] 110)).alloc (.cells #[.bool n,.slice a la ca,.int .i64 e,.bool m,.slice b lb cb,.int .i64 f] 71):=⟨_,rfl⟩;obtain ⟨hB,Z,QR⟩:=two_boxes w dg ls En n _ e m _ f W1 hW1;obtain ⟨L1,hL1⟩:∃ W,W=W1.alloc (.cells #[.bool n,.slice a la ca,.int .i64 e,.bool m,.slice b lb cb,.int .i64 f] 71):=⟨_,rfl⟩;have hB2:Below W1.heap.size W1 L1:=by rw [hL1];exact below_alloc _ _
 have bel:=hB.trans (hB2.mono hB.size);have LQ:Rq L1 W1.heap.size n (.slice a la ca) e m (.slice b lb cb) f:=by rw [hL1];exact Rq.new _ _ _ _ _ _ _
 have HC:=hid (may1 LQ (hN.below bel) (hD.below bel) be bf o p ho hp er her);have LL:Aside ((ws (dX o)).length≤8192∧(ws (dX p)).length≤8192):=qsd ⟨by rw [←ho];exact mkS_len _ _ _,by rw [←hp];exact mkS_len _ _ _⟩
 obtain ⟨x0,x1,x2,x3,x4,x5⟩:=QR.facts;have S0:=(qsd (ai bel (Z.below hB2)));have d1:decide (mode<0)=false:=decide_eq_false (by omega)
 have d2:decide (4<mode)=false:=decide_eq_false (by omega)
 clear hB hB2 bel LQ Z QR hN hD be bf ho hp her hm0 hm4;go_enter Tryz.func99,Tryz.ntmps99
 go_upto_region 1 with fail
 rw [←hW1];clear hW1
 go_wp2_with fail
 rw [←hL1];clear hL1 x0 x1 x2 x3 x4 x5;refine HC.out.mono ?_;rintro r u1 ⟨⟨v,rfl,hR⟩,hb⟩;obtain ⟨x,y,hR1,hx,hy⟩:=hR h0;subst h0;obtain ⟨gg,cap,rfl,hcap,hgg,c0,c1,c2,c3,c4,c5⟩:=hR1.ex;obtain ⟨q1,e1,rfl,-⟩:=hx.shape;obtain ⟨q2,e2,rfl,-⟩:=hy.shape;have S1:=(qsd (ai (S0.out.1.trans (hb.mono S0.out.1.size)) (ai (S0.out.2.below hb) (ai (hx.al' (Nat.le_trans LL.out.1 (by decide))) (ai (hy.al' (Nat.le_trans LL.out.2 (by decide))) (ai hR1 hgg))))))
 clear hb hR HC S0 LL hx hy hR1 hgg;obtain ⟨ng,hng⟩:∃ z,dN o=z:=⟨_,rfl⟩;obtain ⟨z0,z1,z2⟩:=S1.out.2.1.facts;have T1:=hid (HNb.out u1 q1 q2 _ e1 _ e2 S1.out.1 S1.out.2.2.1 S1.out.2.2.2.1);have dr:Below u1.heap.size u1 u1.drew:=(Below.refl _ _).drew;have T2:=hid (HNb.out u1.drew q1 q2 _ e1 _ e2 S1.out.1.drew (S1.out.2.2.1.below dr) (S1.out.2.2.2.1.below dr));have CC:=(qsd (ai c0 (ai c1 (ai c2 (ai c3 (ai c4 (ai c5 (ai z0 (ai z1 z2)))))))));rw [hng] at c0 T1 T2 hsq;have NG:=qsd hng;clear dr HNb hng
 rcases hsq with rfl|rfl
 · go_upto_region 8 with fail
   go_region_held3 (fun w'=>w'.cell? ⟨gg,0,none⟩=some (.bool ng)∧w'.cell? ⟨gg,1,none⟩=some (.slice q1 (ws (dX o)).length e1)∧w'.cell? ⟨gg,2,none⟩=some (.int .i64 (dE o))∧w'.cell? ⟨gg,3,none⟩=some (.bool (dN p))∧w'.cell? ⟨gg,4,none⟩=some (.slice q2 (ws (dX p)).length e2)∧w'.cell? ⟨gg,5,none⟩=some (.int .i64 (dE p))∧w'.cell? ⟨w.heap.size,0,none⟩=some (.int .i64 dg)∧w'.cell? ⟨w.heap.size,1,none⟩=some (.int .i64 ls)∧w'.cell? ⟨w.heap.size,2,none⟩=some (.int .u64 (En:Nat))) (go_keep) (first
    | (go_at_call 137
       first | with_reducible refine T1.out.mono ?_ | with_reducible refine T2.out.mono ?_
       rintro r v1 ⟨rfl,hb⟩;have hw:Below u1.heap.size u1 v1:=by first | exact hb | exact ((Below.refl _ u1).drew).trans (hb.mono (Nat.le_refl _))
       have hcg:∀ i,v1.cell? ⟨gg,i,none⟩=u1.cell? ⟨gg,i,none⟩:=fun i=>hw.cell (p:=⟨gg,i,none⟩) S1.out.2.2.2.2.2
       have k0:v1.cell? ⟨gg,0,none⟩=some (.bool ng):=by rw [hcg,CC.out.1,NG.out]
       have k1:=(hcg 1).trans CC.out.2.1;have k2:=(hcg 2).trans CC.out.2.2.1;have k3:=(hcg 3).trans CC.out.2.2.2.1;have k4:=(hcg 4).trans CC.out.2.2.2.2.1;have k5:=(hcg 5).trans CC.out.2.2.2.2.2.1;obtain ⟨j0,j1,j2⟩:=(S1.out.2.1.below hw).facts;have S9:=qsd (S1.out.1.trans (hw.mono S1.out.1.size));clear hb hw hcg)
    | fail)
   all_goals (
    go_wp2;exact bodyPost_ret (v:=.tuple #[.int .u64 (K:Nat),.bool ng,.int .i64 0]) (by simp [results,Tryz.results99,go_sem]) rfl ⟨by rw [NG.out],S9.out⟩)
 · cases sq
   · go_upto_region 8 with fail
     go_region_held3 (fun w'=>w'.cell? ⟨gg,0,none⟩=some (.bool false)∧w'.cell? ⟨gg,1,none⟩=some (.slice q1 (ws (dX o)).length e1)∧w'.cell? ⟨gg,2,none⟩=some (.int .i64 (dE o))∧w'.cell? ⟨gg,3,none⟩=some (.bool (dN p))∧w'.cell? ⟨gg,4,none⟩=some (.slice q2 (ws (dX p)).length e2)∧w'.cell? ⟨gg,5,none⟩=some (.int .i64 (dE p))∧w'.cell? ⟨w.heap.size,0,none⟩=some (.int .i64 dg)∧w'.cell? ⟨w.heap.size,1,none⟩=some (.int .i64 ls)∧w'.cell? ⟨w.heap.size,2,none⟩=some (.int .u64 (En:Nat))) (go_keep) (first
      | (go_at_call 137
         first | with_reducible refine T1.out.mono ?_ | with_reducible refine T2.out.mono ?_
         rintro r v1 ⟨rfl,hb⟩;have hw:Below u1.heap.size u1 v1:=by first | exact hb | exact ((Below.refl _ u1).drew).trans (hb.mono (Nat.le_refl _))
         have hcg:∀ i,v1.cell? ⟨gg,i,none⟩=u1.cell? ⟨gg,i,none⟩:=fun i=>hw.cell (p:=⟨gg,i,none⟩) S1.out.2.2.2.2.2
         have k0:v1.cell? ⟨gg,0,none⟩=some (.bool false):=by rw [hcg,CC.out.1,NG.out]
         have k1:=(hcg 1).trans CC.out.2.1;have k2:=(hcg 2).trans CC.out.2.2.1;have k3:=(hcg 3).trans CC.out.2.2.2.1;have k4:=(hcg 4).trans CC.out.2.2.2.2.1;have k5:=(hcg 5).trans CC.out.2.2.2.2.2.1;obtain ⟨j0,j1,j2⟩:=(S1.out.2.1.below hw).facts;have S9:=qsd (S1.out.1.trans (hw.mono S1.out.1.size));clear hb hw hcg)
      | fail)
     all_goals (
      go_wp2;exact bodyPost_ret (v:=.tuple #[.int .u64 (K:Nat),.bool false,.int .i64 0]) (by simp [results,Tryz.results99,go_sem]) rfl ⟨by rw [NG.out],S9.out⟩)
   · go_upto_region 8 with fail
     go_region_held3 (fun w'=>w'.cell? ⟨gg,0,none⟩=some (.bool false)∧w'.cell? ⟨gg,1,none⟩=some (.slice q1 (ws (dX o)).length e1)∧w'.cell? ⟨gg,2,none⟩=some (.int .i64 (dE o))∧w'.cell? ⟨gg,3,none⟩=some (.bool (dN p))∧w'.cell? ⟨gg,4,none⟩=some (.slice q2 (ws (dX p)).length e2)∧w'.cell? ⟨gg,5,none⟩=some (.int .i64 (dE p))∧w'.cell? ⟨w.heap.size,0,none⟩=some (.int .i64 dg)∧w'.cell? ⟨w.heap.size,1,none⟩=some (.int .i64 ls)∧w'.cell? ⟨w.heap.size,2,none⟩=some (.int .u64 (En:Nat))) (go_keep) (first
      | (go_at_call 137
         first | with_reducible refine T1.out.mono ?_ | with_reducible refine T2.out.mono ?_
         rintro r v1 ⟨rfl,hb⟩;have hw:Below u1.heap.size u1 v1:=by first | exact hb | exact ((Below.refl _ u1).drew).trans (hb.mono (Nat.le_refl _))
         have hcg:∀ i,v1.cell? ⟨gg,i,none⟩=u1.cell? ⟨gg,i,none⟩:=fun i=>hw.cell (p:=⟨gg,i,none⟩) S1.out.2.2.2.2.2
         have k0:v1.cell? ⟨gg,0,none⟩=some (.bool false):=by rw [hcg,CC.out.1,NG.out]
         have k1:=(hcg 1).trans CC.out.2.1;have k2:=(hcg 2).trans CC.out.2.2.1;have k3:=(hcg 3).trans CC.out.2.2.2.1;have k4:=(hcg 4).trans CC.out.2.2.2.2.1;have k5:=(hcg 5).trans CC.out.2.2.2.2.2.1;obtain ⟨j0,j1,j2⟩:=(S1.out.2.1.below hw).facts;have S9:=qsd (S1.out.1.trans (hw.mono S1.out.1.size));clear hb hw hcg)
      | fail)
     all_goals (
      go_wp2;exact bodyPost_ret (v:=.tuple #[.int .u64 (K:Nat),.bool false,.int .i64 0]) (by simp [results,Tryz.results99,go_sem]) rfl ⟨by rw [NG.out],S9.out⟩)
end
section
open Go.RowKit
theorem rQuot11 {w:World}{n m:Bool}{a b:Option Addr}{la ca lb cb:Nat}{e f:Int}(mode:Int) (k:Nat) (ng:Bool) (er:Int) (hk:k<9223372036854775808) (z:Nat) (hz:k+(if ng then 9223372036854775808 else 0)=z)
 (HR:Hid (∀ u:World,Below w.heap.size w u→Calls Tryz.prog 99 #[.agg #[.int .i64 53,.int .i64 (-1074),.int .u64 9218868437227405312],.agg #[.bool n,.slice a la ca,.int .i64 e,.bool m,.slice b lb cb,.int .i64 f],.bool false,.int .i64 mode] u fun r w'=>r=.returned (.tuple #[.int .u64 (k:Nat),.bool ng,.int .i64 er])∧Below u.heap.size u w')) :
 Calls Tryz.prog 52 #[.agg #[.bool n,.slice a la ca,.int .i64 e,.bool m,.slice b lb cb,.int .i64 f],.int .i64 mode] w fun r w'=>r=.returned (.tuple #[.float .f64 z,.int .i64 er])∧Below w.heap.size w w':=by
 obtain ⟨W1,hW1⟩:∃ W,W=w.alloc (.cells #[.bool n,.slice a la ca,.int .i64 e,.bool m,.slice b lb cb,.int .i64 f] 71):=⟨_,rfl⟩;have hB:Below w.heap.size w W1:=by rw [hW1];exact below_alloc _ _
 have QR0:Rq W1 w.heap.size n (.slice a la ca) e m (.slice b lb cb) f:=by rw [hW1];exact Rq.new _ _ _ _ _ _ _
 obtain ⟨x0,x1,x2,x3,x4,x5⟩:=QR0.facts;have S0:=(qsd (ai hB QR0));have HWd:Hid (∀ u:World,Calls Tryz.prog 100 #[.int .u64 (k:Nat),.bool ng,.int .i64 er] u fun r w'=>r=.returned (.tuple #[.float .f64 z,.int .i64 er])∧w'=u):=hid fun u=>by have h:=wide64_any k hk ng er u;rw [hz] at h;exact h
 clear hB QR0 hk hz;go_enter Tryz.func52,Tryz.ntmps52
 go_upto_region 1 with fail
 rw [←hW1];clear hW1;have T1:=hid (of64_any W1);have T2:=hid (of64_any W1.drew)
 go_region_held3 (fun w'=>w'.cell? ⟨w.heap.size,0,none⟩=some (.bool n)∧w'.cell? ⟨w.heap.size,1,none⟩=some (.slice a la ca)∧w'.cell? ⟨w.heap.size,2,none⟩=some (.int .i64 e)∧w'.cell? ⟨w.heap.size,3,none⟩=some (.bool m)∧w'.cell? ⟨w.heap.size,4,none⟩=some (.slice b lb cb)∧w'.cell? ⟨w.heap.size,5,none⟩=some (.int .i64 f)) (go_keep) (first
  | (go_at_call 90
     first | with_reducible refine T1.out.mono ?_ | with_reducible refine T2.out.mono ?_
     rintro r v1 ⟨rfl,hb⟩;have hw:Below W1.heap.size W1 v1:=by first | exact hb | exact ((Below.refl _ W1).drew).trans (hb.mono (Nat.le_refl _))
     obtain ⟨m0,m1,m2,m3,m4,m5⟩:=(S0.out.2.below hw).facts;have T3:=hid (HR.out v1 (S0.out.1.trans (hw.mono S0.out.1.size)));have S4:=(qsd (ai (S0.out.1.trans (hw.mono S0.out.1.size)) (S0.out.2.below hw)));clear hb hw)
  | (go_at_call 99
     with_reducible refine T3.out.mono ?_
     rintro r v2 ⟨rfl,hb⟩;obtain ⟨k0,k1,k2,k3,k4,k5⟩:=(S4.out.2.below hb).facts;have S5:=qsd (S4.out.1.trans (hb.mono S4.out.1.size));clear hb))
 all_goals (
  go_wp2_with fail
  refine (HWd.out _).mono ?_;rintro r v3 ⟨rfl,rfl⟩;go_wp2;exact bodyPost_ret (v:=.tuple #[.float .f64 z,.int .i64 er]) (by simp [results,Tryz.results52,go_sem]) rfl ⟨rfl,S5.out⟩)
end
section
open Go.RowKit
theorem lies_nought {v:Nat→Nat}{top n S:Nat}(G:Grid v top) (hn:n≠0) (hS:0<S):LiesG v top n 0 true 0 0 S :=
 ⟨by have:=G.one;omega,hS,fun _=>by rw [G.zero,Nat.zero_pow (by omega),Nat.zero_mul],(fun h=>by cases h),(fun h=>by cases h),(fun h=>by cases h)⟩
theorem rV_zero (e f:Int) (u n:Nat):rV11 0 e f u n=0:=by unfold rV11;rw [Nat.zero_mul]
theorem rS_pos {Y:Nat}(h:Y≠0) (e f:Int) (u n:Nat):0<rS11 Y e f u n:=by unfold rS11;exact Nat.mul_pos (by omega) (Nat.two_pow_pos _)
theorem errN_zero {X:Nat}{n:Bool}{e:Int}{Y:Nat}{m:Bool}{f:Int}(h:errN X n e Y m f=0):(mkS n X e).isSome=true∧(mkS m Y f).isSome=true∧dX (mkS m Y f)≠0:=by
 unfold errN at h
 split at h
 · cases h
 · split at h
   · rename_i h2
     rw [Bool.and_eq_true] at h2
     split at h
     · cases h
     · rename_i h3;exact ⟨h2.1,h2.2,h3⟩
   · cases h
theorem docQuot {w:World}{n m:Bool}{a b:Option Addr}{la ca lb cb X Y:Nat}{e f:Int}(mode:Int) (hN:Al w (.slice a la ca) X) (hD:Al w (.slice b lb cb) Y) (be:-9223372036854775808≤e∧e≤9223372036854775807) (bf:-9223372036854775808≤f∧f≤9223372036854775807) :
 Calls Tryz.prog 52 #[.agg #[.bool n,.slice a la ca,.int .i64 e,.bool m,.slice b lb cb,.int .i64 f],.int .i64 mode] w fun r w'=>r=.returned (.tuple #[.float .f64 (quoR rndS ⟨n,.slice a la ca,X,e,m,.slice b lb cb,Y,f⟩ mode).1,.int .i64 (quoR rndS ⟨n,.slice a la ca,X,e,m,.slice b lb cb,Y,f⟩ mode).2])∧Below w.heap.size w w':=by
 by_cases hm:mode<0∨4<mode
 · have e1:quoR rndS ⟨n,.slice a la ca,X,e,m,.slice b lb cb,Y,f⟩ mode=(0,1):=by unfold quoR;rw [if_pos hm]
   rw [e1];exact rQuot11 mode 0 false 1 (by omega) 0 rfl (hid fun u hu=>rounded_mode (X:=X) (Y:=Y) _ _ _ _ mode hm)
 · have hm0:0≤mode:=by omega
   have hm4:mode≤4:=by omega
   have el:=errL_one ⟨n,.slice a la ca,X,e,m,.slice b lb cb,Y,f⟩
   by_cases h0:errN X n e Y m f=0
   · obtain ⟨s1,s2,hY⟩:=errN_zero h0
     have F1:=frm_of s1;have F2:=frm_of s2;have ez:errL (oneI ⟨n,.slice a la ca,X,e,m,.slice b lb cb,Y,f⟩) 1=0:=el.trans h0
     obtain ⟨K,t,mm,L,hq⟩:∃ K t mm,LiesG vK 9218868437227405312 1 K t mm (rV11 (dX (mkS n X e)) (dE (mkS n X e)) (dE (mkS m Y f)) 1074 1) (rS11 (dX (mkS m Y f)) (dE (mkS n X e)) (dE (mkS m Y f)) 1074 1)∧rndS (quoZ (dN (mkS n X e)) (dX (mkS n X e)) (dE (mkS n X e)) (dX (mkS m Y f)) (dE (mkS m Y f))) mode=((if t then K else if outS mode K mm (dN (mkS n X e)) then K+1 else K)+(if (dN (mkS n X e)) then 9223372036854775808 else 0),0):=by
      rcases F1.odd with h|⟨h1,h2,h3⟩
      · obtain ⟨K,t,mm,L,hq⟩:=quo64 (dN (mkS n X e)) (dX (mkS n X e)) (dE (mkS n X e)) (dX (mkS m Y f)) (dE (mkS m Y f)) h hY F1.size F2.size
        exact ⟨K,t,mm,L,by have q:=hq mode hm0 hm4;rw [q];rfl⟩
      · refine ⟨0,true,0,?_,?_⟩
        · rw [h1,rV_zero];exact lies_nought grid64 (by omega) (rS_pos hY _ _ _ _)
        · rw [h1,quoZ_nought _ _ _ _ hY F2.size]
          unfold rndS;rw [if_neg (by omega)]
          simp [h2]
     have hfin:=L.fin
     have e1:quoR rndS ⟨n,.slice a la ca,X,e,m,.slice b lb cb,Y,f⟩ mode=((if t then K else if outS mode K mm (dN (mkS n X e)) then K+1 else K)+(if dN (mkS n X e) then 9223372036854775808 else 0),0):=by
      unfold quoR;simp only;rw [if_neg hm,if_pos ez];exact hq
     rw [e1];refine rQuot11 mode _ (dN (mkS n X e)) 0 (by split;omega;split <;> omega) _ rfl (hid fun u hu=>?_)
     refine rounded_ok _ _ _ _ mode hm0 hm4 (hN.below hu) (hD.below hu) be bf _ _ rfl rfl _ h0 rfl (.inl rfl) _ (hid fun x p q lx cx ly cy hx A1 A2=>?_)
     exact nearbyG wd64_is A1 A2 ⟨F1.down,F1.up⟩ ⟨F2.down,F2.up⟩ F2.size (.inl rfl) L false rfl mode hm0 hm4
   · have ez:errL (oneI ⟨n,.slice a la ca,X,e,m,.slice b lb cb,Y,f⟩) 1=errN X n e Y m f:=el
     have e1:quoR rndS ⟨n,.slice a la ca,X,e,m,.slice b lb cb,Y,f⟩ mode=(0,errN X n e Y m f):=by unfold quoR;rw [if_neg hm,if_neg (by rw [ez];exact h0),ez]
     rw [e1];exact rQuot11 mode 0 false _ (by omega) 0 rfl (hid fun u hu=>rounded_err _ _ _ _ mode hm0 hm4 (hN.below hu) (hD.below hu) be bf _ _ rfl rfl _ rfl h0)
end
section
open Go.RowKit J
attribute [local go_sem] st_float
theorem Fm.al13 {w:World}{p:Option Addr}{c:Nat}{o:Option (Bool×Nat×Int)}(F:Fm o) (N:Nt 0 w (.slice p (ws (dX o)).length c) (dX o)):Al w (.slice p (ws (dX o)).length c) (dX o):=⟨p,_,c,ws (dX o),rfl,F.a12 N,val_ws _,Nat.le_trans F.len (by decide)⟩
theorem no13 (e:Int) (w:World):Calls Tryz.prog 35 #[.int .i64 e] w fun r w'=>r=.returned (.tuple #[.float .f64 0,.int .i64 e])∧w'=w:=by
 have H:=hid (rOf10z w);go_enter Tryz.func35,Tryz.ntmps35
 go_wp2_with fail
 refine H.out.mono ?_;rintro r v ⟨rfl,hv⟩;rw [hv];clear hv v H;go_wp2;exact bodyPost_ret (v:=.tuple #[.float .f64 0,.int .i64 e]) (by simp [results,Tryz.results35,go_sem]) rfl ⟨rfl,rfl⟩
end
section
open Go.RowKit J
attribute [local go_sem] st_float
def plE (xs:List Nat):Int:=if 65536<xs.length then 2 else if 0<(sS xs).n∨0<(sS xs).u+(sS xs).d then 30 else 0
theorem sf22 (xs:List Nat):(sfE 2 2 xs=0∧plE xs=0)∨(sfE 2 2 xs=2∧plE xs=2)∨((sfE 2 2 xs=60∨sfE 2 2 xs=61)∧plE xs=30):=by
 have hm:may 2 2=true:=by decide
 unfold sfE plE Ps.rf;rw [hm,if_neg (by decide)]
 by_cases hl:65536<xs.length
 · rw [if_pos hl,if_pos hl];exact .inr (.inl ⟨rfl,rfl⟩)
 · rw [if_neg hl,if_neg hl]
   by_cases h1:0<(sS xs).n
   · rw [if_pos ⟨h1,rfl⟩,if_pos (.inl h1)];exact .inr (.inr ⟨.inl rfl,rfl⟩)
   · rw [if_neg (fun h=>h1 h.1)]
     by_cases h2:0<(sS xs).u+(sS xs).d
     · rw [if_pos ⟨h2,rfl⟩,if_pos (.inr h2)];exact .inr (.inr ⟨.inr rfl,rfl⟩)
     · rw [if_neg (fun h=>h2 h.1),if_neg (by omega)];exact .inl ⟨rfl,rfl⟩
theorem close6 {fn:Func}{p q:Tmp}(hfn:fn.results=#[.cell p 51,.tmp q]) {tmps:Array Value}{w:World}{g:Nat}{t1 t2 t3 t4 t5 t6 e:Int}{R:Ending→World→Prop}
 (h1:tmps.getD p undef=.pointer (some ⟨g,0,none⟩)) (h2:tmps.getD q undef=.int .i64 e) (hB:Bl w g 51 [.int .i64 t1,.int .i64 t2,.int .i64 t3,.int .i64 t4,.int .i64 t5,.int .i64 t6])
 (hR:R (.returned (.tuple #[.agg #[.int .i64 t1,.int .i64 t2,.int .i64 t3,.int .i64 t4,.int .i64 t5,.int .i64 t6],.int .i64 e])) w) :
 bodyPost Tryz.prog fn R .ret ⟨tmps,[]⟩ w:=by
 have c0:=hB.cell 0 _ rfl;have c1:=hB.cell 1 _ rfl;have c2:=hB.cell 2 _ rfl;have c3:=hB.cell 3 _ rfl;have c4:=hB.cell 4 _ rfl;have c5:=hB.cell 5 _ rfl;rw [Array.getD_eq_getD_getElem?] at h1 h2;exact bodyPost_ret (v:=.tuple #[.agg #[.int .i64 t1,.int .i64 t2,.int .i64 t3,.int .i64 t4,.int .i64 t5,.int .i64 t6],.int .i64 e]) (by simp [results,hfn,go_sem,Ps.csetm,h1,h2,c0,c1,c2,c3,c4,c5]) rfl hR
theorem plain13 (xs:List Nat) (a:Option Addr) (n c:Nat) (w:World) (hn:n=xs.length) (hF:Fs w.heap.size w a xs) (hW:W64 xs) (hl:n≤35184372088832) :
 Calls Tryz.prog 54 #[.slice a n c] w fun r w'=>((plE xs≠0∧r=.returned (.tuple #[agg0,.int .i64 (plE xs)]))∨(plE xs=0∧r=.returned (.tuple #[(sS xs).agg,.int .i64 0])))∧Below w.heap.size w w':=by
 obtain ⟨W,hWW⟩:∃ W,W=w.alloc (Obj.cells #[.int .i64 0,.int .i64 0,.int .i64 0,.int .i64 0,.int .i64 0,.int .i64 0] 51):=⟨_,rfl⟩
 have B0:Aside (Bl W w.heap.size 51 [.int .i64 0,.int .i64 0,.int .i64 0,.int .i64 0,.int .i64 0,.int .i64 0]∧Below w.heap.size w W):=by
  rw [hWW];exact ⟨Bl.new _ 51 [_,_,_,_,_,_],bel_alloc _ _⟩
 have HS:=hid (Sift13 xs a n c 2 2 W hn hl ((hF.below B0.out.2).mono B0.out.2.size) hW);have hsf:=sf22 xs;obtain ⟨es,hes⟩:∃ e,sfE 2 2 xs=e:=⟨_,rfl⟩;obtain ⟨ep,hep⟩:∃ e,plE xs=e:=⟨_,rfl⟩;obtain ⟨⟨sn,su,sd,sm,sp,sa⟩,hs⟩:∃ s,sS xs=s:=⟨_,rfl⟩;obtain ⟨fl,hfl⟩:∃ f,Ps.fin xs=f:=⟨_,rfl⟩;rw [hs,hes,hfl] at HS;rw [hes,hep] at hsf;rw [hep,hs];simp only [Sp.agg] at HS ⊢;have HSF:=qsd hsf;have HWW:=qsd hWW;clear hn hF hW hl hWW hes hep hs hfl hsf;go_enter Tryz.func54,Tryz.ntmps54
 go_wp2_with fail
 rw [←HWW.out];clear HWW;refine HS.out.mono ?_;rintro r v ⟨hr,hb⟩;have B1:Aside (Bl v w.heap.size 51 [.int .i64 0,.int .i64 0,.int .i64 0,.int .i64 0,.int .i64 0,.int .i64 0]∧Below w.heap.size w v):=⟨B0.out.1.below hb B0.out.1.lt,B0.out.2.trans (hb.mono B0.out.2.size)⟩
 have BU:Aside (∀ (t1 t2 t3 t4 t5 t6:Int) (U:World),U=v.alloc (Obj.cells #[.int .i64 t1,.int .i64 t2,.int .i64 t3,.int .i64 t4,.int .i64 t5,.int .i64 t6] 51) →
  Bl U w.heap.size 51 [.int .i64 0,.int .i64 0,.int .i64 0,.int .i64 0,.int .i64 0,.int .i64 0]∧Bl U v.heap.size 51 [.int .i64 t1,.int .i64 t2,.int .i64 t3,.int .i64 t4,.int .i64 t5,.int .i64 t6]∧Below w.heap.size w U∧w.heap.size<v.heap.size):=by
  intro t1 t2 t3 t4 t5 t6 U hU;rw [hU];exact ⟨B1.out.1.alloc _,Bl.new _ 51 [_,_,_,_,_,_],B1.out.2.trans ((bel_alloc _ _).mono B1.out.2.size),B1.out.1.lt⟩
 clear hb B0 HS
 rcases hr with ⟨he,a',c',rfl⟩|⟨he,a',c',rfl,hF',hlo⟩
 · unfold agg0
   obtain ⟨U,hU⟩:∃ U,U=v.alloc (Obj.cells #[.int .i64 0,.int .i64 0,.int .i64 0,.int .i64 0,.int .i64 0,.int .i64 0] 51):=⟨_,rfl⟩;obtain ⟨u1,u2,u3,u4⟩:=BU.out _ _ _ _ _ _ _ hU;obtain ⟨gs,hgs⟩:∃ g,v.heap.size=g:=⟨_,rfl⟩;rw [hgs] at u2 u4;have B3:=(qsd (ai u1 (ai u2 (ai u3 u4))));have s0:=u2.cell 0 _ rfl;have s1:=u2.cell 1 _ rfl;have s2:=u2.cell 2 _ rfl;have s3:=u2.cell 3 _ rfl;have s4:=u2.cell 4 _ rfl;have s5:=u2.cell 5 _ rfl;have z0:=u1.cell 0 _ rfl;have z1:=u1.cell 1 _ rfl;have z2:=u1.cell 2 _ rfl;have z3:=u1.cell 3 _ rfl;have z4:=u1.cell 4 _ rfl;have z5:=u1.cell 5 _ rfl;have y0:=u1.frozen 0;have y1:=u1.frozen 1;have y2:=u1.frozen 2;have y3:=u1.frozen 3;have y4:=u1.frozen 4;have y5:=u1.frozen 5;have HGS:=qsd hgs;have HU:=qsd hU;clear u1 u2 u3 u4 hU BU hgs
   go_upto_region 2 with fail
   rw [←HU.out,HGS.out];clear HU HGS;obtain ⟨h1,h2⟩|⟨h1,h2⟩|⟨h1|h1,h2⟩:=HSF.out
   · exact absurd h1 he
   all_goals
    subst h1 h2;clear he HSF;go_wp2;refine close6 Tryz.results54 ?_ ?_ ((((((B3.out.1.set 0 _).set 1 _).set 2 _).set 3 _).set 4 _).set 5 _) ⟨by first | exact .inl ⟨by decide,rfl⟩ | rfl,?_⟩
    · rfl
    · rfl
    · exact But.below B3.out.2.2.1 (Ps.But.set6 (But.refl w.heap.size _) _ _ _ _ _ _) B3.out.2.2.1.size (Nat.le_refl _)
 · subst he
   obtain rfl:ep=0:=by rcases HSF.out with ⟨h1,h2⟩|⟨h1,h2⟩|⟨h1|h1,h2⟩ <;> omega
   obtain ⟨U,hU⟩:∃ U,U=v.alloc (Obj.cells #[.int .i64 sn,.int .i64 su,.int .i64 sd,.int .i64 sm,.int .i64 sp,.int .i64 sa] 51):=⟨_,rfl⟩;obtain ⟨u1,u2,u3,u4⟩:=BU.out _ _ _ _ _ _ _ hU;obtain ⟨gs,hgs⟩:∃ g,v.heap.size=g:=⟨_,rfl⟩;rw [hgs] at u2 u4;have B3:=(qsd (ai u1 (ai u2 (ai u3 u4))));have s0:=u2.cell 0 _ rfl;have s1:=u2.cell 1 _ rfl;have s2:=u2.cell 2 _ rfl;have s3:=u2.cell 3 _ rfl;have s4:=u2.cell 4 _ rfl;have s5:=u2.cell 5 _ rfl;have z0:=u1.cell 0 _ rfl;have z1:=u1.cell 1 _ rfl;have z2:=u1.cell 2 _ rfl;have z3:=u1.cell 3 _ rfl;have z4:=u1.cell 4 _ rfl;have z5:=u1.cell 5 _ rfl;have y0:=u1.frozen 0;have y1:=u1.frozen 1;have y2:=u1.frozen 2;have y3:=u1.frozen 3;have y4:=u1.frozen 4;have y5:=u1.frozen 5;have HGS:=qsd hgs;have HU:=qsd hU;clear u1 u2 u3 u4 hU BU hgs hF' hlo
   go_upto_region 2 with fail
   rw [←HU.out,HGS.out];clear HU HGS HSF;go_wp2;refine close6 Tryz.results54 ?_ ?_ ((((((B3.out.1.set 0 _).set 1 _).set 2 _).set 3 _).set 4 _).set 5 _) ⟨by first | exact .inr ⟨rfl,rfl⟩ | rfl,?_⟩
   · rfl
   · rfl
   · exact But.below B3.out.2.2.1 (Ps.But.set6 (But.refl w.heap.size _) _ _ _ _ _ _) B3.out.2.2.1.size (Nat.le_refl _)
end
section
open Go.RowKit J
attribute [local go_sem] st_float
abbrev ClD (f:FuncId):Prop:=∀ (gx ge x:Nat) (e:Int) (w:World),w.cell? ⟨gx,0,none⟩=some (.float .f64 x)→w.cell? ⟨ge,0,none⟩=some (.int .i64 e)→w.frozen? ⟨gx,0,none⟩=false→∀ (u:FrameMode),
 CallsD Tryz.prog f #[.pointer (some ⟨ge,0,none⟩),.pointer (some ⟨gx,0,none⟩)] u w fun r u' w'=>u'=u∧(r=.returned (.tuple #[])∧w'=w.setCell ⟨gx,0,none⟩ (.float .f64 (bsd e x)))
theorem early13 {fn:Func}{f:FuncId}{px pe:Tmp}(hres:fn.results=#[.cell px 24,.cell pe 25]) (HC:ClD f) {tmps:Array Value}{gx ge x X:Nat}{e E:Int}{w v:World}
 (b1:Bl v gx 24 [.float .f64 x]) (b2:Bl v ge 25 [.int .i64 e]) (hb:Below w.heap.size w v) (hgx:w.heap.size≤gx) (hne:ge≠gx) (hX:bsd e x=X) (hE:e=E)
 (hi:(callFunc f #[.pointer (some ⟨ge,0,none⟩),.pointer (some ⟨gx,0,none⟩)]).run Tryz.prog v=.ok (.enter f #[.pointer (some ⟨ge,0,none⟩),.pointer (some ⟨gx,0,none⟩)]) v)
 (h1:tmps.getD px undef=.pointer (some ⟨gx,0,none⟩)) (h2:tmps.getD pe undef=.pointer (some ⟨ge,0,none⟩)) :
 Leaves Tryz.prog fn tmps (fun r w'=>r=.returned (.tuple #[.float .f64 X,.int .i64 E])∧Below w.heap.size w w') [{ target:=.fn (.func f) #[.pointer (some ⟨ge,0,none⟩),.pointer (some ⟨gx,0,none⟩)],args:=#[] }] .returning v:=by
 subst hX hE;refine door13 hres hi (HC gx ge x e v (b1.cell 0 _ rfl) (b2.cell 0 _ rfl) (b1.frozen 0)) h1 h2 (b1.cell 0 _ rfl) (b2.cell 0 _ rfl) hne ?_;have kb:But gx v (v.setCell ⟨gx,0,none⟩ (.float .f64 (bsd e x))):=(But.refl gx _).set 0 _;exact ⟨rfl,But.below hb kb hb.size hgx⟩
theorem finish13 {fn:Func}{f:FuncId}{px pe:Tmp}(hres:fn.results=#[.cell px 24,.cell pe 25]) (HC:ClD f) {tmps:Array Value}{gx ge x0 x X:Nat}{e0 e E:Int}{w v:World}
 (b1:Bl v gx 24 [.float .f64 x0]) (b2:Bl v ge 25 [.int .i64 e0]) (hb:Below w.heap.size w v) (hgx:w.heap.size≤gx) (hge:w.heap.size≤ge) (hne:ge≠gx) (hX:bsd e x=X) (hE:e=E)
 (hi:∀ v:World,(callFunc f #[.pointer (some ⟨ge,0,none⟩),.pointer (some ⟨gx,0,none⟩)]).run Tryz.prog v=.ok (.enter f #[.pointer (some ⟨ge,0,none⟩),.pointer (some ⟨gx,0,none⟩)]) v)
 (h1:tmps.getD px undef=.pointer (some ⟨gx,0,none⟩)) (h2:tmps.getD pe undef=.pointer (some ⟨ge,0,none⟩)) :
 Leaves Tryz.prog fn tmps (fun r w'=>r=.returned (.tuple #[.float .f64 X,.int .i64 E])∧Below w.heap.size w w') [{ target:=.fn (.func f) #[.pointer (some ⟨ge,0,none⟩),.pointer (some ⟨gx,0,none⟩)],args:=#[] }] .returning ((v.setCell ⟨gx,0,none⟩ (.float .f64 x)).setCell ⟨ge,0,none⟩ (.int .i64 e)):=by
 have bt:But gx v (v.setCell ⟨gx,0,none⟩ (.float .f64 x)):=(But.refl _ _).set 0 _;have be:But ge (v.setCell ⟨gx,0,none⟩ (.float .f64 x)) ((v.setCell ⟨gx,0,none⟩ (.float .f64 x)).setCell ⟨ge,0,none⟩ (.int .i64 e)):=(But.refl _ _).set 0 _;have k0:=But.below hb bt hb.size hgx;exact early13 hres HC ((b1.set 0 (.float .f64 x)).but be (fun h=>hne h.symm)) ((b2.but bt hne).set 0 (.int .i64 e)) (But.below k0 be k0.size hge) hgx hne hX hE (hi _) h1 h2
theorem two13 (w:World):Bl ((w.alloc (Obj.cells #[.float .f64 0] 24)).alloc (Obj.cells #[.int .i64 0] 25)) w.heap.size 24 [.float .f64 0]∧Bl ((w.alloc (Obj.cells #[.float .f64 0] 24)).alloc (Obj.cells #[.int .i64 0] 25)) (w.heap.size+1) 25 [.int .i64 0]∧Below w.heap.size w ((w.alloc (Obj.cells #[.float .f64 0] 24)).alloc (Obj.cells #[.int .i64 0] 25)):=by
 have z2:=Bl.new (w.alloc (Obj.cells #[.float .f64 0] 24)) 25 [.int .i64 0];rw [World.size_alloc] at z2;exact ⟨(Bl.new w 24 [_]).below (bel_alloc _ _) (by simp),z2,(bel_alloc _ _).trans ((bel_alloc _ _).mono (by simp))⟩
theorem seterr13 {w v:World}{gx ge x:Nat}{e0:Int}(e:Int) (b1:Bl v gx 24 [.float .f64 x]) (b2:Bl v ge 25 [.int .i64 e0]) (hb:Below w.heap.size w v) (hge:w.heap.size≤ge) (hne:ge≠gx) :
 Bl (v.setCell ⟨ge,0,none⟩ (.int .i64 e)) gx 24 [.float .f64 x]∧Bl (v.setCell ⟨ge,0,none⟩ (.int .i64 e)) ge 25 [.int .i64 e]∧Below w.heap.size w (v.setCell ⟨ge,0,none⟩ (.int .i64 e)):=by
 have be:But ge v (v.setCell ⟨ge,0,none⟩ (.int .i64 e)):=(But.refl _ _).set 0 _;exact ⟨b1.but be (fun h=>hne h.symm),b2.set 0 _,But.below hb be hb.size hge⟩
theorem stored13 {w v:World}{gx ge x:Nat}{e0:Int}{ao:Option Addr}{xs:List Nat}(b1:Bl v gx 24 [.float .f64 x]) (b2:Bl v ge 25 [.int .i64 e0]) (hb:Below w.heap.size w v) (hge:w.heap.size≤ge) (hne:ge≠gx) (hT:Tab w) (hF:Fs v.heap.size v ao xs) (hg:∀ b o p,ao=some ⟨b,o,p⟩→b≠ge) (e t1 t2 t3 t4 t5 t6:Int) (Z:World) (hZ:Z=(v.setCell ⟨ge,0,none⟩ (.int .i64 e)).alloc (Obj.cells #[.int .i64 t1,.int .i64 t2,.int .i64 t3,.int .i64 t4,.int .i64 t5,.int .i64 t6] 51)) :
 Bl Z gx 24 [.float .f64 x]∧Bl Z ge 25 [.int .i64 e]∧Bl Z v.heap.size 51 [.int .i64 t1,.int .i64 t2,.int .i64 t3,.int .i64 t4,.int .i64 t5,.int .i64 t6]∧Below w.heap.size w Z∧Tab Z∧Fs Z.heap.size Z ao xs:=by
 obtain ⟨k1,k2,k3⟩:=seterr13 (w:=w) e b1 b2 hb hge hne;have be:But ge v (v.setCell ⟨ge,0,none⟩ (.int .i64 e)):=(But.refl _ _).set 0 _;have hsz:(v.setCell ⟨ge,0,none⟩ (.int .i64 e)).heap.size=v.heap.size:=by simp
 have z1:=Bl.new (v.setCell ⟨ge,0,none⟩ (.int .i64 e)) 51 [.int .i64 t1,.int .i64 t2,.int .i64 t3,.int .i64 t4,.int .i64 t5,.int .i64 t6];rw [hsz] at z1;rw [hZ];have hbb:=k3.trans ((bel_alloc (v.setCell ⟨ge,0,none⟩ (.int .i64 e)) (Obj.cells #[.int .i64 t1,.int .i64 t2,.int .i64 t3,.int .i64 t4,.int .i64 t5,.int .i64 t6] 51)).mono k3.size);exact ⟨k1.alloc _,k2.alloc _,z1,hbb,hT.belows hbb,((hF.but' be hg).below ((bel_alloc _ _).mono (by simp))).mono (by simp)⟩
noncomputable def plnR (xs:List Nat) (mode:Int):Nat×Int:=if plE xs=0 then (bsd (levR xs (sS xs) mode).2 (levR xs (sS xs) mode).1,(levR xs (sS xs) mode).2) else (0,plE xs)
noncomputable def midR (x y:Nat) (mode:Int):Nat×Int:=if askE mode=0 then plnR [x,y] mode else (0,askE mode)
theorem fs_two (w:World) (x y:Nat):Fs (w.alloc (Obj.cells #[.float .f64 x,.float .f64 y] 24)).heap.size (w.alloc (Obj.cells #[.float .f64 x,.float .f64 y] 24)) (some ⟨w.heap.size,0,none⟩) [x,y]:=by
 intro _;refine ⟨w.heap.size,0,by simp,rfl,fun i hi=>?_⟩
 have hB:=Bl.new w 24 [.float .f64 x,.float .f64 y]
 match i,hi with
 | 0,_=>exact hB.cell 0 _ rfl
 | 1,_=>exact hB.cell 1 _ rfl
theorem Middle13 (x y:Nat) (hx:x<18446744073709551616) (hy:y<18446744073709551616) (mode:Int) (w:World) (hT:Tab w) (z:Nat×Int) (hz:midR x y mode=z) :
 Calls Tryz.prog 17 #[.float .f64 x,.float .f64 y,.int .i64 mode] w fun r w'=>r=.returned (.tuple #[.float .f64 z.1,.int .i64 z.2])∧Below w.heap.size w w':=by
 obtain ⟨X,E⟩:=z;simp only;have hmf:∀ (fn:Fn) (first cap:Array Value) (w:World),(Instr.makeFunc fn first cap).run Tryz.prog w=.ok (.func fn first cap) w:=fun _ _ _ _=>rfl
 have HA:=hid (fun u:World=>asked13 mode u)
 unfold midR at hz;obtain ⟨ea,hea⟩:∃ e,askE mode=e:=⟨_,rfl⟩;rw [hea] at HA hz;obtain ⟨W,hWW⟩:∃ W,W=(w.alloc (Obj.cells #[.float .f64 0] 24)).alloc (Obj.cells #[.int .i64 0] 25):=⟨_,rfl⟩;obtain ⟨gx,hgx⟩:∃ g,g=w.heap.size:=⟨_,rfl⟩;obtain ⟨ge,hge⟩:∃ g,g=w.heap.size+1:=⟨_,rfl⟩;have HG:Aside (gx=w.heap.size∧ge=w.heap.size+1∧w.heap.size≤gx∧w.heap.size≤ge∧ge≠gx):=⟨hgx,hge,by omega,by omega,by omega⟩
 have B0:=two13 w;rw [←hWW,←hge] at B0;have B1:=qsd (seterr13 ea (show Bl W gx 24 [.float .f64 0] by rw [hgx];exact B0.1) B0.2.1 B0.2.2 HG.out.2.2.2.1 HG.out.2.2.2.2)
 have c1:=B0.2.1.cell 0 _ rfl;have f1:=B0.2.1.frozen 0;have HWW:=qsd hWW;have HX:=qsd (ai hx (ai hy hT));clear hx hy hT hWW hea hgx hge B0;go_enter_defers Tryz.func17,Tryz.ntmps17
 go_wp2_with fail
 rw [←HWW.out]
 try rw [show w.heap.size+1=ge by have:=HG.out;omega]
 try rw [show w.heap.size=gx by have:=HG.out;omega]
 clear HWW;refine (HA.out _).mono ?_;rintro r v ⟨rfl,hv⟩;rw [hv];clear hv v
 by_cases h0:ea=0
 · subst h0
   rw [if_pos rfl] at hz;obtain ⟨V,hV⟩:∃ V,V=W.setCell ⟨ge,0,none⟩ (.int .i64 0):=⟨_,rfl⟩;rw [←hV] at B1;have r1:=B1.out.2.1.cell 0 _ rfl;obtain ⟨U,hU⟩:∃ U,U=V.alloc (Obj.cells #[.float .f64 x,.float .f64 y] 24):=⟨_,rfl⟩;obtain ⟨ga,hga⟩:∃ g,V.heap.size=g:=⟨_,rfl⟩
   have B2:Aside (Bl U gx 24 [.float .f64 0]∧Bl U ge 25 [.int .i64 0]∧Below w.heap.size w U∧Fs U.heap.size U (some ⟨ga,0,none⟩) [x,y]∧Tab U∧W64 [x,y]):=by
    have hbU:Below w.heap.size w U:=by rw [hU];exact B1.out.2.2.trans ((bel_alloc _ _).mono B1.out.2.2.size)
    refine ⟨by rw [hU];exact B1.out.1.alloc _,by rw [hU];exact B1.out.2.1.alloc _,hbU,by rw [hU,←hga];exact fs_two V x y,HX.out.2.2.belows hbU,?_⟩
    intro q hq;simp at hq
    rcases hq with rfl|rfl
    · exact HX.out.1
    · exact HX.out.2.1
   have HP:=hid (plain13 [x,y] (some ⟨ga,0,none⟩) 2 2 U rfl B2.out.2.2.2.1 B2.out.2.2.2.2.2 (by decide))
   have HW2:=qsd B2.out.2.2.2.2.2;have HGN:Aside (ga≠ge):=by have:=B1.out.2.1.lt;rw [Aside,←hga];omega
   obtain ⟨ep,hep⟩:∃ e,plE [x,y]=e:=⟨_,rfl⟩;obtain ⟨⟨sn,su,sd,sm,sp,sa⟩,hs⟩:∃ s,sS [x,y]=s:=⟨_,rfl⟩;unfold plnR at hz;rw [hep,hs] at HP hz;simp only [Sp.agg] at HP;have HV:=qsd hV;have HU:=qsd hU;have HGA:=qsd hga;clear hV hU hga hep hs HA
   go_upto_region 3 with fail
   rw [←HV.out];clear HV
   go_upto_region 5 with fail
   rw [←HU.out,HGA.out];clear HU HGA
   go_wp2_with fail
   refine HP.out.mono ?_;rintro r v ⟨hr,hb⟩;have B3:Aside (Bl v gx 24 [.float .f64 0]∧Bl v ge 25 [.int .i64 0]∧Below w.heap.size w v∧Fs v.heap.size v (some ⟨ga,0,none⟩) [x,y]∧ga≠ge):=⟨B2.out.1.below hb B2.out.1.lt,B2.out.2.1.below hb B2.out.2.1.lt,B2.out.2.2.1.trans (hb.mono B2.out.2.2.1.size),(B2.out.2.2.2.1.below hb).mono hb.size,HGN.out⟩;have q1:=B3.out.2.1.cell 0 _ rfl;have q2:=B3.out.2.1.frozen 0;have hlt:=B3.out.2.1.lt;have BU:=qsd (stored13 B3.out.1 B3.out.2.1 B3.out.2.2.1 HG.out.2.2.2.1 HG.out.2.2.2.2 HX.out.2.2 B3.out.2.2.2.1 (fun b o p h=>by cases h;exact B3.out.2.2.2.2))
   clear hb HP B2
   rcases hr with ⟨he,rfl⟩|⟨he,rfl⟩
   · unfold agg0
     rw [if_neg he] at hz;have HXE:=qsd (Prod.mk.inj hz);have h1:(ep==0)=false:=by simp [he]
     obtain ⟨Z,hZ⟩:∃ U,U=(v.setCell ⟨ge,0,none⟩ (.int .i64 ep)).alloc (Obj.cells #[.int .i64 0,.int .i64 0,.int .i64 0,.int .i64 0,.int .i64 0,.int .i64 0] 51):=⟨_,rfl⟩;have B4:=qsd (BU.out _ _ _ _ _ _ _ _ hZ);have r1:=B4.out.2.1.cell 0 _ rfl;have HZ:=qsd hZ;clear hZ BU hz
     go_upto_region 6 with fail
     rw [←HZ.out];clear HZ;go_wp2;refine early13 Tryz.results17 Middle1_d B4.out.1 B4.out.2.1 B4.out.2.2.2.1 HG.out.2.2.1 HG.out.2.2.2.2 ((bsd_zero _).trans HXE.out.1) HXE.out.2 (by simp [go_sem]) ?_ ?_ <;> rfl
   · subst he
     rw [if_pos rfl] at hz;obtain ⟨Z,hZ⟩:∃ U,U=(v.setCell ⟨ge,0,none⟩ (.int .i64 0)).alloc (Obj.cells #[.int .i64 sn,.int .i64 su,.int .i64 sd,.int .i64 sm,.int .i64 sp,.int .i64 sa] 51):=⟨_,rfl⟩;have B4:=qsd (BU.out _ _ _ _ _ _ _ _ hZ);obtain ⟨gs,hgs⟩:∃ g,v.heap.size=g:=⟨_,rfl⟩;rw [hgs] at B4;have r1:=B4.out.2.1.cell 0 _ rfl;have s0:=B4.out.2.2.1.cell 0 _ rfl;have s1:=B4.out.2.2.1.cell 1 _ rfl;have s2:=B4.out.2.2.1.cell 2 _ rfl;have s3:=B4.out.2.2.1.cell 3 _ rfl;have s4:=B4.out.2.2.1.cell 4 _ rfl;have s5:=B4.out.2.2.1.cell 5 _ rfl;obtain ⟨⟨xl,el⟩,hl⟩:∃ z,levR [x,y] ⟨sn,su,sd,sm,sp,sa⟩ mode=z:=⟨_,rfl⟩;rw [hl] at hz;have hz1:(bsd el xl,el)=(X,E):=hz;obtain ⟨hX,hE⟩:=Prod.mk.inj hz1;have HL:=hid (level13 [x,y] (some ⟨ga,0,none⟩) 2 2 sn su sd sm sp sa mode Z rfl B4.out.2.2.2.2.2 HW2.out B4.out.2.2.2.2.1 (by decide) (xl,el) hl)
     simp only at HL;have HXE:=qsd (ai hX hE);have HZ:=qsd hZ;have HGS:=qsd hgs;clear hZ BU hz hz1 hX hE hl hgs
     go_upto_region 6 with fail
     rw [←HZ.out,HGS.out];clear HZ HGS q1 q2 hlt
     go_wp2_with fail
     refine HL.out.mono ?_;rintro r v4 ⟨rfl,hb⟩
     have B6:Aside (Bl v4 gx 24 [.float .f64 0]∧Bl v4 ge 25 [.int .i64 0]∧Below w.heap.size w v4) :=
      ⟨B4.out.1.below hb B4.out.1.lt,B4.out.2.1.below hb B4.out.2.1.lt,B4.out.2.2.2.1.trans (hb.mono B4.out.2.2.2.1.size)⟩
     have t1:=B6.out.1.cell 0 _ rfl;have t2:=B6.out.1.frozen 0;have t3:=B6.out.2.1.cell 0 _ rfl;have t4:=B6.out.2.1.frozen 0;have hne1:ge≠gx:=HG.out.2.2.2.2;have hne2:gx≠ge:=fun h=>HG.out.2.2.2.2 h.symm
     clear hb B4 HL s0 s1 s2 s3 s4 s5;go_wp2;refine finish13 Tryz.results17 Middle1_d B6.out.1 B6.out.2.1 B6.out.2.2 HG.out.2.2.1 HG.out.2.2.2.1 HG.out.2.2.2.2 HXE.out.1 HXE.out.2 (fun _=>by simp [go_sem]) ?_ ?_ <;> rfl
 · rw [if_neg h0] at hz
   have HXE:=qsd (Prod.mk.inj hz);have h1:(ea==0)=false:=by simp [h0]
   clear hz HA;go_wp2;refine early13 Tryz.results17 Middle1_d B1.out.1 B1.out.2.1 B1.out.2.2 HG.out.2.2.1 HG.out.2.2.2.2 ((bsd_zero _).trans HXE.out.1) HXE.out.2 (by simp [go_sem]) ?_ ?_ <;> rfl
end
section
open Go.RowKit J
attribute [local go_sem] st_float
theorem calm13 {P:Program}{c:Code}{K:Act→World→Prop}{Q:Exit→Act→World→Prop}{a:Act}{w:World}(h:c.wp P (Exit.then K (fun _ _ _=>False)) a w):c.wp P (Exit.then K Q) a w :=
 wp_mono h (fun e a w h=>by cases e <;> first | exact h | exact False.elim h)
noncomputable def qoR (ng:Bool) (X:Nat) (e:Int) (N:Nat) (mode:Int):Nat×Int:=quoR rndS ⟨ng,.bool false,X,e,dN (mkS false N 0),.bool false,dX (mkS false N 0),dE (mkS false N 0)⟩ mode
noncomputable def ofR13 (ng:Bool) (X:Nat) (e n mode:Int):Nat×Int :=
 if askE mode=0 then (if n<1∨1099511627776<n then (0,1) else (bsd (qoR ng X e n.toNat mode).2 (qoR ng X e n.toNat mode).1,(qoR ng X e n.toNat mode).2)) else (0,askE mode)
theorem Of13 (ng:Bool) (a:Option Addr) (la ca Xn:Nat) (ex n mode:Int) (w:World) (hT:Tab w) (hV:Av w (.slice a la ca) Xn) (he:-9223372036854775808≤ex∧ex≤9223372036854775807) (z:Nat×Int) (hz:ofR13 ng Xn ex n mode=z) :
 Calls Tryz.prog 20 #[.agg #[.bool ng,.slice a la ca,.int .i64 ex],.int .i64 n,.int .i64 mode] w fun r w'=>r=.returned (.tuple #[.float .f64 z.1,.int .i64 z.2])∧Below w.heap.size w w':=by
 obtain ⟨X,E⟩:=z;simp only;have hmf:∀ (fn:Fn) (first cap:Array Value) (w:World),(Instr.makeFunc fn first cap).run Tryz.prog w=.ok (.func fn first cap) w:=fun _ _ _ _=>rfl
 have HA:=hid (fun u:World=>asked13 mode u)
 unfold ofR13 at hz;obtain ⟨ea,hea⟩:∃ e,askE mode=e:=⟨_,rfl⟩;rw [hea] at HA hz;obtain ⟨W0,hW0⟩:∃ W,W=w.alloc (Obj.cells #[.bool ng,.slice a la ca,.int .i64 ex] 41):=⟨_,rfl⟩;obtain ⟨W,hWW⟩:∃ W,W=(W0.alloc (Obj.cells #[.float .f64 0] 24)).alloc (Obj.cells #[.int .i64 0] 25):=⟨_,rfl⟩;obtain ⟨gd,hgd⟩:∃ g,g=w.heap.size:=⟨_,rfl⟩;obtain ⟨gx,hgx⟩:∃ g,g=w.heap.size+1:=⟨_,rfl⟩;obtain ⟨ge,hge⟩:∃ g,g=w.heap.size+2:=⟨_,rfl⟩;have hs0:W0.heap.size=w.heap.size+1:=by rw [hW0];simp
 have HG:Aside (gx=w.heap.size+1∧ge=w.heap.size+2∧w.heap.size≤gx∧w.heap.size≤ge∧ge≠gx∧gd=w.heap.size):=⟨hgx,hge,by omega,by omega,by omega,hgd⟩
 have hb0:Below w.heap.size w W0:=by rw [hW0];exact bel_alloc _ _
 obtain ⟨B01,B02,B03⟩:=two13 W0;rw [←hWW,hs0] at B01 B02 B03;rw [←hgx] at B01;rw [show w.heap.size+1+1=ge by omega] at B02
 have hbW:Below w.heap.size w W:=hb0.trans (B03.mono (by omega))
 have BD0:Bl W gd 41 [.bool ng,.slice a la ca,.int .i64 ex]:=by
  have:Bl W0 gd 41 [.bool ng,.slice a la ca,.int .i64 ex]:=by rw [hW0,hgd];exact Bl.new _ 41 [_,_,_]
  exact this.below B03 (by omega)
 have B1:=qsd (seterr13 ea B01 B02 hbW HG.out.2.2.2.1 HG.out.2.2.2.2.1);have BD1:Aside (Bl (W.setCell ⟨ge,0,none⟩ (.int .i64 ea)) gd 41 [.bool ng,.slice a la ca,.int .i64 ex]):=BD0.but ((But.refl ge W).set 0 _) (by have:=HG.out;omega)
 have c1:=B02.cell 0 _ rfl;have f1:=B02.frozen 0;have HWW:=qsd (hWW.trans (by rw [hW0]))
 have HX:=qsd (ai hT (ai hV he));clear hT hV he hW0 hWW hea hgx hge hgd B01 B02 B03 BD0 hs0 hb0 hbW;go_enter_defers Tryz.func20,Tryz.ntmps20
 go_wp2_with fail
 rw [←HWW.out]
 try rw [show w.heap.size+1+1=ge by have:=HG.out;omega]
 try rw [show w.heap.size+2=ge by have:=HG.out;omega]
 try rw [show w.heap.size+1=gx by have:=HG.out;omega]
 try rw [show w.heap.size=gd by have:=HG.out;omega]
 clear HWW;refine (HA.out _).mono ?_;rintro r v ⟨rfl,hv⟩;rw [hv];clear hv v
 by_cases h0:ea=0
 · subst h0
   rw [if_pos rfl] at hz;obtain ⟨V,hV⟩:∃ V,V=W.setCell ⟨ge,0,none⟩ (.int .i64 0):=⟨_,rfl⟩;rw [←hV] at B1 BD1;have r1:=B1.out.2.1.cell 0 _ rfl;have r2:=B1.out.2.1.frozen 0;have HV:=qsd hV;clear hV HA
   go_upto_region 3 with fail
   rw [←HV.out];clear HV c1 f1
   by_cases hn1:n<1
   · rw [if_pos (.inl hn1)] at hz
     have HXE:=qsd (Prod.mk.inj hz);have d1:decide (n<1)=true:=decide_eq_true hn1;obtain ⟨k1,k2,k3⟩:=seterr13 1 B1.out.1 B1.out.2.1 B1.out.2.2 HG.out.2.2.2.1 HG.out.2.2.2.2.1;have K:=(qsd (ai k1 (ai k2 k3)));clear hz k1 k2 k3;go_wp2;refine early13 Tryz.results20 Of1_d K.out.1 K.out.2.1 K.out.2.2 HG.out.2.2.1 HG.out.2.2.2.2.1 ((bsd_zero _).trans HXE.out.1) HXE.out.2 (by simp [go_sem]) ?_ ?_ <;> rfl
   · have d1:decide (n<1)=false:=decide_eq_false hn1
     by_cases hn2:1099511627776<n
     · rw [if_pos (.inr hn2)] at hz
       have HXE:=qsd (Prod.mk.inj hz);obtain ⟨k1,k2,k3⟩:=seterr13 1 B1.out.1 B1.out.2.1 B1.out.2.2 HG.out.2.2.2.1 HG.out.2.2.2.2.1;have K:=(qsd (ai k1 (ai k2 k3)));clear hz k1 k2 k3;go_wp2;refine early13 Tryz.results20 Of1_d K.out.1 K.out.2.1 K.out.2.2 HG.out.2.2.1 HG.out.2.2.2.2.1 ((bsd_zero _).trans HXE.out.1) HXE.out.2 (by simp [go_sem]) ?_ ?_ <;> rfl
     · have d2:decide (1099511627776<n)=false:=decide_eq_false hn2
       rw [if_neg (by omega)] at hz
       obtain ⟨N,hN⟩:∃ N:Nat,n=(N:Int):=⟨n.toNat,by omega⟩
       subst hN;rw [Int.toNat_natCast] at hz;have hnN:N<2^41:=by omega
       have F1:=qsd (int_fm N hnN)
       have HI:Hid (∀ u:World,Tab u→Calls Tryz.prog 57 #[.int .i64 (N:Nat)] u fun r w'=>(∃ v,r=.returned (.agg #[.bool (dN (mkS false N 0)),v,.int .i64 (dE (mkS false N 0))])∧Nt u.heap.size w' v (dX (mkS false N 0)))∧Below u.heap.size u w'):=fun u hT=>by
        have:=Int_any (N:Nat) u hT (by omega) (by omega)
        rw [decide_eq_false (by omega),Int.natAbs_natCast] at this
        exact this
       obtain ⟨⟨xl,el⟩,hl⟩:∃ z,qoR ng Xn ex N mode=z:=⟨_,rfl⟩;rw [hl] at hz;have hz1:(bsd el xl,el)=(X,E):=hz;have HXE:=qsd (Prod.mk.inj hz1)
       have HR:Hid (∀ (u:World) (q:Option Addr) (cq:Nat),Tab u→Av u (.slice a la ca) Xn→Nt 0 u (.slice q (ws (dX (mkS false N 0))).length cq) (dX (mkS false N 0))→Calls Tryz.prog 46 #[.agg #[.bool ng,.slice a la ca,.int .i64 ex,.bool (dN (mkS false N 0)),.slice q (ws (dX (mkS false N 0))).length cq,.int .i64 (dE (mkS false N 0))],.int .i64 mode] u fun r w'=>r=.returned (.tuple #[.float .f64 xl,.int .i64 el])∧Below u.heap.size u w'):=fun u q cq hT n1 n2=>by
        have:=Quot11 (w:=u) (n:=ng) (m:=dN (mkS false N 0)) (X:=Xn) (Y:=dX (mkS false N 0)) (e:=ex) (f:=dE (mkS false N 0)) mode ⟨n1,n2.av (Nat.le_trans F1.out.len (by decide)),HX.out.2.2,F1.out.rng⟩ hT
        rw [show quoR rndS ⟨ng,.slice a la ca,Xn,ex,dN (mkS false N 0),.slice q (ws (dX (mkS false N 0))).length cq,dX (mkS false N 0),dE (mkS false N 0)⟩ mode=(xl,el) from hl] at this
        exact this
       obtain ⟨ow,how⟩:∃ o,mkS false N 0=o:=⟨_,rfl⟩;rw [how] at HR HI F1;clear hz hz1 hl how hnN
       go_upto_region 6 with fail
       have hdr:=(Below.refl V.heap.size V).drew;have BB:=qsd (ai (B1.out.1.drew) (ai (B1.out.2.1.drew) (ai (B1.out.2.2.trans (hdr.mono B1.out.2.2.size)) (BD1.out.drew))));clear hdr B1 BD1 r1 r2;have p0:=BB.out.2.2.2.cell 0 _ rfl;have p1:=BB.out.2.2.2.cell 1 _ rfl;have p2:=BB.out.2.2.2.cell 2 _ rfl;have hne1:ge≠gx:=HG.out.2.2.2.2.1;have hne2:gx≠ge:=fun h=>HG.out.2.2.2.2.1 h.symm
       refine calm13 ?_
       go_region_with (first
        | (go_at_call 46
           with_reducible refine (HR.out _ a2 c2 (HX.out.1.belows BB.out.2.2.1) (HX.out.2.1.below BB.out.2.2.1) Q2.out).mono ?_
           rintro r v ⟨rfl,hb⟩;have BB:=qsd (ai (BB.out.1.below hb BB.out.1.lt) (ai (BB.out.2.1.below hb BB.out.2.1.lt) (BB.out.2.2.1.trans (hb.mono BB.out.2.2.1.size))));have t1:=BB.out.1.cell 0 _ rfl;have t2:=BB.out.1.frozen 0;have t3:=BB.out.2.1.cell 0 _ rfl;have t4:=BB.out.2.1.frozen 0;clear hb p0 p1 p2)
        | (go_at_call 57
           with_reducible refine (HI.out _ (HX.out.1.belows BB.out.2.2.1)).mono ?_
           rintro r v ⟨⟨p,rfl,hN⟩,hb⟩;obtain ⟨a2,c2,rfl,hN0⟩:=Lo.shape F1.out hN;have BB:=qsd (ai (BB.out.1.below hb BB.out.1.lt) (ai (BB.out.2.1.below hb BB.out.2.1.lt) (ai (BB.out.2.2.1.trans (hb.mono BB.out.2.2.1.size)) (BB.out.2.2.2.below hb BB.out.2.2.2.lt))));have Q2:=qsd hN0;have p0:=BB.out.2.2.2.cell 0 _ rfl;have p1:=BB.out.2.2.2.cell 1 _ rfl;have p2:=BB.out.2.2.2.cell 2 _ rfl;clear hb hN hN0))
       all_goals
        clear HR HI Q2;go_wp2;refine finish13 Tryz.results20 Of1_d BB.out.1 BB.out.2.1 BB.out.2.2 HG.out.2.2.1 HG.out.2.2.2.1 HG.out.2.2.2.2.1 HXE.out.1 HXE.out.2 (fun _=>by simp [go_sem]) ?_ ?_ <;> rfl
 · rw [if_neg h0] at hz
   have HXE:=qsd (Prod.mk.inj hz);have h1:(ea==0)=false:=by simp [h0]
   clear hz HA;go_wp2;refine early13 Tryz.results20 Of1_d B1.out.1 B1.out.2.1 B1.out.2.2 HG.out.2.2.1 HG.out.2.2.2.2.1 ((bsd_zero _).trans HXE.out.1) HXE.out.2 (by simp [go_sem]) ?_ ?_ <;> rfl
end
end Go.Proofs.YtjldfhecnaiinaaGreatDoor
