import Derived.Test.YtjldfhecnaiinaaGreatDoorH13x
import Derived.Test.YtjldfhecnaiinaaGreatDoorZ9x
import Derived.OwnWalk
import Derived.ArgAppend
import Derived.Maps.AppendAt
import Derived.WalkMore
import Derived.Test.YtjldfhecnaiinaaGreatDoorF10x
import Derived.Deep.RegionHeld3
import Derived.Test.YtjldfhecnaiinaaGreatDoorD33x
import Derived.Deep.CutRange
import Derived.Test.YtjldfhecnaiinaaGreatDoorU1x
import Derived.Test.YtjldfhecnaiinaaGreatDoorD19x
import Derived.Test.YtjldfhecnaiinaaGreatDoorP2x
import Derived.Test.YtjldfhecnaiinaaGreatDoorS7x
import Derived.Deep.RegionWith
set_option linter.unusedVariables false
set_option linter.unusedSimpArgs false
set_option maxHeartbeats 16000000
set_option maxRecDepth 20000
namespace Go.Proofs.YtjldfhecnaiinaaGreatDoor
namespace J
end J
section
open Go.RowKit
theorem num64_step11 (k:Nat):(num64 k).2≤(num64 (k+1)).2∧(num64 (k+1)).2≤(num64 k).2+1∧-1074≤(num64 k).2:=by
 unfold num64
 by_cases h:k/4503599627370496=0
 · rw [if_pos h]
   by_cases h':(k+1)/4503599627370496=0
   · rw [if_pos h'];simp only;omega
   · rw [if_neg h'];simp only;omega
 · rw [if_neg h,if_neg (by omega)]
   simp only;omega
namespace S
end S
structure Wd11 (dg ls:Int) (En:Nat) (v:Nat→Nat) (u:Nat) (num:Nat→Nat×Int):Prop where
 grid:Grid v En
 small:En<9223372036854775808
 ub:u≤2000
 call:∀ (k:Nat) (w:World),k≤En→Calls Tryz.prog 130 #[.agg #[.int .i64 dg,.int .i64 ls,.int .u64 (En:Nat)],.int .u64 (k:Nat)] w fun r w'=>∃ p,r=.returned (.tuple #[p,.int .i64 (num k).2])∧Nt w.heap.size w' p (num k).1∧Below w.heap.size w w'
 val:∀ (k:Nat) (B:Int),B≤-(u:Int)→(num k).1*2^((num k).2-B).toNat=v k*2^(-(u:Int)-B).toNat∧(num k).1<9007199254740992∧B≤(num k).2∧((num k).1=0↔k=0)
 step:∀ k:Nat,(num k).2≤(num (k+1)).2∧(num (k+1)).2≤(num k).2+1∧-(u:Int)≤(num k).2
 top:∀ k:Nat,k≤En→(num k).2≤2000
theorem wd64_is:Wd11 53 (-1074) 9218868437227405312 vK 1074 num64 :=
 ⟨grid64,by omega,by omega,fun k w hk=>rNumber64 k hk w,fun k B hB=>num64_vK k B hB,num64_step11,fun k hk=>by unfold num64;split <;> simp only <;> omega⟩
theorem len_prod {A Y:Nat}(hA:bl A≤200) (hY:bl Y≤262144):(ws (A*Y)).length≤2000000:=by
 have:=bl_mul_le A Y;rw [ws_len_bl];omega
theorem wrap_in (x:Int) (h0:-4611686018427387904≤x) (h1:x≤4611686018427387904):IntKind.i64.wrap x=x:=by rw [IntKind.wrap_i64];omega
theorem cmpZ_three (x y:Int):cmpZ x y=-1∨cmpZ x y=0∨cmpZ x y=1:=by unfold cmpZ;(repeat' split) <;> simp
theorem cmpZ_le0 {x y:Nat}:cmpZ (x:Int) (y:Int)≤0↔x≤y:=by unfold cmpZ;(repeat' split) <;> omega
theorem cmpZ_gt0 {x y:Nat}:0<cmpZ (x:Int) (y:Int)↔y<x:=by unfold cmpZ;(repeat' split) <;> omega
theorem cmpZ_eq0 {x y:Nat}:cmpZ (x:Int) (y:Int)=0↔x=y:=by unfold cmpZ;(repeat' split) <;> omega
theorem againstN {dg ls:Int}{En:Nat}{v:Nat→Nat}{u:Nat}{num:Nat→Nat×Int}(H:Wd11 dg ls En v u num) {w:World}{s mb:Bool}{p a b:Option Addr}{lp cp la ca lb cb X Y:Nat}{e f:Int}(hN:Al w (.slice a la ca) X) (hD:Al w (.slice b lb cb) Y) (he:-1048576≤e∧e≤1048576) (hf:-1048576≤f∧f≤1048576) (hY:bl Y≤262144)
 (A W n U:Nat) (g B:Int) (hA:Al w (.slice p lp cp) A) (hn:n=1∨n=2) (hAb:bl A≤100) (hg:-4000≤g∧g≤4000) (hU:U≤4000) (h1:B≤g) (h2:B≤-(U:Int)) (hv:A*2^(g-B).toNat=W*2^(-(U:Int)-B).toNat) (sq:Bool) (hsq:sq=decide (n=2)) :
 Calls Tryz.prog 169 #[.slice p lp cp,.int .i64 g,.agg #[.bool s,.slice a la ca,.int .i64 e,.bool mb,.slice b lb cb,.int .i64 f],.bool sq] w fun r w'=>r=.returned (.int .i64 (cmpZ ((W^n*rS11 Y e f U n:Nat):Int) ((rV11 X e f U n:Nat):Int)))∧Below w.heap.size w w':=by
 have P:=pow_units h1 h2 hv hn
 rcases hn with rfl|rfl
 · have e1:=ag_gen (A^1) (W^1) X Y (((1:Nat):Int)*g) e f (((1:Nat):Int)*B) U 1 (by omega) (by omega) P
   rw [Nat.pow_one,show ((1:Nat):Int)*g=g by omega] at e1
   subst hsq;rw [←e1];exact against11_q hA hN hD (by omega) (g+f) 0 (wrap_in _ (by omega) (by omega)) (by omega) (A*Y) rfl (len_prod (by omega) hY)
 · have e1:=ag_gen (A^2) (W^2) X Y (((2:Nat):Int)*g) e f (((2:Nat):Int)*B) U 2 (by omega) (by omega) P
   rw [Nat.pow_two,show ((2:Nat):Int)*g=2*g by omega] at e1
   subst hsq;rw [←e1];have hb:=bl_mul_le A A;exact against11_s hA hN hD (by omega) (2*g+f) (2*g) (wrap_in _ (by omega) (by omega)) (wrap_in _ (by omega) (by omega)) (by omega) (A*A*Y) rfl (len_prod (by omega) hY) (by rw [ws_len_bl];omega)
theorem nearbyG {dg ls:Int}{En:Nat}{v:Nat→Nat}{u:Nat}{num:Nat→Nat×Int}(H:Wd11 dg ls En v u num) {w:World}{s mb:Bool}{a b:Option Addr}{la ca lb cb X Y:Nat}{e f:Int}(hN:Al w (.slice a la ca) X) (hD:Al w (.slice b lb cb) Y) (he:-1048576≤e∧e≤1048576) (hf:-1048576≤f∧f≤1048576) (hY:bl Y≤262144)
 {n K:Nat} {t:Bool} {m:Int} (hn:n=1∨n=2) (L:LiesG v En n K t m (rV11 X e f u n) (rS11 Y e f u n)) (sq:Bool) (hsq:sq=decide (n=2)) (mode:Int) (hm0:0≤mode) (hm4:mode≤4) :
 Calls Tryz.prog 137 #[.agg #[.int .i64 dg,.int .i64 ls,.int .u64 (En:Nat)],.agg #[.bool s,.slice a la ca,.int .i64 e,.bool mb,.slice b lb cb,.int .i64 f],.bool sq,.int .i64 mode] w fun r w'=>r=.returned (.int .u64 ((if t then K else if outS mode K m s then K+1 else K:Nat):Nat))∧Below w.heap.size w w':=by
 have hub:=H.ub;have hone:=H.grid.one;have hsm:=H.small;have lnum:∀ k,bl (num k).1≤53:=fun k=>bl_le53 _ (H.val k _ (Int.le_refl _)).2.1
 have C:=nearby11 (w:=w) (n:=s) (m:=mb) (a:=a) (b:=b) (la:=la) (ca:=ca) (lb:=lb) (cb:=cb) (e:=e) (f:=f) dg ls En (by omega) hsm num
  (fun k=>cmpZ ((v k^n*rS11 Y e f u n:Nat):Int) ((rV11 X e f u n:Nat):Int)) (fun k=>cmpZ (((v k+v (k+1))^n*rS11 Y e f u n:Nat):Int) ((2^n*rV11 X e f u n:Nat):Int)) sq mode hm0 hm4
  (fun k=>len8 (by have:=lnum k;omega)) (fun k=>cmpZ_three _ _) (hid fun k w' hk=>H.call k w' (by omega))
  (hid fun k w' p l c hk hb hA=>by
   obtain ⟨h1,h2,h3,h4⟩:=H.val k (-(u:Int)) (Int.le_refl _);have h5:=H.top k (by omega)
   exact againstN H (hN.below hb) (hD.below hb) he hf hY (num k).1 (v k) n u (num k).2 (-(u:Int)) hA hn (by have:=lnum k;omega) (by omega) (by omega) h3 (Int.le_refl _) h1 sq hsq)
  (hid fun k w' hk hb=>by
   obtain ⟨h1,h2,h3,h4⟩:=H.val k (-(u:Int)-1) (by omega)
   obtain ⟨i1,i2,i3,i4⟩:=H.val (k+1) (-(u:Int)-1) (by omega)
   obtain ⟨j1,j2,j3⟩:=H.step k;have h5:=H.top k (by omega)
   have l1:=lnum k;have l2:=lnum (k+1);obtain ⟨q,hq⟩:∃ q,(num (k+1)).2-(num k).2=q:=⟨_,rfl⟩;have hq2:q=0∨q=1:=by omega
   have hp:(2:Nat)^q.toNat≤2:=by rcases hq2 with h | h <;> subst h <;> decide
   have hM:(num (k+1)).1*2^q.toNat≤(num (k+1)).1*2:=Nat.mul_le_mul_left _ hp;have M:=mid_units (u:=u) (B:=-(u:Int)-1) (by omega) (by omega) hq.symm (by omega) h1 i1 rfl
   have lM:bl ((num (k+1)).1*2^q.toNat)≤60:=bl_lt_pow (by rw [show (2:Nat)^60=1152921504606846976 by rfl];omega)
   have lS:bl ((num k).1+(num (k+1)).1*2^q.toNat)≤60:=bl_lt_pow (by rw [show (2:Nat)^60=1152921504606846976 by rfl];omega)
   refine half11 dg ls En (k:Int) ((k+1:Nat):Int) (num k).2 (num (k+1)).2 q ((num k).2-1) _ (num k).1 (num (k+1)).1 _ sq (by rw [IntKind.wrap_u64];omega) (by rw [hq];exact wrap_in _ (by omega) (by omega)) (by omega) (by omega) (wrap_in _ (by omega) (by omega)) rfl (fun h=>by have:=i4.1 h;omega) (len8 (by omega)) (len8 (by omega)) (len8 (by omega)) (len8 (by omega)) (hid fun x=>H.call k x (by omega)) (hid fun x=>H.call (k+1) x (by omega)) (hid fun x p l c hx hA=>?_)
   have:=againstN H ((hN.below hb).below hx) ((hD.below hb).below hx) he hf hY ((num k).1+(num (k+1)).1*2^q.toNat) (v k+v (k+1)) n (u+1) ((num k).2-1) (-(u:Int)-1) hA hn (by omega) (by omega) (by omega) (by omega) (by omega) M sq hsq (s:=s) (mb:=mb)
   rw [half_units] at this;exact this)
 refine C.mono ?_;rintro r w' ⟨⟨k,rfl,hk,k1,k2⟩,hb⟩;refine ⟨?_,hb⟩
 obtain ⟨d1,d2,d3⟩:=L.doc H.grid (by omega) k hk (by
  rcases k1 with rfl|h
  · rw [H.grid.zero,Nat.zero_pow (by omega),Nat.zero_mul];exact Nat.zero_le _
  · exact cmpZ_le0.1 h) (by
  rcases k2 with h|h
  · exact .inl h
  · exact .inr (cmpZ_gt0.1 h))
 subst d1
 congr 3
 unfold nbyD11
 by_cases hx:rV11 X e f u n=v k^n*rS11 Y e f u n
 · rw [if_pos (cmpZ_eq0.2 hx.symm),d2,decide_eq_true hx,if_pos rfl]
 · have ht:t=false:=by rw [d2];exact decide_eq_false hx
   have hm:-cmpZ (((v k+v (k+1))^n*rS11 Y e f u n:Nat):Int) ((2^n*rV11 X e f u n:Nat):Int)=m:=by
    rw [d3 ht,←cmpZ_neg];unfold cmpN cmpZ;simp only [Int.ofNat_lt]
   rw [if_neg (fun h=>hx (cmpZ_eq0.1 h).symm),hm,ht];rfl
end
section
open Go.RowKit
section
attribute [local go_sem] B.f64frombits
theorem wide64_any (k:Nat) (hk:k<9223372036854775808) (neg:Bool) (er:Int) (w:World) :
 Calls Tryz.prog 100 #[.int .u64 (k:Nat),.bool neg,.int .i64 er] w fun r w'=>r=.returned (.tuple #[.float .f64 (k+(if neg then 9223372036854775808 else 0)),.int .i64 er])∧w'=w:=by
 have e1:IntKind.u64.wrap ((k:Int)+9223372036854775808)=((k+9223372036854775808:Nat):Int):=by rw [IntKind.wrap_u64];omega
 cases neg
 · go_enter Tryz.func100,Tryz.ntmps100
   go_wp2;exact bodyPost_ret (v:=.tuple #[.float .f64 k,.int .i64 er]) (by simp [results,Tryz.results100,go_sem]) rfl ⟨by simp,rfl⟩
 · go_enter Tryz.func100,Tryz.ntmps100
   go_wp2;exact bodyPost_ret (v:=.tuple #[.float .f64 (k+9223372036854775808),.int .i64 er]) (by simp [results,Tryz.results100,go_sem] <;> omega) rfl ⟨by simp,rfl⟩
end
end
section
open Go.RowKit
theorem Tryz.und_ratios:Tryz.prog.underlying 147=some (.slice 71):=by kernel_rfl
theorem Tryz.info_ratio:(Tryz.prog.info? 71).map (fun i=>(i.zero,i.size,i.bytes))=some (some (.agg #[.bool false,.slice none 0 0,.int .i64 0,.bool false,.slice none 0 0,.int .i64 0]),6,80):=by kernel_rfl
structure R1 (w:World) (v:Value) (n:Bool) (x:Value) (e:Int) (m:Bool) (y:Value) (f:Int):Prop where
 ex:∃ g cap,v=.slice (some ⟨g,0,none⟩) 1 cap∧1≤cap∧g<w.heap.size∧(w.cell? ⟨g,0,none⟩=some (.bool n)∧w.cell? ⟨g,1,none⟩=some x∧w.cell? ⟨g,2,none⟩=some (.int .i64 e)∧w.cell? ⟨g,3,none⟩=some (.bool m)∧w.cell? ⟨g,4,none⟩=some y∧w.cell? ⟨g,5,none⟩=some (.int .i64 f))
theorem append_r (w:World) (n:Bool) (a:Option Addr) (l c:Nat) (e:Int) (m:Bool) (b:Option Addr) (k d:Nat) (f:Int) :
 ∃ v' w',(Builtin.append_ #[147,147] 147 #[.slice none 0 0,.slice (some ⟨w.heap.size,0,none⟩) 1 1]).run Tryz.prog (w.alloc (.cells #[.bool n,.slice a l c,.int .i64 e,.bool m,.slice b k d,.int .i64 f] 71))=.ok v' w'∧R1 w' v' n (.slice a l c) e m (.slice b k d) f∧Below w.heap.size w w':=by
 obtain ⟨i0,hi,hz0,hz1,hz2⟩:=info_parts Tryz.info_ratio;obtain ⟨W,hW⟩:∃ W,W=w.alloc (.cells #[.bool n,.slice a l c,.int .i64 e,.bool m,.slice b k d,.int .i64 f] 71):=⟨_,rfl⟩;have hq:Rq W w.heap.size n (.slice a l c) e m (.slice b k d) f:=by rw [hW];exact Rq.new _ _ _ _ _ _ _
 obtain ⟨x0,x1,x2,x3,x4,x5⟩:=hq.facts;have hWs:w.heap.size≤W.heap.size:=by subst hW;simp
 obtain ⟨v',w',r1,r2,r3,r4,r5⟩:=run_append_own_at (P:=Tryz.prog) W w.heap.size 147 147 71 i0 _ 6 80 Tryz.und_ratios hi hz0 hz1 hz2 rfl (by decide) (.slice none 0 0) 0 [] (World.ownsRow_nil W w.heap.size 71 6) ⟨w.heap.size,0,none⟩ 1 1 [.bool n,.slice a l c,.int .i64 e,.bool m,.slice b k d,.int .i64 f] rfl (by
  intro j u hj
  match j,hj with
  | 0,hj=>simp at hj;subst hj;simpa [Addr.add] using x0
  | 1,hj=>simp at hj;subst hj;simpa [Addr.add] using x1
  | 2,hj=>simp at hj;subst hj;simpa [Addr.add] using x2
  | 3,hj=>simp at hj;subst hj;simpa [Addr.add] using x3
  | 4,hj=>simp at hj;subst hj;simpa [Addr.add] using x4
  | 5,hj=>simp at hj;subst hj;simpa [Addr.add] using x5
  | j+6,hj=>simp at hj) (by intro u hu;simp at hu;rcases hu with rfl | rfl | rfl | rfl | rfl | rfl <;> rfl) (by unfold maxLen;omega) (by omega) hWs
 rw [←hW];refine ⟨v',w',r1,?_,?_⟩
 · rcases r2.2 with ⟨h1,h2⟩ | ⟨g,cap,cur,rfl,hlo,hg,hn1,hm,hs,ht⟩
   · exact absurd (r4.1 h1).2 (by decide)
   · have C:∀ i,i<6→w'.cell? ⟨g,i,none⟩=([.bool n,.slice a l c,.int .i64 e,.bool m,.slice b k d,.int .i64 f]:List Value)[i]?:=by
      intro i hi6;have:=World.ownsRow.cellAt r2 i (by simp;omega)
      simpa using this
     exact ⟨g,cap,rfl,hn1,(Array.getElem?_eq_some_iff.1 hg).1,C 0 (by omega),C 1 (by omega),C 2 (by omega),C 3 (by omega),C 4 (by omega),C 5 (by omega)⟩
 · have hlw:Below w.heap.size w W:=by subst hW;exact below_alloc _ _
   refine ⟨r3.os.trans hlw.os,r3.tape.trans hlw.tape,r3.output.trans hlw.output,Nat.le_trans hlw.size r3.size,fun k hkl=>?_⟩
   rw [r3.block k (by omega) (fun e=>by simp [Value.ownBlock] at e)]
   exact hlw.block k hkl
end
section
open Go.RowKit
theorem sign_al {w:World}{v:Value}{X:Nat}(h1:Al w v X) (ng:Bool) (e:Int):Calls Tryz.prog 168 #[.agg #[.bool ng,v,.int .i64 e]] w fun r w'=>r=.returned (.int .i64 (sgn ng X))∧Below w.heap.size w w':=by
 obtain ⟨a,l,c,xs,rfl,hA,rfl,hl⟩:=h1;exact rSign_any3 hA ng e
theorem made_al {w:World}{v:Value}{X:Nat}(h1:Al w v X) (n:Bool) (e:Int) (be:-9223372036854775808≤e∧e≤9223372036854775807) (o:Option (Bool×Nat×Int)) (ho:mkS n X e=o) (s:Bool) (hs:o.isSome=s):Calls Tryz.prog 59 #[.agg #[.bool n,v,.int .i64 e]] w fun r w'=>(∃ p,r=.returned (.tuple #[.agg #[.bool (dN o),p,.int .i64 (dE o)],.bool s])∧Nt w.heap.size w' p (dX o))∧Below w.heap.size w w':=by
 obtain ⟨a,l,c,xs,rfl,hA,rfl,hl⟩:=h1;subst ho hs;exact rMade_any hA hl n e be.1 be.2
def MayA (lo:Nat) (w:World) (r:Ending) (o p:Option (Bool×Nat×Int)) (er:Int):Prop :=
 ∃ v,r=.returned (.tuple #[v,.int .i64 er])∧(er=0→∃ x y,R1 w v (dN o) x (dE o) (dN p) y (dE p)∧Nt lo w x (dX o)∧Nt lo w y (dX p))
theorem may1 {w:World}{g:Nat}{n m:Bool}{a b:Option Addr}{la ca lb cb X Y:Nat}{e f:Int}(hq:Rq w g n (.slice a la ca) e m (.slice b lb cb) f) (hN:Al w (.slice a la ca) X) (hD:Al w (.slice b lb cb) Y) (be:-9223372036854775808≤e∧e≤9223372036854775807) (bf:-9223372036854775808≤f∧f≤9223372036854775807)
 (o p:Option (Bool×Nat×Int)) (ho:mkS n X e=o) (hp:mkS m Y f=p) (er:Int) (her:errN X n e Y m f=er) :
 Calls Tryz.prog 136 #[.slice (some ⟨g,0,none⟩) 1 1] w fun r w'=>MayA w.heap.size w' r o p er∧Below w.heap.size w w':=by
 have S0:=(qsd (ai (Below.refl w.heap.size w) hq));have AA:=(qsd (ai hN (ai hD (ai be (ai bf (ai ho (ai hp her)))))));have LL:Aside ((ws (dX o)).length≤8192∧(ws (dX p)).length≤8192):=qsd ⟨by rw [←ho];exact mkS_len _ _ _,by rw [←hp];exact mkS_len _ _ _⟩
 obtain ⟨sg,hsg⟩:∃ x,sgn m Y=x:=⟨_,rfl⟩;have SG:=qsd hsg;clear hq hN hD be bf ho hp her hsg;have one:decide ((1:Int)<1)=false:=by decide
 go_enter Tryz.func136,Tryz.ntmps136;go_wp2
 go_loopg [4] 1 (fun gk i wr=>∃ k:Nat,gk+k=1∧i=.int .i64 (k:Nat)∧Aside (Below w.heap.size w wr∧(k=1→¬ sgn m Y<0)))
 case atStart=>exact ⟨0,by omega,by simp,qsd ⟨S0.out.1,fun h=>by cases h⟩⟩
 case round =>
  obtain ⟨k,hgk,rfl,HA⟩:=hrel
  by_cases hk:k<1
  · obtain rfl:k=0:=by omega
    obtain ⟨x0,x1,x2,x3,x4,x5⟩:=(S0.out.2.below HA.out.1).facts;have HC:=hid (sign_al (AA.out.2.1.below HA.out.1) m f);rw [SG.out] at HC
    go_wp2_with fail
    clear x0 x1 x2 x3 x4 x5;refine HC.out.mono ?_;rintro r u1 ⟨rfl,hb⟩;have HB:=qsd (HA.out.1.trans (hb.mono HA.out.1.size));clear HC hb HA
    by_cases hs:sg<0
    · have hs':decide (sg<0)=true:=decide_eq_true hs
      have HE:Aside (er=1):=qsd (by rw [←AA.out.2.2.2.2.2.2];unfold errN;rw [if_pos (by rw [SG.out];exact hs)])
      clear hs;go_wp2;exact bodyPost_ret (v:=.tuple #[.slice none 0 0,.int .i64 1]) (by simp [results,Tryz.results136,go_sem]) rfl ⟨⟨_,by rw [HE.out],fun h=>by rw [HE.out] at h;cases h⟩,HB.out⟩
    · have hs':decide (sg<0)=false:=decide_eq_false hs
      have HS:=qsd hs;clear hs
      go_wp2_with fail
      go_roundg 0
      case measure=>omega
      case rel=>exact ⟨1,by omega,by first | rfl | simp,qsd ⟨HB.out,fun _=>by rw [SG.out];exact HS.out⟩⟩
  · obtain rfl:k=1:=by omega
    have HS:=qsd (HA.out.2 rfl);have HB:=qsd HA.out.1;clear HA;go_wp2
    go_loopg [6,5] 1 (fun gk i v wr=>∃ (k:Nat) (v0:Value),gk+k=1∧i=.int .i64 (k:Nat)∧v=v0∧Aside (Below w.heap.size w wr∧(k=0→v0=.slice none 0 0)∧(k=1→o.isSome=true∧p.isSome=true∧∃ x y,R1 wr v0 (dN o) x (dE o) (dN p) y (dE p)∧Nt w.heap.size wr x (dX o)∧Nt w.heap.size wr y (dX p))))
    case atStart=>exact ⟨0,_,by omega,by simp,rfl,qsd ⟨HB.out,fun _=>rfl,fun h=>by cases h⟩⟩
    case round =>
     obtain ⟨j,v,hgj,rfl,hv,HA⟩:=hrel
     by_cases hj:j<1
     · obtain rfl:j=0:=by omega
       have hv0:=HA.out.2.1 rfl;subst hv0;subst hv;obtain ⟨s1,hs1⟩:∃ x,o.isSome=x:=⟨_,rfl⟩;obtain ⟨s2,hs2⟩:∃ x,p.isSome=x:=⟨_,rfl⟩;have SS:=(qsd (ai hs1 hs2));have S1:=(qsd (ai HA.out.1 (ai (S0.out.2.below HA.out.1) (ai (AA.out.1.below HA.out.1) (AA.out.2.1.below HA.out.1)))));clear hs1 hs2 HA;obtain ⟨x0,x1,x2,x3,x4,x5⟩:=S1.out.2.1.facts;have HC:=hid (made_al S1.out.2.2.1 n e AA.out.2.2.1 o AA.out.2.2.2.2.1 s1 SS.out.1)
       go_wp2_with fail
       clear x0 x1 x2 x3 x4 x5;refine HC.out.mono ?_;rintro r u1 ⟨⟨q,rfl,hN⟩,hb⟩;obtain ⟨q1,d1,rfl,-⟩:=hN.shape;obtain ⟨U1,hU1⟩:∃ U,U=u1.alloc (.cells #[.bool (dN o),.slice q1 (ws (dX o)).length d1,.int .i64 (dE o)] 41):=⟨_,rfl⟩
       have S2:Aside (Below w.heap.size w U1∧Rq U1 g n (.slice a la ca) e m (.slice b lb cb) f∧Al U1 (.slice b lb cb) Y∧Dk U1 u1.heap.size (dN o) (.slice q1 (ws (dX o)).length d1) (dE o)∧Nt w.heap.size U1 (.slice q1 (ws (dX o)).length d1) (dX o)):=by
        have b0:=S1.out.1;have b1:=b0.trans (hb.mono b0.size);have hA:Below u1.heap.size u1 U1:=by rw [hU1];exact below_alloc _ _
        exact qsd ⟨b1.trans (hA.mono b1.size),(S1.out.2.1.below hb).below hA,(S1.out.2.2.2.below hb).below hA,by rw [hU1];exact Dk.new _ _ _ _,(hN.mono b0.size).below hA⟩
       clear HC hb hN S1;obtain ⟨x0,x1,x2,x3,x4,x5⟩:=S2.out.2.1.facts;have HC:=hid (made_al S2.out.2.2.1 m f AA.out.2.2.2.1 p AA.out.2.2.2.2.2.1 s2 SS.out.2)
       go_upto_region 11 with fail
       rw [←hU1];clear hU1
       go_wp2_with fail
       clear x0 x1 x2 x3 x4 x5;refine HC.out.mono ?_;rintro r u2 ⟨⟨q,rfl,hN⟩,hb⟩;obtain ⟨q2,d2,rfl,-⟩:=hN.shape;obtain ⟨U2,hU2⟩:∃ U,U=u2.alloc (.cells #[.bool (dN p),.slice q2 (ws (dX p)).length d2,.int .i64 (dE p)] 41):=⟨_,rfl⟩
       have S3:Aside (Below w.heap.size w U2∧Dk U2 u1.heap.size (dN o) (.slice q1 (ws (dX o)).length d1) (dE o)∧Nt w.heap.size U2 (.slice q1 (ws (dX o)).length d1) (dX o)∧Dk U2 u2.heap.size (dN p) (.slice q2 (ws (dX p)).length d2) (dE p)∧Nt w.heap.size U2 (.slice q2 (ws (dX p)).length d2) (dX p)):=by
        have b0:=S2.out.1;have b1:=b0.trans (hb.mono b0.size);have hA:Below u2.heap.size u2 U2:=by rw [hU2];exact below_alloc _ _
        exact qsd ⟨b1.trans (hA.mono b1.size),(S2.out.2.2.2.1.below hb).below hA,(S2.out.2.2.2.2.below hb).below hA,by rw [hU2];exact Dk.new _ _ _ _,(hN.mono b0.size).below hA⟩
       clear HC hb hN S2
       by_cases hbad:s1=true∧s2=true
       · obtain ⟨rfl,rfl⟩:=hbad
         obtain ⟨x0,x1,x2,x3,x4,x5⟩:=S3.out.2.1.facts;obtain ⟨y0,y1,y2,y3,y4,y5⟩:=S3.out.2.2.2.1.facts;obtain ⟨v',w',r1,r2,r3⟩:=append_r U2 (dN o) q1 (ws (dX o)).length d1 (dE o) (dN p) q2 (ws (dX p)).length d2 (dE p);have HR:=qsd r1;have HN:=(qsd (ai r2 (ai (S3.out.1.trans (r3.mono S3.out.1.size)) (ai (S3.out.2.2.1.below r3) (S3.out.2.2.2.2.below r3)))));clear r1 r2 r3
         go_upto_region 14 with fail
         rw [←hU2];clear hU2
         go_wp2_with (at_builtin;refine wpList_append10 rfl (.tmp 55) (.tmp 59) 147 rfl _ _ rfl rfl _ _ HR.out ?_)
         go_roundg 0
         case measure=>omega
         case rel=>exact ⟨1,_,by omega,by first | rfl | simp,rfl,qsd ⟨HN.out.2.1,(fun h=>by cases h),fun _=>⟨SS.out.1,SS.out.2,_,_,HN.out.1,HN.out.2.2.1,HN.out.2.2.2⟩⟩⟩
       · have HE:Aside (er=2):=qsd (by
          rw [←AA.out.2.2.2.2.2.2];unfold errN;rw [if_neg (by have:=HS.out;omega),AA.out.2.2.2.2.1,AA.out.2.2.2.2.2.1,SS.out.1,SS.out.2]
          rw [if_neg (by intro h;rw [Bool.and_eq_true] at h;exact hbad h)])
         have H5:=qsd S3.out.1;clear S3
         cases s1
         · go_upto_region 12 with fail
           rw [←hU2];clear hU2 hbad;go_wp2;exact bodyPost_ret (v:=.tuple #[.slice none 0 0,.int .i64 2]) (by simp [results,Tryz.results136,go_sem]) rfl ⟨⟨_,by rw [HE.out],fun h=>by rw [HE.out] at h;cases h⟩,H5.out⟩
         · cases s2
           · go_upto_region 12 with fail
             rw [←hU2];clear hU2 hbad;go_wp2;exact bodyPost_ret (v:=.tuple #[.slice none 0 0,.int .i64 2]) (by simp [results,Tryz.results136,go_sem]) rfl ⟨⟨_,by rw [HE.out],fun h=>by rw [HE.out] at h;cases h⟩,H5.out⟩
           · exact absurd ⟨rfl,rfl⟩ hbad
     · obtain rfl:j=1:=by omega
       obtain ⟨i1,i2,x,y,hR,hx,hy⟩:=HA.out.2.2 rfl;obtain ⟨gg,cap,rfl,hcap,hgg,c0,c1,c2,c3,c4,c5⟩:=hR.ex;subst hv;obtain ⟨q1,d1,rfl,-⟩:=hx.shape;obtain ⟨q2,d2,rfl,-⟩:=hy.shape;have HX:=(qsd (ai HA.out.1 (ai hR (ai hx (ai hy (ai i1 i2))))));clear HA hR hx hy hgg i1 i2;go_wp2
       go_loopg [11] 1 (fun gk i wq=>∃ (k:Nat),gk+k=1∧i=.int .i64 (k:Nat)∧wq=wr∧Aside (k=1→dX p≠0))
       case atStart=>exact ⟨0,by omega,by simp,rfl,qsd fun h=>by cases h⟩
       case round =>
        obtain ⟨i,hgi,rfl,rfl,HP⟩:=hrel
        by_cases hi:i<1
        · obtain rfl:i=0:=by omega
          by_cases h0:dX p=0
          · have r1:((((ws (dX p)).length:Nat):Int)==0)=true:=by rw [h0,ws0];rfl
            have r2:((ws (dX p)).length==0)=true:=by rw [h0,ws0];rfl
            have HE:Aside (er=21):=qsd (by
             rw [←AA.out.2.2.2.2.2.2];unfold errN;rw [if_neg (by have:=HS.out;omega),AA.out.2.2.2.2.1,AA.out.2.2.2.2.2.1,HX.out.2.2.2.2.1,HX.out.2.2.2.2.2,if_pos (by decide),if_pos h0])
            clear h0;go_wp2;exact bodyPost_ret (v:=.tuple #[.slice none 0 0,.int .i64 21]) (by simp [results,Tryz.results136,go_sem]) rfl ⟨⟨_,by rw [HE.out],fun h=>by rw [HE.out] at h;cases h⟩,HX.out.1⟩
          · have r1:((((ws (dX p)).length:Nat):Int)==0)=false:=len_ne h0
            have r2:((ws (dX p)).length==0)=false:=beq_eq_false_iff_ne.2 (fun h=>h0 ((ws_len_zero _).1 h))
            have H0:=qsd h0;clear h0
            go_wp2_with fail
            go_roundg 0
            case measure=>omega
            case rel=>exact ⟨1,by omega,by first | rfl | simp,rfl,qsd fun _=>H0.out⟩
        · obtain rfl:i=1:=by omega
          have HE:Aside (er=0):=qsd (by
           rw [←AA.out.2.2.2.2.2.2];unfold errN;rw [if_neg (by have:=HS.out;omega),AA.out.2.2.2.2.1,AA.out.2.2.2.2.2.1,HX.out.2.2.2.2.1,HX.out.2.2.2.2.2,if_pos (by decide),if_neg (HP.out rfl)])
          go_wp2;exact bodyPost_ret (v:=.tuple #[.slice (some ⟨gg,0,none⟩) 1 cap,.int .i64 0]) (by simp [results,Tryz.results136,go_sem]) rfl ⟨⟨_,by rw [HE.out],fun _=>⟨_,_,HX.out.2.1,HX.out.2.2.1,HX.out.2.2.2.1⟩⟩,HX.out.1⟩
end
section
open Go.RowKit
theorem rounded_mode {w:World}{n m:Bool}{a b:Option Addr}{la ca lb cb X Y:Nat}{e f:Int}(dg ls:Int) (En:Nat) (sq:Bool) (mode:Int) (hm:mode<0∨4<mode) :
 Calls Tryz.prog 99 #[.agg #[.int .i64 dg,.int .i64 ls,.int .u64 (En:Nat)],.agg #[.bool n,.slice a la ca,.int .i64 e,.bool m,.slice b lb cb,.int .i64 f],.bool sq,.int .i64 mode] w fun r w'=>r=.returned (.tuple #[.int .u64 0,.bool false,.int .i64 1])∧Below w.heap.size w w':=by
 obtain ⟨W1,hW1⟩:∃ W,W=(w.alloc (.cells #[.int .i64 dg,.int .i64 ls,.int .u64 (En:Nat)] 110)).alloc (.cells #[.bool n,.slice a la ca,.int .i64 e,.bool m,.slice b lb cb,.int .i64 f] 71):=⟨_,rfl⟩;obtain ⟨hB,Z,QR⟩:=two_boxes w dg ls En n _ e m _ f W1 hW1;have S9:=qsd hB;clear hB Z QR;have hd:(mode<0)∨(¬ mode<0∧4<mode):=by omega
 clear hm;go_enter Tryz.func99,Tryz.ntmps99
 go_upto_region 1 with fail
 rw [←hW1];clear hW1
 rcases hd with hd|⟨hd,hd2⟩
 · have d1:=decide_eq_true hd
   clear hd;go_wp2;exact bodyPost_ret (v:=.tuple #[.int .u64 0,.bool false,.int .i64 1]) (by simp [results,Tryz.results99,go_sem]) rfl ⟨rfl,S9.out⟩
 · have d1:=decide_eq_false hd
   have d2:=decide_eq_true hd2;clear hd hd2;go_wp2;exact bodyPost_ret (v:=.tuple #[.int .u64 0,.bool false,.int .i64 1]) (by simp [results,Tryz.results99,go_sem]) rfl ⟨rfl,S9.out⟩
theorem rounded_err {w:World}{n m:Bool}{a b:Option Addr}{la ca lb cb X Y:Nat}{e f:Int}(dg ls:Int) (En:Nat) (sq:Bool) (mode:Int) (hm0:0≤mode) (hm4:mode≤4) (hN:Al w (.slice a la ca) X) (hD:Al w (.slice b lb cb) Y) (be:-9223372036854775808≤e∧e≤9223372036854775807) (bf:-9223372036854775808≤f∧f≤9223372036854775807)
 (o p:Option (Bool×Nat×Int)) (ho:mkS n X e=o) (hp:mkS m Y f=p) (er:Int) (her:errN X n e Y m f=er) (hne:er≠0) :
 Calls Tryz.prog 99 #[.agg #[.int .i64 dg,.int .i64 ls,.int .u64 (En:Nat)],.agg #[.bool n,.slice a la ca,.int .i64 e,.bool m,.slice b lb cb,.int .i64 f],.bool sq,.int .i64 mode] w fun r w'=>r=.returned (.tuple #[.int .u64 0,.bool false,.int .i64 er])∧Below w.heap.size w w':=by
 obtain ⟨W1,hW1⟩:∃ W,W=(w.alloc (.cells #[.int .i64 dg,.int .i64 ls,.int .u64 (En:Nat)] 110)).alloc (.cells #[.bool n,.slice a la ca,.int .i64 e,.bool m,.slice b lb cb,.int .i64 f] 71):=⟨_,rfl⟩;obtain ⟨hB,Z,QR⟩:=two_boxes w dg ls En n _ e m _ f W1 hW1;obtain ⟨L1,hL1⟩:∃ W,W=W1.alloc (.cells #[.bool n,.slice a la ca,.int .i64 e,.bool m,.slice b lb cb,.int .i64 f] 71):=⟨_,rfl⟩;have hB2:Below W1.heap.size W1 L1:=by rw [hL1];exact below_alloc _ _
 have bel:=hB.trans (hB2.mono hB.size);have LQ:Rq L1 W1.heap.size n (.slice a la ca) e m (.slice b lb cb) f:=by rw [hL1];exact Rq.new _ _ _ _ _ _ _
 have HC:=hid (may1 LQ (hN.below bel) (hD.below bel) be bf o p ho hp er her);have LL:Aside ((ws (dX o)).length≤8192∧(ws (dX p)).length≤8192):=qsd ⟨by rw [←ho];exact mkS_len _ _ _,by rw [←hp];exact mkS_len _ _ _⟩
 obtain ⟨x0,x1,x2,x3,x4,x5⟩:=QR.facts;have S0:=(qsd (ai bel (Z.below hB2)));have d1:decide (mode<0)=false:=decide_eq_false (by omega)
 have d2:decide (4<mode)=false:=decide_eq_false (by omega)
 clear hB hB2 bel LQ Z QR hN hD be bf ho hp her hm0 hm4;go_enter Tryz.func99,Tryz.ntmps99
 go_upto_region 1 with fail
 rw [←hW1];clear hW1
 go_wp2_with fail
 rw [←hL1];clear hL1 x0 x1 x2 x3 x4 x5;refine HC.out.mono ?_;rintro r u1 ⟨⟨v,rfl,hR⟩,hb⟩;have S9:=qsd (S0.out.1.trans (hb.mono S0.out.1.size));have hne':(er != 0)=true:=by simpa using hne
 have hne2:(er==0)=false:=by simpa using hne
 clear hb hR HC S0 LL;go_wp2;exact bodyPost_ret (v:=.tuple #[.int .u64 0,.bool false,.int .i64 er]) (by simp [results,Tryz.results99,go_sem]) rfl ⟨rfl,S9.out⟩
theorem rounded_ok {w:World}{n m:Bool}{a b:Option Addr}{la ca lb cb X Y:Nat}{e f:Int}(dg ls:Int) (En:Nat) (sq:Bool) (mode:Int) (hm0:0≤mode) (hm4:mode≤4) (hN:Al w (.slice a la ca) X) (hD:Al w (.slice b lb cb) Y) (be:-9223372036854775808≤e∧e≤9223372036854775807) (bf:-9223372036854775808≤f∧f≤9223372036854775807)
 (o p:Option (Bool×Nat×Int)) (ho:mkS n X e=o) (hp:mkS m Y f=p) (er:Int) (her:errN X n e Y m f=er) (h0:er=0) (hsq:sq=false∨dN o=false) (K:Nat)
 (HNb:Hid (∀ (u:World) (x y:Option Addr) (lx cx ly cy:Nat),Below w.heap.size w u→Al u (.slice x lx cx) (dX o)→Al u (.slice y ly cy) (dX p)→Calls Tryz.prog 137 #[.agg #[.int .i64 dg,.int .i64 ls,.int .u64 (En:Nat)],.agg #[.bool (dN o),.slice x lx cx,.int .i64 (dE o),.bool (dN p),.slice y ly cy,.int .i64 (dE p)],.bool sq,.int .i64 mode] u fun r w'=>r=.returned (.int .u64 (K:Nat))∧Below u.heap.size u w')) :
 Calls Tryz.prog 99 #[.agg #[.int .i64 dg,.int .i64 ls,.int .u64 (En:Nat)],.agg #[.bool n,.slice a la ca,.int .i64 e,.bool m,.slice b lb cb,.int .i64 f],.bool sq,.int .i64 mode] w fun r w'=>r=.returned (.tuple #[.int .u64 (K:Nat),.bool (dN o),.int .i64 0])∧Below w.heap.size w w':=by
 obtain ⟨W1,hW1⟩:∃ W,W=(w.alloc (.cells #[.int .i64 dg,.int .i64 ls,.int .u64 (En:Nat)] 110)).alloc (.cells #[.bool n,.slice a la ca,.int .i64 e,.bool m,.slice b lb cb,.int .i64 f] 71):=⟨_,rfl⟩;obtain ⟨hB,Z,QR⟩:=two_boxes w dg ls En n _ e m _ f W1 hW1;obtain ⟨L1,hL1⟩:∃ W,W=W1.alloc (.cells #[.bool n,.slice a la ca,.int .i64 e,.bool m,.slice b lb cb,.int .i64 f] 71):=⟨_,rfl⟩;have hB2:Below W1.heap.size W1 L1:=by rw [hL1];exact below_alloc _ _
 have bel:=hB.trans (hB2.mono hB.size);have LQ:Rq L1 W1.heap.size n (.slice a la ca) e m (.slice b lb cb) f:=by rw [hL1];exact Rq.new _ _ _ _ _ _ _
 have HC:=hid (may1 LQ (hN.below bel) (hD.below bel) be bf o p ho hp er her);have LL:Aside ((ws (dX o)).length≤8192∧(ws (dX p)).length≤8192):=qsd ⟨by rw [←ho];exact mkS_len _ _ _,by rw [←hp];exact mkS_len _ _ _⟩
 obtain ⟨x0,x1,x2,x3,x4,x5⟩:=QR.facts;have S0:=(qsd (ai bel (Z.below hB2)));have d1:decide (mode<0)=false:=decide_eq_false (by omega)
 have d2:decide (4<mode)=false:=decide_eq_false (by omega)
 clear hB hB2 bel LQ Z QR hN hD be bf ho hp her hm0 hm4;go_enter Tryz.func99,Tryz.ntmps99
 go_upto_region 1 with fail
 rw [←hW1];clear hW1
 go_wp2_with fail
 rw [←hL1];clear hL1 x0 x1 x2 x3 x4 x5;refine HC.out.mono ?_;rintro r u1 ⟨⟨v,rfl,hR⟩,hb⟩;obtain ⟨x,y,hR1,hx,hy⟩:=hR h0;subst h0;obtain ⟨gg,cap,rfl,hcap,hgg,c0,c1,c2,c3,c4,c5⟩:=hR1.ex;obtain ⟨q1,e1,rfl,-⟩:=hx.shape;obtain ⟨q2,e2,rfl,-⟩:=hy.shape;have S1:=(qsd (ai (S0.out.1.trans (hb.mono S0.out.1.size)) (ai (S0.out.2.below hb) (ai (hx.al' (Nat.le_trans LL.out.1 (by decide))) (ai (hy.al' (Nat.le_trans LL.out.2 (by decide))) (ai hR1 hgg))))))
 clear hb hR HC S0 LL hx hy hR1 hgg;obtain ⟨ng,hng⟩:∃ z,dN o=z:=⟨_,rfl⟩;obtain ⟨z0,z1,z2⟩:=S1.out.2.1.facts;have T1:=hid (HNb.out u1 q1 q2 _ e1 _ e2 S1.out.1 S1.out.2.2.1 S1.out.2.2.2.1);have dr:Below u1.heap.size u1 u1.drew:=(Below.refl _ _).drew;have T2:=hid (HNb.out u1.drew q1 q2 _ e1 _ e2 S1.out.1.drew (S1.out.2.2.1.below dr) (S1.out.2.2.2.1.below dr));have CC:=(qsd (ai c0 (ai c1 (ai c2 (ai c3 (ai c4 (ai c5 (ai z0 (ai z1 z2)))))))));rw [hng] at c0 T1 T2 hsq;have NG:=qsd hng;clear dr HNb hng
 rcases hsq with rfl|rfl
 · go_upto_region 8 with fail
   go_region_held3 (fun w'=>w'.cell? ⟨gg,0,none⟩=some (.bool ng)∧w'.cell? ⟨gg,1,none⟩=some (.slice q1 (ws (dX o)).length e1)∧w'.cell? ⟨gg,2,none⟩=some (.int .i64 (dE o))∧w'.cell? ⟨gg,3,none⟩=some (.bool (dN p))∧w'.cell? ⟨gg,4,none⟩=some (.slice q2 (ws (dX p)).length e2)∧w'.cell? ⟨gg,5,none⟩=some (.int .i64 (dE p))∧w'.cell? ⟨w.heap.size,0,none⟩=some (.int .i64 dg)∧w'.cell? ⟨w.heap.size,1,none⟩=some (.int .i64 ls)∧w'.cell? ⟨w.heap.size,2,none⟩=some (.int .u64 (En:Nat))) (go_keep) (first
    | (go_at_call 137
       first | with_reducible refine T1.out.mono ?_ | with_reducible refine T2.out.mono ?_
       rintro r v1 ⟨rfl,hb⟩;have hw:Below u1.heap.size u1 v1:=by first | exact hb | exact ((Below.refl _ u1).drew).trans (hb.mono (Nat.le_refl _))
       have hcg:∀ i,v1.cell? ⟨gg,i,none⟩=u1.cell? ⟨gg,i,none⟩:=fun i=>hw.cell (p:=⟨gg,i,none⟩) S1.out.2.2.2.2.2
       have k0:v1.cell? ⟨gg,0,none⟩=some (.bool ng):=by rw [hcg,CC.out.1,NG.out]
       have k1:=(hcg 1).trans CC.out.2.1;have k2:=(hcg 2).trans CC.out.2.2.1;have k3:=(hcg 3).trans CC.out.2.2.2.1;have k4:=(hcg 4).trans CC.out.2.2.2.2.1;have k5:=(hcg 5).trans CC.out.2.2.2.2.2.1;obtain ⟨j0,j1,j2⟩:=(S1.out.2.1.below hw).facts;have S9:=qsd (S1.out.1.trans (hw.mono S1.out.1.size));clear hb hw hcg)
    | fail)
   all_goals (
    go_wp2;exact bodyPost_ret (v:=.tuple #[.int .u64 (K:Nat),.bool ng,.int .i64 0]) (by simp [results,Tryz.results99,go_sem]) rfl ⟨by rw [NG.out],S9.out⟩)
 · cases sq
   · go_upto_region 8 with fail
     go_region_held3 (fun w'=>w'.cell? ⟨gg,0,none⟩=some (.bool false)∧w'.cell? ⟨gg,1,none⟩=some (.slice q1 (ws (dX o)).length e1)∧w'.cell? ⟨gg,2,none⟩=some (.int .i64 (dE o))∧w'.cell? ⟨gg,3,none⟩=some (.bool (dN p))∧w'.cell? ⟨gg,4,none⟩=some (.slice q2 (ws (dX p)).length e2)∧w'.cell? ⟨gg,5,none⟩=some (.int .i64 (dE p))∧w'.cell? ⟨w.heap.size,0,none⟩=some (.int .i64 dg)∧w'.cell? ⟨w.heap.size,1,none⟩=some (.int .i64 ls)∧w'.cell? ⟨w.heap.size,2,none⟩=some (.int .u64 (En:Nat))) (go_keep) (first
      | (go_at_call 137
         first | with_reducible refine T1.out.mono ?_ | with_reducible refine T2.out.mono ?_
         rintro r v1 ⟨rfl,hb⟩;have hw:Below u1.heap.size u1 v1:=by first | exact hb | exact ((Below.refl _ u1).drew).trans (hb.mono (Nat.le_refl _))
         have hcg:∀ i,v1.cell? ⟨gg,i,none⟩=u1.cell? ⟨gg,i,none⟩:=fun i=>hw.cell (p:=⟨gg,i,none⟩) S1.out.2.2.2.2.2
         have k0:v1.cell? ⟨gg,0,none⟩=some (.bool false):=by rw [hcg,CC.out.1,NG.out]
         have k1:=(hcg 1).trans CC.out.2.1;have k2:=(hcg 2).trans CC.out.2.2.1;have k3:=(hcg 3).trans CC.out.2.2.2.1;have k4:=(hcg 4).trans CC.out.2.2.2.2.1;have k5:=(hcg 5).trans CC.out.2.2.2.2.2.1;obtain ⟨j0,j1,j2⟩:=(S1.out.2.1.below hw).facts;have S9:=qsd (S1.out.1.trans (hw.mono S1.out.1.size));clear hb hw hcg)
      | fail)
     all_goals (
      go_wp2;exact bodyPost_ret (v:=.tuple #[.int .u64 (K:Nat),.bool false,.int .i64 0]) (by simp [results,Tryz.results99,go_sem]) rfl ⟨by rw [NG.out],S9.out⟩)
   · go_upto_region 8 with fail
     go_region_held3 (fun w'=>w'.cell? ⟨gg,0,none⟩=some (.bool false)∧w'.cell? ⟨gg,1,none⟩=some (.slice q1 (ws (dX o)).length e1)∧w'.cell? ⟨gg,2,none⟩=some (.int .i64 (dE o))∧w'.cell? ⟨gg,3,none⟩=some (.bool (dN p))∧w'.cell? ⟨gg,4,none⟩=some (.slice q2 (ws (dX p)).length e2)∧w'.cell? ⟨gg,5,none⟩=some (.int .i64 (dE p))∧w'.cell? ⟨w.heap.size,0,none⟩=some (.int .i64 dg)∧w'.cell? ⟨w.heap.size,1,none⟩=some (.int .i64 ls)∧w'.cell? ⟨w.heap.size,2,none⟩=some (.int .u64 (En:Nat))) (go_keep) (first
      | (go_at_call 137
         first | with_reducible refine T1.out.mono ?_ | with_reducible refine T2.out.mono ?_
         rintro r v1 ⟨rfl,hb⟩;have hw:Below u1.heap.size u1 v1:=by first | exact hb | exact ((Below.refl _ u1).drew).trans (hb.mono (Nat.le_refl _))
         have hcg:∀ i,v1.cell? ⟨gg,i,none⟩=u1.cell? ⟨gg,i,none⟩:=fun i=>hw.cell (p:=⟨gg,i,none⟩) S1.out.2.2.2.2.2
         have k0:v1.cell? ⟨gg,0,none⟩=some (.bool false):=by rw [hcg,CC.out.1,NG.out]
         have k1:=(hcg 1).trans CC.out.2.1;have k2:=(hcg 2).trans CC.out.2.2.1;have k3:=(hcg 3).trans CC.out.2.2.2.1;have k4:=(hcg 4).trans CC.out.2.2.2.2.1;have k5:=(hcg 5).trans CC.out.2.2.2.2.2.1;obtain ⟨j0,j1,j2⟩:=(S1.out.2.1.below hw).facts;have S9:=qsd (S1.out.1.trans (hw.mono S1.out.1.size));clear hb hw hcg)
      | fail)
     all_goals (
      go_wp2;exact bodyPost_ret (v:=.tuple #[.int .u64 (K:Nat),.bool false,.int .i64 0]) (by simp [results,Tryz.results99,go_sem]) rfl ⟨by rw [NG.out],S9.out⟩)
end
section
open Go.RowKit
theorem rQuot11 {w:World}{n m:Bool}{a b:Option Addr}{la ca lb cb:Nat}{e f:Int}(mode:Int) (k:Nat) (ng:Bool) (er:Int) (hk:k<9223372036854775808) (z:Nat) (hz:k+(if ng then 9223372036854775808 else 0)=z)
 (HR:Hid (∀ u:World,Below w.heap.size w u→Calls Tryz.prog 99 #[.agg #[.int .i64 53,.int .i64 (-1074),.int .u64 9218868437227405312],.agg #[.bool n,.slice a la ca,.int .i64 e,.bool m,.slice b lb cb,.int .i64 f],.bool false,.int .i64 mode] u fun r w'=>r=.returned (.tuple #[.int .u64 (k:Nat),.bool ng,.int .i64 er])∧Below u.heap.size u w')) :
 Calls Tryz.prog 52 #[.agg #[.bool n,.slice a la ca,.int .i64 e,.bool m,.slice b lb cb,.int .i64 f],.int .i64 mode] w fun r w'=>r=.returned (.tuple #[.float .f64 z,.int .i64 er])∧Below w.heap.size w w':=by
 obtain ⟨W1,hW1⟩:∃ W,W=w.alloc (.cells #[.bool n,.slice a la ca,.int .i64 e,.bool m,.slice b lb cb,.int .i64 f] 71):=⟨_,rfl⟩;have hB:Below w.heap.size w W1:=by rw [hW1];exact below_alloc _ _
 have QR0:Rq W1 w.heap.size n (.slice a la ca) e m (.slice b lb cb) f:=by rw [hW1];exact Rq.new _ _ _ _ _ _ _
 obtain ⟨x0,x1,x2,x3,x4,x5⟩:=QR0.facts;have S0:=(qsd (ai hB QR0));have HWd:Hid (∀ u:World,Calls Tryz.prog 100 #[.int .u64 (k:Nat),.bool ng,.int .i64 er] u fun r w'=>r=.returned (.tuple #[.float .f64 z,.int .i64 er])∧w'=u):=hid fun u=>by have h:=wide64_any k hk ng er u;rw [hz] at h;exact h
 clear hB QR0 hk hz;go_enter Tryz.func52,Tryz.ntmps52
 go_upto_region 1 with fail
 rw [←hW1];clear hW1;have T1:=hid (of64_any W1);have T2:=hid (of64_any W1.drew)
 go_region_held3 (fun w'=>w'.cell? ⟨w.heap.size,0,none⟩=some (.bool n)∧w'.cell? ⟨w.heap.size,1,none⟩=some (.slice a la ca)∧w'.cell? ⟨w.heap.size,2,none⟩=some (.int .i64 e)∧w'.cell? ⟨w.heap.size,3,none⟩=some (.bool m)∧w'.cell? ⟨w.heap.size,4,none⟩=some (.slice b lb cb)∧w'.cell? ⟨w.heap.size,5,none⟩=some (.int .i64 f)) (go_keep) (first
  | (go_at_call 90
     first | with_reducible refine T1.out.mono ?_ | with_reducible refine T2.out.mono ?_
     rintro r v1 ⟨rfl,hb⟩;have hw:Below W1.heap.size W1 v1:=by first | exact hb | exact ((Below.refl _ W1).drew).trans (hb.mono (Nat.le_refl _))
     obtain ⟨m0,m1,m2,m3,m4,m5⟩:=(S0.out.2.below hw).facts;have T3:=hid (HR.out v1 (S0.out.1.trans (hw.mono S0.out.1.size)));have S4:=(qsd (ai (S0.out.1.trans (hw.mono S0.out.1.size)) (S0.out.2.below hw)));clear hb hw)
  | (go_at_call 99
     with_reducible refine T3.out.mono ?_
     rintro r v2 ⟨rfl,hb⟩;obtain ⟨k0,k1,k2,k3,k4,k5⟩:=(S4.out.2.below hb).facts;have S5:=qsd (S4.out.1.trans (hb.mono S4.out.1.size));clear hb))
 all_goals (
  go_wp2_with fail
  refine (HWd.out _).mono ?_;rintro r v3 ⟨rfl,rfl⟩;go_wp2;exact bodyPost_ret (v:=.tuple #[.float .f64 z,.int .i64 er]) (by simp [results,Tryz.results52,go_sem]) rfl ⟨rfl,S5.out⟩)
end
section
open Go.RowKit
theorem lies_nought {v:Nat→Nat}{top n S:Nat}(G:Grid v top) (hn:n≠0) (hS:0<S):LiesG v top n 0 true 0 0 S :=
 ⟨by have:=G.one;omega,hS,fun _=>by rw [G.zero,Nat.zero_pow (by omega),Nat.zero_mul],(fun h=>by cases h),(fun h=>by cases h),(fun h=>by cases h)⟩
theorem rV_zero (e f:Int) (u n:Nat):rV11 0 e f u n=0:=by unfold rV11;rw [Nat.zero_mul]
theorem rS_pos {Y:Nat}(h:Y≠0) (e f:Int) (u n:Nat):0<rS11 Y e f u n:=by unfold rS11;exact Nat.mul_pos (by omega) (Nat.two_pow_pos _)
theorem errN_zero {X:Nat}{n:Bool}{e:Int}{Y:Nat}{m:Bool}{f:Int}(h:errN X n e Y m f=0):(mkS n X e).isSome=true∧(mkS m Y f).isSome=true∧dX (mkS m Y f)≠0:=by
 unfold errN at h
 split at h
 · cases h
 · split at h
   · rename_i h2
     rw [Bool.and_eq_true] at h2
     split at h
     · cases h
     · rename_i h3;exact ⟨h2.1,h2.2,h3⟩
   · cases h
theorem docQuot {w:World}{n m:Bool}{a b:Option Addr}{la ca lb cb X Y:Nat}{e f:Int}(mode:Int) (hN:Al w (.slice a la ca) X) (hD:Al w (.slice b lb cb) Y) (be:-9223372036854775808≤e∧e≤9223372036854775807) (bf:-9223372036854775808≤f∧f≤9223372036854775807) :
 Calls Tryz.prog 52 #[.agg #[.bool n,.slice a la ca,.int .i64 e,.bool m,.slice b lb cb,.int .i64 f],.int .i64 mode] w fun r w'=>r=.returned (.tuple #[.float .f64 (quoR rndS ⟨n,.slice a la ca,X,e,m,.slice b lb cb,Y,f⟩ mode).1,.int .i64 (quoR rndS ⟨n,.slice a la ca,X,e,m,.slice b lb cb,Y,f⟩ mode).2])∧Below w.heap.size w w':=by
 by_cases hm:mode<0∨4<mode
 · have e1:quoR rndS ⟨n,.slice a la ca,X,e,m,.slice b lb cb,Y,f⟩ mode=(0,1):=by unfold quoR;rw [if_pos hm]
   rw [e1];exact rQuot11 mode 0 false 1 (by omega) 0 rfl (hid fun u hu=>rounded_mode (X:=X) (Y:=Y) _ _ _ _ mode hm)
 · have hm0:0≤mode:=by omega
   have hm4:mode≤4:=by omega
   have el:=errL_one ⟨n,.slice a la ca,X,e,m,.slice b lb cb,Y,f⟩
   by_cases h0:errN X n e Y m f=0
   · obtain ⟨s1,s2,hY⟩:=errN_zero h0
     have F1:=frm_of s1;have F2:=frm_of s2;have ez:errL (oneI ⟨n,.slice a la ca,X,e,m,.slice b lb cb,Y,f⟩) 1=0:=el.trans h0
     obtain ⟨K,t,mm,L,hq⟩:∃ K t mm,LiesG vK 9218868437227405312 1 K t mm (rV11 (dX (mkS n X e)) (dE (mkS n X e)) (dE (mkS m Y f)) 1074 1) (rS11 (dX (mkS m Y f)) (dE (mkS n X e)) (dE (mkS m Y f)) 1074 1)∧rndS (quoZ (dN (mkS n X e)) (dX (mkS n X e)) (dE (mkS n X e)) (dX (mkS m Y f)) (dE (mkS m Y f))) mode=((if t then K else if outS mode K mm (dN (mkS n X e)) then K+1 else K)+(if (dN (mkS n X e)) then 9223372036854775808 else 0),0):=by
      rcases F1.odd with h|⟨h1,h2,h3⟩
      · obtain ⟨K,t,mm,L,hq⟩:=quo64 (dN (mkS n X e)) (dX (mkS n X e)) (dE (mkS n X e)) (dX (mkS m Y f)) (dE (mkS m Y f)) h hY F1.size F2.size
        exact ⟨K,t,mm,L,by have q:=hq mode hm0 hm4;rw [q];rfl⟩
      · refine ⟨0,true,0,?_,?_⟩
        · rw [h1,rV_zero];exact lies_nought grid64 (by omega) (rS_pos hY _ _ _ _)
        · rw [h1,quoZ_nought _ _ _ _ hY F2.size]
          unfold rndS;rw [if_neg (by omega)]
          simp [h2]
     have hfin:=L.fin
     have e1:quoR rndS ⟨n,.slice a la ca,X,e,m,.slice b lb cb,Y,f⟩ mode=((if t then K else if outS mode K mm (dN (mkS n X e)) then K+1 else K)+(if dN (mkS n X e) then 9223372036854775808 else 0),0):=by
      unfold quoR;simp only;rw [if_neg hm,if_pos ez];exact hq
     rw [e1];refine rQuot11 mode _ (dN (mkS n X e)) 0 (by split;omega;split <;> omega) _ rfl (hid fun u hu=>?_)
     refine rounded_ok _ _ _ _ mode hm0 hm4 (hN.below hu) (hD.below hu) be bf _ _ rfl rfl _ h0 rfl (.inl rfl) _ (hid fun x p q lx cx ly cy hx A1 A2=>?_)
     exact nearbyG wd64_is A1 A2 ⟨F1.down,F1.up⟩ ⟨F2.down,F2.up⟩ F2.size (.inl rfl) L false rfl mode hm0 hm4
   · have ez:errL (oneI ⟨n,.slice a la ca,X,e,m,.slice b lb cb,Y,f⟩) 1=errN X n e Y m f:=el
     have e1:quoR rndS ⟨n,.slice a la ca,X,e,m,.slice b lb cb,Y,f⟩ mode=(0,errN X n e Y m f):=by unfold quoR;rw [if_neg hm,if_neg (by rw [ez];exact h0),ez]
     rw [e1];exact rQuot11 mode 0 false _ (by omega) 0 rfl (hid fun u hu=>rounded_err _ _ _ _ mode hm0 hm4 (hN.below hu) (hD.below hu) be bf _ _ rfl rfl _ rfl h0)
end
section
open Go.RowKit J
theorem fo_iv (V:Int) (m:Nat) (hm:m≤100000) (hV:V.natAbs<2^m):Iv (fo8 V) (-1074) ((m:Int)-1074):=by
 unfold fo8;refine mkS_iv _ _ _ _ _ (.inr ⟨by omega,?_⟩) (by omega) (by omega) (by omega)
 have:=bl_lt_pow hV;omega
theorem fo_fm (V:Int) (m:Nat) (hm:m≤100000) (hV:V.natAbs<2^m):Fm (fo8 V):=(fo_iv V m hm hV).fm
end
section
open Go.RowKit J
theorem YX (k:Nat) (hk:k=1074):YY=2^k*XX:=by
 rw [Y_eq,X_eq,←Nat.pow_add,show k+EX=EY by rw [hk];decide]
end
section
open Go.RowKit J
theorem kd_cases {x:Nat}(hx:x<18446744073709551616):(9218868437227405312<magW x∧kd x=5)∨(magW x=9218868437227405312∧negW x=true∧kd x=4)∨(magW x=9218868437227405312∧negW x=false∧kd x=3)∨(magW x<9218868437227405312∧kd x≤2):=by
 have e:magW x=x%9223372036854775808:=rfl;have e2:negW x=decide (9223372036854775808≤x):=rfl;rw [e,e2];unfold kd
 by_cases h1:9218868437227405312<x%9223372036854775808
 · exact .inl ⟨h1,if_pos h1⟩
 · rw [if_neg h1]
   by_cases h2:x%9223372036854775808=9218868437227405312
   · rw [if_pos h2]
     by_cases h3:x/9223372036854775808=1
     · exact .inr (.inl ⟨h2,decide_eq_true (by omega),if_pos h3⟩)
     · exact .inr (.inr (.inl ⟨h2,decide_eq_false (by omega),if_neg h3⟩))
   · rw [if_neg h2]
     refine .inr (.inr (.inr ⟨by omega,?_⟩))
     repeat' split
     all_goals omega
end
section
open Go.RowKit
theorem rgreat7 (b:Bool) (X:Nat) (e:Int) (a:Option Addr) (c:Nat) (w:World) (hA:Arg w a (ws X).length c (ws X)) (hbl:bl X≤262144) (he0:-2000000≤e) (he1:e≤2000000) :
 Calls Tryz.prog 113 #[.agg #[.bool b,.slice a (ws X).length c,.int .i64 e]] w fun r w'=>r=.returned (.bool (decide ((2090:Int)<(bl X:Int)+e)))∧Below w.heap.size w w':=by
 have HL:Hid (∀ u:World,Below w.heap.size w u→Calls Tryz.prog 147 #[.slice a (ws X).length c] u fun r w'=>r=.returned (.int .i64 (bl X:Nat))∧w'=u):=fun u hb=>by
  have hA':=hA.below hb;have h8:=hA'.big;have:=rLen_any (ws X) a (ws X).length c u.heap.size u rfl (by omega) hA'.wf hA'.rd
  rw [val_ws] at this;exact this
 obtain ⟨W,hW⟩:∃ W,W=w.alloc (Obj.cells #[.bool b,.slice a (ws X).length c,.int .i64 e] 41):=⟨_,rfl⟩;have HD:Aside (Dk W w.heap.size b (.slice a (ws X).length c) e∧Below w.heap.size w W):=by rw [hW];exact ⟨Dk.new _ _ _ _,bel_alloc _ _⟩
 have HW:=qsd hW;obtain ⟨B,hB⟩:∃ B:Nat,B=bl X:=⟨_,rfl⟩;rw [←hB] at HL hbl ⊢;have hwr:IntKind.i64.wrap ((B:Int)+e)=(B:Int)+e:=by rw [IntKind.wrap_i64];omega
 clear hA hW hB;go_enter Tryz.func113,Tryz.ntmps113
 go_upto_region 1 with fail
 rw [←HW.out];have kS:Aside (W.drew.cell? ⟨w.heap.size,1,none⟩=some (.slice a (ws X).length c)∧W.drew.cell? ⟨w.heap.size,2,none⟩=some (.int .i64 e)):=⟨HD.out.1.facts.2.1,HD.out.1.facts.2.2.1⟩
 go_region_held3 (fun w'=>w'.cell? ⟨w.heap.size,1,none⟩=some (.slice a (ws X).length c)∧w'.cell? ⟨w.heap.size,2,none⟩=some (.int .i64 e)) (with_reducible exact kS.out) (first
  | (go_at_call 147
     with_reducible refine (HL.out _ HD.out.2.drew).mono ?_
     rintro r u ⟨rfl,rfl⟩))
 all_goals (
  clear kS;go_wp2;refine bodyPost_ret (v:=.bool (decide ((2090:Int)<(B:Int)+e))) (by simp [results,Tryz.results113,go_sem]) rfl ⟨rfl,HD.out.2.drew⟩)
theorem Nt.stay {lo lo':Nat}{w w':World}{v:Value}{X:Nat}(h:Nt lo w v X) (hb:∀ g,lo≤g→w'.heap[g]?=w.heap[g]?) (hl:lo'≤lo):Nt lo' w' v X:=by
 refine ⟨h.1,?_⟩
 rcases h.2 with hn|⟨g,cap,cur,rfl,hlo,hgc,rest⟩
 · exact .inl hn
 · exact .inr ⟨g,cap,cur,rfl,by omega,(hb g hlo).trans hgc,rest⟩
theorem st_bel7 {B:Nat}{a w:World}{g i:Nat}{v:Value}(hg:B≤g) (h:Below B a w):Below B a (w.setCell ⟨g,i,none⟩ v):=h.trans ⟨rfl,rfl,rfl,by simp [World.setCell],fun k hk=>Below.heap_setCell _ _ _ _ (by simp;omega)⟩
theorem rOf7_no (x k:Nat) (w:World) (HK:Hid (∀ u:World,Calls Tryz.prog 115 #[.float .f64 x] u fun r w'=>r=.returned (.int .i64 (k:Nat))∧w'=u)) (hk:((k:Int)==0)=false) :
 Calls Tryz.prog 74 #[.float .f64 x] w fun r w'=>r=.returned (.agg #[.int .i64 (k:Nat),.bool false,.slice none 0 0,.int .i64 0])∧Below w.heap.size w w':=by
 have hne:w.heap.size≠w.heap.size+1:=by omega
 go_enter Tryz.func74,Tryz.ntmps74
 go_wp2_with fail
 refine (HK.out _).mono ?_;rintro r w1 ⟨rfl,rfl⟩;clear HK;go_wp2;exact bodyPost_ret (v:=.agg #[.int .i64 (k:Nat),.bool false,.slice none 0 0,.int .i64 0]) (by simp [results,Tryz.results74,go_sem]) rfl ⟨rfl,by first | exact (bel_alloc _ _).trans ((bel_alloc _ _).mono (by simp)) | exact st_bel7 (by simp) ((bel_alloc _ _).trans ((bel_alloc _ _).mono (by simp)))⟩
end
section
open Go.RowKit J
attribute [local go_sem] st_float
theorem cls_kd {x:Nat}(hx:x<18446744073709551616):(kd x=5∧clW x=4)∨((kd x=3∨kd x=4)∧clW x=3∧ngW x=negW x)∨((kd x=1∨kd x=2)∧clW x=0∧ngW x=negW x∧finW x∧fvW x=0)∨(kd x=0∧(clW x=1∨clW x=2)∧ngW x=negW x∧finW x):=by
 rcases kd_cases hx with ⟨a1,a2⟩|⟨a1,a2,a3⟩|⟨a1,a2,a3⟩|⟨a1,a2⟩
 · exact .inl ⟨a2,cl_nan a1⟩
 · exact .inr (.inl ⟨.inr a3,(cl_inf a1).1,(cl_inf a1).2⟩)
 · exact .inr (.inl ⟨.inl a3,(cl_inf a1).1,(cl_inf a1).2⟩)
 · have fx:finW x:=a1
   obtain ⟨p1,p2,p3,p4⟩:=fin_parts hx fx
   by_cases h0:magW x=0
   · have hk:kd x=1∨kd x=2:=by
      have e:x%9223372036854775808=0:=h0;unfold kd;rw [if_neg (by omega),if_neg (by omega),if_pos e]
      split
      · exact .inl rfl
      · exact .inr rfl
     rw [h0,vK_zero] at p2
     have hfr:frW x=0:=by
      rcases Nat.mul_eq_zero.1 p2.symm with q|q
      · exact q
      · have:=Nat.two_pow_pos (xpW x+1074).toNat;omega
     refine .inr (.inr (.inl ⟨hk,?_,p1,fx,?_⟩))
     · rcases p4 with q | q
       · exact q.1
       · exact absurd hfr q.2
     · unfold fvW
       rw [h0,vK_zero]
       cases negW x <;> rfl
   · have hk:kd x=0:=by
      have e:¬ x%9223372036854775808=0:=h0;have e2:x%9223372036854775808<9218868437227405312:=a1;unfold kd;rw [if_neg (by omega),if_neg (by omega),if_neg e]
     refine .inr (.inr (.inr ⟨hk,?_,p1,fx⟩))
     rcases p4 with q|q
     · exfalso
       rw [q.2,Nat.zero_mul] at p2;have:=(vK_lt (K:=0) (L:=magW x)).2 (by omega)
       omega
     · exact q.1
theorem oZ_zero {x:Nat}(h:finW x) (h0:fvW x=0):oZ x=o00:=by
 rw [oZ_fin h];unfold oW;rw [h0];exact mkS_zero _ _
theorem rOf7y (x:Nat) (w:World) (hx:x<18446744073709551616) (fx:finW x) (hk:kd x=0) :
 Calls Tryz.prog 74 #[.float .f64 x] w fun r w'=>(∃ v,r=.returned (.agg #[.int .i64 0,.bool (dN (oZ x)),v,.int .i64 (dE (oZ x))])∧Nt w.heap.size w' v (dX (oZ x)))∧Below w.heap.size w w':=by
 have HK:=hid (fun u:World=>Kind_any x hx u)
 rw [hk] at HK;have HO:=hid (fun u:World=>rof12 x hx fx u)
 have FX:=qsd (oW_fm x hx fx);rw [oZ_fin fx];obtain ⟨ox,hox⟩:∃ o,o=oW x:=⟨_,rfl⟩;rw [←hox] at HO FX ⊢;have hne:w.heap.size≠w.heap.size+1:=by omega
 obtain ⟨W,hW⟩:∃ W,W=(w.alloc (Obj.cells #[.int .i64 0,.bool false,.slice none 0 0,.int .i64 0] 95)).alloc (Obj.cells #[.int .i64 0,.bool false,.slice none 0 0,.int .i64 0] 95):=⟨_,rfl⟩
 have HD:Aside (Bl W w.heap.size 95 [.int .i64 0,.bool false,.slice none 0 0,.int .i64 0]∧Bl W (w.heap.size+1) 95 [.int .i64 0,.bool false,.slice none 0 0,.int .i64 0]∧Below w.heap.size w W∧W.heap.size=w.heap.size+2):=by
  rw [hW];exact ⟨(Bl.new w 95 [_,_,_,_]).alloc _,Bl.new' (w.alloc _) 95 _ [_,_,_,_] (by simp),(bel_alloc _ _).trans ((bel_alloc _ _).mono (by simp)),by simp⟩
 have HWW:=qsd hW;clear hW hx fx hk hox;go_enter Tryz.func74,Tryz.ntmps74
 go_wp2_with fail
 refine (HK.out _).mono ?_;rintro r w1 ⟨rfl,rfl⟩;clear HK
 go_upto_region 2 with fail
 first | rw [←HWW.out] | skip
 have z0:=HD.out.2.1.cell 0 _ rfl
 go_wp2_with fail
 refine (HO.out W).mono ?_;rintro r u ⟨⟨v1,rfl,hN1⟩,hb1⟩;obtain ⟨a1,c1,rfl,hN0⟩:=Lo.shape FX.out hN1;have D1:=HD.out.1.below hb1 HD.out.1.lt;have D2:=HD.out.2.1.below hb1 HD.out.2.1.lt;obtain ⟨U,hU⟩:∃ U,U=((u.setCell ⟨w.heap.size+1,1,none⟩ (.bool (dN ox))).setCell ⟨w.heap.size+1,2,none⟩ (.slice a1 (ws (dX ox)).length c1)).setCell ⟨w.heap.size+1,3,none⟩ (.int .i64 (dE ox)):=⟨_,rfl⟩;have s0:=D2.cell 0 _ rfl;have s1:=D2.cell 1 _ rfl;have s2:=D2.cell 2 _ rfl;have s3:=D2.cell 3 _ rfl;have g1:=D2.frozen 1;have g2:=D2.frozen 2;have g3:=D2.frozen 3
 have HN:Aside (Bl U w.heap.size 95 [.int .i64 0,.bool false,.slice none 0 0,.int .i64 0]∧Bl U (w.heap.size+1) 95 [.int .i64 0,.bool (dN ox),.slice a1 (ws (dX ox)).length c1,.int .i64 (dE ox)]∧Nt (w.heap.size+2) U (.slice a1 (ws (dX ox)).length c1) (dX ox)∧Below w.heap.size w U):=by
  have hz:=HD.out.2.2.2;rw [hU];refine ⟨Bl.but D1 ((((But.refl _ _).set 1 _).set 2 _).set 3 _) hne,((D2.set 1 _).set 2 _).set 3 _,?_,?_⟩
  · refine (hN1.mono (show w.heap.size+2≤W.heap.size by omega)).stay (fun g hg=>?_) (Nat.le_refl _)
    rw [Below.heap_setCell _ _ _ _ (by simp;omega),Below.heap_setCell _ _ _ _ (by simp;omega),Below.heap_setCell _ _ _ _ (by simp;omega)]
  · have:=HD.out.2.2.1.trans (hb1.mono HD.out.2.2.1.size)
    exact st_bel7 (by omega) (st_bel7 (by omega) (st_bel7 (by omega) this))
 have HU:=qsd hU;clear hU hN1 hN0 hb1 HO D1 D2 HD HWW z0
 go_upto_region 4 with fail
 rw [←HU.out];clear HU s0 s1 s2 s3 g1 g2 g3;have q0:=HN.out.1.cell 0 _ rfl;have q1:=HN.out.1.cell 1 _ rfl;have q2:=HN.out.1.cell 2 _ rfl;have q3:=HN.out.1.cell 3 _ rfl;have f0:=HN.out.1.frozen 0;have f1:=HN.out.1.frozen 1;have f2:=HN.out.1.frozen 2;have f3:=HN.out.1.frozen 3;have s0:=HN.out.2.1.cell 0 _ rfl;have s1:=HN.out.2.1.cell 1 _ rfl;have s2:=HN.out.2.1.cell 2 _ rfl;have s3:=HN.out.2.1.cell 3 _ rfl
 have HF:Aside (Bl ((((U.setCell ⟨w.heap.size,0,none⟩ (.int .i64 0)).setCell ⟨w.heap.size,1,none⟩ (.bool (dN ox))).setCell ⟨w.heap.size,2,none⟩ (.slice a1 (ws (dX ox)).length c1)).setCell ⟨w.heap.size,3,none⟩ (.int .i64 (dE ox))) w.heap.size 95 [.int .i64 0,.bool (dN ox),.slice a1 (ws (dX ox)).length c1,.int .i64 (dE ox)]∧Nt w.heap.size ((((U.setCell ⟨w.heap.size,0,none⟩ (.int .i64 0)).setCell ⟨w.heap.size,1,none⟩ (.bool (dN ox))).setCell ⟨w.heap.size,2,none⟩ (.slice a1 (ws (dX ox)).length c1)).setCell ⟨w.heap.size,3,none⟩ (.int .i64 (dE ox))) (.slice a1 (ws (dX ox)).length c1) (dX ox)∧Below w.heap.size w ((((U.setCell ⟨w.heap.size,0,none⟩ (.int .i64 0)).setCell ⟨w.heap.size,1,none⟩ (.bool (dN ox))).setCell ⟨w.heap.size,2,none⟩ (.slice a1 (ws (dX ox)).length c1)).setCell ⟨w.heap.size,3,none⟩ (.int .i64 (dE ox)))):=by
  refine ⟨(((HN.out.1.set 0 _).set 1 _).set 2 _).set 3 _,?_,?_⟩
  · refine HN.out.2.2.1.stay (fun g hg=>?_) (by omega)
    rw [Below.heap_setCell _ _ _ _ (by simp;omega),Below.heap_setCell _ _ _ _ (by simp;omega),Below.heap_setCell _ _ _ _ (by simp;omega),Below.heap_setCell _ _ _ _ (by simp;omega)]
  · exact st_bel7 (Nat.le_refl _) (st_bel7 (Nat.le_refl _) (st_bel7 (Nat.le_refl _) (st_bel7 (Nat.le_refl _) HN.out.2.2.2)))
 clear HN;go_wp2;have t0:=HF.out.1.cell 0 _ rfl;have t1:=HF.out.1.cell 1 _ rfl;have t2:=HF.out.1.cell 2 _ rfl;have t3:=HF.out.1.cell 3 _ rfl;refine bodyPost_ret (v:=.agg #[.int .i64 0,.bool (dN ox),.slice a1 (ws (dX ox)).length c1,.int .i64 (dE ox)]) (by simp [results,Tryz.results74,go_sem,t0,t1,t2,t3]) rfl ⟨⟨_,rfl,HF.out.2.1⟩,HF.out.2.2⟩
theorem rOf7x (x:Nat) (w:World) (hx:x<18446744073709551616) :
 Calls Tryz.prog 74 #[.float .f64 x] w fun r w'=>(∃ v,r=.returned (.agg #[.int .i64 (kd x:Nat),.bool (dN (oZ x)),v,.int .i64 (dE (oZ x))])∧Nt w.heap.size w' v (dX (oZ x)))∧Below w.heap.size w w':=by
 have no:∀ k:Nat,kd x=k→((k:Int)==0)=false→oZ x=o00→Calls Tryz.prog 74 #[.float .f64 x] w fun r w'=>(∃ v,r=.returned (.agg #[.int .i64 (kd x:Nat),.bool (dN (oZ x)),v,.int .i64 (dE (oZ x))])∧Nt w.heap.size w' v (dX (oZ x)))∧Below w.heap.size w w':=fun k hk h0 ho=>by
  refine (rOf7_no x k w (hid (fun u=>by have:=Kind_any x hx u;rw [hk] at this;exact this)) h0).mono ?_
  rintro r w' ⟨rfl,hb⟩;rw [ho,hk];exact ⟨⟨_,rfl,Nt.nil _ _⟩,hb⟩
 rcases cls_kd hx with ⟨k,c⟩|⟨k,c,_⟩|⟨k,c,n,f,v⟩|⟨k,c,n,f⟩
 · refine no 5 k rfl (oZ_odd ?_)
   intro f
   rcases (fin_parts hx f).2.2.2 with q|q <;> omega
 · have nf:¬ finW x:=by intro f;rcases (fin_parts hx f).2.2.2 with q | q <;> omega
   rcases k with k|k
   · exact no 3 k rfl (oZ_odd nf)
   · exact no 4 k rfl (oZ_odd nf)
 · rcases k with k | k
   · exact no 1 k rfl (oZ_zero f v)
   · exact no 2 k rfl (oZ_zero f v)
 · rw [k]
   exact rOf7y x w hx f k
end
section
open Go.RowKit J
attribute [local go_sem] st_float
def nz7 (j:Nat):Bool:=((j:Int)==1) || ((j:Int)==2)
def en7 (j:Nat):Bool:=((j:Int)==3) || ((j:Int)==4)
def na7 (x y:Nat):Bool:=((kd x:Int)==5) || ((kd y:Int)==5) || ((nz7 (kd x) || nz7 (kd y))&&(en7 (kd x) || en7 (kd y)))
theorem prod7 {x y:Nat}(hx:x<18446744073709551616) (hy:y<18446744073709551616) :
 (na7 x y=true→pK x y=1∧pT x y=0)∧(na7 x y=false→(en7 (kd x) || en7 (kd y))=true→(magW x≤9218868437227405312∧magW y≤9218868437227405312)∧pK x y=(if (negW x != negW y) then 3 else 2)∧pT x y=0) ∧
 (na7 x y=false→(en7 (kd x) || en7 (kd y))=false→(nz7 (kd x) || nz7 (kd y))=true→(magW x≤9218868437227405312∧magW y≤9218868437227405312)∧pK x y=(if (negW x != negW y) then 4 else 5)∧pT x y=0) ∧
 (na7 x y=false→(en7 (kd x) || en7 (kd y))=false→(nz7 (kd x) || nz7 (kd y))=false→finW x∧finW y∧pK x y=0):=by
 have hng:∀ a b:Bool,(!a==b)=(a != b):=by decide
 have inf:∀ z:Nat,clW z=3→magW z≤9218868437227405312:=fun z h=>by
  rcases Nat.lt_or_ge 9218868437227405312 (magW z) with q|q
  · rw [cl_nan q] at h;omega
  · exact q
 have tz:pK x y≠0→pT x y=0:=fun h=>by unfold pT;unfold pK at h;exact pv7_no h
 unfold na7
 rcases cls_kd hx with ⟨k,c⟩|⟨k,c,n⟩|⟨k,c,n,f,v⟩|⟨k,c,n,f⟩
 · have e:pK x y=1:=by
    unfold pK pk;rw [c,if_pos (.inl (by have:=cl_range y;omega))]
   rw [k];refine ⟨fun _=>⟨e,tz (by omega)⟩,(fun h=>by simp at h),(fun h=>by simp at h),(fun h=>by simp at h)⟩
 · rcases cls_kd hy with ⟨k',c'⟩ | ⟨k',c',n'⟩ | ⟨k',c',n',f',v'⟩ | ⟨k',c',n',f'⟩
   · have e:pK x y=1:=by unfold pK pk;rw [c,c',if_pos (.inl (by omega))]
     rw [k'];refine ⟨fun _=>⟨e,tz (by omega)⟩,(fun h=>by simp at h),(fun h=>by simp at h),(fun h=>by simp at h)⟩
   · have e:pK x y=(if (negW x != negW y) then 3 else 2):=by unfold pK pk;rw [c,c',n,n',hng,if_neg (by omega),if_pos (by omega)]
     have e0:pK x y≠0:=by rw [e];split <;> omega
     refine ⟨fun h=>?_,fun _ _=>⟨⟨inf x c,inf y c'⟩,e,tz e0⟩,fun _ h=>?_,fun _ h=>?_⟩
     · exfalso;rcases k with k | k <;> rcases k' with k' | k' <;> rw [k,k'] at h <;> simp [nz7,en7] at h
     · exfalso;rcases k with k | k <;> rw [k] at h <;> simp [en7] at h
     · exfalso;rcases k with k | k <;> rw [k] at h <;> simp [en7] at h
   · have e:pK x y=1:=by unfold pK pk;rw [c,c',if_pos (.inr (by omega))]
     refine ⟨fun _=>⟨e,tz (by omega)⟩,fun h=>?_,fun h=>?_,fun h=>?_⟩
     all_goals exfalso;rcases k with k | k <;> rcases k' with k' | k' <;> rw [k,k'] at h <;> simp [nz7,en7] at h
   · have e:pK x y=(if (negW x != negW y) then 3 else 2):=by unfold pK pk;rw [c,n,n',hng,if_neg (by omega),if_pos (by omega)]
     have e0:pK x y≠0:=by rw [e];split <;> omega
     have hyf:magW y≤9218868437227405312:=Nat.le_of_lt f';refine ⟨fun h=>?_,fun _ _=>⟨⟨inf x c,hyf⟩,e,tz e0⟩,fun _ h=>?_,fun _ h=>?_⟩
     · exfalso;rcases k with k | k <;> rw [k,k'] at h <;> simp [nz7,en7] at h
     · exfalso;rcases k with k | k <;> rw [k] at h <;> simp [en7] at h
     · exfalso;rcases k with k | k <;> rw [k] at h <;> simp [en7] at h
 · have hxf:magW x≤9218868437227405312:=Nat.le_of_lt f
   rcases cls_kd hy with ⟨k',c'⟩|⟨k',c',n'⟩|⟨k',c',n',f',v'⟩|⟨k',c',n',f'⟩
   · have e:pK x y=1:=by unfold pK pk;rw [c,c',if_pos (.inl (by omega))]
     rw [k'];refine ⟨fun _=>⟨e,tz (by omega)⟩,(fun h=>by simp at h),(fun h=>by simp at h),(fun h=>by simp at h)⟩
   · have e:pK x y=1:=by unfold pK pk;rw [c,c',if_pos (.inr (by omega))]
     refine ⟨fun _=>⟨e,tz (by omega)⟩,fun h=>?_,fun h=>?_,fun h=>?_⟩
     all_goals exfalso;rcases k with k | k <;> rcases k' with k' | k' <;> rw [k,k'] at h <;> simp [nz7,en7] at h
   · have e:pK x y=(if (negW x != negW y) then 4 else 5):=by unfold pK pk;rw [c,c',n,n',hng,if_neg (by omega),if_neg (by omega),if_pos (by omega)]
     have e0:pK x y≠0:=by rw [e];split <;> omega
     have hyf:magW y≤9218868437227405312:=Nat.le_of_lt f';refine ⟨fun h=>?_,fun _ h=>?_,fun _ _ _=>⟨⟨hxf,hyf⟩,e,tz e0⟩,fun _ _ h=>?_⟩
     · exfalso;rcases k with k | k <;> rcases k' with k' | k' <;> rw [k,k'] at h <;> simp [nz7,en7] at h
     · exfalso;rcases k with k | k <;> rcases k' with k' | k' <;> rw [k,k'] at h <;> simp [en7] at h
     · exfalso;rcases k with k | k <;> rw [k] at h <;> simp [nz7] at h
   · have e:pK x y=(if (negW x != negW y) then 4 else 5):=by unfold pK pk;rw [c,n,n',hng,if_neg (by omega),if_neg (by omega),if_pos (by omega)]
     have e0:pK x y≠0:=by rw [e];split <;> omega
     have hyf:magW y≤9218868437227405312:=Nat.le_of_lt f';refine ⟨fun h=>?_,fun _ h=>?_,fun _ _ _=>⟨⟨hxf,hyf⟩,e,tz e0⟩,fun _ _ h=>?_⟩
     · exfalso;rcases k with k | k <;> rw [k,k'] at h <;> simp [nz7,en7] at h
     · exfalso;rcases k with k | k <;> rw [k,k'] at h <;> simp [en7] at h
     · exfalso;rcases k with k | k <;> rw [k] at h <;> simp [nz7] at h
 · have hxf:magW x≤9218868437227405312:=Nat.le_of_lt f
   rcases cls_kd hy with ⟨k',c'⟩|⟨k',c',n'⟩|⟨k',c',n',f',v'⟩|⟨k',c',n',f'⟩
   · have e:pK x y=1:=by unfold pK pk;rw [c',if_pos (.inl (by omega))]
     rw [k'];refine ⟨fun _=>⟨e,tz (by omega)⟩,(fun h=>by simp at h),(fun h=>by simp at h),(fun h=>by simp at h)⟩
   · have e:pK x y=(if (negW x != negW y) then 3 else 2):=by unfold pK pk;rw [c',n,n',hng,if_neg (by omega),if_pos (by omega)]
     have e0:pK x y≠0:=by rw [e];split <;> omega
     refine ⟨fun h=>?_,fun _ _=>⟨⟨hxf,inf y c'⟩,e,tz e0⟩,fun _ h=>?_,fun _ h=>?_⟩
     · exfalso;rcases k' with k' | k' <;> rw [k,k'] at h <;> simp [nz7,en7] at h
     · exfalso;rcases k' with k' | k' <;> rw [k'] at h <;> simp [en7] at h
     · exfalso;rcases k' with k' | k' <;> rw [k'] at h <;> simp [en7] at h
   · have e:pK x y=(if (negW x != negW y) then 4 else 5):=by unfold pK pk;rw [c',n,n',hng,if_neg (by omega),if_neg (by omega),if_pos (by omega)]
     have e0:pK x y≠0:=by rw [e];split <;> omega
     have hyf:magW y≤9218868437227405312:=Nat.le_of_lt f';refine ⟨fun h=>?_,fun _ h=>?_,fun _ _ _=>⟨⟨hxf,hyf⟩,e,tz e0⟩,fun _ _ h=>?_⟩
     · exfalso;rcases k' with k' | k' <;> rw [k,k'] at h <;> simp [nz7,en7] at h
     · exfalso;rcases k' with k' | k' <;> rw [k,k'] at h <;> simp [en7] at h
     · exfalso;rcases k' with k' | k' <;> rw [k'] at h <;> simp [nz7] at h
   · have e:pK x y=0:=by unfold pK pk;rw [if_neg (by omega),if_neg (by omega),if_neg (by omega)]
     refine ⟨fun h=>?_,fun _ h=>?_,fun _ _ h=>?_,fun _ _ _=>⟨f,f',e⟩⟩
     all_goals exfalso;rw [k,k'] at h;simp [nz7,en7] at h
end
section
open Go.RowKit J
attribute [local go_sem] st_float
def Lt (w:World) (g:Nat) (k:Nat) (o:Option (Bool×Nat×Int)):Prop:=∃ a c,Bl w g 95 [.int .i64 (k:Nat),.bool (dN o),.slice a (ws (dX o)).length c,.int .i64 (dE o)]∧Nt 0 w (.slice a (ws (dX o)).length c) (dX o)
theorem Lt.below {w w':World}{g k:Nat}{o:Option (Bool×Nat×Int)}(h:Lt w g k o) (hb:Below w.heap.size w w'):Lt w' g k o:=by
 obtain ⟨a,c,h1,h2⟩:=h;exact ⟨a,c,h1.below hb h1.lt,h2.below hb⟩
theorem Lt.new {w:World}{k:Nat}{o:Option (Bool×Nat×Int)}{a:Option Addr}{c:Nat}(hN:Nt 0 w (.slice a (ws (dX o)).length c) (dX o)):Lt (w.alloc (Obj.cells #[.int .i64 (k:Nat),.bool (dN o),.slice a (ws (dX o)).length c,.int .i64 (dE o)] 95)) w.heap.size k o :=
 ⟨a,c,Bl.new w 95 [_,_,_,_],hN.below (below_alloc _ _)⟩
end
section
open Go.RowKit J
attribute [local go_sem] st_float
def laC (o:Option (Bool×Nat×Int)) (a:Option Addr) (c:Nat) (s:Sp):List Value:=[.bool (dN o),.slice a (ws (dX o)).length c,.int .i64 (dE o),.int .i64 s.n,.int .i64 s.u,.int .i64 s.d,.int .i64 s.m,.int .i64 s.p,.int .i64 s.a]
def La (w:World) (g:Nat) (o:Option (Bool×Nat×Int)) (s:Sp):Prop:=∃ a c,Bl w g 63 (laC o a c s)∧Nt 0 w (.slice a (ws (dX o)).length c) (dX o)
theorem La.below {w w':World}{g:Nat}{o:Option (Bool×Nat×Int)}{s:Sp}(h:La w g o s) (hb:Below w.heap.size w w'):La w' g o s:=by
 obtain ⟨a,c,h1,h2⟩:=h;exact ⟨a,c,h1.below hb h1.lt,h2.below hb⟩
theorem La.lt {w:World}{g:Nat}{o:Option (Bool×Nat×Int)}{s:Sp}(h:La w g o s):g<w.heap.size:=by
 obtain ⟨a,c,h1,h2⟩:=h;exact h1.lt
theorem Nt.offA {lo g T:Nat}{w w':World}{v:Value}{X:Nat}{C:List Value}(h:Nt lo w v X) (hB:Bl w g T C) (hT:T≠122) (hb:But g w w'):Nt lo w' v X:=by
 refine h.off hb ?_
 rcases h.2 with ⟨rfl,_⟩|⟨g',cap,cur,rfl,_,hg,_⟩
 · simp [Value.ownBlock]
 · intro e'
   obtain rfl:g'=g:=by simpa [Value.ownBlock] using e'
   rw [show w.heap[g']?=_ from hB] at hg
   simp at hg;exact hT hg.2
theorem ex_great {V:Int}(j:Nat) (hj:j=4238) (hV:V.natAbs<2^j):decide ((2090:Int)<(bl (dX (exV V)):Int)+dE (exV V))=false∧bl (dX (exV V))≤262144∧-2000000≤dE (exV V)∧dE (exV V)≤2000000:=by
 obtain ⟨n,X,e,ho,F,hx⟩:=ex_iv V j (by omega) hV
 rw [ho];have h1:=F.size;have h2:=F.down;have h3:=F.up
 show decide ((2090:Int)<(bl X:Int)+e)=false∧bl X≤262144∧-2000000≤e∧e≤2000000
 refine ⟨decide_eq_false ?_,h1,by omega,by omega⟩
 rcases hx with h|⟨h4,h5⟩
 · rcases F.odd with q | ⟨_,q,_⟩
   · omega
   · have hb:bl 0=0:=by decide
     rcases F.odd with r|⟨r1,r2,r3⟩
     · omega
     · subst h
       rw [hb];omega
 · omega
end
section
open Go.RowKit J
attribute [local go_sem] st_float
theorem Bl.facts9 {w:World}{g T:Nat}{a b c d e f h i j:Value}(H:Bl w g T [a,b,c,d,e,f,h,i,j]):(w.cell? ⟨g,0,none⟩=some a∧w.cell? ⟨g,1,none⟩=some b∧w.cell? ⟨g,2,none⟩=some c)∧(w.cell? ⟨g,3,none⟩=some d∧w.cell? ⟨g,4,none⟩=some e∧w.cell? ⟨g,5,none⟩=some f∧w.cell? ⟨g,6,none⟩=some h∧w.cell? ⟨g,7,none⟩=some i∧w.cell? ⟨g,8,none⟩=some j) :=
 ⟨⟨H.cell 0 _ rfl,H.cell 1 _ rfl,H.cell 2 _ rfl⟩,H.cell 3 _ rfl,H.cell 4 _ rfl,H.cell 5 _ rfl,H.cell 6 _ rfl,H.cell 7 _ rfl,H.cell 8 _ rfl⟩
theorem La.st3T {w:World}{g gq:Nat}{o p:Option (Bool×Nat×Int)}{s:Sp}(h:La w g o s) (hq:Lo w gq p) (hne:g≠gq) (x y z:Value):La (st3 w gq x y z) g o s:=by
 obtain ⟨a,c,h1,h2⟩:=h;obtain ⟨_,_,k1,_⟩:=hq;exact ⟨a,c,Bl.but h1 (st3_but12 gq w x y z) hne,h2.off12 k1 _ _ _⟩
theorem Lt.st3T {w:World}{g gq k:Nat}{o p:Option (Bool×Nat×Int)}(h:Lt w g k o) (hq:Lo w gq p) (hne:g≠gq) (x y z:Value):Lt (st3 w gq x y z) g k o:=by
 obtain ⟨a,c,h1,h2⟩:=h;obtain ⟨_,_,k1,_⟩:=hq;exact ⟨a,c,Bl.but h1 (st3_but12 gq w x y z) hne,h2.off12 k1 _ _ _⟩
theorem addW0 (W:World):Below W.heap.size W (W.alloc (Obj.cells #[.bool false,.slice none 0 0,.int .i64 0] 41)).drew:=(below_alloc W (Obj.cells #[.bool false,.slice none 0 0,.int .i64 0] 41)).trans (((Below.refl (W.alloc (Obj.cells #[.bool false,.slice none 0 0,.int .i64 0] 41)).heap.size (W.alloc (Obj.cells #[.bool false,.slice none 0 0,.int .i64 0] 41))).drew).mono (by simp))
theorem addZ {W w3:World}(hb:Below (W.alloc (Obj.cells #[.bool false,.slice none 0 0,.int .i64 0] 41)).drew.heap.size (W.alloc (Obj.cells #[.bool false,.slice none 0 0,.int .i64 0] 41)).drew w3):Lo w3 W.heap.size o00∧Below W.heap.size W w3:=by
 have h1:Lo (W.alloc (Obj.cells #[.bool false,.slice none 0 0,.int .i64 0] 41)).drew W.heap.size o00:=(Lo.zero W).below (Below.refl _ _).drew;have h2:Below W.heap.size W (W.alloc (Obj.cells #[.bool false,.slice none 0 0,.int .i64 0] 41)).drew:=addW0 W;exact ⟨h1.below hb,h2.trans (hb.mono h2.size)⟩
theorem addW (W:World):Below W.heap.size W (W.alloc (Obj.cells #[.bool false,.slice none 0 0,.int .i64 0] 41)).drew:=addW0 W
set_option maxRecDepth 100000 in
theorem rAdd7 (g:Nat) (V T:Int) (n u d m p a:Int) (k:Nat) (b:Option Addr) (cb:Nat) (w:World) (hA:La w g (exV V) ⟨n,u,d,m,p,a⟩) (hs:(Sp.mk n u d m p a).ok) (hk:k≤5) (ha:a≠1099511627776) (N:Nt 0 w (.slice b (ws (dX (exV T))).length cb) (dX (exV T))) (j:Nat) (hj:j=4238) (hV:V.natAbs<2^j) (hT:T.natAbs<2^j) (hVT:(V+T).natAbs<2^j) :
 Calls Tryz.prog 73 #[.pointer (some ⟨g,0,none⟩),.agg #[.int .i64 (k:Nat),.bool (dN (exV T)),.slice b (ws (dX (exV T))).length cb,.int .i64 (dE (exV T))]] w fun r w'=>r=.returned (.int .i64 0)∧La w' g (exV (V+T)) ((Sp.mk n u d m p a).cnt (kOf k) 1)∧But g w w':=by
 have FV:=ex_fm V j (by omega) hV
 have FT:=ex_fm T j (by omega) hT
 have FS:=ex_fm (V+T) j (by omega) hVT
 have EA:=add_ex j (by omega) hV hT
 obtain ⟨gr1,gr2,gr3,gr4⟩:=ex_great (V:=V+T) j hj hVT;have HC:=hid (fun w':World=>rcounted7 n u d m p a k hk hs w')
 obtain ⟨ov,hov⟩:∃ o,o=exV V:=⟨_,rfl⟩;obtain ⟨ot,hot⟩:∃ o,o=exV T:=⟨_,rfl⟩;obtain ⟨os,hos⟩:∃ o,o=exV (V+T):=⟨_,rfl⟩;rw [←hov] at FV EA hA;rw [←hot] at FT EA N ⊢;rw [←hos] at FS EA gr1 gr2 gr3 gr4 ⊢;obtain ⟨⟨n1,u1,d1,m1,p1,a1⟩,hs1⟩:∃ s,s=(Sp.mk n u d m p a).cnt (kOf k) 1:=⟨_,rfl⟩;rw [←hs1] at HC ⊢;unfold Sp.agg at HC;simp only at HC;have FF:=qsd (ai FV (ai FT (ai FS EA)));have GG:=qsd (ai gr1 (ai gr2 (ai gr3 gr4)));have ha':(a==1099511627776)=false:=by simpa using ha
 have glt:=hA.lt;obtain ⟨W,hW⟩:∃ W,W=w.alloc (Obj.cells #[.int .i64 (k:Nat),.bool (dN ot),.slice b (ws (dX ot)).length cb,.int .i64 (dE ot)] 95):=⟨_,rfl⟩;obtain ⟨g3,hg3⟩:∃ x,x=w.heap.size:=⟨_,rfl⟩
 have K0:Aside (La W g ov ⟨n,u,d,m,p,a⟩∧Lt W g3 k ot∧Below w.heap.size w W∧g<g3):=by
  rw [hW,hg3];exact ⟨hA.below (below_alloc _ _),Lt.new N,below_alloc _ _,glt⟩
 have HW:=qsd hW;have HG:=qsd hg3;clear FV FT FS EA gr1 gr2 gr3 gr4 hov hot hos hs1 hA N ha hV hT hVT hj hW glt hs hg3;go_enter Tryz.func73,Tryz.ntmps73
 go_upto_region 1 with fail
 rw [←HW.out,←HG.out];clear HW;obtain ⟨aV,cV,BV,NV⟩:=K0.out.1;obtain ⟨aT,cT,BT,NT⟩:=K0.out.2.1;unfold laC at BV;obtain ⟨⟨v0,v1,v2⟩,v3,v4,v5,v6,v7,v8⟩:=BV.facts9;obtain ⟨t0,t1,t2,t3⟩:=BT.four;have PB:Hid (∀ U:World,Below W.heap.size W U→Calls Tryz.prog 50 #[.agg #[.bool (dN ov),.slice aV (ws (dX ov)).length cV,.int .i64 (dE ov)],.agg #[.bool (dN ot),.slice aT (ws (dX ot)).length cT,.int .i64 (dE ot)]] U fun r w'=>(∃ v,r=.returned (.tuple #[.agg #[.bool (dN os),v,.int .i64 (dE os)],.int .i64 0])∧Nt U.heap.size w' v (dX os))∧Below U.heap.size U w'):=fun U hU=>radd12 FF.out.1 FF.out.2.1 (NV.below hU) (NT.below hU) FF.out.2.2.2 FF.out.2.2.1
 clear BV NV BT NT
 go_upto_region 3 with fail
 go_cut [5,6] from 13 to 22 (fun q e wx=>∃ gq:Nat,q=.pointer (some ⟨gq,0,none⟩)∧e=.int .i64 0∧Aside (Lo wx gq os∧La wx g ov ⟨n,u,d,m,p,a⟩∧Lt wx g3 k ot∧Below w.heap.size w wx∧g3<gq))
 case first =>
  have hgl:g<W.heap.size:=K0.out.1.lt;have hg3l:g3<W.heap.size:=by obtain ⟨_,_,h,_⟩:=K0.out.2.1;exact h.lt
  go_region_with (go_at_call 50;first
   | (refine (PB.out _ (Below.refl _ W).drew).mono ?_;rintro r w3 ⟨⟨v,rfl,hN⟩,hb3⟩;obtain ⟨a3,c3,rfl,hN0⟩:=Lo.shape FF.out.2.2.1 hN;have HQ:=qsd (ai hN0 ((Below.refl _ W).drew.trans hb3));clear hN hN0 hb3)
   | (refine (PB.out _ (addW W)).mono ?_;rintro r w3 ⟨⟨v,rfl,hN⟩,hb3⟩;obtain ⟨a3,c3,rfl,hN0⟩:=Lo.shape FF.out.2.2.1 hN;have HZ:=qsd (ai hN0 (addZ hb3));obtain ⟨zp,zq,DZ,MZ⟩:=HZ.out.2.1;obtain ⟨z0,z1,z2,zf0,zf1,zf2⟩:=DZ.facts;clear hN hN0 hb3 DZ MZ))
  all_goals
   go_wp2_with fail
   go_meet
   case rel =>
    first
     | exact ⟨w3.heap.size,rfl,rfl,Lo.new HQ.out.1,(K0.out.1.below HQ.out.2).below (below_alloc _ _),(K0.out.2.1.below HQ.out.2).below (below_alloc _ _),(K0.out.2.2.1.trans (HQ.out.2.mono K0.out.2.2.1.size)).trans ((below_alloc _ _).mono (Nat.le_trans K0.out.2.2.1.size HQ.out.2.size)),Nat.lt_of_lt_of_le hg3l HQ.out.2.size⟩
     | exact ⟨W.heap.size,rfl,rfl,HZ.out.2.1.set HZ.out.1,(K0.out.1.below HZ.out.2.2).st3T HZ.out.2.1 (by omega) _ _ _,(K0.out.2.1.below HZ.out.2.2).st3T HZ.out.2.1 (by omega) _ _ _,st3_bel12 (K0.out.2.2.1.trans (HZ.out.2.2.mono K0.out.2.2.1.size)) (Nat.le_trans K0.out.2.2.1.size HZ.out.2.2.size) K0.out.2.2.1.size _ _ _,hg3l⟩
 obtain ⟨gq,rfl,rfl,K1⟩:=hcut;obtain ⟨U,hU⟩:∃ U,U=wc:=⟨_,rfl⟩;rw [←hU] at K1 ⊢;clear hU v0 v1 v2 v3 v4 v5 v6 v7 v8 t0 t1 t2 t3 PB;obtain ⟨q0,r0,D0,M0⟩:=K1.out.1;obtain ⟨x0,x1,x2,xf0,xf1,xf2⟩:=D0.facts
 have HGr:Hid (Calls Tryz.prog 113 #[.agg #[.bool (dN os),.slice q0 (ws (dX os)).length r0,.int .i64 (dE os)]] U fun r w'=>r=.returned (.bool false)∧Below U.heap.size U w'):=by
  have:=rgreat7 (dN os) (dX os) (dE os) q0 r0 U (FF.out.2.2.1.a12 M0) GG.out.2.1 GG.out.2.2.1 GG.out.2.2.2;rw [GG.out.1] at this;exact this
 clear D0 M0
 go_wp2_with fail
 refine HGr.out.mono ?_;rintro r u2 ⟨rfl,hb⟩;have l0:=K1.out.1.below hb;have l1:=K1.out.2.1.below hb;have l2:=K1.out.2.2.1.below hb;have b2:=K1.out.2.2.2.1.trans (hb.mono K1.out.2.2.2.1.size);have hg3:=K1.out.2.2.2.2;obtain ⟨q0,r0,D0,M0⟩:=l0;obtain ⟨y0,y1,y2,yf0,yf1,yf2⟩:=D0.facts;obtain ⟨aV,cV,BV,NV⟩:=l1;unfold laC at BV;obtain ⟨⟨v0,v1,v2⟩,v3,v4,v5,v6,v7,v8⟩:=BV.facts9;have vf0:=BV.frozen 0;have vf1:=BV.frozen 1;have vf2:=BV.frozen 2;obtain ⟨U2,hU2⟩:∃ U2,U2=st3 u2 g (.bool (dN os)) (.slice q0 (ws (dX os)).length r0) (.int .i64 (dE os)):=⟨_,rfl⟩
 have K2:Aside (Bl U2 g 63 (laC os q0 r0 ⟨n,u,d,m,p,a⟩)∧Nt 0 U2 (.slice q0 (ws (dX os)).length r0) (dX os)∧Lt U2 g3 k ot∧But g w U2∧g<g3∧w.heap.size≤U2.heap.size):=by
  rw [hU2];refine ⟨((BV.set 0 _).set 1 _).set 2 _,M0.offA BV (by decide) (st3_but12 _ _ _ _ _),?_,((But.refl g w).of_bel b2).trans (st3_but12 _ _ _ _ _),K0.out.2.2.2,Nat.le_trans b2.size (by simp [st3,World.setCell])⟩
  obtain ⟨aT,cT,BT,NT⟩:=l2;exact ⟨aT,cT,Bl.but BT (st3_but12 _ _ _ _ _) (by have:=K0.out.2.2.2;omega),NT.offA BV (by decide) (st3_but12 _ _ _ _ _)⟩
 unfold st3 at hU2;have HU:=qsd hU2;clear D0 M0 BV NV l2 b2 hb hU2 HGr x0 x1 x2 xf0 xf1 xf2 K1
 go_upto_region 7 with fail
 rw [←HU.out];clear HU v0 v1 v2 v3 v4 v5 v6 v7 v8 vf0 vf1 vf2 y0 y1 y2 yf0 yf1 yf2;obtain ⟨v3,v4,v5,v6,v7,v8⟩:=(show Bl U2 g 63 [_,_,_,_,_,_,_,_,_] from K2.out.1).facts9.2
 obtain ⟨aT,cT,BT,NT⟩:=K2.out.2.2.1;have t0:=BT.cell 0 _ rfl;have HB:Hid (Bl U2 g 63 [.bool (dN os),.slice q0 (ws (dX os)).length r0,.int .i64 (dE os),.int .i64 n,.int .i64 u,.int .i64 d,.int .i64 m,.int .i64 p,.int .i64 a]):=K2.out.1;have hlt:g<U2.heap.size:=HB.out.lt;clear BT NT
 go_region_with (go_at_call 114;refine (HC.out _).mono ?_;rintro r w3 ⟨rfl,hb3⟩;have HQ:=qsd (Bl.below (w:=U2.drew) HB.out hb3 hlt);have q3:=HQ.out.cell 3 _ rfl;have q4:=HQ.out.cell 4 _ rfl;have q5:=HQ.out.cell 5 _ rfl;have q6:=HQ.out.cell 6 _ rfl;have q7:=HQ.out.cell 7 _ rfl;have q8:=HQ.out.cell 8 _ rfl;have f3:=HQ.out.frozen 3;have f4:=HQ.out.frozen 4;have f5:=HQ.out.frozen 5;have f6:=HQ.out.frozen 6;have f7:=HQ.out.frozen 7;have f8:=HQ.out.frozen 8;have HB3:=qsd hb3;clear hb3)
 all_goals
  go_wp2;go_ret;have hbd:Below U2.heap.size U2 w3:=(Below.refl _ U2).drew.trans HB3.out;refine ⟨rfl,⟨q0,r0,((((((HQ.out.set 3 _).set 4 _).set 5 _).set 6 _).set 7 _).set 8 _),?_⟩,?_⟩
  · exact (K2.out.2.1.below hbd).offA HQ.out (by decide) ((((((But.refl g w3).set 3 _).set 4 _).set 5 _).set 6 _).set 7 _ |>.set 8 _)
  · exact K2.out.2.2.2.1.trans (((But.refl g U2).of_bel hbd).trans ((((((But.refl g w3).set 3 _).set 4 _).set 5 _).set 6 _).set 7 _ |>.set 8 _))
end
end Go.Proofs.YtjldfhecnaiinaaGreatDoor
