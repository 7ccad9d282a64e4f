import Derived.Test.YtjldfhecnaiinabGreatDoorF10x
import Derived.Test.YtjldfhecnaiinabGreatDoorD24x
import Derived.BigQuiet
import Derived.Test.YtjldfhecnaiinabGreatDoorM1x
import Derived.Test.YtjldfhecnaiinabGreatDoorBIeeex
import Derived.Test.YtjldfhecnaiinabGreatDoorW14x
import Derived.Test.YtjldfhecnaiinabGreatDoorS11ax
import Derived.OwnWalk
import Derived.ArgAppend
import Derived.Maps.AppendAt
import Derived.WalkMore
import Derived.ProofKit
import Derived.OpenShut
import Derived.ChangeOld
import Derived.ChangeArms
import Derived.SizedLaws
import Derived.Laws.Cover2
set_option linter.unusedVariables false
set_option linter.unusedSimpArgs false
set_option maxHeartbeats 16000000
set_option maxRecDepth 20000
namespace Go.Proofs.YtjldfhecnaiinabGreatDoor
namespace J
end J
section
open Go.RowKit J
def sPl (x:Nat):Int:=sK (negW x) (magW x)
theorem wd_own (x:Nat) (hx:x<18446744073709551616):wd64 (negW x) (magW x)=x:=by
 unfold wd64 negW magW
 by_cases h:9223372036854775808≤x <;> simp [h] <;> omega
theorem lt13 {x y:Nat}(hx:x<18446744073709551616) (hy:y<18446744073709551616) (fx:finW x) (fy:finW y):(FloatKind.f64.format.order x y==some .lt)=decide (sPl x<sPl y):=by
 have h:=lt64 (negW x) (negW y) (magW x) (magW y) (Nat.le_of_lt fx) (Nat.le_of_lt fy);rw [wd_own x hx,wd_own y hy] at h;exact h
theorem gt13 {x y:Nat}(hx:x<18446744073709551616) (hy:y<18446744073709551616) (fx:finW x) (fy:finW y):(FloatKind.f64.format.order x y==some .gt)=decide (sPl y<sPl x):=by
 have h:=gt64 (negW x) (negW y) (magW x) (magW y) (Nat.le_of_lt fx) (Nat.le_of_lt fy);rw [wd_own x hx,wd_own y hy] at h;exact h
theorem eq13 {x y:Nat}(hx:x<18446744073709551616) (hy:y<18446744073709551616) (fx:finW x) (fy:finW y):(FloatKind.f64.format.order x y==some .eq)=decide (sPl x=sPl y):=by
 have h:=eq64 (negW x) (negW y) (magW x) (magW y) (Nat.le_of_lt fx) (Nat.le_of_lt fy);rw [wd_own x hx,wd_own y hy] at h;exact h
theorem le13 {x y:Nat}(hx:x<18446744073709551616) (hy:y<18446744073709551616) (fx:finW x) (fy:finW y) (h:sPl x≤sPl y):(FloatKind.f64.format.order x y==some .lt || FloatKind.f64.format.order x y==some .eq)=true:=by
 rw [lt13 hx hy fx fy,eq13 hx hy fx fy];simp;omega
theorem order13 {x y:Nat}(hx:x<18446744073709551616) (hy:y<18446744073709551616) (fx:finW x) (fy:finW y) :
 (FloatKind.f64.format.order x y=some .lt∧sPl x<sPl y)∨(FloatKind.f64.format.order x y=some .gt∧sPl y<sPl x)∨(FloatKind.f64.format.order x y=some .eq∧sPl x=sPl y):=by
 have h1:=lt13 hx hy fx fy;have h2:=gt13 hx hy fx fy;have h3:=eq13 hx hy fx fy
 rcases Int.lt_trichotomy (sPl x) (sPl y) with q|q|q
 · exact .inl ⟨by rw [decide_eq_true q] at h1;simpa using h1,q⟩
 · exact .inr (.inr ⟨by rw [decide_eq_true q] at h3;simpa using h3,q⟩)
 · exact .inr (.inl ⟨by rw [decide_eq_true q] at h2;simpa using h2,q⟩)
theorem min13 (x y:Nat) (hx:x<18446744073709551616) (hy:y<18446744073709551616) (fx:finW x) (fy:finW y) :
 ∃ z,z<18446744073709551616∧finW z∧sPl z≤sPl x∧sPl z≤sPl y∧∀ (P:Program) (ts:Array TypeId) (t:TypeId) (w:World),(Builtin.min_ ts t #[.float .f64 x,.float .f64 y]).run P w=.ok (.float .f64 z) w:=by
 rcases order13 hx hy fx fy with ⟨h,q⟩|⟨h,q⟩|⟨h,q⟩
 · exact ⟨x,hx,fx,by omega,by omega,fun P ts t w=>by simp [Builtin.min_,Builtin.min2,h]⟩
 · exact ⟨y,hy,fy,by omega,by omega,fun P ts t w=>by simp [Builtin.min_,Builtin.min2,h]⟩
 · by_cases hn:(FloatKind.f64.decode x).neg=true
   · exact ⟨x,hx,fx,by omega,by omega,fun P ts t w=>by simp [Builtin.min_,Builtin.min2,h,hn]⟩
   · exact ⟨y,hy,fy,by omega,by omega,fun P ts t w=>by simp [Builtin.min_,Builtin.min2,h,hn]⟩
theorem max13 (x y:Nat) (hx:x<18446744073709551616) (hy:y<18446744073709551616) (fx:finW x) (fy:finW y) :
 ∃ z,z<18446744073709551616∧finW z∧sPl x≤sPl z∧sPl y≤sPl z∧∀ (P:Program) (ts:Array TypeId) (t:TypeId) (w:World),(Builtin.max_ ts t #[.float .f64 x,.float .f64 y]).run P w=.ok (.float .f64 z) w:=by
 rcases order13 hx hy fx fy with ⟨h,q⟩|⟨h,q⟩|⟨h,q⟩
 · exact ⟨y,hy,fy,by omega,by omega,fun P ts t w=>by simp [Builtin.max_,Builtin.max2,h]⟩
 · exact ⟨x,hx,fx,by omega,by omega,fun P ts t w=>by simp [Builtin.max_,Builtin.max2,h]⟩
 · by_cases hn:(FloatKind.f64.decode x).neg=true
   · exact ⟨y,hy,fy,by omega,by omega,fun P ts t w=>by simp [Builtin.max_,Builtin.max2,h,hn]⟩
   · exact ⟨x,hx,fx,by omega,by omega,fun P ts t w=>by simp [Builtin.max_,Builtin.max2,h,hn]⟩
theorem fv_mono {x y:Nat}(h:sPl x≤sPl y):fvW x≤fvW y:=by
 unfold sPl sK at h;unfold fvW B.sg
 cases h1:negW x <;> cases h2:negW y <;> simp only [h1,h2,Bool.false_eq_true,if_false,if_true] at h ⊢
 · have:=vK_le (show magW x≤magW y by omega);omega
 · have e1:magW x=0:=by omega
   have e2:magW y=0:=by omega
   rw [e1,e2,grid64.zero];omega
 · have:=Int.natCast_nonneg (vK (magW x));have:=Int.natCast_nonneg (vK (magW y));omega
 · have:=vK_le (show magW y≤magW x by omega);omega
theorem fS_le (c:Int):∀ {xs:List Nat},(∀ x ∈ xs,fvW x≤c)→fS xs≤c*xs.length
 | [],_=>by simp [fS]
 | x::xs,h=>by
   have h1:=h x List.mem_cons_self;have h2:=fS_le c (xs:=xs) fun z hz=>h z (List.mem_cons_of_mem _ hz)
   rw [fS_cons,List.length_cons,Int.natCast_add,Int.mul_add];omega
theorem fS_ge (c:Int):∀ {xs:List Nat},(∀ x ∈ xs,c≤fvW x)→c*xs.length≤fS xs
 | [],_=>by simp [fS]
 | x::xs,h=>by
   have h1:=h x List.mem_cons_self;have h2:=fS_ge c (xs:=xs) fun z hz=>h z (List.mem_cons_of_mem _ hz)
   rw [fS_cons,List.length_cons,Int.natCast_add,Int.mul_add];omega
theorem rK_at (mode:Int) (n:Bool) (L:Nat):rK mode n L true 0=L:=by unfold rK;rw [if_pos rfl]
theorem vK_pos {L:Nat}(h:0<L):0<vK L:=by have:=grid64.mono h;omega
theorem mean_between {xs:List Nat}(hW:W64 xs) (hf:∀ x ∈ xs,finW x) (hne:xs≠[]) (hl:xs.length≤65536) (s:Sp) (mode:Int) (hm0:0≤mode) (hm4:mode≤4) (lo hi:Nat) (flo:finW lo) (fhi:finW hi) (h1:∀ x ∈ xs,sPl lo≤sPl x) (h2:∀ x ∈ xs,sPl x≤sPl hi) :
 ∃ X,levR xs s mode=(X,0)∧X<18446744073709551616∧finW X∧sPl lo≤sPl X∧sPl X≤sPl hi:=by
 obtain ⟨j,hj⟩:∃ k:Nat,k=1074:=⟨_,rfl⟩;have hp:0<xs.length:=List.length_pos_iff.2 hne;have bl:=fS_ge (fvW lo) (xs:=xs) fun x hx=>fv_mono (h1 x hx)
 have bh:=fS_le (fvW hi) (xs:=xs) fun x hx=>fv_mono (h2 x hx)
 have cn:∀ L:Nat,((vK L*xs.length:Nat):Int)=(vK L:Int)*xs.length:=fun L=>Int.natCast_mul _ _
 have pn:∀ L:Nat,0≤(vK L:Int)*xs.length:=fun L=>by rw [←cn];exact Int.natCast_nonneg _
 have pp:∀ L:Nat,0<L→0<(vK L:Int)*xs.length:=fun L h=>by rw [←cn];exact Int.natCast_pos.2 (Nat.mul_pos (vK_pos h) hp)
 unfold fvW B.sg at bl bh
 by_cases h0:fS xs=0
 · have hV:vS xs=0:=by rw [vS_fS j hj hW hf,h0,Int.zero_mul]
   have e:levR xs s mode=(nt (snd s.n s.u s.d s.m s.p s.a) s.n s.u s.d s.m s.p s.a mode,0):=by unfold levR;rw [if_neg hne,if_pos hV]
   have z:∀ q,sPl q=0→sPl lo≤sPl q∧sPl q≤sPl hi:=by
    intro q hq;rw [hq];rw [h0] at bl bh;unfold sPl sK
    constructor
    · cases hn:negW lo
      · simp only [hn,Bool.false_eq_true,if_false] at bl ⊢
        rcases Nat.eq_zero_or_pos (magW lo) with q|q
        · omega
        · have:=pp _ q;omega
      · simp only [if_true];omega
    · cases hn:negW hi
      · simp only [Bool.false_eq_true,if_false];omega
      · simp only [hn,if_true,Int.neg_mul] at bh ⊢
        rcases Nat.eq_zero_or_pos (magW hi) with q|q
        · omega
        · have:=pp _ q;omega
   rcases nt_nought (snd s.n s.u s.d s.m s.p s.a) s.n s.u s.d s.m s.p s.a mode with q|q
   · exact ⟨0,by rw [e,q],by decide,by decide,z 0 (by decide)⟩
   · exact ⟨9223372036854775808,by rw [e,q],by decide,by decide,z _ (by decide)⟩
 · obtain ⟨K,t,m,hL,hR⟩:=mean_lies hW hf hne hl h0
   have ht:=mean_top mode (decide (fS xs<0)) hL 9218868437227405311 (by decide) (fun x hx=>by have:magW x<9218868437227405312:=hf x hx;omega)
   have up:∀ L:Nat,L<9218868437227405312→(fS xs).natAbs≤vK L*xs.length→rK mode (decide (fS xs<0)) K t m≤L:=fun L hL2 h=>by
    have:=rK_mono mode (decide (fS xs<0)) hL (lies_own L xs.length hL2 hL.pos) h;rwa [rK_at] at this
   have dn:∀ L:Nat,L<9218868437227405312→vK L*xs.length≤(fS xs).natAbs→L≤rK mode (decide (fS xs<0)) K t m:=fun L hL2 h=>by
    have:=rK_mono mode (decide (fS xs<0)) (lies_own L xs.length hL2 hL.pos) hL h;rwa [rK_at] at this
   rw [hR mode hm0 hm4 s];obtain ⟨r,hr⟩:∃ r,rK mode (decide (fS xs<0)) K t m=r:=⟨_,rfl⟩;rw [hr] at ht up dn ⊢;have eb:(if fS xs<0 then 9223372036854775808 else 0)=(if decide (fS xs<0) then 9223372036854775808 else 0):=by by_cases q:fS xs<0 <;> simp [q]
   rw [eb];obtain ⟨v1,v2,v3⟩:=fv_sum (r:=r) (b:=decide (fS xs<0)) (by omega)
   refine ⟨_,rfl,by split <;> omega,by show magW _<_;rw [v2];omega,?_⟩
   have es:sPl (r+(if decide (fS xs<0) then 9223372036854775808 else 0))=sK (decide (fS xs<0)) r:=by unfold sPl;rw [v2,v3]
   rw [es];unfold sPl sK;have ul:=dn (magW lo) flo;have ul2:=up (magW lo) flo;have uh:=up (magW hi) fhi;have uh2:=dn (magW hi) fhi;have c1:=cn (magW lo);have c2:=cn (magW hi);have q1:=pn (magW lo);have q2:=pn (magW hi)
   by_cases q:fS xs<0
   · rw [decide_eq_true q]
     simp only [if_true]
     constructor
     · cases hn:negW lo
       · simp only [hn,Bool.false_eq_true,if_false] at bl;omega
       · simp only [hn,if_true,Int.neg_mul] at bl ⊢
         have:=ul2 (by omega);omega
     · cases hn:negW hi
       · simp only [Bool.false_eq_true,if_false];omega
       · simp only [hn,if_true,Int.neg_mul] at bh ⊢
         have:=uh2 (by omega);omega
   · rw [decide_eq_false q]
     simp only [Bool.false_eq_true,if_false]
     constructor
     · cases hn:negW lo
       · simp only [hn,Bool.false_eq_true,if_false] at bl ⊢
         have:=ul (by omega);omega
       · simp only [if_true];omega
     · cases hn:negW hi
       · simp only [hn,Bool.false_eq_true,if_false] at bh ⊢
         have:=uh (by omega);omega
       · simp only [hn,if_true,Int.neg_mul] at bh;omega
theorem fS_rep (x:Nat):∀ k:Nat,fS (List.replicate k x)=fvW x*k
 | 0=>by simp [fS]
 | k+1=>by
   rw [List.replicate_succ,fS_cons,fS_rep x k,Int.natCast_add,Int.mul_add];omega
theorem cn_rep (j x k:Nat):Ps.cn j (List.replicate k x)=if kd x=j then k else 0:=by
 unfold Ps.cn;rw [List.countP_replicate]
 by_cases h:kd x=j <;> simp [h]
theorem mean_like {x k:Nat}{mode:Int}(hx:x<18446744073709551616) (fx:finW x) (hk:0<k) (hk2:k≤1000) (hm0:0≤mode) (hm4:mode≤4):meanR (List.replicate k x) mode 0 0=(x,0):=by
 have hW:W64 (List.replicate k x):=fun z hz=>by rw [List.eq_of_mem_replicate hz];exact hx
 have hf:∀ z ∈ List.replicate k x,finW z:=fun z hz=>by rw [List.eq_of_mem_replicate hz];exact fx
 have hll:(List.replicate k x).length=k:=List.length_replicate;have hne:List.replicate k x≠[]:=by intro h;rw [h] at hll;simp at hll;omega
 have hm:askE mode=0:=if_neg (by omega)
 rw [mean_fin hW hf (by omega) hm (by decide)]
 obtain ⟨j,hj⟩:∃ k:Nat,k=1074:=⟨_,rfl⟩;have hS:=fS_rep x k
 by_cases h0:magW x=0
 · have hV:vS (List.replicate k x)=0:=by
    rw [vS_fS j hj hW hf,hS];unfold fvW B.sg;rw [h0,grid64.zero];cases negW x <;> simp
   have hkd:kd x=if negW x then 1 else 2:=by rw [kd_mag x hx,if_neg (by omega),if_neg (by omega),if_pos h0]
   unfold levR;rw [if_neg hne,if_pos hV,sS_cn hW,cn_rep,cn_rep,cn_rep,cn_rep,cn_rep,hll,hkd]
   have hx2:x=if negW x then 9223372036854775808 else 0:=by
    unfold negW magW at *
    by_cases h:9223372036854775808≤x <;> simp [h] <;> omega
   have sd:snd 0 0 0 (k:Int) 0 k=true:=by unfold snd ct;simp;omega
   have sd2:snd 0 0 0 0 (k:Int) k=true:=by unfold snd ct;simp;omega
   cases hn:negW x
   · rw [hn] at hx2
     simp only [Bool.false_eq_true,if_false] at hx2 ⊢;have f5:(if 2=5 then k else 0)=0:=rfl
     have f3:(if 2=3 then k else 0)=0:=rfl
     have f4:(if 2=4 then k else 0)=0:=rfl
     have f1:(if 2=1 then k else 0)=0:=rfl
     rw [f5,f3,f4,f1,if_pos trivial,show ((0:Nat):Int)=0 from rfl,sd2,hx2]
     unfold nt;rw [if_neg (by decide),if_neg (by omega),if_neg (by omega),if_pos (by omega)]
   · rw [hn] at hx2
     simp only [if_true] at hx2 ⊢;have f5:(if 1=5 then k else 0)=0:=rfl
     have f3:(if 1=3 then k else 0)=0:=rfl
     have f4:(if 1=4 then k else 0)=0:=rfl
     have f2:(if 1=2 then k else 0)=0:=rfl
     rw [f5,f3,f4,f2,show ((0:Nat):Int)=0 from rfl,sd,hx2]
     unfold nt;rw [if_neg (by decide),if_neg (by omega),if_pos (by omega)]
 · have hvp:=vK_pos (Nat.pos_of_ne_zero h0)
   have hkp:0<(vK (magW x):Int)*k:=Int.mul_pos (by omega) (by omega)
   have ha:fS (List.replicate k x)≠0∧(fS (List.replicate k x)<0↔negW x=true)∧(fS (List.replicate k x)).natAbs=vK (magW x)*(List.replicate k x).length:=by
    have e:(fvW x*(k:Int)).natAbs=vK (magW x)*k:=by rw [Int.natAbs_mul,fv_abs,Int.natAbs_natCast]
    rw [hS,e,hll];unfold fvW B.sg
    cases hn:negW x
    · simp only [Bool.false_eq_true,if_false]
      refine ⟨by omega,?_,?_⟩
      · first | exact ⟨fun h=>by omega,fun h=>by cases h⟩ | (constructor <;> intro h <;> first | omega | exact h.elim)
      · first | rfl | trivial
    · simp only [if_true,Int.neg_mul]
      refine ⟨by omega,?_,?_⟩
      · first | exact ⟨fun h=>trivial,fun h=>by omega⟩ | (constructor <;> intro h <;> first | rfl | trivial | omega)
      · first | rfl | trivial
   obtain ⟨a1,a2,a3⟩:=ha;obtain ⟨K,t,m,hL,hR⟩:=mean_lies hW hf hne (by omega) a1
   rw [hR mode hm0 hm4,rK_own mode _ hL (magW x) fx a3];have e:=wd_own x hx;unfold wd64 at e
   by_cases q:negW x=true
   · rw [if_pos (a2.2 q)]
     rw [if_pos q] at e;rw [e]
   · rw [if_neg (fun h=>q (a2.1 h))]
     rw [if_neg q] at e;rw [e]
theorem mean_none {mode:Int}(hm:askE mode=0):meanR [] mode 0 0=(0,3):=by
 have e2:sfE 0 0 []=0:=by decide +kernel
 have e3:vd (snd (sS []).n (sS []).u (sS []).d (sS []).m (sS []).p (sS []).a&&may 0 0) (sS []).n (sS []).u (sS []).d 0 0=(0,false):=by decide +kernel
 have e4:Ps.fin []=[]:=rfl;unfold meanR;rw [hm,if_pos rfl,e2,if_pos rfl,e3,if_neg (by decide),e4]
 unfold levR;rw [if_pos rfl];rfl
end
section
open Go.RowKit J
attribute [local go_sem] st_float
theorem sub_odd_self {x:Nat}(hx:x<18446744073709551616) (h:¬ finW x):floatBits .sub .f64 x x=none:=by
 rcases Nat.lt_trichotomy 9218868437227405312 (magW x) with q|q|q
 · obtain ⟨s,t,hr⟩:=read_nanW x q
   show ((Ieee.double.read x).sum (Ieee.double.read x).opposite).map Ieee.double.write=none
   rw [hr];rfl
 · have hr:=read_infW x hx q.symm
   show ((Ieee.double.read x).sum (Ieee.double.read x).opposite).map Ieee.double.write=none
   rw [hr]
   cases negW x <;> rfl
 · exact absurd q h
theorem order_nan13 (z:Nat) (h:9218868437227405312<z%9223372036854775808):(FloatKind.f64.format.order z 0==some .eq)=false:=order_nanL z 0 h _
theorem finite13 (xs:List Nat) (a:Option Addr) (n c:Nat) (w:World) (hn:n=xs.length) (hF:Fs w.heap.size w a xs) (hW:W64 xs) (hl:n≤35184372088832) (t:Bool) (ht:t=true↔∀ x ∈ xs,finW x) :
 Calls Tryz.prog 14 #[.slice a n c] w fun r w'=>r=.returned (.bool t)∧Below w.heap.size w w':=by
 have HX:=(qsd (ai hn (ai hF (ai hW ht))));clear hn hF hW ht;go_enter Tryz.func14,Tryz.ntmps14;go_wp2
 go_loopg [3] n (fun gk i wr=>∃ k:Nat,gk+k=n∧i=.int .i64 (k:Nat)∧Aside (Below w.heap.size w wr∧∀ j,j<k→finW (xs.getD j 0)))
 case atStart=>exact ⟨0,by omega,by simp,Below.refl _ _,fun j hj=>absurd hj (by omega)⟩
 case round =>
  obtain ⟨k,hgk,rfl,HA⟩:=hrel
  by_cases hk:k<n
  · obtain ⟨b,off,rfl,hc⟩:=HX.out.2.1.at HA.out.1 k (by rw [←HX.out.1];exact hk)
    obtain ⟨x,hx⟩:∃ x,x=xs.getD k 0:=⟨_,rfl⟩;rw [←hx] at hc;have hx64:x<18446744073709551616:=by rw [hx];exact HX.out.2.2.1.get k
    have HXX:=qsd hx;clear hx;have hkb:k<4611686018427387904:=by omega
    have hd:decide ((k:Int)<n)=true:=by simp;omega
    have HB:=qsd (HA.out.1.trans ((Below.refl wr.heap.size wr).drew.mono HA.out.1.size))
    by_cases fx:finW x
    · have d:=fun W:World=>run_float_arith (P:=Tryz.prog) W .sub 22 .f64 x x 0 (sub_self_fin x hx64 fx)
      have h0:(FloatKind.f64.format.order 0 0==some .eq)=true:=by decide +kernel
      have h0':FloatKind.f64.format.order 0 0=some .eq:=by decide +kernel
      have Hf:=qsd fx;clear fx hx64
      go_upto_region 4 with fail
      go_region
      all_goals
       go_wp2
       go_roundg (gk-1)
       case measure=>omega
       case rel =>
        refine ⟨k+1,by omega,by first | rfl | simp,HB.out,fun j hj=>?_⟩
        by_cases e:j=k
        · subst e;rw [←HXX.out];exact Hf.out
        · exact HA.out.2 j (by omega)
    · obtain ⟨z,hz,d⟩:=run_float_none (P:=Tryz.prog) wr.drew .sub 22 x x (.inr (.inl rfl)) (sub_odd_self hx64 fx)
      have ho:=order_nan13 z hz.1;have ho2:(FloatKind.f64.format.order z 0 != some .eq)=true:=by simp only [bne,ho];rfl
      have ho':¬ FloatKind.f64.format.order z 0=some .eq:=by simpa using ho
      have HT:Aside (t=false):=by
       cases ht:t with
       | false=>rfl
       | true =>
         exfalso
         have:=HX.out.2.2.2.1 ht (xs.getD k 0) (by rw [List.getD_eq_getElem?_getD,List.getElem?_eq_getElem (show k<xs.length by rw [←HX.out.1];exact hk)];exact List.getElem_mem _)
         rw [←HXX.out] at this;exact fx this
      have HB2:=qsd (HB.out.trans ((Below.refl wr.drew.heap.size wr.drew).drew.mono HB.out.size));clear fx hx64 hz
      go_upto_region 4 with fail
      go_region
      all_goals
       go_wp2;go_ret;exact ⟨by rw [HT.out];rfl,HB2.out⟩
  · obtain rfl:n=k:=by omega
    have hd:decide ((n:Int)<n)=false:=by simp
    have HT:Aside (t=true):=by
     refine HX.out.2.2.2.2 fun x hx=>?_
     obtain ⟨j,hj,rfl⟩:=List.mem_iff_getElem.1 hx;have:=HA.out.2 j (by rw [HX.out.1];exact hj)
     rw [List.getD_eq_getElem?_getD,List.getElem?_eq_getElem hj] at this
     exact this
    go_wp2;go_ret;exact ⟨by rw [HT.out];rfl,HA.out.1⟩
end
section
open Go.RowKit J
attribute [local go_sem] st_float
def Fw10 (n:Nat):Value:=.float .f64 n
theorem Tryz.und_floats:Tryz.prog.underlying 24=some (.slice 22):=by kernel_rfl
theorem Tryz.info_f64:(Tryz.prog.info? 22).map (fun i=>(i.zero,i.size,i.bytes))=some (some (.float .f64 0),1,8):=by kernel_rfl
end
section
open Go.RowKit J
attribute [local go_sem] st_float
theorem wpList_append10 {w:World}{ops:Array Oper}{rest:List Oper}{o:Oper}{a:Act}{Q:Exit→Act→World→Prop}(hgd:o.guard=none) (s x:Operand) (t:TypeId)
 (ho:o.op=.call { callee:=.builtin .append,args:=#[s,x],argTypes:=#[t,t] }) (v u:Value) (hs:a.eval s=v) (hx:a.eval x=u) (v':Value) (w':World)
 (hrun:(Builtin.append_ #[t,t] o.type #[v,u]).run Tryz.prog w=.ok v' w') (h:wpList Tryz.prog ops Q rest (a.put o.dst v') w'):wpList Tryz.prog ops Q (o::rest) a w:=by
 refine wpList_plain hgd fun K hK=>?_
 unfold Oper.wp;simp [execOp,ho,resolve,invoke,builtin,hs,hx,hrun,Result.andThen];exact hK _ _ h
theorem append10 (lo:Nat) (v:Value) (K:List Nat) (x:Nat) (w:World) (hb:w.ownsRow lo 22 1 v K.length (K.map Fw10)) (hlo:lo≤w.heap.size) (hk:K.length≤1000000) :
 ∃ v' w',(Builtin.append_ #[24,24] 24 #[v,.slice (some ⟨w.heap.size,0,none⟩) 1 1]).run Tryz.prog (w.alloc (.cells #[.float .f64 x] 22))=.ok v' w'∧w'.ownsRow lo 22 1 v' (K++[x]).length ((K++[x]).map Fw10)∧Below lo w w'∧w.heap.size≤w'.heap.size:=by
 obtain ⟨i0,hi,hz0,hz1,hz2⟩:=info_parts Tryz.info_f64;obtain ⟨W,hW⟩:∃ W,W=w.alloc (.cells #[.float .f64 x] 22):=⟨_,rfl⟩;have hcx:W.cell? ⟨w.heap.size,0,none⟩=some (.float .f64 x):=by subst hW;unfold World.cell?;simp only [heap_alloc_new];rfl
 have hWb:W.ownsRow lo 22 1 v K.length (K.map Fw10):=by subst hW;exact World.ownsRow.alloc hb _
 have hWs:w.heap.size≤W.heap.size:=by subst hW;simp
 obtain ⟨v',w',r1,r2,r3,_,r5⟩:=run_append_own_at (P:=Tryz.prog) W lo 24 24 22 i0 (.float .f64 0) 1 8 Tryz.und_floats hi hz0 hz1 hz2 rfl (by decide) v K.length (K.map Fw10) hWb ⟨w.heap.size,0,none⟩ 1 1 [.float .f64 x] rfl (by
  intro j u hj
  match j,hj with
  | 0,hj=>simp at hj;subst hj;simpa [Addr.add] using hcx) (by intro u hu;simp at hu;subst hu;rfl) (by unfold maxLen;omega) (by omega) (by omega)
 rw [←hW];refine ⟨v',w',r1,?_,?_,?_⟩
 · rw [List.length_append,List.map_append];exact r2
 · have hlw:Below lo w W:=by subst hW;exact (Below.refl _ _).alloc hlo _
   refine ⟨r3.os.trans hlw.os,r3.tape.trans hlw.tape,r3.output.trans hlw.output,Nat.le_trans hlw.size r3.size,fun k hkl=>?_⟩
   rw [r3.block k (by omega) (fun e=>by
    rcases hWb.2 with ⟨e2,_⟩|⟨g,cap,cur,e2,hlo2,_⟩
    · rw [e2] at e;simp [Value.ownBlock] at e
    · rw [e2] at e;simp [Value.ownBlock] at e;omega)]
   exact hlw.block k hkl
 · exact Nat.le_trans hWs r3.size
theorem own_fs10 {w:World}{lo n:Nat}{v:Value}{xs:List Nat}(h:w.ownsRow lo 22 1 v n (xs.map Fw10)) (hn:n=xs.length):∃ a c,v=.slice a n c∧n≤c∧Fs w.heap.size w a xs:=by
 have h':=h
 rcases h.2 with ⟨rfl,hn0⟩|⟨g,cap,cur,rfl,hlo,hg,hn1,hm,hs,ht⟩
 · have e:xs=[]:=List.eq_nil_of_length_eq_zero (by rw [←hn];simpa using hn0)
   subst e;have:n=0:=by simpa using hn
   subst this;exact ⟨none,0,rfl,Nat.le_refl _,Fs.nil _ _ _⟩
 · refine ⟨some ⟨g,0,none⟩,cap,rfl,hn1,fun _=>⟨g,0,(Array.getElem?_eq_some_iff.1 hg).1,rfl,fun i hi=>?_⟩⟩
   have:=World.ownsRow.cellAt h' i (by omega)
   rw [Nat.zero_add,this,List.getElem?_map,List.getElem?_eq_getElem hi,List.getD_eq_getElem?_getD,List.getElem?_eq_getElem hi]
   rfl
end
section
open Go.ChangeShapes Go.WideShapes Go.ChangeAt Go.RowKit
theorem trodF {H:Type}{enc:TypeId×Value→H}{P:Program}{w:World}{base:Nat}{spare:Nat→Bool}{held:Bool}{fuel:Nat}{t:TypeId}{cs:List Value}{x:DataW H×List MemPlace}{k:FloatKind}(ht:P.underlying t=some (.float k)) (h:DataW.trod enc P w base spare held fuel t cs=some x):∃ n,cs=[.float k n]∧x=(.lit (.float k n),[])∧(Lit.float k n).wf=true:=by
 cases fuel with
 | zero=>simp [DataW.trod] at h
 | succ m =>
   simp only [DataW.trod,ht] at h
   split at h <;> simp_all
structure CameF (w:World) (a:Option Addr) (n c:Nat) (xs:List Nat):Prop where
 len:n=xs.length
 cap:n≤c
 wf:W64 xs
 rd:Fs w.heap.size w a xs
 nil:a=none→c=0
theorem add_noneF (b off i:Nat):(⟨b,off,none⟩:Addr).add i=⟨b,off+i,none⟩:=by unfold Addr.add;split <;> simp_all
def numF {H:Type} (y:DataW H×List MemPlace):Nat:=match y.1 with | .lit (.float _ n)=>n | _=>0
theorem Tryz.cellsF:Tryz.prog.cellsOf 22=1:=by kernel_rfl
theorem Tryz.bytesF:Tryz.prog.bytesOf 22=8:=by kernel_rfl
theorem cameF_of {H:Type}{enc:TypeId×Value→H}{W:World}{a:Option Addr}{n c:Nat}{d:DataW H}{p:List MemPlace}(h:DataW.Trod enc Tryz.prog W 0 (fun _=>true) true 24 (.slice a n c) d p) :
 ∃ xs,CameF W a n c xs∧((d=.nil∧c=0)∨∃ elems spare:List (DataW H),d=.slice elems spare∧elems.length+spare.length=c):=by
 obtain ⟨fuel,hf⟩:=h
 rcases DataW.trod_slice Tryz.underlying24 hf with ⟨hcs,hx⟩|⟨x,l,cp,elems,rest,m,_,hcs,hx,hb,hl,hm,hlen,hel,hsp,hns⟩
 · simp [Value.cells] at hcs
   obtain ⟨rfl,rfl,rfl⟩:=hcs;exact ⟨[],⟨rfl,Nat.le_refl _,(fun x hx=>by cases hx),(fun h=>absurd rfl h),fun _=>rfl⟩,.inl ⟨(Prod.mk.inj hx).1,rfl⟩⟩
 · simp [Value.cells] at hcs
   obtain ⟨rfl,rfl,rfl⟩:=hcs
   have each:∀ i y,i<n→elems[i]?=some y→y=(.lit (.float .f64 (numF y)),[])∧(Lit.float .f64 (numF y)).wf=true∧W.cell? (x.add i)=some (.float .f64 (numF y)):=by
    intro i y hi hy;have hb':=hel i hi;rw [hy,Tryz.cellsF,Nat.mul_one,Option.bind_eq_some_iff] at hb';obtain ⟨cs',hcs,hy'⟩:=hb';obtain ⟨k,rfl,rfl,hw⟩:=trodF Tryz.underlying22 hy';exact ⟨rfl,hw,cell_of_cells?_one hcs⟩
   refine ⟨elems.map numF,⟨by simp [hlen],hl,?_,?_,fun e=>by cases e⟩,.inr ⟨_,_,(Prod.mk.inj hx).1,?_⟩⟩
   · intro y hy
     obtain ⟨z,hz,rfl⟩:=List.mem_map.1 hy;obtain ⟨i,hi⟩:=List.getElem?_of_mem hz;have hil:=(List.getElem?_eq_some_iff.1 hi).1;have:=(each i z (by omega) hi).2.1
     exact of_decide_eq_true this
   · intro hne
     obtain ⟨b,off,spot⟩:=x
     have hn0:0<n:=by
      rcases Nat.eq_zero_or_pos n with h0|h0
      · rw [h0] at hlen;have:=List.eq_nil_of_length_eq_zero hlen;subst this;simp at hne
      · exact h0
     have hc0:=(each 0 (elems[0]'(by omega)) hn0 (List.getElem?_eq_getElem _)).2.2
     have hspot:spot=none:=by simpa [Addr.add] using World.cell?_spot hc0
     subst hspot;refine ⟨b,off,World.block_lt_of_cell? W _ (by simpa [Addr.add] using hc0),rfl,fun i hi=>?_⟩
     rw [List.length_map] at hi;have hadd:=add_noneF b off i;have:=(each i (elems[i]'hi) (by omega) (List.getElem?_eq_getElem _)).2.2
     rw [hadd] at this;rw [this];simp [List.getD_eq_getElem?_getD,hi]
   · have hr:=(hsp rfl).1
     simp only [List.length_map];omega
theorem cameF_reach {H:Type}{ts:List TypeId}{ds:List (DataW H)}(h:(DataW.weightsEach Tryz.prog ts ds).all (·≤reachBytes)=true) {j:Nat}{d:DataW H}{c n:Nat}(ht:ts[j]?=some 24) (hd:ds[j]?=some d) (hn:n≤c)
 (hc:(d=.nil∧c=0)∨∃ elems spare:List (DataW H),d=.slice elems spare∧elems.length+spare.length=c):n≤17592186043904:=by
 rcases hc with ⟨_,rfl⟩|⟨elems,spare,rfl,hl⟩
 · omega
 · have:=sized_slice h ht hd Tryz.underlying24
   rw [Tryz.bytesF,hl] at this;simp only [reachBytes] at this;omega
end
section
open Go.RowKit J
attribute [local go_sem] st_float
theorem rep_take (x k:Nat):List.replicate (k+1) x=List.replicate k x++[x]:=List.replicate_succ'
theorem walk2_MeanBounds (a:Option Addr) (n c:Nat) (xs:List Nat) (q mode:Int) (w:World) (hT:Tab w) (hC:CameF w a n c xs) (hm:n≤17592186043904) :
 Calls Tryz.prog 4 #[.slice a n c,.int .i64 q,.int .i64 mode] w fun r w'=>r=.returned (.bool true)∧Below w.heap.size w w':=by
 obtain ⟨hl1,_,hW1,hF1,_⟩:=hC;have up:∀ u:World,Below w.heap.size w u→Fs u.heap.size u a xs:=fun u hb=>(hF1.below hb).mono hb.size
 obtain ⟨t,ht⟩:∃ t:Bool,t=true↔∀ x ∈ xs,finW x:=by
  by_cases h:∀ x ∈ xs,finW x
  · exact ⟨true,⟨fun _=>h,fun _=>rfl⟩⟩
  · exact ⟨false,⟨fun q=>(by cases q),fun q=>absurd q h⟩⟩
 have HL:=hid (live13 w hT);have HF:=hid (fun (u:World) (hb:Below w.heap.size w u)=>finite13 xs a n c u hl1 (up u hb) hW1 (by omega) t ht)
 by_cases hgo:t=true∧n≠0∧n≤1000∧0≤mode∧mode≤4
 · obtain ⟨rfl,hn0,hn3,hm0,hm4⟩:=hgo
   have hf:=ht.1 rfl;have hne:xs≠[]:=by rintro rfl;simp at hl1;omega
   have hl6:xs.length≤65536:=by omega
   have hask:askE mode=0:=if_neg (by omega)
   have hgx:∀ k,k<n→xs.getD k 0 ∈ xs:=fun k hk=>by rw [List.getD_eq_getElem?_getD,List.getElem?_eq_getElem (show k<xs.length by omega)];exact List.getElem_mem _
   obtain ⟨X,hX⟩:∃ X,(levR xs (sS xs) mode).1=X:=⟨_,rfl⟩;have hlev:levR xs (sS xs) mode=(X,0):=Prod.ext hX (lev_ok hask hW1 hl6 hne);have hmr:meanR xs mode 0 0=(X,0):=by rw [mean_fin hW1 hf hl6 hask (by decide),hlev]
   have HM:=hid (fun (u:World) (hb:Below w.heap.size w u)=>Mean13 xs a n c mode 0 0 u hl1 (up u hb) hW1 (hT.belows hb) (by omega) _ hmr)
   obtain ⟨x0,hx0⟩:∃ x,x=xs.getD 0 0:=⟨_,rfl⟩;have hx64:x0<18446744073709551616:=by rw [hx0];exact hW1.get 0
   have fx0:finW x0:=by rw [hx0];exact hf _ (hgx 0 (by omega))
   obtain ⟨M,hM⟩:∃ M:Nat,M=(min q 100).toNat:=⟨_,rfl⟩
   have HM2:Hid (∀ (u:World) (ao:Option Addr) (co:Nat),Below w.heap.size w u→Fs u.heap.size u ao (List.replicate M x0)→Calls Tryz.prog 10 #[.slice ao M co,.int .i64 mode,.agg #[.int .i64 0,.int .i64 0]] u fun r w'=>r=.returned (.tuple #[.float .f64 (if M=0 then 0 else x0),.int .i64 (if M=0 then 3 else 0)])∧Below u.heap.size u w'):=by
    intro u ao co hb hF;have hW:W64 (List.replicate M x0):=fun z hz=>by rw [List.eq_of_mem_replicate hz];exact hx64
    have hr:meanR (List.replicate M x0) mode 0 0=(if M=0 then 0 else x0,if M=0 then 3 else 0):=by
     by_cases h0:M=0
     · rw [if_pos h0,if_pos h0,h0];exact mean_none hask
     · rw [if_neg h0,if_neg h0];exact mean_like hx64 fx0 (by omega) (by omega) hm0 hm4
    exact Mean13 (List.replicate M x0) ao M co mode 0 0 u List.length_replicate.symm hF hW (hT.belows hb) (by omega) _ hr
   have HB:=hid (fun (lo hi:Nat) (flo:finW lo) (fhi:finW hi) (h1:∀ x ∈ xs,sPl lo≤sPl x) (h2:∀ x ∈ xs,sPl x≤sPl hi)=>mean_between hW1 hf hne hl6 (sS xs) mode hm0 hm4 lo hi flo fhi h1 h2)
   have HX:=(qsd (ai hl1 (ai hW1 (ai hF1 (ai hf (ai hgx (ai hx0 (ai hx64 (ai fx0 (ai hM hlev))))))))));simp only at HM;have d0:((n:Int)==0)=false:=by rw [beq_eq_false_iff_ne];omega
   have d3:decide ((1000:Int)<(n:Nat))=false:=by simp;omega
   have d4:decide (mode<0)=false:=by simp;omega
   have d5:decide (4<mode)=false:=by simp;omega
   clear hl1 hW1 hF1 up ht hT hm hf hne hl6 hX hlev hmr hgx hx0 hx64 fx0 hM hask;go_enter Tryz.func4,Tryz.ntmps4
   go_wp2_with fail
   refine HL.out.mono ?_;rintro r u1 ⟨rfl,hb⟩;have B1:=qsd hb;clear hb HL
   go_wp2_with fail
   refine (HF.out _ B1.out).mono ?_;rintro r u2 ⟨rfl,hb⟩;have B2:=qsd (B1.out.trans (hb.mono B1.out.size));clear hb HF B1;obtain ⟨b,off,rfl,hc⟩:=HX.out.2.2.1.at B2.out 0 (by rw [←HX.out.1];omega)
   rw [←HX.out.2.2.2.2.2.1,Nat.add_zero] at hc;have hnp:0<n:=by omega
   go_wp2
   go_loopg [9,10,11] (n-1) (fun gk lv hv iv wr=>∃ k lo hi:Nat,gk+k=n∧1≤k∧iv=.int .i64 (k:Nat)∧lv=.float .f64 lo∧hv=.float .f64 hi∧Aside (Below w.heap.size w wr∧lo<18446744073709551616∧finW lo∧hi<18446744073709551616∧finW hi∧∀ j,j<k→sPl lo≤sPl (xs.getD j 0)∧sPl (xs.getD j 0)≤sPl hi))
   case atStart =>
    refine ⟨1,x0,x0,by omega,Nat.le_refl _,by simp,rfl,rfl,B2.out,HX.out.2.2.2.2.2.2.1,HX.out.2.2.2.2.2.2.2.1,HX.out.2.2.2.2.2.2.1,HX.out.2.2.2.2.2.2.2.1,fun j hj=>?_⟩
    obtain rfl:j=0:=by omega
    rw [←HX.out.2.2.2.2.2.1];exact ⟨Int.le_refl _,Int.le_refl _⟩
   case round =>
    obtain ⟨k,lo,hi,hgk,hk1,rfl,rfl,rfl,HA⟩:=hrel
    by_cases hk:k<n
    · clear HM HM2 HB hc
      obtain ⟨b',off',hab,hc⟩:=HX.out.2.2.1.at HA.out.1 k (by rw [←HX.out.1];exact hk)
      simp only [Option.some.injEq,Addr.mk.injEq,and_true] at hab;obtain ⟨rfl,rfl⟩:=hab;obtain ⟨z,hz⟩:∃ z,z=xs.getD k 0:=⟨_,rfl⟩;rw [←hz] at hc;have hz64:z<18446744073709551616:=by rw [hz];exact HX.out.2.1.get k
      have fz:finW z:=by rw [hz];exact HX.out.2.2.2.1 _ (HX.out.2.2.2.2.1 k hk)
      obtain ⟨lo',l1,l2,l3,l4,l5⟩:=min13 lo z HA.out.2.1 hz64 HA.out.2.2.1 fz;obtain ⟨hi',g1,g2,g3,g4,g5⟩:=max13 hi z HA.out.2.2.2.1 hz64 HA.out.2.2.2.2.1 fz;have hmin:=fun ts t w=>l5 Tryz.prog ts t w
      have hmax:=fun ts t w=>g5 Tryz.prog ts t w
      have HN:Aside (Below w.heap.size w wr∧lo'<18446744073709551616∧finW lo'∧hi'<18446744073709551616∧finW hi'∧∀ j,j<k+1→sPl lo'≤sPl (xs.getD j 0)∧sPl (xs.getD j 0)≤sPl hi'):=by
       refine ⟨HA.out.1,l1,l2,g1,g2,fun j hj=>?_⟩
       by_cases e:j=k
       · subst e;rw [←hz];exact ⟨l4,g4⟩
       · have:=HA.out.2.2.2.2.2 j (by omega);omega
      have hkb:k<4611686018427387904:=by omega
      have hd:decide ((k:Int)<n)=true:=by simp;omega
      clear hz hz64 fz l1 l2 l3 l4 l5 g1 g2 g3 g4 g5 HA;go_wp2
      go_roundg (gk-1)
      case measure=>omega
      case rel=>exact ⟨k+1,lo',hi',by omega,by omega,by first | rfl | simp,rfl,rfl,HN.out⟩
    · obtain rfl:n=k:=by
       have:k≤n:=by omega
       omega
      have hd:decide ((n:Int)<n)=false:=by simp
      obtain ⟨X',e1,e2,e3,e4,e5⟩:=HB.out lo hi HA.out.2.2.1 HA.out.2.2.2.2.1
       (fun x hx=>by
        obtain ⟨j,hj,rfl⟩:=List.mem_iff_getElem.1 hx;have:=(HA.out.2.2.2.2.2 j (by rw [HX.out.1];exact hj)).1
        rw [List.getD_eq_getElem?_getD,List.getElem?_eq_getElem hj] at this
        exact this)
       (fun x hx=>by
        obtain ⟨j,hj,rfl⟩:=List.mem_iff_getElem.1 hx;have:=(HA.out.2.2.2.2.2 j (by rw [HX.out.1];exact hj)).2
        rw [List.getD_eq_getElem?_getD,List.getElem?_eq_getElem hj] at this
        exact this)
      rw [HX.out.2.2.2.2.2.2.2.2.2] at e1;obtain ⟨rfl,_⟩:=Prod.mk.inj e1;have le1:=le13 HA.out.2.1 e2 HA.out.2.2.1 e3 e4;have le2:=le13 e2 HA.out.2.2.2.1 e3 HA.out.2.2.2.2.1 e5;have B3:=qsd HA.out.1;clear HB HA e1 e2 e3 e4 e5 B2
      go_wp2_with fail
      refine (HM.out _ B3.out).mono ?_;rintro r u3 ⟨rfl,hb⟩;have B4:=qsd (B3.out.trans (hb.mono B3.out.size));clear hb HM B3;go_wp2;have HMq:=qsd HX.out.2.2.2.2.2.2.2.2.1
      go_loopg [14,15] M (fun gk lv iv wr=>∃ (k:Nat) (v:Value),gk+k=M∧iv=.int .i64 (k:Nat)∧lv=v∧Aside (wr.ownsRow w.heap.size 22 1 v (List.replicate k x0).length ((List.replicate k x0).map Fw10)∧Below w.heap.size w wr))
      case atStart=>exact ⟨0,.slice none 0 0,by omega,by simp,rfl,World.ownsRow_nil _ _ _ _,B4.out⟩
      case round =>
       obtain ⟨k,v,hgk,rfl,hv,HA⟩:=hrel;have hv':=hv.symm;clear hv;subst hv'
       by_cases hk:k<M
       · clear HM2 le1 le2
         have e1:decide ((k:Int)<q)=true:=by have:=HMq.out;simp;omega
         have e2:decide ((k:Int)<100)=true:=by have:=HMq.out;simp;omega
         obtain ⟨b',off',hab,hc⟩:=HX.out.2.2.1.at HA.out.2 0 (by rw [←HX.out.1];omega)
         simp only [Option.some.injEq,Addr.mk.injEq,and_true] at hab;obtain ⟨rfl,rfl⟩:=hab;rw [←HX.out.2.2.2.2.2.1,Nat.add_zero] at hc;obtain ⟨v',w',r1,r2,r3,r4⟩:=append10 w.heap.size v (List.replicate k x0) x0 wr HA.out.1 HA.out.2.size (by rw [List.length_replicate];have:=HMq.out;omega)
         have HR:=qsd r1
         have HN:Aside (w'.ownsRow w.heap.size 22 1 v' (List.replicate (k+1) x0).length ((List.replicate (k+1) x0).map Fw10)∧Below w.heap.size w w'):=by
          rw [rep_take];exact ⟨r2,HA.out.2.trans r3⟩
         have hkb:k<4611686018427387904:=by have:=HMq.out;omega
         clear r1 r2 r3 r4 HA
         go_wp2_with (at_builtin;refine wpList_append10 rfl (.tmp 95) (.tmp 99) 24 rfl _ _ rfl rfl _ _ HR.out ?_)
         go_roundg (gk-1)
         case measure=>omega
         case rel=>exact ⟨k+1,_,by omega,by first | rfl | simp,rfl,HN.out⟩
       · obtain rfl:k=M:=by omega
         obtain ⟨ao,co,hv2,hc2,hF2⟩:=own_fs10 HA.out.1 rfl;rw [List.length_replicate] at hv2 hc2;subst hv2;have B5:Aside (Below w.heap.size w wr∧Fs wr.heap.size wr ao (List.replicate k x0)):=⟨HA.out.2,hF2⟩;have C2:=hid (HM2.out wr ao co HA.out.2 hF2);clear HA hF2 hc2 HM2 le1 le2 B4
         by_cases h0:k=0
         · have hq:q<1:=by have:=HMq.out;omega
           have e1:decide ((k:Int)<q)=false:=by simp;omega
           have e2:decide (q<1)=true:=by simp;omega
           have e3:decide (1≤q)=false:=by simp;omega
           rw [if_pos h0,if_pos h0] at C2;clear h0 hq hgk hk
           go_wp2_with fail
           refine C2.out.mono ?_;rintro r u4 ⟨rfl,hb⟩;have B6:=qsd (B5.out.1.trans (hb.mono B5.out.1.size));clear hb C2 B5;go_wp2;go_ret;exact ⟨rfl,B6.out⟩
         · rw [if_neg h0,if_neg h0] at C2
           have e1:decide (q<1)=false:=by have:=HMq.out;simp;omega
           have e2:decide (1≤q)=true:=by have:=HMq.out;simp;omega
           have fin9:∀ (u4:World),Below w.heap.size w u4→(u4.cell? { block:=b,off:=off }=some (.float .f64 x0)):=by
            intro u4 hb;obtain ⟨b',off',hab,hc⟩:=HX.out.2.2.1.at hb 0 (by rw [←HX.out.1];omega)
            simp only [Option.some.injEq,Addr.mk.injEq,and_true] at hab;obtain ⟨rfl,rfl⟩:=hab;rw [←HX.out.2.2.2.2.2.1,Nat.add_zero] at hc;exact hc
           have F9:=hid fin9;clear fin9 h0 hgk hk
           by_cases hkq:(k:Int)<q
           · have e3:decide ((k:Int)<q)=true:=by simp [hkq]
             have e4:decide ((k:Int)<100)=false:=by have:=HMq.out;simp;omega
             go_wp2_with fail
             refine C2.out.mono ?_;rintro r u4 ⟨rfl,hb⟩;have B6:=qsd (B5.out.1.trans (hb.mono B5.out.1.size));have hc:=F9.out u4 B6.out;clear hb C2 B5 F9;have C3:=hid (exact_law13 x0 x0 u4);rw [decide_eq_true rfl] at C3
             go_wp2_with (go_at_call 13;refine C3.out.mono ?_;rintro r u3 ⟨rfl,hu⟩;rw [hu];clear hu C3)
             go_ret;exact ⟨rfl,B6.out⟩
           · have e3:decide ((k:Int)<q)=false:=by simp;omega
             go_wp2_with fail
             refine C2.out.mono ?_;rintro r u4 ⟨rfl,hb⟩;have B6:=qsd (B5.out.1.trans (hb.mono B5.out.1.size));have hc:=F9.out u4 B6.out;clear hb C2 B5 F9;have C3:=hid (exact_law13 x0 x0 u4);rw [decide_eq_true rfl] at C3
             go_wp2_with (go_at_call 13;refine C3.out.mono ?_;rintro r u3 ⟨rfl,hu⟩;rw [hu];clear hu C3)
             go_ret;exact ⟨rfl,B6.out⟩
 · have HX:=qsd hgo
   clear hl1 hW1 hF1 up ht hT hgo;go_enter Tryz.func4,Tryz.ntmps4
   go_wp2_with fail
   refine HL.out.mono ?_;rintro r u1 ⟨rfl,hb⟩;have B1:=qsd hb;clear hb HL
   go_wp2_with fail
   refine (HF.out _ B1.out).mono ?_;rintro r u2 ⟨rfl,hb⟩;have B2:=qsd (B1.out.trans (hb.mono B1.out.size));clear hb HF B1
   cases t with
   | false =>
     go_wp2;go_ret;exact ⟨rfl,B2.out⟩
   | true =>
     by_cases hn0:n=0
     · have d0:((n:Int)==0)=true:=by simp [hn0]
       clear HX;go_wp2;go_ret;exact ⟨rfl,B2.out⟩
     · have d0:((n:Int)==0)=false:=by rw [beq_eq_false_iff_ne];omega
       by_cases hn3:n≤1000
       · have d3:decide ((1000:Int)<(n:Nat))=false:=by simp;omega
         by_cases hm0:mode<0
         · have d4:decide (mode<0)=true:=by simp [hm0]
           clear HX;go_wp2;go_ret;exact ⟨rfl,B2.out⟩
         · have d4:decide (mode<0)=false:=by simp;omega
           have d5:decide (4<mode)=true:=by
            have:¬ mode≤4:=fun h=>HX.out ⟨rfl,hn0,hn3,by omega,h⟩
            simp;omega
           clear HX;go_wp2;go_ret;exact ⟨rfl,B2.out⟩
       · have d3:decide ((1000:Int)<(n:Nat))=true:=by simp;omega
         clear HX;go_wp2;go_ret;exact ⟨rfl,B2.out⟩
end
end Go.Proofs.YtjldfhecnaiinabGreatDoor
