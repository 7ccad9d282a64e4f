import Derived.Test.YtblkpkgebigojaaGreatDoorF7x
import Derived.Test.YtblkpkgebigojaaGreatDoorZ9x
import Derived.Test.YtblkpkgebigojaaGreatDoorD21x
import Derived.Test.YtblkpkgebigojaaGreatDoorD16x
import Derived.Test.YtblkpkgebigojaaGreatDoorD30x
import Derived.Deep.Cut
import Derived.Deep.RegionHeld3
import Derived.Deep.RegionWith
import Derived.Deep.CutRange
import Derived.Test.YtblkpkgebigojaaGreatDoorW24x
import Derived.BigQuiet
import Derived.Test.YtblkpkgebigojaaGreatDoorD8x
import Derived.Test.YtblkpkgebigojaaGreatDoorBIeeex
import Derived.Deep.RegionHeld
import Derived.Deep.LoopGhost
import Derived.Test.YtblkpkgebigojaaGreatDoorM1x
import Derived.ProofKit
import Derived.OpenShut
import Derived.ChangeOld
import Derived.ChangeArms
import Derived.SizedLaws
import Derived.Laws.Cover2
import Derived.OwnWalk
set_option linter.unusedVariables false
set_option linter.unusedSimpArgs false
set_option maxHeartbeats 16000000
set_option maxRecDepth 20000
namespace Go.Proofs.YtblkpkgebigojaaGreatDoor
namespace J
end J
section
open Go.RowKit J
theorem vS_fold13:∀ (xs:List Nat) (v:Int),xs.foldl (fun v x=>v+pT x 4607182418800017408) v=v+vS xs
 | [],v=>by simp [vS]
 | x::xs,v=>by
   unfold vS;rw [List.foldl_cons,List.foldl_cons,vS_fold13 xs (v+_),vS_fold13 xs (0+_)];omega
theorem vS_cons (x:Nat) (xs:List Nat):vS (x::xs)=pT x 4607182418800017408+vS xs:=by
 have:=vS_fold13 xs (0+pT x 4607182418800017408);unfold vS at this ⊢;rw [List.foldl_cons,this];omega
theorem fin_id {xs:List Nat}(h:W64 xs) (hf:∀ x ∈ xs,finW x):Ps.fin xs=xs:=List.filter_eq_self.2 fun x hx=>by simpa using (pK_one13 (h x hx)).2.2 (hf x hx)
theorem fin_count:∀ {xs:List Nat},((Ps.fin xs).length:Int)=(xs.length:Int)-(Ps.cn 5 xs:Nat)-(Ps.cn 3 xs:Nat)-(Ps.cn 4 xs:Nat)
 | []=>rfl
 | x::xs=>by
   have ih:=fin_count (xs:=xs);have hk:=kd5 x;unfold Ps.fin Ps.cn at ih ⊢;simp only [List.countP_cons,List.length_cons,List.filter_cons];obtain q|q|q|q|q|q:kd x=0∨kd x=1∨kd x=2∨kd x=3∨kd x=4∨kd x=5:=by omega
   all_goals (rw [q];simp;omega)
theorem ask_ok {mode:Int}(h:askE mode=0):0≤mode∧mode≤4:=by
 unfold askE at h
 by_cases h1:mode<0∨4<mode
 · rw [if_pos h1] at h;exact absurd h (by decide)
 · omega
theorem qn_ok {V:Int}{N:Nat}{mode:Int}(hm:askE mode=0) (hV:V≠0) (k:Nat) (hk:k=4238) (hb:V.natAbs<2^k) (hN:0<N) (hN2:N≤65536):(qnR V N mode).2=0:=by
 obtain ⟨j,hj⟩:∃ k:Nat,k=2148:=⟨_,rfl⟩;obtain ⟨j2,hj2,hb2⟩:=lenW_bd N hN2 j hj;obtain ⟨m0,m4⟩:=ask_ok hm;rw [qn_qv _ _ _ j hj];obtain ⟨K,t,m,_,hR⟩:=quot_lies (V:=V) (W:=(N:Int)*((2^j:Nat):Int)) hV (by rw [←Int.natCast_mul];have:=Nat.mul_pos hN (Nat.two_pow_pos j);omega) k (by omega) hb (by rw [hk,←hj2];exact hb2)
 rw [hR mode m0 m4]
theorem lev_ok {xs:List Nat}{s:Sp}{mode:Int}(hm:askE mode=0) (hW:W64 xs) (hl:xs.length≤65536) (hne:xs≠[]):(levR xs s mode).2=0:=by
 by_cases hV:vS xs=0
 · unfold levR;rw [if_neg hne,if_pos hV]
 · obtain ⟨k,hk,hb⟩:=vS_bd hW hl
   unfold levR;rw [if_neg hne,if_neg hV];exact qn_ok hm hV k hk hb (List.length_pos_iff.2 hne) hl
theorem lev_bsd {xs:List Nat}{s:Sp}{mode:Int}(hm:askE mode=0) (hW:W64 xs) (hl:xs.length≤65536):bsd (levR xs s mode).2 (levR xs s mode).1=(levR xs s mode).1:=by
 by_cases h0:xs=[]
 · subst h0;unfold levR;rw [if_pos rfl];rfl
 · rw [lev_ok hm hW hl h0];rfl
theorem sS_small {xs:List Nat}(hW:W64 xs) (hl:xs.length≤65536):(0≤(sS xs).n∧(sS xs).n≤65536)∧(0≤(sS xs).u∧(sS xs).u≤65536)∧(0≤(sS xs).d∧(sS xs).d≤65536)∧(sS xs).a=xs.length∧(sS xs).a-(sS xs).n-(sS xs).u-(sS xs).d=(Ps.fin xs).length:=by
 rw [sS_cn hW];have h:=fun k=>List.countP_le_length (p:=fun x=>kd x==k) (l:=xs)
 have h5:=h 5;have h3:=h 3;have h4:=h 4;have hf:=fin_count (xs:=xs);unfold Ps.cn at *;refine ⟨⟨?_,?_⟩,⟨?_,?_⟩,⟨?_,?_⟩,rfl,?_⟩ <;> (simp only;omega)
theorem sS_fin {xs:List Nat}(hW:W64 xs) (hf:∀ x ∈ xs,finW x) (hl:xs.length≤65536):(sS xs).n=0∧(sS xs).u=0∧(sS xs).d=0:=by
 obtain ⟨b1,b2,b3,b4,b5⟩:=sS_small hW hl;rw [fin_id hW hf] at b5;omega
theorem plE_of_fin {xs:List Nat}(hW:W64 xs) (hf:∀ x ∈ xs,finW x) (hl:xs.length≤65536):plE xs=0:=by
 obtain ⟨h1,h2,h3⟩:=sS_fin hW hf hl;unfold plE;rw [if_neg (by omega),if_neg (by omega)]
def fS (xs:List Nat):Int:=xs.foldl (fun v x=>v+fvW x) 0
theorem fS_fold:∀ (xs:List Nat) (v:Int),xs.foldl (fun v x=>v+fvW x) v=v+fS xs
 | [],v=>by simp [fS]
 | x::xs,v=>by
   unfold fS;rw [List.foldl_cons,List.foldl_cons,fS_fold xs (v+_),fS_fold xs (0+_)];omega
theorem fS_cons (x:Nat) (xs:List Nat):fS (x::xs)=fvW x+fS xs:=by
 have:=fS_fold xs (0+fvW x);unfold fS at this ⊢;rw [List.foldl_cons,this];omega
theorem fv_one (k:Nat) (hk:k=1074):fvW 4607182418800017408=((2^k:Nat):Int):=by subst hk;decide +kernel
theorem vS_fS (k:Nat) (hk:k=1074):∀ {xs:List Nat},W64 xs→(∀ x ∈ xs,finW x)→vS xs=fS xs*((2^k:Nat):Int)
 | [],_,_=>by simp [vS,fS]
 | x::xs,h,hf=>by
   have hx:=h x List.mem_cons_self;have fx:=hf x List.mem_cons_self;have fo:finW 4607182418800017408:=by decide
   rw [vS_cons,fS_cons,(pT_mul hx (by decide) fx fo).1,fv_one k hk,vS_fS k hk (fun z hz=>h z (List.mem_cons_of_mem _ hz)) (fun z hz=>hf z (List.mem_cons_of_mem _ hz)),Int.add_mul]
theorem fv_abs (x:Nat):(fvW x).natAbs=vK (magW x):=by unfold fvW B.sg;cases negW x <;> simp
theorem lies_own (L S:Nat) (hL:L<9218868437227405312) (hS:0<S):Lies L true 0 (vK L*S) S:=⟨hL,hS,fun _=>rfl,fun h=>(by cases h),fun h=>(by cases h),fun h=>(by cases h)⟩
theorem mean_lies {xs:List Nat}(hW:W64 xs) (hf:∀ x ∈ xs,finW x) (hne:xs≠[]) (hl:xs.length≤65536) (hS:fS xs≠0) :
 ∃ K t m,Lies K t m (fS xs).natAbs xs.length∧∀ mode:Int,0≤mode→mode≤4→∀ s:Sp,levR xs s mode=(rK mode (decide (fS xs<0)) K t m+(if fS xs<0 then 9223372036854775808 else 0),0):=by
 obtain ⟨k,hk⟩:∃ k:Nat,k=2148:=⟨_,rfl⟩;obtain ⟨j,hj⟩:∃ k:Nat,k=1074:=⟨_,rfl⟩;have hV:=vS_fS j hj hW hf;have hpj:=Nat.two_pow_pos j;have hpk:=Nat.two_pow_pos k;have hp:0<xs.length:=List.length_pos_iff.2 hne;have hV0:vS xs≠0:=by rw [hV];intro h;rcases Int.mul_eq_zero.1 h with q | q;exact hS q;omega
 have hs:vS xs<0↔fS xs<0:=by
  rw [hV]
  constructor
  · intro h
    rcases Int.lt_or_le (fS xs) 0 with q|q
    · exact q
    · have:=Int.mul_nonneg q (Int.natCast_nonneg (2^j));omega
  · intro h;exact Int.mul_neg_of_neg_of_pos h (by omega)
 obtain ⟨i1,hi1,hb1⟩:=vS_bd hW hl;obtain ⟨i2,hi2,hb2⟩:=lenW_bd xs.length hl k hk;have hWp:0<(xs.length:Int)*((2^k:Nat):Int):=by rw [←Int.natCast_mul];have:=Nat.mul_pos hp hpk;omega
 obtain ⟨K,t,m,hL,hR⟩:=quot_lies hV0 hWp i1 (by omega) hb1 (by rw [hi1,←hi2];exact hb2)
 refine ⟨K,t,m,?_,fun mode hm0 hm4 s=>?_⟩
 · refine (hL j hj).ratio hp ?_
   rw [hV,←Int.natCast_mul,Int.natAbs_natCast,Int.natAbs_mul,Int.natAbs_natCast];have e:2^k=2^j*2^j:=by rw [←Nat.pow_add];congr 1;omega
   rw [e,Nat.mul_assoc (fS xs).natAbs,Nat.mul_assoc (fS xs).natAbs,Nat.mul_comm (2^j*2^j) xs.length]
 · unfold levR
   rw [if_neg hne,if_neg hV0,qn_qv _ _ _ k hk,hR mode hm0 hm4]
   by_cases q:fS xs<0
   · rw [if_pos q,if_pos (hs.2 q),decide_eq_true q,decide_eq_true (hs.2 q)]
   · rw [if_neg q,if_neg (fun h=>q (hs.1 h)),decide_eq_false q,decide_eq_false (fun h=>q (hs.1 h))]
theorem fv_sum {r:Nat}{b:Bool}(h:r<9223372036854775808):fvW (r+(if b then 9223372036854775808 else 0))=B.sg b (vK r)∧magW (r+(if b then 9223372036854775808 else 0))=r∧negW (r+(if b then 9223372036854775808 else 0))=b:=by
 have e1:magW (r+(if b then 9223372036854775808 else 0))=r:=by unfold magW;cases b <;> simp <;> omega
 have e2:negW (r+(if b then 9223372036854775808 else 0))=b:=by unfold negW;cases b <;> simp <;> omega
 exact ⟨by unfold fvW;rw [e1,e2],e1,e2⟩
theorem nt_nought (ok:Bool) (n u d m p a mode:Int):nt ok n u d m p a mode=0∨nt ok n u d m p a mode=9223372036854775808:=by
 unfold nt
 (repeat' split) <;> first | exact .inl rfl | exact .inr rfl
end
section
open Go.RowKit J
def Bd (m:Nat) (V:Int):Prop:=V.natAbs≤2^m
theorem Bd.lt {m:Nat}{V:Int}(h:Bd m V):V.natAbs<2^(m+1):=by
 unfold Bd at h;rw [Nat.pow_succ];have:=Nat.two_pow_pos m;omega
theorem Bd.mul {a b:Nat}{V W:Int}(h:Bd a V) (k:Bd b W):Bd (a+b) (V*W):=by
 unfold Bd at *;rw [Int.natAbs_mul,Nat.pow_add];exact Nat.mul_le_mul h k
theorem Bd.add {m:Nat}{V W:Int}(h:Bd m V) (k:Bd m W):Bd (m+1) (V+W):=by
 unfold Bd at *;rw [Nat.pow_succ];omega
def gV (u:Nat) (V:Int):Option (Bool×Nat×Int):=mkS (decide (V<0)) V.natAbs (-(u:Int))
theorem g_iv {u m:Nat}{V:Int}(hu:u≤100000) (hm:m≤99999) (hV:Bd m V):Iv (gV u V) (-(u:Int)) (((m+1:Nat):Int)-(u:Int)):=by
 unfold gV;refine mkS_iv _ _ _ _ _ (.inr ⟨by omega,?_⟩) (by omega) (by omega) (by omega)
 have:=bl_lt_pow hV.lt;omega
theorem g_fm {u m:Nat}{V:Int}(hu:u≤100000) (hm:m≤99999) (hV:Bd m V):Fm (gV u V):=(g_iv hu hm hV).fm
theorem val_g {u:Nat}{V:Int}(h:Fm (gV u V)) (hu:u≤1000000) (k:Nat) (hk:k+u=EK):valO (gV u V)=V*((2^k:Nat):Int):=by
 unfold gV at h ⊢;rw [val_mk h (by omega) k (by unfold EK at hk;omega),sg1_natAbs]
theorem exK (u:Nat) (hu:u≤1000000):∃ k,k+u=EK:=⟨EK-u,by unfold EK;omega⟩
theorem g_mul {u v a b:Nat}{V W:Int}(hu:u≤50000) (hv:v≤50000) (ha:a≤40000) (hb:b≤40000) (h1:Bd a V) (h2:Bd b W):mulD (gV u V) (gV v W)=gV (u+v) (V*W):=by
 have F:=g_iv (u:=u) (by omega) (by omega) h1
 have G:=g_iv (u:=v) (by omega) (by omega) h2
 have hF:=(F.mul G (by omega) (by omega) (by omega)).fm
 have hG:=g_fm (u:=u+v) (by omega) (by omega) (h1.mul h2)
 refine valO_inj hF hG ?_;obtain ⟨k1,e1⟩:=exK u (by omega)
 obtain ⟨k2,e2⟩:=exK v (by omega)
 obtain ⟨k3,e3⟩:=exK (u+v) (by omega)
 have h:=val_mul F.fm G.fm hF;rw [val_g F.fm (by omega) k1 e1,val_g G.fm (by omega) k2 e2] at h
 rw [val_g hG (by omega) k3 e3]
 have hM:=M_pos;refine Int.eq_of_mul_eq_mul_right (a:=(MM:Int)) (by omega) (h.trans ?_)
 have e:((2^k1:Nat):Int)*((2^k2:Nat):Int)=((2^k3:Nat):Int)*(MM:Int):=by
  rw [←Int.natCast_mul,←Int.natCast_mul,M_eq,←Nat.pow_add,←Nat.pow_add,show k1+k2=k3+EK by omega]
 rw [Int.mul_assoc (V*W),←e,Int.mul_assoc,Int.mul_assoc,Int.mul_left_comm W]
theorem g_add {u m:Nat}{V W:Int}(hu:u≤100000) (hm:m≤90000) (h1:Bd m V) (h2:Bd m W):addD (gV u V) (gV u W)=gV u (V+W):=by
 have F:=g_iv (u:=u) (by omega) (by omega) h1
 have G:=g_iv (u:=u) (by omega) (by omega) h2
 have hF:=(F.add G (by omega) (by omega) (by omega)).fm
 have hG:=g_fm (u:=u) (by omega) (by omega) (h1.add h2)
 refine valO_inj hF hG ?_;obtain ⟨k1,e1⟩:=exK u (by omega)
 rw [val_add F.fm G.fm hF,val_g F.fm (by omega) k1 e1,val_g G.fm (by omega) k1 e1,val_g hG (by omega) k1 e1,Int.add_mul]
theorem g_zero (u:Nat):gV u 0=o00:=mkS_zero _ _
theorem g_sign {u m:Nat}{V:Int}(hu:u≤100000) (hm:m≤90000) (h:Bd m V):(dX (gV u V)=0↔V=0)∧(dN (gV u V)=true↔V<0):=by
 have F:=g_fm (u:=u) hu (by omega) h
 obtain ⟨k,e⟩:=exK u (by omega)
 have hv:=F.val;rw [val_g F (by omega) k e] at hv
 have hp:(0:Int)<((2^k:Nat):Int):=by have:=Nat.two_pow_pos k;omega
 refine ⟨hv.zero_iff.trans ?_,hv.neg_iff.trans ?_⟩
 · constructor
   · intro q
     rcases Int.mul_eq_zero.1 q with q|q
     · exact q
     · omega
   · rintro rfl;rw [Int.zero_mul]
 · constructor
   · intro q
     rcases Int.lt_or_le V 0 with r|r
     · exact r
     · have:=Int.mul_nonneg r (Int.le_of_lt hp);omega
   · intro q;exact Int.mul_neg_of_neg_of_pos q hp
attribute [irreducible] Bd
end
section
open Go Go.RowKit J
theorem row14d:∃ d:TypeDesc,Tryz.prog.underlying 62=some d∧d.isRow=true:=by
 have h:(Tryz.prog.underlying 62).any (·.isRow)=true:=by kernel_rfl
 cases hd:Tryz.prog.underlying 62 with
 | none=>rw [hd] at h;cases h
 | some d=>rw [hd] at h;exact ⟨d,rfl,h⟩
theorem size14d:(Tryz.prog.info? 62).map (·.size)=some 3:=by kernel_rfl
theorem result14 {fn:Func}{p:Tmp}(h:fn.results=#[.cell p 62]) (tmps:Array Value) (W:World) (g:Nat) (n:Bool) (v:Value) (e:Int) (hp:tmps.getD p undef=.pointer (some ⟨g,0,none⟩)) (hD:Dk W g n v e) :
 (results fn tmps).run Tryz.prog W=.ok (.agg #[.bool n,v,.int .i64 e]) W:=by
 obtain ⟨d,h1,h2⟩:=row14d
 cases d <;> first
  | exact results_cell_row (P:=Tryz.prog) h tmps W g 62 _ _ _ hp hD h1 rfl (by rw [size14d];rfl)
  | exact absurd h2 (by simp [TypeDesc.isRow])
theorem end14 {fn:Func}{p:Tmp}(hfn:fn.results=#[.cell p 62]) {w base:World}{tmps:Array Value}{o q:Option (Bool×Nat×Int)}{a:Option Addr}{c g:Nat}(h2:tmps.getD p undef=.pointer (some ⟨g,0,none⟩))
 (hL:Lo base g q) (hbw:Below w.heap.size w base) (hg:w.heap.size≤g) (hN:Nt 0 base (.slice a (ws (dX o)).length c) (dX o)) :
 bodyPost Tryz.prog fn (fun r w'=>DVal 0 w' r o∧Below w.heap.size w w') .ret ⟨tmps,[]⟩
  (((base.setCell ⟨g,0,none⟩ (.bool (dN o))).setCell ⟨g,1,none⟩ (.slice a (ws (dX o)).length c)).setCell ⟨g,2,none⟩ (.int .i64 (dE o))):=by
 obtain ⟨a0,c0,hD,hM⟩:=hL;exact bodyPost_ret (v:=.agg #[.bool (dN o),.slice a (ws (dX o)).length c,.int .i64 (dE o)]) (result14 hfn _ _ g _ _ _ h2 (hD.set _ _ _)) rfl ⟨⟨_,rfl,hN.off12 hD _ _ _⟩,st3_bel12 hbw hbw.size hg _ _ _⟩
end
section
open Go.RowKit J
theorem calm16 {P:Program}{c:Code}{K:Act→World→Prop}{Q:Exit→Act→World→Prop}{a:Act}{w:World}(h:c.wp P (Exit.then K (fun _ _ _=>False)) a w):c.wp P (Exit.then K Q) a w :=
 wp_mono h (fun e a w h=>by cases e <;> first | exact h | exact False.elim h)
theorem times_core16 (x:Nat) (n:Int) (o p q:Option (Bool×Nat×Int)) (Fo:Fm o) (Fp:Fm p) (Fq:Fm q) (w:World) (hT:Tab w)
 (HO:Hid (∀ u:World,Tab u→Calls Tryz.prog 51 #[.float .f64 x] u fun r w'=>(∃ v,r=.returned (.tuple #[.agg #[.bool (dN o),v,.int .i64 (dE o)],.int .i64 0])∧Nt u.heap.size w' v (dX o))∧Below u.heap.size u w'))
 (HI:Hid (∀ u:World,Tab u→Calls Tryz.prog 74 #[.int .i64 n] u fun r w'=>(∃ v,r=.returned (.agg #[.bool (dN p),v,.int .i64 (dE p)])∧Nt u.heap.size w' v (dX p))∧Below u.heap.size u w'))
 (HM:Hid (∀ (u:World) (a b:Option Addr) (c d:Nat),Tab u→Nt 0 u (.slice a (ws (dX o)).length c) (dX o)→Nt 0 u (.slice b (ws (dX p)).length d) (dX p)→Calls Tryz.prog 89 #[.agg #[.bool (dN o),.slice a (ws (dX o)).length c,.int .i64 (dE o)],.agg #[.bool (dN p),.slice b (ws (dX p)).length d,.int .i64 (dE p)]] u fun r w'=>(∃ v,r=.returned (.tuple #[.agg #[.bool (dN q),v,.int .i64 (dE q)],.int .i64 0])∧Nt u.heap.size w' v (dX q))∧Below u.heap.size u w')) :
 Calls Tryz.prog 103 #[.float .f64 x,.int .i64 n] w fun r w'=>DVal 0 w' r q∧Below w.heap.size w w':=by
 have FF:=(qsd (ai Fo (ai Fp (ai Fq hT))));clear Fo Fp Fq hT;obtain ⟨W0,hW0⟩:∃ W,W=w.alloc (Obj.cells #[.bool false,.slice none 0 0,.int .i64 0] 62):=⟨_,rfl⟩
 have H0:Aside (Lo W0 w.heap.size o00∧Below w.heap.size w W0):=by
  subst hW0;exact ⟨Lo.zero w,below_alloc _ _⟩
 have HW:=qsd hW0;have C:=hid (HO.out W0 (FF.out.2.2.2.belows H0.out.2));clear hW0;go_enter Tryz.func103,Tryz.ntmps103
 go_upto_region 1 with fail
 rw [←HW.out];clear HW
 go_wp2_with fail
 refine C.out.mono ?_;rintro r v0 ⟨⟨s0,rfl,hN⟩,hb⟩;obtain ⟨a0,c0,rfl,hN0⟩:=Lo.shape FF.out.1 hN;obtain ⟨V,hV⟩:∃ V,V=v0.alloc (Obj.cells #[.bool (dN o),.slice a0 (ws (dX o)).length c0,.int .i64 (dE o)] 62):=⟨_,rfl⟩;obtain ⟨gd,hgd⟩:∃ g,g=v0.heap.size:=⟨_,rfl⟩
 have H1:Aside (Lo V w.heap.size o00∧Below w.heap.size w V∧Dk V gd (dN o) (.slice a0 (ws (dX o)).length c0) (dE o)∧Nt 0 V (.slice a0 (ws (dX o)).length c0) (dX o)):=by
  subst hV hgd;have hbv:=H0.out.2.trans (hb.mono H0.out.2.size);exact ⟨(H0.out.1.below hb).below (below_alloc _ _),hbv.trans ((below_alloc _ _).mono hbv.size),Dk.new _ _ _ _,hN0.below (below_alloc _ _)⟩
 have HV:=(qsd (ai hV hgd));clear C H0 hb hN hN0 hV hgd
 go_upto_region 2 with fail
 rw [←HV.out.1,←HV.out.2];clear HV
 go_cut [7,8] from 14 to 20 (fun pv ev wx=>∃ g7,pv=.pointer (some ⟨g7,0,none⟩)∧ev=.int .i64 0∧Aside (Lo wx g7 q∧Lo wx w.heap.size o00∧Below w.heap.size w wx))
 case first =>
  have hdr:=(Below.refl V.heap.size V).drew;have BB:=qsd (ai (H1.out.1.below hdr) (ai (H1.out.2.1.trans (hdr.mono H1.out.2.1.size)) (ai (H1.out.2.2.1.below hdr) (H1.out.2.2.2.below hdr))));clear hdr H1;obtain ⟨p0,p1,p2,f0,f1,f2⟩:=BB.out.2.2.1.facts;have hlt0:gd<V.heap.size:=BB.out.2.2.1.lt;have q0:V.cell? ⟨gd,0,none⟩=some (.bool (dN o)):=p0;have q1:V.cell? ⟨gd,1,none⟩=some (.slice a0 (ws (dX o)).length c0):=p1;have q2:V.cell? ⟨gd,2,none⟩=some (.int .i64 (dE o)):=p2;have hne0:gd≠V.heap.size:=by omega
  refine calm16 ?_
  go_region_with (first
   | (go_at_call 74
      first
      | (with_reducible refine (HI.out _ (FF.out.2.2.2.belows BB.out.2.1)).mono ?_
         rintro r v ⟨⟨p,rfl,hN⟩,hb⟩;obtain ⟨a2,c2,rfl,hN0⟩:=Lo.shape FF.out.2.1 hN;have BB:=qsd (ai (BB.out.1.below hb) (ai (BB.out.2.1.trans (hb.mono BB.out.2.1.size)) (ai (BB.out.2.2.1.below hb) (BB.out.2.2.2.below hb))));have Q2:=qsd hN0;obtain ⟨p0,p1,p2,f0,f1,f2⟩:=BB.out.2.2.1.facts;have hlt:=BB.out.2.2.1.lt;have hne:=Nat.ne_of_lt hlt;clear hb hN hN0)
      | (have G7l:=qsd BB.out.1.lt
         have BB:=qsd (ai (BB.out.1.below (below_alloc _ (Obj.cells #[.bool false,.slice none 0 0,.int .i64 0] 62))) (ai (BB.out.2.1.trans ((below_alloc _ (Obj.cells #[.bool false,.slice none 0 0,.int .i64 0] 62)).mono BB.out.2.1.size)) (ai (BB.out.2.2.1.below (below_alloc _ (Obj.cells #[.bool false,.slice none 0 0,.int .i64 0] 62))) (BB.out.2.2.2.below (below_alloc _ (Obj.cells #[.bool false,.slice none 0 0,.int .i64 0] 62))))));refine (HI.out _ (FF.out.2.2.2.belows BB.out.2.1)).mono ?_;rintro r v ⟨⟨p,rfl,hN⟩,hb⟩;obtain ⟨a2,c2,rfl,hN0⟩:=Lo.shape FF.out.2.1 hN;have G7:=qsd ((Lo.zero _).below hb);have BB:=qsd (ai (BB.out.1.below hb) (ai (BB.out.2.1.trans (hb.mono BB.out.2.1.size)) (ai (BB.out.2.2.1.below hb) (BB.out.2.2.2.below hb))));have Q2:=qsd hN0;obtain ⟨p0,p1,p2,f0,f1,f2⟩:=BB.out.2.2.1.facts;have hlt:=BB.out.2.2.1.lt;have hne:=Nat.ne_of_lt hlt;clear hb hN hN0))
   | (go_at_call 89
      first
      | (with_reducible refine (HM.out _ a0 a2 c0 c2 (FF.out.2.2.2.belows BB.out.2.1) BB.out.2.2.2 Q2.out).mono ?_
         rintro r v ⟨⟨p,rfl,hN⟩,hb⟩;obtain ⟨a3,c3,rfl,hN0⟩:=Lo.shape FF.out.2.2.1 hN
         try (have G7:=qsd (G7.out.below hb);obtain ⟨e1,e2,D7,e3⟩:=G7.out;obtain ⟨y0,y1,y2,z0,z1,z2⟩:=D7.facts;try dsimp only [World.drew] at y0 y1 y2 z0 z1 z2;clear D7 e3)
         have BB:=qsd (ai (BB.out.1.below hb) (ai (BB.out.2.1.trans (hb.mono BB.out.2.1.size)) hN0));clear hb hN hN0 p0 p1 p2 f0 f1 f2)
      | (have G7l:=qsd BB.out.1.lt
         have BB:=qsd (ai (BB.out.1.below (below_alloc _ (Obj.cells #[.bool false,.slice none 0 0,.int .i64 0] 62))) (ai (BB.out.2.1.trans ((below_alloc _ (Obj.cells #[.bool false,.slice none 0 0,.int .i64 0] 62)).mono BB.out.2.1.size)) (ai (BB.out.2.2.1.below (below_alloc _ (Obj.cells #[.bool false,.slice none 0 0,.int .i64 0] 62))) (BB.out.2.2.2.below (below_alloc _ (Obj.cells #[.bool false,.slice none 0 0,.int .i64 0] 62))))));have Q2:=qsd (Q2.out.below (below_alloc _ (Obj.cells #[.bool false,.slice none 0 0,.int .i64 0] 62)));refine (HM.out _ a0 a2 c0 c2 (FF.out.2.2.2.belows BB.out.2.1) BB.out.2.2.2 Q2.out).mono ?_;rintro r v ⟨⟨p,rfl,hN⟩,hb⟩;obtain ⟨a3,c3,rfl,hN0⟩:=Lo.shape FF.out.2.2.1 hN;have G7:=qsd ((Lo.zero _).below hb);obtain ⟨e1,e2,D7,e3⟩:=G7.out;obtain ⟨y0,y1,y2,z0,z1,z2⟩:=D7.facts
         try dsimp only [World.drew] at y0 y1 y2 z0 z1 z2
         clear D7 e3;have BB:=qsd (ai (BB.out.1.below hb) (ai (BB.out.2.1.trans (hb.mono BB.out.2.1.size)) hN0));clear hb hN hN0 p0 p1 p2 f0 f1 f2)))
  all_goals
   go_wp2_with fail
   go_meet
   case rel=>first
    | exact ⟨_,rfl,rfl,Lo.new BB.out.2.2,BB.out.1.below (below_alloc _ _),BB.out.2.1.trans ((below_alloc _ _).mono BB.out.2.1.size)⟩
    | exact ⟨_,rfl,rfl,G7.out.set BB.out.2.2,BB.out.1.other G7.out (Nat.ne_of_lt G7l.out) _ _ _,st3_bel12 BB.out.2.1 BB.out.2.1.size (Nat.le_of_lt G7l.out) _ _ _⟩
 clear H1;obtain ⟨g7,rfl,rfl,HA⟩:=hcut;obtain ⟨W2,hW⟩:∃ W,W=wc:=⟨_,rfl⟩;subst hW;obtain ⟨⟨a3,c3,D3,N3⟩,⟨a4,c4,D4,N4⟩,hb⟩:=HA.out;obtain ⟨p0,p1,p2,f0,f1,f2⟩:=D3.facts;obtain ⟨y0,y1,y2,z0,z1,z2⟩:=D4.facts;have HN:=(qsd (ai N3 hb));clear D3 N3 D4 N4 hb;go_wp2;exact end14 Tryz.results103 rfl HA.out.2.1 HN.out.2 (Nat.le_refl _) HN.out.1
end
section
open Go.ChangeShapes Go.WideShapes Go.ChangeAt Go.RowKit
theorem trodF {H:Type}{enc:TypeId×Value→H}{P:Program}{w:World}{base:Nat}{spare:Nat→Bool}{held:Bool}{fuel:Nat}{t:TypeId}{cs:List Value}{x:DataW H×List MemPlace}{k:FloatKind}(ht:P.underlying t=some (.float k)) (h:DataW.trod enc P w base spare held fuel t cs=some x):∃ n,cs=[.float k n]∧x=(.lit (.float k n),[])∧(Lit.float k n).wf=true:=by
 cases fuel with
 | zero=>simp [DataW.trod] at h
 | succ m =>
   simp only [DataW.trod,ht] at h
   split at h <;> simp_all
structure CameF (w:World) (a:Option Addr) (n c:Nat) (xs:List Nat):Prop where
 len:n=xs.length
 cap:n≤c
 wf:W64 xs
 rd:Fs w.heap.size w a xs
 nil:a=none→c=0
theorem add_noneF (b off i:Nat):(⟨b,off,none⟩:Addr).add i=⟨b,off+i,none⟩:=by unfold Addr.add;split <;> simp_all
def numF {H:Type} (y:DataW H×List MemPlace):Nat:=match y.1 with | .lit (.float _ n)=>n | _=>0
theorem Tryz.cellsF:Tryz.prog.cellsOf 26=1:=by kernel_rfl
theorem Tryz.bytesF:Tryz.prog.bytesOf 26=8:=by kernel_rfl
theorem cameF_of {H:Type}{enc:TypeId×Value→H}{W:World}{a:Option Addr}{n c:Nat}{d:DataW H}{p:List MemPlace}(h:DataW.Trod enc Tryz.prog W 0 (fun _=>true) true 22 (.slice a n c) d p) :
 ∃ xs,CameF W a n c xs∧((d=.nil∧c=0)∨∃ elems spare:List (DataW H),d=.slice elems spare∧elems.length+spare.length=c):=by
 obtain ⟨fuel,hf⟩:=h
 rcases DataW.trod_slice Tryz.underlying22 hf with ⟨hcs,hx⟩|⟨x,l,cp,elems,rest,m,_,hcs,hx,hb,hl,hm,hlen,hel,hsp,hns⟩
 · simp [Value.cells] at hcs
   obtain ⟨rfl,rfl,rfl⟩:=hcs;exact ⟨[],⟨rfl,Nat.le_refl _,(fun x hx=>by cases hx),(fun h=>absurd rfl h),fun _=>rfl⟩,.inl ⟨(Prod.mk.inj hx).1,rfl⟩⟩
 · simp [Value.cells] at hcs
   obtain ⟨rfl,rfl,rfl⟩:=hcs
   have each:∀ i y,i<n→elems[i]?=some y→y=(.lit (.float .f64 (numF y)),[])∧(Lit.float .f64 (numF y)).wf=true∧W.cell? (x.add i)=some (.float .f64 (numF y)):=by
    intro i y hi hy;have hb':=hel i hi;rw [hy,Tryz.cellsF,Nat.mul_one,Option.bind_eq_some_iff] at hb';obtain ⟨cs',hcs,hy'⟩:=hb';obtain ⟨k,rfl,rfl,hw⟩:=trodF Tryz.underlying26 hy';exact ⟨rfl,hw,cell_of_cells?_one hcs⟩
   refine ⟨elems.map numF,⟨by simp [hlen],hl,?_,?_,fun e=>by cases e⟩,.inr ⟨_,_,(Prod.mk.inj hx).1,?_⟩⟩
   · intro y hy
     obtain ⟨z,hz,rfl⟩:=List.mem_map.1 hy;obtain ⟨i,hi⟩:=List.getElem?_of_mem hz;have hil:=(List.getElem?_eq_some_iff.1 hi).1;have:=(each i z (by omega) hi).2.1
     exact of_decide_eq_true this
   · intro hne
     obtain ⟨b,off,spot⟩:=x
     have hn0:0<n:=by
      rcases Nat.eq_zero_or_pos n with h0|h0
      · rw [h0] at hlen;have:=List.eq_nil_of_length_eq_zero hlen;subst this;simp at hne
      · exact h0
     have hc0:=(each 0 (elems[0]'(by omega)) hn0 (List.getElem?_eq_getElem _)).2.2
     have hspot:spot=none:=by simpa [Addr.add] using World.cell?_spot hc0
     subst hspot;refine ⟨b,off,World.block_lt_of_cell? W _ (by simpa [Addr.add] using hc0),rfl,fun i hi=>?_⟩
     rw [List.length_map] at hi;have hadd:=add_noneF b off i;have:=(each i (elems[i]'hi) (by omega) (List.getElem?_eq_getElem _)).2.2
     rw [hadd] at this;rw [this];simp [List.getD_eq_getElem?_getD,hi]
   · have hr:=(hsp rfl).1
     simp only [List.length_map];omega
theorem cameF_reach {H:Type}{ts:List TypeId}{ds:List (DataW H)}(h:(DataW.weightsEach Tryz.prog ts ds).all (·≤reachBytes)=true) {j:Nat}{d:DataW H}{c n:Nat}(ht:ts[j]?=some 22) (hd:ds[j]?=some d) (hn:n≤c)
 (hc:(d=.nil∧c=0)∨∃ elems spare:List (DataW H),d=.slice elems spare∧elems.length+spare.length=c):n≤17592186043904:=by
 rcases hc with ⟨_,rfl⟩|⟨elems,spare,rfl,hl⟩
 · omega
 · have:=sized_slice h ht hd Tryz.underlying22
   rw [Tryz.bytesF,hl] at this;simp only [reachBytes] at this;omega
end
section
def sw (L:List Nat) (i j:Nat):List Nat:=(L.set i (L.getD j 0)).set j (L.getD i 0)
theorem sw_len (L:List Nat) (i j:Nat):(sw L i j).length=L.length:=by unfold sw;simp
theorem sw_get {L:List Nat}{i j:Nat}(hi:i<L.length) (hj:j<L.length) (k:Nat):(sw L i j).getD k 0=if k=j then L.getD i 0 else if k=i then L.getD j 0 else L.getD k 0:=by
 unfold sw;simp only [List.getD_eq_getElem?_getD,List.getElem?_set,List.length_set]
 by_cases h1:k=j
 · subst h1;simp [hj]
 · rw [if_neg (fun h=>h1 h.symm),if_neg h1]
   by_cases h2:k=i
   · subst h2;simp [hi]
   · rw [if_neg (fun h=>h2 h.symm),if_neg h2]
theorem sw_perm {L:List Nat}{i j:Nat}(hi:i<L.length) (hj:j<L.length):(sw L i j).Perm L:=by
 unfold sw;have e1:L.getD i 0=L[i]:=by rw [List.getD_eq_getElem?_getD,List.getElem?_eq_getElem hi];rfl
 have e2:L.getD j 0=L[j]:=by rw [List.getD_eq_getElem?_getD,List.getElem?_eq_getElem hj];rfl
 rw [e1,e2];exact List.set_set_perm hi hj
structure Pm (a b:Nat) (L L':List Nat):Prop where
 len:L'.length=L.length
 perm:L'.Perm L
 out:∀ k,k<a∨b≤k→L'.getD k 0=L.getD k 0
 inn:∀ k,a≤k→k<b→∃ j,a≤j∧j<b∧L'.getD k 0=L.getD j 0
theorem Pm.refl (a b:Nat) (L:List Nat):Pm a b L L:=⟨rfl,List.Perm.refl _,fun _ _=>rfl,fun k h1 h2=>⟨k,h1,h2,rfl⟩⟩
theorem Pm.trans {a b:Nat}{L M N:List Nat}(h:Pm a b L M) (g:Pm a b M N):Pm a b L N :=
 ⟨g.len.trans h.len,g.perm.trans h.perm,fun k hk=>(g.out k hk).trans (h.out k hk),fun k h1 h2=>by
  obtain ⟨j,j1,j2,j3⟩:=g.inn k h1 h2;obtain ⟨i,i1,i2,i3⟩:=h.inn j j1 j2;exact ⟨i,i1,i2,j3.trans i3⟩⟩
theorem Pm.mono {a b c d:Nat}{L M:List Nat}(h:Pm a b L M) (h1:c≤a) (h2:b≤d):Pm c d L M :=
 ⟨h.len,h.perm,fun k hk=>h.out k (by omega),fun k k1 k2=>by
  by_cases q:a≤k∧k<b
  · obtain ⟨j,j1,j2,j3⟩:=h.inn k q.1 q.2
    exact ⟨j,by omega,by omega,j3⟩
  · exact ⟨k,k1,k2,h.out k (by omega)⟩⟩
theorem Pm.swap {a b i j:Nat}{L:List Nat}(hb:b≤L.length) (i1:a≤i) (i2:i<b) (j1:a≤j) (j2:j<b):Pm a b L (sw L i j):=by
 refine ⟨sw_len _ _ _,sw_perm (by omega) (by omega),fun k hk=>?_,fun k k1 k2=>?_⟩
 · rw [sw_get (by omega) (by omega),if_neg (by omega),if_neg (by omega)]
 · rw [sw_get (by omega) (by omega)]
   by_cases h1:k=j
   · rw [if_pos h1];exact ⟨i,i1,i2,rfl⟩
   · rw [if_neg h1]
     by_cases h2:k=i
     · rw [if_pos h2];exact ⟨j,j1,j2,rfl⟩
     · rw [if_neg h2];exact ⟨k,k1,k2,rfl⟩
def ky (K:Nat→Nat) (L:List Nat) (k:Nat):Nat:=K (L.getD k 0)
def Up (K:Nat→Nat) (a b:Nat) (L:List Nat):Prop:=∀ i j,a≤i→i<j→j<b→ky K L i≤ky K L j
structure Ins (K:Nat→Nat) (a i j:Nat) (L:List Nat):Prop where
 aj:a≤j
 ji:j≤i
 up:∀ x y,a≤x→x<y→y≤i→x≠j→y≠j→ky K L x≤ky K L y
 hi:∀ y,j<y→y≤i→ky K L j≤ky K L y
theorem Ins.start {K:Nat→Nat}{a i:Nat}{L:List Nat}(h:Up K a i L) (ha:a≤i):Ins K a i i L :=
 ⟨ha,Nat.le_refl _,fun x y h1 h2 h3 h4 h5=>h x y h1 h2 (by omega),fun y h1 h2=>absurd h1 (by omega)⟩
theorem Ins.step {K:Nat→Nat}{a i j:Nat}{L:List Nat}(h:Ins K a i j L) (hl:i<L.length) (hj:a<j) (hlt:ky K L j<ky K L (j-1)):Ins K a i (j-1) (sw L j (j-1)):=by
 have:=h.ji
 have g:∀ k,ky K (sw L j (j-1)) k=if k=j-1 then ky K L j else if k=j then ky K L (j-1) else ky K L k:=fun k=>by
  unfold ky;rw [sw_get (by omega) (by omega)]
  split
  · rfl
  · split <;> rfl
 refine ⟨by omega,by omega,fun x y h1 h2 h3 h4 h5=>?_,fun y h1 h2=>?_⟩
 · rw [g,g,if_neg h4,if_neg h5]
   by_cases q1:x=j
   · rw [if_pos q1,if_neg (by omega)]
     exact h.up (j-1) y (by omega) (by omega) h3 (by omega) (by omega)
   · rw [if_neg q1]
     by_cases q2:y=j
     · rw [if_pos q2]
       exact h.up x (j-1) h1 (by omega) (by omega) q1 (by omega)
     · rw [if_neg q2];exact h.up x y h1 h2 h3 q1 q2
 · rw [g,g,if_pos rfl,if_neg (by omega)]
   by_cases q:y=j
   · rw [if_pos q];omega
   · rw [if_neg q];exact h.hi y (by omega) h2
theorem Ins.done {K:Nat→Nat}{a i j:Nat}{L:List Nat}(h:Ins K a i j L) (hs:j=a∨ky K L (j-1)≤ky K L j):Up K a (i+1) L:=by
 intro x y h1 h2 h3;have:=h.aj
 by_cases q1:x=j
 · rw [q1];exact h.hi y (by omega) (by omega)
 · by_cases q2:y=j
   · rw [q2]
     rcases hs with e|e
     · omega
     · by_cases q3:x=j-1
       · rw [q3];exact e
       · have:=h.up x (j-1) h1 (by omega) (by have:=h.ji;omega) q1 (by omega)
         omega
   · exact h.up x y h1 h2 (by omega) q1 q2
def Hp (K:Nat→Nat) (f lo hi:Nat) (L:List Nat):Prop:=∀ c,0<c→c<hi→lo≤(c-1)/2→ky K L (f+c)≤ky K L (f+(c-1)/2)
structure Sf (K:Nat→Nat) (f lo hi r:Nat) (L:List Nat):Prop where
 ge:lo≤r
 hp:∀ c,0<c→c<hi→lo≤(c-1)/2→(c-1)/2≠r→ky K L (f+c)≤ky K L (f+(c-1)/2)
 pr:0<r→lo≤(r-1)/2→∀ c,0<c→c<hi→(c-1)/2=r→ky K L (f+c)≤ky K L (f+(r-1)/2)
theorem Sf.start {K:Nat→Nat}{f lo hi:Nat}{L:List Nat}(h:Hp K f (lo+1) hi L):Sf K f lo hi lo L :=
 ⟨Nat.le_refl _,fun c h1 h2 h3 h4=>h c h1 h2 (by omega),fun h1 h2=>by omega⟩
theorem Sf.done {K:Nat→Nat}{f lo hi r:Nat}{L:List Nat}(h:Sf K f lo hi r L) (hs:∀ c,0<c→c<hi→(c-1)/2=r→ky K L (f+c)≤ky K L (f+r)):Hp K f lo hi L:=by
 intro c h1 h2 h3
 by_cases q:(c-1)/2=r
 · rw [q];exact hs c h1 h2 q
 · exact h.hp c h1 h2 h3 q
theorem Sf.step {K:Nat→Nat}{f lo hi r d:Nat}{L:List Nat}(h:Sf K f lo hi r L) (hl:f+hi≤L.length) (hd:d=2*r+1∨d=2*r+2) (hdh:d<hi) (hlt:ky K L (f+r)<ky K L (f+d)) (hmax:∀ c,0<c→c<hi→(c-1)/2=r→ky K L (f+c)≤ky K L (f+d)):Sf K f lo hi d (sw L (f+r) (f+d)):=by
 have g:∀ k,ky K (sw L (f+r) (f+d)) (f+k)=if k=d then ky K L (f+r) else if k=r then ky K L (f+d) else ky K L (f+k):=fun k=>by
  unfold ky;rw [sw_get (by omega) (by omega)]
  by_cases q:k=d
  · rw [if_pos (by omega),if_pos q]
  · rw [if_neg (by omega),if_neg q]
    by_cases q2:k=r
    · rw [if_pos (by omega),if_pos q2]
    · rw [if_neg (by omega),if_neg q2]
 have hge:=h.ge;refine ⟨by omega,fun c h1 h2 h3 h4=>?_,fun h1 h2 c c1 c2 c3=>?_⟩
 · rw [g,g,if_neg h4]
   by_cases q1:c=d
   · rw [if_pos q1,if_pos (by omega)];omega
   · rw [if_neg q1]
     by_cases q2:c=r
     · rw [if_pos q2,if_neg (by omega)]
       have:=h.pr (by omega) (by omega) d (by omega) hdh (by omega)
       rw [q2];exact this
     · rw [if_neg q2]
       by_cases q3:(c-1)/2=r
       · rw [if_pos q3];exact hmax c h1 h2 q3
       · rw [if_neg q3];exact h.hp c h1 h2 h3 q3
 · rw [g,g,if_neg (by omega),if_neg (by omega),if_neg (by omega),if_pos (by omega)]
   have:=h.hp c c1 c2 (by omega) (by omega)
   rw [c3] at this;exact this
theorem Hp.top {K:Nat→Nat}{f hi:Nat}{L:List Nat}(h:Hp K f 0 hi L):∀ c,c<hi→ky K L (f+c)≤ky K L f:=by
 intro c
 induction c using Nat.strongRecOn with
 | _ c ih =>
   intro hc
   by_cases q:c=0
   · rw [q];exact Nat.le_refl _
   · have h1:=h c (by omega) hc (Nat.zero_le _)
     have h2:=ih ((c-1)/2) (by omega) (by omega)
     omega
end
section
open Go.RowKit J
def Iw15 (n:Nat):Value:=.int .i64 (n:Nat)
def OwnI (w:World) (g:Nat) (L:List Nat):Prop:=w.heap[g]?=some (.cells (L.map Iw15).toArray 3 (0,0))
theorem OwnI.lt {w:World}{g:Nat}{L:List Nat}(h:OwnI w g L):g<w.heap.size:=(Array.getElem?_eq_some_iff.1 h).1
theorem OwnI.cell {w:World}{g:Nat}{L:List Nat}(h:OwnI w g L) (i:Nat) (hi:i<L.length):w.cell? ⟨g,i,none⟩=some (.int .i64 ((L.getD i 0:Nat):Int)):=by
 unfold OwnI at h;simp [World.cell?,h,Iw15,hi]
theorem OwnI.frozen {w:World}{g:Nat}{L:List Nat}(h:OwnI w g L) (i:Nat):w.frozen? ⟨g,i,none⟩=false:=by
 unfold OwnI at h;simp [World.frozen?,h]
theorem OwnI.set {w:World}{g:Nat}{L:List Nat}(h:OwnI w g L) (i x:Nat):OwnI (w.setCell ⟨g,i,none⟩ (.int .i64 (x:Nat))) g (L.set i x):=by
 unfold OwnI at h ⊢;simp only [World.setCell,Array.getElem?_modify,h];simp [Iw15,List.map_set]
theorem OwnI.below {w w':World}{g B:Nat}{L:List Nat}(h:OwnI w g L) (hb:Below B w w') (hg:g<B):OwnI w' g L:=by
 unfold OwnI at h ⊢;rw [hb.block g hg];exact h
theorem OwnI.sw {w:World}{g:Nat}{L:List Nat}(h:OwnI w g L) (i j:Nat):OwnI ((w.setCell ⟨g,i,none⟩ (.int .i64 (L.getD j 0:Nat))).setCell ⟨g,j,none⟩ (.int .i64 (L.getD i 0:Nat))) g (sw L i j):=(h.set i _).set j _
theorem But.of_bel15 {g:Nat}{a w w':World}(h:But g a w) (hb:Below w.heap.size w w'):But g a w':=h.trans ⟨hb.os,hb.tape,hb.output,hb.size,fun k hk _=>hb.block k hk⟩
def Cmp15 (K:Nat→Nat) (n g:Nat) (recv:Value) (w:World):Prop:=∀ (u:World) (x y:Nat),But g w u→x<n→y<n→∃ c:Int,(c<0↔K x<K y)∧Calls Tryz.prog 108 #[recv,.int .i64 (x:Nat),.int .i64 (y:Nat)] u fun r w'=>r=.returned (.int .i64 c)∧Below u.heap.size u w'
end
section
structure H2 (K:Nat→Nat) (f hi m:Nat) (L:List Nat):Prop where
 le:m≤hi
 hp:Hp K f 0 m L
 bt:∀ x y,x<m→m≤y→y<hi→ky K L (f+x)≤ky K L (f+y)
 up:Up K (f+m) (f+hi) L
theorem H2.start {K:Nat→Nat}{f hi:Nat}{L:List Nat}(h:Hp K f 0 hi L):H2 K f hi hi L :=
 ⟨Nat.le_refl _,h,fun x y h1 h2 h3=>by omega,fun i j h1 h2 h3=>by omega⟩
theorem ky_sw {K:Nat→Nat}{L:List Nat}{i j:Nat}(hi:i<L.length) (hj:j<L.length) (k:Nat):ky K (sw L i j) k=if k=j then ky K L i else if k=i then ky K L j else ky K L k:=by
 unfold ky;rw [sw_get hi hj]
 split
 · rfl
 · split <;> rfl
theorem H2.mid {K:Nat→Nat}{f hi m:Nat}{L:List Nat}(h:H2 K f hi (m+1) L) (hl:f+hi≤L.length):Hp K f 1 m (sw L f (f+m)):=by
 have:=h.le;intro c h1 h2 h3;rw [ky_sw (by omega) (by omega),ky_sw (by omega) (by omega),if_neg (by omega),if_neg (by omega),if_neg (by omega),if_neg (by omega)]
 exact h.hp c h1 (by omega) (Nat.zero_le _)
theorem H2.step {K:Nat→Nat}{f hi m:Nat}{L L':List Nat}(h:H2 K f hi (m+1) L) (hl:f+hi≤L.length) (hP:Pm f (f+m) (sw L f (f+m)) L') (hH:Hp K f 0 m L'):H2 K f hi m L':=by
 have hle:=h.le;have top:=h.hp.top;have e:∀ k,f+m≤k→ky K L' k=ky K (sw L f (f+m)) k:=fun k hk=>by unfold ky;rw [hP.out k (.inr hk)]
 have s:∀ k,ky K (sw L f (f+m)) k=if k=f+m then ky K L f else if k=f then ky K L (f+m) else ky K L k:=ky_sw (by omega) (by omega)
 have em:ky K L' (f+m)=ky K L f:=by rw [e _ (Nat.le_refl _),s,if_pos rfl]
 have eo:∀ k,f+m<k→ky K L' k=ky K L k:=fun k hk=>by rw [e _ (by omega),s,if_neg (by omega),if_neg (by omega)]
 have inn:∀ x,x<m→∃ j,j<m+1∧ky K L' (f+x)=ky K L (f+j):=fun x hx=>by
  obtain ⟨j,j1,j2,j3⟩:=hP.inn (f+x) (by omega) (by omega)
  have:ky K L' (f+x)=ky K (sw L f (f+m)) j:=by unfold ky;rw [j3]
  rw [this,s,if_neg (by omega)]
  by_cases q:j=f
  · rw [if_pos q];exact ⟨m,by omega,rfl⟩
  · rw [if_neg q];exact ⟨j-f,by omega,by rw [show f+(j-f)=j by omega]⟩
 refine ⟨by omega,hH,fun x y h1 h2 h3=>?_,fun i j h1 h2 h3=>?_⟩
 · obtain ⟨j,j1,j2⟩:=inn x h1
   rw [j2]
   by_cases q:y=m
   · rw [q,em];exact top j j1
   · rw [eo _ (by omega)];exact h.bt j y j1 (by omega) h3
 · rw [eo j (by omega)]
   by_cases q:i=f+m
   · rw [q,em]
     have:=h.bt 0 (j-f) (by omega) (by omega) (by omega)
     rw [show f+(j-f)=j by omega] at this
     exact this
   · rw [eo i (by omega)];exact h.up i j (by omega) h2 h3
theorem H2.done {K:Nat→Nat}{f hi:Nat}{L:List Nat}(h:H2 K f hi 0 L):Up K f (f+hi) L:=h.up
structure Pt (K:Nat→Nat) (a b i j:Nat) (p:Nat) (L:List Nat):Prop where
 ai:a<i
 jb:j<b
 ij:i≤j+1
 pv:ky K L a=p
 lo:∀ k,a<k→k<i→ky K L k<p
 hi:∀ k,j<k→k<b→p≤ky K L k
theorem Pt.start {K:Nat→Nat}{a b q:Nat}{L:List Nat}(hb:b≤L.length) (hab:a+1<b) (q1:a≤q) (q2:q<b):Pt K a b (a+1) (b-1) (ky K L q) (sw L a q):=by
 refine ⟨by omega,by omega,by omega,?_,fun k h1 h2=>by omega,fun k h1 h2=>by omega⟩
 rw [ky_sw (by omega) (by omega)]
 by_cases e:a=q
 · rw [if_pos e,e]
 · rw [if_neg e,if_pos rfl]
theorem Pt.right {K:Nat→Nat}{a b i j p:Nat}{L:List Nat}(h:Pt K a b i j p L) (hij:i≤j) (hlt:ky K L i<ky K L a):Pt K a b (i+1) j p L:=by
 have:=h.ai;refine ⟨by omega,h.jb,by omega,h.pv,fun k h1 h2=>?_,h.hi⟩
 by_cases e:k=i
 · rw [e,←h.pv];exact hlt
 · exact h.lo k h1 (by omega)
theorem Pt.left {K:Nat→Nat}{a b i j p:Nat}{L:List Nat}(h:Pt K a b i j p L) (hij:i≤j) (hge:ky K L a≤ky K L j):Pt K a b i (j-1) p L:=by
 have:=h.ai;have:=h.jb;refine ⟨h.ai,by omega,by omega,h.pv,h.lo,fun k h1 h2=>?_⟩
 by_cases e:k=j
 · rw [e,←h.pv];exact hge
 · exact h.hi k (by omega) h2
theorem Pt.swap {K:Nat→Nat}{a b i j p:Nat}{L:List Nat}(h:Pt K a b i j p L) (hb:b≤L.length) (hij:i≤j) (h1:ky K L a≤ky K L i) (h2:ky K L j<ky K L a):Pt K a b (i+1) (j-1) p (sw L i j):=by
 have a1:=h.ai;have a2:=h.jb;have hne:i≠j:=fun e=>by rw [e] at h1;omega
 have s:∀ k,ky K (sw L i j) k=if k=j then ky K L i else if k=i then ky K L j else ky K L k:=ky_sw (by omega) (by omega)
 have hp:=h.pv;refine ⟨by omega,by omega,by omega,?_,fun k k1 k2=>?_,fun k k1 k2=>?_⟩
 · rw [s,if_neg (by omega),if_neg (by omega)];exact hp
 · rw [s,if_neg (by omega)]
   by_cases e:k=i
   · rw [if_pos e,←hp];exact h2
   · rw [if_neg e];exact h.lo k k1 (by omega)
 · rw [s]
   by_cases e:k=j
   · rw [if_pos e,←hp];exact h1
   · rw [if_neg e,if_neg (by omega)];exact h.hi k (by omega) k2
structure Prt (K:Nat→Nat) (a b m:Nat) (L:List Nat):Prop where
 am:a≤m
 mb:m<b
 lo:∀ k,a≤k→k<m→ky K L k≤ky K L m
 hi:∀ k,m<k→k<b→ky K L m≤ky K L k
theorem Pt.done {K:Nat→Nat}{a b i j p:Nat}{L:List Nat}(h:Pt K a b i j p L) (hb:b≤L.length) (hij:j<i):Prt K a b j (sw L j a):=by
 have a1:=h.ai;have a2:=h.jb;have a3:=h.ij;have s:∀ k,ky K (sw L j a) k=if k=a then ky K L j else if k=j then ky K L a else ky K L k:=ky_sw (by omega) (by omega)
 have hm:ky K (sw L j a) j=p:=by
  rw [s]
  by_cases e:j=a
  · rw [if_pos e,e];exact h.pv
  · rw [if_neg e,if_pos rfl];exact h.pv
 refine ⟨by omega,by omega,fun k k1 k2=>?_,fun k k1 k2=>?_⟩
 · rw [hm,s]
   by_cases e:k=a
   · rw [if_pos e];exact Nat.le_of_lt (h.lo j (by omega) (by omega))
   · rw [if_neg e,if_neg (by omega)];exact Nat.le_of_lt (h.lo k (by omega) (by omega))
 · rw [hm,s,if_neg (by omega),if_neg (by omega)];exact h.hi k k1 k2
theorem Prt.left {K:Nat→Nat}{a b m:Nat}{L L':List Nat}(h:Prt K a b m L) (hP:Pm a m L L'):Prt K a b m L':=by
 have em:ky K L' m=ky K L m:=by unfold ky;rw [hP.out m (.inr (Nat.le_refl _))]
 refine ⟨h.am,h.mb,fun k k1 k2=>?_,fun k k1 k2=>?_⟩
 · obtain ⟨j,j1,j2,j3⟩:=hP.inn k k1 k2
   rw [em,show ky K L' k=ky K L j by unfold ky;rw [j3]]
   exact h.lo j j1 j2
 · rw [em,show ky K L' k=ky K L k by unfold ky;rw [hP.out k (.inr (by omega))]]
   exact h.hi k k1 k2
theorem Prt.right {K:Nat→Nat}{a b m:Nat}{L L':List Nat}(h:Prt K a b m L) (hP:Pm (m+1) b L L'):Prt K a b m L':=by
 have em:ky K L' m=ky K L m:=by unfold ky;rw [hP.out m (.inl (by omega))]
 refine ⟨h.am,h.mb,fun k k1 k2=>?_,fun k k1 k2=>?_⟩
 · rw [em,show ky K L' k=ky K L k by unfold ky;rw [hP.out k (.inl (by omega))]]
   exact h.lo k k1 k2
 · obtain ⟨j,j1,j2,j3⟩:=hP.inn k (by omega) k2
   rw [em,show ky K L' k=ky K L j by unfold ky;rw [j3]]
   exact h.hi j (by omega) j2
theorem Prt.up {K:Nat→Nat}{a b m:Nat}{L:List Nat}(h:Prt K a b m L) (h1:Up K a m L) (h2:Up K (m+1) b L):Up K a b L:=by
 intro i j hi hij hj
 by_cases q1:j<m
 · exact h1 i j hi hij q1
 · by_cases q2:m<i
   · exact h2 i j (by omega) hij hj
   · have e1:ky K L i≤ky K L m:=by
      by_cases q:i=m
      · rw [q];exact Nat.le_refl _
      · exact h.lo i hi (by omega)
     have e2:ky K L m≤ky K L j:=by
      by_cases q:j=m
      · rw [q];exact Nat.le_refl _
      · exact h.hi j (by omega) hj
     omega
theorem Up.out {K:Nat→Nat}{a b c d:Nat}{L L':List Nat}(h:Up K a b L) (hP:Pm c d L L') (hd:b≤c∨d≤a):Up K a b L':=by
 intro i j h1 h2 h3;rw [show ky K L' i=ky K L i by unfold ky;rw [hP.out i (by omega)],show ky K L' j=ky K L j by unfold ky;rw [hP.out j (by omega)]]
 exact h i j h1 h2 h3
def Fl (K:Nat→Nat) (a b:Nat) (L:List Nat):Prop:=0<a→∀ k,a≤k→k<b→ky K L (a-1)<ky K L k
theorem Fl.pm {K:Nat→Nat}{a b:Nat}{L L':List Nat}(h:Fl K a b L) (hP:Pm a b L L'):Fl K a b L':=by
 intro ha k k1 k2;obtain ⟨j,j1,j2,j3⟩:=hP.inn k k1 k2;rw [show ky K L' (a-1)=ky K L (a-1) by unfold ky;rw [hP.out (a-1) (.inl (by omega))],show ky K L' k=ky K L j by unfold ky;rw [j3]]
 exact h ha j j1 j2
theorem Fl.left {K:Nat→Nat}{a b m:Nat}{L:List Nat}(h:Fl K a b L) (hm:m≤b):Fl K a m L:=fun ha k k1 k2=>h ha k k1 (by omega)
theorem Prt.fl {K:Nat→Nat}{a b m:Nat}{L:List Nat}(h:Prt K a b m L) (hn:∀ i j,i<b→j<b→i≠j→ky K L i≠ky K L j):Fl K (m+1) b L:=fun _ k k1 k2=>by
 have h1:=h.hi k (by omega) k2
 have h2:=hn m k (by omega) k2 (by omega)
 rw [show m+1-1=m by omega]
 omega
end
section
open Go.RowKit J
theorem wrap15 {q:Nat}(h:q<4611686018427387904):IntKind.i64.wrap (q:Int)=(q:Int):=by
 simp [IntKind.wrap,IntKind.bits,IntKind.signed];omega
theorem lt_of_cell15 {u:World}{p:Addr}{v:Value}(h:u.cell? p=some v):p.block<u.heap.size:=by
 unfold World.cell? at h
 rcases Nat.lt_or_ge p.block u.heap.size with q|q
 · exact q
 · rw [Array.getElem?_eq_none q] at h;cases h
theorem insertion15 (K:Nat→Nat) (n g a b cap:Nat) (L:List Nat) (recv:Value) (w:World) (hO:OwnI w g L) (hL:∀ x ∈ L,x<n) (hab:a≤b) (hb:b≤L.length) (hbig:L.length<4611686018427387904) (hC:Cmp15 K n g recv w) :
 Calls Tryz.prog 192 #[.slice (some ⟨g,0,none⟩) L.length cap,.int .i64 (a:Nat),.int .i64 (b:Nat),.func (.func 108) #[recv] #[]] w fun r w'=>r=.returned (.tuple #[])∧∃ L',OwnI w' g L'∧Pm a b L L'∧Up K a b L'∧But g w w':=by
 obtain ⟨N,hN⟩:∃ N,N=L.length:=⟨_,rfl⟩;have HX:=(qsd (ai hN (ai hL hC)));have B0:Aside (∃ L',OwnI w g L'∧Pm a b L L'∧Up K a (a+1) L'∧But g w w):=⟨L,hO,Pm.refl _ _ _,fun i j h1 h2 h3=>by omega,But.refl _ _⟩
 rw [←hN] at hb hbig ⊢;have hab':a<4611686018427387904:=by omega
 have hbb:b<4611686018427387904:=by omega
 clear hN hL hC hO;go_enter Tryz.func192,Tryz.ntmps192;go_wp2
 go_loopg [8] (b-(a+1)) (fun gk iv wr=>∃ i:Nat,gk=b-i∧a+1≤i∧(i≤b∨i=a+1)∧iv=.int .i64 (i:Nat)∧Aside (∃ L',OwnI wr g L'∧Pm a b L L'∧Up K a i L'∧But g w wr))
 case atStart=>exact ⟨a+1,rfl,Nat.le_refl _,.inr rfl,by simp,B0.out⟩
 case round =>
  clear B0;obtain ⟨i,hgk,hai,hib,rfl,HA⟩:=hrel
  by_cases hi:i<b
  · have hd:decide ((i:Int)<(b:Nat))=true:=by simp;omega
    have J0:Aside (∃ L',OwnI wr g L'∧Pm a b L L'∧Ins K a i i L'∧But g w wr):=by
     obtain ⟨L',h1,h2,h3,h4⟩:=HA.out;exact ⟨L',h1,h2,Ins.start h3 (by omega),h4⟩
    clear HA;go_wp2
    go_loopg [9] i (fun gk jv wr=>∃ j:Nat,gk=j∧a≤j∧j≤i∧jv=.int .i64 (j:Nat)∧Aside (∃ L',OwnI wr g L'∧Pm a b L L'∧Ins K a i j L'∧But g w wr))
    case atStart=>exact ⟨i,rfl,by omega,Nat.le_refl _,by simp,J0.out⟩
    case round =>
     clear J0;obtain ⟨j,hgj,haj,hji,rfl,HA⟩:=hrel
     by_cases hj:a<j
     · have hd4:decide ((a:Int)<(j:Nat))=true:=by simp;omega
       go_upto_region 4 with fail
       go_cut [34] from 18 to 33 (fun v wx=>∃ c:Bool,v=.bool c∧Aside (∃ L',OwnI wx g L'∧Pm a b L L'∧Ins K a i j L'∧But g w wx∧(c=true↔ky K L' j<ky K L' (j-1))))
       case first =>
        obtain ⟨L',o1,o2,o3,o4⟩:=HA.out;have hlen:L'.length=N:=by rw [o2.len,←HX.out.1]
        have hjN:j<N:=by omega
        have hdr:=(Below.refl wr.heap.size wr).drew;have oD:=o1.below hdr o1.lt;have m1:L'.getD j 0<n:=HX.out.2.1 _ (o2.perm.mem_iff.1 (by rw [List.getD_eq_getElem?_getD,List.getElem?_eq_getElem (by omega)];exact List.getElem_mem _))
        have m2:L'.getD (j-1) 0<n:=HX.out.2.1 _ (o2.perm.mem_iff.1 (by rw [List.getD_eq_getElem?_getD,List.getElem?_eq_getElem (by omega)];exact List.getElem_mem _))
        have c1:=oD.cell j (by omega)
        have c2:=oD.cell (j-1) (by omega)
        obtain ⟨x,hx⟩:∃ x,x=L'.getD j 0:=⟨_,rfl⟩;obtain ⟨y,hy⟩:∃ y,y=L'.getD (j-1) 0:=⟨_,rfl⟩;rw [←hx] at c1 m1;rw [←hy] at c2 m2;have ej:((j:Int)-1)=((j-1:Nat):Int):=by omega
        have hj1:j-1<N:=by omega
        obtain ⟨c,hc,C0⟩:=HX.out.2.2 _ x y (o4.of_bel15 hdr) m1 m2;have C:=hid C0
        have HF:Aside (∀ v:World,Below wr.drew.heap.size wr.drew v→∃ L',OwnI v g L'∧Pm a b L L'∧Ins K a i j L'∧But g w v∧(decide (c<0)=true↔ky K L' j<ky K L' (j-1))):=fun v hv =>
         ⟨L',oD.below hv oD.lt,o2,o3,(o4.of_bel15 hdr).of_bel15 hv,by rw [decide_eq_true_iff,hc];unfold ky;rw [←hx,←hy]⟩
        clear HA o1 o2 o3 o4 hlen hdr oD m1 m2 hx hy hc C0;obtain ⟨q,hq⟩:∃ q,q=j-1:=⟨_,rfl⟩;rw [←hq] at c2;have hwq:IntKind.i64.wrap ((j:Int)-1)=(q:Int):=by rw [show (j:Int)-1=(q:Int) by omega];exact wrap15 (by omega)
        have b1:(0:Int)≤(q:Int):=by omega
        have b2:(q:Int)<(N:Int):=by omega
        have b3:(j:Int)<(N:Int):=by omega
        have hqN:q<N:=by omega
        have kS:=qsd (ai c1 c2);have HQ:=qsd hq;clear c1 c2 ej hq hj1
        go_region_held3 (fun w'=>w'.cell? ⟨g,j,none⟩=some (.int .i64 (x:Nat))∧w'.cell? ⟨g,q,none⟩=some (.int .i64 (y:Nat))) (with_reducible exact kS.out) (first
         | (go_at_call 108
            with_reducible refine C.out.mono ?_
            rintro r v ⟨rfl,hb⟩;have G:=qsd (HF.out v hb);have kS:Aside (v.cell? ⟨g,j,none⟩=some (.int .i64 (x:Nat))∧v.cell? ⟨g,q,none⟩=some (.int .i64 (y:Nat))):=⟨(hb.cell (p:=⟨g,j,none⟩) (lt_of_cell15 kS.out.1)).trans kS.out.1,(hb.cell (p:=⟨g,q,none⟩) (lt_of_cell15 kS.out.2)).trans kS.out.2⟩;clear hb))
        all_goals
         go_wp2_with fail
         go_meet
         case rel=>exact ⟨_,rfl,G.out⟩
       clear HA;obtain ⟨c,rfl,HB⟩:=hcut
       cases c
       · have HN:Aside (∃ L',OwnI wc g L'∧Pm a b L L'∧Up K a (i+1) L'∧But g w wc):=by
          obtain ⟨L',h1,h2,h3,h4,h5⟩:=HB.out;exact ⟨L',h1,h2,h3.done (.inr (by rcases Nat.lt_or_ge (ky K L' j) (ky K L' (j-1)) with q | q;exact absurd (h5.2 q) (by decide);exact q)),h4⟩
         clear HB;go_wp2
         go_roundg (b-(i+1))
         case measure=>omega
         case rel=>exact ⟨i+1,rfl,by omega,.inl (by omega),by first | rfl | simp,HN.out⟩
       · obtain ⟨q,hq⟩:∃ q,q=j-1:=⟨_,rfl⟩
         have hwq:IntKind.i64.wrap ((j:Int)-1)=(q:Int):=by rw [show (j:Int)-1=(q:Int) by omega];exact wrap15 (by omega)
         have b1:(0:Int)≤(q:Int):=by omega
         have b2:(q:Int)<(N:Int):=by omega
         have b3:(j:Int)<(N:Int):=by omega
         have hqN:q<N:=by omega
         have hjN:j<N:=by omega
         have hne:j≠q:=by omega
         have hne':q≠j:=by omega
         have HQ:=qsd hq;clear hq
         go_upto_region 6 with fail
         obtain ⟨L',o1,o2,o3,o4,o5⟩:=HB.out;have hlen:L'.length=N:=by rw [o2.len,←HX.out.1]
         have hdr:=(Below.refl wc.heap.size wc).drew;have oD:=o1.below hdr o1.lt;have c1:=o1.cell j (by omega)
         have c2:=o1.cell q (by omega)
         have z1:=o1.frozen j;have z2:=o1.frozen q
         have HF:Aside (∀ v:World,(v=(wc.drew.setCell ⟨g,j,none⟩ (.int .i64 (L'.getD q 0:Nat))).setCell ⟨g,q,none⟩ (.int .i64 (L'.getD j 0:Nat))∨v=(wc.drew.setCell ⟨g,q,none⟩ (.int .i64 (L'.getD j 0:Nat))).setCell ⟨g,j,none⟩ (.int .i64 (L'.getD q 0:Nat)))→∃ L',OwnI v g L'∧Pm a b L L'∧Ins K a i q L'∧But g w v):=fun v hv=>by
          have hq:=HQ.out;refine ⟨sw L' j q,?_,o2.trans (Pm.swap (by omega) (by omega) (by omega) (by omega) (by omega)),?_,?_⟩
          · rcases hv with rfl | rfl
            · exact oD.sw j q
            · have:=(oD.set q (L'.getD j 0)).set j (L'.getD q 0)
              unfold sw;rw [List.set_comm _ _ hne];exact this
          · have:=o3.step (by omega) hj (by rw [←HQ.out];have:=o5.1 rfl;rw [←HQ.out] at this;exact this)
            rw [←HQ.out] at this;exact this
          · rcases hv with rfl | rfl
            · exact ((o4.of_bel15 hdr).set _ _).set _ _
            · exact ((o4.of_bel15 hdr).set _ _).set _ _
         obtain ⟨x,hx⟩:∃ x,x=L'.getD j 0:=⟨_,rfl⟩;obtain ⟨y,hy⟩:∃ y,y=L'.getD q 0:=⟨_,rfl⟩;rw [←hx] at c1 HF;rw [←hy] at c2 HF;clear HB o1 o2 o3 o4 o5 hlen hdr oD hx hy
         go_region
         all_goals
          go_wp2
          go_roundg q
          case measure=>have:=HQ.out;omega
          case rel=>exact ⟨q,rfl,by have:=HQ.out;omega,by have:=HQ.out;omega,by first | rfl | simp,HF.out _ (by first | exact .inl rfl | exact .inr rfl)⟩
     · have hd4:decide ((a:Int)<(j:Nat))=false:=by simp;omega
       have HN:Aside (∃ L',OwnI wr g L'∧Pm a b L L'∧Up K a (i+1) L'∧But g w wr):=by
        obtain ⟨L',h1,h2,h3,h4⟩:=HA.out;exact ⟨L',h1,h2,h3.done (.inl (by omega)),h4⟩
       clear HA
       go_upto_region 4 with fail
       go_region
       all_goals
        go_wp2
        go_roundg (b-(i+1))
        case measure=>omega
        case rel=>exact ⟨i+1,rfl,by omega,.inl (by omega),by first | rfl | simp,by obtain ⟨L',h1,h2,h3,h4⟩:=HN.out;exact ⟨L',h1,h2,h3,h4.drew⟩⟩
  · have hd:decide ((i:Int)<(b:Nat))=false:=by simp;omega
    go_wp2;refine bodyPost_end (v:=.tuple #[]) (by simp [results,Tryz.results192,go_sem]) rfl ?_
    obtain ⟨L',h1,h2,h3,h4⟩:=HA.out;exact ⟨rfl,L',h1,h2,fun x y hx hxy hy=>h3 x y hx hxy (by omega),h4⟩
end
section
open Go.RowKit J
theorem mem15 {L L':List Nat}{a b n k:Nat}(hL:∀ x ∈ L,x<n) (h:Pm a b L L') (hk:k<L'.length):L'.getD k 0<n :=
 hL _ (h.perm.mem_iff.1 (by rw [List.getD_eq_getElem?_getD,List.getElem?_eq_getElem hk];exact List.getElem_mem _))
theorem wrapZ {x:Int}{q:Nat}(h:x=(q:Int)) (hq:q<4611686018427387904):IntKind.i64.wrap x=(q:Int):=by rw [h];exact wrap15 hq
theorem siftDown15 (K:Nat→Nat) (n g f lo hi cap:Nat) (L:List Nat) (recv:Value) (w:World) (hO:OwnI w g L) (hL:∀ x ∈ L,x<n) (hl:f+hi≤L.length) (hlo:lo<1152921504606846976) (hbig:L.length<1152921504606846976) (hC:Cmp15 K n g recv w) (hH:Hp K f (lo+1) hi L) :
 Calls Tryz.prog 221 #[.slice (some ⟨g,0,none⟩) L.length cap,.int .i64 (lo:Nat),.int .i64 (hi:Nat),.int .i64 (f:Nat),.func (.func 108) #[recv] #[]] w fun r w'=>r=.returned (.tuple #[])∧∃ L',OwnI w' g L'∧Pm (f+lo) (f+hi) L L'∧Hp K f lo hi L'∧But g w w':=by
 obtain ⟨N,hN⟩:∃ N,N=L.length:=⟨_,rfl⟩;have HX:=(qsd (ai hN (ai hL hC)));have B0:Aside (∃ L',OwnI w g L'∧Pm (f+lo) (f+hi) L L'∧Sf K f lo hi lo L'∧But g w w):=⟨L,hO,Pm.refl _ _ _,Sf.start hH,But.refl _ _⟩;rw [←hN] at hl hbig ⊢;clear hN hL hC hO hH;go_enter Tryz.func221,Tryz.ntmps221;go_wp2
 go_loopg [10] (hi-lo) (fun gk rv wr=>∃ r:Nat,gk=hi-r∧(r<hi∨r=lo)∧lo≤r∧rv=.int .i64 (r:Nat)∧Aside (∃ L',OwnI wr g L'∧Pm (f+lo) (f+hi) L L'∧Sf K f lo hi r L'∧But g w wr))
 case atStart=>exact ⟨lo,rfl,.inr rfl,Nat.le_refl _,by simp,B0.out⟩
 case round =>
  clear B0;obtain ⟨r,hgk,hr,hlr,rfl,HA⟩:=hrel;have hrb:r<1152921504606846976:=by omega
  obtain ⟨c,hc⟩:∃ c,c=2*r+1:=⟨_,rfl⟩;have w1:IntKind.i64.wrap (2*(r:Int))=2*(r:Int):=by rw [wrapZ (q:=2*r) (by omega) (by omega)];omega
  have w2:IntKind.i64.wrap (2*(r:Int)+1)=(c:Int):=wrapZ (by omega) (by omega)
  by_cases h1:hi≤c
  · have d1:decide ((hi:Int)≤(c:Nat))=true:=by simp;omega
    have HN:Aside (∃ L',OwnI wr g L'∧Pm (f+lo) (f+hi) L L'∧Hp K f lo hi L'∧But g w wr):=by
     obtain ⟨L',o1,o2,o3,o4⟩:=HA.out;exact ⟨L',o1,o2,o3.done (fun k k1 k2 k3=>by omega),o4⟩
    have HQ:=qsd hc;clear HA hc;go_wp2;refine bodyPost_end (v:=.tuple #[]) (by simp [results,Tryz.results221,go_sem]) rfl ?_
    exact ⟨rfl,HN.out⟩
  · have d1:decide ((hi:Int)≤(c:Nat))=false:=by simp;omega
    obtain ⟨c1,hc1⟩:∃ x,x=c+1:=⟨_,rfl⟩;obtain ⟨pr,hpr⟩:∃ x,x=f+r:=⟨_,rfl⟩;obtain ⟨p1,hp1⟩:∃ x,x=f+c:=⟨_,rfl⟩;obtain ⟨p2,hp2⟩:∃ x,x=f+c1:=⟨_,rfl⟩;have w3:IntKind.i64.wrap ((c:Int)+1)=(c1:Int):=wrapZ (by omega) (by omega)
    have w4:IntKind.i64.wrap ((f:Int)+(r:Int))=(pr:Int):=wrapZ (by omega) (by omega)
    have w5:IntKind.i64.wrap ((f:Int)+(c:Int))=(p1:Int):=wrapZ (by omega) (by omega)
    have w6:IntKind.i64.wrap ((f:Int)+(c1:Int))=(p2:Int):=wrapZ (by omega) (by omega)
    have w7:IntKind.i64.wrap ((p1:Int)+1)=(p2:Int):=wrapZ (by omega) (by omega)
    have b1:(pr:Int)<(N:Int):=by omega
    have b2:(p1:Int)<(N:Int):=by omega
    have b3:pr<N:=by omega
    have b4:p1<N:=by omega
    by_cases h2:c1<hi
    · have d2:decide ((c1:Int)<(hi:Nat))=true:=by simp;omega
      have b5:(p2:Int)<(N:Int):=by omega
      have b6:p2<N:=by omega
      have HQ:=(qsd (ai hc (ai hc1 (ai hpr (ai hp1 hp2)))));clear hc hc1 hpr hp1 hp2
      go_upto_region 3 with fail
      go_cut [40] from 19 to 39 (fun v wx=>∃ t:Bool,v=.bool t∧Aside (∃ L',OwnI wx g L'∧Pm (f+lo) (f+hi) L L'∧Sf K f lo hi r L'∧But g w wx∧(t=true↔ky K L' p1<ky K L' p2)))
      case first =>
       obtain ⟨L',o1,o2,o3,o4⟩:=HA.out;have hlen:L'.length=N:=by rw [o2.len,←HX.out.1]
       have hdr:=(Below.refl wr.heap.size wr).drew;have oD:=o1.below hdr o1.lt;have m1:=mem15 HX.out.2.1 o2 (k:=p1) (by omega)
       have m2:=mem15 HX.out.2.1 o2 (k:=p2) (by omega)
       have c1':=oD.cell p1 (by omega)
       have c2':=oD.cell p2 (by omega)
       obtain ⟨x,hx⟩:∃ x,x=L'.getD p1 0:=⟨_,rfl⟩;obtain ⟨y,hy⟩:∃ y,y=L'.getD p2 0:=⟨_,rfl⟩;rw [←hx] at c1' m1;rw [←hy] at c2' m2;obtain ⟨z,hz,C0⟩:=HX.out.2.2 _ x y (o4.of_bel15 hdr) m1 m2;have C:=hid C0
       have HF:Aside (∀ v:World,Below wr.drew.heap.size wr.drew v→∃ L',OwnI v g L'∧Pm (f+lo) (f+hi) L L'∧Sf K f lo hi r L'∧But g w v∧(decide (z<0)=true↔ky K L' p1<ky K L' p2)):=fun v hv =>
        ⟨L',oD.below hv oD.lt,o2,o3,(o4.of_bel15 hdr).of_bel15 hv,by rw [decide_eq_true_iff,hz];unfold ky;rw [←hx,←hy]⟩
       have kS:=qsd (ai c1' c2');clear HA o1 o2 o3 o4 hlen hdr oD m1 m2 hx hy hz C0 c1' c2'
       go_region_held3 (fun w'=>w'.cell? ⟨g,p1,none⟩=some (.int .i64 (x:Nat))∧w'.cell? ⟨g,p2,none⟩=some (.int .i64 (y:Nat))) (with_reducible exact kS.out) (first
        | (go_at_call 108
           with_reducible refine C.out.mono ?_
           rintro r v ⟨rfl,hb⟩;have G:=qsd (HF.out v hb);have kS:Aside (v.cell? ⟨g,p1,none⟩=some (.int .i64 (x:Nat))∧v.cell? ⟨g,p2,none⟩=some (.int .i64 (y:Nat))):=⟨(hb.cell (p:=⟨g,p1,none⟩) (lt_of_cell15 kS.out.1)).trans kS.out.1,(hb.cell (p:=⟨g,p2,none⟩) (lt_of_cell15 kS.out.2)).trans kS.out.2⟩;clear hb))
       all_goals
        go_wp2_with fail
        go_meet
        case rel=>exact ⟨decide (z<0),rfl,G.out⟩
      clear HA;obtain ⟨t,rfl,HA⟩:=hcut;obtain ⟨W3,hW3⟩:∃ W,W=wc:=⟨_,rfl⟩;subst hW3
      cases t
      · replace HA:Aside (∃ L',OwnI W3 g L'∧Pm (f+lo) (f+hi) L L'∧Sf K f lo hi r L'∧But g w W3∧(∀ k,0<k→k<hi→(k-1)/2=r→ky K L' (f+k)≤ky K L' (f+c))):=by
         obtain ⟨L',o1,o2,o3,o4,o5⟩:=HA.out;obtain ⟨hc,hc1,hpr,hp1,hp2⟩:=HQ.out;refine ⟨L',o1,o2,o3,o4,fun k k1 k2 k3=>?_⟩
         have e:ky K L' p2≤ky K L' p1:=Nat.le_of_not_lt (fun q=>absurd (o5.2 q) (by decide))
         by_cases q:k=c
         · rw [q];exact Nat.le_refl _
         · rw [show f+k=p2 by omega,←hp1];exact e
        go_upto_region 5 with fail
        go_cut [58] from 43 to 57 (fun v wx=>∃ t:Bool,v=.bool (!t)∧Aside (∃ L',OwnI wx g L'∧Pm (f+lo) (f+hi) L L'∧Sf K f lo hi r L'∧But g w wx∧(∀ k,0<k→k<hi→(k-1)/2=r→ky K L' (f+k)≤ky K L' (f+c))∧(t=true↔ky K L' pr<ky K L' p1)))
        case first =>
         obtain ⟨L',o1,o2,o3,o4,o5⟩:=HA.out;have hlen:L'.length=N:=by rw [o2.len,←HX.out.1]
         have hdr:=(Below.refl W3.heap.size W3).drew;have oD:=o1.below hdr o1.lt;have m1:=mem15 HX.out.2.1 o2 (k:=pr) (by omega)
         have m2:=mem15 HX.out.2.1 o2 (k:=p1) (by omega)
         have c1':=oD.cell pr (by omega)
         have c2':=oD.cell p1 (by omega)
         obtain ⟨x,hx⟩:∃ x,x=L'.getD pr 0:=⟨_,rfl⟩;obtain ⟨y,hy⟩:∃ y,y=L'.getD p1 0:=⟨_,rfl⟩;rw [←hx] at c1' m1;rw [←hy] at c2' m2;obtain ⟨z,hz,C0⟩:=HX.out.2.2 _ x y (o4.of_bel15 hdr) m1 m2;have C:=hid C0
         have HF:Aside (∀ v:World,Below W3.drew.heap.size W3.drew v→∃ L',OwnI v g L'∧Pm (f+lo) (f+hi) L L'∧Sf K f lo hi r L'∧But g w v∧(∀ k,0<k→k<hi→(k-1)/2=r→ky K L' (f+k)≤ky K L' (f+c))∧(decide (z<0)=true↔ky K L' pr<ky K L' p1)):=fun v hv =>
          ⟨L',oD.below hv oD.lt,o2,o3,(o4.of_bel15 hdr).of_bel15 hv,o5,by rw [decide_eq_true_iff,hz];unfold ky;rw [←hx,←hy]⟩
         have kS:=qsd (ai c1' c2');clear HA o1 o2 o3 o4 o5 hlen hdr oD m1 m2 hx hy hz C0 c1' c2'
         go_region_held3 (fun w'=>w'.cell? ⟨g,pr,none⟩=some (.int .i64 (x:Nat))∧w'.cell? ⟨g,p1,none⟩=some (.int .i64 (y:Nat))) (with_reducible exact kS.out) (first
          | (go_at_call 108
             with_reducible refine C.out.mono ?_
             rintro r v ⟨rfl,hb⟩;have G:=qsd (HF.out v hb);have kS:Aside (v.cell? ⟨g,pr,none⟩=some (.int .i64 (x:Nat))∧v.cell? ⟨g,p1,none⟩=some (.int .i64 (y:Nat))):=⟨(hb.cell (p:=⟨g,pr,none⟩) (lt_of_cell15 kS.out.1)).trans kS.out.1,(hb.cell (p:=⟨g,p1,none⟩) (lt_of_cell15 kS.out.2)).trans kS.out.2⟩;clear hb))
         all_goals
          go_wp2_with fail
          go_meet
          case rel=>exact ⟨decide (z<0),rfl,G.out⟩
        clear HA;obtain ⟨t,rfl,HA⟩:=hcut;obtain ⟨W5,hW5⟩:∃ W,W=wc:=⟨_,rfl⟩;subst hW5
        cases t
        · have HN:Aside (∃ L',OwnI W5 g L'∧Pm (f+lo) (f+hi) L L'∧Hp K f lo hi L'∧But g w W5):=by
           obtain ⟨L',o1,o2,o3,o4,o5,o6⟩:=HA.out;refine ⟨L',o1,o2,o3.done (fun k k1 k2 k3=>?_),o4⟩
           have:=o5 k k1 k2 k3;have e:ky K L' p1≤ky K L' pr:=Nat.le_of_not_lt (fun q=>absurd (o6.2 q) (by decide))
           have hq:=HQ.out;rw [show f+r=pr by omega]
           rw [show f+c=p1 by omega] at this
           omega
          clear HA;go_wp2;refine bodyPost_ret (v:=.tuple #[]) (by simp [results,Tryz.results221,go_sem]) rfl ?_
          exact ⟨rfl,HN.out⟩
        · have hne:pr≠p1:=by have:=HQ.out;omega
          have hne':p1≠pr:=by have:=HQ.out;omega
          go_upto_region 6 with fail
          go_cut [11] from 59 to 80 (fun v wx=>v=.int .i64 (c:Nat)∧Aside (∃ L',OwnI wx g L'∧Pm (f+lo) (f+hi) L L'∧Sf K f lo hi c L'∧But g w wx))
          case first =>
           obtain ⟨L',o1,o2,o3,o4,o5,o6⟩:=HA.out;have hlen:L'.length=N:=by rw [o2.len,←HX.out.1]
           have hdr:=(Below.refl W5.heap.size W5).drew;have oD:=o1.below hdr o1.lt;have c1':=o1.cell pr (by omega)
           have c2':=o1.cell p1 (by omega)
           have z1:=o1.frozen pr;have z2:=o1.frozen p1
           have HF:Aside (∀ v:World,(v=(W5.drew.setCell ⟨g,pr,none⟩ (.int .i64 (L'.getD p1 0:Nat))).setCell ⟨g,p1,none⟩ (.int .i64 (L'.getD pr 0:Nat))∨v=(W5.drew.setCell ⟨g,p1,none⟩ (.int .i64 (L'.getD pr 0:Nat))).setCell ⟨g,pr,none⟩ (.int .i64 (L'.getD p1 0:Nat)))→∃ L',OwnI v g L'∧Pm (f+lo) (f+hi) L L'∧Sf K f lo hi c L'∧But g w v):=fun v hv=>by
            have hq:=HQ.out;refine ⟨sw L' pr p1,?_,o2.trans (Pm.swap (by omega) (by omega) (by omega) (by omega) (by omega)),?_,?_⟩
            · rcases hv with rfl | rfl
              · exact oD.sw pr p1
              · have:=(oD.set p1 (L'.getD pr 0)).set pr (L'.getD p1 0)
                unfold sw;rw [List.set_comm _ _ hne];exact this
            · have e1:pr=f+r:=by omega
              have e2:p1=f+c:=by omega
              have:=o6.1 rfl;rw [e1,e2] at this ⊢;exact o3.step (by omega) (by omega) (by omega) this o5
            · rcases hv with rfl | rfl
              · exact ((o4.of_bel15 hdr).set _ _).set _ _
              · exact ((o4.of_bel15 hdr).set _ _).set _ _
           obtain ⟨x,hx⟩:∃ x,x=L'.getD pr 0:=⟨_,rfl⟩;obtain ⟨y,hy⟩:∃ y,y=L'.getD p1 0:=⟨_,rfl⟩;rw [←hx] at c1' HF;rw [←hy] at c2' HF;clear HA o1 o2 o3 o4 o5 o6 hlen hdr oD hx hy
           go_region
           all_goals
            go_wp2_with fail
            go_meet
            case rel=>exact ⟨rfl,HF.out _ (by first | exact .inl rfl | exact .inr rfl)⟩
          clear HA;obtain ⟨rfl,HA⟩:=hcut;go_wp2
          go_roundg (hi-c)
          case measure=>have:=HQ.out;omega
          case rel=>exact ⟨c,rfl,.inl (by have:=HQ.out;omega),by have:=HQ.out;omega,by first | rfl | simp,HA.out⟩
      · replace HA:Aside (∃ L',OwnI W3 g L'∧Pm (f+lo) (f+hi) L L'∧Sf K f lo hi r L'∧But g w W3∧(∀ k,0<k→k<hi→(k-1)/2=r→ky K L' (f+k)≤ky K L' (f+c1))):=by
         obtain ⟨L',o1,o2,o3,o4,o5⟩:=HA.out;obtain ⟨hc,hc1,hpr,hp1,hp2⟩:=HQ.out;refine ⟨L',o1,o2,o3,o4,fun k k1 k2 k3=>?_⟩
         have e:=o5.1 rfl
         by_cases q:k=c1
         · rw [q];exact Nat.le_refl _
         · rw [show f+k=p1 by omega,←hp2];exact Nat.le_of_lt e
        go_upto_region 5 with fail
        go_cut [58] from 43 to 57 (fun v wx=>∃ t:Bool,v=.bool (!t)∧Aside (∃ L',OwnI wx g L'∧Pm (f+lo) (f+hi) L L'∧Sf K f lo hi r L'∧But g w wx∧(∀ k,0<k→k<hi→(k-1)/2=r→ky K L' (f+k)≤ky K L' (f+c1))∧(t=true↔ky K L' pr<ky K L' p2)))
        case first =>
         obtain ⟨L',o1,o2,o3,o4,o5⟩:=HA.out;have hlen:L'.length=N:=by rw [o2.len,←HX.out.1]
         have hdr:=(Below.refl W3.heap.size W3).drew;have oD:=o1.below hdr o1.lt;have m1:=mem15 HX.out.2.1 o2 (k:=pr) (by omega)
         have m2:=mem15 HX.out.2.1 o2 (k:=p2) (by omega)
         have c1':=oD.cell pr (by omega)
         have c2':=oD.cell p2 (by omega)
         obtain ⟨x,hx⟩:∃ x,x=L'.getD pr 0:=⟨_,rfl⟩;obtain ⟨y,hy⟩:∃ y,y=L'.getD p2 0:=⟨_,rfl⟩;rw [←hx] at c1' m1;rw [←hy] at c2' m2;obtain ⟨z,hz,C0⟩:=HX.out.2.2 _ x y (o4.of_bel15 hdr) m1 m2;have C:=hid C0
         have HF:Aside (∀ v:World,Below W3.drew.heap.size W3.drew v→∃ L',OwnI v g L'∧Pm (f+lo) (f+hi) L L'∧Sf K f lo hi r L'∧But g w v∧(∀ k,0<k→k<hi→(k-1)/2=r→ky K L' (f+k)≤ky K L' (f+c1))∧(decide (z<0)=true↔ky K L' pr<ky K L' p2)):=fun v hv =>
          ⟨L',oD.below hv oD.lt,o2,o3,(o4.of_bel15 hdr).of_bel15 hv,o5,by rw [decide_eq_true_iff,hz];unfold ky;rw [←hx,←hy]⟩
         have kS:=qsd (ai c1' c2');clear HA o1 o2 o3 o4 o5 hlen hdr oD m1 m2 hx hy hz C0 c1' c2'
         go_region_held3 (fun w'=>w'.cell? ⟨g,pr,none⟩=some (.int .i64 (x:Nat))∧w'.cell? ⟨g,p2,none⟩=some (.int .i64 (y:Nat))) (with_reducible exact kS.out) (first
          | (go_at_call 108
             with_reducible refine C.out.mono ?_
             rintro r v ⟨rfl,hb⟩;have G:=qsd (HF.out v hb);have kS:Aside (v.cell? ⟨g,pr,none⟩=some (.int .i64 (x:Nat))∧v.cell? ⟨g,p2,none⟩=some (.int .i64 (y:Nat))):=⟨(hb.cell (p:=⟨g,pr,none⟩) (lt_of_cell15 kS.out.1)).trans kS.out.1,(hb.cell (p:=⟨g,p2,none⟩) (lt_of_cell15 kS.out.2)).trans kS.out.2⟩;clear hb))
         all_goals
          go_wp2_with fail
          go_meet
          case rel=>exact ⟨decide (z<0),rfl,G.out⟩
        clear HA;obtain ⟨t,rfl,HA⟩:=hcut;obtain ⟨W5,hW5⟩:∃ W,W=wc:=⟨_,rfl⟩;subst hW5
        cases t
        · have HN:Aside (∃ L',OwnI W5 g L'∧Pm (f+lo) (f+hi) L L'∧Hp K f lo hi L'∧But g w W5):=by
           obtain ⟨L',o1,o2,o3,o4,o5,o6⟩:=HA.out;refine ⟨L',o1,o2,o3.done (fun k k1 k2 k3=>?_),o4⟩
           have:=o5 k k1 k2 k3;have e:ky K L' p2≤ky K L' pr:=Nat.le_of_not_lt (fun q=>absurd (o6.2 q) (by decide))
           have hq:=HQ.out;rw [show f+r=pr by omega]
           rw [show f+c1=p2 by omega] at this
           omega
          clear HA;go_wp2;refine bodyPost_ret (v:=.tuple #[]) (by simp [results,Tryz.results221,go_sem]) rfl ?_
          exact ⟨rfl,HN.out⟩
        · have hne:pr≠p2:=by have:=HQ.out;omega
          have hne':p2≠pr:=by have:=HQ.out;omega
          go_upto_region 6 with fail
          go_cut [11] from 59 to 80 (fun v wx=>v=.int .i64 (c1:Nat)∧Aside (∃ L',OwnI wx g L'∧Pm (f+lo) (f+hi) L L'∧Sf K f lo hi c1 L'∧But g w wx))
          case first =>
           obtain ⟨L',o1,o2,o3,o4,o5,o6⟩:=HA.out;have hlen:L'.length=N:=by rw [o2.len,←HX.out.1]
           have hdr:=(Below.refl W5.heap.size W5).drew;have oD:=o1.below hdr o1.lt;have c1':=o1.cell pr (by omega)
           have c2':=o1.cell p2 (by omega)
           have z1:=o1.frozen pr;have z2:=o1.frozen p2
           have HF:Aside (∀ v:World,(v=(W5.drew.setCell ⟨g,pr,none⟩ (.int .i64 (L'.getD p2 0:Nat))).setCell ⟨g,p2,none⟩ (.int .i64 (L'.getD pr 0:Nat))∨v=(W5.drew.setCell ⟨g,p2,none⟩ (.int .i64 (L'.getD pr 0:Nat))).setCell ⟨g,pr,none⟩ (.int .i64 (L'.getD p2 0:Nat)))→∃ L',OwnI v g L'∧Pm (f+lo) (f+hi) L L'∧Sf K f lo hi c1 L'∧But g w v):=fun v hv=>by
            have hq:=HQ.out;refine ⟨sw L' pr p2,?_,o2.trans (Pm.swap (by omega) (by omega) (by omega) (by omega) (by omega)),?_,?_⟩
            · rcases hv with rfl | rfl
              · exact oD.sw pr p2
              · have:=(oD.set p2 (L'.getD pr 0)).set pr (L'.getD p2 0)
                unfold sw;rw [List.set_comm _ _ hne];exact this
            · have e1:pr=f+r:=by omega
              have e2:p2=f+c1:=by omega
              have:=o6.1 rfl;rw [e1,e2] at this ⊢;exact o3.step (by omega) (by omega) (by omega) this o5
            · rcases hv with rfl | rfl
              · exact ((o4.of_bel15 hdr).set _ _).set _ _
              · exact ((o4.of_bel15 hdr).set _ _).set _ _
           obtain ⟨x,hx⟩:∃ x,x=L'.getD pr 0:=⟨_,rfl⟩;obtain ⟨y,hy⟩:∃ y,y=L'.getD p2 0:=⟨_,rfl⟩;rw [←hx] at c1' HF;rw [←hy] at c2' HF;clear HA o1 o2 o3 o4 o5 o6 hlen hdr oD hx hy
           go_region
           all_goals
            go_wp2_with fail
            go_meet
            case rel=>exact ⟨rfl,HF.out _ (by first | exact .inl rfl | exact .inr rfl)⟩
          clear HA;obtain ⟨rfl,HA⟩:=hcut;go_wp2
          go_roundg (hi-c1)
          case measure=>have:=HQ.out;omega
          case rel=>exact ⟨c1,rfl,.inl (by have:=HQ.out;omega),by have:=HQ.out;omega,by first | rfl | simp,HA.out⟩
    · have d2:decide ((c1:Int)<(hi:Nat))=false:=by simp;omega
      have HQ:=(qsd (ai hc (ai hc1 (ai hpr (ai hp1 hp2)))))
      have HD:Aside (∃ L',OwnI wr.drew g L'∧Pm (f+lo) (f+hi) L L'∧Sf K f lo hi r L'∧But g w wr.drew∧(∀ k,0<k→k<hi→(k-1)/2=r→ky K L' (f+k)≤ky K L' (f+c))):=by
       obtain ⟨L',o1,o2,o3,o4⟩:=HA.out;refine ⟨L',o1,o2,o3,o4.drew,fun k k1 k2 k3=>?_⟩
       rw [show k=c by omega];exact Nat.le_refl _
      clear HA hc hc1 hpr hp1 hp2
      go_upto_region 3 with fail
      go_cut [40] from 19 to 39 (fun v wx=>v=.bool false∧wx=wr.drew)
      case first =>
       go_region
       all_goals
        go_wp2_with fail
        go_meet
        case rel=>exact ⟨rfl,rfl⟩
      obtain ⟨rfl,hwx⟩:=hcut;rw [←hwx] at HD;clear hwx;have HA:=HD;clear HD;obtain ⟨W3,hW3⟩:∃ W,W=wc:=⟨_,rfl⟩;subst hW3
      go_upto_region 5 with fail
      go_cut [58] from 43 to 57 (fun v wx=>∃ t:Bool,v=.bool (!t)∧Aside (∃ L',OwnI wx g L'∧Pm (f+lo) (f+hi) L L'∧Sf K f lo hi r L'∧But g w wx∧(∀ k,0<k→k<hi→(k-1)/2=r→ky K L' (f+k)≤ky K L' (f+c))∧(t=true↔ky K L' pr<ky K L' p1)))
      case first =>
       obtain ⟨L',o1,o2,o3,o4,o5⟩:=HA.out;have hlen:L'.length=N:=by rw [o2.len,←HX.out.1]
       have hdr:=(Below.refl W3.heap.size W3).drew;have oD:=o1.below hdr o1.lt;have m1:=mem15 HX.out.2.1 o2 (k:=pr) (by omega)
       have m2:=mem15 HX.out.2.1 o2 (k:=p1) (by omega)
       have c1':=oD.cell pr (by omega)
       have c2':=oD.cell p1 (by omega)
       obtain ⟨x,hx⟩:∃ x,x=L'.getD pr 0:=⟨_,rfl⟩;obtain ⟨y,hy⟩:∃ y,y=L'.getD p1 0:=⟨_,rfl⟩;rw [←hx] at c1' m1;rw [←hy] at c2' m2;obtain ⟨z,hz,C0⟩:=HX.out.2.2 _ x y (o4.of_bel15 hdr) m1 m2;have C:=hid C0
       have HF:Aside (∀ v:World,Below W3.drew.heap.size W3.drew v→∃ L',OwnI v g L'∧Pm (f+lo) (f+hi) L L'∧Sf K f lo hi r L'∧But g w v∧(∀ k,0<k→k<hi→(k-1)/2=r→ky K L' (f+k)≤ky K L' (f+c))∧(decide (z<0)=true↔ky K L' pr<ky K L' p1)):=fun v hv =>
        ⟨L',oD.below hv oD.lt,o2,o3,(o4.of_bel15 hdr).of_bel15 hv,o5,by rw [decide_eq_true_iff,hz];unfold ky;rw [←hx,←hy]⟩
       have kS:=qsd (ai c1' c2');clear HA o1 o2 o3 o4 o5 hlen hdr oD m1 m2 hx hy hz C0 c1' c2'
       go_region_held3 (fun w'=>w'.cell? ⟨g,pr,none⟩=some (.int .i64 (x:Nat))∧w'.cell? ⟨g,p1,none⟩=some (.int .i64 (y:Nat))) (with_reducible exact kS.out) (first
        | (go_at_call 108
           with_reducible refine C.out.mono ?_
           rintro r v ⟨rfl,hb⟩;have G:=qsd (HF.out v hb);have kS:Aside (v.cell? ⟨g,pr,none⟩=some (.int .i64 (x:Nat))∧v.cell? ⟨g,p1,none⟩=some (.int .i64 (y:Nat))):=⟨(hb.cell (p:=⟨g,pr,none⟩) (lt_of_cell15 kS.out.1)).trans kS.out.1,(hb.cell (p:=⟨g,p1,none⟩) (lt_of_cell15 kS.out.2)).trans kS.out.2⟩;clear hb))
       all_goals
        go_wp2_with fail
        go_meet
        case rel=>exact ⟨decide (z<0),rfl,G.out⟩
      clear HA;obtain ⟨t,rfl,HA⟩:=hcut;obtain ⟨W5,hW5⟩:∃ W,W=wc:=⟨_,rfl⟩;subst hW5
      cases t
      · have HN:Aside (∃ L',OwnI W5 g L'∧Pm (f+lo) (f+hi) L L'∧Hp K f lo hi L'∧But g w W5):=by
         obtain ⟨L',o1,o2,o3,o4,o5,o6⟩:=HA.out;refine ⟨L',o1,o2,o3.done (fun k k1 k2 k3=>?_),o4⟩
         have:=o5 k k1 k2 k3;have e:ky K L' p1≤ky K L' pr:=Nat.le_of_not_lt (fun q=>absurd (o6.2 q) (by decide))
         have hq:=HQ.out;rw [show f+r=pr by omega]
         rw [show f+c=p1 by omega] at this
         omega
        clear HA;go_wp2;refine bodyPost_ret (v:=.tuple #[]) (by simp [results,Tryz.results221,go_sem]) rfl ?_
        exact ⟨rfl,HN.out⟩
      · have hne:pr≠p1:=by have:=HQ.out;omega
        have hne':p1≠pr:=by have:=HQ.out;omega
        go_upto_region 6 with fail
        go_cut [11] from 59 to 80 (fun v wx=>v=.int .i64 (c:Nat)∧Aside (∃ L',OwnI wx g L'∧Pm (f+lo) (f+hi) L L'∧Sf K f lo hi c L'∧But g w wx))
        case first =>
         obtain ⟨L',o1,o2,o3,o4,o5,o6⟩:=HA.out;have hlen:L'.length=N:=by rw [o2.len,←HX.out.1]
         have hdr:=(Below.refl W5.heap.size W5).drew;have oD:=o1.below hdr o1.lt;have c1':=o1.cell pr (by omega)
         have c2':=o1.cell p1 (by omega)
         have z1:=o1.frozen pr;have z2:=o1.frozen p1
         have HF:Aside (∀ v:World,(v=(W5.drew.setCell ⟨g,pr,none⟩ (.int .i64 (L'.getD p1 0:Nat))).setCell ⟨g,p1,none⟩ (.int .i64 (L'.getD pr 0:Nat))∨v=(W5.drew.setCell ⟨g,p1,none⟩ (.int .i64 (L'.getD pr 0:Nat))).setCell ⟨g,pr,none⟩ (.int .i64 (L'.getD p1 0:Nat)))→∃ L',OwnI v g L'∧Pm (f+lo) (f+hi) L L'∧Sf K f lo hi c L'∧But g w v):=fun v hv=>by
          have hq:=HQ.out;refine ⟨sw L' pr p1,?_,o2.trans (Pm.swap (by omega) (by omega) (by omega) (by omega) (by omega)),?_,?_⟩
          · rcases hv with rfl | rfl
            · exact oD.sw pr p1
            · have:=(oD.set p1 (L'.getD pr 0)).set pr (L'.getD p1 0)
              unfold sw;rw [List.set_comm _ _ hne];exact this
          · have e1:pr=f+r:=by omega
            have e2:p1=f+c:=by omega
            have:=o6.1 rfl;rw [e1,e2] at this ⊢;exact o3.step (by omega) (by omega) (by omega) this o5
          · rcases hv with rfl | rfl
            · exact ((o4.of_bel15 hdr).set _ _).set _ _
            · exact ((o4.of_bel15 hdr).set _ _).set _ _
         obtain ⟨x,hx⟩:∃ x,x=L'.getD pr 0:=⟨_,rfl⟩;obtain ⟨y,hy⟩:∃ y,y=L'.getD p1 0:=⟨_,rfl⟩;rw [←hx] at c1' HF;rw [←hy] at c2' HF;clear HA o1 o2 o3 o4 o5 o6 hlen hdr oD hx hy
         go_region
         all_goals
          go_wp2_with fail
          go_meet
          case rel=>exact ⟨rfl,HF.out _ (by first | exact .inl rfl | exact .inr rfl)⟩
        clear HA;obtain ⟨rfl,HA⟩:=hcut;go_wp2
        go_roundg (hi-c)
        case measure=>have:=HQ.out;omega
        case rel=>exact ⟨c,rfl,.inl (by have:=HQ.out;omega),by have:=HQ.out;omega,by first | rfl | simp,HA.out⟩
end
section
open Go.RowKit J
def Sx15 (n g N:Nat) (w wr:World) (S:List Nat→Prop):Prop:=∃ L,OwnI wr g L∧L.length=N∧(∀ k,k<N→L.getD k 0<n)∧But g w wr∧S L
theorem Sx15.below {n g N:Nat}{w wr v:World}{S:List Nat→Prop}(h:Sx15 n g N w wr S) (hb:Below wr.heap.size wr v):Sx15 n g N w v S:=by
 obtain ⟨L,h1,h2,h3,h4,h5⟩:=h;exact ⟨L,h1.below hb h1.lt,h2,h3,h4.of_bel15 hb,h5⟩
theorem Sx15.drew {n g N:Nat}{w wr:World}{S:List Nat→Prop}(h:Sx15 n g N w wr S):Sx15 n g N w wr.drew S:=h.below (Below.refl wr.heap.size wr).drew
theorem Sx15.imp {n g N:Nat}{w wr:World}{S T:List Nat→Prop}(h:Sx15 n g N w wr S) (f:∀ L,L.length=N→S L→T L):Sx15 n g N w wr T:=by
 obtain ⟨L,h1,h2,h3,h4,h5⟩:=h;exact ⟨L,h1,h2,h3,h4,f L h2 h5⟩
theorem Sx15.lt {n g N:Nat}{w wr:World}{S:List Nat→Prop}(h:Sx15 n g N w wr S):g<wr.heap.size:=by
 obtain ⟨L,h1,h2,h3,h4,h5⟩:=h;exact h1.lt
theorem Sx15.cmp {K:Nat→Nat}{n g N:Nat}{recv:Value}{w wr:World}{S:List Nat→Prop}(h:Sx15 n g N w wr S) (hC:Cmp15 K n g recv w) (i j:Nat) (hi:i<N) (hj:j<N) :
 ∃ (x y:Nat) (z:Int),wr.cell? ⟨g,i,none⟩=some (.int .i64 (x:Nat))∧wr.cell? ⟨g,j,none⟩=some (.int .i64 (y:Nat)) ∧
   Calls Tryz.prog 108 #[recv,.int .i64 (x:Nat),.int .i64 (y:Nat)] wr (fun r w'=>r=.returned (.int .i64 z)∧Below wr.heap.size wr w') ∧
   (∀ v:World,Below wr.heap.size wr v→Sx15 n g N w v (fun L=>S L∧(decide (z<0)=true↔ky K L i<ky K L j))):=by
 obtain ⟨L,h1,h2,h3,h4,h5⟩:=h;obtain ⟨z,hz,C⟩:=hC wr (L.getD i 0) (L.getD j 0) h4 (h3 i hi) (h3 j hj);refine ⟨_,_,z,h1.cell i (by omega),h1.cell j (by omega),C,fun v hv=>⟨L,h1.below hv h1.lt,h2,h3,h4.of_bel15 hv,h5,?_⟩⟩
 rw [decide_eq_true_iff,hz];rfl
theorem Sx15.cmpd {K:Nat→Nat}{n g N:Nat}{recv:Value}{w wr:World}{S:List Nat→Prop}(h:Sx15 n g N w wr S) (hC:Cmp15 K n g recv w) (i j:Nat) (hi:i<N) (hj:j<N) :
 ∃ (x y:Nat) (z:Int),wr.drew.cell? ⟨g,i,none⟩=some (.int .i64 (x:Nat))∧wr.drew.cell? ⟨g,j,none⟩=some (.int .i64 (y:Nat)) ∧
   Calls Tryz.prog 108 #[recv,.int .i64 (x:Nat),.int .i64 (y:Nat)] wr.drew (fun r w'=>r=.returned (.int .i64 z)∧Below wr.drew.heap.size wr.drew w') ∧
   (∀ v:World,Below wr.drew.heap.size wr.drew v→Sx15 n g N w v (fun L=>S L∧(decide (z<0)=true↔ky K L i<ky K L j))):=h.drew.cmp hC i j hi hj
theorem sw_comm15 (L:List Nat) (i j:Nat):(L.set j (L.getD i 0)).set i (L.getD j 0)=sw L i j:=by
 unfold sw
 by_cases h:i=j
 · subst h;rfl
 · rw [List.set_comm _ _ h]
theorem Sx15.swap {n g N:Nat}{w wr:World}{S:List Nat→Prop}(h:Sx15 n g N w wr S) (i j:Nat) (hi:i<N) (hj:j<N) :
 ∃ (x y:Nat),wr.cell? ⟨g,i,none⟩=some (.int .i64 (x:Nat))∧wr.cell? ⟨g,j,none⟩=some (.int .i64 (y:Nat))∧wr.frozen? ⟨g,i,none⟩=false∧wr.frozen? ⟨g,j,none⟩=false ∧
   (∀ v:World,(v=(wr.drew.setCell ⟨g,i,none⟩ (.int .i64 (y:Nat))).setCell ⟨g,j,none⟩ (.int .i64 (x:Nat))∨v=(wr.drew.setCell ⟨g,j,none⟩ (.int .i64 (x:Nat))).setCell ⟨g,i,none⟩ (.int .i64 (y:Nat)))→Sx15 n g N w v (fun L=>∃ M,S M∧M.length=N∧L=sw M i j)):=by
 obtain ⟨L,h1,h2,h3,h4,h5⟩:=h;have hdr:=(Below.refl wr.heap.size wr).drew;have oD:=h1.below hdr h1.lt;refine ⟨_,_,h1.cell i (by omega),h1.cell j (by omega),h1.frozen i,h1.frozen j,fun v hv=>⟨sw L i j,?_,by rw [sw_len,h2],fun k hk=>?_,?_,L,h5,h2,rfl⟩⟩
 · rcases hv with rfl | rfl
   · exact oD.sw i j
   · rw [←sw_comm15]
     exact (oD.set j (L.getD i 0)).set i (L.getD j 0)
 · rw [sw_get (by omega) (by omega)]
   split
   · exact h3 i hi
   · split
     · exact h3 j hj
     · exact h3 k hk
 · rcases hv with rfl | rfl
   · exact ((h4.of_bel15 hdr).set _ _).set _ _
   · exact ((h4.of_bel15 hdr).set _ _).set _ _
theorem Sx15.use {n g N:Nat}{w wr:World}{S:List Nat→Prop}(h:Sx15 n g N w wr S):∃ L,S L∧L.length=N∧Sx15 n g N wr wr (fun M=>M=L)∧But g w wr:=by
 obtain ⟨L,h1,h2,h3,h4,h5⟩:=h;exact ⟨L,h5,h2,⟨L,h1,h2,h3,But.refl _ _,rfl⟩,h4⟩
theorem Sx15.re {n g N:Nat}{w wr v:World}{S:List Nat→Prop}(h:Sx15 n g N wr v S) (hB:But g w wr):Sx15 n g N w v S:=by
 obtain ⟨L,h1,h2,h3,h4,h5⟩:=h;exact ⟨L,h1,h2,h3,hB.trans h4,h5⟩
theorem Cmp15.at {K:Nat→Nat}{n g:Nat}{recv:Value}{w wr:World}(h:Cmp15 K n g recv w) (hB:But g w wr):Cmp15 K n g recv wr:=fun u x y hu hx hy=>h u x y (hB.trans hu) hx hy
theorem siftX (K:Nat→Nat) (n g N f lo hi cap:Nat) (L:List Nat) (recv:Value) (w:World) (hS:Sx15 n g N w w (fun M=>M=L)) (hC:Cmp15 K n g recv w) (hl:f+hi≤N) (hlo:lo<1152921504606846976) (hbig:N<1152921504606846976) (hH:Hp K f (lo+1) hi L) :
 Calls Tryz.prog 221 #[.slice (some ⟨g,0,none⟩) N cap,.int .i64 (lo:Nat),.int .i64 (hi:Nat),.int .i64 (f:Nat),.func (.func 108) #[recv] #[]] w fun r w'=>r=.returned (.tuple #[])∧Sx15 n g N w w' (fun M=>Pm (f+lo) (f+hi) L M∧Hp K f lo hi M):=by
 obtain ⟨M,h1,h2,h3,h4,rfl⟩:=hS;subst h2
 have hL:∀ x ∈ M,x<n:=fun x hx=>by
  obtain ⟨k,hk,rfl⟩:=List.mem_iff_getElem.1 hx;have:=h3 k hk;rw [List.getD_eq_getElem?_getD,List.getElem?_eq_getElem hk] at this
  exact this
 refine (siftDown15 K n g f lo hi cap M recv w h1 hL hl hlo hbig hC hH).mono ?_;rintro r v ⟨rfl,L',k1,k2,k3,k4⟩;exact ⟨rfl,L',k1,k2.len,fun k hk=>hL _ (k2.perm.mem_iff.1 (by rw [List.getD_eq_getElem?_getD,List.getElem?_eq_getElem (by rw [k2.len];exact hk)];exact List.getElem_mem _)),k4,k2,k3⟩
theorem insX (K:Nat→Nat) (n g N a b cap:Nat) (L:List Nat) (recv:Value) (w:World) (hS:Sx15 n g N w w (fun M=>M=L)) (hC:Cmp15 K n g recv w) (hab:a≤b) (hb:b≤N) (hbig:N<1152921504606846976) :
 Calls Tryz.prog 192 #[.slice (some ⟨g,0,none⟩) N cap,.int .i64 (a:Nat),.int .i64 (b:Nat),.func (.func 108) #[recv] #[]] w fun r w'=>r=.returned (.tuple #[])∧Sx15 n g N w w' (fun M=>Pm a b L M∧Up K a b M):=by
 obtain ⟨M,h1,h2,h3,h4,rfl⟩:=hS;subst h2
 have hL:∀ x ∈ M,x<n:=fun x hx=>by
  obtain ⟨k,hk,rfl⟩:=List.mem_iff_getElem.1 hx;have:=h3 k hk;rw [List.getD_eq_getElem?_getD,List.getElem?_eq_getElem hk] at this
  exact this
 refine (insertion15 K n g a b cap M recv w h1 hL hab hb (by omega) hC).mono ?_
 rintro r v ⟨rfl,L',k1,k2,k3,k4⟩;exact ⟨rfl,L',k1,k2.len,fun k hk=>hL _ (k2.perm.mem_iff.1 (by rw [List.getD_eq_getElem?_getD,List.getElem?_eq_getElem (by rw [k2.len];exact hk)];exact List.getElem_mem _)),k4,k2,k3⟩
end
end Go.Proofs.YtblkpkgebigojaaGreatDoor
