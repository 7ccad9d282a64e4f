import Derived.Test.YthfkleadcnkglaaGreatDoorH28x
import Derived.Test.YthfkleadcnkglaaGreatDoorW25x
import Derived.Test.YthfkleadcnkglaaGreatDoorD24x
import Derived.Test.YthfkleadcnkglaaGreatDoorD9x
import Derived.Test.YthfkleadcnkglaaGreatDoorY17x
import Derived.ProofKit
import Derived.OpenShut
import Derived.ChangeOld
import Derived.ChangeArms
import Derived.SizedLaws
import Derived.Laws.Cover2
set_option linter.unusedVariables false
set_option linter.unusedSimpArgs false
set_option maxHeartbeats 16000000
set_option maxRecDepth 20000
namespace Go.Proofs.YthfkleadcnkglaaGreatDoor
namespace J
end J
section
open Go.RowKit J
attribute [local go_sem] st_float
theorem neS_nrm {q:Nat×Nat}{x:Nat}(hx:x<18446744073709551616) (h1:q.1<18446744073709551616) (n1:nrm q.1=q.1):neS q (nrm x)=neS q x:=by
 have e:plF q.1 (nrm x)=plF q.1 x:=by
  have:=add_nrm h1 hx;rw [n1] at this;exact this
 have e2:nbW q.1 (nrm x)=nbW q.1 x:=by have:=nbW_nrm q.1 x;rw [n1] at this;exact this
 have e3:miF (nrm x) (plF q.1 x)=miF x (plF q.1 x):=by
  have:=sub_nrm hx (plF_lt q.1 x);rw [plF_nrm] at this;exact this
 have e4:∀ y,y<18446744073709551616→nrm y=y→plF y (nrm x)=plF y x:=fun y hy ny=>by
  have:=add_nrm hy hx;rw [ny] at this;exact this
 unfold neS neV;rw [e,e2,e3,e4 _ (miF_lt _ _) (miF_nrm _ _)]
theorem together10 {s c a b:Nat}(hs:Is s a) (hc:Is c b) (w:World):Calls Tryz.prog 130 #[.float .f64 s,.float .f64 c] w fun r w'=>∃ z,r=.returned (.float .f64 z)∧Is z (plF a b)∧Below w.heap.size w w':=by
 have H1:=hid (fun u:World=>plus10 hs hc u)
 clear hs hc;go_enter Tryz.func130,Tryz.ntmps130
 go_wp2_with fail
 refine (H1.out _).mono ?_;rintro r w1 ⟨y,rfl,hy,hb1⟩;have HY:=qsd (ai hy hb1);clear hy hb1;go_wp2;exact bodyPost_ret (v:=.float .f64 y) (by simp [results,Tryz.results130,go_sem]) rfl ⟨y,rfl,HY.out.1,HY.out.2⟩
theorem ge_size {s x:Nat}(hs:s<18446744073709551616) (hx:x<18446744073709551616):(FloatKind.f64.format.order (magW s) (magW x)==some .gt || FloatKind.f64.format.order (magW s) (magW x)==some .eq)=nbW s x:=by
 obtain ⟨s1,e,f,he,hf,h1,h2⟩:=bwz s hs;obtain ⟨s2,u,v,hu,hv,h3,h4⟩:=bwz x hx
 have m1:magW s=B.bw false e f:=by
  rw [h1];unfold magW B.bw
  cases s1 <;> simp <;> omega
 have m2:magW x=B.bw false u v:=by
  rw [h3];unfold magW B.bw
  cases s2 <;> simp <;> omega
 unfold nbW;rw [m1,m2,B.gt_f64 false false e f u v he hf hu hv,B.eq_f64 false false e f u v he hf hu hv,h2,h4]
 cases nanW s <;> cases nanW x <;> simp
 unfold B.pl B.bw B.sg;rw [Bool.eq_iff_iff];simp;omega
theorem abs10 {x:Nat}(hx:x<18446744073709551616) (w:World):Calls Tryz.prog 107 #[.float .f64 x] w fun r w'=>r=.returned (.float .f64 (magW x))∧w'=w:=by
 obtain ⟨s,e,f,he,hf,h1,_⟩:=bwz x hx
 have h2:magW x=B.bw false e f:=by
  rw [h1];unfold magW B.bw
  cases s <;> simp <;> omega
 rw [h2,h1];exact B.abs_any s e f he hf w
theorem saved10 {s c x a b d:Nat}(hs:Is s a) (hc:Is c b) (hx:Is x d) (w:World):Calls Tryz.prog 129 #[.float .f64 s,.float .f64 c,.float .f64 x] w fun r w'=>∃ t u,r=.returned (.tuple #[.float .f64 t,.float .f64 u])∧Is t (neS (a,b) d).1∧Is u (neS (a,b) d).2∧Below w.heap.size w w':=by
 have hge:=ge_size hs.1 hx.1;have enb:nbW s x=nbW a d:=by rw [←hs.2,←hx.2,nbW_nrm]
 have A1:=hid (fun u:World=>abs10 hs.1 u)
 have A2:=hid (fun u:World=>abs10 hx.1 u)
 obtain ⟨ms,hms⟩:∃ m,m=magW s:=⟨_,rfl⟩;obtain ⟨mx,hmx⟩:∃ m,m=magW x:=⟨_,rfl⟩;rw [←hms] at A1 hge;rw [←hmx] at A2 hge;rw [enb] at hge;have H1:=hid (fun u:World=>plus10 hs hx u)
 have HS:=qsd (ai hs (ai hc hx));clear hs hc hx enb hms hmx;go_enter Tryz.func129,Tryz.ntmps129
 go_wp2_with fail
 refine (H1.out _).mono ?_;rintro r w1 ⟨t,rfl,ht,hb1⟩;have HT:=qsd (ai ht hb1);clear ht hb1 H1
 go_wp2_with fail
 refine (A1.out _).mono ?_;rintro r w1' ⟨rfl,rfl⟩
 go_wp2_with fail
 refine (A2.out _).mono ?_;rintro r w1'' ⟨rfl,rfl⟩;clear A1 A2
 cases hnb:nbW a d
 · rw [hnb] at hge
   have HE:=qsd (show neS (a,b) d=(plF a d,plF b (plF (miF d (plF a d)) a)) by unfold neS neV;rw [hnb];rfl)
   clear hnb;have H3:=hid (fun u:World=>minus10 HS.out.2.2 HT.out.1 u)
   go_wp2_with fail
   refine (H3.out _).mono ?_;rintro r w3 ⟨u,rfl,hu,hb3⟩;have HU:=qsd (ai hu (HT.out.2.trans (hb3.mono HT.out.2.size)));have H4:=hid (fun v:World=>plus10 hu HS.out.1 v)
   clear hu hb3 H3
   go_wp2_with fail
   refine (H4.out _).mono ?_;rintro r w4 ⟨v,rfl,hv,hb4⟩;have HV:=qsd (ai hv (HU.out.2.trans (hb4.mono HU.out.2.size)));have H5:=hid (fun v':World=>plus10 HS.out.2.1 hv v')
   clear hv hb4 H4
   go_wp2_with fail
   refine (H5.out _).mono ?_;rintro r w5 ⟨y,rfl,hy,hb5⟩;have HY:=qsd (ai hy (HV.out.2.trans (hb5.mono HV.out.2.size)));clear hy hb5 H5;go_wp2
   go_ret2
   exact ⟨t,y,rfl,by rw [HE.out];exact HT.out.1,by rw [HE.out];exact HY.out.1,HY.out.2⟩
 · rw [hnb] at hge
   have HE:=qsd (show neS (a,b) d=(plF a d,plF b (plF (miF a (plF a d)) d)) by unfold neS neV;rw [hnb];rfl)
   clear hnb;have H3:=hid (fun u:World=>minus10 HS.out.1 HT.out.1 u)
   go_wp2_with fail
   refine (H3.out _).mono ?_;rintro r w3 ⟨u,rfl,hu,hb3⟩;have HU:=qsd (ai hu (HT.out.2.trans (hb3.mono HT.out.2.size)));have H4:=hid (fun v:World=>plus10 hu HS.out.2.2 v)
   clear hu hb3 H3
   go_wp2_with fail
   refine (H4.out _).mono ?_;rintro r w4 ⟨v,rfl,hv,hb4⟩;have HV:=qsd (ai hv (HU.out.2.trans (hb4.mono HU.out.2.size)));have H5:=hid (fun v':World=>plus10 HS.out.2.1 hv v')
   clear hv hb4 H4
   go_wp2_with fail
   refine (H5.out _).mono ?_;rintro r w5 ⟨y,rfl,hy,hb5⟩;have HY:=qsd (ai hy (HV.out.2.trans (hb5.mono HV.out.2.size)));clear hy hb5 H5;go_wp2
   go_ret2
   exact ⟨t,y,rfl,by rw [HE.out];exact HT.out.1,by rw [HE.out];exact HY.out.1,HY.out.2⟩
end
section
open Go.RowKit J
attribute [local go_sem] st_float
theorem is_zero:Is 0 0:=⟨by decide,by decide⟩
theorem sumNeumaier (xs:List Nat) (a:Option Addr) (n c:Nat) (w:World) (hn:n=xs.length) (hF:Fs w.heap.size w a xs) (hW:W64 xs) (hm:n≤4611686018427387904) :
 Calls Tryz.prog 131 #[.agg #[.func (.func 129) #[] #[],.func (.func 130) #[] #[]],.slice a n c] w fun r w'=>r=.returned (.float .f64 (plF (neF xs).1 (neF xs).2))∧Below w.heap.size w w':=by
 have HR:Aside (Fs w.heap.size w a xs∧W64 xs∧n=xs.length):=⟨hF,hW,hn⟩;have HB0:Aside (Below w.heap.size w (w.alloc (Obj.cells #[.func (.func 129) #[] #[],.func (.func 130) #[] #[]] 153))∧Bl (w.alloc (Obj.cells #[.func (.func 129) #[] #[],.func (.func 130) #[] #[]] 153)) w.heap.size 153 [.func (.func 129) #[] #[],.func (.func 130) #[] #[]]):=⟨bel_alloc _ _,Bl.new _ _ _⟩;clear hF hW hn;go_enter Tryz.func131,Tryz.ntmps131;go_wp2
 go_loopg [11,5,6] n (fun gk i s q wr=>∃ (k y z:Nat),gk+k=n∧i=.int .i64 (k:Nat)∧s=.float .f64 y∧q=.float .f64 z∧Aside (Is y ((xs.take k).foldl neS (0,0)).1∧Is z ((xs.take k).foldl neS (0,0)).2∧Below w.heap.size w wr∧Bl wr w.heap.size 153 [.func (.func 129) #[] #[],.func (.func 130) #[] #[]]∧w.heap.size<wr.heap.size))
 case atStart=>exact ⟨0,0,0,by omega,by simp,rfl,rfl,is_zero,is_zero,HB0.out.1,HB0.out.2,by simp⟩
 case round =>
  obtain ⟨k,y,z,hgk,rfl,rfl,rfl,HA⟩:=hrel;have q0:=HA.out.2.2.2.1.cell 0 _ rfl;have q1:=HA.out.2.2.2.1.cell 1 _ rfl
  by_cases hk:k<n
  · obtain ⟨b,off,rfl,hcell⟩:=HR.out.1.at HA.out.2.2.1 k (by rw [←HR.out.2.2];exact hk)
    obtain ⟨x,hx⟩:∃ x,x=xs.getD k 0:=⟨_,rfl⟩;rw [←hx] at hcell
    have HP:Hid (∀ u:World,Calls Tryz.prog 129 #[.float .f64 y,.float .f64 z,.float .f64 x] u fun r w'=>∃ t v,r=.returned (.tuple #[.float .f64 t,.float .f64 v])∧Is t ((xs.take (k+1)).foldl neS (0,0)).1∧Is v ((xs.take (k+1)).foldl neS (0,0)).2∧Below u.heap.size u w'):=fun u=>by
     have hx64:x<18446744073709551616:=by rw [hx];exact HR.out.2.1.get k
     have h:=saved10 HA.out.1 HA.out.2.1 (Is.self hx64) u;obtain ⟨o1,o2,o3,o4⟩:=fold_ok neS neS_ok (xs.take k);rw [foldl_take neS (0,0) xs k (by rw [←HR.out.2.2];exact hk),←hx]
     rw [show (((xs.take k).foldl neS (0,0)).1,((xs.take k).foldl neS (0,0)).2)=(xs.take k).foldl neS (0,0) from rfl,neS_nrm hx64 o1 o3] at h
     exact h
    clear hx
    go_wp2_with fail
    refine (HP.out _).mono ?_;rintro r w2 ⟨t,v,rfl,ht,hv,hb2⟩;have HB:=qsd (ai ht (ai hv (ai (HA.out.2.2.1.trans (hb2.mono HA.out.2.2.1.size)) (ai (HA.out.2.2.2.1.below hb2 HA.out.2.2.2.2) (Nat.lt_of_lt_of_le HA.out.2.2.2.2 hb2.size)))));clear ht hv hb2 HP;go_wp2
    go_roundg (gk-1)
    case measure=>omega
    case rel=>exact ⟨k+1,t,v,by omega,by first | rfl | simp,rfl,rfl,HB.out⟩
  · have hd:decide ((k:Int)<n)=false:=by simp;omega
    have HK:=qsd (show xs.take k=xs by rw [List.take_of_length_le];rw [←HR.out.2.2];omega)
    have HE:=hid (fun u:World=>together10 HA.out.1 HA.out.2.1 u)
    go_wp2_with fail
    refine (HE.out _).mono ?_;rintro r w2 ⟨t,rfl,ht,hb2⟩;have HT:=hid (fun u:World=>told10 ht u)
    have HB:=qsd (HA.out.2.2.1.trans (hb2.mono HA.out.2.2.1.size));clear ht hb2 HE;rw [HK.out] at HT;obtain ⟨Y,hY⟩:∃ Y,Y=plF (xs.foldl neS (0,0)).1 (xs.foldl neS (0,0)).2:=⟨_,rfl⟩;rw [←hY] at HT;have HY:=qsd hY;clear hY
    go_wp2_with fail
    refine (HT.out _).mono ?_;rintro r w3 ⟨rfl,rfl⟩;go_wp2;refine bodyPost_ret (v:=.float .f64 Y) (by simp [results,Tryz.results131,go_sem]) rfl ?_
    exact ⟨by rw [HY.out];rfl,HB.out⟩
theorem Neumaier10 (xs:List Nat) (a:Option Addr) (n c:Nat) (w:World) (hn:n=xs.length) (hF:Fs w.heap.size w a xs) (hW:W64 xs) (hm:n≤4611686018427387904) :
 Calls Tryz.prog 79 #[.slice a n c] w fun r w'=>r=.returned (.float .f64 (plF (neF xs).1 (neF xs).2))∧Below w.heap.size w w':=by
 have H1:=hid (sumNeumaier xs a n c w hn hF hW hm);obtain ⟨y,hy⟩:∃ y,y=(plF (neF xs).1 (neF xs).2):=⟨_,rfl⟩;rw [←hy] at H1 ⊢;clear hn hF hW hm hy;go_enter Tryz.func79,Tryz.ntmps79
 go_wp2_with fail
 refine (H1.out).mono ?_;rintro r w1 ⟨rfl,hb⟩;have HB:=qsd hb;clear hb;go_wp2;exact bodyPost_ret (v:=.float .f64 y) (by simp [results,Tryz.results79,go_sem]) rfl ⟨rfl,HB.out⟩
end
section
open Go.RowKit J
theorem ldexp_pow10 (e E:Nat) (x:Int) (w:World) (he0:0<e) (he1:e<2047) (hE0:0<E) (hE:E<2047) (hx0:-3000≤x) (hx1:x≤3000) (hxE:(E:Int)=x+e) :
 Calls Tryz.prog 126 #[.float .f64 (B.bw false e 0),.int .i64 x] w fun r w'=>r=.returned (.float .f64 (B.bw false E 0))∧w'=w:=by
 have hb:B.bw false e 0=e*4503599627370496+0:=by unfold B.bw;simp
 have hd:B.bw false E 0=E*4503599627370496+0:=by unfold B.bw;simp
 exact B.ldexp_norm (B.bw false e 0) e 0 (B.bw false E 0) x (x+((e:Int)-1023)) ((E:Int)*4503599627370496) w (by rw [hb];omega) hx0 hx1 he0 he1 (by omega)
  (by rw [B.eq_zero false e 0 (by omega) (by omega)];simp;omega) (hid fun u=>B.isInf0 e 0 (by omega) (by omega) u) (hid fun u=>B.nan_no e 0 (by omega) (by omega) u) (hid fun u=>B.normalize_any e 0 he0 (by omega) (by omega) u)
  (B.bw_exp false e 0 (by omega) (by omega)) (B.mask_clear e 0 (by omega) (by omega)) rfl (by omega) (by omega) (by omega) (by omega) (by omega) (B.join_exp E 0 (by omega) (by omega)) (B.mul_one _ (by rw [hd];omega) (by rw [hd];omega) _)
theorem Ldexp100 (w:World):Calls Tryz.prog 77 #[.float .f64 4607182418800017408,.int .i64 100] w fun r w'=>r=.returned (.float .f64 5057542381537067008)∧w'=w:=by
 have H:=hid (ldexp_pow10 1023 1123 100 w (by decide) (by decide) (by decide) (by decide) (by decide) (by decide) (by decide))
 rw [show B.bw false 1023 0=4607182418800017408 by decide,show B.bw false 1123 0=5057542381537067008 by decide] at H
 go_enter Tryz.func77,Tryz.ntmps77
 go_wp2_with fail
 refine H.out.mono ?_;rintro r w1 ⟨rfl,rfl⟩;go_wp2;go_ret;exact ⟨rfl,rfl⟩
def lvL:List Nat:=[4607182418800017408,5057542381537067008,4607182418800017408,14280914418391842816]
theorem lv_run:runF lvL=0:=by kernel_rfl
theorem lv_ne:plF (neF lvL).1 (neF lvL).2=4611686018427387904:=by kernel_rfl
theorem lv_run2:runF [4607182418800017408,4611686018427387904]=4613937818241073152:=by kernel_rfl
theorem lv_s:sS lvL=⟨0,0,0,0,0,4⟩:=by kernel_rfl
theorem lv_v (k:Nat) (hk:k=2149):vS lvL=((2^k:Nat):Int):=by
 obtain ⟨j,hj⟩:∃ j,j=2144:=⟨_,rfl⟩;obtain ⟨i,hi⟩:∃ i,i=2248:=⟨_,rfl⟩;obtain ⟨m,hm⟩:∃ m,m=2148:=⟨_,rfl⟩;have h1:=pT_one m hm;have h2:=pT_pow 5057542381537067008 false j i (by decide) (by decide) (by decide) (by rw [hj];decide) (by omega)
 have h3:=pT_pow 14280914418391842816 true j i (by decide) (by decide) (by decide) (by rw [hj];decide) (by omega)
 simp only [vS,lvL,List.foldl_cons,List.foldl_nil];rw [h1,h2,h3,show k=m+1 by omega,Nat.pow_succ]
 unfold sgn7;simp only [Bool.false_eq_true,if_false,if_true];generalize (2^m:Nat)=A;generalize (2^i:Nat)=C;omega
theorem lv_rd:rd7 (vS lvL) (sS lvL) 0 0 0=(4611686018427387904,0):=by
 obtain ⟨k,hk⟩:∃ k,k=2149:=⟨_,rfl⟩;rw [lv_v k hk,lv_s];have h0:((2^k:Nat):Int)≠0:=by have:=Nat.two_pow_pos k;omega
 have e:ahd ((2^k:Nat):Int) ⟨0,0,0,0,0,4⟩ 0 0 0=(0,false,0):=by
  unfold ahd;rw [if_neg (by decide),if_neg h0]
 have ex:exV ((2^k:Nat):Int)=some (false,1,1):=by
  unfold exV;rw [decide_eq_false (Int.not_lt.mpr (Int.natCast_nonneg _)),Int.natAbs_natCast,mkS_pow7,hk]
  kernel_rfl
 have e2:rndS (mkS (dN (some (false,1,1))) (dX (some (false,1,1))) (dE (some (false,1,1)))) 0=(4611686018427387904,0):=by kernel_rfl
 unfold rd7;rw [e,ex,e2];rfl
theorem live10 (w:World) (hT:Tab w):Calls Tryz.prog 30 #[] w fun r w'=>r=.returned (.bool true)∧Below w.heap.size w w':=by
 have HL:=hid (fun u:World=>Ldexp100 u)
 have hneg:∀ u:World,Sem.run Tryz.prog (Op.unary UnOp.neg (Value.float FloatKind.f64 5057542381537067008)) u=.ok (.float .f64 14280914418391842816) u:=fun u=>by kernel_rfl
 have HT:=qsd hT;clear hT;go_enter Tryz.func30,Tryz.ntmps30
 go_wp2_with fail
 refine (HL.out _).mono ?_;rintro r u ⟨rfl,rfl⟩;clear HL;obtain ⟨W,hW⟩:∃ W,W=u.alloc (.cells #[.float .f64 4607182418800017408,.float .f64 5057542381537067008,.float .f64 4607182418800017408,.float .f64 14280914418391842816] 27):=⟨_,rfl⟩
 have HW:Aside (Bl W u.heap.size 27 [.float .f64 4607182418800017408,.float .f64 5057542381537067008,.float .f64 4607182418800017408,.float .f64 14280914418391842816]∧Below u.heap.size u W∧u.heap.size<W.heap.size):=by
  rw [hW];exact ⟨Bl.new _ _ _,bel_alloc _ _,by simp⟩
 have HF:Aside (∀ v:World,Below W.heap.size W v→Fs v.heap.size v (some ⟨u.heap.size,0,none⟩) lvL):=fun v hb=>by
  have hbl:=HW.out.1.below hb HW.out.2.2;refine fun _=>⟨u.heap.size,0,hbl.lt,rfl,fun i hi=>?_⟩
  have hc:i=0∨i=1∨i=2∨i=3:=by simp [lvL] at hi;omega
  rw [Nat.zero_add]
  rcases hc with rfl|rfl|rfl|rfl <;> exact hbl.cell _ _ rfl
 have hW64:W64 lvL:=by intro x hx;simp only [lvL,List.mem_cons,List.not_mem_nil,or_false] at hx;rcases hx with rfl | rfl | rfl | rfl <;> decide
 have E1:=hid (Exact10 lvL (some ⟨u.heap.size,0,none⟩) 4 4 0 0 0 W rfl (HF.out W (Below.refl _ _)) hW64 (HT.out.belows HW.out.2.1) (by decide) (by decide) (by decide) (by decide) (by decide) (by decide))
 rw [lv_rd] at E1;have E2:=hid (fun (v:World) (hb:Below W.heap.size W v)=>Running10 lvL (some ⟨u.heap.size,0,none⟩) 4 4 v rfl (HF.out v hb) hW64 (by decide) (by decide))
 rw [lv_run] at E2;have E3:=hid (fun (v:World) (hb:Below W.heap.size W v)=>Neumaier10 lvL (some ⟨u.heap.size,0,none⟩) 4 4 v rfl (HF.out v hb) hW64 (by decide))
 rw [lv_ne] at E3;have q1:(FloatKind.f64.format.order 4611686018427387904 4611686018427387904==some .eq)=true:=by kernel_rfl
 have q2:(FloatKind.f64.format.order 0 0==some .eq)=true:=by kernel_rfl
 have q3:(FloatKind.f64.format.order 4613937818241073152 4613937818241073152==some .eq)=true:=by kernel_rfl
 have HWW:=qsd hW;clear hW hW64
 go_wp2_with fail
 rw [←HWW.out];refine (E1.out).mono ?_;rintro r v1 ⟨rfl,hb1⟩;have B1:=qsd hb1;clear hb1 E1
 go_wp2_with fail
 refine (E2.out _ B1.out).mono ?_;rintro r v2 ⟨rfl,hb2⟩;have B2:=qsd (B1.out.trans (hb2.mono B1.out.size));clear hb2 E2
 go_wp2_with fail
 refine (E3.out _ B2.out).mono ?_;rintro r v3 ⟨rfl,hb3⟩;have B3:=qsd (B2.out.trans (hb3.mono B2.out.size));clear hb3 E3;obtain ⟨W2,hW2⟩:∃ W2,W2=v3.alloc (.cells #[.float .f64 4607182418800017408,.float .f64 4611686018427387904] 27):=⟨_,rfl⟩
 have H2:Aside (Bl W2 v3.heap.size 27 [.float .f64 4607182418800017408,.float .f64 4611686018427387904]∧Below v3.heap.size v3 W2∧v3.heap.size<W2.heap.size):=by
  rw [hW2];exact ⟨Bl.new _ _ _,bel_alloc _ _,by simp⟩
 have E4:=hid (Running10 [4607182418800017408,4611686018427387904] (some ⟨v3.heap.size,0,none⟩) 2 2 W2 rfl (fun _=>⟨v3.heap.size,0,H2.out.2.2,rfl,fun i hi=>by
  have hc:i=0∨i=1:=by simp at hi;omega
  rw [Nat.zero_add]
  rcases hc with rfl|rfl <;> exact H2.out.1.cell _ _ rfl⟩) (by intro x hx;simp only [List.mem_cons,List.not_mem_nil,or_false] at hx;rcases hx with rfl|rfl <;> decide) (by decide) (by decide))
 rw [lv_run2] at E4;have HW2:=qsd hW2;clear hW2
 go_wp2_with fail
 rw [←HW2.out];refine (E4.out).mono ?_;rintro r v4 ⟨rfl,hb4⟩;have B4:=qsd hb4;clear hb4 E4;go_wp2;go_ret;have b1:=HW.out.2.1.trans (B3.out.mono HW.out.2.1.size);have b2:=b1.trans (H2.out.2.1.mono b1.size);exact ⟨rfl,b2.trans (B4.out.mono b2.size)⟩
end
section
open Go.RowKit J
section
attribute [local go_sem] B.f64bits B.f64frombits st_float
theorem exact12 (x:Nat) (w:World):Calls Tryz.prog 34 #[.float .f64 x,.float .f64 x] w fun r w'=>r=.returned (.bool true)∧w'=w:=by
 have h:(((x:Nat):Int)==((x:Nat):Int))=true:=by simp
 go_enter Tryz.func34,Tryz.ntmps34;go_wp2;go_ret;exact ⟨by first | rfl | simp,rfl⟩
end
theorem lent8_fs {w:World}{g:Nat}{xs:List Nat}(h:OwnF w g (xs++List.replicate 8 mrk10)):Fs w.heap.size w (some ⟨g,0,none⟩) xs:=by
 have:=h.fs h.lt xs.length;rw [show (xs++List.replicate 8 mrk10).take xs.length=xs by simp] at this
 exact this
set_option maxRecDepth 100000 in
theorem walk2_SumsExacts (a:Option Addr) (n c:Nat) (xs:List Nat) (mode pa pb:Int) (w:World) (hT:Tab w) (hC:CameF w a n c xs) (hm:n≤17592186043904) :
 Calls Tryz.prog 8 #[.slice a n c,.int .i64 mode,.agg #[.int .i64 pa,.int .i64 pb]] w fun r w'=>r=.returned (.bool true)∧Below w.heap.size w w':=by
 obtain ⟨hl1,_,hW1,hF1,_⟩:=hC;have up:∀ u:World,Below w.heap.size w u→Fs u.heap.size u a xs∧Tab u∧Fs w.heap.size u a xs:=fun u hb=>⟨(hF1.below hb).mono hb.size,hT.belows hb,hF1.below hb⟩
 obtain ⟨⟨X1,E1⟩,h1⟩:∃ r,exR xs mode pa pb=r:=⟨_,rfl⟩;have HA:=hid (fun (u:World) (hb:Below w.heap.size w u)=>live10 u (up u hb).2.1)
 have HL:=hid (fun (u:World) (hb:Below w.heap.size w u)=>rLent10 xs a n c u.heap.size u hl1 hm (up u hb).1 (Nat.le_refl _))
 have HE:Hid (∀ (u:World) (g:Nat),Below w.heap.size w u→OwnF u g (xs++List.replicate 8 mrk10)→Calls Tryz.prog 23 #[.slice (some ⟨g,0,none⟩) n (n+8),.int .i64 mode,.agg #[.int .i64 pa,.int .i64 pb]] u fun r w'=>r=.returned (.tuple #[.float .f64 X1,.int .i64 E1])∧Below u.heap.size u w'):=fun u g hb ho=>by
  have:=Exact12 xs (some ⟨g,0,none⟩) n (n+8) mode pa pb u hl1 (lent8_fs ho) hW1 (up u hb).2.1;rw [h1] at this;exact this
 have HK:=hid (fun (u:World) (g:Nat) (hb:Below w.heap.size w u) (ho:OwnF u g (xs++List.replicate 8 mrk10))=>rAsLent10 xs a n c u.heap.size g u hl1 hm (up u hb).1 (Nat.le_refl _) ho)
 have HQ:Hid (∀ u:World,Below w.heap.size w u→Calls Tryz.prog 33 #[.slice a n c,.int .i64 mode,.agg #[.int .i64 pa,.int .i64 pb]] u fun r w'=>r=.returned (.tuple #[.float .f64 X1,.int .i64 E1])∧Below u.heap.size u w'):=fun u hb=>by
  have:=rExact12 xs a n c mode pa pb u hl1 (up u hb).1 hW1 hm;rw [h1] at this;exact this
 clear hl1 hW1 hF1 up h1 hT hm;obtain ⟨W,hW⟩:∃ W,W=w.alloc (Obj.cells #[.int .i64 pa,.int .i64 pb] 24):=⟨_,rfl⟩;have B0:Aside (Below w.heap.size w W∧Bl W w.heap.size 24 [.int .i64 pa,.int .i64 pb]):=by rw [hW];exact ⟨bel_alloc _ _,Bl.new w 24 [_,_]⟩
 go_enter Tryz.func8,Tryz.ntmps8
 go_wp2_with fail
 rw [←hW];clear hW;refine (HA.out _ B0.out.1).mono ?_;rintro r u1 ⟨rfl,hb⟩;have B1:=qsd (ai (B0.out.1.trans (hb.mono B0.out.1.size)) (B0.out.2.below hb B0.out.2.lt));clear hb HA B0
 go_wp2_with fail
 refine (HL.out _ B1.out.1).mono ?_;rintro r u2 ⟨rfl,ho,hb⟩;obtain ⟨g,hg⟩:∃ g,g=u1.heap.size:=⟨_,rfl⟩;rw [←hg] at ho ⊢;have B2:Aside (Below w.heap.size w u2∧OwnF u2 g (xs++List.replicate 8 mrk10)∧Bl u2 w.heap.size 24 [.int .i64 pa,.int .i64 pb]):=⟨B1.out.1.trans (hb.mono B1.out.1.size),ho,B1.out.2.below hb B1.out.2.lt⟩;clear hb ho hg B1 HL;have p0:=B2.out.2.2.cell 0 _ rfl;have p1:=B2.out.2.2.cell 1 _ rfl
 go_wp2_with fail
 refine (HE.out _ g B2.out.1 B2.out.2.1).mono ?_;rintro r u3 ⟨rfl,hb⟩;have B3:Aside (Below w.heap.size w u3∧OwnF u3 g (xs++List.replicate 8 mrk10)∧Bl u3 w.heap.size 24 [.int .i64 pa,.int .i64 pb]):=⟨B2.out.1.trans (hb.mono B2.out.1.size),B2.out.2.1.below hb B2.out.2.1.lt,B2.out.2.2.below hb B2.out.2.2.lt⟩;clear hb B2 HE p0 p1
 go_wp2_with fail
 refine (HK.out _ g B3.out.1 B3.out.2.1).mono ?_;rintro r u4 ⟨rfl,hb⟩;have B4:Aside (Below w.heap.size w u4∧Bl u4 w.heap.size 24 [.int .i64 pa,.int .i64 pb]):=⟨B3.out.1.trans (hb.mono B3.out.1.size),B3.out.2.2.below hb B3.out.2.2.lt⟩;clear hb B3 HK;have p0:=B4.out.2.cell 0 _ rfl;have p1:=B4.out.2.cell 1 _ rfl
 go_wp2_with fail
 refine (HQ.out _ B4.out.1).mono ?_;rintro r u5 ⟨rfl,hb⟩;have B5:=qsd (B4.out.1.trans (hb.mono B4.out.1.size));clear hb B4 HQ p0 p1;have e1:(E1==E1)=true:=by simp
 go_wp2_with fail
 refine (exact12 X1 _).mono ?_;rintro r u9 ⟨rfl,rfl⟩;go_wp2;go_ret;exact ⟨rfl,B5.out⟩
end
section
open Go.ChangeShapes Go.WideShapes Go.ChangeAt Go.RowKit
theorem ints_of12 {H:Type}{enc:TypeId×Value→H}{W:World}{k:Nat}{c:Value}{x:Option (DataW H×List MemPlace)}{y:DataW H×List MemPlace}(h:DataW.trod enc Tryz.prog W 0 (fun _=>true) true k 3 [c]=x) (hx:x=some y):∃ n:Int,c=.int .i64 n∧y.1=.lit (.int .i64 n)∧-9223372036854775808≤n∧n≤9223372036854775807:=by
 subst hx;obtain ⟨e,e2,rfl,hw⟩:=DataW.trod_int Tryz.underlying3 h
 cases e2
 have hw':-9223372036854775808≤e∧e≤9223372036854775807:=by
  simp [Lit.wf,IntKind.min,IntKind.max,IntKind.signed,IntKind.bits] at hw;omega
 exact ⟨e,rfl,rfl,hw'.1,hw'.2⟩
theorem pol_of12 {H:Type}{enc:TypeId×Value→H}{W:World}{r:Reach}{b0:Nat}{v:Value}{d:DataW H}{p:List MemPlace}(hv:Value.okWide Tryz.prog W r b0 24 v) (h:DataW.Trod enc Tryz.prog W 0 (fun _=>true) true 24 v d p) :
 ∃ a b:Int,v=.agg #[.int .i64 a,.int .i64 b]:=by
 obtain ⟨cs,rfl,hsz⟩:=okWide_struct Tryz.underlying24 hv;obtain ⟨fuel,hf⟩:=h;have hC:Tryz.prog.cellsOf 24=2:=by kernel_rfl
 have c3:Tryz.prog.cellsOf 3=1:=by kernel_rfl
 obtain ⟨xs,k,rfl,hx,hl,hxl,hfs⟩:=DataW.trod_struct Tryz.underlying24 hf;rw [hC] at hsz
 obtain ⟨c0,c1,rfl⟩:∃ c0 c1,cs=#[c0,c1]:=by
  obtain ⟨l⟩:=cs
  match l,hsz with
  | [a,b],_=>exact ⟨a,b,rfl⟩
 have h0:DataW.trod enc Tryz.prog W 0 (fun _=>true) true k 3 (List.take (Tryz.prog.cellsOf 3) (List.drop 0 [c0,c1]))=xs[0]?:=hfs 0 _ rfl
 have h1:DataW.trod enc Tryz.prog W 0 (fun _=>true) true k 3 (List.take (Tryz.prog.cellsOf 3) (List.drop 1 [c0,c1]))=xs[1]?:=hfs 1 _ rfl
 rw [c3] at h0 h1
 match xs,hxl with
 | [x0,x1],_ =>
   obtain ⟨a,rfl,_⟩:=ints_of12 (c:=c0) h0 rfl;obtain ⟨b,rfl,_⟩:=ints_of12 (c:=c1) h1 rfl;exact ⟨a,b,rfl⟩
end
end Go.Proofs.YthfkleadcnkglaaGreatDoor
