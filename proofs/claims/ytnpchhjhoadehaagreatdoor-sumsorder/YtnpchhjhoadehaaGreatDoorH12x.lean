import Derived.Test.YtnpchhjhoadehaaGreatDoorS15x
import Derived.Test.YtnpchhjhoadehaaGreatDoorD16x
import Derived.Test.YtnpchhjhoadehaaGreatDoorJ11x
import Derived.Test.YtnpchhjhoadehaaGreatDoorM1x
import Derived.Test.YtnpchhjhoadehaaGreatDoorS9x
import Derived.Laws.BitsLemmas
import Derived.Deep.RegionHeld3
import Derived.LoopN
set_option linter.unusedVariables false
set_option linter.unusedSimpArgs false
set_option maxHeartbeats 16000000
set_option maxRecDepth 20000
namespace Go.Proofs.YtnpchhjhoadehaaGreatDoor
namespace J
end J
section
open Go.RowKit J
theorem ldexp_pow10 (e E:Nat) (x:Int) (w:World) (he0:0<e) (he1:e<2047) (hE0:0<E) (hE:E<2047) (hx0:-3000≤x) (hx1:x≤3000) (hxE:(E:Int)=x+e) :
 Calls Tryz.prog 30 #[.float .f64 (B.bw false e 0),.int .i64 x] w fun r w'=>r=.returned (.float .f64 (B.bw false E 0))∧w'=w:=by
 have hb:B.bw false e 0=e*4503599627370496+0:=by unfold B.bw;simp
 have hd:B.bw false E 0=E*4503599627370496+0:=by unfold B.bw;simp
 exact B.ldexp_norm (B.bw false e 0) e 0 (B.bw false E 0) x (x+((e:Int)-1023)) ((E:Int)*4503599627370496) w (by rw [hb];omega) hx0 hx1 he0 he1 (by omega)
  (by rw [B.eq_zero false e 0 (by omega) (by omega)];simp;omega) (hid fun u=>B.isInf0 e 0 (by omega) (by omega) u) (hid fun u=>B.nan_no e 0 (by omega) (by omega) u) (hid fun u=>B.normalize_any e 0 he0 (by omega) (by omega) u)
  (B.bw_exp false e 0 (by omega) (by omega)) (B.mask_clear e 0 (by omega) (by omega)) rfl (by omega) (by omega) (by omega) (by omega) (by omega) (B.join_exp E 0 (by omega) (by omega)) (B.mul_one _ (by rw [hd];omega) (by rw [hd];omega) _)
theorem Ldexp100 (w:World):Calls Tryz.prog 13 #[.float .f64 4607182418800017408,.int .i64 100] w fun r w'=>r=.returned (.float .f64 5057542381537067008)∧w'=w:=by
 have H:=hid (ldexp_pow10 1023 1123 100 w (by decide) (by decide) (by decide) (by decide) (by decide) (by decide) (by decide))
 rw [show B.bw false 1023 0=4607182418800017408 by decide,show B.bw false 1123 0=5057542381537067008 by decide] at H
 go_enter Tryz.func13,Tryz.ntmps13
 go_wp2_with fail
 refine H.out.mono ?_;rintro r w1 ⟨rfl,rfl⟩;go_wp2;go_ret;exact ⟨rfl,rfl⟩
def lvL:List Nat:=[4607182418800017408,5057542381537067008,4607182418800017408,14280914418391842816]
theorem lv_run:runF lvL=0:=by kernel_rfl
theorem lv_ne:plF (neF lvL).1 (neF lvL).2=4611686018427387904:=by kernel_rfl
theorem lv_run2:runF [4607182418800017408,4611686018427387904]=4613937818241073152:=by kernel_rfl
theorem lv_s:sS lvL=⟨0,0,0,0,0,4⟩:=by kernel_rfl
theorem lv_v (k:Nat) (hk:k=2149):vS lvL=((2^k:Nat):Int):=by
 obtain ⟨j,hj⟩:∃ j,j=2144:=⟨_,rfl⟩;obtain ⟨i,hi⟩:∃ i,i=2248:=⟨_,rfl⟩;obtain ⟨m,hm⟩:∃ m,m=2148:=⟨_,rfl⟩;have h1:=pT_one m hm;have h2:=pT_pow 5057542381537067008 false j i (by decide) (by decide) (by decide) (by rw [hj];decide) (by omega)
 have h3:=pT_pow 14280914418391842816 true j i (by decide) (by decide) (by decide) (by rw [hj];decide) (by omega)
 simp only [vS,lvL,List.foldl_cons,List.foldl_nil];rw [h1,h2,h3,show k=m+1 by omega,Nat.pow_succ]
 unfold sgn7;simp only [Bool.false_eq_true,if_false,if_true];generalize (2^m:Nat)=A;generalize (2^i:Nat)=C;omega
theorem lv_rd:rd7 (vS lvL) (sS lvL) 0 0 0=(4611686018427387904,0):=by
 obtain ⟨k,hk⟩:∃ k,k=2149:=⟨_,rfl⟩;rw [lv_v k hk,lv_s];have h0:((2^k:Nat):Int)≠0:=by have:=Nat.two_pow_pos k;omega
 have e:ahd ((2^k:Nat):Int) ⟨0,0,0,0,0,4⟩ 0 0 0=(0,false,0):=by
  unfold ahd;rw [if_neg (by decide),if_neg h0]
 have ex:exV ((2^k:Nat):Int)=some (false,1,1):=by
  unfold exV;rw [decide_eq_false (Int.not_lt.mpr (Int.natCast_nonneg _)),Int.natAbs_natCast,mkS_pow7,hk]
  kernel_rfl
 have e2:rndS (mkS (dN (some (false,1,1))) (dX (some (false,1,1))) (dE (some (false,1,1)))) 0=(4611686018427387904,0):=by kernel_rfl
 unfold rd7;rw [e,ex,e2];rfl
theorem live10 (w:World) (hT:Tab w):Calls Tryz.prog 5 #[] w fun r w'=>r=.returned (.bool true)∧Below w.heap.size w w':=by
 have HL:=hid (fun u:World=>Ldexp100 u)
 have hneg:∀ u:World,Sem.run Tryz.prog (Op.unary UnOp.neg (Value.float FloatKind.f64 5057542381537067008)) u=.ok (.float .f64 14280914418391842816) u:=fun u=>by kernel_rfl
 have HT:=qsd hT;clear hT;go_enter Tryz.func5,Tryz.ntmps5
 go_wp2_with fail
 refine (HL.out _).mono ?_;rintro r u ⟨rfl,rfl⟩;clear HL;obtain ⟨W,hW⟩:∃ W,W=u.alloc (.cells #[.float .f64 4607182418800017408,.float .f64 5057542381537067008,.float .f64 4607182418800017408,.float .f64 14280914418391842816] 28):=⟨_,rfl⟩
 have HW:Aside (Bl W u.heap.size 28 [.float .f64 4607182418800017408,.float .f64 5057542381537067008,.float .f64 4607182418800017408,.float .f64 14280914418391842816]∧Below u.heap.size u W∧u.heap.size<W.heap.size):=by
  rw [hW];exact ⟨Bl.new _ _ _,bel_alloc _ _,by simp⟩
 have HF:Aside (∀ v:World,Below W.heap.size W v→Fs v.heap.size v (some ⟨u.heap.size,0,none⟩) lvL):=fun v hb=>by
  have hbl:=HW.out.1.below hb HW.out.2.2;refine fun _=>⟨u.heap.size,0,hbl.lt,rfl,fun i hi=>?_⟩
  have hc:i=0∨i=1∨i=2∨i=3:=by simp [lvL] at hi;omega
  rw [Nat.zero_add]
  rcases hc with rfl|rfl|rfl|rfl <;> exact hbl.cell _ _ rfl
 have hW64:W64 lvL:=by intro x hx;simp only [lvL,List.mem_cons,List.not_mem_nil,or_false] at hx;rcases hx with rfl | rfl | rfl | rfl <;> decide
 have E1:=hid (Exact10 lvL (some ⟨u.heap.size,0,none⟩) 4 4 0 0 0 W rfl (HF.out W (Below.refl _ _)) hW64 (HT.out.belows HW.out.2.1) (by decide) (by decide) (by decide) (by decide) (by decide) (by decide))
 rw [lv_rd] at E1;have E2:=hid (fun (v:World) (hb:Below W.heap.size W v)=>Running10 lvL (some ⟨u.heap.size,0,none⟩) 4 4 v rfl (HF.out v hb) hW64 (by decide) (by decide))
 rw [lv_run] at E2;have E3:=hid (fun (v:World) (hb:Below W.heap.size W v)=>Neumaier10 lvL (some ⟨u.heap.size,0,none⟩) 4 4 v rfl (HF.out v hb) hW64 (by decide))
 rw [lv_ne] at E3;have q1:(FloatKind.f64.format.order 4611686018427387904 4611686018427387904==some .eq)=true:=by kernel_rfl
 have q2:(FloatKind.f64.format.order 0 0==some .eq)=true:=by kernel_rfl
 have q3:(FloatKind.f64.format.order 4613937818241073152 4613937818241073152==some .eq)=true:=by kernel_rfl
 have HWW:=qsd hW;clear hW hW64
 go_wp2_with fail
 rw [←HWW.out];refine (E1.out).mono ?_;rintro r v1 ⟨rfl,hb1⟩;have B1:=qsd hb1;clear hb1 E1
 go_wp2_with fail
 refine (E2.out _ B1.out).mono ?_;rintro r v2 ⟨rfl,hb2⟩;have B2:=qsd (B1.out.trans (hb2.mono B1.out.size));clear hb2 E2
 go_wp2_with fail
 refine (E3.out _ B2.out).mono ?_;rintro r v3 ⟨rfl,hb3⟩;have B3:=qsd (B2.out.trans (hb3.mono B2.out.size));clear hb3 E3;obtain ⟨W2,hW2⟩:∃ W2,W2=v3.alloc (.cells #[.float .f64 4607182418800017408,.float .f64 4611686018427387904] 28):=⟨_,rfl⟩
 have H2:Aside (Bl W2 v3.heap.size 28 [.float .f64 4607182418800017408,.float .f64 4611686018427387904]∧Below v3.heap.size v3 W2∧v3.heap.size<W2.heap.size):=by
  rw [hW2];exact ⟨Bl.new _ _ _,bel_alloc _ _,by simp⟩
 have E4:=hid (Running10 [4607182418800017408,4611686018427387904] (some ⟨v3.heap.size,0,none⟩) 2 2 W2 rfl (fun _=>⟨v3.heap.size,0,H2.out.2.2,rfl,fun i hi=>by
  have hc:i=0∨i=1:=by simp at hi;omega
  rw [Nat.zero_add]
  rcases hc with rfl|rfl <;> exact H2.out.1.cell _ _ rfl⟩) (by intro x hx;simp only [List.mem_cons,List.not_mem_nil,or_false] at hx;rcases hx with rfl|rfl <;> decide) (by decide) (by decide))
 rw [lv_run2] at E4;have HW2:=qsd hW2;clear hW2
 go_wp2_with fail
 rw [←HW2.out];refine (E4.out).mono ?_;rintro r v4 ⟨rfl,hb4⟩;have B4:=qsd hb4;clear hb4 E4;go_wp2;go_ret;have b1:=HW.out.2.1.trans (B3.out.mono HW.out.2.1.size);have b2:=b1.trans (H2.out.2.1.mono b1.size);exact ⟨rfl,b2.trans (B4.out.mono b2.size)⟩
end
section
open Go.RowKit
theorem ahead10 (g:Nat) (V:Int) (s:Sp) (mode a b:Int) (w:World) (hA:Acc7 w g V s) (hs:s.ok) (hm0:0≤mode) (hm1:mode≤4) (hab:may a b=true) (ha:¬ (0<s.n∧a=2)) (hb:¬ (0<s.u+s.d∧b=2)) :
 Calls Tryz.prog 39 #[.pointer (some ⟨g,0,none⟩),.int .i64 mode,.agg #[.int .i64 a,.int .i64 b]] w fun r w'=>r=.returned (.tuple #[.float .f64 (ahd V s mode a b).1,.bool (ahd V s mode a b).2.1,.int .i64 (ahd V s mode a b).2.2])∧Below w.heap.size w w':=by
 obtain ⟨⟨X,tl,er⟩,hX⟩:∃ X,X=ahd V s mode a b:=⟨_,rfl⟩;rw [←hX];simp only;obtain ⟨L,a1,a2,a3,a4,a5,a6⟩:=hA;have hz:=zero_words L V a1 a2 a3 a4 a5;obtain ⟨n,u,d,m,p,l⟩:=s;have HM:=hid (fun u:World=>May_any a b u)
 rw [hab] at HM;have HV:=hid (fun w:World=>Verdict_any n u d m p l a b w)
 have HN:=hid (fun w:World=>Nought_any n u d m p l mode w)
 obtain ⟨⟨vx,vt⟩,hvd⟩:∃ v,v=vd (snd n u d m p l&&may a b) n u d a b:=⟨_,rfl⟩;obtain ⟨nx,hnt⟩:∃ v,v=nt (snd n u d m p l) n u d m p l mode:=⟨_,rfl⟩;rw [←hvd] at HV;rw [←hnt] at HN;simp only at HV;simp only [ahd] at hX;rw [←hvd,←hnt] at hX;simp only at hX;have HX:=qsd hX;have HA:=qsd (ai a1 (ai a6 hz));have hlt:=a6.lt;have hne:g≠w.heap.size:=Nat.ne_of_lt hlt;have hne1:g≠w.heap.size+1:=by omega
 have c0:=a6.cell a1 0 _ rfl;have c1:=a6.cell a1 1 _ rfl;have c2:=a6.cell a1 2 _ rfl;have c3:=a6.cell a1 3 _ rfl;have c4:=a6.cell a1 4 _ rfl;have c5:=a6.cell a1 5 _ rfl;obtain ⟨h0,h1,h2,h3,h4,h5⟩:=hs;have ha1:¬ (0<n∧a=2):=ha;have hb1:¬ (0<u+d∧b=2):=hb;have b0:decide (mode<0)=false:=by simp;omega
 have b1:decide (4<mode)=false:=by simp;omega
 clear a1 a2 a3 a4 a5 a6 hX hvd hnt hab ha hb hz;go_enter Tryz.func39,Tryz.ntmps39
 go_wp2_with fail
 refine (HM.out _).mono ?_;rintro r w1 ⟨rfl,hb1⟩;have hz1:w.heap.size+1<w1.heap.size:=by have:=hb1.size;simp at this;omega
 have B1:=qsd hb1
 have P1:Aside (Bl w1 w.heap.size 25 [.int .i64 a,.int .i64 b]∧Bl w1 (w.heap.size+1) 64 [.int .i64 n,.int .i64 u,.int .i64 d,.int .i64 m,.int .i64 p,.int .i64 l]∧Below w.heap.size w w1∧Ac w1 g L ⟨n,u,d,m,p,l⟩):=by
  have e0:=(bel_alloc w (Obj.cells #[.int .i64 a,.int .i64 b] 25)).trans ((bel_alloc (w.alloc (Obj.cells #[.int .i64 a,.int .i64 b] 25)) (Obj.cells #[.int .i64 n,.int .i64 u,.int .i64 d,.int .i64 m,.int .i64 p,.int .i64 l] 64)).mono (by simp))
  have e1:=e0.trans (hb1.mono e0.size);exact ⟨(((Bl.new w 25 [_,_]).alloc _).below hb1 (by simp;omega)),((Bl.new' (w.alloc _) 64 _ [_,_,_,_,_,_] (by simp)).below hb1 (by simp)),e1,HA.out.2.1.below e1 HA.out.2.1.lt⟩
 clear hb1 c0 c1 c2 c3 c4 c5;have q0:=P1.out.1.cell 0 _ rfl;have q1:=P1.out.1.cell 1 _ rfl;have s0:=P1.out.2.1.cell 0 _ rfl;have s1:=P1.out.2.1.cell 1 _ rfl;have s2:=P1.out.2.1.cell 2 _ rfl;have s3:=P1.out.2.1.cell 3 _ rfl;have s4:=P1.out.2.1.cell 4 _ rfl;have s5:=P1.out.2.1.cell 5 _ rfl
 have hca:(0<n∧(a==2)=false)∨n≤0:=by
  by_cases h:0<n
  · exact .inl ⟨h,by simp;intro e;exact ha1 ⟨h,e⟩⟩
  · exact .inr (by omega)
 have hcb:(0<u+d∧(b==2)=false)∨u+d≤0:=by
  by_cases h:0<u+d
  · exact .inl ⟨h,by simp;intro e;exact hb1 ⟨h,e⟩⟩
  · exact .inr (by omega)
 clear ha1 hb1
 rcases hca with ⟨hn,ha'⟩|hn <;> rcases hcb with ⟨hu,hb'⟩|hu
 all_goals (
  go_wp2_with fail
  refine (HV.out _).mono ?_;rintro r w2 ⟨rfl,hb2⟩
  have P2:Aside (Bl w2 (w.heap.size+1) 64 [.int .i64 n,.int .i64 u,.int .i64 d,.int .i64 m,.int .i64 p,.int .i64 l]∧Below w.heap.size w w2∧Ac w2 g L ⟨n,u,d,m,p,l⟩) :=
   ⟨P1.out.2.1.below hb2 P1.out.2.1.lt,P1.out.2.2.1.trans (hb2.mono P1.out.2.2.1.size),P1.out.2.2.2.below hb2 P1.out.2.2.2.lt⟩
  clear hb2 q0 q1 s0 s1 s2 s3 s4 s5 hn hu
  cases vt
  · have s0:=P2.out.1.cell 0 _ rfl
    have s1:=P2.out.1.cell 1 _ rfl;have s2:=P2.out.1.cell 2 _ rfl;have s3:=P2.out.1.cell 3 _ rfl;have s4:=P2.out.1.cell 4 _ rfl;have s5:=P2.out.1.cell 5 _ rfl
    go_wp2_with (first | (with_reducible refine wpList_load_mid (P:=Tryz.prog) rfl 62 (.tmp 57) rfl g 0 rfl (L.map U) _ P2.out.2.2.range Tryz.desc_words rfl (by simp [Tryz.size_words,HA.out.1]) ?_))
    rw [Tryz.nought_words,eq_words L _ w2 HA.out.1 (by simp),HA.out.2.2]
    generalize (List.replicate 133 0).map U=zz
    by_cases hV:V=0
    · rw [decide_eq_true hV]
      simp only [Result.andThen_ok,Oper.upon];have HX2:=qsd (show (X,tl,er)=(nx,true,0) by rw [HX.out,if_neg (by decide),if_pos hV])
      clear hV
      go_wp2_with fail
      refine (HN.out _).mono ?_;rintro r w3 ⟨rfl,hb3⟩;have B3:=qsd hb3;clear hb3;go_wp2;refine bodyPost_ret (v:=.tuple #[.float .f64 nx,.bool true,.int .i64 0]) (by simp [results,Tryz.results39,go_sem]) rfl ?_
      have e:=HX2.out
      cases e
      exact ⟨rfl,P2.out.2.1.trans (B3.out.mono P2.out.2.1.size)⟩
    · rw [decide_eq_false hV]
      simp only [Result.andThen_ok,Oper.upon];have HX2:=qsd (show (X,tl,er)=(0,false,0) by rw [HX.out,if_neg (by decide),if_neg hV])
      clear hV;go_wp2;refine bodyPost_ret (v:=.tuple #[.float .f64 0,.bool false,.int .i64 0]) (by simp [results,Tryz.results39,go_sem]) rfl ?_
      have e:=HX2.out
      cases e
      exact ⟨rfl,P2.out.2.1⟩
  · go_wp2
    refine bodyPost_ret (v:=.tuple #[.float .f64 vx,.bool true,.int .i64 0]) (by simp [results,Tryz.results39,go_sem]) rfl ?_
    have e:=HX.out;rw [if_pos trivial] at e
    cases e
    exact ⟨rfl,P2.out.2.1⟩)
theorem ahead10_nan (g:Nat) (V:Int) (s:Sp) (mode a b:Int) (w:World) (hA:Acc7 w g V s) (hs:s.ok) (hm0:0≤mode) (hm1:mode≤4) (hab:may a b=true) (hx:0<s.n∧a=2) :
 Calls Tryz.prog 39 #[.pointer (some ⟨g,0,none⟩),.int .i64 mode,.agg #[.int .i64 a,.int .i64 b]] w fun r w'=>r=.returned (.tuple #[.float .f64 0,.bool false,.int .i64 60])∧Below w.heap.size w w':=by
 obtain ⟨L,a1,a2,a3,a4,a5,a6⟩:=hA;obtain ⟨n,u,d,m,p,l⟩:=s;have HM:=hid (fun u:World=>May_any a b u)
 rw [hab] at HM;have HA:=qsd (ai a1 a6);have hlt:=a6.lt;have hne:g≠w.heap.size:=Nat.ne_of_lt hlt;have hne1:g≠w.heap.size+1:=by omega
 have c0:=a6.cell a1 0 _ rfl;have c1:=a6.cell a1 1 _ rfl;have c2:=a6.cell a1 2 _ rfl;have c3:=a6.cell a1 3 _ rfl;have c4:=a6.cell a1 4 _ rfl;have c5:=a6.cell a1 5 _ rfl;obtain ⟨h0,h1,h2,h3,h4,h5⟩:=hs;have b0:decide (mode<0)=false:=by simp;omega
 have b1:decide (4<mode)=false:=by simp;omega
 have hn:0<n:=hx.1;have ha2:(a==2)=true:=by simpa using hx.2
 clear hx;clear a1 a2 a3 a4 a5 a6 hab;go_enter Tryz.func39,Tryz.ntmps39
 go_wp2_with fail
 refine (HM.out _).mono ?_;rintro r w1 ⟨rfl,hb1⟩
 have P1:Aside (Bl w1 w.heap.size 25 [.int .i64 a,.int .i64 b]∧Bl w1 (w.heap.size+1) 64 [.int .i64 n,.int .i64 u,.int .i64 d,.int .i64 m,.int .i64 p,.int .i64 l]∧Below w.heap.size w w1):=by
  have e0:=(bel_alloc w (Obj.cells #[.int .i64 a,.int .i64 b] 25)).trans ((bel_alloc (w.alloc (Obj.cells #[.int .i64 a,.int .i64 b] 25)) (Obj.cells #[.int .i64 n,.int .i64 u,.int .i64 d,.int .i64 m,.int .i64 p,.int .i64 l] 64)).mono (by simp))
  have e1:=e0.trans (hb1.mono e0.size);exact ⟨(((Bl.new w 25 [_,_]).alloc _).below hb1 (by simp;omega)),((Bl.new' (w.alloc _) 64 _ [_,_,_,_,_,_] (by simp)).below hb1 (by simp)),e1⟩
 clear hb1 c0 c1 c2 c3 c4 c5;have q0:=P1.out.1.cell 0 _ rfl;have q1:=P1.out.1.cell 1 _ rfl;have s0:=P1.out.2.1.cell 0 _ rfl;have s1:=P1.out.2.1.cell 1 _ rfl;have s2:=P1.out.2.1.cell 2 _ rfl;have s3:=P1.out.2.1.cell 3 _ rfl;have s4:=P1.out.2.1.cell 4 _ rfl;have s5:=P1.out.2.1.cell 5 _ rfl
 all_goals
  go_wp2;refine bodyPost_ret (v:=.tuple #[.float .f64 0,.bool false,.int .i64 60]) (by simp [results,Tryz.results39,go_sem]) rfl ?_
  exact ⟨rfl,P1.out.2.2⟩
theorem ahead10_inf (g:Nat) (V:Int) (s:Sp) (mode a b:Int) (w:World) (hA:Acc7 w g V s) (hs:s.ok) (hm0:0≤mode) (hm1:mode≤4) (hab:may a b=true) (hn:¬ (0<s.n∧a=2)) (hx:0<s.u+s.d∧b=2) :
 Calls Tryz.prog 39 #[.pointer (some ⟨g,0,none⟩),.int .i64 mode,.agg #[.int .i64 a,.int .i64 b]] w fun r w'=>r=.returned (.tuple #[.float .f64 0,.bool false,.int .i64 61])∧Below w.heap.size w w':=by
 obtain ⟨L,a1,a2,a3,a4,a5,a6⟩:=hA;obtain ⟨n,u,d,m,p,l⟩:=s;have HM:=hid (fun u:World=>May_any a b u)
 rw [hab] at HM;have HA:=qsd (ai a1 a6);have hlt:=a6.lt;have hne:g≠w.heap.size:=Nat.ne_of_lt hlt;have hne1:g≠w.heap.size+1:=by omega
 have c0:=a6.cell a1 0 _ rfl;have c1:=a6.cell a1 1 _ rfl;have c2:=a6.cell a1 2 _ rfl;have c3:=a6.cell a1 3 _ rfl;have c4:=a6.cell a1 4 _ rfl;have c5:=a6.cell a1 5 _ rfl;obtain ⟨h0,h1,h2,h3,h4,h5⟩:=hs;have b0:decide (mode<0)=false:=by simp;omega
 have b1:decide (4<mode)=false:=by simp;omega
 have hu:0<u+d:=hx.1;have hb2:(b==2)=true:=by simpa using hx.2
 have hca:(0<n∧(a==2)=false)∨n≤0:=by
  by_cases h:0<n
  · exact .inl ⟨h,by simp;intro e;exact hn ⟨h,e⟩⟩
  · exact .inr (by omega)
 clear hx hn;clear a1 a2 a3 a4 a5 a6 hab;go_enter Tryz.func39,Tryz.ntmps39
 go_wp2_with fail
 refine (HM.out _).mono ?_;rintro r w1 ⟨rfl,hb1⟩
 have P1:Aside (Bl w1 w.heap.size 25 [.int .i64 a,.int .i64 b]∧Bl w1 (w.heap.size+1) 64 [.int .i64 n,.int .i64 u,.int .i64 d,.int .i64 m,.int .i64 p,.int .i64 l]∧Below w.heap.size w w1):=by
  have e0:=(bel_alloc w (Obj.cells #[.int .i64 a,.int .i64 b] 25)).trans ((bel_alloc (w.alloc (Obj.cells #[.int .i64 a,.int .i64 b] 25)) (Obj.cells #[.int .i64 n,.int .i64 u,.int .i64 d,.int .i64 m,.int .i64 p,.int .i64 l] 64)).mono (by simp))
  have e1:=e0.trans (hb1.mono e0.size);exact ⟨(((Bl.new w 25 [_,_]).alloc _).below hb1 (by simp;omega)),((Bl.new' (w.alloc _) 64 _ [_,_,_,_,_,_] (by simp)).below hb1 (by simp)),e1⟩
 clear hb1 c0 c1 c2 c3 c4 c5;have q0:=P1.out.1.cell 0 _ rfl;have q1:=P1.out.1.cell 1 _ rfl;have s0:=P1.out.2.1.cell 0 _ rfl;have s1:=P1.out.2.1.cell 1 _ rfl;have s2:=P1.out.2.1.cell 2 _ rfl;have s3:=P1.out.2.1.cell 3 _ rfl;have s4:=P1.out.2.1.cell 4 _ rfl;have s5:=P1.out.2.1.cell 5 _ rfl
 rcases hca with ⟨hn,ha2⟩|hn
 all_goals
  go_wp2;refine bodyPost_ret (v:=.tuple #[.float .f64 0,.bool false,.int .i64 61]) (by simp [results,Tryz.results39,go_sem]) rfl ?_
  exact ⟨rfl,P1.out.2.2⟩
end
section
open Go.RowKit
def rd10 (V:Int) (s:Sp) (mode a b:Int):Nat×Int:=if 0<s.n∧a=2 then (0,60) else if 0<s.u+s.d∧b=2 then (0,61) else rd7 V s mode a b
theorem round10_ok (g:Nat) (V:Int) (s:Sp) (mode a b:Int) (w:World) (hA:Acc7 w g V s) (hs:s.ok) (hT:Tab w) (hm0:0≤mode) (hm1:mode≤4) (hab:may a b=true) (ha:¬ (0<s.n∧a=2)) (hb:¬ (0<s.u+s.d∧b=2)) :
 Calls Tryz.prog 20 #[.pointer (some ⟨g,0,none⟩),.int .i64 mode,.agg #[.int .i64 a,.int .i64 b]] w fun r w'=>r=.returned (.tuple #[.float .f64 (rd7 V s mode a b).1,.int .i64 (rd7 V s mode a b).2])∧Below w.heap.size w w':=by
 obtain ⟨⟨X,er⟩,hX⟩:∃ X,X=rd7 V s mode a b:=⟨_,rfl⟩;rw [←hX];simp only;have hb0:=bel_alloc w (Obj.cells #[.int .i64 a,.int .i64 b] 25);have HH:=hid (ahead10 g V s mode a b _ (hA.bel hb0) hs hm0 hm1 hab ha hb);have her:=ahd_er V s mode a b;unfold rd7 at hX;obtain ⟨⟨ax,at',ae⟩,hAh⟩:∃ Y,Y=ahd V s mode a b:=⟨_,rfl⟩;rw [←hAh] at HH her hX;simp only at HH her hX;subst her;have HX:=qsd hX;have HA:=qsd (ai hA (ai hT hb0));clear hA hT hb0 hX hAh hs hab ha hb;go_enter Tryz.func20,Tryz.ntmps20
 go_wp2_with fail
 refine HH.out.mono ?_;rintro r w1 ⟨rfl,hb1⟩;have B1:=qsd (HA.out.2.2.trans (hb1.mono HA.out.2.2.size));clear hb1
 cases at'
 · go_wp2_with fail
   refine (Exact7 g V s w1 (HA.out.1.bel B1.out) (HA.out.2.1.belows B1.out)).mono ?_;rintro r w2 ⟨v,rfl,hN,hb2⟩;obtain ⟨L,_,_,_,h0,h1,_⟩:=HA.out.1;obtain ⟨ad,c,rfl,AV⟩:=hN.arg (Nat.le_trans (dX_small h0 h1) (by decide))
   have HR:=hid (Round_any AV (HA.out.2.1.belows (B1.out.trans (hb2.mono B1.out.size))) (dN (exV V)) (dE (exV V)) mode (dE_small V).1 (dE_small V).2);rw [val_ws] at HR;have HX2:=HX.out;rw [if_neg (by decide)] at HX2
   rw [←HX2] at HR;simp only at HR;have B2:=qsd (B1.out.trans (hb2.mono B1.out.size));clear hN hb2 AV h0 h1 HX2
   go_wp2_with fail
   refine HR.out.mono ?_;rintro r w3 ⟨rfl,hb3⟩;have B3:=qsd hb3;clear hb3;go_wp2;refine bodyPost_ret (v:=.tuple #[.float .f64 X,.int .i64 er]) (by simp [results,Tryz.results20,go_sem]) rfl ?_
   exact ⟨rfl,B2.out.trans (B3.out.mono B2.out.size)⟩
 · go_wp2
   have HX2:=HX.out;rw [if_pos trivial] at HX2
   cases HX2
   refine bodyPost_ret (v:=.tuple #[.float .f64 X,.int .i64 0]) (by simp [results,Tryz.results20,go_sem]) rfl ?_
   exact ⟨rfl,B1.out⟩
theorem round10_nan (g:Nat) (mode a b:Int) (w:World)
 (HH:Hid (∀ u:World,Below w.heap.size w u→Calls Tryz.prog 39 #[.pointer (some ⟨g,0,none⟩),.int .i64 mode,.agg #[.int .i64 a,.int .i64 b]] u fun r w'=>r=.returned (.tuple #[.float .f64 0,.bool false,.int .i64 60])∧Below u.heap.size u w')) :
 Calls Tryz.prog 20 #[.pointer (some ⟨g,0,none⟩),.int .i64 mode,.agg #[.int .i64 a,.int .i64 b]] w fun r w'=>r=.returned (.tuple #[.float .f64 0,.int .i64 60])∧Below w.heap.size w w':=by
 have hb0:=qsd (bel_alloc w (Obj.cells #[.int .i64 a,.int .i64 b] 25));go_enter Tryz.func20,Tryz.ntmps20
 go_wp2_with fail
 refine (HH.out _ hb0.out).mono ?_;rintro r w1 ⟨rfl,hb1⟩;have B1:=qsd (hb0.out.trans (hb1.mono hb0.out.size));clear hb1 HH;go_wp2;refine bodyPost_ret (v:=.tuple #[.float .f64 0,.int .i64 60]) (by simp [results,Tryz.results20,go_sem]) rfl ?_
 exact ⟨rfl,B1.out⟩
theorem round10_inf (g:Nat) (mode a b:Int) (w:World)
 (HH:Hid (∀ u:World,Below w.heap.size w u→Calls Tryz.prog 39 #[.pointer (some ⟨g,0,none⟩),.int .i64 mode,.agg #[.int .i64 a,.int .i64 b]] u fun r w'=>r=.returned (.tuple #[.float .f64 0,.bool false,.int .i64 61])∧Below u.heap.size u w')) :
 Calls Tryz.prog 20 #[.pointer (some ⟨g,0,none⟩),.int .i64 mode,.agg #[.int .i64 a,.int .i64 b]] w fun r w'=>r=.returned (.tuple #[.float .f64 0,.int .i64 61])∧Below w.heap.size w w':=by
 have hb0:=qsd (bel_alloc w (Obj.cells #[.int .i64 a,.int .i64 b] 25));go_enter Tryz.func20,Tryz.ntmps20
 go_wp2_with fail
 refine (HH.out _ hb0.out).mono ?_;rintro r w1 ⟨rfl,hb1⟩;have B1:=qsd (hb0.out.trans (hb1.mono hb0.out.size));clear hb1 HH;go_wp2;refine bodyPost_ret (v:=.tuple #[.float .f64 0,.int .i64 61]) (by simp [results,Tryz.results20,go_sem]) rfl ?_
 exact ⟨rfl,B1.out⟩
theorem Round10 (g:Nat) (V:Int) (s:Sp) (mode a b:Int) (w:World) (hA:Acc7 w g V s) (hs:s.ok) (hT:Tab w) (hm0:0≤mode) (hm1:mode≤4) (hab:may a b=true) :
 Calls Tryz.prog 20 #[.pointer (some ⟨g,0,none⟩),.int .i64 mode,.agg #[.int .i64 a,.int .i64 b]] w fun r w'=>r=.returned (.tuple #[.float .f64 (rd10 V s mode a b).1,.int .i64 (rd10 V s mode a b).2])∧Below w.heap.size w w':=by
 unfold rd10
 by_cases h1:0<s.n∧a=2
 · rw [if_pos h1]
   exact round10_nan g mode a b w (hid fun u hb=>ahead10_nan g V s mode a b u (hA.bel hb) hs hm0 hm1 hab h1)
 · rw [if_neg h1]
   by_cases h2:0<s.u+s.d∧b=2
   · rw [if_pos h2]
     exact round10_inf g mode a b w (hid fun u hb=>ahead10_inf g V s mode a b u (hA.bel hb) hs hm0 hm1 hab h1 h2)
   · rw [if_neg h2]
     exact round10_ok g V s mode a b w hA hs hT hm0 hm1 hab h1 h2
theorem Exact10_any (xs:List Nat) (a:Option Addr) (n c:Nat) (mode pa pb:Int) (w:World) (hn:n=xs.length) (hF:Fs w.heap.size w a xs) (hW:W64 xs) (hT:Tab w) (hm0:0≤mode) (hm1:mode≤4) (hab:may pa pb=true) (hl:n≤65536) :
 Calls Tryz.prog 7 #[.slice a n c,.int .i64 mode,.agg #[.int .i64 pa,.int .i64 pb]] w fun r w'=>r=.returned (.tuple #[.float .f64 (rd10 (vS xs) (sS xs) mode pa pb).1,.int .i64 (rd10 (vS xs) (sS xs) mode pa pb).2])∧Below w.heap.size w w' :=
 exact_core xs a n c mode pa pb _ _ w hn hF hW hT hm0 hm1 hab hl (hid fun g u hA hs hT=>Round10 g (vS xs) (sS xs) mode pa pb u hA hs hT hm0 hm1 hab)
theorem Exact10_arg (a:Option Addr) (n c:Nat) (mode pa pb:Int) (w:World) (h:mode<0∨4<mode∨may pa pb=false) :
 Calls Tryz.prog 7 #[.slice a n c,.int .i64 mode,.agg #[.int .i64 pa,.int .i64 pb]] w fun r w'=>r=.returned (.tuple #[.float .f64 0,.int .i64 1])∧Below w.heap.size w w':=by
 have HM:=hid (fun u:World=>May_any pa pb u)
 by_cases h0:mode<0
 · have b0:decide (mode<0)=true:=by simpa using h0
   clear h h0 HM;go_enter Tryz.func7,Tryz.ntmps7;go_wp2
   go_ret2
   exact ⟨rfl,bel_alloc _ _⟩
 · have b0:decide (mode<0)=false:=by simp;omega
   by_cases h1:4<mode
   · have b1:decide (4<mode)=true:=by simpa using h1
     clear h h0 h1 HM;go_enter Tryz.func7,Tryz.ntmps7;go_wp2
     go_ret2
     exact ⟨rfl,bel_alloc _ _⟩
   · have b1:decide (4<mode)=false:=by simp;omega
     have hab:may pa pb=false:=by
      rcases h with h|h|h
      · exact absurd h h0
      · exact absurd h h1
      · exact h
     rw [hab] at HM;clear h h0 h1 hab;go_enter Tryz.func7,Tryz.ntmps7
     go_wp2_with fail
     refine (HM.out _).mono ?_;rintro r w1 ⟨rfl,hb1⟩;have B1:=qsd ((bel_alloc w (Obj.cells #[.int .i64 pa,.int .i64 pb] 25)).trans (hb1.mono (by simp)))
     clear hb1 HM;go_wp2
     go_ret2
     exact ⟨rfl,B1.out⟩
end
section
open Go.RowKit
theorem But.of_bel9 {g:Nat}{a w w':World}(h:But g a w) (hb:Below w.heap.size w w'):But g a w' :=
 h.trans ⟨hb.os,hb.tape,hb.output,hb.size,fun k hk _=>hb.block k hk⟩
end
section
def sl (a t:Nat):Nat:=a/2^(32*t)%4294967296
def tp (a:Nat):Int:=if a=0 then -1 else ((a.log2/32:Nat):Int)
theorem pw32 (t:Nat):2^(32*(t+1))=4294967296*2^(32*t):=by
 rw [show 32*(t+1)=32+32*t by omega,Nat.pow_add]
theorem sl_lt (a t:Nat):sl a t<4294967296:=Nat.mod_lt _ (by decide)
theorem sl_shift (N m k:Nat):sl (N*2^(32*m)) (m+k)=sl N k:=by
 unfold sl;rw [show 32*(m+k)=32*m+32*k by omega,Nat.pow_add,←Nat.div_div_eq_div_mul,Nat.mul_div_cancel _ (Nat.two_pow_pos _)]
theorem sl_low (N m t:Nat) (h:t<m):sl (N*2^(32*m)) t=0:=by
 unfold sl;obtain ⟨d,rfl⟩:∃ d,m=t+(d+1):=⟨m-t-1,by omega⟩
 rw [show 32*(t+(d+1))=32*t+32*(d+1) by omega,Nat.pow_add,Nat.mul_comm (2^(32*t)),←Nat.mul_assoc,Nat.mul_div_cancel _ (Nat.two_pow_pos _),pw32,Nat.mul_left_comm]
 exact Nat.mul_mod_right _ _
theorem sl_high (a t:Nat) (h:a<2^(32*t)):sl a t=0:=by
 unfold sl;rw [Nat.div_eq_of_lt h]
theorem tp_lt (a:Nat) (t:Nat):tp a<t↔a<2^(32*t):=by
 unfold tp
 by_cases h:a=0
 · rw [if_pos h,h]
   have:=Nat.two_pow_pos (32*t)
   constructor <;> intro _ <;> omega
 · rw [if_neg h,←Nat.log2_lt h]
   omega
theorem tp_ge (a:Nat):-1≤tp a:=by
 unfold tp;split <;> omega
theorem sl_above (a t:Nat) (h:tp a<t):sl a t=0:=sl_high a t ((tp_lt a t).1 h)
theorem sl_top (a t:Nat) (h:tp a=t):sl a t≠0:=by
 have h1:a<2^(32*(t+1)):=(tp_lt a (t+1)).1 (by omega)
 have h2:¬ a<2^(32*t):=fun q=>by have:=(tp_lt a t).2 q;omega
 unfold sl;rw [pw32] at h1;have h3:a/2^(32*t)<4294967296:=Nat.div_lt_of_lt_mul (by rw [Nat.mul_comm];exact h1)
 rw [Nat.mod_eq_of_lt h3];have:=Nat.div_pos (Nat.le_of_not_lt h2) (Nat.two_pow_pos (32*t));omega
theorem tp_iff (a t:Nat) (h0:sl a t≠0) (h1:∀ u,t<u→sl a u=0):tp a=t:=by
 by_cases h:tp a<t
 · exact absurd (sl_above a t h) h0
 · obtain ⟨u,hu⟩:∃ u:Nat,tp a=u:=⟨(tp a).toNat,by omega⟩
   have:=sl_top a u hu
   by_cases q:t<u
   · exact absurd (h1 u q) this
   · omega
def ss (z t:Int):Int:=if t<0 then 0 else if z<0 then -((sl z.natAbs t.toNat:Nat):Int) else ((sl z.natAbs t.toNat:Nat):Int)
theorem ss_abs (z t:Int):(ss z t).natAbs<4294967296:=by
 have:=sl_lt z.natAbs t.toNat;unfold ss
 split
 · decide
 · split <;> omega
theorem ss_above (z t:Int) (h:tp z.natAbs<t):ss z t=0:=by
 unfold ss;have:=tp_ge z.natAbs;have e:=sl_above z.natAbs t.toNat (by omega)
 rw [e]
 split
 · rfl
 · split <;> rfl
theorem ss_neg (z t:Int) (h:t<0):ss z t=0:=by unfold ss;rw [if_pos h]
def SL:List Int→Int→Int
 | [],_=>0
 | z::L,t=>ss z t+SL L t
def tL:List Int→Int
 | []=>-1
 | z::L=>max (tp z.natAbs) (tL L)
theorem SL_append (L M:List Int) (t:Int):SL (L++M) t=SL L t+SL M t:=by
 induction L with
 | nil=>simp [SL]
 | cons z L ih=>simp only [List.cons_append,SL];omega
theorem tL_ge (L:List Int):-1≤tL L:=by
 induction L with
 | nil=>simp [tL]
 | cons z M ih=>simp only [tL];omega
theorem tL_append (L M:List Int):tL (L++M)=max (tL L) (tL M):=by
 induction L with
 | nil =>
   have:=tL_ge M;simp only [List.nil_append,tL];omega
 | cons z L ih=>simp only [List.cons_append,tL];omega
theorem SL_perm {L M:List Int}(h:L.Perm M) (t:Int):SL L t=SL M t:=by
 induction h with
 | nil=>rfl
 | cons z _ ih=>simp only [SL];omega
 | swap x y l=>simp only [SL];omega
 | trans _ _ i1 i2=>omega
theorem tL_perm {L M:List Int}(h:L.Perm M):tL L=tL M:=by
 induction h with
 | nil=>rfl
 | cons z _ ih=>simp only [tL];omega
 | swap x y l=>simp only [tL];omega
 | trans _ _ i1 i2=>omega
theorem SL_above (L:List Int) (t:Int) (h:tL L<t):SL L t=0:=by
 induction L with
 | nil=>rfl
 | cons z L ih =>
   simp only [tL] at h;simp only [SL];rw [ss_above z t (by omega),ih (by omega)];rfl
theorem SL_neg (L:List Int) (t:Int) (h:t<0):SL L t=0:=by
 induction L with
 | nil=>rfl
 | cons z L ih=>simp only [SL];rw [ss_neg z t h,ih];rfl
theorem SL_abs (L:List Int) (t:Int):(SL L t).natAbs≤L.length*4294967296:=by
 induction L with
 | nil=>simp [SL]
 | cons z L ih =>
   have:=ss_abs z t;simp only [SL,List.length_cons];omega
end
section
def vb (t k:Int):Int:=if t<0 then 0 else if t=0 then k/16384 else k*((2^(32*t.toNat-14):Nat):Int)
theorem vb_zero (t:Int):vb t 0=0:=by
 unfold vb
 split
 · rfl
 · split
   · rfl
   · rw [Int.zero_mul]
theorem vb_mul (t:Nat) (k:Int) (h:t=0→(16384:Int) ∣ k):vb t k*16384=k*((2^(32*t):Nat):Int):=by
 unfold vb;rw [if_neg (by omega)]
 by_cases q:t=0
 · subst q
   rw [if_pos (by decide)]
   have:=Int.ediv_mul_cancel (h rfl);simp only [Nat.mul_zero,Nat.pow_zero];omega
 · rw [if_neg (by omega),Int.toNat_natCast,Int.mul_assoc]
   have:2^(32*t)=2^(32*t-14)*16384:=by
    rw [show (16384:Nat)=2^14 from rfl,←Nat.pow_add,show 32*t-14+14=32*t by omega]
   rw [this,Int.natCast_mul];rfl
theorem vb_abs (t k:Int) (m a:Nat) (ht:t≤a) (hk:k.natAbs≤2^m):(vb t k).natAbs≤2^(m+32*a):=by
 have h1:2^m≤2^(m+32*a):=Nat.pow_le_pow_right (by decide) (by omega)
 unfold vb
 split
 · simp
 · split
   · omega
   · rw [Int.natAbs_mul,Int.natAbs_natCast,Nat.pow_add]
     exact Nat.mul_le_mul hk (Nat.pow_le_pow_right (by decide) (by omega))
theorem vb_two (t:Int) (k:Int) (h:t<0→k=0) (h2:t=0→(16384:Int) ∣ k):vb (t+1) (k/4294967296)+vb t (k%4294967296)=vb t k:=by
 by_cases q:t<0
 · rw [h q];simp [vb_zero]
 · obtain ⟨n,rfl⟩:∃ n:Nat,t=n:=⟨t.toNat,by omega⟩
   have hk:k%4294967296+k/4294967296*4294967296=k:=by omega
   have h3:n=0→(16384:Int) ∣ k%4294967296:=by
    intro q;obtain ⟨c,hc⟩:=h2 (by omega);omega
   have e1:=vb_mul (n+1) (k/4294967296) (by omega)
   have e2:=vb_mul n (k%4294967296) h3;have e3:=vb_mul n k (fun q=>h2 (by omega))
   have e4:(((2^(32*(n+1)):Nat)):Int)=4294967296*((2^(32*n):Nat):Int):=by rw [pw32,Int.natCast_mul];rfl
   rw [e4,←Int.mul_assoc] at e1
   have e5:k*((2^(32*n):Nat):Int)=k/4294967296*4294967296*((2^(32*n):Nat):Int)+k%4294967296*((2^(32*n):Nat):Int):=by
    rw [←Int.add_mul];congr 1;omega
   rw [show ((n:Int)+1)=((n+1:Nat):Int) by omega]
   omega
def kf (f:Nat) (T:Int) (D:Int→Int) (i:Nat):Int:=if i<f then D (T-i) else 0
def kv (T:Int) (K:Nat→Int):Nat→Int
 | 0=>0
 | n+1=>kv T K n+vb (T-n) (K n)
theorem SL_div (L:List Int) (h:∀ z ∈ L,(16384:Int) ∣ z):(16384:Int) ∣ SL L 0:=by
 induction L with
 | nil=>exact ⟨0,rfl⟩
 | cons z L ih =>
   obtain ⟨a,ha⟩:=ih (fun y hy=>h y (List.mem_cons_of_mem _ hy))
   obtain ⟨b,hb⟩:=h z (List.mem_cons_self ..)
   have:(16384:Int) ∣ ss z 0:=by
    unfold ss sl;rw [if_neg (by omega)]
    simp only [Int.toNat_zero,Nat.mul_zero,Nat.pow_zero,Nat.div_one]
    split <;> omega
   obtain ⟨c,hc⟩:=this;exact ⟨a+c,by simp only [SL];omega⟩
theorem kv_abs (T:Int) (K:Nat→Int) (n m a:Nat) (hT:T≤a) (hK:∀ i,(K i).natAbs≤2^m):(kv T K n).natAbs≤n*2^(m+32*a):=by
 induction n with
 | zero=>simp [kv]
 | succ n ih =>
   have:=vb_abs (T-n) (K n) m a (by omega) (hK n)
   show (kv T K n+vb (T-n) (K n)).natAbs≤_
   rw [Nat.succ_mul];omega
def upd (D:Int→Int) (j v:Int):Int→Int:=fun t=>if t=j then D t+v else D t
end
section
open Go Go.RowKit
theorem and_mask9 (n:Int):bits .and .i64 n 4294967295=n%4294967296:=by
 simp only [bits];have e:(BitVec.ofInt IntKind.i64.bits (4294967295:Int)).toNat=2^32-1:=by decide
 rw [BitVec.toNat_and,e,Nat.and_two_pow_sub_one_eq_mod,BitVec.toNat_ofInt];rw [IntKind.wrap_i64]
 show (((n%((2^64:Nat):Int)).toNat%2^32:Nat)+9223372036854775808:Int)%18446744073709551616-9223372036854775808=_
 have:(2:Nat)^64=18446744073709551616:=rfl;omega
def Bv (v:Int):Value:=.agg #[.int .i64 (v/4294967296),.int .i64 (v%4294967296)]
def Bc (f c T:Int) (K:Nat→Int):List Value:=[.int .i64 f,.int .i64 c,.int .i64 T,.int .i64 (K 0/4294967296),.int .i64 (K 0%4294967296),.int .i64 (K 1/4294967296),.int .i64 (K 1%4294967296),.int .i64 (K 2/4294967296),.int .i64 (K 2%4294967296),.int .i64 (K 3/4294967296),.int .i64 (K 3%4294967296),.int .i64 (K 4/4294967296),.int .i64 (K 4%4294967296),.int .i64 (K 5/4294967296),.int .i64 (K 5%4294967296),.int .i64 (K 6/4294967296),.int .i64 (K 6%4294967296),.int .i64 (K 7/4294967296),.int .i64 (K 7%4294967296)]
def Bn (w:World) (g:Nat) (f c T:Int) (K:Nat→Int):Prop:=Bl w g 83 (Bc f c T K)
theorem Bn.lt {w:World}{g:Nat}{f c T:Int}{K:Nat→Int}(h:Bn w g f c T K):g<w.heap.size:=Bl.lt h
theorem Bn.alloc {w:World}{g:Nat}{f c T:Int}{K:Nat→Int}(h:Bn w g f c T K) (o:Obj):Bn (w.alloc o) g f c T K:=Bl.alloc h o
theorem Bn.below {w w':World}{g B:Nat}{f c T:Int}{K:Nat→Int}(h:Bn w g f c T K) (hb:Below B w w') (hg:g<B):Bn w' g f c T K:=Bl.below h hb hg
theorem Bc_hi (f c T:Int) (K:Nat→Int) (i:Nat) (h:i<8):(Bc f c T K)[3+i*2]?=some (.int .i64 (K i/4294967296)):=by
 obtain rfl|rfl|rfl|rfl|rfl|rfl|rfl|rfl:i=0∨i=1∨i=2∨i=3∨i=4∨i=5∨i=6∨i=7:=by omega
 all_goals rfl
theorem Bc_lo (f c T:Int) (K:Nat→Int) (i:Nat) (h:i<8):(Bc f c T K)[3+i*2+1]?=some (.int .i64 (K i%4294967296)):=by
 obtain rfl|rfl|rfl|rfl|rfl|rfl|rfl|rfl:i=0∨i=1∨i=2∨i=3∨i=4∨i=5∨i=6∨i=7:=by omega
 all_goals rfl
theorem Bc_set (f c T:Int) (K:Nat→Int) (i:Nat) (v:Int) (h:i<8):((Bc f c T K).set (3+i*2) (.int .i64 (v/4294967296))).set (3+i*2+1) (.int .i64 (v%4294967296))=Bc f c T (fun k=>if k=i then v else K k):=by
 obtain rfl|rfl|rfl|rfl|rfl|rfl|rfl|rfl:i=0∨i=1∨i=2∨i=3∨i=4∨i=5∨i=6∨i=7:=by omega
 all_goals rfl
theorem Tryz.row_bin9:∃ d:TypeDesc,Tryz.prog.underlying 80=some d∧d.isRow=true:=by
 have h:(Tryz.prog.underlying 80).any (·.isRow)=true:=by kernel_rfl
 obtain ⟨d,h1,h2⟩:=(Option.any_eq_true _ _).1 h;exact ⟨d,h1,h2⟩
theorem Tryz.size_bin9:(Tryz.prog.info? 80).map (·.size)=some 2:=by kernel_rfl
theorem close9 {fn:Func}{p:Tmp}(h:fn.results=#[.cell p 80]) {tmps:Array Value}{W:World}{g:Nat}{x y:Value}{Q:Ending→World→Prop}
 (hp:tmps.getD p undef=.pointer (some ⟨g,0,none⟩)) (hD:Bl W g 80 [x,y]) (hQ:Q (.returned (.agg #[x,y])) W):bodyPost Tryz.prog fn Q .ret ⟨tmps,[]⟩ W:=by
 refine bodyPost_ret (v:=.agg #[x,y]) ?_ rfl hQ;obtain ⟨d,h1,h2⟩:=Tryz.row_bin9
 cases d <;> first
  | exact results_cell_row (P:=Tryz.prog) h tmps W g 80 _ _ _ hp hD h1 rfl (by rw [Tryz.size_bin9];rfl)
  | exact absurd h2 (by simp [TypeDesc.isRow])
theorem binOf_any (n:Int) (w:World):Calls Tryz.prog 73 #[.int .i64 n] w fun r w'=>r=.returned (Bv n)∧Below w.heap.size w w':=by
 have hm:=and_mask9 n;go_enter Tryz.func73,Tryz.ntmps73;go_wp2;exact close9 Tryz.results73 rfl (Bl.new w 80 [_,_]) ⟨rfl,bel_alloc _ _⟩
theorem plus9_core (x p y q:Int) (w:World) (h1:x≤8796093022208∧-8796093022208≤x) (h2:y≤8796093022208∧-8796093022208≤y) (h3:0≤p∧p<4294967296) (h4:0≤q∧q<4294967296) :
 Calls Tryz.prog 74 #[.agg #[.int .i64 x,.int .i64 p],.agg #[.int .i64 y,.int .i64 q]] w fun r w'=>r=.returned (.agg #[.int .i64 (x+y+(p+q)/4294967296),.int .i64 ((p+q)%4294967296)])∧Below w.heap.size w w':=by
 have H:=hid (binOf_any (p+q));have h5:(p+q)/4294967296≤1∧0≤(p+q)/4294967296:=by omega
 obtain ⟨W,hW⟩:∃ W,W=((w.alloc (.cells #[.int .i64 x,.int .i64 p] 80)).alloc (.cells #[.int .i64 y,.int .i64 q] 80)).alloc (.cells #[.int .i64 0,.int .i64 0] 80):=⟨_,rfl⟩
 have HW:Aside (Bl W w.heap.size 80 [.int .i64 x,.int .i64 p]∧Bl W (w.heap.size+1) 80 [.int .i64 y,.int .i64 q]∧Bl W (w.heap.size+1+1) 80 [.int .i64 0,.int .i64 0]∧Below w.heap.size w W):=by
  subst hW;refine ⟨((Bl.new w 80 [_,_]).alloc _).alloc _,(Bl.new' _ 80 _ [_,_] (by simp)).alloc _,Bl.new' _ 80 _ [_,_] (by simp),?_⟩
  exact (bel_alloc _ _).trans (((bel_alloc _ _).trans ((bel_alloc _ _).mono (by simp))).mono (by simp))
 go_enter Tryz.func74,Tryz.ntmps74
 go_wp2_with fail
 rw [←hW];clear hW
 with_reducible refine (H.out _).mono ?_
 rintro r w1 ⟨rfl,hb⟩;have b0:=HW.out.1.below hb HW.out.1.lt;have b1:=HW.out.2.1.below hb HW.out.2.1.lt;have b2:=HW.out.2.2.1.below hb HW.out.2.2.1.lt;unfold Bv;have hs1:=b2.lt;have k0:=(b0.alloc (.cells #[.int .i64 ((p+q)/4294967296),.int .i64 ((p+q)%4294967296)] 80)).cell 0 _ rfl;have k1:=(b1.alloc (.cells #[.int .i64 ((p+q)/4294967296),.int .i64 ((p+q)%4294967296)] 80)).cell 0 _ rfl;have k2':=(b2.alloc (.cells #[.int .i64 ((p+q)/4294967296),.int .i64 ((p+q)%4294967296)] 80)).cell 0 _ rfl;have f2':=(b2.alloc (.cells #[.int .i64 ((p+q)/4294967296),.int .i64 ((p+q)%4294967296)] 80)).frozen 0;have k2:=b2.cell 0 _ rfl;have k3:=b2.cell 1 _ rfl;have f0:=b2.frozen 0;have f1:=b2.frozen 1;have HC:=qsd (ai b2 (HW.out.2.2.2.trans (hb.mono (HW.out.2.2.2.size))));clear b0 b1 b2;go_wp2;refine close9 Tryz.results74 rfl (((HC.out.1.set 0 _).set 1 _).alloc _) ⟨rfl,?_⟩;exact ((HC.out.2.setCell (by show w.heap.size≤w.heap.size+1+1;omega) _).setCell (by show w.heap.size≤w.heap.size+1+1;omega) _).alloc (by simp;omega) _
theorem plus9_any (a b:Int) (w:World) (ha:a.natAbs≤2^75) (hb:b.natAbs≤2^75):Calls Tryz.prog 74 #[Bv a,Bv b] w fun r w'=>r=.returned (Bv (a+b))∧Below w.heap.size w w':=by
 have:=plus9_core (a/4294967296) (a%4294967296) (b/4294967296) (b%4294967296) w (by omega) (by omega) (by omega) (by omega)
 unfold Bv;rw [show a/4294967296+b/4294967296+(a%4294967296+b%4294967296)/4294967296=(a+b)/4294967296 by omega,show (a%4294967296+b%4294967296)%4294967296=(a+b)%4294967296 by omega] at this
 exact this
def putK (K:Nat→Int) (f i v:Int):Nat→Int:=fun k=>if (k:Int)=i∧i<f then K k+v else K k
theorem put_no (g:Nat) (f c T j x y:Int) (K:Nat→Int) (w:World) (hB:Bl w g 83 (Bc f c T K)) (h:f≤T-j) (h1:-1000≤T∧T≤1000) (h2:-1000≤j∧j≤1000) :
 Calls Tryz.prog 46 #[.pointer (some ⟨g,0,none⟩),.int .i64 j,.agg #[.int .i64 x,.int .i64 y]] w fun r w'=>r=.returned (.tuple #[])∧Below w.heap.size w w':=by
 have k0:=hB.cell 0 _ rfl;have k2:=hB.cell 2 _ rfl;have hl:=hB.lt;have hd:decide (T-j<f)=false:=by simp;omega
 clear hB;go_enter Tryz.func46,Tryz.ntmps46;go_wp2
 go_end0
 exact ⟨rfl,bel_alloc _ _⟩
theorem put_yes (g:Nat) (f c T j a b p q:Int) (i:Nat) (K:Nat→Int) (w:World) (hB:Bl w g 83 (Bc f c T K)) (h:T-j<f) (hi:T-j=i) (hi8:i<8) (h1:-1000≤T∧T≤1000) (h2:-1000≤j∧j≤1000)
 (HP:Hid (∀ u,Calls Tryz.prog 74 #[.agg #[.int .i64 (K i/4294967296),.int .i64 (K i%4294967296)],.agg #[.int .i64 a,.int .i64 b]] u fun r w'=>r=.returned (.agg #[.int .i64 p,.int .i64 q])∧Below u.heap.size u w')) :
 Calls Tryz.prog 46 #[.pointer (some ⟨g,0,none⟩),.int .i64 j,.agg #[.int .i64 a,.int .i64 b]] w fun r w'=>r=.returned (.tuple #[])∧Bl w' g 83 (((Bc f c T K).set (3+i*2) (.int .i64 p)).set (3+i*2+1) (.int .i64 q))∧But g w w':=by
 have hl:=hB.lt;have k0:=hB.cell 0 _ rfl;have k2:=hB.cell 2 _ rfl;have hd:decide (T-j<f)=true:=by simp;omega
 obtain ⟨W,hW⟩:∃ W,W=w.alloc (.cells #[.int .i64 a,.int .i64 b] 80):=⟨_,rfl⟩
 have HZ:Aside (Bl W.drew g 83 (Bc f c T K)∧Bl W.drew w.heap.size 80 [.int .i64 a,.int .i64 b]∧Below w.heap.size w W.drew):=by
  subst hW;exact ⟨(hB.alloc _).drew,(Bl.new w 80 [_,_]).drew,(bel_alloc _ _).drew⟩
 have mk:Hid (∀ u,Bl u g 83 (Bc f c T K)→Bl u w.heap.size 80 [.int .i64 a,.int .i64 b]→u.cell? ⟨g,3+i*2,none⟩=some (.int .i64 (K i/4294967296))∧u.cell? ⟨g,3+i*2+1,none⟩=some (.int .i64 (K i%4294967296))∧u.frozen? ⟨g,3+i*2,none⟩=false∧u.frozen? ⟨g,3+i*2+1,none⟩=false∧u.cell? ⟨w.heap.size,0,none⟩=some (.int .i64 a)∧u.cell? ⟨w.heap.size,1,none⟩=some (.int .i64 b)) :=
  hid (fun u p1 p2=>⟨p1.cell _ _ (Bc_hi f c T K i hi8),p1.cell _ _ (Bc_lo f c T K i hi8),p1.frozen _,p1.frozen _,p2.cell 0 _ rfl,p2.cell 1 _ rfl⟩)
 have kS:=qsd (mk.out _ HZ.out.1 HZ.out.2.1);have hi9:(i:Int)<8:=by omega
 clear hB;go_enter Tryz.func46,Tryz.ntmps46
 go_wp2_with fail
 rw [←hW];clear hW k0 k2 hd h hi h1 h2;refine until_region (fun u=>u.cell? ⟨g,3+i*2,none⟩=some (.int .i64 (K i/4294967296))∧u.cell? ⟨g,3+i*2+1,none⟩=some (.int .i64 (K i%4294967296))∧u.frozen? ⟨g,3+i*2,none⟩=false∧u.frozen? ⟨g,3+i*2+1,none⟩=false∧u.cell? ⟨w.heap.size,0,none⟩=some (.int .i64 a)∧u.cell? ⟨w.heap.size,1,none⟩=some (.int .i64 b)) 13 (by kernel_rfl) ?_
 refine until_take (i:=0) [] (v:=?_) rfl (by kernel_rfl) (by kernel_rfl) (by kernel_rfl) (by kernel_rfl) (by kernel_rfl) (fun _ _ _ h=>h) (Or.inl ⟨by rfl,?_⟩) kS.out ?_
 rotate_left
 · intro u hSu
   try dsimp only at hSu
   first | (go_simp;done) | (go_simp;with_reducible rfl)
 try simp only [Act.put,List.setIfInBounds_toArray,List.set_cons_zero,List.set_cons_succ]
 refine until_take (i:=1) [] (v:=?_) rfl (by kernel_rfl) (by kernel_rfl) (by kernel_rfl) (by kernel_rfl) (by kernel_rfl) (fun _ _ _ h=>h) (Or.inl ⟨by rfl,?_⟩) kS.out ?_
 rotate_left
 · intro u hSu
   try dsimp only at hSu
   first | (go_simp;done) | (go_simp;with_reducible rfl)
 try simp only [Act.put,List.setIfInBounds_toArray,List.set_cons_zero,List.set_cons_succ]
 refine until_take (i:=2) [] (v:=?_) rfl (by kernel_rfl) (by kernel_rfl) (by kernel_rfl) (by kernel_rfl) (by kernel_rfl) (fun _ _ _ h=>h) (Or.inl ⟨by rfl,?_⟩) kS.out ?_
 rotate_left
 · intro u hSu
   try dsimp only at hSu
   first | (go_simp;done) | (go_simp;with_reducible rfl)
 try simp only [Act.put,List.setIfInBounds_toArray,List.set_cons_zero,List.set_cons_succ]
 refine until_take (i:=3) [] (v:=?_) rfl (by kernel_rfl) (by kernel_rfl) (by kernel_rfl) (by kernel_rfl) (by kernel_rfl) (fun _ _ _ h=>h) (Or.inl ⟨by rfl,?_⟩) kS.out ?_
 rotate_left
 · intro u hSu
   try dsimp only at hSu
   first | (go_simp;done) | (go_simp;with_reducible rfl)
 try simp only [Act.put,List.setIfInBounds_toArray,List.set_cons_zero,List.set_cons_succ]
 refine until_take (i:=4) [] (v:=?_) rfl (by kernel_rfl) (by kernel_rfl) (by kernel_rfl) (by kernel_rfl) (by kernel_rfl) (fun _ _ _ h=>h) (Or.inl ⟨by rfl,?_⟩) kS.out ?_
 rotate_left
 · intro u hSu
   try dsimp only at hSu
   first | (go_simp;done) | (go_simp;with_reducible rfl)
 try simp only [Act.put,List.setIfInBounds_toArray,List.set_cons_zero,List.set_cons_succ]
 refine until_take (i:=5) [] (v:=?_) rfl (by kernel_rfl) (by kernel_rfl) (by kernel_rfl) (by kernel_rfl) (by kernel_rfl) (fun _ _ _ h=>h) (Or.inl ⟨by rfl,?_⟩) kS.out ?_
 rotate_left
 · intro u hSu
   try dsimp only at hSu
   first | (go_simp;done) | (go_simp;with_reducible rfl)
 try simp only [Act.put,List.setIfInBounds_toArray,List.set_cons_zero,List.set_cons_succ]
 refine until_take (i:=6) [] (v:=?_) rfl (by kernel_rfl) (by kernel_rfl) (by kernel_rfl) (by kernel_rfl) (by kernel_rfl) (fun _ _ _ h=>h) (Or.inl ⟨by rfl,?_⟩) kS.out ?_
 rotate_left
 · intro u hSu
   try dsimp only at hSu
   first | (go_simp;done) | (go_simp;with_reducible rfl)
 try simp only [Act.put,List.setIfInBounds_toArray,List.set_cons_zero,List.set_cons_succ]
 refine until_take (i:=7) [] (v:=?_) rfl (by kernel_rfl) (by kernel_rfl) (by kernel_rfl) (by kernel_rfl) (by kernel_rfl) (fun _ _ _ h=>h) (Or.inl ⟨by rfl,?_⟩) kS.out ?_
 rotate_left
 · intro u hSu
   try dsimp only at hSu
   first | (go_simp;done) | (go_simp;with_reducible rfl)
 try simp only [Act.put,List.setIfInBounds_toArray,List.set_cons_zero,List.set_cons_succ]
 refine until_take (i:=8) [] (v:=?_) rfl (by kernel_rfl) (by kernel_rfl) (by kernel_rfl) (by kernel_rfl) (by kernel_rfl) (fun _ _ _ h=>h) (Or.inl ⟨by rfl,?_⟩) kS.out ?_
 rotate_left
 · intro u hSu
   try dsimp only at hSu
   first | (go_simp;done) | (go_simp;with_reducible rfl)
 try simp only [Act.put,List.setIfInBounds_toArray,List.set_cons_zero,List.set_cons_succ]
 refine until_take (i:=10) [11,12] (v:=?_) rfl (by kernel_rfl) (by kernel_rfl) (by kernel_rfl) (by kernel_rfl) (by kernel_rfl) (fun _ _ _ h=>h) (Or.inl ⟨by rfl,?_⟩) kS.out ?_
 rotate_left
 · intro u hSu
   try dsimp only at hSu
   first | (go_simp;done) | (go_simp;with_reducible rfl)
 try simp only [Act.put,List.setIfInBounds_toArray,List.set_cons_zero,List.set_cons_succ]
 refine until_take (i:=11) [12] (v:=?_) rfl (by kernel_rfl) (by kernel_rfl) (by kernel_rfl) (by kernel_rfl) (by kernel_rfl) (fun _ _ _ h=>h) (Or.inl ⟨by rfl,?_⟩) kS.out ?_
 rotate_left
 · intro u hSu
   try dsimp only at hSu
   first | (go_simp;done) | (go_simp;with_reducible rfl)
 try simp only [Act.put,List.setIfInBounds_toArray,List.set_cons_zero,List.set_cons_succ]
 refine until_one (i:=9) (by kernel_rfl) rfl (fun K' hK=>?_)
 go_simp
 refine (HP.out _).mono ?_;rintro r u ⟨rfl,hb⟩;have HZ:=qsd (ai (HZ.out.1.below hb HZ.out.1.lt) (ai (HZ.out.2.1.below hb HZ.out.2.1.lt) (HZ.out.2.2.trans (hb.mono HZ.out.2.2.size))));have kS:=qsd (mk.out _ HZ.out.1 HZ.out.2.1);clear hb
 dsimp only
 refine hK.out _ _ (fun _=>kS.out) ?_
 clear hK K'
 try simp only [Act.put,List.setIfInBounds_toArray,List.set_cons_zero,List.set_cons_succ]
 refine until_take (i:=12) [] (v:=?_) rfl (by kernel_rfl) (by kernel_rfl) (by kernel_rfl) (by kernel_rfl) (by kernel_rfl) (fun _ _ _ h=>h) (Or.inl ⟨by rfl,?_⟩) kS.out ?_
 rotate_left
 · intro u hSu
   try dsimp only at hSu
   first | (go_simp;done) | (go_simp;with_reducible rfl)
 try simp only [Act.put,List.setIfInBounds_toArray,List.set_cons_zero,List.set_cons_succ]
 obtain ⟨s1,s2,s3,s4,s5,s6⟩:=kS.out;refine until_one (i:=13) (by kernel_rfl) rfl (fun K' hK=>?_)
 go_simp
 refine hK.out _ _ (fun h=>absurd h (by decide)) ?_
 clear hK K';refine until_done (by kernel_rfl) ?_ _
 clear kS s1 s2 s3 s4 s5 s6;go_wp2
 go_end0
 exact ⟨rfl,(HZ.out.1.set _ _).set _ _,(((But.refl g w).of_bel9 HZ.out.2.2).set _ _).set _ _⟩
theorem put_any (g:Nat) (f c T j v:Int) (K:Nat→Int) (w:World) (hB:Bn w g f c T K) (hf:f≤8) (hj:j≤T) (h1:-1000≤T∧T≤1000) (h2:-1000≤j∧j≤1000) (hK:∀ i,(K i).natAbs≤2^75) (hv:v.natAbs≤2^75) :
 Calls Tryz.prog 46 #[.pointer (some ⟨g,0,none⟩),.int .i64 j,Bv v] w fun r w'=>r=.returned (.tuple #[])∧Bn w' g f c T (putK K f (T-j) v)∧But g w w':=by
 by_cases h:f≤T-j
 · refine (put_no g f c T j _ _ K w hB h h1 h2).mono ?_
   rintro r w' ⟨rfl,hb⟩;have e:putK K f (T-j) v=K:=by funext k;unfold putK;rw [if_neg (by omega)]
   rw [e];exact ⟨rfl,hB.below hb hB.lt,(But.refl g w).of_bel9 hb⟩
 · obtain ⟨i,hi⟩:∃ i:Nat,T-j=i:=⟨(T-j).toNat,by omega⟩
   refine (put_yes g f c T j _ _ _ _ i K w hB (by omega) hi (by omega) h1 h2 (hid (fun u=>plus9_any (K i) v u (hK i) hv))).mono ?_
   rintro r w' ⟨rfl,h3,h4⟩;refine ⟨rfl,?_,h4⟩;rw [Bc_set f c T K i (K i+v) (by omega)] at h3
   have e:putK K f (T-j) v=fun k=>if k=i then K i+v else K k:=by
    funext k
    unfold putK
    by_cases q:k=i
    · rw [if_pos (by omega),if_pos q,q]
    · rw [if_neg (by omega),if_neg q]
   rw [e];exact h3
end
section
open Go Go.RowKit
theorem Tryz.und_arr9:Tryz.prog.underlying 81=some (.array 8 80):=by kernel_rfl
theorem idx9_0 (x0 x1 x2 x3 x4 x5 x6 x7 x8 x9 x10 x11 x12 x13 x14 x15:Value) (w:World):(Instr.index 81 (.agg #[x0,x1,x2,x3,x4,x5,x6,x7,x8,x9,x10,x11,x12,x13,x14,x15]) (.int .i64 0)).run Tryz.prog w=.ok (.agg #[x0,x1]) w:=by
 simp [Instr.index,run_underlying Tryz.und_arr9,asIntOf,go_sem]
theorem idx9_1 (x0 x1 x2 x3 x4 x5 x6 x7 x8 x9 x10 x11 x12 x13 x14 x15:Value) (w:World):(Instr.index 81 (.agg #[x0,x1,x2,x3,x4,x5,x6,x7,x8,x9,x10,x11,x12,x13,x14,x15]) (.int .i64 1)).run Tryz.prog w=.ok (.agg #[x2,x3]) w:=by
 simp [Instr.index,run_underlying Tryz.und_arr9,asIntOf,go_sem]
theorem idx9_2 (x0 x1 x2 x3 x4 x5 x6 x7 x8 x9 x10 x11 x12 x13 x14 x15:Value) (w:World):(Instr.index 81 (.agg #[x0,x1,x2,x3,x4,x5,x6,x7,x8,x9,x10,x11,x12,x13,x14,x15]) (.int .i64 2)).run Tryz.prog w=.ok (.agg #[x4,x5]) w:=by
 simp [Instr.index,run_underlying Tryz.und_arr9,asIntOf,go_sem]
theorem idx9_3 (x0 x1 x2 x3 x4 x5 x6 x7 x8 x9 x10 x11 x12 x13 x14 x15:Value) (w:World):(Instr.index 81 (.agg #[x0,x1,x2,x3,x4,x5,x6,x7,x8,x9,x10,x11,x12,x13,x14,x15]) (.int .i64 3)).run Tryz.prog w=.ok (.agg #[x6,x7]) w:=by
 simp [Instr.index,run_underlying Tryz.und_arr9,asIntOf,go_sem]
theorem idx9_4 (x0 x1 x2 x3 x4 x5 x6 x7 x8 x9 x10 x11 x12 x13 x14 x15:Value) (w:World):(Instr.index 81 (.agg #[x0,x1,x2,x3,x4,x5,x6,x7,x8,x9,x10,x11,x12,x13,x14,x15]) (.int .i64 4)).run Tryz.prog w=.ok (.agg #[x8,x9]) w:=by
 simp [Instr.index,run_underlying Tryz.und_arr9,asIntOf,go_sem]
theorem idx9_5 (x0 x1 x2 x3 x4 x5 x6 x7 x8 x9 x10 x11 x12 x13 x14 x15:Value) (w:World):(Instr.index 81 (.agg #[x0,x1,x2,x3,x4,x5,x6,x7,x8,x9,x10,x11,x12,x13,x14,x15]) (.int .i64 5)).run Tryz.prog w=.ok (.agg #[x10,x11]) w:=by
 simp [Instr.index,run_underlying Tryz.und_arr9,asIntOf,go_sem]
theorem idx9_6 (x0 x1 x2 x3 x4 x5 x6 x7 x8 x9 x10 x11 x12 x13 x14 x15:Value) (w:World):(Instr.index 81 (.agg #[x0,x1,x2,x3,x4,x5,x6,x7,x8,x9,x10,x11,x12,x13,x14,x15]) (.int .i64 6)).run Tryz.prog w=.ok (.agg #[x12,x13]) w:=by
 simp [Instr.index,run_underlying Tryz.und_arr9,asIntOf,go_sem]
theorem idx9_7 (x0 x1 x2 x3 x4 x5 x6 x7 x8 x9 x10 x11 x12 x13 x14 x15:Value) (w:World):(Instr.index 81 (.agg #[x0,x1,x2,x3,x4,x5,x6,x7,x8,x9,x10,x11,x12,x13,x14,x15]) (.int .i64 7)).run Tryz.prog w=.ok (.agg #[x14,x15]) w:=by
 simp [Instr.index,run_underlying Tryz.und_arr9,asIntOf,go_sem]
end
section
open Go Go.RowKit
def rsK (K:Nat→Int) (f:Int) (d n:Nat):Nat→Int:=fun k=>if (k:Int)<f∧d≤k∧k-d<n then K (k-d) else 0
theorem rsK_step (K:Nat→Int) (f:Int) (d n:Nat):putK (rsK K f d n) f ((d+n:Nat):Int) (K n)=rsK K f d (n+1):=by
 funext k
 unfold putK rsK
 by_cases q:k=d+n
 · subst q
   by_cases h:((d+n:Nat):Int)<f
   · rw [if_pos ⟨rfl,h⟩,if_neg (by omega),if_pos (by omega),show d+n-d=n by omega,Int.zero_add]
   · rw [if_neg (by omega),if_neg (by omega),if_neg (by omega)]
 · rw [if_neg (by omega)]
   by_cases h:(k:Int)<f∧d≤k∧k-d<n
   · rw [if_pos h,if_pos (by omega)]
   · rw [if_neg h,if_neg (by omega)]
theorem rsK_zero (K:Nat→Int) (f:Int) (d:Nat):rsK K f d 0=fun _=>0:=by
 funext k;unfold rsK;rw [if_neg (by omega)]
theorem rsK_abs (K:Nat→Int) (f:Int) (d n:Nat) (hK:∀ i,(K i).natAbs≤2^75) (k:Nat):(rsK K f d n k).natAbs≤2^75:=by
 unfold rsK
 split
 · exact hK _
 · simp
theorem Bc_one (f c T:Int) (K:Nat→Int):(Bc f c T K).toArray.all (·.oneCell')=true:=by
 unfold Bc;simp [Value.oneCell']
theorem Tryz.row_bins9:∃ d:TypeDesc,Tryz.prog.underlying 83=some d∧d.isRow=true:=by
 have h:(Tryz.prog.underlying 83).any (·.isRow)=true:=by kernel_rfl
 obtain ⟨d,h1,h2⟩:=(Option.any_eq_true _ _).1 h;exact ⟨d,h1,h2⟩
theorem Tryz.row_arr9:∃ d:TypeDesc,Tryz.prog.underlying 81=some d∧d.isRow=true:=by
 have h:(Tryz.prog.underlying 81).any (·.isRow)=true:=by kernel_rfl
 obtain ⟨d,h1,h2⟩:=(Option.any_eq_true _ _).1 h;exact ⟨d,h1,h2⟩
theorem Tryz.size_bins9:(Tryz.prog.info? 83).map (·.size)=some 19:=by kernel_rfl
theorem Tryz.size_arr9:(Tryz.prog.info? 81).map (·.size)=some 16:=by kernel_rfl
theorem rise_no (g:Nat) (f c T J:Int) (K:Nat→Int) (w:World) (hB:Bn w g f c T K) (h:J≤T) :
 Calls Tryz.prog 45 #[.pointer (some ⟨g,0,none⟩),.int .i64 J] w fun r w'=>r=.returned (.tuple #[])∧w'=w:=by
 have k2:=Bl.cell hB 2 _ rfl;have hd:decide (J≤T)=true:=by simp;omega
 clear hB;go_enter Tryz.func45,Tryz.ntmps45;go_wp2
 first
 | (go_end0;exact ⟨rfl,rfl⟩)
 | exact bodyPost_ret (v:=.tuple #[]) (by simp [results,Tryz.results45,go_sem]) rfl ⟨rfl,rfl⟩
attribute [local go_sem] idx9_0 idx9_1 idx9_2 idx9_3 idx9_4 idx9_5 idx9_6 idx9_7 in
theorem rise_yes (g d:Nat) (f c T J:Int) (K:Nat→Int) (w:World) (hB:Bn w g f c T K) (hd:J=T+d) (hd0:0<d) (hf:f≤8) (h1:-100≤T∧T≤1000) (h2:-100≤J∧J≤1000) (hK:∀ i,(K i).natAbs≤2^75) :
 Calls Tryz.prog 45 #[.pointer (some ⟨g,0,none⟩),.int .i64 J] w fun r w'=>r=.returned (.tuple #[])∧Bn w' g f c J (rsK K f d 8)∧But g w w':=by
 have HP:∀ n:Nat,n<8→Hid (∀ u,Bn u g f c J (rsK K f d n)→Calls Tryz.prog 46 #[.pointer (some ⟨g,0,none⟩),.int .i64 (T-n),.agg #[.int .i64 (K n/4294967296),.int .i64 (K n%4294967296)]] u fun r w'=>r=.returned (.tuple #[])∧Bn w' g f c J (rsK K f d (n+1))∧But g u w'):=by
  intro n hn;refine hid (fun u hu=>?_)
  have:=put_any g f c J (T-n) (K n) (rsK K f d n) u hu hf (by omega) (by omega) (by omega) (rsK_abs K f d n hK) (hK n)
  rw [show J-(T-n)=((d+n:Nat):Int) by omega,rsK_step] at this
  exact this
 have P0:Hid (∀ u,Bn u g f c J (rsK K f d 0)→Calls Tryz.prog 46 #[.pointer (some ⟨g,0,none⟩),.int .i64 T,.agg #[.int .i64 (K 0/4294967296),.int .i64 (K 0%4294967296)]] u fun r w'=>r=.returned (.tuple #[])∧Bn w' g f c J (rsK K f d 1)∧But g u w'):=by
  have:=HP 0 (by omega)
  rw [show T-((0:Nat):Int)=T by omega] at this
  exact this
 have P1:Hid (∀ u,Bn u g f c J (rsK K f d 1)→Calls Tryz.prog 46 #[.pointer (some ⟨g,0,none⟩),.int .i64 (T-1),.agg #[.int .i64 (K 1/4294967296),.int .i64 (K 1%4294967296)]] u fun r w'=>r=.returned (.tuple #[])∧Bn w' g f c J (rsK K f d 2)∧But g u w'):=HP 1 (by omega)
 have P2:Hid (∀ u,Bn u g f c J (rsK K f d 2)→Calls Tryz.prog 46 #[.pointer (some ⟨g,0,none⟩),.int .i64 (T-2),.agg #[.int .i64 (K 2/4294967296),.int .i64 (K 2%4294967296)]] u fun r w'=>r=.returned (.tuple #[])∧Bn w' g f c J (rsK K f d 3)∧But g u w'):=HP 2 (by omega)
 have P3:Hid (∀ u,Bn u g f c J (rsK K f d 3)→Calls Tryz.prog 46 #[.pointer (some ⟨g,0,none⟩),.int .i64 (T-3),.agg #[.int .i64 (K 3/4294967296),.int .i64 (K 3%4294967296)]] u fun r w'=>r=.returned (.tuple #[])∧Bn w' g f c J (rsK K f d 4)∧But g u w'):=HP 3 (by omega)
 have P4:Hid (∀ u,Bn u g f c J (rsK K f d 4)→Calls Tryz.prog 46 #[.pointer (some ⟨g,0,none⟩),.int .i64 (T-4),.agg #[.int .i64 (K 4/4294967296),.int .i64 (K 4%4294967296)]] u fun r w'=>r=.returned (.tuple #[])∧Bn w' g f c J (rsK K f d 5)∧But g u w'):=HP 4 (by omega)
 have P5:Hid (∀ u,Bn u g f c J (rsK K f d 5)→Calls Tryz.prog 46 #[.pointer (some ⟨g,0,none⟩),.int .i64 (T-5),.agg #[.int .i64 (K 5/4294967296),.int .i64 (K 5%4294967296)]] u fun r w'=>r=.returned (.tuple #[])∧Bn w' g f c J (rsK K f d 6)∧But g u w'):=HP 5 (by omega)
 have P6:Hid (∀ u,Bn u g f c J (rsK K f d 6)→Calls Tryz.prog 46 #[.pointer (some ⟨g,0,none⟩),.int .i64 (T-6),.agg #[.int .i64 (K 6/4294967296),.int .i64 (K 6%4294967296)]] u fun r w'=>r=.returned (.tuple #[])∧Bn w' g f c J (rsK K f d 7)∧But g u w'):=HP 6 (by omega)
 have P7:Hid (∀ u,Bn u g f c J (rsK K f d 7)→Calls Tryz.prog 46 #[.pointer (some ⟨g,0,none⟩),.int .i64 (T-7),.agg #[.int .i64 (K 7/4294967296),.int .i64 (K 7%4294967296)]] u fun r w'=>r=.returned (.tuple #[])∧Bn w' g f c J (rsK K f d 8)∧But g u w'):=HP 7 (by omega)
 clear HP;have hdn:decide (J≤T)=false:=by simp;omega
 have hl:=Bl.lt hB;obtain ⟨db,hdb⟩:=Tryz.row_bins9;have HD:=qsd hdb;obtain ⟨da,hda⟩:=Tryz.row_arr9;have HE:=qsd hda;clear hdb hda;have k2:=Bl.cell hB 2 _ rfl;have HR:Aside (w.rangeAt g 0 (Bc f c T K)):=Bl.range hB 0 _ (fun j v hv=>by rw [Nat.zero_add];exact hv)
 have HS:Aside ((Tryz.prog.info? 83).map (·.size)=some (Bc f c T K).length):=Tryz.size_bins9
 have HZ:Aside (Bl (w.alloc (Obj.cells #[.int .i64 0,.int .i64 0,.int .i64 0,.int .i64 0,.int .i64 0,.int .i64 0,.int .i64 0,.int .i64 0,.int .i64 0,.int .i64 0,.int .i64 0,.int .i64 0,.int .i64 0,.int .i64 0,.int .i64 0,.int .i64 0,.int .i64 0,.int .i64 0,.int .i64 0] 83)) w.heap.size 83 [.int .i64 0,.int .i64 0,.int .i64 0,.int .i64 0,.int .i64 0,.int .i64 0,.int .i64 0,.int .i64 0,.int .i64 0,.int .i64 0,.int .i64 0,.int .i64 0,.int .i64 0,.int .i64 0,.int .i64 0,.int .i64 0,.int .i64 0,.int .i64 0,.int .i64 0]):=Bl.new w 83 [.int .i64 0,.int .i64 0,.int .i64 0,.int .i64 0,.int .i64 0,.int .i64 0,.int .i64 0,.int .i64 0,.int .i64 0,.int .i64 0,.int .i64 0,.int .i64 0,.int .i64 0,.int .i64 0,.int .i64 0,.int .i64 0,.int .i64 0,.int .i64 0,.int .i64 0];have HT:Aside ((w.alloc (Obj.cells #[.int .i64 0,.int .i64 0,.int .i64 0,.int .i64 0,.int .i64 0,.int .i64 0,.int .i64 0,.int .i64 0,.int .i64 0,.int .i64 0,.int .i64 0,.int .i64 0,.int .i64 0,.int .i64 0,.int .i64 0,.int .i64 0,.int .i64 0,.int .i64 0,.int .i64 0] 83)).there w.heap.size 0 (Bc f c T K).toArray.size):=qsd (HZ.out.there 0 19 (Nat.le_refl 19));have HO:=qsd (Bc_one f c T K);have HS2:Aside ((Tryz.prog.info? 83).map (·.size)=some (Bc f c T K).toArray.size):=Tryz.size_bins9
 obtain ⟨W1,hW1⟩:∃ W1,W1=(w.alloc (Obj.cells #[.int .i64 0,.int .i64 0,.int .i64 0,.int .i64 0,.int .i64 0,.int .i64 0,.int .i64 0,.int .i64 0,.int .i64 0,.int .i64 0,.int .i64 0,.int .i64 0,.int .i64 0,.int .i64 0,.int .i64 0,.int .i64 0,.int .i64 0,.int .i64 0,.int .i64 0] 83)).setCells w.heap.size 0 (Bc f c T K).toArray.toList:=⟨_,rfl⟩;have HW1:=qsd hW1
 have HA1:Aside (Bl W1 w.heap.size 83 (Bc f c T K)∧Bl W1 g 83 (Bc f c T K)∧Below w.heap.size w W1):=by
  subst hW1;have hbut:But w.heap.size (w.alloc (Obj.cells #[.int .i64 0,.int .i64 0,.int .i64 0,.int .i64 0,.int .i64 0,.int .i64 0,.int .i64 0,.int .i64 0,.int .i64 0,.int .i64 0,.int .i64 0,.int .i64 0,.int .i64 0,.int .i64 0,.int .i64 0,.int .i64 0,.int .i64 0,.int .i64 0,.int .i64 0] 83)) ((w.alloc (Obj.cells #[.int .i64 0,.int .i64 0,.int .i64 0,.int .i64 0,.int .i64 0,.int .i64 0,.int .i64 0,.int .i64 0,.int .i64 0,.int .i64 0,.int .i64 0,.int .i64 0,.int .i64 0,.int .i64 0,.int .i64 0,.int .i64 0,.int .i64 0,.int .i64 0,.int .i64 0] 83)).setCells w.heap.size 0 (Bc f c T K).toArray.toList):=But.setCells _ _ (But.refl _ _);refine ⟨HZ.out.setAll (vs:=Bc f c T K) rfl,(Bl.alloc hB _).but hbut (by omega),But.below (bel_alloc w _) hbut (by simp) (Nat.le_refl _)⟩
 have o0:=HA1.out.1.cell 0 _ rfl;have o1:=HA1.out.1.cell 1 _ rfl;have HT2:Aside (W1.there g 0 (#[.int .i64 f,.int .i64 c,.int .i64 J,.int .i64 0,.int .i64 0,.int .i64 0,.int .i64 0,.int .i64 0,.int .i64 0,.int .i64 0,.int .i64 0,.int .i64 0,.int .i64 0,.int .i64 0,.int .i64 0,.int .i64 0,.int .i64 0,.int .i64 0,.int .i64 0]:Array Value).size):=qsd (HA1.out.2.1.there 0 19 (Nat.le_refl 19));have HO2:Aside ((#[.int .i64 f,.int .i64 c,.int .i64 J,.int .i64 0,.int .i64 0,.int .i64 0,.int .i64 0,.int .i64 0,.int .i64 0,.int .i64 0,.int .i64 0,.int .i64 0,.int .i64 0,.int .i64 0,.int .i64 0,.int .i64 0,.int .i64 0,.int .i64 0,.int .i64 0]:Array Value).all (·.oneCell')=true):=qsd (by simp [Value.oneCell'])
 have HS3:Aside ((Tryz.prog.info? 83).map (·.size)=some (#[.int .i64 f,.int .i64 c,.int .i64 J,.int .i64 0,.int .i64 0,.int .i64 0,.int .i64 0,.int .i64 0,.int .i64 0,.int .i64 0,.int .i64 0,.int .i64 0,.int .i64 0,.int .i64 0,.int .i64 0,.int .i64 0,.int .i64 0,.int .i64 0,.int .i64 0]:Array Value).size):=Tryz.size_bins9
 obtain ⟨W2,hW2⟩:∃ W2,W2=W1.setCells g 0 (#[.int .i64 f,.int .i64 c,.int .i64 J,.int .i64 0,.int .i64 0,.int .i64 0,.int .i64 0,.int .i64 0,.int .i64 0,.int .i64 0,.int .i64 0,.int .i64 0,.int .i64 0,.int .i64 0,.int .i64 0,.int .i64 0,.int .i64 0,.int .i64 0,.int .i64 0]:Array Value).toList:=⟨_,rfl⟩;have HW2:=qsd hW2
 have HA2:Aside (Bl W2 w.heap.size 83 (Bc f c T K)∧Bn W2 g f c J (rsK K f d 0)∧But g w W2):=by
  have hbut:But g W1 W2:=by rw [hW2];exact But.setCells _ _ (But.refl _ _)
  refine ⟨HA1.out.1.but hbut (by omega),?_,((But.refl g w).of_bel9 HA1.out.2.2).trans hbut⟩
  · rw [rsK_zero,hW2]
    exact HA1.out.2.1.setAll (vs:=[.int .i64 f,.int .i64 c,.int .i64 J,.int .i64 0,.int .i64 0,.int .i64 0,.int .i64 0,.int .i64 0,.int .i64 0,.int .i64 0,.int .i64 0,.int .i64 0,.int .i64 0,.int .i64 0,.int .i64 0,.int .i64 0,.int .i64 0,.int .i64 0,.int .i64 0]) rfl
 have HR2:Aside (W2.rangeAt w.heap.size 3 [.int .i64 (K 0/4294967296),.int .i64 (K 0%4294967296),.int .i64 (K 1/4294967296),.int .i64 (K 1%4294967296),.int .i64 (K 2/4294967296),.int .i64 (K 2%4294967296),.int .i64 (K 3/4294967296),.int .i64 (K 3%4294967296),.int .i64 (K 4/4294967296),.int .i64 (K 4%4294967296),.int .i64 (K 5/4294967296),.int .i64 (K 5%4294967296),.int .i64 (K 6/4294967296),.int .i64 (K 6%4294967296),.int .i64 (K 7/4294967296),.int .i64 (K 7%4294967296)]):=qsd (HA2.out.1.range 3 _ (fun j v hv=>by
  have e:(Bc f c T K)[3+j]?=([.int .i64 (K 0/4294967296),.int .i64 (K 0%4294967296),.int .i64 (K 1/4294967296),.int .i64 (K 1%4294967296),.int .i64 (K 2/4294967296),.int .i64 (K 2%4294967296),.int .i64 (K 3/4294967296),.int .i64 (K 3%4294967296),.int .i64 (K 4/4294967296),.int .i64 (K 4%4294967296),.int .i64 (K 5/4294967296),.int .i64 (K 5%4294967296),.int .i64 (K 6/4294967296),.int .i64 (K 6%4294967296),.int .i64 (K 7/4294967296),.int .i64 (K 7%4294967296)]:List Value)[j]?:=by rw [Nat.add_comm];rfl
  rw [e];exact hv))
 have HS4:Aside ((Tryz.prog.info? 81).map (·.size)=some ([.int .i64 (K 0/4294967296),.int .i64 (K 0%4294967296),.int .i64 (K 1/4294967296),.int .i64 (K 1%4294967296),.int .i64 (K 2/4294967296),.int .i64 (K 2%4294967296),.int .i64 (K 3/4294967296),.int .i64 (K 3%4294967296),.int .i64 (K 4/4294967296),.int .i64 (K 4%4294967296),.int .i64 (K 5/4294967296),.int .i64 (K 5%4294967296),.int .i64 (K 6/4294967296),.int .i64 (K 6%4294967296),.int .i64 (K 7/4294967296),.int .i64 (K 7%4294967296)]:List Value).length):=Tryz.size_arr9
 have HJ:=qsd hd;have HBw:=qsd hB;clear hB hd hW1 hW2;go_enter Tryz.func45,Tryz.ntmps45
 go_wp2_with (first
  | ((with_reducible refine wpList_load_mid (P:=Tryz.prog) rfl 83 (.tmp 14) rfl g 0 rfl (Bc f c T K) db HR.out HD.out.1 HD.out.2 HS.out ?_))
  | ((with_reducible refine wpList_store_mid (P:=Tryz.prog) rfl 83 (.tmp 4) (.tmp 15) rfl w.heap.size 0 (Bc f c T K).toArray rfl rfl HT.out HS2.out HO.out ?_);rw [←HW1.out])
  | ((with_reducible refine wpList_store_mid (P:=Tryz.prog) rfl 83 (.tmp 23) (.tmp 22) rfl g 0 (#[.int .i64 f,.int .i64 c,.int .i64 J,.int .i64 0,.int .i64 0,.int .i64 0,.int .i64 0,.int .i64 0,.int .i64 0,.int .i64 0,.int .i64 0,.int .i64 0,.int .i64 0,.int .i64 0,.int .i64 0,.int .i64 0,.int .i64 0,.int .i64 0,.int .i64 0]:Array Value) rfl rfl HT2.out HS3.out HO2.out ?_);rw [←HW2.out])
  | ((with_reducible refine wpList_load_mid (P:=Tryz.prog) rfl 81 (.tmp 24) rfl w.heap.size 3 rfl [.int .i64 (K 0/4294967296),.int .i64 (K 0%4294967296),.int .i64 (K 1/4294967296),.int .i64 (K 1%4294967296),.int .i64 (K 2/4294967296),.int .i64 (K 2%4294967296),.int .i64 (K 3/4294967296),.int .i64 (K 3%4294967296),.int .i64 (K 4/4294967296),.int .i64 (K 4%4294967296),.int .i64 (K 5/4294967296),.int .i64 (K 5%4294967296),.int .i64 (K 6/4294967296),.int .i64 (K 6%4294967296),.int .i64 (K 7/4294967296),.int .i64 (K 7%4294967296)] da HR2.out HE.out.1 HE.out.2 HS4.out ?_)))
 clear HR HS HZ HT HO HS2 HW1 HA1 o0 o1 HT2 HO2 HS3 HW2 HR2 HS4 HBw HD HE k2 hdn W1;refine wp_loop_rounds 9 ?_;obtain ⟨u0,hu0⟩:∃ u0,u0=W2:=⟨_,rfl⟩;rw [←hu0] at HA2 ⊢;clear hu0 W2;have hlt:w.heap.size<u0.heap.size:=HA2.out.1.lt;have kT:=HA2.out.1.cell 2 _ rfl;have kA:=(HA2.out.1.alloc (.cells #[.int .i64 (K 0/4294967296),.int .i64 (K 0%4294967296)] 80)).cell 2 _ rfl;rw [rounds_succ]
 go_wp2_with fail
 with_reducible refine (P0.out _ (HA2.out.2.1.alloc _)).mono ?_
 rintro r u1 ⟨rfl,hB,hbut⟩;have HAz1:Aside (Bl u1 w.heap.size 83 (Bc f c T K)∧Bn u1 g f c J (rsK K f d 1)∧But g w u1):=⟨(HA2.out.1.alloc _).but hbut (by omega),hB,(HA2.out.2.2.alloc _).trans hbut⟩
 clear hB hbut hlt kT kA HA2 P0
 go_wp2_with fail
 have hlt:w.heap.size<u1.heap.size:=HAz1.out.1.lt;have kT:=HAz1.out.1.cell 2 _ rfl;have kA:=(HAz1.out.1.alloc (.cells #[.int .i64 (K 1/4294967296),.int .i64 (K 1%4294967296)] 80)).cell 2 _ rfl;rw [rounds_succ]
 go_wp2_with fail
 with_reducible refine (P1.out _ (HAz1.out.2.1.alloc _)).mono ?_
 rintro r u2 ⟨rfl,hB,hbut⟩;have HAz2:Aside (Bl u2 w.heap.size 83 (Bc f c T K)∧Bn u2 g f c J (rsK K f d 2)∧But g w u2):=⟨(HAz1.out.1.alloc _).but hbut (by omega),hB,(HAz1.out.2.2.alloc _).trans hbut⟩
 clear hB hbut hlt kT kA HAz1 P1
 go_wp2_with fail
 have hlt:w.heap.size<u2.heap.size:=HAz2.out.1.lt;have kT:=HAz2.out.1.cell 2 _ rfl;have kA:=(HAz2.out.1.alloc (.cells #[.int .i64 (K 2/4294967296),.int .i64 (K 2%4294967296)] 80)).cell 2 _ rfl;rw [rounds_succ]
 go_wp2_with fail
 with_reducible refine (P2.out _ (HAz2.out.2.1.alloc _)).mono ?_
 rintro r u3 ⟨rfl,hB,hbut⟩;have HAz3:Aside (Bl u3 w.heap.size 83 (Bc f c T K)∧Bn u3 g f c J (rsK K f d 3)∧But g w u3):=⟨(HAz2.out.1.alloc _).but hbut (by omega),hB,(HAz2.out.2.2.alloc _).trans hbut⟩
 clear hB hbut hlt kT kA HAz2 P2
 go_wp2_with fail
 have hlt:w.heap.size<u3.heap.size:=HAz3.out.1.lt;have kT:=HAz3.out.1.cell 2 _ rfl;have kA:=(HAz3.out.1.alloc (.cells #[.int .i64 (K 3/4294967296),.int .i64 (K 3%4294967296)] 80)).cell 2 _ rfl;rw [rounds_succ]
 go_wp2_with fail
 with_reducible refine (P3.out _ (HAz3.out.2.1.alloc _)).mono ?_
 rintro r u4 ⟨rfl,hB,hbut⟩;have HAz4:Aside (Bl u4 w.heap.size 83 (Bc f c T K)∧Bn u4 g f c J (rsK K f d 4)∧But g w u4):=⟨(HAz3.out.1.alloc _).but hbut (by omega),hB,(HAz3.out.2.2.alloc _).trans hbut⟩
 clear hB hbut hlt kT kA HAz3 P3
 go_wp2_with fail
 have hlt:w.heap.size<u4.heap.size:=HAz4.out.1.lt;have kT:=HAz4.out.1.cell 2 _ rfl;have kA:=(HAz4.out.1.alloc (.cells #[.int .i64 (K 4/4294967296),.int .i64 (K 4%4294967296)] 80)).cell 2 _ rfl;rw [rounds_succ]
 go_wp2_with fail
 with_reducible refine (P4.out _ (HAz4.out.2.1.alloc _)).mono ?_
 rintro r u5 ⟨rfl,hB,hbut⟩;have HAz5:Aside (Bl u5 w.heap.size 83 (Bc f c T K)∧Bn u5 g f c J (rsK K f d 5)∧But g w u5):=⟨(HAz4.out.1.alloc _).but hbut (by omega),hB,(HAz4.out.2.2.alloc _).trans hbut⟩
 clear hB hbut hlt kT kA HAz4 P4
 go_wp2_with fail
 have hlt:w.heap.size<u5.heap.size:=HAz5.out.1.lt;have kT:=HAz5.out.1.cell 2 _ rfl;have kA:=(HAz5.out.1.alloc (.cells #[.int .i64 (K 5/4294967296),.int .i64 (K 5%4294967296)] 80)).cell 2 _ rfl;rw [rounds_succ]
 go_wp2_with fail
 with_reducible refine (P5.out _ (HAz5.out.2.1.alloc _)).mono ?_
 rintro r u6 ⟨rfl,hB,hbut⟩;have HAz6:Aside (Bl u6 w.heap.size 83 (Bc f c T K)∧Bn u6 g f c J (rsK K f d 6)∧But g w u6):=⟨(HAz5.out.1.alloc _).but hbut (by omega),hB,(HAz5.out.2.2.alloc _).trans hbut⟩
 clear hB hbut hlt kT kA HAz5 P5
 go_wp2_with fail
 have hlt:w.heap.size<u6.heap.size:=HAz6.out.1.lt;have kT:=HAz6.out.1.cell 2 _ rfl;have kA:=(HAz6.out.1.alloc (.cells #[.int .i64 (K 6/4294967296),.int .i64 (K 6%4294967296)] 80)).cell 2 _ rfl;rw [rounds_succ]
 go_wp2_with fail
 with_reducible refine (P6.out _ (HAz6.out.2.1.alloc _)).mono ?_
 rintro r u7 ⟨rfl,hB,hbut⟩;have HAz7:Aside (Bl u7 w.heap.size 83 (Bc f c T K)∧Bn u7 g f c J (rsK K f d 7)∧But g w u7):=⟨(HAz6.out.1.alloc _).but hbut (by omega),hB,(HAz6.out.2.2.alloc _).trans hbut⟩
 clear hB hbut hlt kT kA HAz6 P6
 go_wp2_with fail
 have hlt:w.heap.size<u7.heap.size:=HAz7.out.1.lt;have kT:=HAz7.out.1.cell 2 _ rfl;have kA:=(HAz7.out.1.alloc (.cells #[.int .i64 (K 7/4294967296),.int .i64 (K 7%4294967296)] 80)).cell 2 _ rfl;rw [rounds_succ]
 go_wp2_with fail
 with_reducible refine (P7.out _ (HAz7.out.2.1.alloc _)).mono ?_
 rintro r u8 ⟨rfl,hB,hbut⟩;have HAz8:Aside (Bl u8 w.heap.size 83 (Bc f c T K)∧Bn u8 g f c J (rsK K f d 8)∧But g w u8):=⟨(HAz7.out.1.alloc _).but hbut (by omega),hB,(HAz7.out.2.2.alloc _).trans hbut⟩
 clear hB hbut hlt kT kA HAz7 P7
 go_wp2_with fail
 rw [rounds_succ];go_wp2
 go_end0
 exact ⟨rfl,HAz8.out.2.1,HAz8.out.2.2⟩
theorem rise_any (g:Nat) (f c T J:Int) (K:Nat→Int) (w:World) (hB:Bn w g f c T K) (hf:f≤8) (h1:-100≤T∧T≤1000) (h2:-100≤J∧J≤1000) (hK:∀ i,(K i).natAbs≤2^75) :
 Calls Tryz.prog 45 #[.pointer (some ⟨g,0,none⟩),.int .i64 J] w fun r w'=>r=.returned (.tuple #[])∧((J≤T∧w'=w)∨(T<J∧Bn w' g f c J (rsK K f (J-T).toNat 8)))∧But g w w':=by
 by_cases h:J≤T
 · refine (rise_no g f c T J K w hB h).mono ?_
   rintro r w' ⟨rfl,rfl⟩;exact ⟨rfl,.inl ⟨h,rfl⟩,But.refl _ _⟩
 · refine (rise_yes g (J-T).toNat f c T J K w hB (by omega) (by omega) hf h1 h2 hK).mono ?_
   rintro r w' ⟨rfl,h3,h4⟩;exact ⟨rfl,.inr ⟨by omega,h3⟩,h4⟩
end
section
open Go Go.RowKit
def Bs (w:World) (g f:Nat) (c T:Int) (D:Int→Int):Prop:=Bn w g f c (T-34) (kf f T D)
theorem Bs.lt {w:World}{g f:Nat}{c T:Int}{D:Int→Int}(h:Bs w g f c T D):g<w.heap.size:=Bl.lt h
theorem Bs.alloc {w:World}{g f:Nat}{c T:Int}{D:Int→Int}(h:Bs w g f c T D) (o:Obj):Bs (w.alloc o) g f c T D:=Bl.alloc h o
theorem Bs.drew {w:World}{g f:Nat}{c T:Int}{D:Int→Int}(h:Bs w g f c T D):Bs w.drew g f c T D:=h
theorem Bs.below {w w':World}{g B f:Nat}{c T:Int}{D:Int→Int}(h:Bs w g f c T D) (hb:Below B w w') (hg:g<B):Bs w' g f c T D:=Bl.below h hb hg
structure Dq (T:Int) (D:Int→Int):Prop where
 top:∀ t,T<t→D t=0
 abs:∀ t,(D t).natAbs≤2^74
 lo:-1≤T
 hi:T≤70
theorem kf_abs {T:Int}{D:Int→Int}(h:Dq T D) (f:Nat) (i:Nat):(kf f T D i).natAbs≤2^75:=by
 unfold kf
 split
 · have:=h.abs (T-i);omega
 · simp
theorem kf_rise {T J:Int}{D:Int→Int}(h:Dq T D) (f:Nat) (hf:f≤8) (hJ:T<J):rsK (kf f T D) f (J-T).toNat 8=kf f J D:=by
 funext k
 unfold rsK kf
 by_cases h1:k<f
 · rw [if_pos h1]
   by_cases h2:(J-T).toNat≤k
   · rw [if_pos (by omega),if_pos (by omega)]
     congr 1;omega
   · rw [if_neg (by omega),h.top _ (by omega)]
 · rw [if_neg (by omega),if_neg h1]
theorem kf_put (f:Nat) (T j v:Int) (D:Int→Int) (hj:j≤T):putK (kf f T D) f (T-j) v=kf f T (upd D j v):=by
 funext k
 unfold putK kf upd
 by_cases h1:k<f
 · rw [if_pos h1,if_pos h1]
   by_cases h2:(k:Int)=T-j
   · rw [if_pos (by omega),if_pos (by omega)]
   · rw [if_neg (by omega),if_neg (by omega)]
 · rw [if_neg h1,if_neg h1,if_neg (by omega)]
theorem rise_abs (g f:Nat) (c T J:Int) (D:Int→Int) (w:World) (hB:Bs w g f c T D) (hD:Dq T D) (hf:f≤8) (h2:-60≤J∧J≤1000) :
 Calls Tryz.prog 45 #[.pointer (some ⟨g,0,none⟩),.int .i64 (J-34)] w fun r w'=>r=.returned (.tuple #[])∧Bs w' g f c (max T J) D∧But g w w':=by
 refine (rise_any g f c (T-34) (J-34) (kf f T D) w hB (by omega) (by have:=hD.lo;have:=hD.hi;omega) (by omega) (kf_abs hD f)).mono ?_
 rintro r w' ⟨rfl,h,hb⟩;refine ⟨rfl,?_,hb⟩
 rcases h with ⟨h,rfl⟩|⟨h,h3⟩
 · rw [show max T J=T by omega];exact hB
 · rw [show J-34-(T-34)=J-T by omega,kf_rise hD f hf (by omega)] at h3
   rw [show max T J=J by omega];exact h3
theorem put_abs (g f:Nat) (c T j v:Int) (D:Int→Int) (w:World) (hB:Bs w g f c T D) (hD:∀ t,(D t).natAbs≤2^74) (hT:-1≤T∧T≤70) (hf:f≤8) (hj:j≤T) (h2:-60≤j) (hv:v.natAbs≤2^74) :
 Calls Tryz.prog 46 #[.pointer (some ⟨g,0,none⟩),.int .i64 (j-34),.agg #[.int .i64 (v/4294967296),.int .i64 (v%4294967296)]] w fun r w'=>r=.returned (.tuple #[])∧Bs w' g f c T (upd D j v)∧But g w w':=by
 have:=put_any g f c (T-34) (j-34) v (kf f T D) w hB (by omega) (by omega) (by omega) (by omega) (fun i=>by unfold kf;split;(have:=hD (T-i);omega);simp) (by omega)
 rw [show T-34-(j-34)=T-j by omega,kf_put f T j v D hj] at this
 exact this
theorem hand_core (g h:Nat) (j x y:Int) (w:World) (hh:h<w.heap.size) (hg:g<w.heap.size) (hne:h≠g) (hc:w.cell? ⟨h,0,none⟩=some (.pointer (some ⟨g,0,none⟩))) (Q:World→Prop)
 (HR:Hid (∃ R:World→Prop,Calls Tryz.prog 45 #[.pointer (some ⟨g,0,none⟩),.int .i64 j] (w.alloc (.cells #[.int .i64 x,.int .i64 y] 80)) (fun r w'=>r=.returned (.tuple #[])∧R w'∧But g (w.alloc (.cells #[.int .i64 x,.int .i64 y] 80)) w') ∧
  ∀ u,R u→But g (w.alloc (.cells #[.int .i64 x,.int .i64 y] 80)) u→Calls Tryz.prog 46 #[.pointer (some ⟨g,0,none⟩),.int .i64 j,.agg #[.int .i64 x,.int .i64 y]] u fun r w'=>r=.returned (.tuple #[])∧Q w')) :
 Calls Tryz.prog 44 #[.int .i64 j,.agg #[.int .i64 x,.int .i64 y],.pointer (some ⟨h,0,none⟩)] w fun r w'=>r=.returned (.tuple #[])∧Q w':=by
 obtain ⟨R,h1,h2⟩:=HR.out;have H1:=hid h1;have H2:=hid h2;have hB0:Aside (Bl (w.alloc (.cells #[.int .i64 x,.int .i64 y] 80)) w.heap.size 80 [.int .i64 x,.int .i64 y]):=Bl.new w 80 [_,_];have HG:=qsd (ai hh (ai hg (ai hne hc)));clear h1 h2 HR;go_enter Tryz.func44,Tryz.ntmps44
 go_wp2_with fail
 with_reducible refine H1.out.mono ?_
 rintro r u ⟨rfl,hR,hbut⟩;have HU:=qsd (ai hR hbut)
 have c0:u.cell? ⟨h,0,none⟩=some (.pointer (some ⟨g,0,none⟩)):=by
  have e1:u.heap[h]?=(w.alloc (.cells #[.int .i64 x,.int .i64 y] 80)).heap[h]?:=hbut.block h (by simp;omega) hne
  have e2:(w.alloc (.cells #[.int .i64 x,.int .i64 y] 80)).heap[h]?=w.heap[h]?:=(bel_alloc w _).block h hh;have e3:u.cell? ⟨h,0,none⟩=w.cell? ⟨h,0,none⟩:=by unfold World.cell?;simp only;rw [e1,e2]
  rw [e3];exact hc
 have b1:=hB0.out.but hbut (by omega)
 have c1:=b1.cell 0 _ rfl;have c2:=b1.cell 1 _ rfl;clear b1 hR hbut hc
 go_wp2_with fail
 with_reducible refine (H2.out _ HU.out.1 HU.out.2).mono ?_
 rintro r u2 ⟨rfl,hQ⟩;go_wp2
 go_end0
 exact ⟨rfl,hQ⟩
theorem hand_any (g h f:Nat) (c T j v:Int) (D:Int→Int) (w:World) (hB:Bs w g f c T D) (hD:Dq T D) (hf:f≤8) (hj:-34≤j∧j≤36) (hv:v.natAbs≤2^74) (hh:h<w.heap.size) (hne:h≠g) (hc:w.cell? ⟨h,0,none⟩=some (.pointer (some ⟨g,0,none⟩))) :
 Calls Tryz.prog 44 #[.int .i64 j,.agg #[.int .i64 (v/4294967296),.int .i64 (v%4294967296)],.pointer (some ⟨h,0,none⟩)] w fun r w'=>r=.returned (.tuple #[])∧Bs w' g f c (max T (j+34)) (upd D (j+34) v)∧But g w w':=by
 refine hand_core g h j _ _ w hh hB.lt hne hc (fun w'=>Bs w' g f c (max T (j+34)) (upd D (j+34) v)∧But g w w') (hid ⟨fun u=>Bs u g f c (max T (j+34)) D,?_,?_⟩)
 · have:=rise_abs g f c T (j+34) D _ (hB.alloc (.cells #[.int .i64 (v/4294967296),.int .i64 (v%4294967296)] 80)) hD hf (by omega)
   rw [show j+34-34=j by omega] at this
   exact this
 · intro u hu hb
   have:=put_abs g f c (max T (j+34)) (j+34) v D u hu hD.abs (by have:=hD.lo;have:=hD.hi;omega) hf (by omega) (by omega) hv
   rw [show j+34-34=j by omega] at this
   refine this.mono ?_;rintro r w' ⟨rfl,h1,h2⟩;exact ⟨rfl,h1,(((But.refl g w).alloc _).trans hb).trans h2⟩
def hnd (s:Int×(Int→Int)) (t v:Int):Int×(Int→Int):=if v=0 then s else (max s.1 t,upd s.2 t v)
theorem ss_ne (z:Int) (t:Nat):ss z t≠0↔sl z.natAbs t≠0:=by
 unfold ss;rw [if_neg (by omega),Int.toNat_natCast]
 split <;> omega
theorem hnd_three (T:Int) (D:Int→Int) (z:Int) (t0:Nat) (hT:-1≤T) (hz:∀ t:Int,t<t0∨(t0:Int)+2<t→ss z t=0) :
 hnd (hnd (hnd (T,D) ((t0:Int)+2) (ss z ((t0:Int)+2))) ((t0:Int)+1) (ss z ((t0:Int)+1))) t0 (ss z t0)=(max T (tp z.natAbs),fun t=>D t+ss z t):=by
 have hs:∀ u:Nat,t0+2<u→sl z.natAbs u=0:=fun u hu=>by
  have:=hz u (.inr (by omega))
  rcases Nat.eq_zero_or_pos (sl z.natAbs u) with q|q
  · exact q
  · exact absurd this ((ss_ne z u).2 (by omega))
 have hs0:∀ u:Nat,u<t0→sl z.natAbs u=0:=fun u hu=>by
  have:=hz u (.inl (by omega))
  rcases Nat.eq_zero_or_pos (sl z.natAbs u) with q|q
  · exact q
  · exact absurd this ((ss_ne z u).2 (by omega))
 have e2:((t0:Int)+2)=((t0+2:Nat):Int):=by omega
 have e1:((t0:Int)+1)=((t0+1:Nat):Int):=by omega
 have hno:∀ u:Nat,¬ sl z.natAbs u≠0→sl z.natAbs u=0:=fun u q=>by omega
 have key:tp z.natAbs=if ss z ((t0:Int)+2)≠0 then ((t0:Int)+2) else if ss z ((t0:Int)+1)≠0 then ((t0:Int)+1) else if ss z (t0:Int)≠0 then (t0:Int) else -1:=by
  by_cases q2:ss z ((t0:Int)+2)≠0
  · rw [if_pos q2,e2]
    rw [e2] at q2;exact tp_iff _ _ ((ss_ne z _).1 q2) (fun u hu=>hs u hu)
  · rw [if_neg q2]
    have z2:sl z.natAbs (t0+2)=0:=hno _ (fun q=>q2 (by rw [e2];exact (ss_ne z _).2 q))
    by_cases q1:ss z ((t0:Int)+1)≠0
    · rw [if_pos q1,e1]
      rw [e1] at q1;refine tp_iff _ _ ((ss_ne z _).1 q1) (fun u hu=>?_)
      by_cases q:u=t0+2
      · rw [q];exact z2
      · exact hs u (by omega)
    · rw [if_neg q1]
      have z1:sl z.natAbs (t0+1)=0:=hno _ (fun q=>q1 (by rw [e1];exact (ss_ne z _).2 q))
      by_cases q0:ss z (t0:Int)≠0
      · rw [if_pos q0]
        refine tp_iff _ _ ((ss_ne z _).1 q0) (fun u hu=>?_)
        by_cases q:u=t0+2
        · rw [q];exact z2
        · by_cases q':u=t0+1
          · rw [q'];exact z1
          · exact hs u (by omega)
      · rw [if_neg q0]
        have z0:sl z.natAbs t0=0:=hno _ (fun q=>q0 ((ss_ne z _).2 q))
        have hall:∀ u,sl z.natAbs u=0:=fun u=>by
         by_cases q:u=t0+2
         · rw [q];exact z2
         · by_cases q':u=t0+1
           · rw [q'];exact z1
           · by_cases q'':u=t0
             · rw [q''];exact z0
             · rcases Nat.lt_or_ge u t0 with q3 | q3
               · exact hs0 u q3
               · exact hs u (by omega)
        have:=tp_ge z.natAbs
        by_cases q3:tp z.natAbs=-1
        · exact q3
        · obtain ⟨u,hu⟩:∃ u:Nat,tp z.natAbs=u:=⟨(tp z.natAbs).toNat,by omega⟩
          exact absurd (hall u) (sl_top _ u hu)
 refine Prod.ext ?_ ?_
 · rw [key]
   unfold hnd
   by_cases q2:ss z ((t0:Int)+2)=0
   · by_cases q1:ss z ((t0:Int)+1)=0
     · by_cases q0:ss z (t0:Int)=0
       · simp only [q2,q1,q0,if_true,ne_eq,not_true_eq_false,if_false];omega
       · simp only [q2,q1,q0,if_true,ne_eq,not_true_eq_false,if_false,not_false_eq_true]
     · by_cases q0:ss z (t0:Int)=0
       · simp only [q2,q1,q0,if_true,ne_eq,not_true_eq_false,if_false,not_false_eq_true]
       · simp only [q2,q1,q0,if_true,ne_eq,not_true_eq_false,if_false,not_false_eq_true];omega
   · by_cases q1:ss z ((t0:Int)+1)=0
     · by_cases q0:ss z (t0:Int)=0
       · simp only [q2,q1,q0,if_true,ne_eq,not_true_eq_false,if_false,not_false_eq_true]
       · simp only [q2,q1,q0,if_true,ne_eq,not_true_eq_false,if_false,not_false_eq_true];omega
     · by_cases q0:ss z (t0:Int)=0
       · simp only [q2,q1,q0,if_true,ne_eq,not_true_eq_false,if_false,not_false_eq_true];omega
       · simp only [q2,q1,q0,if_true,ne_eq,not_true_eq_false,if_false,not_false_eq_true];omega
 · have hu:∀ (s:Int×(Int→Int)) (t v:Int),(hnd s t v).2=fun u=>if u=t then s.2 u+v else s.2 u:=by
    intro s t v;unfold hnd
    split
    · rename_i q;rw [q];funext u;split <;> simp
    · rfl
   rw [hu,hu,hu]
   funext t
   dsimp only
   by_cases a0:t=t0
   · subst a0;rw [if_pos rfl,if_neg (by omega),if_neg (by omega)]
   · rw [if_neg a0]
     by_cases a1:t=(t0:Int)+1
     · subst a1;rw [if_pos rfl,if_neg (by omega)]
     · rw [if_neg a1]
       by_cases a2:t=(t0:Int)+2
       · subst a2;rw [if_pos rfl]
       · rw [if_neg a2,hz t (by omega),Int.add_zero]
end
end Go.Proofs.YtnpchhjhoadehaaGreatDoor
