import Derived.Test.YtjldfhecnaiinaaGreatDoorY23x
import Derived.Test.YtjldfhecnaiinaaGreatDoorH13x
import Derived.Test.YtjldfhecnaiinaaGreatDoorY6x
import Derived.ProofKit
import Derived.OpenShut
import Derived.ChangeOld
import Derived.ChangeArms
import Derived.SizedLaws
import Derived.Laws.Cover2
set_option linter.unusedVariables false
set_option linter.unusedSimpArgs false
set_option maxHeartbeats 16000000
set_option maxRecDepth 20000
namespace Go.Proofs.YtjldfhecnaiinaaGreatDoor
namespace J
end J
section
open Go.RowKit J
open Go.Proofs.YtjldfhecnaiinaaGreatDoor.B (f64bits f64frombits)
attribute [local go_sem] st_float f64bits f64frombits
theorem own13 {V W:Int}(hV:V≠0) (hW:0<W) (k:Nat) (hk:k≤90000) (hb:V.natAbs<2^k) (hb2:W.natAbs<2^k) (L:Nat) (hL:L<9218868437227405312) (e:∀ j,j=1074→V.natAbs*2^j=vK L*W.natAbs) (mode:Int) (hm0:0≤mode) (hm4:mode≤4) :
 qvR V W mode=(L+(if V<0 then 9223372036854775808 else 0),0):=by
 obtain ⟨K,t,m,hL1,hR⟩:=quot_lies hV hW k hk hb hb2;rw [hR mode hm0 hm4,rK_own mode _ (hL1 1074 rfl) L hL (e 1074 rfl)]
theorem lenW_bd (N:Nat) (h:N≤65536) (k:Nat) (hk:k=2148):∃ j:Nat,j=4238∧((N:Int)*((2^k:Nat):Int)).natAbs<2^j:=by
 obtain ⟨j,hj⟩:∃ j:Nat,j=4238:=⟨_,rfl⟩;refine ⟨j,hj,?_⟩;rw [←Int.natCast_mul,Int.natAbs_natCast];have h1:N*2^k<2^17*2^k:=Nat.mul_lt_mul_of_pos_right (by omega) (Nat.two_pow_pos k)
 rw [←Nat.pow_add] at h1;exact Nat.lt_of_lt_of_le h1 (Nat.pow_le_pow_right (by decide) (by omega))
theorem lev_own {xs:List Nat}{s:Sp}{mode:Int}(hW:W64 xs) (hl:xs.length≤65536) (hne:xs≠[]) (hV:vS xs≠0) (hm0:0≤mode) (hm4:mode≤4) (L:Nat) (hL:L<9218868437227405312) (e:∀ j k,j=1074→k=2148→(vS xs).natAbs*2^j=vK L*(xs.length*2^k)) :
 levR xs s mode=(L+(if vS xs<0 then 9223372036854775808 else 0),0):=by
 unfold levR;obtain ⟨k,hk⟩:∃ k:Nat,k=2148:=⟨_,rfl⟩;obtain ⟨j,hj,hb⟩:=vS_bd hW hl;obtain ⟨j2,hj2,hb2⟩:=lenW_bd xs.length hl k hk;rw [if_neg hne,if_neg hV,qn_qv _ _ _ k hk];have hp:0<xs.length:=List.length_pos_iff.2 hne;have hpk:=Nat.two_pow_pos k;refine own13 hV ?_ j (by omega) hb (by rw [hj,←hj2];exact hb2) L hL ?_ mode hm0 hm4
 · rw [←Int.natCast_mul];have:=Nat.mul_pos hp hpk;omega
 · intro i hi
   rw [←Int.natCast_mul,Int.natAbs_natCast];exact e i k hi hk
theorem mean126:meanR [4607182418800017408,4611686018427387904,4618441417868443648] 0 0 0=(4613937818241073152,0):=by
 have e1:askE 0=0:=by decide
 have e2:sfE 0 0 [4607182418800017408,4611686018427387904,4618441417868443648]=0:=by decide +kernel
 have e3:vd (snd (sS [4607182418800017408,4611686018427387904,4618441417868443648]).n (sS [4607182418800017408,4611686018427387904,4618441417868443648]).u (sS [4607182418800017408,4611686018427387904,4618441417868443648]).d (sS [4607182418800017408,4611686018427387904,4618441417868443648]).m (sS [4607182418800017408,4611686018427387904,4618441417868443648]).p (sS [4607182418800017408,4611686018427387904,4618441417868443648]).a&&may 0 0) (sS [4607182418800017408,4611686018427387904,4618441417868443648]).n (sS [4607182418800017408,4611686018427387904,4618441417868443648]).u (sS [4607182418800017408,4611686018427387904,4618441417868443648]).d 0 0=(0,false):=by decide +kernel
 have e4:Ps.fin [4607182418800017408,4611686018427387904,4618441417868443648]=[4607182418800017408,4611686018427387904,4618441417868443648]:=by decide +kernel
 have hp:decide (0<vS [4607182418800017408,4611686018427387904,4618441417868443648])=true:=by decide +kernel
 have hp:=of_decide_eq_true hp;have e5:=lev_own (xs:=[4607182418800017408,4611686018427387904,4618441417868443648]) (s:=sS [4607182418800017408,4611686018427387904,4618441417868443648]) (mode:=0) (by unfold W64;decide) (by decide) (by decide) (by omega) (by decide) (by decide) 4613937818241073152 (by decide) (fun j k hj hk=>by subst hj hk;decide +kernel)
 unfold meanR;rw [e1,if_pos rfl,e2,if_pos rfl,e3,if_neg (by decide),e4,e5,if_neg (by omega)]
 rfl
theorem mid12:midR 4607182418800017408 4611686018427387904 0=(4609434218613702656,0):=by
 have e1:askE 0=0:=by decide
 have e2:plE [4607182418800017408,4611686018427387904]=0:=by decide +kernel
 have hp:decide (0<vS [4607182418800017408,4611686018427387904])=true:=by decide +kernel
 have hp:=of_decide_eq_true hp;have e5:=lev_own (xs:=[4607182418800017408,4611686018427387904]) (s:=sS [4607182418800017408,4611686018427387904]) (mode:=0) (by unfold W64;decide) (by decide) (by decide) (by omega) (by decide) (by decide) 4609434218613702656 (by decide) (fun j k hj hk=>by subst hj hk;decide +kernel)
 unfold midR plnR;rw [e1,if_pos rfl,e2,if_pos rfl,e5,if_neg (by omega)]
 rfl
theorem wt12:wtR [4607182418800017408,4611686018427387904] [4607182418800017408,4613937818241073152] 0=(4610560118520545280,0):=by
 have e1:askE 0=0:=by decide
 have e2:prE [4607182418800017408,4611686018427387904] [4607182418800017408,4613937818241073152]=0:=by decide +kernel
 have hp:decide (0<wS [4607182418800017408,4611686018427387904] [4607182418800017408,4613937818241073152])=true:=by decide +kernel
 have hp:=of_decide_eq_true hp;have hq:decide (0<vS [4607182418800017408,4613937818241073152])=true:=by decide +kernel
 have hq:=of_decide_eq_true hq;have w1:W64 [4607182418800017408,4611686018427387904]:=by unfold W64;decide
 have w2:W64 [4607182418800017408,4613937818241073152]:=by unfold W64;decide
 obtain ⟨k1,hk1,hb1⟩:=wS_bd w1 w2 (by decide)
 obtain ⟨k2,hk2,hb2⟩:=vS_bd w2 (by decide)
 have e5:=own13 (V:=wS [4607182418800017408,4611686018427387904] [4607182418800017408,4613937818241073152]) (W:=vS [4607182418800017408,4613937818241073152]) (by omega) hq k1 (by omega) hb1 (by rw [hk1,←hk2];exact hb2) 4610560118520545280 (by decide) (fun j hj=>by subst hj;decide +kernel) 0 (by decide) (by decide)
 unfold wtR wqR;rw [e1,if_pos rfl,e2,if_pos rfl,if_neg (by omega),e5,if_neg (by omega)]
 rfl
theorem lit13 (w:World) (xs:List Nat) (g:Nat) (hg:g=w.heap.size):Fs (w.alloc (Obj.cells (xs.map fun x=>Value.float .f64 x).toArray 24)).heap.size (w.alloc (Obj.cells (xs.map fun x=>Value.float .f64 x).toArray 24)) (some ⟨g,0,none⟩) xs:=by
 intro _;refine ⟨g,0,by simp;omega,rfl,fun i hi=>?_⟩
 have hB:=Bl.new w 24 (xs.map fun x=>Value.float .f64 x)
 rw [hg];refine (hB.cell (0+i) (.float .f64 (xs.getD i 0)) ?_);rw [Nat.zero_add,List.getElem?_map,List.getD_eq_getElem?_getD,List.getElem?_eq_getElem hi]
 rfl
theorem live13 (w:World) (hT:Tab w):Calls Tryz.prog 9 #[] w fun r w'=>r=.returned (.bool true)∧Below w.heap.size w w':=by
 have o3:(FloatKind.f64.format.order 4613937818241073152 4613937818241073152==some .eq)=true:=by decide +kernel
 have o175:(FloatKind.f64.format.order 4610560118520545280 4610560118520545280==some .eq)=true:=by decide +kernel
 have o15:(FloatKind.f64.format.order 4609434218613702656 4609434218613702656==some .eq)=true:=by decide +kernel
 obtain ⟨W1,hW1⟩:∃ W,W=w.alloc (Obj.cells #[.float .f64 4607182418800017408,.float .f64 4611686018427387904,.float .f64 4618441417868443648] 24):=⟨_,rfl⟩
 have B1:Aside (Below w.heap.size w W1∧Fs W1.heap.size W1 (some ⟨w.heap.size,0,none⟩) [4607182418800017408,4611686018427387904,4618441417868443648]):=by
  rw [hW1];exact ⟨bel_alloc _ _,lit13 w [_,_,_] _ rfl⟩
 have HT:=qsd hT;have C1:=hid (Mean13 [4607182418800017408,4611686018427387904,4618441417868443648] (some ⟨w.heap.size,0,none⟩) 3 3 0 0 0 W1 rfl B1.out.2 (by unfold W64;decide) (hT.belows B1.out.1) (by decide) _ mean126)
 have HW1:=qsd hW1;clear hW1 hT;go_enter Tryz.func9,Tryz.ntmps9
 go_wp2_with fail
 rw [←HW1.out];clear HW1;refine C1.out.mono ?_;rintro r u1 ⟨rfl,hb1⟩;have B2:=qsd (B1.out.1.trans (hb1.mono B1.out.1.size));clear hb1 C1 B1;obtain ⟨W2,hW2⟩:∃ W,W=(u1.alloc (Obj.cells #[.float .f64 4607182418800017408,.float .f64 4611686018427387904] 24)).alloc (Obj.cells #[.float .f64 4607182418800017408,.float .f64 4613937818241073152] 24):=⟨_,rfl⟩
 have B3:Aside (Below w.heap.size w W2∧Fs W2.heap.size W2 (some ⟨u1.heap.size,0,none⟩) [4607182418800017408,4611686018427387904]∧Fs W2.heap.size W2 (some ⟨u1.heap.size+1,0,none⟩) [4607182418800017408,4613937818241073152]):=by
  rw [hW2];exact ⟨(B2.out.trans ((bel_alloc _ _).mono B2.out.size)).trans ((bel_alloc _ _).mono (Nat.le_trans B2.out.size (by simp))),((lit13 u1 [_,_] _ rfl).below (bel_alloc _ _)).mono (by simp),lit13 _ [_,_] _ (by simp)⟩
 have C2:=hid (Weighted13 [4607182418800017408,4611686018427387904] [4607182418800017408,4613937818241073152] (some ⟨u1.heap.size,0,none⟩) (some ⟨u1.heap.size+1,0,none⟩) 2 2 2 2 0 W2 rfl rfl B3.out.2.1 B3.out.2.2 (by unfold W64;decide) (by unfold W64;decide) (HT.out.belows B3.out.1) _ wt12)
 have HW2:=qsd hW2;clear hW2
 go_wp2_with fail
 rw [←HW2.out];clear HW2;refine C2.out.mono ?_;rintro r u2 ⟨rfl,hb2⟩;have B4:=qsd (B3.out.1.trans (hb2.mono B3.out.1.size));clear hb2 C2 B3 B2;have C3:=hid (Middle13 4607182418800017408 4611686018427387904 (by decide) (by decide) 0 u2 (HT.out.belows B4.out) _ mid12)
 go_wp2_with fail
 refine C3.out.mono ?_;rintro r u3 ⟨rfl,hb3⟩;have B5:=qsd (B4.out.trans (hb3.mono B4.out.size));clear hb3 C3 B4;simp only;go_wp2;go_ret;exact ⟨rfl,B5.out⟩
theorem exact_law13 (x y:Nat) (w:World):Calls Tryz.prog 11 #[.float .f64 x,.float .f64 y] w fun r w'=>r=.returned (.bool (decide (x=y)))∧w'=w:=by
 go_enter Tryz.func11,Tryz.ntmps11;go_wp2;go_ret;refine ⟨congrArg (fun z=>Ending.returned (Value.bool z)) ?_,rfl⟩
 first | rfl | (rw [Bool.eq_iff_iff];simp;done) | (rw [Bool.eq_iff_iff];simp;omega)
end
section
open Go.RowKit J
attribute [local go_sem] st_float
theorem ask_ok {mode:Int}(h:askE mode=0):0≤mode∧mode≤4:=by
 unfold askE at h
 by_cases h1:mode<0∨4<mode
 · rw [if_pos h1] at h;exact absurd h (by decide)
 · omega
theorem qn_ok {V:Int}{N:Nat}{mode:Int}(hm:askE mode=0) (hV:V≠0) (k:Nat) (hk:k=4238) (hb:V.natAbs<2^k) (hN:0<N) (hN2:N≤65536):(qnR V N mode).2=0:=by
 obtain ⟨j,hj⟩:∃ k:Nat,k=2148:=⟨_,rfl⟩;obtain ⟨j2,hj2,hb2⟩:=lenW_bd N hN2 j hj;obtain ⟨m0,m4⟩:=ask_ok hm;rw [qn_qv _ _ _ j hj];obtain ⟨K,t,m,_,hR⟩:=quot_lies (V:=V) (W:=(N:Int)*((2^j:Nat):Int)) hV (by rw [←Int.natCast_mul];have:=Nat.mul_pos hN (Nat.two_pow_pos j);omega) k (by omega) hb (by rw [hk,←hj2];exact hb2)
 rw [hR mode m0 m4]
theorem lev_bsd {xs:List Nat}{s:Sp}{mode:Int}(hm:askE mode=0) (hW:W64 xs) (hl:xs.length≤65536):bsd (levR xs s mode).2 (levR xs s mode).1=(levR xs s mode).1:=by
 by_cases h0:xs=[]
 · subst h0;unfold levR;rw [if_pos rfl];rfl
 · by_cases hV:vS xs=0
   · unfold levR;rw [if_neg h0,if_pos hV];rfl
   · obtain ⟨k,hk,hb⟩:=vS_bd hW hl
     have e:(levR xs s mode).2=0:=by
      unfold levR;rw [if_neg h0,if_neg hV];exact qn_ok hm hV k hk hb (List.length_pos_iff.2 h0) hl
     rw [e];rfl
theorem rf_rfz (n u d a b:Int):Ps.rf n u d a b=rfz n u d a b:=rfl
theorem sS_small {xs:List Nat}(hW:W64 xs) (hl:xs.length≤65536):(0≤(sS xs).n∧(sS xs).n≤65536)∧(0≤(sS xs).u∧(sS xs).u≤65536)∧(0≤(sS xs).d∧(sS xs).d≤65536)∧(sS xs).a=xs.length∧(sS xs).a-(sS xs).n-(sS xs).u-(sS xs).d=(Ps.fin xs).length:=by
 rw [sS_cn hW];have h:=fun k=>List.countP_le_length (p:=fun x=>kd x==k) (l:=xs)
 have h5:=h 5;have h3:=h 3;have h4:=h 4;have hf:=fin_count (xs:=xs);unfold Ps.cn at *;refine ⟨⟨?_,?_⟩,⟨?_,?_⟩,⟨?_,?_⟩,rfl,?_⟩ <;> (simp only;omega)
theorem rMean13 (xs:List Nat) (a:Option Addr) (n c:Nat) (mode pa pb:Int) (w:World) (hn:n=xs.length) (hF:Fs w.heap.size w a xs) (hW:W64 xs) (z:Nat×Int) (hz:meanR xs mode pa pb=z) :
 Calls Tryz.prog 14 #[.slice a n c,.int .i64 mode,.agg #[.int .i64 pa,.int .i64 pb]] w fun r w'=>r=.returned (.tuple #[.float .f64 z.1,.int .i64 z.2])∧Below w.heap.size w w':=by
 obtain ⟨X,E⟩:=z;simp only;have HM:=hid (fun u:World=>rMay_any pa pb u)
 obtain ⟨W,hWW⟩:∃ W,W=w.alloc (Obj.cells #[.int .i64 pa,.int .i64 pb] 29):=⟨_,rfl⟩
 have B0:Aside (Bl W w.heap.size 29 [.int .i64 pa,.int .i64 pb]∧Below w.heap.size w W):=by
  rw [hWW];exact ⟨Bl.new _ 29 [_,_],bel_alloc _ _⟩
 have HWW:=qsd hWW;clear hWW;have c0:=B0.out.1.cell 0 _ rfl;have c1:=B0.out.1.cell 1 _ rfl
 by_cases hbad:mode<0∨4<mode∨may pa pb=false
 · have hXE:(X,E)=(0,1):=by
    rw [←hz];unfold meanR
    by_cases ha:askE mode=0
    · rw [if_pos ha]
      obtain ⟨m0,m4⟩:=ask_ok ha;have hm:may pa pb=false:=by rcases hbad with h | h | h;omega;omega;exact h
      have e1:sfE pa pb xs=1:=by unfold sfE;rw [if_pos hm]
      rw [e1,if_neg (by decide)]
    · have e1:askE mode=1:=by unfold askE at ha ⊢;by_cases h1:mode<0∨4<mode;rw [if_pos h1];rw [if_neg h1] at ha;exact absurd rfl ha
      rw [e1,if_neg (by decide)]
   have HXE:=qsd (Prod.mk.inj hXE);have HNo:=hid (fun u:World=>no13 1 u)
   clear hz hXE hn hF hW;obtain ⟨mp,hmp⟩:∃ b,may pa pb=b:=⟨_,rfl⟩;rw [hmp] at HM hbad;clear hmp
   by_cases h1:mode<0
   · clear hbad
     go_enter Tryz.func14,Tryz.ntmps14
     go_wp2_with fail
     rw [←HWW.out];refine (HM.out _).mono ?_;rintro r u ⟨rfl,hb⟩;have B1:=qsd (B0.out.2.trans (hb.mono B0.out.2.size));clear hb HM c0 c1
     go_wp2_with fail
     refine (HNo.out _).mono ?_;rintro r u2 ⟨rfl,hu⟩;rw [hu];go_wp2;exact bodyPost_ret (v:=.tuple #[.float .f64 0,.int .i64 1]) (by simp [results,Tryz.results14,go_sem]) rfl ⟨by rw [HXE.out.1,HXE.out.2],B1.out⟩
   · have d1:decide (mode<0)=false:=decide_eq_false h1
     by_cases h4:4<mode
     · clear hbad
       go_enter Tryz.func14,Tryz.ntmps14
       go_wp2_with fail
       rw [←HWW.out];refine (HM.out _).mono ?_;rintro r u ⟨rfl,hb⟩;have B1:=qsd (B0.out.2.trans (hb.mono B0.out.2.size));clear hb HM c0 c1
       go_wp2_with fail
       refine (HNo.out _).mono ?_;rintro r u2 ⟨rfl,hu⟩;rw [hu];go_wp2;exact bodyPost_ret (v:=.tuple #[.float .f64 0,.int .i64 1]) (by simp [results,Tryz.results14,go_sem]) rfl ⟨by rw [HXE.out.1,HXE.out.2],B1.out⟩
     · have d4:decide (4<mode)=false:=decide_eq_false h4
       obtain rfl:mp=false:=by rcases hbad with h|h|h;omega;omega;exact h
       clear hbad;go_enter Tryz.func14,Tryz.ntmps14
       go_wp2_with fail
       rw [←HWW.out];refine (HM.out _).mono ?_;rintro r u ⟨rfl,hb⟩;have B1:=qsd (B0.out.2.trans (hb.mono B0.out.2.size));clear hb HM c0 c1
       go_wp2_with fail
       refine (HNo.out _).mono ?_;rintro r u2 ⟨rfl,hu⟩;rw [hu];go_wp2;exact bodyPost_ret (v:=.tuple #[.float .f64 0,.int .i64 1]) (by simp [results,Tryz.results14,go_sem]) rfl ⟨by rw [HXE.out.1,HXE.out.2],B1.out⟩
 · have d1:decide (mode<0)=false:=decide_eq_false (by omega)
   have d4:decide (4<mode)=false:=decide_eq_false (by omega)
   have hmay:may pa pb=true:=by cases h:may pa pb;exact absurd (.inr (.inr h)) hbad;rfl
   have hask:askE mode=0:=by unfold askE;rw [if_neg (by omega)]
   unfold meanR at hz;rw [if_pos hask] at hz;rw [hmay] at HM hz
   by_cases hl:65536<n
   · have e1:sfE pa pb xs=2:=by unfold sfE;rw [hmay,if_neg (by decide),if_pos (by omega)]
     rw [e1,if_neg (by decide)] at hz
     have HXE:=qsd (Prod.mk.inj hz);have HNo:=hid (fun u:World=>no13 2 u)
     have d5:decide ((65536:Int)<(n:Nat))=true:=by simp;omega
     clear hz hn hF hW hbad hask hmay e1;go_enter Tryz.func14,Tryz.ntmps14
     go_wp2_with fail
     rw [←HWW.out];refine (HM.out _).mono ?_;rintro r u ⟨rfl,hb⟩;have B1:=qsd (B0.out.2.trans (hb.mono B0.out.2.size));clear hb HM c0 c1
     go_wp2_with fail
     refine (HNo.out _).mono ?_;rintro r u2 ⟨rfl,hu⟩;rw [hu];go_wp2;exact bodyPost_ret (v:=.tuple #[.float .f64 0,.int .i64 2]) (by simp [results,Tryz.results14,go_sem]) rfl ⟨by rw [HXE.out.1,HXE.out.2],B1.out⟩
   · have d5:decide ((65536:Int)<(n:Nat))=false:=by simp;omega
     have hlx:xs.length≤65536:=by omega
     have e1:sfE pa pb xs=rfz (sS xs).n (sS xs).u (sS xs).d pa pb:=by unfold sfE;rw [hmay,if_neg (by decide),if_neg (by omega),rf_rfz]
     obtain ⟨k,hk,hvb⟩:=vS_bd hW hlx;obtain ⟨b1,b2,b3,b4,b5⟩:=sS_small hW hlx;have lb:=lev_bsd (s:=sS xs) hask (fin_W64 hW) (Nat.le_trans (List.length_filter_le _ _) hlx);have HWh:=hid (fun (u:World) (hb:Below w.heap.size w u)=>rWhole12 xs a n c u hn ((hF.below hb).mono hb.size) hW (by omega))
     have Fv:=qsd (vS_fm hW hlx);rw [e1] at hz;rw [lb] at hz;obtain ⟨fl,hfl⟩:∃ f,Ps.fin xs=f:=⟨_,rfl⟩;have hVf:vS fl=vS xs:=by rw [←hfl];exact vS_fin hW
     rw [hfl] at hz b5;obtain ⟨⟨sn,su,sd,sm,sp,sa⟩,hs⟩:∃ s,sS xs=s:=⟨_,rfl⟩;rw [hs] at hz b1 b2 b3 b4 b5 HWh;simp only at hz b1 b2 b3 b4 b5 HWh;obtain ⟨V,hV⟩:∃ V,vS xs=V:=⟨_,rfl⟩;rw [hV] at hVf hvb HWh Fv;have HTo:=hid (fun (u:World) (p:Option Addr) (q:Nat) (hN:Nt 0 u (.slice p (ws (dX (exV V))).length q) (dX (exV V))) (z:Nat×Int) (hz:toR V fl.length ⟨sn,su,sd,sm,sp,sa⟩ mode=z)=>rTold13 V p q fl.length sn su sd sm sp sa mode u k (by omega) hvb hN (by have:fl.length≤65536:=(by rw [←hfl];exact Nat.le_trans (List.length_filter_le _ _) hlx);omega) z hz)
     have HRf:=hid (fun u:World=>rRefused12 sn su sd sm sp sa pa pb u ⟨b2.1,by omega⟩ ⟨b3.1,by omega⟩)
     have HVd:=hid (fun u:World=>rVerdict_any sn su sd sm sp sa pa pb u)
     rw [hmay] at HVd;obtain ⟨er,her⟩:∃ e,rfz sn su sd pa pb=e:=⟨_,rfl⟩;rw [her] at hz HRf;obtain ⟨⟨xv,tv⟩,hvd⟩:∃ z,vd (snd sn su sd sm sp sa&&true) sn su sd pa pb=z:=⟨_,rfl⟩;rw [hvd] at hz HVd;simp only at hz HVd;obtain ⟨ov,hov⟩:∃ o,exV V=o:=⟨_,rfl⟩;rw [hov] at HWh Fv HTo;have hn6:n≤65536:=by omega
     have HS:=(qsd (ai b1 (ai b2 (ai b3 (ai b4 (ai b5 (ai hVf (ai hn hn6))))))));clear hn hF hW hbad hask hmay e1 lb hfl hs hV her hvd hov b1 b2 b3 b4 b5 hVf hvb hk hlx hl hn6;go_enter Tryz.func14,Tryz.ntmps14
     go_wp2_with fail
     rw [←HWW.out];clear HWW;refine (HM.out _).mono ?_;rintro r u ⟨rfl,hb⟩;have B1:Aside (Bl u w.heap.size 29 [.int .i64 pa,.int .i64 pb]∧Below w.heap.size w u):=⟨B0.out.1.below hb B0.out.1.lt,B0.out.2.trans (hb.mono B0.out.2.size)⟩;have C1:=hid (HWh.out u B1.out.2);clear hb HM c0 c1 B0 HWh
     go_wp2_with fail
     refine C1.out.mono ?_;rintro r u2 ⟨⟨p,q,rfl,hN⟩,hb⟩;obtain ⟨U,hU⟩:∃ U,U=u2.alloc (Obj.cells #[.bool (dN ov),.slice p (ws (dX ov)).length q,.int .i64 (dE ov),.int .i64 sn,.int .i64 su,.int .i64 sd,.int .i64 sm,.int .i64 sp,.int .i64 sa] 63):=⟨_,rfl⟩;obtain ⟨ga,hga⟩:∃ g,u2.heap.size=g:=⟨_,rfl⟩;obtain ⟨gp,hgp⟩:∃ g,w.heap.size=g:=⟨_,rfl⟩
     have B2:Aside (Bl U gp 29 [.int .i64 pa,.int .i64 pb]∧Bl U ga 63 [.bool (dN ov),.slice p (ws (dX ov)).length q,.int .i64 (dE ov),.int .i64 sn,.int .i64 su,.int .i64 sd,.int .i64 sm,.int .i64 sp,.int .i64 sa]∧Below w.heap.size w U∧Nt 0 U (.slice p (ws (dX ov)).length q) (dX ov)):=by
      have hb3:=B1.out.2.trans (hb.mono B1.out.2.size);rw [hU,←hga,←hgp];exact ⟨(B1.out.1.below hb B1.out.1.lt).alloc _,Bl.new _ 63 [_,_,_,_,_,_,_,_,_],hb3.trans ((bel_alloc _ _).mono hb3.size),hN.below (bel_alloc _ _)⟩
     have HU:=(qsd (ai hU (ai hga hgp)));clear hb hN C1 B1 hU hga hgp;have p0:=B2.out.1.cell 0 _ rfl;have p1:=B2.out.1.cell 1 _ rfl;have s3:=B2.out.2.1.cell 3 _ rfl;have s4:=B2.out.2.1.cell 4 _ rfl;have s5:=B2.out.2.1.cell 5 _ rfl;have s6:=B2.out.2.1.cell 6 _ rfl;have s7:=B2.out.2.1.cell 7 _ rfl;have s8:=B2.out.2.1.cell 8 _ rfl
     go_upto_region 7 with fail
     rw [←HU.out.1,HU.out.2.1,HU.out.2.2];clear HU
     go_wp2_with fail
     refine (HRf.out _).mono ?_;rintro r u3 ⟨rfl,hb⟩
     have B3:Aside (Bl u3 gp 29 [.int .i64 pa,.int .i64 pb]∧Bl u3 ga 63 [.bool (dN ov),.slice p (ws (dX ov)).length q,.int .i64 (dE ov),.int .i64 sn,.int .i64 su,.int .i64 sd,.int .i64 sm,.int .i64 sp,.int .i64 sa]∧Below w.heap.size w u3∧Nt 0 u3 (.slice p (ws (dX ov)).length q) (dX ov)) :=
      ⟨B2.out.1.below hb B2.out.1.lt,B2.out.2.1.below hb B2.out.2.1.lt,B2.out.2.2.1.trans (hb.mono B2.out.2.2.1.size),B2.out.2.2.2.below hb⟩
     clear hb B2 HRf p0 p1 s3 s4 s5 s6 s7 s8
     by_cases he:er=0
     · subst he
       rw [if_pos rfl] at hz;have p0:=B3.out.1.cell 0 _ rfl;have p1:=B3.out.1.cell 1 _ rfl;have s3:=B3.out.2.1.cell 3 _ rfl;have s4:=B3.out.2.1.cell 4 _ rfl;have s5:=B3.out.2.1.cell 5 _ rfl;have s6:=B3.out.2.1.cell 6 _ rfl;have s7:=B3.out.2.1.cell 7 _ rfl;have s8:=B3.out.2.1.cell 8 _ rfl
       go_wp2_with fail
       refine (HVd.out _).mono ?_;rintro r u4 ⟨rfl,hb⟩
       have B4:Aside (Bl u4 ga 63 [.bool (dN ov),.slice p (ws (dX ov)).length q,.int .i64 (dE ov),.int .i64 sn,.int .i64 su,.int .i64 sd,.int .i64 sm,.int .i64 sp,.int .i64 sa]∧Below w.heap.size w u4∧Nt 0 u4 (.slice p (ws (dX ov)).length q) (dX ov)) :=
        ⟨B3.out.2.1.below hb B3.out.2.1.lt,B3.out.2.2.1.trans (hb.mono B3.out.2.2.1.size),B3.out.2.2.2.below hb⟩
       clear hb B3 HVd p0 p1 s3 s4 s5 s6 s7 s8
       cases tv with
       | true =>
         simp only [if_true] at hz;have HXE:=qsd (Prod.mk.inj hz);clear hz HTo;go_wp2;exact bodyPost_ret (v:=.tuple #[.float .f64 xv,.int .i64 0]) (by simp [results,Tryz.results14,go_sem]) rfl ⟨by rw [HXE.out.1,HXE.out.2],B4.out.2.1⟩
       | false =>
         simp only [Bool.false_eq_true,if_false] at hz;have s0:=B4.out.1.cell 0 _ rfl;have s1:=B4.out.1.cell 1 _ rfl;have s2:=B4.out.1.cell 2 _ rfl;have s3:=B4.out.1.cell 3 _ rfl;have s4:=B4.out.1.cell 4 _ rfl;have s5:=B4.out.1.cell 5 _ rfl;have s6:=B4.out.1.cell 6 _ rfl;have s7:=B4.out.1.cell 7 _ rfl;have s8:=B4.out.1.cell 8 _ rfl;have w1:IntKind.i64.wrap (sa-sn)=sa-sn:=by have:=HS.out;rw [IntKind.wrap_i64];omega
         have w2:IntKind.i64.wrap (sa-sn-su)=sa-sn-su:=by have:=HS.out;rw [IntKind.wrap_i64];omega
         have w3:IntKind.i64.wrap (sa-sn-su-sd)=(fl.length:Nat):=by have:=HS.out;rw [IntKind.wrap_i64];omega
         by_cases hf0:fl=[]
         · have hl0:fl.length=0:=by rw [hf0];rfl
           unfold levR at hz;rw [if_pos hf0] at hz;rw [hl0] at w3;have HXE:=qsd (Prod.mk.inj hz);have HNo:=hid (fun u:World=>no13 3 u)
           clear hz HTo hf0 hl0
           go_wp2_with fail
           refine (HNo.out _).mono ?_;rintro r u5 ⟨rfl,hu⟩;rw [hu];go_wp2;exact bodyPost_ret (v:=.tuple #[.float .f64 0,.int .i64 3]) (by simp [results,Tryz.results14,go_sem]) rfl ⟨by rw [HXE.out.1,HXE.out.2],B4.out.2.1⟩
         · have hl0:fl.length≠0:=fun h=>hf0 (List.eq_nil_of_length_eq_zero h)
           rw [lev_to hf0,HS.out.2.2.2.2.2.1] at hz;have C:=hid (HTo.out u4 p q B4.out.2.2 _ hz);simp only at C;obtain ⟨N,hN⟩:∃ N,fl.length=N:=⟨_,rfl⟩;rw [hN] at w3 C hl0;have h5:((N:Int)==0)=false:=by rw [beq_eq_false_iff_ne];omega
           clear hz HTo hf0 hN
           go_wp2_with fail
           refine C.out.mono ?_;rintro r u5 ⟨rfl,hb⟩;have B5:=qsd (B4.out.2.1.trans (hb.mono B4.out.2.1.size));clear hb C;go_wp2;exact bodyPost_ret (v:=.tuple #[.float .f64 X,.int .i64 E]) (by simp [results,Tryz.results14,go_sem]) rfl ⟨rfl,B5.out⟩
     · rw [if_neg he] at hz
       have HXE:=qsd (Prod.mk.inj hz);have HNo:=hid (fun u:World=>no13 er u)
       have h1:(er==0)=false:=by simp [he]
       clear hz HTo HVd
       go_wp2_with fail
       refine (HNo.out _).mono ?_;rintro r u4 ⟨rfl,hu⟩;rw [hu];go_wp2;exact bodyPost_ret (v:=.tuple #[.float .f64 0,.int .i64 er]) (by simp [results,Tryz.results14,go_sem]) rfl ⟨by rw [HXE.out.1,HXE.out.2],B3.out.2.2.1⟩
end
section
open Go.RowKit J
theorem lent8_fs {w:World}{g:Nat}{xs:List Nat}(h:OwnF w g (xs++List.replicate 8 mrk10)):Fs w.heap.size w (some ⟨g,0,none⟩) xs:=by
 have:=h.fs h.lt xs.length;rw [show (xs++List.replicate 8 mrk10).take xs.length=xs by simp] at this
 exact this
set_option maxRecDepth 100000 in
theorem walk2_MeanMeans (a:Option Addr) (n c:Nat) (xs:List Nat) (mode pa pb:Int) (w:World) (hT:Tab w) (hC:CameF w a n c xs) (hm:n≤17592186043904) :
 Calls Tryz.prog 4 #[.slice a n c,.int .i64 mode,.agg #[.int .i64 pa,.int .i64 pb]] w fun r w'=>r=.returned (.bool true)∧Below w.heap.size w w':=by
 obtain ⟨hl1,_,hW1,hF1,_⟩:=hC;have up:∀ u:World,Below w.heap.size w u→Fs u.heap.size u a xs∧Tab u∧Fs w.heap.size u a xs:=fun u hb=>⟨(hF1.below hb).mono hb.size,hT.belows hb,hF1.below hb⟩
 obtain ⟨⟨X1,E1⟩,h1⟩:∃ r,meanR xs mode pa pb=r:=⟨_,rfl⟩;have HA:=hid (fun (u:World) (hb:Below w.heap.size w u)=>live13 u (up u hb).2.1)
 have HL:=hid (fun (u:World) (hb:Below w.heap.size w u)=>rLent10 xs a n c u.heap.size u hl1 hm (up u hb).1 (Nat.le_refl _))
 have HE:Hid (∀ (u:World) (g:Nat),Below w.heap.size w u→OwnF u g (xs++List.replicate 8 mrk10)→Calls Tryz.prog 10 #[.slice (some ⟨g,0,none⟩) n (n+8),.int .i64 mode,.agg #[.int .i64 pa,.int .i64 pb]] u fun r w'=>r=.returned (.tuple #[.float .f64 X1,.int .i64 E1])∧Below u.heap.size u w'):=fun u g hb ho=>by
  exact Mean13 xs (some ⟨g,0,none⟩) n (n+8) mode pa pb u hl1 (lent8_fs ho) hW1 (up u hb).2.1 (by omega) _ h1
 have HK:=hid (fun (u:World) (g:Nat) (hb:Below w.heap.size w u) (ho:OwnF u g (xs++List.replicate 8 mrk10))=>rAsLent10 xs a n c u.heap.size g u hl1 hm (up u hb).1 (Nat.le_refl _) ho)
 have HQ:Hid (∀ u:World,Below w.heap.size w u→Calls Tryz.prog 14 #[.slice a n c,.int .i64 mode,.agg #[.int .i64 pa,.int .i64 pb]] u fun r w'=>r=.returned (.tuple #[.float .f64 X1,.int .i64 E1])∧Below u.heap.size u w'):=fun u hb=>by
  exact rMean13 xs a n c mode pa pb u hl1 (up u hb).1 hW1 _ h1
 clear hl1 hW1 hF1 up h1 hT hm;obtain ⟨W,hW⟩:∃ W,W=w.alloc (Obj.cells #[.int .i64 pa,.int .i64 pb] 29):=⟨_,rfl⟩;have B0:Aside (Below w.heap.size w W∧Bl W w.heap.size 29 [.int .i64 pa,.int .i64 pb]):=by rw [hW];exact ⟨bel_alloc _ _,Bl.new w 29 [_,_]⟩
 go_enter Tryz.func4,Tryz.ntmps4
 go_wp2_with fail
 rw [←hW];clear hW;refine (HA.out _ B0.out.1).mono ?_;rintro r u1 ⟨rfl,hb⟩;have B1:=qsd (ai (B0.out.1.trans (hb.mono B0.out.1.size)) (B0.out.2.below hb B0.out.2.lt));clear hb HA B0
 go_wp2_with fail
 refine (HL.out _ B1.out.1).mono ?_;rintro r u2 ⟨rfl,ho,hb⟩;obtain ⟨g,hg⟩:∃ g,g=u1.heap.size:=⟨_,rfl⟩;rw [←hg] at ho ⊢;have B2:Aside (Below w.heap.size w u2∧OwnF u2 g (xs++List.replicate 8 mrk10)∧Bl u2 w.heap.size 29 [.int .i64 pa,.int .i64 pb]):=⟨B1.out.1.trans (hb.mono B1.out.1.size),ho,B1.out.2.below hb B1.out.2.lt⟩;clear hb ho hg B1 HL;have p0:=B2.out.2.2.cell 0 _ rfl;have p1:=B2.out.2.2.cell 1 _ rfl
 go_wp2_with fail
 refine (HE.out _ g B2.out.1 B2.out.2.1).mono ?_;rintro r u3 ⟨rfl,hb⟩;have B3:Aside (Below w.heap.size w u3∧OwnF u3 g (xs++List.replicate 8 mrk10)∧Bl u3 w.heap.size 29 [.int .i64 pa,.int .i64 pb]):=⟨B2.out.1.trans (hb.mono B2.out.1.size),B2.out.2.1.below hb B2.out.2.1.lt,B2.out.2.2.below hb B2.out.2.2.lt⟩;clear hb B2 HE p0 p1
 go_wp2_with fail
 refine (HK.out _ g B3.out.1 B3.out.2.1).mono ?_;rintro r u4 ⟨rfl,hb⟩;have B4:Aside (Below w.heap.size w u4∧Bl u4 w.heap.size 29 [.int .i64 pa,.int .i64 pb]):=⟨B3.out.1.trans (hb.mono B3.out.1.size),B3.out.2.2.below hb B3.out.2.2.lt⟩;clear hb B3 HK;have p0:=B4.out.2.cell 0 _ rfl;have p1:=B4.out.2.cell 1 _ rfl
 go_wp2_with fail
 refine (HQ.out _ B4.out.1).mono ?_;rintro r u5 ⟨rfl,hb⟩;have B5:=qsd (B4.out.1.trans (hb.mono B4.out.1.size));clear hb B4 HQ p0 p1;have e1:(E1==E1)=true:=by simp
 go_wp2_with fail
 refine (exact_law13 X1 X1 _).mono ?_;rintro r u9 ⟨rfl,hu9⟩;rw [hu9,decide_eq_true rfl];clear hu9;go_wp2;go_ret;exact ⟨rfl,B5.out⟩
end
section
open Go.ChangeShapes Go.WideShapes Go.ChangeAt Go.RowKit
theorem ints_of12 {H:Type}{enc:TypeId×Value→H}{W:World}{k:Nat}{c:Value}{x:Option (DataW H×List MemPlace)}{y:DataW H×List MemPlace}(h:DataW.trod enc Tryz.prog W 0 (fun _=>true) true k 3 [c]=x) (hx:x=some y):∃ n:Int,c=.int .i64 n∧y.1=.lit (.int .i64 n)∧-9223372036854775808≤n∧n≤9223372036854775807:=by
 subst hx;obtain ⟨e,e2,rfl,hw⟩:=DataW.trod_int Tryz.underlying3 h
 cases e2
 have hw':-9223372036854775808≤e∧e≤9223372036854775807:=by
  simp [Lit.wf,IntKind.min,IntKind.max,IntKind.signed,IntKind.bits] at hw;omega
 exact ⟨e,rfl,rfl,hw'.1,hw'.2⟩
theorem pol_of12 {H:Type}{enc:TypeId×Value→H}{W:World}{r:Reach}{b0:Nat}{v:Value}{d:DataW H}{p:List MemPlace}(hv:Value.okWide Tryz.prog W r b0 29 v) (h:DataW.Trod enc Tryz.prog W 0 (fun _=>true) true 29 v d p) :
 ∃ a b:Int,v=.agg #[.int .i64 a,.int .i64 b]:=by
 obtain ⟨cs,rfl,hsz⟩:=okWide_struct Tryz.underlying29 hv;obtain ⟨fuel,hf⟩:=h;have hC:Tryz.prog.cellsOf 29=2:=by kernel_rfl
 have c3:Tryz.prog.cellsOf 3=1:=by kernel_rfl
 obtain ⟨xs,k,rfl,hx,hl,hxl,hfs⟩:=DataW.trod_struct Tryz.underlying29 hf;rw [hC] at hsz
 obtain ⟨c0,c1,rfl⟩:∃ c0 c1,cs=#[c0,c1]:=by
  obtain ⟨l⟩:=cs
  match l,hsz with
  | [a,b],_=>exact ⟨a,b,rfl⟩
 have h0:DataW.trod enc Tryz.prog W 0 (fun _=>true) true k 3 (List.take (Tryz.prog.cellsOf 3) (List.drop 0 [c0,c1]))=xs[0]?:=hfs 0 _ rfl
 have h1:DataW.trod enc Tryz.prog W 0 (fun _=>true) true k 3 (List.take (Tryz.prog.cellsOf 3) (List.drop 1 [c0,c1]))=xs[1]?:=hfs 1 _ rfl
 rw [c3] at h0 h1
 match xs,hxl with
 | [x0,x1],_ =>
   obtain ⟨a,rfl,_⟩:=ints_of12 (c:=c0) h0 rfl;obtain ⟨b,rfl,_⟩:=ints_of12 (c:=c1) h1 rfl;exact ⟨a,b,rfl⟩
end
end Go.Proofs.YtjldfhecnaiinaaGreatDoor
