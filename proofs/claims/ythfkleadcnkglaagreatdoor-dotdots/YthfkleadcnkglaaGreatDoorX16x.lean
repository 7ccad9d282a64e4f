import Derived.Test.YthfkleadcnkglaaGreatDoorX10x
import Derived.Deep.LoopGhost
import Derived.Test.YthfkleadcnkglaaGreatDoorP2x
import Derived.Deep.CutRange
import Derived.Test.YthfkleadcnkglaaGreatDoorO4x
import Derived.Test.YthfkleadcnkglaaGreatDoorM1x
import Derived.OwnWalk
import Derived.ArgAppend
import Derived.Maps.AppendAt
import Derived.WalkMore
import Derived.ProofKit
import Derived.OpenShut
import Derived.ChangeOld
import Derived.ChangeArms
import Derived.SizedLaws
import Derived.Laws.Cover2
import Derived.Test.YthfkleadcnkglaaGreatDoorZ9x
import Derived.Test.YthfkleadcnkglaaGreatDoorW44x
import Derived.BigQuiet
import Derived.Deep.Cut
import Derived.Test.YthfkleadcnkglaaGreatDoorD32cx
import Derived.Deep.RegionHeld3
import Derived.Test.YthfkleadcnkglaaGreatDoorX6x
import Derived.Test.YthfkleadcnkglaaGreatDoorS5x
import Derived.Deep.RegionWith
set_option linter.unusedVariables false
set_option linter.unusedSimpArgs false
set_option maxHeartbeats 16000000
set_option maxRecDepth 20000
namespace Go.Proofs.YthfkleadcnkglaaGreatDoor
namespace J
end J
section
open Go.RowKit J
theorem pHw_snoc (x:Nat) (L:List Nat) (c:Nat):pHw x (L++[c])=addD (mulD (pHw x L) (oW x)) (oW c):=by simp [pHw]
theorem pHw_iv (x:Nat) (hx:x<18446744073709551616) (fx:finW x) (L:List Nat) (hW:W64 L) (hf:∀ c ∈ L,finW c) (hl:L.length≤40):Iv (pHw x L) (-1074*(L.length+1:Nat)) (1025*(L.length+1:Nat)):=by
 have key:∀ M:List Nat,(∀ c ∈ M,c<18446744073709551616)→(∀ c ∈ M,finW c)→∃ M':List (Nat×W12),M'.map (fun y=>y.2.1)=M∧(∀ c ∈ M',finW c.2.1):=by
  intro M
  induction M with
  | nil=>exact fun _ _=>⟨[],rfl,fun c hc=>by cases hc⟩
  | cons m M ih =>
    intro h1 h2;obtain ⟨M',e,h⟩:=ih (fun c hc=>h1 c (List.mem_cons_of_mem _ hc)) (fun c hc=>h2 c (List.mem_cons_of_mem _ hc))
    refine ⟨(0,⟨m,h1 m List.mem_cons_self⟩)::M',by simp [e],fun c hc=>?_⟩
    rcases List.mem_cons.1 hc with rfl|hc
    · exact h2 m List.mem_cons_self
    · exact h c hc
 obtain ⟨M',e,h⟩:=key L hW hf;have:=pH_iv x hx fx M' h (by rw [←e] at hl;simpa using hl)
 rw [pH_w,e] at this;rw [←e] at this ⊢;simpa using this
theorem pHw_val (x:Nat) (hx:x<18446744073709551616) (fx:finW x) (L:List Nat) (c:Nat) (hW:W64 (L++[c])) (hf:∀ d ∈ L++[c],finW d) (hl:L.length≤38) :
 valO (pHw x (L++[c]))*(MM:Int)=valO (pHw x L)*valO (oW x)+valO (oW c)*(MM:Int):=by
 have h1:=pHw_iv x hx fx L (fun d hd=>hW d (List.mem_append_left _ hd)) (fun d hd=>hf d (List.mem_append_left _ hd)) (by omega)
 have h2:=pHw_iv x hx fx (L++[c]) hW hf (by simp;omega)
 have hc:=hW c (by simp)
 have fc:=hf c (by simp)
 have h3:=h1.mul (oW_iv x hx fx) (by omega) (by omega) (by omega)
 rw [pHw_snoc] at h2 ⊢;rw [val_add h3.fm (oW_fm c hc fc) h2.fm,Int.add_mul,val_mul h1.fm (oW_fm x hx fx) h3.fm]
theorem YM (k:Nat) (hk:k=1074):2^k*YY=MM:=by
 rw [Y_eq,M_eq,←Nat.pow_add,show k+EY=EK by rw [hk];decide]
theorem val_int (c j:Nat) (hc:c<18446744073709551616) (fc:finW c) (h:∀ k,k=1074→fvW c=((j*2^k:Nat):Int)):valO (oW c)=((j*MM:Nat):Int):=by
 obtain ⟨k,hk⟩:∃ k,k=1074:=⟨_,rfl⟩;rw [val_oW c hc fc,h k hk,←Int.natCast_mul,Nat.mul_assoc,YM k hk]
theorem f1 (k:Nat) (hk:k=1074):fvW 4607182418800017408=((1*2^k:Nat):Int):=by subst hk;decide +kernel
theorem f2 (k:Nat) (hk:k=1074):fvW 4611686018427387904=((2*2^k:Nat):Int):=by subst hk;decide +kernel
theorem f3 (k:Nat) (hk:k=1074):fvW 4613937818241073152=((3*2^k:Nat):Int):=by subst hk;decide +kernel
theorem M_cancel {a b:Int}(h:a*(MM:Int)=b*(MM:Int)):a=b:=Int.eq_of_mul_eq_mul_right (by have:=M_pos;omega) h
theorem valO_00:valO o00=0:=by unfold valO zv;simp [dX]
theorem mk17:mkS false 17 0=some (false,17,0):=by rw [mkS_odd _ _ _ (by decide),if_neg (by decide +kernel)]
theorem pl17:plR [4607182418800017408,4611686018427387904,4613937818241073152] 4611686018427387904 0=(4625478292286210048,0):=by
 have hx:(4611686018427387904:Nat)<18446744073709551616:=by decide
 have fx:finW 4611686018427387904:=by decide
 have hW:∀ d ∈ [4613937818241073152,4611686018427387904,4607182418800017408],d<18446744073709551616:=by decide
 have hf:∀ d ∈ [4613937818241073152,4611686018427387904,4607182418800017408],finW d:=by decide
 have w1:=val_int _ 1 (by decide) (by decide) f1
 have w2:=val_int _ 2 (by decide) (by decide) f2
 have w3:=val_int _ 3 (by decide) (by decide) f3
 have h1:=pHw_val _ hx fx [] 4613937818241073152 (fun d hd=>hW d (by simp at hd;simp [hd])) (fun d hd=>hf d (by simp at hd;simp [hd])) (by decide)
 have h2:=pHw_val _ hx fx [4613937818241073152] 4611686018427387904 (fun d hd=>hW d (by simp at hd;rcases hd with h | h <;> simp [h])) (fun d hd=>hf d (by simp at hd;rcases hd with h | h <;> simp [h])) (by decide)
 have h3:=pHw_val _ hx fx [4613937818241073152,4611686018427387904] 4607182418800017408 (fun d hd=>hW d (by simpa using hd)) (fun d hd=>hf d (by simpa using hd)) (by decide)
 rw [w2] at h1 h2 h3;rw [w3] at h1;rw [w1] at h3;rw [show pHw 4611686018427387904 []=o00 from rfl,valO_00,Int.zero_mul,Int.zero_add] at h1
 have e1:=M_cancel h1;simp only [List.nil_append,List.cons_append] at e1 h2 h3;rw [e1] at h2
 have e2:valO (pHw 4611686018427387904 [4613937818241073152,4611686018427387904])=((8*MM:Nat):Int):=by
  refine M_cancel (h2.trans ?_);simp only [←Int.natCast_mul,←Int.natCast_add]
  congr 1
  generalize MM=M
  grind
 rw [e2] at h3
 have e3:valO (pHw 4611686018427387904 [4613937818241073152,4611686018427387904,4607182418800017408])=((17*MM:Nat):Int):=by
  refine M_cancel (h3.trans ?_);simp only [←Int.natCast_mul,←Int.natCast_add]
  congr 1
  generalize MM=M
  grind
 have F17:Fm (mkS false 17 0):=by rw [mk17];exact ⟨0,_,frm_fv (mkS_frm mk17) 0⟩
 have e4:pHw 4611686018427387904 [4613937818241073152,4611686018427387904,4607182418800017408]=mkS false 17 0:=by
  refine valO_inj (pHw_iv _ hx fx _ hW hf (by decide)).fm F17 ?_
  rw [e3,val_mk F17 (by decide) EK rfl,←M_eq]
  unfold sg1;simp
 unfold plR;rw [if_neg (by decide),if_neg (by decide),if_pos ⟨fx,by decide⟩]
 show rndS (pHw 4611686018427387904 [4613937818241073152,4611686018427387904,4607182418800017408]) 0=_
 rw [e4,mk17]
 decide +kernel
theorem big_mul:∀ k,k<600→floatBits .mul .f64 ((1023+k)*4503599627370496) 4611686018427387904=some ((1023+(k+1))*4503599627370496):=by decide +kernel
theorem lit12 (w:World) (xs:List Nat):Fs (w.alloc (Obj.cells (xs.map Fw10).toArray 27)).heap.size (w.alloc (Obj.cells (xs.map Fw10).toArray 27)) (some ⟨w.heap.size,0,none⟩) xs:=by
 intro _;refine ⟨w.heap.size,0,by simp,rfl,fun i hi=>?_⟩
 have hO:OwnF (w.alloc (Obj.cells (xs.map Fw10).toArray 27)) w.heap.size xs:=heap_alloc_new _ _;rw [Nat.zero_add];exact hO.cell i hi
theorem lit12b (w:World) (xs:List Nat) (g:Nat) (hg:g=w.heap.size):Fs (w.alloc (Obj.cells (xs.map Fw10).toArray 27)).heap.size (w.alloc (Obj.cells (xs.map Fw10).toArray 27)) (some ⟨g,0,none⟩) xs:=by subst hg;exact lit12 w xs
end
section
open Go.RowKit J
noncomputable def oZ (x:Nat):Option (Bool×Nat×Int):=open Classical in if finW x then oW x else o00
theorem oZ_fin {x:Nat}(h:finW x):oZ x=oW x:=if_pos h
theorem oZ_odd {x:Nat}(h:¬ finW x):oZ x=o00:=if_neg h
theorem oZ_iv (x:Nat) (hx:x<18446744073709551616):Iv (oZ x) (-1074) 1024:=by
 by_cases h:finW x
 · rw [oZ_fin h];exact oW_iv x hx h
 · rw [oZ_odd h];exact o00_iv _ _
theorem rround12 {U:World}{a:Option Addr}{c:Nat}{o:Option (Bool×Nat×Int)}(F:Fm o) (N:Nt 0 U (.slice a (ws (dX o)).length c) (dX o)) (mode:Int) (z:Nat×Int) (hz:rndS o mode=z) :
 Calls Tryz.prog 62 #[.agg #[.bool (dN o),.slice a (ws (dX o)).length c,.int .i64 (dE o)],.int .i64 mode] U fun r w'=>r=.returned (.tuple #[.float .f64 z.1,.int .i64 z.2])∧Below U.heap.size U w':=by
 have:=rRound_any (F.a12 N) F.two (dN o) (dE o) mode F.rng.1 F.rng.2;rw [val_ws,F.re,hz] at this;exact this
end
section
open Go.RowKit J
attribute [local go_sem] st_float
theorem rMay12 (a:Int) (w:World):Calls Tryz.prog 40 #[.int .i64 a] w fun r w'=>r=.returned (.bool (md a))∧w'=w:=by
 unfold md
 by_cases h:0≤a
 · have hd:decide (0≤a)=true:=decide_eq_true h
   rw [hd];go_enter Tryz.func40,Tryz.ntmps40;go_wp2;go_ret;exact ⟨by first | rfl | simp,rfl⟩
 · have hd:decide (0≤a)=false:=decide_eq_false h
   rw [hd];go_enter Tryz.func40,Tryz.ntmps40;go_wp2;go_ret;exact ⟨by first | rfl | simp,rfl⟩
end
section
open Go.RowKit J
set_option maxRecDepth 100000 in
theorem awake12 (w:World) (hT:Tab w):Calls Tryz.prog 9 #[] w fun r w'=>r=.returned (.bool true)∧Below w.heap.size w w':=by
 have HT:=qsd hT;have hone:(FloatKind.f64.format.order 4607182418800017408 4607182418800017408==some .eq)=true:=by decide +kernel
 have hfive:(FloatKind.f64.format.order 4617315517961601024 4617315517961601024==some .eq)=true:=by decide +kernel
 have h17:(FloatKind.f64.format.order 4625478292286210048 4625478292286210048==some .eq)=true:=by decide +kernel
 clear hT;go_enter Tryz.func9,Tryz.ntmps9;go_wp2
 go_loopg [1,2] 600 (fun gk b i wr=>∃ k:Nat,gk+k=600∧b=.float .f64 ((1023+k)*4503599627370496)∧i=.int .i64 (k:Nat)∧wr=w)
 case atStart=>exact ⟨0,by omega,by first | rfl | simp,by first | rfl | simp,rfl⟩
 case round =>
  obtain ⟨k,hgk,rfl,rfl,hw⟩:=hrel;subst hw
  by_cases hk:k<600
  · have d:=run_float_arith (P:=Tryz.prog) wr .mul 27 .f64 _ _ _ (big_mul k hk)
    obtain ⟨B0,hB0⟩:∃ B0,B0=(1023+k)*4503599627370496:=⟨_,rfl⟩;obtain ⟨B1,hB1⟩:∃ B1,B1=(1023+(k+1))*4503599627370496:=⟨_,rfl⟩;rw [←hB0,←hB1] at d;rw [←hB0];have HB:=qsd hB1;have hd:decide ((k:Int)<600)=true:=by simp;omega
    clear hB0 hB1
    go_wp2_with (simp only [d])
    go_roundg (gk-1)
    case measure=>omega
    case rel=>exact ⟨k+1,by omega,by rw [HB.out],by first | rfl | simp,rfl⟩
  · obtain rfl:k=600:=by omega
    rw [show (1023+600)*4503599627370496=7309342195222315008 from rfl]
    have hn:∀ U:World,Sem.run Tryz.prog (Op.unary .neg (.float .f64 7309342195222315008)) U=.ok (.float .f64 16532714232077090816) U:=fun U=>neg12 (P:=Tryz.prog) U 0 7309342195222315008 (by decide)
    have B0:=qsd (Below.refl wr.heap.size wr);obtain ⟨W1,hW1⟩:∃ W,W=((wr.alloc (Obj.cells #[.float .f64 7309342195222315008,.float .f64 4607182418800017408,.float .f64 7309342195222315008] 27)).alloc (Obj.cells #[.float .f64 7309342195222315008,.float .f64 4607182418800017408,.float .f64 16532714232077090816] 27)):=⟨_,rfl⟩
    have H1:Aside (Below wr.heap.size wr W1∧Fs W1.heap.size W1 (some ⟨wr.heap.size,0,none⟩) [7309342195222315008,4607182418800017408,7309342195222315008]∧Fs W1.heap.size W1 (some ⟨wr.heap.size+1,0,none⟩) [7309342195222315008,4607182418800017408,16532714232077090816]):=by
     rw [hW1];have q1:=lit12 wr [7309342195222315008,4607182418800017408,7309342195222315008];have q2:=lit12b (wr.alloc (Obj.cells #[.float .f64 7309342195222315008,.float .f64 4607182418800017408,.float .f64 7309342195222315008] 27)) [7309342195222315008,4607182418800017408,16532714232077090816] (wr.heap.size+1) (by simp)
     exact ⟨(B0.out.trans ((below_alloc _ _).mono B0.out.size)).trans ((below_alloc _ _).mono (Nat.le_trans B0.out.size (by simp))),(q1.below (below_alloc _ _)).mono (by simp),q2⟩
    have C1:Hid (Calls Tryz.prog 11 #[.slice (some ⟨wr.heap.size,0,none⟩) 3 3,.slice (some ⟨wr.heap.size+1,0,none⟩) 3 3,.int .i64 0,.agg #[.int .i64 0,.int .i64 0]] W1 fun r w'=>r=.returned (.tuple #[.float .f64 4607182418800017408,.int .i64 0])∧Below W1.heap.size W1 w'):=by
     have:=Dot12 [7309342195222315008,4607182418800017408,7309342195222315008] [7309342195222315008,4607182418800017408,16532714232077090816] _ _ 3 3 3 3 0 0 0 W1 rfl rfl H1.out.2.1 H1.out.2.2 (by unfold W64;decide) (by unfold W64;decide) (HT.out.belows H1.out.1)
     rw [dotbig] at this;exact this
    have HE1:=qsd hW1;clear hW1
    go_wp2_with (simp only [hn])
    rw [←HE1.out];clear HE1;refine C1.out.mono ?_;rintro r u1 ⟨rfl,hb⟩;have B1:=qsd (H1.out.1.trans (hb.mono H1.out.1.size));clear hb C1 H1 B0;obtain ⟨W2,hW2⟩:∃ W,W=(u1.alloc (Obj.cells #[.float .f64 4613937818241073152,.float .f64 4616189618054758400] 27)):=⟨_,rfl⟩
    have H2:Aside (Below wr.heap.size wr W2∧Fs W2.heap.size W2 (some ⟨u1.heap.size,0,none⟩) [4613937818241073152,4616189618054758400]):=by
     rw [hW2];exact ⟨B1.out.trans ((below_alloc _ _).mono B1.out.size),lit12 u1 [4613937818241073152,4616189618054758400]⟩
    have C2:Hid (Calls Tryz.prog 15 #[.slice (some ⟨u1.heap.size,0,none⟩) 2 2,.int .i64 0] W2 fun r w'=>r=.returned (.tuple #[.float .f64 4617315517961601024,.int .i64 0])∧Below W2.heap.size W2 w'):=by
     have:=Norm12 [4613937818241073152,4616189618054758400] _ 2 2 0 W2 rfl H2.out.2 (by unfold W64;decide) (HT.out.belows H2.out.1)
     rw [norm34] at this;exact this
    have HE2:=qsd hW2;clear hW2
    go_wp2_with fail
    rw [←HE2.out];clear HE2;refine C2.out.mono ?_;rintro r u2 ⟨rfl,hb⟩;have B2:=qsd (H2.out.1.trans (hb.mono H2.out.1.size));clear hb C2 H2 B1;obtain ⟨W3,hW3⟩:∃ W,W=((u2.alloc (Obj.cells #[.float .f64 4607182418800017408,.float .f64 4611686018427387904] 27)).alloc (Obj.cells #[.float .f64 4616189618054758400,.float .f64 4618441417868443648] 27)):=⟨_,rfl⟩
    have H3:Aside (Below wr.heap.size wr W3∧Fs W3.heap.size W3 (some ⟨u2.heap.size,0,none⟩) [4607182418800017408,4611686018427387904]∧Fs W3.heap.size W3 (some ⟨u2.heap.size+1,0,none⟩) [4616189618054758400,4618441417868443648]):=by
     rw [hW3];have q1:=lit12 u2 [4607182418800017408,4611686018427387904];have q2:=lit12b (u2.alloc (Obj.cells #[.float .f64 4607182418800017408,.float .f64 4611686018427387904] 27)) [4616189618054758400,4618441417868443648] (u2.heap.size+1) (by simp)
     exact ⟨(B2.out.trans ((below_alloc _ _).mono B2.out.size)).trans ((below_alloc _ _).mono (Nat.le_trans B2.out.size (by simp))),(q1.below (below_alloc _ _)).mono (by simp),q2⟩
    have C3:Hid (Calls Tryz.prog 16 #[.slice (some ⟨u2.heap.size,0,none⟩) 2 2,.slice (some ⟨u2.heap.size+1,0,none⟩) 2 2,.int .i64 0] W3 fun r w'=>r=.returned (.tuple #[.float .f64 4617315517961601024,.int .i64 0])∧Below W3.heap.size W3 w'):=by
     have:=Dist12 [4607182418800017408,4611686018427387904] [4616189618054758400,4618441417868443648] _ _ 2 2 2 2 0 W3 rfl rfl H3.out.2.1 H3.out.2.2 (by unfold W64;decide) (by unfold W64;decide) (HT.out.belows H3.out.1)
     rw [dist25] at this;exact this
    have HE3:=qsd hW3;clear hW3
    go_wp2_with fail
    rw [←HE3.out];clear HE3;refine C3.out.mono ?_;rintro r u3 ⟨rfl,hb⟩;have B3:=qsd (H3.out.1.trans (hb.mono H3.out.1.size));clear hb C3 H3 B2;obtain ⟨W4,hW4⟩:∃ W,W=(u3.alloc (Obj.cells #[.float .f64 4607182418800017408,.float .f64 4611686018427387904,.float .f64 4613937818241073152] 27)):=⟨_,rfl⟩
    have H4:Aside (Below wr.heap.size wr W4∧Fs W4.heap.size W4 (some ⟨u3.heap.size,0,none⟩) [4607182418800017408,4611686018427387904,4613937818241073152]):=by
     rw [hW4];exact ⟨B3.out.trans ((below_alloc _ _).mono B3.out.size),lit12 u3 [4607182418800017408,4611686018427387904,4613937818241073152]⟩
    have C4:Hid (Calls Tryz.prog 19 #[.slice (some ⟨u3.heap.size,0,none⟩) 3 3,.float .f64 4611686018427387904,.int .i64 0] W4 fun r w'=>r=.returned (.tuple #[.float .f64 4625478292286210048,.int .i64 0])∧Below W4.heap.size W4 w'):=by
     have:=Poly12 [4607182418800017408,4611686018427387904,4613937818241073152] _ 3 3 4611686018427387904 0 W4 rfl H4.out.2 (by unfold W64;decide) (by decide) (HT.out.belows H4.out.1)
     rw [pl17] at this;exact this
    have HE4:=qsd hW4;clear hW4
    go_wp2_with fail
    rw [←HE4.out];clear HE4;refine C4.out.mono ?_;rintro r u4 ⟨rfl,hb⟩;have B4:=qsd (H4.out.1.trans (hb.mono H4.out.1.size));clear hb C4 H4 B3;obtain ⟨W5,hW5⟩:∃ W,W=(u4.alloc (Obj.cells #[.float .f64 4607182418800017408] 27)):=⟨_,rfl⟩
    have H5:Aside (Below wr.heap.size wr W5∧Fs W5.heap.size W5 (some ⟨u4.heap.size,0,none⟩) [4607182418800017408]):=by
     rw [hW5];exact ⟨B4.out.trans ((below_alloc _ _).mono B4.out.size),lit12 u4 [4607182418800017408]⟩
    have C5:Hid (Calls Tryz.prog 11 #[.slice (some ⟨u4.heap.size,0,none⟩) 1 1,.slice none 0 0,.int .i64 0,.agg #[.int .i64 0,.int .i64 0]] W5 fun r w'=>r=.returned (.tuple #[.float .f64 0,.int .i64 4])∧Below W5.heap.size W5 w'):=by
     have:=Dot12 [4607182418800017408] [] _ none 1 1 0 0 0 0 0 W5 rfl rfl H5.out.2 (Fs.nil _ _ _) (by unfold W64;decide) (by unfold W64;decide) (HT.out.belows H5.out.1)
     rw [dotlen] at this;exact this
    have HE5:=qsd hW5;clear hW5
    go_wp2_with fail
    rw [←HE5.out];clear HE5;refine C5.out.mono ?_;rintro r u5 ⟨rfl,hb⟩;have B5:=qsd (H5.out.1.trans (hb.mono H5.out.1.size));clear hb C5 H5 B4;go_wp2;go_ret;exact ⟨rfl,B5.out⟩
end
section
open Go.RowKit J
attribute [local go_sem] st_float
attribute [local go_sem] B.f64bits in
theorem alike12 (x:Nat) (w:World):Calls Tryz.prog 14 #[.float .f64 x,.float .f64 x] w fun r w'=>r=.returned (.bool true)∧w'=w:=by
 go_enter Tryz.func14,Tryz.ntmps14;go_wp2;go_ret;exact ⟨by first | rfl | simp,rfl⟩
end
section
open Go.ChangeShapes Go.WideShapes Go.ChangeAt Go.RowKit
theorem trodF {H:Type}{enc:TypeId×Value→H}{P:Program}{w:World}{base:Nat}{spare:Nat→Bool}{held:Bool}{fuel:Nat}{t:TypeId}{cs:List Value}{x:DataW H×List MemPlace}{k:FloatKind}(ht:P.underlying t=some (.float k)) (h:DataW.trod enc P w base spare held fuel t cs=some x):∃ n,cs=[.float k n]∧x=(.lit (.float k n),[])∧(Lit.float k n).wf=true:=by
 cases fuel with
 | zero=>simp [DataW.trod] at h
 | succ m =>
   simp only [DataW.trod,ht] at h
   split at h <;> simp_all
structure CameF (w:World) (a:Option Addr) (n c:Nat) (xs:List Nat):Prop where
 len:n=xs.length
 cap:n≤c
 wf:W64 xs
 rd:Fs w.heap.size w a xs
 nil:a=none→c=0
theorem add_noneF (b off i:Nat):(⟨b,off,none⟩:Addr).add i=⟨b,off+i,none⟩:=by unfold Addr.add;split <;> simp_all
def numF {H:Type} (y:DataW H×List MemPlace):Nat:=match y.1 with | .lit (.float _ n)=>n | _=>0
theorem Tryz.cellsF:Tryz.prog.cellsOf 27=1:=by kernel_rfl
theorem Tryz.bytesF:Tryz.prog.bytesOf 27=8:=by kernel_rfl
theorem cameF_of {H:Type}{enc:TypeId×Value→H}{W:World}{a:Option Addr}{n c:Nat}{d:DataW H}{p:List MemPlace}(h:DataW.Trod enc Tryz.prog W 0 (fun _=>true) true 22 (.slice a n c) d p) :
 ∃ xs,CameF W a n c xs∧((d=.nil∧c=0)∨∃ elems spare:List (DataW H),d=.slice elems spare∧elems.length+spare.length=c):=by
 obtain ⟨fuel,hf⟩:=h
 rcases DataW.trod_slice Tryz.underlying22 hf with ⟨hcs,hx⟩|⟨x,l,cp,elems,rest,m,_,hcs,hx,hb,hl,hm,hlen,hel,hsp,hns⟩
 · simp [Value.cells] at hcs
   obtain ⟨rfl,rfl,rfl⟩:=hcs;exact ⟨[],⟨rfl,Nat.le_refl _,(fun x hx=>by cases hx),(fun h=>absurd rfl h),fun _=>rfl⟩,.inl ⟨(Prod.mk.inj hx).1,rfl⟩⟩
 · simp [Value.cells] at hcs
   obtain ⟨rfl,rfl,rfl⟩:=hcs
   have each:∀ i y,i<n→elems[i]?=some y→y=(.lit (.float .f64 (numF y)),[])∧(Lit.float .f64 (numF y)).wf=true∧W.cell? (x.add i)=some (.float .f64 (numF y)):=by
    intro i y hi hy;have hb':=hel i hi;rw [hy,Tryz.cellsF,Nat.mul_one,Option.bind_eq_some_iff] at hb';obtain ⟨cs',hcs,hy'⟩:=hb';obtain ⟨k,rfl,rfl,hw⟩:=trodF Tryz.underlying27 hy';exact ⟨rfl,hw,cell_of_cells?_one hcs⟩
   refine ⟨elems.map numF,⟨by simp [hlen],hl,?_,?_,fun e=>by cases e⟩,.inr ⟨_,_,(Prod.mk.inj hx).1,?_⟩⟩
   · intro y hy
     obtain ⟨z,hz,rfl⟩:=List.mem_map.1 hy;obtain ⟨i,hi⟩:=List.getElem?_of_mem hz;have hil:=(List.getElem?_eq_some_iff.1 hi).1;have:=(each i z (by omega) hi).2.1
     exact of_decide_eq_true this
   · intro hne
     obtain ⟨b,off,spot⟩:=x
     have hn0:0<n:=by
      rcases Nat.eq_zero_or_pos n with h0|h0
      · rw [h0] at hlen;have:=List.eq_nil_of_length_eq_zero hlen;subst this;simp at hne
      · exact h0
     have hc0:=(each 0 (elems[0]'(by omega)) hn0 (List.getElem?_eq_getElem _)).2.2
     have hspot:spot=none:=by simpa [Addr.add] using World.cell?_spot hc0
     subst hspot;refine ⟨b,off,World.block_lt_of_cell? W _ (by simpa [Addr.add] using hc0),rfl,fun i hi=>?_⟩
     rw [List.length_map] at hi;have hadd:=add_noneF b off i;have:=(each i (elems[i]'hi) (by omega) (List.getElem?_eq_getElem _)).2.2
     rw [hadd] at this;rw [this];simp [List.getD_eq_getElem?_getD,hi]
   · have hr:=(hsp rfl).1
     simp only [List.length_map];omega
theorem cameF_reach {H:Type}{ts:List TypeId}{ds:List (DataW H)}(h:(DataW.weightsEach Tryz.prog ts ds).all (·≤reachBytes)=true) {j:Nat}{d:DataW H}{c n:Nat}(ht:ts[j]?=some 22) (hd:ds[j]?=some d) (hn:n≤c)
 (hc:(d=.nil∧c=0)∨∃ elems spare:List (DataW H),d=.slice elems spare∧elems.length+spare.length=c):n≤17592186043904:=by
 rcases hc with ⟨_,rfl⟩|⟨elems,spare,rfl,hl⟩
 · omega
 · have:=sized_slice h ht hd Tryz.underlying22
   rw [Tryz.bytesF,hl] at this;simp only [reachBytes] at this;omega
end
section
open Go.RowKit J
theorem kd_cases {x:Nat}(hx:x<18446744073709551616):(9218868437227405312<magW x∧kd x=5)∨(magW x=9218868437227405312∧negW x=true∧kd x=4)∨(magW x=9218868437227405312∧negW x=false∧kd x=3)∨(magW x<9218868437227405312∧kd x≤2):=by
 have e:magW x=x%9223372036854775808:=rfl;have e2:negW x=decide (9223372036854775808≤x):=rfl;rw [e,e2];unfold kd
 by_cases h1:9218868437227405312<x%9223372036854775808
 · exact .inl ⟨h1,if_pos h1⟩
 · rw [if_neg h1]
   by_cases h2:x%9223372036854775808=9218868437227405312
   · rw [if_pos h2]
     by_cases h3:x/9223372036854775808=1
     · exact .inr (.inl ⟨h2,decide_eq_true (by omega),if_pos h3⟩)
     · exact .inr (.inr (.inl ⟨h2,decide_eq_false (by omega),if_neg h3⟩))
   · rw [if_neg h2]
     refine .inr (.inr (.inr ⟨by omega,?_⟩))
     repeat' split
     all_goals omega
end
section
open Go.RowKit
theorem rgreat7 (b:Bool) (X:Nat) (e:Int) (a:Option Addr) (c:Nat) (w:World) (hA:Arg w a (ws X).length c (ws X)) (hbl:bl X≤262144) (he0:-2000000≤e) (he1:e≤2000000) :
 Calls Tryz.prog 88 #[.agg #[.bool b,.slice a (ws X).length c,.int .i64 e]] w fun r w'=>r=.returned (.bool (decide ((2090:Int)<(bl X:Int)+e)))∧Below w.heap.size w w':=by
 have HL:Hid (∀ u:World,Below w.heap.size w u→Calls Tryz.prog 124 #[.slice a (ws X).length c] u fun r w'=>r=.returned (.int .i64 (bl X:Nat))∧w'=u):=fun u hb=>by
  have hA':=hA.below hb;have h8:=hA'.big;have:=rLen_any (ws X) a (ws X).length c u.heap.size u rfl (by omega) hA'.wf hA'.rd
  rw [val_ws] at this;exact this
 obtain ⟨W,hW⟩:∃ W,W=w.alloc (Obj.cells #[.bool b,.slice a (ws X).length c,.int .i64 e] 47):=⟨_,rfl⟩;have HD:Aside (Dk W w.heap.size b (.slice a (ws X).length c) e∧Below w.heap.size w W):=by rw [hW];exact ⟨Dk.new _ _ _ _,bel_alloc _ _⟩
 have HW:=qsd hW;obtain ⟨B,hB⟩:∃ B:Nat,B=bl X:=⟨_,rfl⟩;rw [←hB] at HL hbl ⊢;have hwr:IntKind.i64.wrap ((B:Int)+e)=(B:Int)+e:=by rw [IntKind.wrap_i64];omega
 clear hA hW hB;go_enter Tryz.func88,Tryz.ntmps88
 go_upto_region 1 with fail
 rw [←HW.out];have kS:Aside (W.drew.cell? ⟨w.heap.size,1,none⟩=some (.slice a (ws X).length c)∧W.drew.cell? ⟨w.heap.size,2,none⟩=some (.int .i64 e)):=⟨HD.out.1.facts.2.1,HD.out.1.facts.2.2.1⟩
 go_region_held3 (fun w'=>w'.cell? ⟨w.heap.size,1,none⟩=some (.slice a (ws X).length c)∧w'.cell? ⟨w.heap.size,2,none⟩=some (.int .i64 e)) (with_reducible exact kS.out) (first
  | (go_at_call 124
     with_reducible refine (HL.out _ HD.out.2.drew).mono ?_
     rintro r u ⟨rfl,rfl⟩))
 all_goals (
  clear kS;go_wp2;refine bodyPost_ret (v:=.bool (decide ((2090:Int)<(B:Int)+e))) (by simp [results,Tryz.results88,go_sem]) rfl ⟨rfl,HD.out.2.drew⟩)
theorem Nt.stay {lo lo':Nat}{w w':World}{v:Value}{X:Nat}(h:Nt lo w v X) (hb:∀ g,lo≤g→w'.heap[g]?=w.heap[g]?) (hl:lo'≤lo):Nt lo' w' v X:=by
 refine ⟨h.1,?_⟩
 rcases h.2 with hn|⟨g,cap,cur,rfl,hlo,hgc,rest⟩
 · exact .inl hn
 · exact .inr ⟨g,cap,cur,rfl,by omega,(hb g hlo).trans hgc,rest⟩
theorem st_bel7 {B:Nat}{a w:World}{g i:Nat}{v:Value}(hg:B≤g) (h:Below B a w):Below B a (w.setCell ⟨g,i,none⟩ v):=h.trans ⟨rfl,rfl,rfl,by simp [World.setCell],fun k hk=>Below.heap_setCell _ _ _ _ (by simp;omega)⟩
theorem rOf7_no (x k:Nat) (w:World) (HK:Hid (∀ u:World,Calls Tryz.prog 54 #[.float .f64 x] u fun r w'=>r=.returned (.int .i64 (k:Nat))∧w'=u)) (hk:((k:Int)==0)=false) :
 Calls Tryz.prog 90 #[.float .f64 x] w fun r w'=>r=.returned (.agg #[.int .i64 (k:Nat),.bool false,.slice none 0 0,.int .i64 0])∧Below w.heap.size w w':=by
 have hne:w.heap.size≠w.heap.size+1:=by omega
 go_enter Tryz.func90,Tryz.ntmps90
 go_wp2_with fail
 refine (HK.out _).mono ?_;rintro r w1 ⟨rfl,rfl⟩;clear HK;go_wp2;exact bodyPost_ret (v:=.agg #[.int .i64 (k:Nat),.bool false,.slice none 0 0,.int .i64 0]) (by simp [results,Tryz.results90,go_sem]) rfl ⟨rfl,by first | exact (bel_alloc _ _).trans ((bel_alloc _ _).mono (by simp)) | exact st_bel7 (by simp) ((bel_alloc _ _).trans ((bel_alloc _ _).mono (by simp)))⟩
end
section
open Go.RowKit J
attribute [local go_sem] st_float
theorem cls_kd {x:Nat}(hx:x<18446744073709551616):(kd x=5∧clW x=4)∨((kd x=3∨kd x=4)∧clW x=3∧ngW x=negW x)∨((kd x=1∨kd x=2)∧clW x=0∧ngW x=negW x∧finW x∧fvW x=0)∨(kd x=0∧(clW x=1∨clW x=2)∧ngW x=negW x∧finW x):=by
 rcases kd_cases hx with ⟨a1,a2⟩|⟨a1,a2,a3⟩|⟨a1,a2,a3⟩|⟨a1,a2⟩
 · exact .inl ⟨a2,cl_nan a1⟩
 · exact .inr (.inl ⟨.inr a3,(cl_inf a1).1,(cl_inf a1).2⟩)
 · exact .inr (.inl ⟨.inl a3,(cl_inf a1).1,(cl_inf a1).2⟩)
 · have fx:finW x:=a1
   obtain ⟨p1,p2,p3,p4⟩:=fin_parts hx fx
   by_cases h0:magW x=0
   · have hk:kd x=1∨kd x=2:=by
      have e:x%9223372036854775808=0:=h0;unfold kd;rw [if_neg (by omega),if_neg (by omega),if_pos e]
      split
      · exact .inl rfl
      · exact .inr rfl
     rw [h0,vK_zero] at p2
     have hfr:frW x=0:=by
      rcases Nat.mul_eq_zero.1 p2.symm with q|q
      · exact q
      · have:=Nat.two_pow_pos (xpW x+1074).toNat;omega
     refine .inr (.inr (.inl ⟨hk,?_,p1,fx,?_⟩))
     · rcases p4 with q | q
       · exact q.1
       · exact absurd hfr q.2
     · unfold fvW
       rw [h0,vK_zero]
       cases negW x <;> rfl
   · have hk:kd x=0:=by
      have e:¬ x%9223372036854775808=0:=h0;have e2:x%9223372036854775808<9218868437227405312:=a1;unfold kd;rw [if_neg (by omega),if_neg (by omega),if_neg e]
     refine .inr (.inr (.inr ⟨hk,?_,p1,fx⟩))
     rcases p4 with q|q
     · exfalso
       rw [q.2,Nat.zero_mul] at p2;have:=(vK_lt (K:=0) (L:=magW x)).2 (by omega)
       omega
     · exact q.1
theorem oZ_zero {x:Nat}(h:finW x) (h0:fvW x=0):oZ x=o00:=by
 rw [oZ_fin h];unfold oW;rw [h0];exact mkS_zero _ _
theorem rN7 (j:Nat) (w:World):Calls Tryz.prog 92 #[.int .i64 (j:Nat)] w fun r w'=>r=.returned (.bool (((j:Int)==1) || ((j:Int)==2)))∧w'=w:=by
 cases h:((j:Int)==1)
 · go_enter Tryz.func92,Tryz.ntmps92
   go_wp2;go_ret;exact ⟨by simp,rfl⟩
 · go_enter Tryz.func92,Tryz.ntmps92
   go_wp2;go_ret;exact ⟨by simp,rfl⟩
theorem rE7 (j:Nat) (w:World):Calls Tryz.prog 93 #[.int .i64 (j:Nat)] w fun r w'=>r=.returned (.bool (((j:Int)==3) || ((j:Int)==4)))∧w'=w:=by
 cases h:((j:Int)==3)
 · go_enter Tryz.func93,Tryz.ntmps93
   go_wp2;go_ret;exact ⟨by simp,rfl⟩
 · go_enter Tryz.func93,Tryz.ntmps93
   go_wp2;go_ret;exact ⟨by simp,rfl⟩
theorem rBits12 (x:Nat) (hx:x<18446744073709551616) (w:World):Calls Tryz.prog 91 #[.float .f64 x] w fun r w'=>(∃ b:Nat,r=.returned (.int .u64 (b:Nat))∧b<18446744073709551616∧(magW x≤9218868437227405312→b=x))∧w'=w:=by
 obtain ⟨s,e,f,he,hf,rfl⟩:=B.bw_of x hx;have:=B.rBits_any s e f he hf w;have hm:=B.bw_mod s e f he hf;refine this.mono ?_;rintro r w' ⟨rfl,rfl⟩;refine ⟨?_,rfl⟩
 by_cases h:e=2047∧f≠0
 · refine ⟨9221120237041090560,?_,by decide,fun q=>?_⟩
   · rw [B.cb_odd s e f h]
   · exfalso
     have q:B.bw s e f%9223372036854775808≤9218868437227405312:=q;omega
 · refine ⟨B.bw s e f,?_,hx,fun _=>rfl⟩
   rw [B.cb_else s e f h]
theorem rOf7y (x:Nat) (w:World) (hx:x<18446744073709551616) (fx:finW x) (hk:kd x=0) :
 Calls Tryz.prog 90 #[.float .f64 x] w fun r w'=>(∃ v,r=.returned (.agg #[.int .i64 0,.bool (dN (oZ x)),v,.int .i64 (dE (oZ x))])∧Nt w.heap.size w' v (dX (oZ x)))∧Below w.heap.size w w':=by
 have HK:=hid (fun u:World=>Kind_any x hx u)
 rw [hk] at HK;have HO:=hid (fun u:World=>rof12 x hx fx u)
 have FX:=qsd (oW_fm x hx fx);rw [oZ_fin fx];obtain ⟨ox,hox⟩:∃ o,o=oW x:=⟨_,rfl⟩;rw [←hox] at HO FX ⊢;have hne:w.heap.size≠w.heap.size+1:=by omega
 obtain ⟨W,hW⟩:∃ W,W=(w.alloc (Obj.cells #[.int .i64 0,.bool false,.slice none 0 0,.int .i64 0] 68)).alloc (Obj.cells #[.int .i64 0,.bool false,.slice none 0 0,.int .i64 0] 68):=⟨_,rfl⟩
 have HD:Aside (Bl W w.heap.size 68 [.int .i64 0,.bool false,.slice none 0 0,.int .i64 0]∧Bl W (w.heap.size+1) 68 [.int .i64 0,.bool false,.slice none 0 0,.int .i64 0]∧Below w.heap.size w W∧W.heap.size=w.heap.size+2):=by
  rw [hW];exact ⟨(Bl.new w 68 [_,_,_,_]).alloc _,Bl.new' (w.alloc _) 68 _ [_,_,_,_] (by simp),(bel_alloc _ _).trans ((bel_alloc _ _).mono (by simp)),by simp⟩
 have HWW:=qsd hW;clear hW hx fx hk hox;go_enter Tryz.func90,Tryz.ntmps90
 go_wp2_with fail
 refine (HK.out _).mono ?_;rintro r w1 ⟨rfl,rfl⟩;clear HK
 go_upto_region 2 with fail
 first | rw [←HWW.out] | skip
 have z0:=HD.out.2.1.cell 0 _ rfl
 go_wp2_with fail
 refine (HO.out W).mono ?_;rintro r u ⟨⟨v1,rfl,hN1⟩,hb1⟩;obtain ⟨a1,c1,rfl,hN0⟩:=Lo.shape FX.out hN1;have D1:=HD.out.1.below hb1 HD.out.1.lt;have D2:=HD.out.2.1.below hb1 HD.out.2.1.lt;obtain ⟨U,hU⟩:∃ U,U=((u.setCell ⟨w.heap.size+1,1,none⟩ (.bool (dN ox))).setCell ⟨w.heap.size+1,2,none⟩ (.slice a1 (ws (dX ox)).length c1)).setCell ⟨w.heap.size+1,3,none⟩ (.int .i64 (dE ox)):=⟨_,rfl⟩;have s0:=D2.cell 0 _ rfl;have s1:=D2.cell 1 _ rfl;have s2:=D2.cell 2 _ rfl;have s3:=D2.cell 3 _ rfl;have g1:=D2.frozen 1;have g2:=D2.frozen 2;have g3:=D2.frozen 3
 have HN:Aside (Bl U w.heap.size 68 [.int .i64 0,.bool false,.slice none 0 0,.int .i64 0]∧Bl U (w.heap.size+1) 68 [.int .i64 0,.bool (dN ox),.slice a1 (ws (dX ox)).length c1,.int .i64 (dE ox)]∧Nt (w.heap.size+2) U (.slice a1 (ws (dX ox)).length c1) (dX ox)∧Below w.heap.size w U):=by
  have hz:=HD.out.2.2.2;rw [hU];refine ⟨Bl.but D1 ((((But.refl _ _).set 1 _).set 2 _).set 3 _) hne,((D2.set 1 _).set 2 _).set 3 _,?_,?_⟩
  · refine (hN1.mono (show w.heap.size+2≤W.heap.size by omega)).stay (fun g hg=>?_) (Nat.le_refl _)
    rw [Below.heap_setCell _ _ _ _ (by simp;omega),Below.heap_setCell _ _ _ _ (by simp;omega),Below.heap_setCell _ _ _ _ (by simp;omega)]
  · have:=HD.out.2.2.1.trans (hb1.mono HD.out.2.2.1.size)
    exact st_bel7 (by omega) (st_bel7 (by omega) (st_bel7 (by omega) this))
 have HU:=qsd hU;clear hU hN1 hN0 hb1 HO D1 D2 HD HWW z0
 go_upto_region 4 with fail
 rw [←HU.out];clear HU s0 s1 s2 s3 g1 g2 g3;have q0:=HN.out.1.cell 0 _ rfl;have q1:=HN.out.1.cell 1 _ rfl;have q2:=HN.out.1.cell 2 _ rfl;have q3:=HN.out.1.cell 3 _ rfl;have f0:=HN.out.1.frozen 0;have f1:=HN.out.1.frozen 1;have f2:=HN.out.1.frozen 2;have f3:=HN.out.1.frozen 3;have s0:=HN.out.2.1.cell 0 _ rfl;have s1:=HN.out.2.1.cell 1 _ rfl;have s2:=HN.out.2.1.cell 2 _ rfl;have s3:=HN.out.2.1.cell 3 _ rfl
 have HF:Aside (Bl ((((U.setCell ⟨w.heap.size,0,none⟩ (.int .i64 0)).setCell ⟨w.heap.size,1,none⟩ (.bool (dN ox))).setCell ⟨w.heap.size,2,none⟩ (.slice a1 (ws (dX ox)).length c1)).setCell ⟨w.heap.size,3,none⟩ (.int .i64 (dE ox))) w.heap.size 68 [.int .i64 0,.bool (dN ox),.slice a1 (ws (dX ox)).length c1,.int .i64 (dE ox)]∧Nt w.heap.size ((((U.setCell ⟨w.heap.size,0,none⟩ (.int .i64 0)).setCell ⟨w.heap.size,1,none⟩ (.bool (dN ox))).setCell ⟨w.heap.size,2,none⟩ (.slice a1 (ws (dX ox)).length c1)).setCell ⟨w.heap.size,3,none⟩ (.int .i64 (dE ox))) (.slice a1 (ws (dX ox)).length c1) (dX ox)∧Below w.heap.size w ((((U.setCell ⟨w.heap.size,0,none⟩ (.int .i64 0)).setCell ⟨w.heap.size,1,none⟩ (.bool (dN ox))).setCell ⟨w.heap.size,2,none⟩ (.slice a1 (ws (dX ox)).length c1)).setCell ⟨w.heap.size,3,none⟩ (.int .i64 (dE ox)))):=by
  refine ⟨(((HN.out.1.set 0 _).set 1 _).set 2 _).set 3 _,?_,?_⟩
  · refine HN.out.2.2.1.stay (fun g hg=>?_) (by omega)
    rw [Below.heap_setCell _ _ _ _ (by simp;omega),Below.heap_setCell _ _ _ _ (by simp;omega),Below.heap_setCell _ _ _ _ (by simp;omega),Below.heap_setCell _ _ _ _ (by simp;omega)]
  · exact st_bel7 (Nat.le_refl _) (st_bel7 (Nat.le_refl _) (st_bel7 (Nat.le_refl _) (st_bel7 (Nat.le_refl _) HN.out.2.2.2)))
 clear HN;go_wp2;have t0:=HF.out.1.cell 0 _ rfl;have t1:=HF.out.1.cell 1 _ rfl;have t2:=HF.out.1.cell 2 _ rfl;have t3:=HF.out.1.cell 3 _ rfl;refine bodyPost_ret (v:=.agg #[.int .i64 0,.bool (dN ox),.slice a1 (ws (dX ox)).length c1,.int .i64 (dE ox)]) (by simp [results,Tryz.results90,go_sem,t0,t1,t2,t3]) rfl ⟨⟨_,rfl,HF.out.2.1⟩,HF.out.2.2⟩
theorem rOf7x (x:Nat) (w:World) (hx:x<18446744073709551616) :
 Calls Tryz.prog 90 #[.float .f64 x] w fun r w'=>(∃ v,r=.returned (.agg #[.int .i64 (kd x:Nat),.bool (dN (oZ x)),v,.int .i64 (dE (oZ x))])∧Nt w.heap.size w' v (dX (oZ x)))∧Below w.heap.size w w':=by
 have no:∀ k:Nat,kd x=k→((k:Int)==0)=false→oZ x=o00→Calls Tryz.prog 90 #[.float .f64 x] w fun r w'=>(∃ v,r=.returned (.agg #[.int .i64 (kd x:Nat),.bool (dN (oZ x)),v,.int .i64 (dE (oZ x))])∧Nt w.heap.size w' v (dX (oZ x)))∧Below w.heap.size w w':=fun k hk h0 ho=>by
  refine (rOf7_no x k w (hid (fun u=>by have:=Kind_any x hx u;rw [hk] at this;exact this)) h0).mono ?_
  rintro r w' ⟨rfl,hb⟩;rw [ho,hk];exact ⟨⟨_,rfl,Nt.nil _ _⟩,hb⟩
 rcases cls_kd hx with ⟨k,c⟩|⟨k,c,_⟩|⟨k,c,n,f,v⟩|⟨k,c,n,f⟩
 · refine no 5 k rfl (oZ_odd ?_)
   intro f
   rcases (fin_parts hx f).2.2.2 with q|q <;> omega
 · have nf:¬ finW x:=by intro f;rcases (fin_parts hx f).2.2.2 with q | q <;> omega
   rcases k with k|k
   · exact no 3 k rfl (oZ_odd nf)
   · exact no 4 k rfl (oZ_odd nf)
 · rcases k with k | k
   · exact no 1 k rfl (oZ_zero f v)
   · exact no 2 k rfl (oZ_zero f v)
 · rw [k]
   exact rOf7y x w hx f k
end
section
open Go.RowKit J
attribute [local go_sem] st_float
def nz7 (j:Nat):Bool:=((j:Int)==1) || ((j:Int)==2)
def en7 (j:Nat):Bool:=((j:Int)==3) || ((j:Int)==4)
def na7 (x y:Nat):Bool:=((kd x:Int)==5) || ((kd y:Int)==5) || ((nz7 (kd x) || nz7 (kd y))&&(en7 (kd x) || en7 (kd y)))
theorem prod7 {x y:Nat}(hx:x<18446744073709551616) (hy:y<18446744073709551616) :
 (na7 x y=true→pK x y=1∧pT x y=0)∧(na7 x y=false→(en7 (kd x) || en7 (kd y))=true→(magW x≤9218868437227405312∧magW y≤9218868437227405312)∧pK x y=(if (negW x != negW y) then 3 else 2)∧pT x y=0) ∧
 (na7 x y=false→(en7 (kd x) || en7 (kd y))=false→(nz7 (kd x) || nz7 (kd y))=true→(magW x≤9218868437227405312∧magW y≤9218868437227405312)∧pK x y=(if (negW x != negW y) then 4 else 5)∧pT x y=0) ∧
 (na7 x y=false→(en7 (kd x) || en7 (kd y))=false→(nz7 (kd x) || nz7 (kd y))=false→finW x∧finW y∧pK x y=0):=by
 have hng:∀ a b:Bool,(!a==b)=(a != b):=by decide
 have inf:∀ z:Nat,clW z=3→magW z≤9218868437227405312:=fun z h=>by
  rcases Nat.lt_or_ge 9218868437227405312 (magW z) with q|q
  · rw [cl_nan q] at h;omega
  · exact q
 have tz:pK x y≠0→pT x y=0:=fun h=>by unfold pT;unfold pK at h;exact pv7_no h
 unfold na7
 rcases cls_kd hx with ⟨k,c⟩|⟨k,c,n⟩|⟨k,c,n,f,v⟩|⟨k,c,n,f⟩
 · have e:pK x y=1:=by
    unfold pK pk;rw [c,if_pos (.inl (by have:=cl_range y;omega))]
   rw [k];refine ⟨fun _=>⟨e,tz (by omega)⟩,(fun h=>by simp at h),(fun h=>by simp at h),(fun h=>by simp at h)⟩
 · rcases cls_kd hy with ⟨k',c'⟩ | ⟨k',c',n'⟩ | ⟨k',c',n',f',v'⟩ | ⟨k',c',n',f'⟩
   · have e:pK x y=1:=by unfold pK pk;rw [c,c',if_pos (.inl (by omega))]
     rw [k'];refine ⟨fun _=>⟨e,tz (by omega)⟩,(fun h=>by simp at h),(fun h=>by simp at h),(fun h=>by simp at h)⟩
   · have e:pK x y=(if (negW x != negW y) then 3 else 2):=by unfold pK pk;rw [c,c',n,n',hng,if_neg (by omega),if_pos (by omega)]
     have e0:pK x y≠0:=by rw [e];split <;> omega
     refine ⟨fun h=>?_,fun _ _=>⟨⟨inf x c,inf y c'⟩,e,tz e0⟩,fun _ h=>?_,fun _ h=>?_⟩
     · exfalso;rcases k with k | k <;> rcases k' with k' | k' <;> rw [k,k'] at h <;> simp [nz7,en7] at h
     · exfalso;rcases k with k | k <;> rw [k] at h <;> simp [en7] at h
     · exfalso;rcases k with k | k <;> rw [k] at h <;> simp [en7] at h
   · have e:pK x y=1:=by unfold pK pk;rw [c,c',if_pos (.inr (by omega))]
     refine ⟨fun _=>⟨e,tz (by omega)⟩,fun h=>?_,fun h=>?_,fun h=>?_⟩
     all_goals exfalso;rcases k with k | k <;> rcases k' with k' | k' <;> rw [k,k'] at h <;> simp [nz7,en7] at h
   · have e:pK x y=(if (negW x != negW y) then 3 else 2):=by unfold pK pk;rw [c,n,n',hng,if_neg (by omega),if_pos (by omega)]
     have e0:pK x y≠0:=by rw [e];split <;> omega
     have hyf:magW y≤9218868437227405312:=Nat.le_of_lt f';refine ⟨fun h=>?_,fun _ _=>⟨⟨inf x c,hyf⟩,e,tz e0⟩,fun _ h=>?_,fun _ h=>?_⟩
     · exfalso;rcases k with k | k <;> rw [k,k'] at h <;> simp [nz7,en7] at h
     · exfalso;rcases k with k | k <;> rw [k] at h <;> simp [en7] at h
     · exfalso;rcases k with k | k <;> rw [k] at h <;> simp [en7] at h
 · have hxf:magW x≤9218868437227405312:=Nat.le_of_lt f
   rcases cls_kd hy with ⟨k',c'⟩|⟨k',c',n'⟩|⟨k',c',n',f',v'⟩|⟨k',c',n',f'⟩
   · have e:pK x y=1:=by unfold pK pk;rw [c,c',if_pos (.inl (by omega))]
     rw [k'];refine ⟨fun _=>⟨e,tz (by omega)⟩,(fun h=>by simp at h),(fun h=>by simp at h),(fun h=>by simp at h)⟩
   · have e:pK x y=1:=by unfold pK pk;rw [c,c',if_pos (.inr (by omega))]
     refine ⟨fun _=>⟨e,tz (by omega)⟩,fun h=>?_,fun h=>?_,fun h=>?_⟩
     all_goals exfalso;rcases k with k | k <;> rcases k' with k' | k' <;> rw [k,k'] at h <;> simp [nz7,en7] at h
   · have e:pK x y=(if (negW x != negW y) then 4 else 5):=by unfold pK pk;rw [c,c',n,n',hng,if_neg (by omega),if_neg (by omega),if_pos (by omega)]
     have e0:pK x y≠0:=by rw [e];split <;> omega
     have hyf:magW y≤9218868437227405312:=Nat.le_of_lt f';refine ⟨fun h=>?_,fun _ h=>?_,fun _ _ _=>⟨⟨hxf,hyf⟩,e,tz e0⟩,fun _ _ h=>?_⟩
     · exfalso;rcases k with k | k <;> rcases k' with k' | k' <;> rw [k,k'] at h <;> simp [nz7,en7] at h
     · exfalso;rcases k with k | k <;> rcases k' with k' | k' <;> rw [k,k'] at h <;> simp [en7] at h
     · exfalso;rcases k with k | k <;> rw [k] at h <;> simp [nz7] at h
   · have e:pK x y=(if (negW x != negW y) then 4 else 5):=by unfold pK pk;rw [c,n,n',hng,if_neg (by omega),if_neg (by omega),if_pos (by omega)]
     have e0:pK x y≠0:=by rw [e];split <;> omega
     have hyf:magW y≤9218868437227405312:=Nat.le_of_lt f';refine ⟨fun h=>?_,fun _ h=>?_,fun _ _ _=>⟨⟨hxf,hyf⟩,e,tz e0⟩,fun _ _ h=>?_⟩
     · exfalso;rcases k with k | k <;> rw [k,k'] at h <;> simp [nz7,en7] at h
     · exfalso;rcases k with k | k <;> rw [k,k'] at h <;> simp [en7] at h
     · exfalso;rcases k with k | k <;> rw [k] at h <;> simp [nz7] at h
 · have hxf:magW x≤9218868437227405312:=Nat.le_of_lt f
   rcases cls_kd hy with ⟨k',c'⟩|⟨k',c',n'⟩|⟨k',c',n',f',v'⟩|⟨k',c',n',f'⟩
   · have e:pK x y=1:=by unfold pK pk;rw [c',if_pos (.inl (by omega))]
     rw [k'];refine ⟨fun _=>⟨e,tz (by omega)⟩,(fun h=>by simp at h),(fun h=>by simp at h),(fun h=>by simp at h)⟩
   · have e:pK x y=(if (negW x != negW y) then 3 else 2):=by unfold pK pk;rw [c',n,n',hng,if_neg (by omega),if_pos (by omega)]
     have e0:pK x y≠0:=by rw [e];split <;> omega
     refine ⟨fun h=>?_,fun _ _=>⟨⟨hxf,inf y c'⟩,e,tz e0⟩,fun _ h=>?_,fun _ h=>?_⟩
     · exfalso;rcases k' with k' | k' <;> rw [k,k'] at h <;> simp [nz7,en7] at h
     · exfalso;rcases k' with k' | k' <;> rw [k'] at h <;> simp [en7] at h
     · exfalso;rcases k' with k' | k' <;> rw [k'] at h <;> simp [en7] at h
   · have e:pK x y=(if (negW x != negW y) then 4 else 5):=by unfold pK pk;rw [c',n,n',hng,if_neg (by omega),if_neg (by omega),if_pos (by omega)]
     have e0:pK x y≠0:=by rw [e];split <;> omega
     have hyf:magW y≤9218868437227405312:=Nat.le_of_lt f';refine ⟨fun h=>?_,fun _ h=>?_,fun _ _ _=>⟨⟨hxf,hyf⟩,e,tz e0⟩,fun _ _ h=>?_⟩
     · exfalso;rcases k' with k' | k' <;> rw [k,k'] at h <;> simp [nz7,en7] at h
     · exfalso;rcases k' with k' | k' <;> rw [k,k'] at h <;> simp [en7] at h
     · exfalso;rcases k' with k' | k' <;> rw [k'] at h <;> simp [nz7] at h
   · have e:pK x y=0:=by unfold pK pk;rw [if_neg (by omega),if_neg (by omega),if_neg (by omega)]
     refine ⟨fun h=>?_,fun _ h=>?_,fun _ _ h=>?_,fun _ _ _=>⟨f,f',e⟩⟩
     all_goals exfalso;rw [k,k'] at h;simp [nz7,en7] at h
end
section
open Go.RowKit J
attribute [local go_sem] st_float
def Lt (w:World) (g:Nat) (k:Nat) (o:Option (Bool×Nat×Int)):Prop:=∃ a c,Bl w g 68 [.int .i64 (k:Nat),.bool (dN o),.slice a (ws (dX o)).length c,.int .i64 (dE o)]∧Nt 0 w (.slice a (ws (dX o)).length c) (dX o)
theorem Lt.below {w w':World}{g k:Nat}{o:Option (Bool×Nat×Int)}(h:Lt w g k o) (hb:Below w.heap.size w w'):Lt w' g k o:=by
 obtain ⟨a,c,h1,h2⟩:=h;exact ⟨a,c,h1.below hb h1.lt,h2.below hb⟩
theorem Lt.new {w:World}{k:Nat}{o:Option (Bool×Nat×Int)}{a:Option Addr}{c:Nat}(hN:Nt 0 w (.slice a (ws (dX o)).length c) (dX o)):Lt (w.alloc (Obj.cells #[.int .i64 (k:Nat),.bool (dN o),.slice a (ws (dX o)).length c,.int .i64 (dE o)] 68)) w.heap.size k o :=
 ⟨a,c,Bl.new w 68 [_,_,_,_],hN.below (below_alloc _ _)⟩
def st4T (w:World) (g:Nat) (a b c d:Value):World:=(((w.setCell ⟨g,0,none⟩ a).setCell ⟨g,1,none⟩ b).setCell ⟨g,2,none⟩ c).setCell ⟨g,3,none⟩ d
theorem Bl.st4T {w:World}{g T:Nat}{x y z u:Value}(h:Bl w g T [x,y,z,u]) (a b c d:Value):Bl (st4T w g a b c d) g T [a,b,c,d]:=(((h.set 0 a).set 1 b).set 2 c).set 3 d
theorem st4T_below {B g:Nat}{a w:World}(h:Below B a w) (hg:B≤g) (x y z u:Value):Below B a (st4T w g x y z u):=st_bel7 hg (st_bel7 hg (st_bel7 hg (st_bel7 hg h)))
theorem prodEnd {w W:World}{g k:Nat}{x y z u:Value}(hB:Bl W g 68 [x,y,z,u]) (hb:Below w.heap.size w W) (hg:w.heap.size≤g) :
 (st4T W g (.int .i64 (k:Nat)) (.bool false) (.slice none 0 0) (.int .i64 0)).cell? ⟨g,0,none⟩=some (.int .i64 (k:Nat))∧(st4T W g (.int .i64 (k:Nat)) (.bool false) (.slice none 0 0) (.int .i64 0)).cell? ⟨g,1,none⟩=some (.bool false)∧(st4T W g (.int .i64 (k:Nat)) (.bool false) (.slice none 0 0) (.int .i64 0)).cell? ⟨g,2,none⟩=some (.slice none 0 0)∧(st4T W g (.int .i64 (k:Nat)) (.bool false) (.slice none 0 0) (.int .i64 0)).cell? ⟨g,3,none⟩=some (.int .i64 0)∧Below w.heap.size w (st4T W g (.int .i64 (k:Nat)) (.bool false) (.slice none 0 0) (.int .i64 0)):=by
 have:=hB.st4T (.int .i64 (k:Nat)) (.bool false) (.slice none 0 0) (.int .i64 0);exact ⟨this.cell 0 _ rfl,this.cell 1 _ rfl,this.cell 2 _ rfl,this.cell 3 _ rfl,st4T_below hb hg _ _ _ _⟩
theorem top_ne {x y:Nat}(hx:x<18446744073709551616) (hy:y<18446744073709551616):(((x:Nat):Int)/9223372036854775808 != ((y:Nat):Int)/9223372036854775808)=(negW x != negW y):=by
 have e1:negW x=decide (9223372036854775808≤x):=rfl;have e2:negW y=decide (9223372036854775808≤y):=rfl;rw [e1,e2]
 by_cases p:9223372036854775808≤x <;> by_cases q:9223372036854775808≤y
 · rw [decide_eq_true p,decide_eq_true q,show ((x:Nat):Int)/9223372036854775808=1 by omega,show ((y:Nat):Int)/9223372036854775808=1 by omega];rfl
 · rw [decide_eq_true p,decide_eq_false q,show ((x:Nat):Int)/9223372036854775808=1 by omega,show ((y:Nat):Int)/9223372036854775808=0 by omega];rfl
 · rw [decide_eq_false p,decide_eq_true q,show ((x:Nat):Int)/9223372036854775808=0 by omega,show ((y:Nat):Int)/9223372036854775808=1 by omega];rfl
 · rw [decide_eq_false p,decide_eq_false q,show ((x:Nat):Int)/9223372036854775808=0 by omega,show ((y:Nat):Int)/9223372036854775808=0 by omega];rfl
set_option maxRecDepth 100000 in
theorem rProd12 (x y:Nat) (w:World) (hx:x<18446744073709551616) (hy:y<18446744073709551616) :
 Calls Tryz.prog 43 #[.float .f64 x,.float .f64 y] w fun r w'=>(∃ (v:Value) (k:Nat),r=.returned (.agg #[.int .i64 (k:Nat),.bool (dN (exV (pT x y))),v,.int .i64 (dE (exV (pT x y)))])∧k≤5∧kOf k=pK x y∧Nt w.heap.size w' v (dX (exV (pT x y))))∧Below w.heap.size w w':=by
 have OX:=hid (fun u:World=>rOf7x x u hx)
 have OY:=hid (fun u:World=>rOf7x y u hy)
 have BX:=hid (fun u:World=>rBits12 x hx u)
 have BY:=hid (fun u:World=>rBits12 y hy u)
 have FX:=qsd (ai (oZ_iv x hx).fm (oZ_iv y hy).fm);have PR:=qsd (prod7 hx hy);have NX:=hid (fun u:World=>rN7 (kd x) u)
 have NY:=hid (fun u:World=>rN7 (kd y) u)
 have EX:=hid (fun u:World=>rE7 (kd x) u)
 have EY:=hid (fun u:World=>rE7 (kd y) u)
 rw [show (((kd x:Nat):Int)==1 || ((kd x:Nat):Int)==2)=nz7 (kd x) from rfl] at NX
 rw [show (((kd y:Nat):Int)==1 || ((kd y:Nat):Int)==2)=nz7 (kd y) from rfl] at NY
 rw [show (((kd x:Nat):Int)==3 || ((kd x:Nat):Int)==4)=en7 (kd x) from rfl] at EX
 rw [show (((kd y:Nat):Int)==3 || ((kd y:Nat):Int)==4)=en7 (kd y) from rfl] at EY
 have XY:=qsd (ai hx hy);unfold na7 at PR;obtain ⟨jx,hjx⟩:∃ j:Nat,j=kd x:=⟨_,rfl⟩;obtain ⟨jy,hjy⟩:∃ j:Nat,j=kd y:=⟨_,rfl⟩;rw [←hjx] at OX NX EX PR;rw [←hjy] at OY NY EY PR;obtain ⟨zx,hzx⟩:∃ b,b=nz7 jx:=⟨_,rfl⟩;obtain ⟨zy,hzy⟩:∃ b,b=nz7 jy:=⟨_,rfl⟩;obtain ⟨ix,hix⟩:∃ b,b=en7 jx:=⟨_,rfl⟩;obtain ⟨iy,hiy⟩:∃ b,b=en7 jy:=⟨_,rfl⟩;obtain ⟨x5,hx5⟩:∃ b,((jx:Int)==5)=b:=⟨_,rfl⟩;obtain ⟨y5,hy5⟩:∃ b,((jy:Int)==5)=b:=⟨_,rfl⟩;rw [←hzx] at NX PR;rw [←hzy] at NY PR;rw [←hix] at EX PR;rw [←hiy] at EY PR;rw [hx5,hy5] at PR;obtain ⟨ox,hox⟩:∃ o,o=oZ x:=⟨_,rfl⟩;obtain ⟨oy,hoy⟩:∃ o,o=oZ y:=⟨_,rfl⟩;rw [←hox] at OX FX;rw [←hoy] at OY FX;have HO:=qsd (ai hox hoy);clear hjx hjy hzx hzy hix hiy hox hoy hx hy;obtain ⟨g4,hg4⟩:∃ g,g=w.heap.size:=⟨_,rfl⟩;obtain ⟨W,hW⟩:∃ W,W=w.alloc (Obj.cells #[.int .i64 0,.bool false,.slice none 0 0,.int .i64 0] 68):=⟨_,rfl⟩
 have K0:Aside (Bl W g4 68 [.int .i64 0,.bool false,.slice none 0 0,.int .i64 0]∧Below w.heap.size w W∧w.heap.size≤g4):=by
  rw [hW,hg4];exact ⟨Bl.new w 68 [_,_,_,_],bel_alloc _ _,Nat.le_refl _⟩
 have HW:=qsd hW;have HG:=qsd hg4;clear hW hg4;go_enter Tryz.func43,Tryz.ntmps43
 go_upto_region 1 with fail
 rw [←HW.out,←HG.out];clear HW HG
 go_wp2_with fail
 refine (OX.out W).mono ?_;rintro r u ⟨⟨v,rfl,hN⟩,hb⟩;obtain ⟨a1,c1,rfl,hN0⟩:=Lo.shape FX.out.1 hN;obtain ⟨U,hU⟩:∃ U,U=u.alloc (Obj.cells #[.int .i64 (jx:Nat),.bool (dN ox),.slice a1 (ws (dX ox)).length c1,.int .i64 (dE ox)] 68):=⟨_,rfl⟩;have bU:Below W.heap.size W U:=by rw [hU];exact hb.trans ((below_alloc _ _).mono hb.size)
 have K1:Aside (Bl U g4 68 [.int .i64 0,.bool false,.slice none 0 0,.int .i64 0]∧Below w.heap.size w U∧w.heap.size≤g4∧Lt U u.heap.size jx ox) :=
  ⟨K0.out.1.below bU K0.out.1.lt,K0.out.2.1.trans (bU.mono K0.out.2.1.size),K0.out.2.2,by rw [hU];exact Lt.new hN0⟩
 have HU:=qsd hU;clear hU hN hN0 hb bU K0 OX
 go_upto_region 2 with fail
 rw [←HU.out];clear HU
 go_wp2_with fail
 refine (OY.out U).mono ?_;rintro r u2 ⟨⟨v,rfl,hN⟩,hb⟩;obtain ⟨a2,c2,rfl,hN0⟩:=Lo.shape FX.out.2 hN;obtain ⟨V,hV⟩:∃ U,U=u2.alloc (Obj.cells #[.int .i64 (jy:Nat),.bool (dN oy),.slice a2 (ws (dX oy)).length c2,.int .i64 (dE oy)] 68):=⟨_,rfl⟩;have bU:Below U.heap.size U V:=by rw [hV];exact hb.trans ((below_alloc _ _).mono hb.size)
 have K2:Aside (Bl V g4 68 [.int .i64 0,.bool false,.slice none 0 0,.int .i64 0]∧Below w.heap.size w V∧w.heap.size≤g4∧Lt V u.heap.size jx ox∧Lt V u2.heap.size jy oy) :=
  ⟨K1.out.1.below bU K1.out.1.lt,K1.out.2.1.trans (bU.mono K1.out.2.1.size),K1.out.2.2.1,K1.out.2.2.2.below bU,by rw [hV];exact Lt.new hN0⟩
 have HU:=qsd hV;clear hV hN hN0 hb bU K1 OY
 go_upto_region 3 with fail
 rw [←HU.out];clear HU
 go_cut [7] from 16 to 22 (fun v wx=>∃ ng:Bool,v=.bool ng∧(magW x≤9218868437227405312→magW y≤9218868437227405312→ng=(negW x != negW y))∧wx=V)
 case first =>
  go_wp2_with fail
  refine (BX.out V).mono ?_;rintro r v1 ⟨⟨b1,rfl,l1,e1⟩,hu⟩;have hu':=hu.symm;clear hu;subst hu';have E1:=qsd e1;clear e1
  go_wp2_with fail
  refine (BY.out V).mono ?_;rintro r v1 ⟨⟨b2,rfl,l2,e2⟩,hu⟩;have hu':=hu.symm;clear hu;subst hu';have E2:=qsd e2;clear e2
  go_wp2_with fail
  go_meet
  case rel =>
   refine ⟨_,rfl,fun m1 m2=>?_,rfl⟩
   rw [E1.out m1,E2.out m2];exact top_ne XY.out.1 XY.out.2
 obtain ⟨ng,rfl,hng,hwc⟩:=hcut;rw [hwc];clear hwc wc BX BY;have HNG:=qsd hng;clear hng;obtain ⟨p0,q0,T0,M0⟩:=K2.out.2.2.2.1;obtain ⟨p1,q1,T1,M1⟩:=K2.out.2.2.2.2;have x0:=T0.cell 0 _ rfl;have y0:=T1.cell 0 _ rfl
 go_upto_region 4 with fail
 go_cut [8] from 23 to 30 (fun v wx=>v=.bool (zx || zy)∧wx=V)
 case first =>
  cases zx
  · go_wp2_with fail
    refine (NX.out V).mono ?_;rintro r v1 ⟨rfl,hu⟩;have hu':=hu.symm;clear hu;subst hu'
    go_wp2_with fail
    refine (NY.out V).mono ?_;rintro r v1 ⟨rfl,hu⟩;have hu':=hu.symm;clear hu;subst hu'
    go_wp2_with fail
    go_meet
    case rel=>exact ⟨by simp,rfl⟩
  · go_wp2_with fail
    refine (NX.out V).mono ?_;rintro r v1 ⟨rfl,hu⟩;have hu':=hu.symm;clear hu;subst hu'
    go_wp2_with fail
    go_meet
    case rel=>exact ⟨by simp,rfl⟩
 obtain ⟨rfl,hwc⟩:=hcut;rw [hwc];clear hwc wc NX NY;obtain ⟨zz,hzz⟩:∃ b,b=(zx || zy):=⟨_,rfl⟩
 rw [←hzz] at PR ⊢;clear hzz zx zy
 go_upto_region 5 with fail
 go_cut [9] from 31 to 38 (fun v wx=>v=.bool (ix || iy)∧wx=V)
 case first =>
  cases ix
  · go_wp2_with fail
    refine (EX.out V).mono ?_;rintro r v1 ⟨rfl,hu⟩;have hu':=hu.symm;clear hu;subst hu'
    go_wp2_with fail
    refine (EY.out V).mono ?_;rintro r v1 ⟨rfl,hu⟩;have hu':=hu.symm;clear hu;subst hu'
    go_wp2_with fail
    go_meet
    case rel=>exact ⟨by simp,rfl⟩
  · go_wp2_with fail
    refine (EX.out V).mono ?_;rintro r v1 ⟨rfl,hu⟩;have hu':=hu.symm;clear hu;subst hu'
    go_wp2_with fail
    go_meet
    case rel=>exact ⟨by simp,rfl⟩
 obtain ⟨rfl,hwc⟩:=hcut;rw [hwc];clear hwc wc EX EY;obtain ⟨ii,hii⟩:∃ b,b=(ix || iy):=⟨_,rfl⟩
 rw [←hii] at PR ⊢;clear hii ix iy
 go_upto_region 6 with fail
 go_cut [39,8,9] from 40 to 53 (fun v v8 v9 wx=>v=.bool (x5 || y5 || (zz&&ii))∧v8=.bool zz∧v9=.bool ii∧wx=V)
 case first =>
  cases x5
  · cases y5
    · cases zz
      · go_wp2_with fail
        go_meet
        case rel=>exact ⟨by simp,rfl,rfl,rfl⟩
      · go_wp2_with fail
        go_meet
        case rel=>exact ⟨by simp,rfl,rfl,rfl⟩
    · go_wp2_with fail
      go_meet
      case rel=>exact ⟨by simp,rfl,rfl,rfl⟩
  · go_wp2_with fail
    go_meet
    case rel=>exact ⟨by simp,rfl,rfl,rfl⟩
 obtain ⟨rfl,rfl,rfl,hwc⟩:=hcut;rw [hwc];clear hwc wc;obtain ⟨na,hna⟩:∃ b,b=(x5 || y5 || (zz&&ii)):=⟨_,rfl⟩
 rw [←hna] at PR ⊢;clear hna hx5 hy5 x5 y5;have r0:=K2.out.1.cell 0 _ rfl;have r1:=K2.out.1.cell 1 _ rfl;have r2:=K2.out.1.cell 2 _ rfl;have r3:=K2.out.1.cell 3 _ rfl;have f0:=K2.out.1.frozen 0;have f1:=K2.out.1.frozen 1;have f2:=K2.out.1.frozen 2;have f3:=K2.out.1.frozen 3
 cases na
 · cases ii
   · cases zz
     · obtain ⟨fx,fy,P1⟩:=PR.out.2.2.2 rfl rfl rfl
       have ept:=(pT_mul XY.out.1 XY.out.2 fx fy).1;obtain ⟨i,hi⟩:∃ i,i=4196:=⟨_,rfl⟩;have FE:Fm (exV (pT x y)):=by rw [ept];exact ex_fm _ i (by omega) (top_sq XY.out.1 fx XY.out.2 fy i hi)
       have em:mulD ox oy=exV (pT x y):=by rw [HO.out.1,HO.out.2,oZ_fin fx,oZ_fin fy,ept];exact mul_ex XY.out.1 fx XY.out.2 fy
       have HM:=hid (rmul12 FX.out.1 FX.out.2 M0 M1 em FE);obtain ⟨oe,hoe⟩:∃ o,o=exV (pT x y):=⟨_,rfl⟩;rw [←hoe] at HM FE;have PF:=qsd (ai P1 (ai hoe FE));have x1:=T0.cell 1 _ rfl;have x2:=T0.cell 2 _ rfl;have x3:=T0.cell 3 _ rfl;have y1:=T1.cell 1 _ rfl;have y2:=T1.cell 2 _ rfl;have y3:=T1.cell 3 _ rfl;clear T0 T1 M0 M1 fx fy P1 ept hi FE em hoe PR HNG r0 r1 r2 r3 f0 f1 f2 f3
       go_wp2_with fail
       refine HM.out.mono ?_;rintro r u3 ⟨⟨v,rfl,hN⟩,hb⟩;obtain ⟨a3,c3,rfl,hN0⟩:=Lo.shape PF.out.2.2 hN;obtain ⟨V2,hV2⟩:∃ U,U=u3.alloc (Obj.cells #[.bool (dN oe),.slice a3 (ws (dX oe)).length c3,.int .i64 (dE oe)] 47):=⟨_,rfl⟩;have bU:Below V.heap.size V V2:=by rw [hV2];exact hb.trans ((below_alloc _ _).mono hb.size)
       have D3:Dk V2 u3.heap.size (dN oe) (.slice a3 (ws (dX oe)).length c3) (dE oe):=by rw [hV2];exact Dk.new _ _ _ _
       have N3:Nt V.heap.size V2 (.slice a3 (ws (dX oe)).length c3) (dX oe):=by rw [hV2];exact hN.below (below_alloc _ _)
       have B3:=K2.out.1.below bU K2.out.1.lt;have hlt:=K2.out.1.lt;obtain ⟨z0,z1,z2,zf0,zf1,zf2⟩:=D3.facts;have r0:=B3.cell 0 _ rfl;have r1:=B3.cell 1 _ rfl;have r2:=B3.cell 2 _ rfl;have r3:=B3.cell 3 _ rfl;have f0:=B3.frozen 0;have f1:=B3.frozen 1;have f2:=B3.frozen 2;have f3:=B3.frozen 3
       have PE:Aside (Bl (st4T V2 g4 (.int .i64 0) (.bool (dN oe)) (.slice a3 (ws (dX oe)).length c3) (.int .i64 (dE oe))) g4 68 [.int .i64 0,.bool (dN oe),.slice a3 (ws (dX oe)).length c3,.int .i64 (dE oe)]∧Nt w.heap.size (st4T V2 g4 (.int .i64 0) (.bool (dN oe)) (.slice a3 (ws (dX oe)).length c3) (.int .i64 (dE oe))) (.slice a3 (ws (dX oe)).length c3) (dX oe)∧Below w.heap.size w (st4T V2 g4 (.int .i64 0) (.bool (dN oe)) (.slice a3 (ws (dX oe)).length c3) (.int .i64 (dE oe)))):=by
        refine ⟨B3.st4T _ _ _ _,?_,st4T_below (K2.out.2.1.trans (bU.mono K2.out.2.1.size)) K2.out.2.2.1 _ _ _ _⟩;refine N3.stay (fun g hg=>?_) K2.out.2.1.size
        unfold st4T;rw [Below.heap_setCell _ _ _ _ (by simp;omega),Below.heap_setCell _ _ _ _ (by simp;omega),Below.heap_setCell _ _ _ _ (by simp;omega),Below.heap_setCell _ _ _ _ (by simp;omega)]
       have HU:=qsd hV2;unfold st4T at PE;clear hV2 hN hN0 hb bU D3 N3 B3 hlt K2 HM x1 x2 x3 y1 y2 y3
       go_upto_region 17 with fail
       rw [←HU.out];clear HU;go_wp2;have t0:=PE.out.1.cell 0 _ rfl;have t1:=PE.out.1.cell 1 _ rfl;have t2:=PE.out.1.cell 2 _ rfl;have t3:=PE.out.1.cell 3 _ rfl;refine bodyPost_ret (v:=.agg #[.int .i64 0,.bool (dN oe),.slice a3 (ws (dX oe)).length c3,.int .i64 (dE oe)]) (by simp [results,Tryz.results43,go_sem,t0,t1,t2,t3]) rfl ⟨⟨.slice a3 (ws (dX oe)).length c3,0,?_,by decide,?_,?_⟩,PE.out.2.2⟩
       · rw [←PF.out.2.1];rfl
       · rw [PF.out.1];rfl
       · rw [←PF.out.2.1];exact PE.out.2.1
     · cases ng
       · obtain ⟨⟨m1,m2⟩,P1,P2⟩:=PR.out.2.2.1 rfl rfl rfl
         rw [←HNG.out m1 m2] at P1;clear m1 m2;have PE:=qsd (prodEnd (w:=w) (k:=2) K2.out.1 K2.out.2.1 K2.out.2.2.1);have PF:=qsd (ai P1 P2);rw [show ((2:Nat):Int)=2 from rfl] at PE
         unfold st4T at PE;clear P1 P2 K2 PR HNG;go_wp2;obtain ⟨t0,t1,t2,t3,bl⟩:=PE.out;refine bodyPost_ret (v:=.agg #[.int .i64 2,.bool false,.slice none 0 0,.int .i64 0]) (by simp [results,Tryz.results43,go_sem,t0,t1,t2,t3]) rfl ⟨⟨.slice none 0 0,2,?_,by decide,?_,?_⟩,bl⟩
         · rw [PF.out.2,ex_zero];rfl
         · rw [PF.out.1];rfl
         · rw [PF.out.2,ex_zero];exact Nt.nil _ _
       · obtain ⟨⟨m1,m2⟩,P1,P2⟩:=PR.out.2.2.1 rfl rfl rfl
         rw [←HNG.out m1 m2] at P1;clear m1 m2;have PE:=qsd (prodEnd (w:=w) (k:=1) K2.out.1 K2.out.2.1 K2.out.2.2.1);have PF:=qsd (ai P1 P2);rw [show ((1:Nat):Int)=1 from rfl] at PE
         unfold st4T at PE;clear P1 P2 K2 PR HNG;go_wp2;obtain ⟨t0,t1,t2,t3,bl⟩:=PE.out;refine bodyPost_ret (v:=.agg #[.int .i64 1,.bool false,.slice none 0 0,.int .i64 0]) (by simp [results,Tryz.results43,go_sem,t0,t1,t2,t3]) rfl ⟨⟨.slice none 0 0,1,?_,by decide,?_,?_⟩,bl⟩
         · rw [PF.out.2,ex_zero];rfl
         · rw [PF.out.1];rfl
         · rw [PF.out.2,ex_zero];exact Nt.nil _ _
   · cases ng
     · obtain ⟨⟨m1,m2⟩,P1,P2⟩:=PR.out.2.1 rfl rfl
       rw [←HNG.out m1 m2] at P1;clear m1 m2;have PE:=qsd (prodEnd (w:=w) (k:=3) K2.out.1 K2.out.2.1 K2.out.2.2.1);have PF:=qsd (ai P1 P2);rw [show ((3:Nat):Int)=3 from rfl] at PE
       unfold st4T at PE;clear P1 P2 K2 PR HNG;go_wp2;obtain ⟨t0,t1,t2,t3,bl⟩:=PE.out;refine bodyPost_ret (v:=.agg #[.int .i64 3,.bool false,.slice none 0 0,.int .i64 0]) (by simp [results,Tryz.results43,go_sem,t0,t1,t2,t3]) rfl ⟨⟨.slice none 0 0,3,?_,by decide,?_,?_⟩,bl⟩
       · rw [PF.out.2,ex_zero];rfl
       · rw [PF.out.1];rfl
       · rw [PF.out.2,ex_zero];exact Nt.nil _ _
     · obtain ⟨⟨m1,m2⟩,P1,P2⟩:=PR.out.2.1 rfl rfl
       rw [←HNG.out m1 m2] at P1;clear m1 m2;have PE:=qsd (prodEnd (w:=w) (k:=4) K2.out.1 K2.out.2.1 K2.out.2.2.1);have PF:=qsd (ai P1 P2);rw [show ((4:Nat):Int)=4 from rfl] at PE
       unfold st4T at PE;clear P1 P2 K2 PR HNG;go_wp2;obtain ⟨t0,t1,t2,t3,bl⟩:=PE.out;refine bodyPost_ret (v:=.agg #[.int .i64 4,.bool false,.slice none 0 0,.int .i64 0]) (by simp [results,Tryz.results43,go_sem,t0,t1,t2,t3]) rfl ⟨⟨.slice none 0 0,4,?_,by decide,?_,?_⟩,bl⟩
       · rw [PF.out.2,ex_zero];rfl
       · rw [PF.out.1];rfl
       · rw [PF.out.2,ex_zero];exact Nt.nil _ _
 · obtain ⟨P1,P2⟩:=PR.out.1 rfl
   have PE:=qsd (prodEnd (w:=w) (k:=5) K2.out.1 K2.out.2.1 K2.out.2.2.1);have PF:=qsd (ai P1 P2);rw [show ((5:Nat):Int)=5 from rfl] at PE
   unfold st4T at PE;clear P1 P2 K2 PR HNG;go_wp2;obtain ⟨t0,t1,t2,t3,bl⟩:=PE.out;refine bodyPost_ret (v:=.agg #[.int .i64 5,.bool false,.slice none 0 0,.int .i64 0]) (by simp [results,Tryz.results43,go_sem,t0,t1,t2,t3]) rfl ⟨⟨.slice none 0 0,5,?_,by decide,?_,?_⟩,bl⟩
   · rw [PF.out.2,ex_zero];rfl
   · rw [PF.out.1];rfl
   · rw [PF.out.2,ex_zero];exact Nt.nil _ _
end
section
open Go.RowKit J
attribute [local go_sem] st_float
def laC (o:Option (Bool×Nat×Int)) (a:Option Addr) (c:Nat) (s:Sp):List Value:=[.bool (dN o),.slice a (ws (dX o)).length c,.int .i64 (dE o),.int .i64 s.n,.int .i64 s.u,.int .i64 s.d,.int .i64 s.m,.int .i64 s.p,.int .i64 s.a]
def La (w:World) (g:Nat) (o:Option (Bool×Nat×Int)) (s:Sp):Prop:=∃ a c,Bl w g 65 (laC o a c s)∧Nt 0 w (.slice a (ws (dX o)).length c) (dX o)
theorem La.below {w w':World}{g:Nat}{o:Option (Bool×Nat×Int)}{s:Sp}(h:La w g o s) (hb:Below w.heap.size w w'):La w' g o s:=by
 obtain ⟨a,c,h1,h2⟩:=h;exact ⟨a,c,h1.below hb h1.lt,h2.below hb⟩
theorem La.lt {w:World}{g:Nat}{o:Option (Bool×Nat×Int)}{s:Sp}(h:La w g o s):g<w.heap.size:=by
 obtain ⟨a,c,h1,h2⟩:=h;exact h1.lt
theorem Nt.offA {lo g T:Nat}{w w':World}{v:Value}{X:Nat}{C:List Value}(h:Nt lo w v X) (hB:Bl w g T C) (hT:T≠133) (hb:But g w w'):Nt lo w' v X:=by
 refine h.off hb ?_
 rcases h.2 with ⟨rfl,_⟩|⟨g',cap,cur,rfl,_,hg,_⟩
 · simp [Value.ownBlock]
 · intro e'
   obtain rfl:g'=g:=by simpa [Value.ownBlock] using e'
   rw [show w.heap[g']?=_ from hB] at hg
   simp at hg;exact hT hg.2
theorem ex_great {V:Int}(j:Nat) (hj:j=4238) (hV:V.natAbs<2^j):decide ((2090:Int)<(bl (dX (exV V)):Int)+dE (exV V))=false∧bl (dX (exV V))≤262144∧-2000000≤dE (exV V)∧dE (exV V)≤2000000:=by
 obtain ⟨n,X,e,ho,F,hx⟩:=ex_iv V j (by omega) hV
 rw [ho];have h1:=F.size;have h2:=F.down;have h3:=F.up
 show decide ((2090:Int)<(bl X:Int)+e)=false∧bl X≤262144∧-2000000≤e∧e≤2000000
 refine ⟨decide_eq_false ?_,h1,by omega,by omega⟩
 rcases hx with h|⟨h4,h5⟩
 · rcases F.odd with q | ⟨_,q,_⟩
   · omega
   · have hb:bl 0=0:=by decide
     rcases F.odd with r|⟨r1,r2,r3⟩
     · omega
     · subst h
       rw [hb];omega
 · omega
end
section
open Go.RowKit J
attribute [local go_sem] st_float
theorem Bl.facts9 {w:World}{g T:Nat}{a b c d e f h i j:Value}(H:Bl w g T [a,b,c,d,e,f,h,i,j]):(w.cell? ⟨g,0,none⟩=some a∧w.cell? ⟨g,1,none⟩=some b∧w.cell? ⟨g,2,none⟩=some c)∧(w.cell? ⟨g,3,none⟩=some d∧w.cell? ⟨g,4,none⟩=some e∧w.cell? ⟨g,5,none⟩=some f∧w.cell? ⟨g,6,none⟩=some h∧w.cell? ⟨g,7,none⟩=some i∧w.cell? ⟨g,8,none⟩=some j) :=
 ⟨⟨H.cell 0 _ rfl,H.cell 1 _ rfl,H.cell 2 _ rfl⟩,H.cell 3 _ rfl,H.cell 4 _ rfl,H.cell 5 _ rfl,H.cell 6 _ rfl,H.cell 7 _ rfl,H.cell 8 _ rfl⟩
theorem La.st3T {w:World}{g gq:Nat}{o p:Option (Bool×Nat×Int)}{s:Sp}(h:La w g o s) (hq:Lo w gq p) (hne:g≠gq) (x y z:Value):La (st3 w gq x y z) g o s:=by
 obtain ⟨a,c,h1,h2⟩:=h;obtain ⟨_,_,k1,_⟩:=hq;exact ⟨a,c,Bl.but h1 (st3_but12 gq w x y z) hne,h2.off12 k1 _ _ _⟩
theorem Lt.st3T {w:World}{g gq k:Nat}{o p:Option (Bool×Nat×Int)}(h:Lt w g k o) (hq:Lo w gq p) (hne:g≠gq) (x y z:Value):Lt (st3 w gq x y z) g k o:=by
 obtain ⟨a,c,h1,h2⟩:=h;obtain ⟨_,_,k1,_⟩:=hq;exact ⟨a,c,Bl.but h1 (st3_but12 gq w x y z) hne,h2.off12 k1 _ _ _⟩
theorem addW0 (W:World):Below W.heap.size W (W.alloc (Obj.cells #[.bool false,.slice none 0 0,.int .i64 0] 47)).drew:=(below_alloc W (Obj.cells #[.bool false,.slice none 0 0,.int .i64 0] 47)).trans (((Below.refl (W.alloc (Obj.cells #[.bool false,.slice none 0 0,.int .i64 0] 47)).heap.size (W.alloc (Obj.cells #[.bool false,.slice none 0 0,.int .i64 0] 47))).drew).mono (by simp))
theorem addZ {W w3:World}(hb:Below (W.alloc (Obj.cells #[.bool false,.slice none 0 0,.int .i64 0] 47)).drew.heap.size (W.alloc (Obj.cells #[.bool false,.slice none 0 0,.int .i64 0] 47)).drew w3):Lo w3 W.heap.size o00∧Below W.heap.size W w3:=by
 have h1:Lo (W.alloc (Obj.cells #[.bool false,.slice none 0 0,.int .i64 0] 47)).drew W.heap.size o00:=(Lo.zero W).below (Below.refl _ _).drew;have h2:Below W.heap.size W (W.alloc (Obj.cells #[.bool false,.slice none 0 0,.int .i64 0] 47)).drew:=addW0 W;exact ⟨h1.below hb,h2.trans (hb.mono h2.size)⟩
theorem addW (W:World):Below W.heap.size W (W.alloc (Obj.cells #[.bool false,.slice none 0 0,.int .i64 0] 47)).drew:=addW0 W
set_option maxRecDepth 100000 in
theorem rAdd7 (g:Nat) (V T:Int) (n u d m p a:Int) (k:Nat) (b:Option Addr) (cb:Nat) (w:World) (hA:La w g (exV V) ⟨n,u,d,m,p,a⟩) (hs:(Sp.mk n u d m p a).ok) (hk:k≤5) (ha:a≠1099511627776) (N:Nt 0 w (.slice b (ws (dX (exV T))).length cb) (dX (exV T))) (j:Nat) (hj:j=4238) (hV:V.natAbs<2^j) (hT:T.natAbs<2^j) (hVT:(V+T).natAbs<2^j) :
 Calls Tryz.prog 42 #[.pointer (some ⟨g,0,none⟩),.agg #[.int .i64 (k:Nat),.bool (dN (exV T)),.slice b (ws (dX (exV T))).length cb,.int .i64 (dE (exV T))]] w fun r w'=>r=.returned (.int .i64 0)∧La w' g (exV (V+T)) ((Sp.mk n u d m p a).cnt (kOf k) 1)∧But g w w':=by
 have FV:=ex_fm V j (by omega) hV
 have FT:=ex_fm T j (by omega) hT
 have FS:=ex_fm (V+T) j (by omega) hVT
 have EA:=add_ex j (by omega) hV hT
 obtain ⟨gr1,gr2,gr3,gr4⟩:=ex_great (V:=V+T) j hj hVT;have HC:=hid (fun w':World=>rcounted7 n u d m p a k hk hs w')
 obtain ⟨ov,hov⟩:∃ o,o=exV V:=⟨_,rfl⟩;obtain ⟨ot,hot⟩:∃ o,o=exV T:=⟨_,rfl⟩;obtain ⟨os,hos⟩:∃ o,o=exV (V+T):=⟨_,rfl⟩;rw [←hov] at FV EA hA;rw [←hot] at FT EA N ⊢;rw [←hos] at FS EA gr1 gr2 gr3 gr4 ⊢;obtain ⟨⟨n1,u1,d1,m1,p1,a1⟩,hs1⟩:∃ s,s=(Sp.mk n u d m p a).cnt (kOf k) 1:=⟨_,rfl⟩;rw [←hs1] at HC ⊢;unfold Sp.agg at HC;simp only at HC;have FF:=qsd (ai FV (ai FT (ai FS EA)));have GG:=qsd (ai gr1 (ai gr2 (ai gr3 gr4)));have ha':(a==1099511627776)=false:=by simpa using ha
 have glt:=hA.lt;obtain ⟨W,hW⟩:∃ W,W=w.alloc (Obj.cells #[.int .i64 (k:Nat),.bool (dN ot),.slice b (ws (dX ot)).length cb,.int .i64 (dE ot)] 68):=⟨_,rfl⟩;obtain ⟨g3,hg3⟩:∃ x,x=w.heap.size:=⟨_,rfl⟩
 have K0:Aside (La W g ov ⟨n,u,d,m,p,a⟩∧Lt W g3 k ot∧Below w.heap.size w W∧g<g3):=by
  rw [hW,hg3];exact ⟨hA.below (below_alloc _ _),Lt.new N,below_alloc _ _,glt⟩
 have HW:=qsd hW;have HG:=qsd hg3;clear FV FT FS EA gr1 gr2 gr3 gr4 hov hot hos hs1 hA N ha hV hT hVT hj hW glt hs hg3;go_enter Tryz.func42,Tryz.ntmps42
 go_upto_region 1 with fail
 rw [←HW.out,←HG.out];clear HW;obtain ⟨aV,cV,BV,NV⟩:=K0.out.1;obtain ⟨aT,cT,BT,NT⟩:=K0.out.2.1;unfold laC at BV;obtain ⟨⟨v0,v1,v2⟩,v3,v4,v5,v6,v7,v8⟩:=BV.facts9;obtain ⟨t0,t1,t2,t3⟩:=BT.four;have PB:Hid (∀ U:World,Below W.heap.size W U→Calls Tryz.prog 27 #[.agg #[.bool (dN ov),.slice aV (ws (dX ov)).length cV,.int .i64 (dE ov)],.agg #[.bool (dN ot),.slice aT (ws (dX ot)).length cT,.int .i64 (dE ot)]] U fun r w'=>(∃ v,r=.returned (.tuple #[.agg #[.bool (dN os),v,.int .i64 (dE os)],.int .i64 0])∧Nt U.heap.size w' v (dX os))∧Below U.heap.size U w'):=fun U hU=>radd12 FF.out.1 FF.out.2.1 (NV.below hU) (NT.below hU) FF.out.2.2.2 FF.out.2.2.1
 clear BV NV BT NT
 go_upto_region 3 with fail
 go_cut [5,6] from 13 to 22 (fun q e wx=>∃ gq:Nat,q=.pointer (some ⟨gq,0,none⟩)∧e=.int .i64 0∧Aside (Lo wx gq os∧La wx g ov ⟨n,u,d,m,p,a⟩∧Lt wx g3 k ot∧Below w.heap.size w wx∧g3<gq))
 case first =>
  have hgl:g<W.heap.size:=K0.out.1.lt;have hg3l:g3<W.heap.size:=by obtain ⟨_,_,h,_⟩:=K0.out.2.1;exact h.lt
  go_region_with (go_at_call 27;first
   | (refine (PB.out _ (Below.refl _ W).drew).mono ?_;rintro r w3 ⟨⟨v,rfl,hN⟩,hb3⟩;obtain ⟨a3,c3,rfl,hN0⟩:=Lo.shape FF.out.2.2.1 hN;have HQ:=qsd (ai hN0 ((Below.refl _ W).drew.trans hb3));clear hN hN0 hb3)
   | (refine (PB.out _ (addW W)).mono ?_;rintro r w3 ⟨⟨v,rfl,hN⟩,hb3⟩;obtain ⟨a3,c3,rfl,hN0⟩:=Lo.shape FF.out.2.2.1 hN;have HZ:=qsd (ai hN0 (addZ hb3));obtain ⟨zp,zq,DZ,MZ⟩:=HZ.out.2.1;obtain ⟨z0,z1,z2,zf0,zf1,zf2⟩:=DZ.facts;clear hN hN0 hb3 DZ MZ))
  all_goals
   go_wp2_with fail
   go_meet
   case rel =>
    first
     | exact ⟨w3.heap.size,rfl,rfl,Lo.new HQ.out.1,(K0.out.1.below HQ.out.2).below (below_alloc _ _),(K0.out.2.1.below HQ.out.2).below (below_alloc _ _),(K0.out.2.2.1.trans (HQ.out.2.mono K0.out.2.2.1.size)).trans ((below_alloc _ _).mono (Nat.le_trans K0.out.2.2.1.size HQ.out.2.size)),Nat.lt_of_lt_of_le hg3l HQ.out.2.size⟩
     | exact ⟨W.heap.size,rfl,rfl,HZ.out.2.1.set HZ.out.1,(K0.out.1.below HZ.out.2.2).st3T HZ.out.2.1 (by omega) _ _ _,(K0.out.2.1.below HZ.out.2.2).st3T HZ.out.2.1 (by omega) _ _ _,st3_bel12 (K0.out.2.2.1.trans (HZ.out.2.2.mono K0.out.2.2.1.size)) (Nat.le_trans K0.out.2.2.1.size HZ.out.2.2.size) K0.out.2.2.1.size _ _ _,hg3l⟩
 obtain ⟨gq,rfl,rfl,K1⟩:=hcut;obtain ⟨U,hU⟩:∃ U,U=wc:=⟨_,rfl⟩;rw [←hU] at K1 ⊢;clear hU v0 v1 v2 v3 v4 v5 v6 v7 v8 t0 t1 t2 t3 PB;obtain ⟨q0,r0,D0,M0⟩:=K1.out.1;obtain ⟨x0,x1,x2,xf0,xf1,xf2⟩:=D0.facts
 have HGr:Hid (Calls Tryz.prog 88 #[.agg #[.bool (dN os),.slice q0 (ws (dX os)).length r0,.int .i64 (dE os)]] U fun r w'=>r=.returned (.bool false)∧Below U.heap.size U w'):=by
  have:=rgreat7 (dN os) (dX os) (dE os) q0 r0 U (FF.out.2.2.1.a12 M0) GG.out.2.1 GG.out.2.2.1 GG.out.2.2.2;rw [GG.out.1] at this;exact this
 clear D0 M0
 go_wp2_with fail
 refine HGr.out.mono ?_;rintro r u2 ⟨rfl,hb⟩;have l0:=K1.out.1.below hb;have l1:=K1.out.2.1.below hb;have l2:=K1.out.2.2.1.below hb;have b2:=K1.out.2.2.2.1.trans (hb.mono K1.out.2.2.2.1.size);have hg3:=K1.out.2.2.2.2;obtain ⟨q0,r0,D0,M0⟩:=l0;obtain ⟨y0,y1,y2,yf0,yf1,yf2⟩:=D0.facts;obtain ⟨aV,cV,BV,NV⟩:=l1;unfold laC at BV;obtain ⟨⟨v0,v1,v2⟩,v3,v4,v5,v6,v7,v8⟩:=BV.facts9;have vf0:=BV.frozen 0;have vf1:=BV.frozen 1;have vf2:=BV.frozen 2;obtain ⟨U2,hU2⟩:∃ U2,U2=st3 u2 g (.bool (dN os)) (.slice q0 (ws (dX os)).length r0) (.int .i64 (dE os)):=⟨_,rfl⟩
 have K2:Aside (Bl U2 g 65 (laC os q0 r0 ⟨n,u,d,m,p,a⟩)∧Nt 0 U2 (.slice q0 (ws (dX os)).length r0) (dX os)∧Lt U2 g3 k ot∧But g w U2∧g<g3∧w.heap.size≤U2.heap.size):=by
  rw [hU2];refine ⟨((BV.set 0 _).set 1 _).set 2 _,M0.offA BV (by decide) (st3_but12 _ _ _ _ _),?_,((But.refl g w).of_bel b2).trans (st3_but12 _ _ _ _ _),K0.out.2.2.2,Nat.le_trans b2.size (by simp [st3,World.setCell])⟩
  obtain ⟨aT,cT,BT,NT⟩:=l2;exact ⟨aT,cT,Bl.but BT (st3_but12 _ _ _ _ _) (by have:=K0.out.2.2.2;omega),NT.offA BV (by decide) (st3_but12 _ _ _ _ _)⟩
 unfold st3 at hU2;have HU:=qsd hU2;clear D0 M0 BV NV l2 b2 hb hU2 HGr x0 x1 x2 xf0 xf1 xf2 K1
 go_upto_region 7 with fail
 rw [←HU.out];clear HU v0 v1 v2 v3 v4 v5 v6 v7 v8 vf0 vf1 vf2 y0 y1 y2 yf0 yf1 yf2;obtain ⟨v3,v4,v5,v6,v7,v8⟩:=(show Bl U2 g 65 [_,_,_,_,_,_,_,_,_] from K2.out.1).facts9.2
 obtain ⟨aT,cT,BT,NT⟩:=K2.out.2.2.1;have t0:=BT.cell 0 _ rfl;have HB:Hid (Bl U2 g 65 [.bool (dN os),.slice q0 (ws (dX os)).length r0,.int .i64 (dE os),.int .i64 n,.int .i64 u,.int .i64 d,.int .i64 m,.int .i64 p,.int .i64 a]):=K2.out.1;have hlt:g<U2.heap.size:=HB.out.lt;clear BT NT
 go_region_with (go_at_call 89;refine (HC.out _).mono ?_;rintro r w3 ⟨rfl,hb3⟩;have HQ:=qsd (Bl.below (w:=U2.drew) HB.out hb3 hlt);have q3:=HQ.out.cell 3 _ rfl;have q4:=HQ.out.cell 4 _ rfl;have q5:=HQ.out.cell 5 _ rfl;have q6:=HQ.out.cell 6 _ rfl;have q7:=HQ.out.cell 7 _ rfl;have q8:=HQ.out.cell 8 _ rfl;have f3:=HQ.out.frozen 3;have f4:=HQ.out.frozen 4;have f5:=HQ.out.frozen 5;have f6:=HQ.out.frozen 6;have f7:=HQ.out.frozen 7;have f8:=HQ.out.frozen 8;have HB3:=qsd hb3;clear hb3)
 all_goals
  go_wp2;go_ret;have hbd:Below U2.heap.size U2 w3:=(Below.refl _ U2).drew.trans HB3.out;refine ⟨rfl,⟨q0,r0,((((((HQ.out.set 3 _).set 4 _).set 5 _).set 6 _).set 7 _).set 8 _),?_⟩,?_⟩
  · exact (K2.out.2.1.below hbd).offA HQ.out (by decide) ((((((But.refl g w3).set 3 _).set 4 _).set 5 _).set 6 _).set 7 _ |>.set 8 _)
  · exact K2.out.2.2.2.1.trans (((But.refl g U2).of_bel hbd).trans ((((((But.refl g w3).set 3 _).set 4 _).set 5 _).set 6 _).set 7 _ |>.set 8 _))
end
section
open Go.RowKit
open Go.Proofs.YthfkleadcnkglaaGreatDoor.B (f64bits f64frombits bw bcell)
attribute [local go_sem] f64bits f64frombits
theorem MayBe_any (n u d m p a:Int) (w:World):Calls Tryz.prog 137 #[.agg #[.int .i64 n,.int .i64 u,.int .i64 d,.int .i64 m,.int .i64 p,.int .i64 a]] w fun r w'=>r=.returned (.bool (snd n u d m p a))∧Below w.heap.size w w':=by
 have below:∀ o,Below w.heap.size w (w.alloc o):=fun o=>(Below.refl _ _).alloc (Nat.le_refl _) _
 unfold snd;have Hn:=hid (within_any n);have Hu:=hid (within_any u);have Hd:=hid (within_any d);have Hm:=hid (within_any m);have Hp:=hid (within_any p);have Ha:=hid (within_any a);have h1:(ct n=false)∨(ct n=true∧ct u=false)∨(ct n=true∧ct u=true∧ct d=false)∨(ct n=true∧ct u=true∧ct d=true):=by cases ct n <;> cases ct u <;> cases ct d <;> simp
 have h2:(ct m=false)∨(ct m=true∧ct p=false)∨(ct m=true∧ct p=true∧ct a=false)∨(ct m=true∧ct p=true∧ct a=true):=by cases ct m <;> cases ct p <;> cases ct a <;> simp
 rcases h1 with e1|⟨e1,e2⟩|⟨e1,e2,e3⟩|⟨e1,e2,e3⟩ <;> rcases h2 with g1|⟨g1,g2⟩|⟨g1,g2,g3⟩|⟨g1,g2,g3⟩
 · rw [e1,g1]
   rw [e1] at Hn;rw [g1] at Hm;clear e1 g1;go_enter Tryz.func137,Tryz.ntmps137
   go_wp2_with fail
   refine (Hn.out _).mono ?_;rintro r w1 ⟨rfl,rfl⟩
   go_wp2_with fail
   refine (Hm.out _).mono ?_;rintro r w1 ⟨rfl,rfl⟩;go_wp2;go_ret;exact ⟨by first | rfl | simp,below _⟩
 · rw [e1,g1,g2]
   rw [e1] at Hn;rw [g1] at Hm;rw [g2] at Hp;clear e1 g1 g2;go_enter Tryz.func137,Tryz.ntmps137
   go_wp2_with fail
   refine (Hn.out _).mono ?_;rintro r w1 ⟨rfl,rfl⟩
   go_wp2_with fail
   refine (Hm.out _).mono ?_;rintro r w1 ⟨rfl,rfl⟩
   go_wp2_with fail
   refine (Hp.out _).mono ?_;rintro r w1 ⟨rfl,rfl⟩;go_wp2;go_ret;exact ⟨by first | rfl | simp,below _⟩
 · rw [e1,g1,g2,g3]
   rw [e1] at Hn;rw [g1] at Hm;rw [g2] at Hp;rw [g3] at Ha;clear e1 g1 g2 g3;go_enter Tryz.func137,Tryz.ntmps137
   go_wp2_with fail
   refine (Hn.out _).mono ?_;rintro r w1 ⟨rfl,rfl⟩
   go_wp2_with fail
   refine (Hm.out _).mono ?_;rintro r w1 ⟨rfl,rfl⟩
   go_wp2_with fail
   refine (Hp.out _).mono ?_;rintro r w1 ⟨rfl,rfl⟩
   go_wp2_with fail
   refine (Ha.out _).mono ?_;rintro r w1 ⟨rfl,rfl⟩;go_wp2;go_ret;exact ⟨by first | rfl | simp,below _⟩
 · rw [e1,g1,g2,g3]
   rw [e1] at Hn;rw [g1] at Hm;rw [g2] at Hp;rw [g3] at Ha;clear e1 g1 g2 g3;go_enter Tryz.func137,Tryz.ntmps137
   go_wp2_with fail
   refine (Hn.out _).mono ?_;rintro r w1 ⟨rfl,rfl⟩
   go_wp2_with fail
   refine (Hm.out _).mono ?_;rintro r w1 ⟨rfl,rfl⟩
   go_wp2_with fail
   refine (Hp.out _).mono ?_;rintro r w1 ⟨rfl,rfl⟩
   go_wp2_with fail
   refine (Ha.out _).mono ?_;rintro r w1 ⟨rfl,rfl⟩;go_wp2;go_ret;exact ⟨by first | rfl | simp,below _⟩
 · rw [e1,e2,g1]
   rw [e1] at Hn;rw [e2] at Hu;rw [g1] at Hm;clear e1 e2 g1;go_enter Tryz.func137,Tryz.ntmps137
   go_wp2_with fail
   refine (Hn.out _).mono ?_;rintro r w1 ⟨rfl,rfl⟩
   go_wp2_with fail
   refine (Hu.out _).mono ?_;rintro r w1 ⟨rfl,rfl⟩
   go_wp2_with fail
   refine (Hm.out _).mono ?_;rintro r w1 ⟨rfl,rfl⟩;go_wp2;go_ret;exact ⟨by first | rfl | simp,below _⟩
 · rw [e1,e2,g1,g2]
   rw [e1] at Hn;rw [e2] at Hu;rw [g1] at Hm;rw [g2] at Hp;clear e1 e2 g1 g2;go_enter Tryz.func137,Tryz.ntmps137
   go_wp2_with fail
   refine (Hn.out _).mono ?_;rintro r w1 ⟨rfl,rfl⟩
   go_wp2_with fail
   refine (Hu.out _).mono ?_;rintro r w1 ⟨rfl,rfl⟩
   go_wp2_with fail
   refine (Hm.out _).mono ?_;rintro r w1 ⟨rfl,rfl⟩
   go_wp2_with fail
   refine (Hp.out _).mono ?_;rintro r w1 ⟨rfl,rfl⟩;go_wp2;go_ret;exact ⟨by first | rfl | simp,below _⟩
 · rw [e1,e2,g1,g2,g3]
   rw [e1] at Hn;rw [e2] at Hu;rw [g1] at Hm;rw [g2] at Hp;rw [g3] at Ha;clear e1 e2 g1 g2 g3;go_enter Tryz.func137,Tryz.ntmps137
   go_wp2_with fail
   refine (Hn.out _).mono ?_;rintro r w1 ⟨rfl,rfl⟩
   go_wp2_with fail
   refine (Hu.out _).mono ?_;rintro r w1 ⟨rfl,rfl⟩
   go_wp2_with fail
   refine (Hm.out _).mono ?_;rintro r w1 ⟨rfl,rfl⟩
   go_wp2_with fail
   refine (Hp.out _).mono ?_;rintro r w1 ⟨rfl,rfl⟩
   go_wp2_with fail
   refine (Ha.out _).mono ?_;rintro r w1 ⟨rfl,rfl⟩;go_wp2;go_ret;exact ⟨by first | rfl | simp,below _⟩
 · rw [e1,e2,g1,g2,g3]
   rw [e1] at Hn;rw [e2] at Hu;rw [g1] at Hm;rw [g2] at Hp;rw [g3] at Ha;clear e1 e2 g1 g2 g3;go_enter Tryz.func137,Tryz.ntmps137
   go_wp2_with fail
   refine (Hn.out _).mono ?_;rintro r w1 ⟨rfl,rfl⟩
   go_wp2_with fail
   refine (Hu.out _).mono ?_;rintro r w1 ⟨rfl,rfl⟩
   go_wp2_with fail
   refine (Hm.out _).mono ?_;rintro r w1 ⟨rfl,rfl⟩
   go_wp2_with fail
   refine (Hp.out _).mono ?_;rintro r w1 ⟨rfl,rfl⟩
   go_wp2_with fail
   refine (Ha.out _).mono ?_;rintro r w1 ⟨rfl,rfl⟩;go_wp2;go_ret;exact ⟨by first | rfl | simp,below _⟩
 · rw [e1,e2,e3,g1]
   rw [e1] at Hn;rw [e2] at Hu;rw [e3] at Hd;rw [g1] at Hm;clear e1 e2 e3 g1;go_enter Tryz.func137,Tryz.ntmps137
   go_wp2_with fail
   refine (Hn.out _).mono ?_;rintro r w1 ⟨rfl,rfl⟩
   go_wp2_with fail
   refine (Hu.out _).mono ?_;rintro r w1 ⟨rfl,rfl⟩
   go_wp2_with fail
   refine (Hd.out _).mono ?_;rintro r w1 ⟨rfl,rfl⟩
   go_wp2_with fail
   refine (Hm.out _).mono ?_;rintro r w1 ⟨rfl,rfl⟩;go_wp2;go_ret;exact ⟨by first | rfl | simp,below _⟩
 · rw [e1,e2,e3,g1,g2]
   rw [e1] at Hn;rw [e2] at Hu;rw [e3] at Hd;rw [g1] at Hm;rw [g2] at Hp;clear e1 e2 e3 g1 g2;go_enter Tryz.func137,Tryz.ntmps137
   go_wp2_with fail
   refine (Hn.out _).mono ?_;rintro r w1 ⟨rfl,rfl⟩
   go_wp2_with fail
   refine (Hu.out _).mono ?_;rintro r w1 ⟨rfl,rfl⟩
   go_wp2_with fail
   refine (Hd.out _).mono ?_;rintro r w1 ⟨rfl,rfl⟩
   go_wp2_with fail
   refine (Hm.out _).mono ?_;rintro r w1 ⟨rfl,rfl⟩
   go_wp2_with fail
   refine (Hp.out _).mono ?_;rintro r w1 ⟨rfl,rfl⟩;go_wp2;go_ret;exact ⟨by first | rfl | simp,below _⟩
 · rw [e1,e2,e3,g1,g2,g3]
   rw [e1] at Hn;rw [e2] at Hu;rw [e3] at Hd;rw [g1] at Hm;rw [g2] at Hp;rw [g3] at Ha;clear e1 e2 e3 g1 g2 g3;go_enter Tryz.func137,Tryz.ntmps137
   go_wp2_with fail
   refine (Hn.out _).mono ?_;rintro r w1 ⟨rfl,rfl⟩
   go_wp2_with fail
   refine (Hu.out _).mono ?_;rintro r w1 ⟨rfl,rfl⟩
   go_wp2_with fail
   refine (Hd.out _).mono ?_;rintro r w1 ⟨rfl,rfl⟩
   go_wp2_with fail
   refine (Hm.out _).mono ?_;rintro r w1 ⟨rfl,rfl⟩
   go_wp2_with fail
   refine (Hp.out _).mono ?_;rintro r w1 ⟨rfl,rfl⟩
   go_wp2_with fail
   refine (Ha.out _).mono ?_;rintro r w1 ⟨rfl,rfl⟩;go_wp2;go_ret;exact ⟨by first | rfl | simp,below _⟩
 · rw [e1,e2,e3,g1,g2,g3]
   rw [e1] at Hn;rw [e2] at Hu;rw [e3] at Hd;rw [g1] at Hm;rw [g2] at Hp;rw [g3] at Ha;clear e1 e2 e3 g1 g2 g3;go_enter Tryz.func137,Tryz.ntmps137
   go_wp2_with fail
   refine (Hn.out _).mono ?_;rintro r w1 ⟨rfl,rfl⟩
   go_wp2_with fail
   refine (Hu.out _).mono ?_;rintro r w1 ⟨rfl,rfl⟩
   go_wp2_with fail
   refine (Hd.out _).mono ?_;rintro r w1 ⟨rfl,rfl⟩
   go_wp2_with fail
   refine (Hm.out _).mono ?_;rintro r w1 ⟨rfl,rfl⟩
   go_wp2_with fail
   refine (Hp.out _).mono ?_;rintro r w1 ⟨rfl,rfl⟩
   go_wp2_with fail
   refine (Ha.out _).mono ?_;rintro r w1 ⟨rfl,rfl⟩;go_wp2;go_ret;exact ⟨by first | rfl | simp,below _⟩
 · rw [e1,e2,e3,g1]
   rw [e1] at Hn;rw [e2] at Hu;rw [e3] at Hd;rw [g1] at Hm;clear e1 e2 e3 g1;go_enter Tryz.func137,Tryz.ntmps137
   go_wp2_with fail
   refine (Hn.out _).mono ?_;rintro r w1 ⟨rfl,rfl⟩
   go_wp2_with fail
   refine (Hu.out _).mono ?_;rintro r w1 ⟨rfl,rfl⟩
   go_wp2_with fail
   refine (Hd.out _).mono ?_;rintro r w1 ⟨rfl,rfl⟩
   go_wp2_with fail
   refine (Hm.out _).mono ?_;rintro r w1 ⟨rfl,rfl⟩;go_wp2;go_ret;exact ⟨by first | rfl | simp,below _⟩
 · rw [e1,e2,e3,g1,g2]
   rw [e1] at Hn;rw [e2] at Hu;rw [e3] at Hd;rw [g1] at Hm;rw [g2] at Hp;clear e1 e2 e3 g1 g2;go_enter Tryz.func137,Tryz.ntmps137
   go_wp2_with fail
   refine (Hn.out _).mono ?_;rintro r w1 ⟨rfl,rfl⟩
   go_wp2_with fail
   refine (Hu.out _).mono ?_;rintro r w1 ⟨rfl,rfl⟩
   go_wp2_with fail
   refine (Hd.out _).mono ?_;rintro r w1 ⟨rfl,rfl⟩
   go_wp2_with fail
   refine (Hm.out _).mono ?_;rintro r w1 ⟨rfl,rfl⟩
   go_wp2_with fail
   refine (Hp.out _).mono ?_;rintro r w1 ⟨rfl,rfl⟩;go_wp2;go_ret;exact ⟨by first | rfl | simp,below _⟩
 · rw [e1,e2,e3,g1,g2,g3]
   rw [e1] at Hn;rw [e2] at Hu;rw [e3] at Hd;rw [g1] at Hm;rw [g2] at Hp;rw [g3] at Ha;clear e1 e2 e3 g1 g2 g3;go_enter Tryz.func137,Tryz.ntmps137
   go_wp2_with fail
   refine (Hn.out _).mono ?_;rintro r w1 ⟨rfl,rfl⟩
   go_wp2_with fail
   refine (Hu.out _).mono ?_;rintro r w1 ⟨rfl,rfl⟩
   go_wp2_with fail
   refine (Hd.out _).mono ?_;rintro r w1 ⟨rfl,rfl⟩
   go_wp2_with fail
   refine (Hm.out _).mono ?_;rintro r w1 ⟨rfl,rfl⟩
   go_wp2_with fail
   refine (Hp.out _).mono ?_;rintro r w1 ⟨rfl,rfl⟩
   go_wp2_with fail
   refine (Ha.out _).mono ?_;rintro r w1 ⟨rfl,rfl⟩;go_wp2;go_ret;exact ⟨by first | rfl | simp,below _⟩
 · rw [e1,e2,e3,g1,g2,g3]
   rw [e1] at Hn;rw [e2] at Hu;rw [e3] at Hd;rw [g1] at Hm;rw [g2] at Hp;rw [g3] at Ha;have kn:=ct_true e1;have ku:=ct_true e2;have kd:=ct_true e3;have km:=ct_true g1;have kp:=ct_true g2;have ka:=ct_true g3;clear e1 e2 e3 g1 g2 g3;go_enter Tryz.func137,Tryz.ntmps137
   go_wp2_with fail
   refine (Hn.out _).mono ?_;rintro r w1 ⟨rfl,rfl⟩
   go_wp2_with fail
   refine (Hu.out _).mono ?_;rintro r w1 ⟨rfl,rfl⟩
   go_wp2_with fail
   refine (Hd.out _).mono ?_;rintro r w1 ⟨rfl,rfl⟩
   go_wp2_with fail
   refine (Hm.out _).mono ?_;rintro r w1 ⟨rfl,rfl⟩
   go_wp2_with fail
   refine (Hp.out _).mono ?_;rintro r w1 ⟨rfl,rfl⟩
   go_wp2_with fail
   refine (Ha.out _).mono ?_;rintro r w1 ⟨rfl,rfl⟩;go_wp2;go_ret;exact ⟨by first | rfl | simp,below _⟩
end
end Go.Proofs.YthfkleadcnkglaaGreatDoor
