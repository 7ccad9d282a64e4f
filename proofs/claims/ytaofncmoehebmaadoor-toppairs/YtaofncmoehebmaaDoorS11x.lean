import Derived.Test.YtaofncmoehebmaaDoorS3x
import Derived.Deep.RegionHeld
import Derived.Test.YtaofncmoehebmaaDoorD4x
import Derived.Test.YtaofncmoehebmaaDoorW14x
import Derived.Test.YtaofncmoehebmaaDoorBIeeex
import Derived.Deep.RegionWith
import Derived.Test.YtaofncmoehebmaaDoorD24x
set_option linter.unusedVariables false
set_option linter.unusedSimpArgs false
set_option maxHeartbeats 16000000
set_option maxRecDepth 20000
namespace Go.Proofs.YtaofncmoehebmaaDoor
namespace J
end J
section
open Go.RowKit
theorem put_core (g:Nat) (L xs:List Nat) (V T:Int) (s:Sp) (k:Nat) (ng:Bool) (ao:Option Addr) (n cap p:Nat) (w:World) (hs:s.ok) (hk:k≤5) (hA:Ac w g L s) (hl:L.length=133) (hL:Wf L) (hv:(val L:Int)=V%(PB:Int)) (h0:-(HB:Int)<V) (h1:V<(HB:Int))
 (hx:Arg w ao n cap xs) (hp:p+32*n≤4256) (hT:sgn7 ng (val xs*2^p)=T) (hT0:-(HB:Int)<T) (hT1:T<(HB:Int)) :
 Calls Tryd.prog 19 #[.pointer (some ⟨g,0,none⟩),.agg #[.int .i64 (k:Nat),.bool ng,.slice ao n cap,.int .i64 (p:Nat)]] w (Did g w (putS V s k T)):=by
 obtain ⟨t,ht⟩:∃ t,t=s.cnt k 1:=⟨_,rfl⟩;obtain ⟨X,hX⟩:∃ X,X=putS V s k T:=⟨_,rfl⟩;rw [←hX];have HC:=hid (fun u:World=>counted_any s k 1 u hk hs (by decide) (by decide))
 rw [←ht] at HC;obtain ⟨sn,su,sd,sm,sp,sa⟩:=s;obtain ⟨tn,tu,td,tm,tp,ta⟩:=t;have HR:Aside (Ac w g L ⟨sn,su,sd,sm,sp,sa⟩∧L.length=133∧Wf L∧(val L:Int)=V%(PB:Int)∧-(HB:Int)<V∧V<(HB:Int)∧Arg w ao n cap xs∧p+32*n≤4256∧sgn7 ng (val xs*2^p)=T∧-(HB:Int)<T∧T<(HB:Int)):=⟨hA,hl,hL,hv,h0,h1,hx,hp,hT,hT0,hT1⟩;have HX:Aside (X=putS V ⟨sn,su,sd,sm,sp,sa⟩ k T∧⟨tn,tu,td,tm,tp,ta⟩=Sp.cnt ⟨sn,su,sd,sm,sp,sa⟩ k 1):=⟨hX,ht⟩;simp only [Sp.agg] at HC;clear hA hl hL hv h0 h1 hx hp hT hT0 hT1 hX ht hs;go_enter Tryd.func19,Tryd.ntmps19;have a5:=HR.out.1.cell HR.out.2.1 5 _ rfl;have alt:=HR.out.1.lt
 by_cases hmax:sa=1099511627776
 · subst hmax
   go_wp2;go_ret;rw [HX.out.1];unfold putS;rw [if_pos rfl];obtain ⟨hA,hl,hL,hv,h0,h1,_⟩:=HR.out;exact ⟨rfl,⟨L,hl,hL,hv,h0,h1,hA.alloc _⟩,(But.refl g w).of_bel (bel_alloc _ _)⟩
 have hmax':(sa==1099511627776)=false:=by simpa using hmax
 go_wp2
 have HP:Aside (X=step7 V ⟨sn,su,sd,sm,sp,sa⟩ T ⟨tn,tu,td,tm,tp,ta⟩):=by
  refine qsd ?_;rw [HX.out.1,HX.out.2];unfold putS;rw [if_neg hmax]
 obtain ⟨w1,hw1⟩:∃ w1,w1=w.alloc (Obj.cells #[.int .i64 (k:Nat),.bool ng,.slice ao n cap,.int .i64 (p:Nat)] 58):=⟨_,rfl⟩;rw [←hw1]
 have H1:Aside (Bl w1 w.heap.size 58 [.int .i64 (k:Nat),.bool ng,.slice ao n cap,.int .i64 (p:Nat)]∧Below w.heap.size w w1∧w1.heap.size=w.heap.size+1):=by
  subst hw1;exact ⟨Bl.new w 58 [_,_,_,_],bel_alloc _ _,by simp⟩
 clear hw1 hmax hmax' a5 alt;have hu:=Tryd.desc_words;have hsz:(Tryd.prog.info? 45).map (·.size)=some (L.map U).length:=by rw [Tryd.size_words,List.length_map,HR.out.2.1]
 have A0:=qsd (HR.out.1.below H1.out.2.1 HR.out.1.lt);have BB:Aside (Below w1.heap.size w1 w1.drew):=(Below.refl _ _).drew;have kS:=qsd (ai (A0.out.drew.range) (ai (A0.out.drew.cell HR.out.2.1 0 _ rfl) (ai (A0.out.drew.cell HR.out.2.1 1 _ rfl) (ai (A0.out.drew.cell HR.out.2.1 2 _ rfl) (ai (A0.out.drew.cell HR.out.2.1 3 _ rfl) (ai (A0.out.drew.cell HR.out.2.1 4 _ rfl) (ai (A0.out.drew.cell HR.out.2.1 5 _ rfl) (H1.out.1.drew.four))))))));have HW:=hid (fun (u:World) (hb:Below w1.heap.size w1 u)=>with_any L xs ao n cap p (k:Nat) ng u HR.out.2.1 HR.out.2.2.1 ((HR.out.2.2.2.2.2.2.1.below H1.out.2.1).below hb) HR.out.2.2.2.2.2.2.2.1)
 have hTT:Aside (sgn7 ng (val xs*2^p)=T∧-(HB:Int)<T∧T<(HB:Int)):=by
  have h:=HR.out.2.2.2.2.2.2.2.2;refine ⟨?_,by omega,by omega⟩
  first | exact h.1 | (rw [←h.1];cases ng <;> simp [sgn7])
 refine until_region (fun w'=>w'.rangeAt g 0 (L.map U)∧w'.cell? ⟨g,133,none⟩=some (.int .i64 sn)∧w'.cell? ⟨g,134,none⟩=some (.int .i64 su)∧w'.cell? ⟨g,135,none⟩=some (.int .i64 sd)∧w'.cell? ⟨g,136,none⟩=some (.int .i64 sm)∧w'.cell? ⟨g,137,none⟩=some (.int .i64 sp)∧w'.cell? ⟨g,138,none⟩=some (.int .i64 sa)∧w'.cell? ⟨w.heap.size,0,none⟩=some (.int .i64 (k:Nat))∧w'.cell? ⟨w.heap.size,1,none⟩=some (.bool ng)∧w'.cell? ⟨w.heap.size,2,none⟩=some (.slice ao n cap)∧w'.cell? ⟨w.heap.size,3,none⟩=some (.int .i64 (p:Nat))) 14 (by kernel_rfl) ?_
 refine until_take (i:=0) [] (v:=?_) rfl (by kernel_rfl) (by kernel_rfl) (by kernel_rfl) (by kernel_rfl) (by kernel_rfl) (fun _ _ _ h=>h) (Or.inl ⟨by rfl,?_⟩) kS.out ?_
 rotate_left
 · intro u hSu
   try dsimp only at hSu
   first | (go_simp;done) | (go_simp;with_reducible rfl)
 try simp only [Act.put,List.setIfInBounds_toArray,List.set_cons_zero,List.set_cons_succ]
 refine until_take (i:=1) [2,3,4,6] (v:=?_) rfl (by kernel_rfl) (by kernel_rfl) (by kernel_rfl) (by kernel_rfl) (by kernel_rfl) (fun _ _ _ h=>h) (Or.inl ⟨by rfl,?_⟩) kS.out ?_
 rotate_left
 · intro u hSu
   try dsimp only at hSu
   first | (go_simp;done) | (go_simp;with_reducible rfl)
 try simp only [Act.put,List.setIfInBounds_toArray,List.set_cons_zero,List.set_cons_succ]
 refine until_take (i:=2) [3,4,6] (v:=?_) rfl (by kernel_rfl) (by kernel_rfl) (by kernel_rfl) (by kernel_rfl) (by kernel_rfl) (fun _ _ _ h=>h) (Or.inl ⟨by rfl,?_⟩) kS.out ?_
 rotate_left
 · intro u hSu
   try dsimp only at hSu
   first | (go_simp;done) | (go_simp;with_reducible rfl)
 try simp only [Act.put,List.setIfInBounds_toArray,List.set_cons_zero,List.set_cons_succ]
 refine until_take (i:=3) [4,6] (v:=?_) rfl (by kernel_rfl) (by kernel_rfl) (by kernel_rfl) (by kernel_rfl) (by kernel_rfl) (fun _ _ _ h=>h) (Or.inl ⟨by rfl,?_⟩) kS.out ?_
 rotate_left
 · intro u hSu
   try dsimp only at hSu
   first | (go_simp;done) | (go_simp;with_reducible rfl)
 try simp only [Act.put,List.setIfInBounds_toArray,List.set_cons_zero,List.set_cons_succ]
 refine until_take (i:=4) [6] rfl (by kernel_rfl) (by kernel_rfl) (by kernel_rfl) (by kernel_rfl) (by kernel_rfl) (fun _ _ _ h=>h) (yieldsIf_load_mid (by rfl) _ _ rfl g 0 rfl (L.map U) _ (fun u h=>h.1) hu rfl hsz) kS.out ?_
 try simp only [Act.put,List.setIfInBounds_toArray,List.set_cons_zero,List.set_cons_succ]
 refine until_take (i:=5) [6] (v:=?_) rfl (by kernel_rfl) (by kernel_rfl) (by kernel_rfl) (by kernel_rfl) (by kernel_rfl) (fun _ _ _ h=>h) (Or.inl ⟨by rfl,?_⟩) kS.out ?_
 rotate_left
 · intro u hSu
   try dsimp only at hSu
   first | (go_simp;done) | (go_simp;with_reducible rfl)
 try simp only [Act.put,List.setIfInBounds_toArray,List.set_cons_zero,List.set_cons_succ]
 refine until_take (i:=7) [8,9,10,13] (v:=?_) rfl (by kernel_rfl) (by kernel_rfl) (by kernel_rfl) (by kernel_rfl) (by kernel_rfl) (fun _ _ _ h=>h) (Or.inl ⟨by rfl,?_⟩) kS.out ?_
 rotate_left
 · intro u hSu
   try dsimp only at hSu
   first | (go_simp;done) | (go_simp;with_reducible rfl)
 try simp only [Act.put,List.setIfInBounds_toArray,List.set_cons_zero,List.set_cons_succ]
 refine until_take (i:=8) [9,10,13] (v:=?_) rfl (by kernel_rfl) (by kernel_rfl) (by kernel_rfl) (by kernel_rfl) (by kernel_rfl) (fun _ _ _ h=>h) (Or.inl ⟨by rfl,?_⟩) kS.out ?_
 rotate_left
 · intro u hSu
   try dsimp only at hSu
   first | (go_simp;done) | (go_simp;with_reducible rfl)
 try simp only [Act.put,List.setIfInBounds_toArray,List.set_cons_zero,List.set_cons_succ]
 refine until_take (i:=9) [10,13] (v:=?_) rfl (by kernel_rfl) (by kernel_rfl) (by kernel_rfl) (by kernel_rfl) (by kernel_rfl) (fun _ _ _ h=>h) (Or.inl ⟨by rfl,?_⟩) kS.out ?_
 rotate_left
 · intro u hSu
   try dsimp only at hSu
   first | (go_simp;done) | (go_simp;with_reducible rfl)
 try simp only [Act.put,List.setIfInBounds_toArray,List.set_cons_zero,List.set_cons_succ]
 refine until_take (i:=10) [13] (v:=?_) rfl (by kernel_rfl) (by kernel_rfl) (by kernel_rfl) (by kernel_rfl) (by kernel_rfl) (fun _ _ _ h=>h) (Or.inl ⟨by rfl,?_⟩) kS.out ?_
 rotate_left
 · intro u hSu
   try dsimp only at hSu
   first | (go_simp;done) | (go_simp;with_reducible rfl)
 try simp only [Act.put,List.setIfInBounds_toArray,List.set_cons_zero,List.set_cons_succ]
 refine until_take (i:=11) [12,13] (v:=?_) rfl (by kernel_rfl) (by kernel_rfl) (by kernel_rfl) (by kernel_rfl) (by kernel_rfl) (fun _ _ _ h=>h) (Or.inl ⟨by rfl,?_⟩) kS.out ?_
 rotate_left
 · intro u hSu
   try dsimp only at hSu
   first | (go_simp;done) | (go_simp;with_reducible rfl)
 try simp only [Act.put,List.setIfInBounds_toArray,List.set_cons_zero,List.set_cons_succ]
 refine until_take (i:=12) [13] (v:=?_) rfl (by kernel_rfl) (by kernel_rfl) (by kernel_rfl) (by kernel_rfl) (by kernel_rfl) (fun _ _ _ h=>h) (Or.inl ⟨by rfl,?_⟩) kS.out ?_
 rotate_left
 · intro u hSu
   try dsimp only at hSu
   first | (go_simp;done) | (go_simp;with_reducible rfl)
 try simp only [Act.put,List.setIfInBounds_toArray,List.set_cons_zero,List.set_cons_succ]
 refine until_one (i:=6) (by kernel_rfl) rfl (fun K' hK=>?_)
 go_simp
 refine (HW.out _ BB.out).mono ?_;rintro r u1 ⟨M,rfl,hMl,hMw,hMv,hb⟩;have HM:=qsd (ai hMl (ai hMw hMv));have BB:=qsd (BB.out.trans (hb.mono BB.out.size));have A1:=A0.out.below BB.out A0.out.lt;have Z1:=H1.out.1.below BB.out H1.out.1.lt;have kS:=qsd (ai (A1.range) (ai (A1.cell HR.out.2.1 0 _ rfl) (ai (A1.cell HR.out.2.1 1 _ rfl) (ai (A1.cell HR.out.2.1 2 _ rfl) (ai (A1.cell HR.out.2.1 3 _ rfl) (ai (A1.cell HR.out.2.1 4 _ rfl) (ai (A1.cell HR.out.2.1 5 _ rfl) (Z1.four))))))));clear hb A1 Z1 hMl hMw hMv
 dsimp only
 refine hK.out _ _ (fun _=>kS.out) ?_
 clear hK K'
 try simp only [Act.put,List.setIfInBounds_toArray,List.set_cons_zero,List.set_cons_succ]
 refine until_one (i:=13) (by kernel_rfl) rfl (fun K' hK=>?_)
 go_simp
 refine (HC.out _).mono ?_;rintro r u2 ⟨rfl,hb⟩;have BB:=qsd (BB.out.trans (hb.mono BB.out.size));have A1:=A0.out.below BB.out A0.out.lt;have Z1:=H1.out.1.below BB.out H1.out.1.lt;have kS:=qsd (ai (A1.range) (ai (A1.cell HR.out.2.1 0 _ rfl) (ai (A1.cell HR.out.2.1 1 _ rfl) (ai (A1.cell HR.out.2.1 2 _ rfl) (ai (A1.cell HR.out.2.1 3 _ rfl) (ai (A1.cell HR.out.2.1 4 _ rfl) (ai (A1.cell HR.out.2.1 5 _ rfl) (Z1.four))))))));clear hb A1 Z1
 dsimp only
 refine hK.out _ _ (fun _=>kS.out) ?_
 clear hK K'
 try simp only [Act.put,List.setIfInBounds_toArray,List.set_cons_zero,List.set_cons_succ]
 refine until_one (i:=14) (by kernel_rfl) rfl (fun K' hK=>?_)
 go_simp
 have CB:=become_any g L M V T ⟨sn,su,sd,sm,sp,sa⟩ ⟨tn,tu,td,tm,tp,ta⟩ u2 (A0.out.below BB.out A0.out.lt) HR.out.2.1 HR.out.2.2.1 HR.out.2.2.2.1 HR.out.2.2.2.2.1 HR.out.2.2.2.2.2.1 HM.out.2.1 HM.out.1 (by rw [HM.out.2.2,hTT.out.1,HR.out.2.2.2.1,emod_add']) hTT.out.2.1 hTT.out.2.2
 rw [←HP.out] at CB;simp only [Sp.agg] at CB;refine CB.mono ?_;rintro r u3 hD;have HD3:=qsd hD;obtain ⟨rfl,_,_⟩:=hD;clear CB
 dsimp only
 refine hK.out _ _ (fun h=>absurd h (by decide)) ?_
 clear hK K'
 try simp only [Act.put,List.setIfInBounds_toArray,List.set_cons_zero,List.set_cons_succ]
 refine until_one (i:=15) (by kernel_rfl) rfl (fun K' hK=>?_)
 go_simp
 refine hK.out _ _ (fun h=>absurd h (by decide)) ?_
 clear hK K';refine until_done (by kernel_rfl) ?_ _
 clear kS;go_wp2;go_ret;obtain ⟨h1,h2,h3⟩:=HD3.out;exact ⟨rfl,h2,((But.refl g w).of_bel H1.out.2.1).trans (((But.refl g w1).of_bel BB.out).trans h3)⟩
end
section
open Go.RowKit
def sW (x:Nat):Bool:=decide (9223372036854775808≤x)
def eW (x:Nat):Nat:=x%9223372036854775808/4503599627370496
def fW (x:Nat):Nat:=x%4503599627370496
theorem bw_parts (x:Nat) (hx:x<18446744073709551616):x=B.bw (sW x) (eW x) (fW x)∧eW x<2048∧fW x<4503599627370496:=by
 unfold B.bw sW eW fW;refine ⟨?_,by omega,by omega⟩
 by_cases h:9223372036854775808≤x
 · simp only [h,decide_true,Bool.toNat_true];omega
 · simp only [h,decide_false,Bool.toNat_false];omega
def clW (x:Nat):Int:=B.cls (eW x) (fW x)
def xpW (x:Nat):Int:=B.xp (eW x)
def frW (x:Nat):Nat:=(B.fr (eW x) (fW x)).toNat
def ngW (x:Nat):Bool:=B.ng (sW x) (eW x) (fW x)
def pK (x y:Nat):Nat:=pk (max (clW x) (clW y)) (min (clW x) (clW y)) (!ngW x==ngW y)
def pT (x y:Nat):Int:=pv7 (max (clW x) (clW y)) (min (clW x) (clW y)) (!ngW x==ngW y) (frW x) (frW y) (xpW x+xpW y)
theorem pk_le (hi lo:Int) (ng:Bool):pk hi lo ng≤5:=by
 unfold pk
 split
 · omega
 · split
   · split <;> omega
   · split
     · split <;> omega
     · omega
theorem HB_two (k:Nat) (hk:k=4238):HB=2^k:=by
 obtain ⟨j,hj⟩:∃ j,j=32*132:=⟨_,rfl⟩;rw [HB_eq,pw_pow,←hj,show k=14+j by omega,Nat.pow_add]
theorem sgn_bound (ng:Bool) (X B:Nat) (h:X<B):-(B:Int)<sgn7 ng X∧sgn7 ng X<(B:Int):=by cases ng <;> simp only [sgn7,if_true,if_false] <;> constructor <;> (try simp) <;> omega
theorem pT_bound (x y:Nat) (hx:x<18446744073709551616) (hy:y<18446744073709551616):-(HB:Int)<pT x y∧pT x y<(HB:Int):=by
 unfold pT pv7;have hp:=HB_pos
 split
 · refine sgn_bound _ _ _ ?_
   have f1:=fr_bound (eW x) (fW x) (bw_parts x hx).2.2;have f2:=fr_bound (eW y) (fW y) (bw_parts y hy).2.2;have x1:=xp_bound (eW x) (bw_parts x hx).2.1;have x2:=xp_bound (eW y) (bw_parts y hy).2.1
   have h1:frW x*frW y<2^106:=by
    have:frW x*frW y≤9007199254740991*9007199254740991:=Nat.mul_le_mul (by unfold frW;omega) (by unfold frW;omega)
    exact Nat.lt_of_le_of_lt this (by decide)
   obtain ⟨k,hk⟩:∃ k,k=4238:=⟨_,rfl⟩;rw [HB_two k hk];refine Nat.lt_of_lt_of_le (Nat.mul_lt_mul_of_pos_right h1 (Nat.two_pow_pos _)) ?_;rw [←Nat.pow_add];exact Nat.pow_le_pow_right (by decide) (by unfold xpW;omega)
 · constructor <;> omega
theorem product7 (x y:Nat) (hx:x<18446744073709551616) (hy:y<18446744073709551616) (w:World) :
 Calls Tryd.prog 35 #[.float .f64 x,.float .f64 y] w fun r w'=>∃ v,r=.returned v∧Th w.heap.size w' v (pK x y) (pT x y)∧Below w.heap.size w w':=by
 obtain ⟨a1,a2,a3⟩:=bw_parts x hx;obtain ⟨b1,b2,b3⟩:=bw_parts y hy;have h1:=splitIs (sW x) (eW x) (fW x) a2 a3;have h2:=splitIs (sW y) (eW y) (fW y) b2 b3;rw [←a1] at h1;rw [←b1] at h2;exact product_any x y _ _ _ _ _ _ _ _ w h1 h2 (xp_bound _ a2) (xp_bound _ b2) (fr_bound _ _ a3) (fr_bound _ _ b3)
theorem number7 (x:Nat) (hx:x<18446744073709551616) (w:World) :
 Calls Tryd.prog 20 #[.float .f64 x] w fun r w'=>∃ v,r=.returned v∧Th w.heap.size w' v (pK x 4607182418800017408) (pT x 4607182418800017408)∧Below w.heap.size w w':=by
 have HP:=hid (fun u:World=>product7 x 4607182418800017408 hx (by decide) u)
 clear hx;go_enter Tryd.func20,Tryd.ntmps20
 go_wp2_with fail
 refine (HP.out _).mono ?_;rintro r w1 ⟨v,rfl,hT,hb⟩;obtain ⟨ng,a,n,c,p,xs,hlo,rfl,hA,hp,hv⟩:=hT;have HL:=qsd hlo;have Z:=qsd ((Bl.new w 58 [Value.int .i64 0,Value.bool false,Value.slice none 0 0,Value.int .i64 0]).below hb (by simp))
 have HA:=qsd (ai hA (ai hp (ai hv hb)));obtain ⟨z0,z1,z2,z3⟩:=Z.out.four;have g0:=Z.out.frozen 0;have g1:=Z.out.frozen 1;have g2:=Z.out.frozen 2;have g3:=Z.out.frozen 3;clear hA hp hv hb hlo;go_wp2;obtain ⟨w5,hw5⟩:∃ w5,w5=((((w1.setCell ⟨w.heap.size,0,none⟩ (.int .i64 (pK x 4607182418800017408:Nat))).setCell ⟨w.heap.size,1,none⟩ (.bool ng)).setCell ⟨w.heap.size,2,none⟩ (.slice a n c)).setCell ⟨w.heap.size,3,none⟩ (.int .i64 (p:Nat))):=⟨_,rfl⟩;rw [←hw5];have q:Bl w5 w.heap.size 58 [.int .i64 (pK x 4607182418800017408:Nat),.bool ng,.slice a n c,.int .i64 (p:Nat)]:=by rw [hw5];exact put4 Z.out
 have hbut:But w.heap.size w1 w5:=by rw [hw5];exact ((((But.refl _ w1).set 0 _).set 1 _).set 2 _).set 3 _
 have hBw:Below w.heap.size w w1:=(bel_alloc w _).trans (HA.out.2.2.2.mono (by simp))
 have qb:Below w.heap.size w w5:=But.below hBw hbut hBw.size (Nat.le_refl _);clear hw5;obtain ⟨q0,q1,q2,q3⟩:=q.four;refine bodyPost_ret (v:=.agg #[.int .i64 (pK x 4607182418800017408:Nat),.bool ng,.slice a n c,.int .i64 (p:Nat)]) (by simp [results,Tryd.results20,go_sem,q0,q1,q2,q3]) rfl ?_
 refine ⟨_,rfl,⟨ng,a,n,c,p,xs,fun ad e=>?_,rfl,?_,HA.out.2.1,HA.out.2.2.1⟩,qb⟩
 · have:=HL.out ad e;simp at this;omega
 · obtain ⟨r1,r2,r3,r4,r5,r6⟩:=HA.out.1
   refine ⟨r1,r2,r3,r4,fun hne=>?_,r6⟩
   obtain ⟨b,off,hlt,rfl,hc⟩:=r5 hne;have hbb:=HL.out _ rfl;simp at hbb;refine ⟨b,off,Nat.lt_of_lt_of_le hlt hbut.size,rfl,fun i hi=>?_⟩
   rw [←hc i hi];exact World.cell?_of_block (a:=⟨b,off+i,none⟩) (hbut.block b hlt (by omega))
theorem put7 (g:Nat) (V T:Int) (s:Sp) (k lo:Nat) (v:Value) (w:World) (hA:Acc7 w g V s) (hs:s.ok) (hk:k≤5) (ht:Th lo w v k T) (h0:-(HB:Int)<T) (h1:T<(HB:Int)) :
 Calls Tryd.prog 19 #[.pointer (some ⟨g,0,none⟩),v] w (Did g w (putS V s k T)):=by
 obtain ⟨L,a1,a2,a3,a4,a5,a6⟩:=hA;obtain ⟨ng,a,n,c,p,xs,_,rfl,hx,hp,hv⟩:=ht;exact put_core g L xs V T s k ng a n c p w hs hk a6 a1 a2 a3 a4 a5 hx hp hv h0 h1
theorem Add7 (g:Nat) (V:Int) (s:Sp) (x:Nat) (w:World) (hA:Acc7 w g V s) (hs:s.ok) (hx:x<18446744073709551616) :
 Calls Tryd.prog 8 #[.pointer (some ⟨g,0,none⟩),.float .f64 x] w (Did g w (putS V s (pK x 4607182418800017408) (pT x 4607182418800017408))):=by
 obtain ⟨X,hX⟩:∃ X,X=putS V s (pK x 4607182418800017408) (pT x 4607182418800017408):=⟨_,rfl⟩;rw [←hX];have HP:=hid (fun u:World=>number7 x hx u)
 have HB:=qsd (pT_bound x 4607182418800017408 hx (by decide))
 have HA:=qsd (ai hA (ai hs hX));clear hA hs hX hx;go_enter Tryd.func8,Tryd.ntmps8
 go_wp2_with fail
 refine (HP.out _).mono ?_;rintro r w1 ⟨v,rfl,hT,hb⟩;have HT:=qsd (ai hT hb);clear hT hb
 go_wp2_with fail
 have CP:=put7 g V (pT x 4607182418800017408) s (pK x 4607182418800017408) w.heap.size v w1 (HA.out.1.bel HT.out.2) HA.out.2.1 (pk_le _ _ _) HT.out.1 HB.out.1 HB.out.2;rw [←HA.out.2.2] at CP;refine CP.mono ?_;rintro r w2 hD;have HD:=qsd hD;obtain ⟨rfl,_,_⟩:=hD;clear CP;go_wp2;go_ret;exact ⟨rfl,HD.out.2.1,((But.refl g w).of_bel HT.out.2).trans HD.out.2.2⟩
end
section
open Go.RowKit
theorem neg7_val (N:Nat) (V:Int) (h:(N:Int)=V%(PB:Int)) (h0:-(HB:Int)<V) (h1:V<(HB:Int)):neg7 N=decide (V<0)∧mag7 N=V.natAbs:=by
 have e:=PB_HB;have hp:=HB_pos;unfold mag7 neg7
 by_cases hv:0≤V
 · rw [Int.emod_eq_of_lt hv (by omega)] at h
   rw [decide_eq_false (by omega),decide_eq_false (by omega)]
   refine ⟨rfl,?_⟩;rw [if_neg (by decide)]
   omega
 · have h2:V%(PB:Int)=V+PB:=by
    rw [←Int.add_emod_right,Int.emod_eq_of_lt (by omega) (by omega)]
   rw [h2] at h;rw [decide_eq_true (by omega),decide_eq_true (by omega)]
   refine ⟨rfl,?_⟩;rw [if_pos rfl];omega
def exV (V:Int):Option (Bool×Nat×Int):=mkS (decide (V<0)) V.natAbs (-2148)
theorem _root_.Nat.le.ne7 {a b c:Nat}(h:a≤b) (e:a=c+1):b≠c:=by omega
theorem Nt.lo7 {lo k:Nat}{w:World}{v:Value}{X:Nat}(h:Nt lo w v X) (hk:k≤lo):k≤lo:=hk
theorem Tryd.row_dyad:∃ d:TypeDesc,Tryd.prog.underlying 64=some d∧d.isRow=true:=by
 have h:(Tryd.prog.underlying 64).any (·.isRow)=true:=by kernel_rfl
 obtain ⟨d,h1,h2⟩:=(Option.any_eq_true _ _).1 h;exact ⟨d,h1,h2⟩
theorem Tryd.size_dyad:(Tryd.prog.info? 64).map (·.size)=some 3:=by kernel_rfl
theorem row_result {fn:Func}{p:Tmp}{ty:TypeId}(h:fn.results=#[.cell p ty]) (tmps:Array Value) (w:World) (g:Nat) (cs:List Value)
 (hp:tmps.getD p undef=.pointer (some ⟨g,0,none⟩)) (hg:Bl w g ty cs) (hdr:∃ d:TypeDesc,Tryd.prog.underlying ty=some d∧d.isRow=true) (hi:(Tryd.prog.info? ty).map (·.size)=some cs.toArray.size) :
 (results fn tmps).run Tryd.prog w=.ok (.agg cs.toArray) w:=by
 obtain ⟨d,h1,h2⟩:=hdr
 cases d <;> first
  | exact results_cell_row (P:=Tryd.prog) h tmps w g ty _ _ _ hp hg h1 rfl hi
  | exact absurd h2 (by simp [TypeDesc.isRow])
theorem exact_close {w base:World}{tmps:Array Value}{o:Option (Bool×Nat×Int)}{v x y z:Value}{lo:Nat}(h2:tmps.getD 2 undef=.pointer (some ⟨w.heap.size,0,none⟩))
 (hZ:Bl base w.heap.size 64 [x,y,z]) (hbw:Below w.heap.size w base) (hN:Nt lo base v (dX o)) (hlo:w.heap.size<lo) :
 bodyPost Tryd.prog Tryd.f25 (fun r w'=>∃ v,r=.returned (.agg #[.bool (dN o),v,.int .i64 (dE o)])∧Nt w.heap.size w' v (dX o)∧Below w.heap.size w w') .ret ⟨tmps,[]⟩
  (((base.setCell ⟨w.heap.size,0,none⟩ (.bool (dN o))).setCell ⟨w.heap.size,1,none⟩ v).setCell ⟨w.heap.size,2,none⟩ (.int .i64 (dE o))):=by
 have q:Bl (((base.setCell ⟨w.heap.size,0,none⟩ (.bool (dN o))).setCell ⟨w.heap.size,1,none⟩ v).setCell ⟨w.heap.size,2,none⟩ (.int .i64 (dE o))) w.heap.size 64 [.bool (dN o),v,.int .i64 (dE o)]:=((hZ.set 0 _).set 1 _).set 2 _;have hbut:But w.heap.size base (((base.setCell ⟨w.heap.size,0,none⟩ (.bool (dN o))).setCell ⟨w.heap.size,1,none⟩ v).setCell ⟨w.heap.size,2,none⟩ (.int .i64 (dE o))):=(((But.refl _ _).set 0 _).set 1 _).set 2 _;refine bodyPost_ret (v:=.agg #[.bool (dN o),v,.int .i64 (dE o)]) (row_result Tryd.results25 _ _ w.heap.size [.bool (dN o),v,.int .i64 (dE o)] h2 q Tryd.row_dyad (by rw [Tryd.size_dyad];rfl)) rfl ?_
 exact ⟨v,rfl,(hN.but7 hbut hlo).mono (by omega),But.below hbw hbut hbw.size (Nat.le_refl _)⟩
theorem exact_close2 {w base:World}{tmps:Array Value}{o:Option (Bool×Nat×Int)}{v x y z:Value}{lo:Nat}{ob:Obj}(h2:tmps.getD 2 undef=.pointer (some ⟨w.heap.size,0,none⟩))
 (hZ:Bl base w.heap.size 64 [x,y,z]) (hbw:Below w.heap.size w base) (hN:Nt lo base v (dX o)) (hlo:w.heap.size<lo) :
 bodyPost Tryd.prog Tryd.f25 (fun r w'=>∃ v,r=.returned (.agg #[.bool (dN o),v,.int .i64 (dE o)])∧Nt w.heap.size w' v (dX o)∧Below w.heap.size w w') .ret ⟨tmps,[]⟩
  ((((base.setCell ⟨w.heap.size,0,none⟩ (.bool (dN o))).setCell ⟨w.heap.size,1,none⟩ v).setCell ⟨w.heap.size,2,none⟩ (.int .i64 (dE o))).alloc ob):=by
 have q:Bl (((base.setCell ⟨w.heap.size,0,none⟩ (.bool (dN o))).setCell ⟨w.heap.size,1,none⟩ v).setCell ⟨w.heap.size,2,none⟩ (.int .i64 (dE o))) w.heap.size 64 [.bool (dN o),v,.int .i64 (dE o)]:=((hZ.set 0 _).set 1 _).set 2 _;have hbut:But w.heap.size base (((base.setCell ⟨w.heap.size,0,none⟩ (.bool (dN o))).setCell ⟨w.heap.size,1,none⟩ v).setCell ⟨w.heap.size,2,none⟩ (.int .i64 (dE o))):=(((But.refl _ _).set 0 _).set 1 _).set 2 _;have hW:=But.below hbw hbut hbw.size (Nat.le_refl _);refine bodyPost_ret (v:=.agg #[.bool (dN o),v,.int .i64 (dE o)]) (row_result Tryd.results25 _ _ w.heap.size [.bool (dN o),v,.int .i64 (dE o)] h2 (q.alloc ob) Tryd.row_dyad (by rw [Tryd.size_dyad];rfl)) rfl ?_
 exact ⟨v,rfl,((hN.but7 hbut hlo).mono (by omega)).below (bel_alloc _ _),hW.trans ((bel_alloc _ _).mono hW.size)⟩
theorem Exact7 (g:Nat) (V:Int) (s:Sp) (w:World) (hA:Acc7 w g V s) (hT:Tab w):Calls Tryd.prog 25 #[.pointer (some ⟨g,0,none⟩)] w fun r w' =>
 ∃ v,r=.returned (.agg #[.bool (dN (exV V)),v,.int .i64 (dE (exV V))])∧Nt w.heap.size w' v (dX (exV V))∧Below w.heap.size w w':=by
 obtain ⟨o,ho⟩:∃ o,o=exV V:=⟨_,rfl⟩;rw [←ho];obtain ⟨L,a1,a2,a3,a4,a5,a6⟩:=hA;have hnm:=neg7_val (val L) V a3 a4 a5;have HA:=qsd (ai a1 (ai a2 (ai a6.hd (ai hT (ai ho hnm)))));have hlt:=a6.lt;clear a1 a2 a3 a4 a5 a6 hT ho hnm;have HLT:=qsd hlt;clear hlt;obtain ⟨W1,hW1⟩:∃ W,W=w.alloc (.cells #[.bool false,.slice none 0 0,.int .i64 0] 64):=⟨_,rfl⟩
 have H1:Aside (Below w.heap.size w W1∧Bl W1 w.heap.size 64 [.bool false,.slice none 0 0,.int .i64 0]∧W1.heap.size=w.heap.size+1):=by
  subst hW1;exact ⟨bel_alloc _ _,Bl.new _ 64 [_,_,_],by simp⟩
 go_enter Tryd.func25,Tryd.ntmps25;go_wp2;rw [←hW1];clear hW1;have BB:Aside (Below W1.heap.size W1 W1.drew):=(Below.refl _ _).drew;have HH:Aside (∀ W:World,Below W1.heap.size W1 W→Hd W g L):=fun W h=>(HA.out.2.2.1.below H1.out.1 HLT.out (Nat.le_refl _)).below h (Nat.lt_of_lt_of_le HLT.out H1.out.1.size) (Nat.le_refl _)
 have HTT:Aside (∀ W:World,Below W1.heap.size W1 W→Tab W):=fun W h=>(HA.out.2.2.2.1.belows H1.out.1).belows h
 go_region_with (first
  | (go_at_call 42
     with_reducible refine (below_any g L _ HA.out.1 HA.out.2.1 (HH.out _ (by first | exact BB.out | exact BB.out.trans ((bel_alloc _ _).mono BB.out.size) | exact (bel_alloc _ _).drew))).mono ?_
     rintro r u ⟨rfl,rfl⟩)
  | (go_at_call 43
     with_reducible refine (size7_any L g _ HA.out.1 HA.out.2.1 (HH.out _ (by first | exact BB.out | exact BB.out.trans ((bel_alloc _ _).mono BB.out.size) | exact (bel_alloc _ _).drew))).mono ?_
     rintro r u ⟨b,cap,M,rfl,hM,hMv,hb⟩;have hu:Below W1.heap.size W1 u:=by first | exact BB.out.trans (hb.mono BB.out.size) | exact (BB.out.trans ((bel_alloc _ _).mono BB.out.size)).trans (hb.mono (by have:=BB.out.size;simp;omega)) | exact ((bel_alloc _ _).drew).trans (hb.mono (by simp))
     try have DZ:=qsd (ai (DZ.out.1.below hb DZ.out.1.lt) DZ.out.2)
     try have DZ:=qsd (ai ((Bl.new _ 64 [Value.bool false,Value.slice none 0 0,Value.int .i64 0]).below hb (by simp)) BB.out.size)
     try have DZ:=qsd (ai ((Bl.new W1 64 [Value.bool false,Value.slice none 0 0,Value.int .i64 0]).drew.below hb (by simp)) (Nat.le_refl W1.heap.size))
     have BB:=qsd hu;have HM:=qsd (ai hM (show mkS (neg7 (val L)) (val M) (-2148)=o by rw [HA.out.2.2.2.2.1,hMv,HA.out.2.2.2.2.2.1,HA.out.2.2.2.2.2.2];rfl))
     clear hM hMv hb hu)
  | (go_at_call 41
     with_reducible refine (Make_any (by first | exact HM.out.1 | exact HM.out.1.below (bel_alloc _ _)) (HTT.out _ (by first | exact BB.out | exact BB.out.trans ((bel_alloc _ _).mono BB.out.size) | exact (bel_alloc _ _).drew)) (neg7 (val L)) (-2148) (by decide) (by decide)).mono ?_
     rintro r u ⟨hD,hb⟩;rw [HM.out.2] at hD;obtain ⟨v,rfl,hN⟩:=hD
     try have DL:=qsd DZ.out.1.lt
     have hu:Below W1.heap.size W1 u:=by first | exact BB.out.trans (hb.mono BB.out.size) | exact (BB.out.trans ((bel_alloc _ _).mono BB.out.size)).trans (hb.mono (by have:=BB.out.size;simp;omega)) | exact ((bel_alloc _ _).drew).trans (hb.mono (by simp))
     try have DZ:=qsd (ai (DZ.out.1.below hb DZ.out.1.lt) DZ.out.2)
     try have DZ:=qsd (ai ((Bl.new _ 64 [Value.bool false,Value.slice none 0 0,Value.int .i64 0]).below hb (by simp)) BB.out.size)
     try have DZ:=qsd (ai ((Bl.new W1 64 [Value.bool false,Value.slice none 0 0,Value.int .i64 0]).drew.below hb (by simp)) (Nat.le_refl W1.heap.size))
     have hN2:=ai hN (hN.lo7 (k:=W1.heap.size) (by first | exact BB.out.size | (have:=BB.out.size;simp;omega)))
     obtain ⟨a,c,rfl,_⟩:=hN.arg (by
      refine Nat.le_trans ((ws_len_le _ 133).2 ?_) (by decide)
      have e:=HM.out.2;have hm:=val_lt M HM.out.1.wf;rw [←HM.out.1.len] at hm;rw [←e];refine Nat.lt_of_le_of_lt ?_ hm;unfold mkS dX
      split
      · exact Nat.zero_le _
      · split
        · exact Nat.zero_le _
        · exact Nat.div_le_self _ _)
     have HN:=qsd (ai hN2 hu);have Z:=qsd (H1.out.2.1.below hu (by have:=H1.out.2.2;omega))
     have z0:=Z.out.cell 0 _ rfl;have z1:=Z.out.cell 1 _ rfl;have z2:=Z.out.cell 2 _ rfl;have g0:=Z.out.frozen 0;have g1:=Z.out.frozen 1;have g2:=Z.out.frozen 2
     try have d0:=DZ.out.1.cell 0 _ rfl
     try have d1:=DZ.out.1.cell 1 _ rfl
     try have d2:=DZ.out.1.cell 2 _ rfl
     try have e0:=DZ.out.1.frozen 0
     try have e1:=DZ.out.1.frozen 1
     try have e2:=DZ.out.1.frozen 2
     have hlu:w.heap.size<u.heap.size:=Z.out.lt
     try have nx:=DZ.out.2.ne7 H1.out.2.2
     try have ny:=nx.symm
     clear hN hN2 hb hu))
 all_goals (
  clear HM HA HH HTT BB;go_wp2;have hW:Below w.heap.size w u:=H1.out.1.trans (HN.out.2.mono H1.out.1.size);have hlo:=HN.out.1.2;have hl1:=H1.out.2.2
  first
   | (with_reducible refine exact_close2 (x:=.bool false) (y:=.slice none 0 0) (z:=.int .i64 0) ?_ Z.out hW HN.out.1.1 (by omega)
      rfl)
   | (with_reducible refine exact_close (x:=.bool false) (y:=.slice none 0 0) (z:=.int .i64 0) ?_ (Bl.but Z.out ((((But.refl _ _).set 0 _).set 1 _).set 2 _) ny) (But.below hW ((((But.refl _ _).set 0 _).set 1 _).set 2 _) hW.size (by have:=DZ.out.2;omega)) (HN.out.1.1.but7 ((((But.refl _ _).set 0 _).set 1 _).set 2 _) (by first | exact DL.out | (simp;done) | (simp;omega))) (by omega)
      rfl))
end
section
open Go.RowKit
open Go.Proofs.YtaofncmoehebmaaDoor.B (f64bits f64frombits bw)
attribute [local go_sem] f64bits f64frombits
def kn (a:Int):Bool:=decide (0≤a)&&decide (a≤2)
def may (a b:Int):Bool:=kn a&&kn b
def ct (a:Int):Bool:=decide (0≤a)&&decide (a≤1099511627776)
theorem known_any (a:Int) (w:World):Calls Tryd.prog 44 #[.int .i64 a] w fun r w'=>r=.returned (.bool (kn a))∧w'=w:=by
 unfold kn
 by_cases h:0≤a
 · have hd:decide (0≤a)=true:=decide_eq_true h
   rw [hd];go_enter Tryd.func44,Tryd.ntmps44;go_wp2;go_ret;exact ⟨by first | rfl | simp,rfl⟩
 · have hd:decide (0≤a)=false:=decide_eq_false h
   rw [hd];go_enter Tryd.func44,Tryd.ntmps44;go_wp2;go_ret;exact ⟨by first | rfl | simp,rfl⟩
theorem countable_any (a:Int) (w:World):Calls Tryd.prog 66 #[.int .i64 a] w fun r w'=>r=.returned (.bool (ct a))∧w'=w:=by
 unfold ct
 by_cases h:0≤a
 · have hd:decide (0≤a)=true:=decide_eq_true h
   rw [hd];go_enter Tryd.func66,Tryd.ntmps66;go_wp2;go_ret;exact ⟨by first | rfl | simp,rfl⟩
 · have hd:decide (0≤a)=false:=decide_eq_false h
   rw [hd];go_enter Tryd.func66,Tryd.ntmps66;go_wp2;go_ret;exact ⟨by first | rfl | simp,rfl⟩
theorem May_any (a b:Int) (w:World):Calls Tryd.prog 26 #[.agg #[.int .i64 a,.int .i64 b]] w fun r w'=>r=.returned (.bool (may a b))∧Below w.heap.size w w':=by
 unfold may
 rcases ha:kn a with _|_
 · have H:=hid (fun w=>ha ▸ known_any a w)
   clear ha;go_enter Tryd.func26,Tryd.ntmps26
   go_wp2_with fail
   refine (H.out _).mono ?_;rintro r w1 ⟨rfl,rfl⟩;go_wp2;go_ret;exact ⟨rfl,(Below.refl _ _).alloc (Nat.le_refl _) _⟩
 · have H:=hid (fun w=>ha ▸ known_any a w)
   have H2:=hid (fun w=>known_any b w)
   obtain ⟨kb,hkb⟩:∃ k,kn b=k:=⟨_,rfl⟩;rw [hkb] at H2 ⊢;clear ha hkb;go_enter Tryd.func26,Tryd.ntmps26
   go_wp2_with fail
   refine (H.out _).mono ?_;rintro r w1 ⟨rfl,rfl⟩
   go_wp2_with fail
   refine (H2.out _).mono ?_;rintro r w1 ⟨rfl,rfl⟩;go_wp2;go_ret;exact ⟨by first | rfl | simp,(Below.refl _ _).alloc (Nat.le_refl _) _⟩
theorem mInf_up (w:World):Calls Tryd.prog 31 #[.int .i64 1] w fun r w'=>r=.returned (.float .f64 9218868437227405312)∧w'=w:=by
 go_enter Tryd.func31,Tryd.ntmps31;go_wp2;go_ret;exact ⟨rfl,rfl⟩
theorem mInf_down (w:World):Calls Tryd.prog 31 #[.int .i64 (-1)] w fun r w'=>r=.returned (.float .f64 18442240474082181120)∧w'=w:=by
 go_enter Tryd.func31,Tryd.ntmps31;go_wp2;go_ret;exact ⟨rfl,rfl⟩
theorem minusP_any (w:World):Calls Tryd.prog 30 #[.float .f64 0,.float .f64 13830554455654793216] w fun r w'=>r=.returned (.float .f64 9223372036854775808)∧w'=w:=by
 have h1:bits .andNot .u64 0 9223372036854775808=0:=by decide +kernel
 have h2:bits .and .u64 13830554455654793216 9223372036854775808=9223372036854775808:=by decide +kernel
 have h3:bits .or .u64 0 9223372036854775808=9223372036854775808:=by decide +kernel
 go_enter Tryd.func30,Tryd.ntmps30;go_wp2;go_ret;exact ⟨rfl,rfl⟩
open Go.RowKit
open Go.Proofs.YtaofncmoehebmaaDoor.B (f64bits f64frombits bw bcell)
attribute [local go_sem] f64bits f64frombits
def snd (n u d m p a:Int):Bool:=ct n&&ct u&&ct d&&(ct m&&ct p&&ct a)&&decide (n+u+d+m+p≤a)
theorem ct_true {n:Int}(h:ct n=true):0≤n∧n≤1099511627776:=by unfold ct at h;simpa using h
theorem ct_five {n u d m p:Int}(i:Nat) (hi:i<5) (h:ct ([n,u,d,m,p].getD i 0)=false) (a:Int):snd n u d m p a=false:=by
 unfold snd;obtain rfl|rfl|rfl|rfl|rfl:i=0∨i=1∨i=2∨i=3∨i=4:=by omega
 all_goals (simp at h;simp [h])
def ps (L:List Int) (i:Nat):Int:=(L.take i).sum
theorem ps_succ (L:List Int) (i:Nat) (h:i<L.length):ps L (i+1)=ps L i+L.getD i 0:=by
 unfold ps;rw [List.take_succ_eq_append_getElem h,List.sum_append,List.getD_eq_getElem?_getD,List.getElem?_eq_getElem h];simp
theorem sound_any (n u d m p a:Int) (w:World):Calls Tryd.prog 52 #[.agg #[.int .i64 n,.int .i64 u,.int .i64 d,.int .i64 m,.int .i64 p,.int .i64 a]] w fun r w'=>r=.returned (.bool (snd n u d m p a))∧Below w.heap.size w w':=by
 obtain ⟨L,hL⟩:∃ L:List Int,L=[n,u,d,m,p]:=⟨_,rfl⟩;have hlen:L.length=5:=by rw [hL];rfl
 have HL:=(qsd (ai hL hlen));obtain ⟨W,hW⟩:∃ W,W=(w.alloc (.cells #[.int .i64 n,.int .i64 u,.int .i64 d,.int .i64 m,.int .i64 p,.int .i64 a] 47)).alloc (.cells #[.int .i64 n,.int .i64 u,.int .i64 d,.int .i64 m,.int .i64 p] 114):=⟨_,rfl⟩
 have hcell:∀ i,i<5→W.cell? ⟨w.heap.size+1,i,none⟩=some (.int .i64 (L.getD i 0)):=by
  intro i hi;have h1:=heap_alloc_new (w.alloc (.cells #[.int .i64 n,.int .i64 u,.int .i64 d,.int .i64 m,.int .i64 p,.int .i64 a] 47)) (.cells #[.int .i64 n,.int .i64 u,.int .i64 d,.int .i64 m,.int .i64 p] 114);rw [←hW] at h1;simp only [World.size_alloc] at h1;subst hL;simp only [World.cell?,h1];obtain rfl|rfl|rfl|rfl|rfl:i=0∨i=1∨i=2∨i=3∨i=4:=by omega
  all_goals simp
 have ha5:W.cell? ⟨w.heap.size,5,none⟩=some (.int .i64 a):=by rw [hW];simp [go_sem]
 have hbel:Below w.heap.size w W:=by rw [hW];exact ((Below.refl _ _).alloc (Nat.le_refl _) _).alloc (by simp) _
 have HC:=(qsd (ai hcell (ai hbel (ai hW ha5))));clear hL hlen hcell hbel hW ha5;have HA:=hid (countable_any a);go_enter Tryd.func52,Tryd.ntmps52;go_wp2
 go_loopg [4,17] 5 (fun gk sv iv wr=>∃ i:Nat,gk+i=5∧sv=.int .i64 (ps L i)∧iv=.int .i64 (i:Nat)∧wr=W∧Aside (∀ j,j<i→ct (L.getD j 0)=true)∧0≤ps L i∧ps L i≤(i:Int)*1099511627776)
 case atStart=>exact ⟨0,rfl,rfl,rfl,by rw [HC.out.2.2.1],fun j hj=>absurd hj (by omega),by simp [ps],by simp [ps]⟩
 case round =>
  obtain ⟨i,hi,rfl,rfl,rfl,HT,hp0,hp1⟩:=hrel;obtain ⟨hcell,hbel,hW,ha5⟩:=HC.out
  by_cases hi5:i=5
  · obtain rfl:gk=0:=by omega
    subst hi5
    have hs:snd n u d m p a=(ct a&&decide (ps L 5≤a)):=by
     have h0:=HT.out 0 (by omega)
     have h1:=HT.out 1 (by omega)
     have h2:=HT.out 2 (by omega)
     have h3:=HT.out 3 (by omega)
     have h4:=HT.out 4 (by omega)
     have e:=HL.out.1;subst e;have e2:ps [n,u,d,m,p] 5=n+u+d+m+p:=by simp [ps];omega
     rw [e2];simp at h0 h1 h2 h3 h4;unfold snd;rw [h0,h1,h2,h3,h4];simp
    obtain ⟨q,hq⟩:∃ q,ps L 5=q:=⟨_,rfl⟩;rw [hq] at hp0 hp1 hs ⊢;have HS:=qsd hs;clear hcell hW hs hq
    rcases ha:ct a with _|_
    · rw [ha] at HA HS
      clear ha
      go_wp2_with fail
      refine (HA.out _).mono ?_;rintro r w1 ⟨rfl,rfl⟩;go_wp2;go_ret;exact ⟨by rw [HS.out];first | rfl | simp,hbel⟩
    · rw [ha] at HA HS
      clear ha
      go_wp2_with fail
      refine (HA.out _).mono ?_;rintro r w1 ⟨rfl,rfl⟩;go_wp2;go_ret;exact ⟨by rw [HS.out];first | rfl | simp,hbel⟩
  · have hil:i<5:=by omega
    have hci:=hcell i hil;have HK:=hid (countable_any (L.getD i 0));have hps:=ps_succ L i (by rw [HL.out.2];exact hil)
    obtain ⟨x,hx⟩:∃ x,L.getD i 0=x:=⟨_,rfl⟩;rw [hx] at hci HK hps
    rcases hc:ct x with _|_
    · rw [hc] at HK
      have HS:Aside (snd n u d m p a=false):=by
       have h1:=hc;rw [←hx,HL.out.1] at h1;exact ct_five i hil h1 a
      have HB:=qsd hbel;clear hcell hbel hW ha5 hps hx hc hi5 HC HL
      go_wp2_with fail
      refine (HK.out _).mono ?_;rintro r w1 ⟨rfl,rfl⟩;go_wp2;go_ret;exact ⟨by rw [HS.out];rfl,HB.out⟩
    · rw [hc] at HK
      have hb:=ct_true hc;obtain ⟨q,hq⟩:∃ q,ps L i=q:=⟨_,rfl⟩;obtain ⟨q2,hq2⟩:∃ q,ps L (i+1)=q:=⟨_,rfl⟩;rw [hq,hq2] at hps;rw [hq] at hp0 hp1 ⊢;have hq3:q+x=q2:=hps.symm
      have hq4:0≤q2∧q2≤((i:Int)+1)*1099511627776:=by
       have:((i:Int)+1)*1099511627776=(i:Int)*1099511627776+1099511627776:=by omega
       omega
      have hq5:q2≤9223372036854775807:=by omega
      have hq6:-9223372036854775808≤q2:=by omega
      have HR:=(qsd (ai hq2 (ai hq4 (ai hx (ai hc hq3)))));clear hcell hbel hW ha5 hps hx hc hi5 HC hq2 hq hp0 hp1 hb hq4
      go_wp2_with fail
      refine (HK.out _).mono ?_;rintro r w1 ⟨rfl,rfl⟩;go_wp2
      go_roundg (5-(i+1))
      case measure=>omega
      case rel =>
       obtain ⟨hq2,hq4,hx,hc,hq3⟩:=HR.out;refine ⟨i+1,by omega,?_,by first | go_num | (congr 1;omega),rfl,?_,by rw [hq2];exact hq4.1,by rw [hq2];have:=hq4.2;push_cast;exact this⟩
       · first | (rw [hq2];done) | (rw [hq2,←hq3];done)
       · intro j hj
         by_cases hji:j=i
         · subst hji;rw [hx];exact hc
         · exact HT.out j (by omega)
def vd (ok:Bool) (n u d a b:Int):Nat×Bool :=
 if ok=false then (0,false) else if 0<n∧a=0 then (9221120237041090560,true) else if ¬ b=0 then (0,false)
 else if 0<u∧0<d then (9221120237041090560,true) else if 0<u then (9218868437227405312,true) else if 0<d then (18442240474082181120,true) else (0,false)
def nt (ok:Bool) (n u d m p a mode:Int):Nat :=
 if ok=false then 0 else if a-n-u-d=0 then 0 else if m=a-n-u-d then 9223372036854775808 else if p=a-n-u-d then 0 else if mode=3 then 9223372036854775808 else 0
theorem snd_bd {n u d m p a:Int}(h:snd n u d m p a=true):(0≤n∧n≤1099511627776)∧(0≤u∧u≤1099511627776)∧(0≤d∧d≤1099511627776)∧(0≤a∧a≤1099511627776):=by
 unfold snd at h;simp only [Bool.and_eq_true] at h;exact ⟨ct_true h.1.1.1.1,ct_true h.1.1.1.2,ct_true h.1.1.2,ct_true h.1.2.2⟩
end
section
open Go.RowKit
open Go.Proofs.YtaofncmoehebmaaDoor.B (f64bits f64frombits bw bcell)
attribute [local go_sem] f64bits f64frombits
theorem Verdict_any (n u d m p l a b:Int) (w:World):Calls Tryd.prog 38 #[.agg #[.int .i64 n,.int .i64 u,.int .i64 d,.int .i64 m,.int .i64 p,.int .i64 l],.agg #[.int .i64 a,.int .i64 b]] w fun r w'=>r=.returned (.tuple #[.float .f64 (vd (snd n u d m p l&&may a b) n u d a b).1,.bool (vd (snd n u d m p l&&may a b) n u d a b).2])∧Below w.heap.size w w':=by
 have HS:=hid (sound_any n u d m p l);have HM:=hid (May_any a b);have HN:=hid (B.nan_any);have HU:=hid (mInf_up);have HD:=hid (mInf_down)
 rcases hs:snd n u d m p l with _|_
 · rw [hs] at HS
   rw [Bool.false_and];have hv:vd false n u d a b=(0,false):=by unfold vd;rw [if_pos rfl]
   rw [hv];clear hs hv;go_enter Tryd.func38,Tryd.ntmps38
   go_wp2_with fail
   refine (HS.out _).mono ?_;rintro r w1 ⟨rfl,hb1⟩;have hz1:=hb1.size;simp at hz1;obtain ⟨hc1,hf1⟩:=bcell hb1;have B1:=qsd hb1;clear hb1;go_wp2
   go_ret2
   exact ⟨by first | rfl | simp,(((Below.refl _ w).alloc (Nat.le_refl _) _).alloc (by simp) _).trans (B1.out.mono (by simp;omega))⟩
 rcases hm:may a b with _|_
 · rw [hs] at HS
   rw [hm] at HM;have hv:vd (true&&false) n u d a b=(0,false):=if_pos rfl;rw [hv];clear hs hm hv;go_enter Tryd.func38,Tryd.ntmps38
   go_wp2_with fail
   refine (HS.out _).mono ?_;rintro r w1 ⟨rfl,hb1⟩;have hz1:=hb1.size;simp at hz1;obtain ⟨hc1,hf1⟩:=bcell hb1;have B1:=qsd hb1;clear hb1
   go_wp2_with fail
   refine (HM.out _).mono ?_;rintro r w2 ⟨rfl,hb2⟩;have hz2:=hb2.size;obtain ⟨hc2,hf2⟩:=bcell hb2;have hc3:∀ b o,b<w.heap.size+1+1→w2.cell? ⟨b,o,none⟩=w1.cell? ⟨b,o,none⟩:=fun b o h=>hc2 b o (by omega)
   have B2:=qsd hb2;clear hb2 hc2 hf2;go_wp2
   go_ret2
   exact ⟨by first | rfl | simp,((((Below.refl _ w).alloc (Nat.le_refl _) _).alloc (by simp) _).trans (B1.out.mono (by simp;omega))).trans (B2.out.mono (by omega))⟩
 rw [hs] at HS;rw [hm] at HM;rw [Bool.true_and];clear hs hm
 have way1:0<n→a=0→Calls Tryd.prog 38 #[.agg #[.int .i64 n,.int .i64 u,.int .i64 d,.int .i64 m,.int .i64 p,.int .i64 l],.agg #[.int .i64 a,.int .i64 b]] w fun r w'=>r=.returned (.tuple #[.float .f64 (vd true n u d a b).1,.bool (vd true n u d a b).2])∧Below w.heap.size w w':=by
  intro p1 p2;have hv:vd true n u d a b=(9221120237041090560,true):=by unfold vd;rw [if_neg (by decide),if_pos ⟨p1,p2⟩]
  rw [hv];clear hv;have q1:0<n:=p1;have q2:a=0:=p2;subst q2;go_enter Tryd.func38,Tryd.ntmps38
  go_wp2_with fail
  refine (HS.out _).mono ?_;rintro r w1 ⟨rfl,hb1⟩;have hz1:=hb1.size;simp at hz1;obtain ⟨hc1,hf1⟩:=bcell hb1;have B1:=qsd hb1;clear hb1
  go_wp2_with fail
  refine (HM.out _).mono ?_;rintro r w2 ⟨rfl,hb2⟩;have hz2:=hb2.size;obtain ⟨hc2,hf2⟩:=bcell hb2;have hc3:∀ b o,b<w.heap.size+1+1→w2.cell? ⟨b,o,none⟩=w1.cell? ⟨b,o,none⟩:=fun b o h=>hc2 b o (by omega)
  have B2:=qsd hb2;clear hb2 hc2 hf2
  go_wp2_with fail
  refine (HN.out _).mono ?_;rintro r w3 ⟨rfl,rfl⟩;go_wp2
  go_ret2
  exact ⟨by first | rfl | simp,((((Below.refl _ w).alloc (Nat.le_refl _) _).alloc (by simp) _).trans (B1.out.mono (by simp;omega))).trans (B2.out.mono (by omega))⟩
 have way2:0<n→¬ (a=0)→¬ (b=0)→Calls Tryd.prog 38 #[.agg #[.int .i64 n,.int .i64 u,.int .i64 d,.int .i64 m,.int .i64 p,.int .i64 l],.agg #[.int .i64 a,.int .i64 b]] w fun r w'=>r=.returned (.tuple #[.float .f64 (vd true n u d a b).1,.bool (vd true n u d a b).2])∧Below w.heap.size w w':=by
  intro p1 p2 p3;have hv:vd true n u d a b=(0,false):=by unfold vd;rw [if_neg (by decide),if_neg (fun h=>p2 h.2),if_pos p3]
  rw [hv];clear hv;have q1:0<n:=p1;have q2:(a==0)=false:=by rw [beq_eq_false_iff_ne];exact p2
  have q3:(b==0)=false:=by rw [beq_eq_false_iff_ne];exact p3
  go_enter Tryd.func38,Tryd.ntmps38
  go_wp2_with fail
  refine (HS.out _).mono ?_;rintro r w1 ⟨rfl,hb1⟩;have hz1:=hb1.size;simp at hz1;obtain ⟨hc1,hf1⟩:=bcell hb1;have B1:=qsd hb1;clear hb1
  go_wp2_with fail
  refine (HM.out _).mono ?_;rintro r w2 ⟨rfl,hb2⟩;have hz2:=hb2.size;obtain ⟨hc2,hf2⟩:=bcell hb2;have hc3:∀ b o,b<w.heap.size+1+1→w2.cell? ⟨b,o,none⟩=w1.cell? ⟨b,o,none⟩:=fun b o h=>hc2 b o (by omega)
  have B2:=qsd hb2;clear hb2 hc2 hf2;go_wp2
  go_ret2
  exact ⟨by first | rfl | simp,((((Below.refl _ w).alloc (Nat.le_refl _) _).alloc (by simp) _).trans (B1.out.mono (by simp;omega))).trans (B2.out.mono (by omega))⟩
 have way3:0<n→¬ (a=0)→b=0→0<u→0<d→Calls Tryd.prog 38 #[.agg #[.int .i64 n,.int .i64 u,.int .i64 d,.int .i64 m,.int .i64 p,.int .i64 l],.agg #[.int .i64 a,.int .i64 b]] w fun r w'=>r=.returned (.tuple #[.float .f64 (vd true n u d a b).1,.bool (vd true n u d a b).2])∧Below w.heap.size w w':=by
  intro p1 p2 p3 p4 p5;have hv:vd true n u d a b=(9221120237041090560,true):=by unfold vd;rw [if_neg (by decide),if_neg (fun h=>p2 h.2),if_neg (not_not_intro p3),if_pos ⟨p4,p5⟩]
  rw [hv];clear hv;have q1:0<n:=p1;have q2:(a==0)=false:=by rw [beq_eq_false_iff_ne];exact p2
  have q3:b=0:=p3;have q4:0<u:=p4;have q5:0<d:=p5;subst q3;go_enter Tryd.func38,Tryd.ntmps38
  go_wp2_with fail
  refine (HS.out _).mono ?_;rintro r w1 ⟨rfl,hb1⟩;have hz1:=hb1.size;simp at hz1;obtain ⟨hc1,hf1⟩:=bcell hb1;have B1:=qsd hb1;clear hb1
  go_wp2_with fail
  refine (HM.out _).mono ?_;rintro r w2 ⟨rfl,hb2⟩;have hz2:=hb2.size;obtain ⟨hc2,hf2⟩:=bcell hb2;have hc3:∀ b o,b<w.heap.size+1+1→w2.cell? ⟨b,o,none⟩=w1.cell? ⟨b,o,none⟩:=fun b o h=>hc2 b o (by omega)
  have B2:=qsd hb2;clear hb2 hc2 hf2
  go_wp2_with fail
  refine (HN.out _).mono ?_;rintro r w3 ⟨rfl,rfl⟩;go_wp2
  go_ret2
  exact ⟨by first | rfl | simp,((((Below.refl _ w).alloc (Nat.le_refl _) _).alloc (by simp) _).trans (B1.out.mono (by simp;omega))).trans (B2.out.mono (by omega))⟩
 have way4:0<n→¬ (a=0)→b=0→0<u→¬ (0<d)→Calls Tryd.prog 38 #[.agg #[.int .i64 n,.int .i64 u,.int .i64 d,.int .i64 m,.int .i64 p,.int .i64 l],.agg #[.int .i64 a,.int .i64 b]] w fun r w'=>r=.returned (.tuple #[.float .f64 (vd true n u d a b).1,.bool (vd true n u d a b).2])∧Below w.heap.size w w':=by
  intro p1 p2 p3 p4 p5;have hv:vd true n u d a b=(9218868437227405312,true):=by unfold vd;rw [if_neg (by decide),if_neg (fun h=>p2 h.2),if_neg (not_not_intro p3),if_neg (fun h=>p5 h.2),if_pos p4]
  rw [hv];clear hv;have q1:0<n:=p1;have q2:(a==0)=false:=by rw [beq_eq_false_iff_ne];exact p2
  have q3:b=0:=p3;have q4:0<u:=p4;have q5:decide (0<d)=false:=decide_eq_false p5;subst q3;go_enter Tryd.func38,Tryd.ntmps38
  go_wp2_with fail
  refine (HS.out _).mono ?_;rintro r w1 ⟨rfl,hb1⟩;have hz1:=hb1.size;simp at hz1;obtain ⟨hc1,hf1⟩:=bcell hb1;have B1:=qsd hb1;clear hb1
  go_wp2_with fail
  refine (HM.out _).mono ?_;rintro r w2 ⟨rfl,hb2⟩;have hz2:=hb2.size;obtain ⟨hc2,hf2⟩:=bcell hb2;have hc3:∀ b o,b<w.heap.size+1+1→w2.cell? ⟨b,o,none⟩=w1.cell? ⟨b,o,none⟩:=fun b o h=>hc2 b o (by omega)
  have B2:=qsd hb2;clear hb2 hc2 hf2
  go_wp2_with fail
  refine (HU.out _).mono ?_;rintro r w3 ⟨rfl,rfl⟩;go_wp2
  go_ret2
  exact ⟨by first | rfl | simp,((((Below.refl _ w).alloc (Nat.le_refl _) _).alloc (by simp) _).trans (B1.out.mono (by simp;omega))).trans (B2.out.mono (by omega))⟩
 have way5:0<n→¬ (a=0)→b=0→¬ (0<u)→0<d→Calls Tryd.prog 38 #[.agg #[.int .i64 n,.int .i64 u,.int .i64 d,.int .i64 m,.int .i64 p,.int .i64 l],.agg #[.int .i64 a,.int .i64 b]] w fun r w'=>r=.returned (.tuple #[.float .f64 (vd true n u d a b).1,.bool (vd true n u d a b).2])∧Below w.heap.size w w':=by
  intro p1 p2 p3 p4 p5;have hv:vd true n u d a b=(18442240474082181120,true):=by unfold vd;rw [if_neg (by decide),if_neg (fun h=>p2 h.2),if_neg (not_not_intro p3),if_neg (fun h=>p4 h.1),if_neg p4,if_pos p5]
  rw [hv];clear hv;have q1:0<n:=p1;have q2:(a==0)=false:=by rw [beq_eq_false_iff_ne];exact p2
  have q3:b=0:=p3;have q4:decide (0<u)=false:=decide_eq_false p4;have q5:0<d:=p5;subst q3;go_enter Tryd.func38,Tryd.ntmps38
  go_wp2_with fail
  refine (HS.out _).mono ?_;rintro r w1 ⟨rfl,hb1⟩;have hz1:=hb1.size;simp at hz1;obtain ⟨hc1,hf1⟩:=bcell hb1;have B1:=qsd hb1;clear hb1
  go_wp2_with fail
  refine (HM.out _).mono ?_;rintro r w2 ⟨rfl,hb2⟩;have hz2:=hb2.size;obtain ⟨hc2,hf2⟩:=bcell hb2;have hc3:∀ b o,b<w.heap.size+1+1→w2.cell? ⟨b,o,none⟩=w1.cell? ⟨b,o,none⟩:=fun b o h=>hc2 b o (by omega)
  have B2:=qsd hb2;clear hb2 hc2 hf2
  go_wp2_with fail
  refine (HD.out _).mono ?_;rintro r w3 ⟨rfl,rfl⟩;go_wp2
  go_ret2
  exact ⟨by first | rfl | simp,((((Below.refl _ w).alloc (Nat.le_refl _) _).alloc (by simp) _).trans (B1.out.mono (by simp;omega))).trans (B2.out.mono (by omega))⟩
 have way6:0<n→¬ (a=0)→b=0→¬ (0<u)→¬ (0<d)→Calls Tryd.prog 38 #[.agg #[.int .i64 n,.int .i64 u,.int .i64 d,.int .i64 m,.int .i64 p,.int .i64 l],.agg #[.int .i64 a,.int .i64 b]] w fun r w'=>r=.returned (.tuple #[.float .f64 (vd true n u d a b).1,.bool (vd true n u d a b).2])∧Below w.heap.size w w':=by
  intro p1 p2 p3 p4 p5;have hv:vd true n u d a b=(0,false):=by unfold vd;rw [if_neg (by decide),if_neg (fun h=>p2 h.2),if_neg (not_not_intro p3),if_neg (fun h=>p4 h.1),if_neg p4,if_neg p5]
  rw [hv];clear hv;have q1:0<n:=p1;have q2:(a==0)=false:=by rw [beq_eq_false_iff_ne];exact p2
  have q3:b=0:=p3;have q4:decide (0<u)=false:=decide_eq_false p4;have q5:decide (0<d)=false:=decide_eq_false p5;subst q3;go_enter Tryd.func38,Tryd.ntmps38
  go_wp2_with fail
  refine (HS.out _).mono ?_;rintro r w1 ⟨rfl,hb1⟩;have hz1:=hb1.size;simp at hz1;obtain ⟨hc1,hf1⟩:=bcell hb1;have B1:=qsd hb1;clear hb1
  go_wp2_with fail
  refine (HM.out _).mono ?_;rintro r w2 ⟨rfl,hb2⟩;have hz2:=hb2.size;obtain ⟨hc2,hf2⟩:=bcell hb2;have hc3:∀ b o,b<w.heap.size+1+1→w2.cell? ⟨b,o,none⟩=w1.cell? ⟨b,o,none⟩:=fun b o h=>hc2 b o (by omega)
  have B2:=qsd hb2;clear hb2 hc2 hf2;go_wp2
  go_ret2
  exact ⟨by first | rfl | simp,((((Below.refl _ w).alloc (Nat.le_refl _) _).alloc (by simp) _).trans (B1.out.mono (by simp;omega))).trans (B2.out.mono (by omega))⟩
 have way7:¬ (0<n)→¬ (b=0)→Calls Tryd.prog 38 #[.agg #[.int .i64 n,.int .i64 u,.int .i64 d,.int .i64 m,.int .i64 p,.int .i64 l],.agg #[.int .i64 a,.int .i64 b]] w fun r w'=>r=.returned (.tuple #[.float .f64 (vd true n u d a b).1,.bool (vd true n u d a b).2])∧Below w.heap.size w w':=by
  intro p1 p3;have hv:vd true n u d a b=(0,false):=by unfold vd;rw [if_neg (by decide),if_neg (fun h=>p1 h.1),if_pos p3]
  rw [hv];clear hv;have q1:decide (0<n)=false:=decide_eq_false p1;have q3:(b==0)=false:=by rw [beq_eq_false_iff_ne];exact p3
  go_enter Tryd.func38,Tryd.ntmps38
  go_wp2_with fail
  refine (HS.out _).mono ?_;rintro r w1 ⟨rfl,hb1⟩;have hz1:=hb1.size;simp at hz1;obtain ⟨hc1,hf1⟩:=bcell hb1;have B1:=qsd hb1;clear hb1
  go_wp2_with fail
  refine (HM.out _).mono ?_;rintro r w2 ⟨rfl,hb2⟩;have hz2:=hb2.size;obtain ⟨hc2,hf2⟩:=bcell hb2;have hc3:∀ b o,b<w.heap.size+1+1→w2.cell? ⟨b,o,none⟩=w1.cell? ⟨b,o,none⟩:=fun b o h=>hc2 b o (by omega)
  have B2:=qsd hb2;clear hb2 hc2 hf2;go_wp2
  go_ret2
  exact ⟨by first | rfl | simp,((((Below.refl _ w).alloc (Nat.le_refl _) _).alloc (by simp) _).trans (B1.out.mono (by simp;omega))).trans (B2.out.mono (by omega))⟩
 have way8:¬ (0<n)→b=0→0<u→0<d→Calls Tryd.prog 38 #[.agg #[.int .i64 n,.int .i64 u,.int .i64 d,.int .i64 m,.int .i64 p,.int .i64 l],.agg #[.int .i64 a,.int .i64 b]] w fun r w'=>r=.returned (.tuple #[.float .f64 (vd true n u d a b).1,.bool (vd true n u d a b).2])∧Below w.heap.size w w':=by
  intro p1 p3 p4 p5;have hv:vd true n u d a b=(9221120237041090560,true):=by unfold vd;rw [if_neg (by decide),if_neg (fun h=>p1 h.1),if_neg (not_not_intro p3),if_pos ⟨p4,p5⟩]
  rw [hv];clear hv;have q1:decide (0<n)=false:=decide_eq_false p1;have q3:b=0:=p3;have q4:0<u:=p4;have q5:0<d:=p5;subst q3;go_enter Tryd.func38,Tryd.ntmps38
  go_wp2_with fail
  refine (HS.out _).mono ?_;rintro r w1 ⟨rfl,hb1⟩;have hz1:=hb1.size;simp at hz1;obtain ⟨hc1,hf1⟩:=bcell hb1;have B1:=qsd hb1;clear hb1
  go_wp2_with fail
  refine (HM.out _).mono ?_;rintro r w2 ⟨rfl,hb2⟩;have hz2:=hb2.size;obtain ⟨hc2,hf2⟩:=bcell hb2;have hc3:∀ b o,b<w.heap.size+1+1→w2.cell? ⟨b,o,none⟩=w1.cell? ⟨b,o,none⟩:=fun b o h=>hc2 b o (by omega)
  have B2:=qsd hb2;clear hb2 hc2 hf2
  go_wp2_with fail
  refine (HN.out _).mono ?_;rintro r w3 ⟨rfl,rfl⟩;go_wp2
  go_ret2
  exact ⟨by first | rfl | simp,((((Below.refl _ w).alloc (Nat.le_refl _) _).alloc (by simp) _).trans (B1.out.mono (by simp;omega))).trans (B2.out.mono (by omega))⟩
 have way9:¬ (0<n)→b=0→0<u→¬ (0<d)→Calls Tryd.prog 38 #[.agg #[.int .i64 n,.int .i64 u,.int .i64 d,.int .i64 m,.int .i64 p,.int .i64 l],.agg #[.int .i64 a,.int .i64 b]] w fun r w'=>r=.returned (.tuple #[.float .f64 (vd true n u d a b).1,.bool (vd true n u d a b).2])∧Below w.heap.size w w':=by
  intro p1 p3 p4 p5;have hv:vd true n u d a b=(9218868437227405312,true):=by unfold vd;rw [if_neg (by decide),if_neg (fun h=>p1 h.1),if_neg (not_not_intro p3),if_neg (fun h=>p5 h.2),if_pos p4]
  rw [hv];clear hv;have q1:decide (0<n)=false:=decide_eq_false p1;have q3:b=0:=p3;have q4:0<u:=p4;have q5:decide (0<d)=false:=decide_eq_false p5;subst q3;go_enter Tryd.func38,Tryd.ntmps38
  go_wp2_with fail
  refine (HS.out _).mono ?_;rintro r w1 ⟨rfl,hb1⟩;have hz1:=hb1.size;simp at hz1;obtain ⟨hc1,hf1⟩:=bcell hb1;have B1:=qsd hb1;clear hb1
  go_wp2_with fail
  refine (HM.out _).mono ?_;rintro r w2 ⟨rfl,hb2⟩;have hz2:=hb2.size;obtain ⟨hc2,hf2⟩:=bcell hb2;have hc3:∀ b o,b<w.heap.size+1+1→w2.cell? ⟨b,o,none⟩=w1.cell? ⟨b,o,none⟩:=fun b o h=>hc2 b o (by omega)
  have B2:=qsd hb2;clear hb2 hc2 hf2
  go_wp2_with fail
  refine (HU.out _).mono ?_;rintro r w3 ⟨rfl,rfl⟩;go_wp2
  go_ret2
  exact ⟨by first | rfl | simp,((((Below.refl _ w).alloc (Nat.le_refl _) _).alloc (by simp) _).trans (B1.out.mono (by simp;omega))).trans (B2.out.mono (by omega))⟩
 have way10:¬ (0<n)→b=0→¬ (0<u)→0<d→Calls Tryd.prog 38 #[.agg #[.int .i64 n,.int .i64 u,.int .i64 d,.int .i64 m,.int .i64 p,.int .i64 l],.agg #[.int .i64 a,.int .i64 b]] w fun r w'=>r=.returned (.tuple #[.float .f64 (vd true n u d a b).1,.bool (vd true n u d a b).2])∧Below w.heap.size w w':=by
  intro p1 p3 p4 p5;have hv:vd true n u d a b=(18442240474082181120,true):=by unfold vd;rw [if_neg (by decide),if_neg (fun h=>p1 h.1),if_neg (not_not_intro p3),if_neg (fun h=>p4 h.1),if_neg p4,if_pos p5]
  rw [hv];clear hv;have q1:decide (0<n)=false:=decide_eq_false p1;have q3:b=0:=p3;have q4:decide (0<u)=false:=decide_eq_false p4;have q5:0<d:=p5;subst q3;go_enter Tryd.func38,Tryd.ntmps38
  go_wp2_with fail
  refine (HS.out _).mono ?_;rintro r w1 ⟨rfl,hb1⟩;have hz1:=hb1.size;simp at hz1;obtain ⟨hc1,hf1⟩:=bcell hb1;have B1:=qsd hb1;clear hb1
  go_wp2_with fail
  refine (HM.out _).mono ?_;rintro r w2 ⟨rfl,hb2⟩;have hz2:=hb2.size;obtain ⟨hc2,hf2⟩:=bcell hb2;have hc3:∀ b o,b<w.heap.size+1+1→w2.cell? ⟨b,o,none⟩=w1.cell? ⟨b,o,none⟩:=fun b o h=>hc2 b o (by omega)
  have B2:=qsd hb2;clear hb2 hc2 hf2
  go_wp2_with fail
  refine (HD.out _).mono ?_;rintro r w3 ⟨rfl,rfl⟩;go_wp2
  go_ret2
  exact ⟨by first | rfl | simp,((((Below.refl _ w).alloc (Nat.le_refl _) _).alloc (by simp) _).trans (B1.out.mono (by simp;omega))).trans (B2.out.mono (by omega))⟩
 have way11:¬ (0<n)→b=0→¬ (0<u)→¬ (0<d)→Calls Tryd.prog 38 #[.agg #[.int .i64 n,.int .i64 u,.int .i64 d,.int .i64 m,.int .i64 p,.int .i64 l],.agg #[.int .i64 a,.int .i64 b]] w fun r w'=>r=.returned (.tuple #[.float .f64 (vd true n u d a b).1,.bool (vd true n u d a b).2])∧Below w.heap.size w w':=by
  intro p1 p3 p4 p5;have hv:vd true n u d a b=(0,false):=by unfold vd;rw [if_neg (by decide),if_neg (fun h=>p1 h.1),if_neg (not_not_intro p3),if_neg (fun h=>p4 h.1),if_neg p4,if_neg p5]
  rw [hv];clear hv;have q1:decide (0<n)=false:=decide_eq_false p1;have q3:b=0:=p3;have q4:decide (0<u)=false:=decide_eq_false p4;have q5:decide (0<d)=false:=decide_eq_false p5;subst q3;go_enter Tryd.func38,Tryd.ntmps38
  go_wp2_with fail
  refine (HS.out _).mono ?_;rintro r w1 ⟨rfl,hb1⟩;have hz1:=hb1.size;simp at hz1;obtain ⟨hc1,hf1⟩:=bcell hb1;have B1:=qsd hb1;clear hb1
  go_wp2_with fail
  refine (HM.out _).mono ?_;rintro r w2 ⟨rfl,hb2⟩;have hz2:=hb2.size;obtain ⟨hc2,hf2⟩:=bcell hb2;have hc3:∀ b o,b<w.heap.size+1+1→w2.cell? ⟨b,o,none⟩=w1.cell? ⟨b,o,none⟩:=fun b o h=>hc2 b o (by omega)
  have B2:=qsd hb2;clear hb2 hc2 hf2;go_wp2
  go_ret2
  exact ⟨by first | rfl | simp,((((Below.refl _ w).alloc (Nat.le_refl _) _).alloc (by simp) _).trans (B1.out.mono (by simp;omega))).trans (B2.out.mono (by omega))⟩
 by_cases p1:0<n
 · by_cases p2:a=0
   · exact way1 p1 p2
   · by_cases p3:b=0
     · by_cases p4:0<u <;> by_cases p5:0<d
       · exact way3 p1 p2 p3 p4 p5
       · exact way4 p1 p2 p3 p4 p5
       · exact way5 p1 p2 p3 p4 p5
       · exact way6 p1 p2 p3 p4 p5
     · exact way2 p1 p2 p3
 · by_cases p3:b=0
   · by_cases p4:0<u <;> by_cases p5:0<d
     · exact way8 p1 p3 p4 p5
     · exact way9 p1 p3 p4 p5
     · exact way10 p1 p3 p4 p5
     · exact way11 p1 p3 p4 p5
   · exact way7 p1 p3
end
section
open Go.RowKit
open Go.Proofs.YtaofncmoehebmaaDoor.B (f64bits f64frombits bw bcell)
attribute [local go_sem] f64bits f64frombits
theorem Nought_any (n u d m p l mode:Int) (w:World):Calls Tryd.prog 39 #[.agg #[.int .i64 n,.int .i64 u,.int .i64 d,.int .i64 m,.int .i64 p,.int .i64 l],.int .i64 mode] w fun r w'=>r=.returned (.float .f64 (nt (snd n u d m p l) n u d m p l mode))∧Below w.heap.size w w':=by
 have HS:=hid (sound_any n u d m p l);have HM:=hid (minusP_any)
 rcases hs:snd n u d m p l with _|_
 · rw [hs] at HS
   have hv:nt false n u d m p l mode=0:=if_pos rfl;rw [hv];clear hs hv;go_enter Tryd.func39,Tryd.ntmps39
   go_wp2_with fail
   refine (HS.out _).mono ?_;rintro r w1 ⟨rfl,hb1⟩;have hz1:=hb1.size;simp at hz1;obtain ⟨hc1,hf1⟩:=bcell hb1;have B1:=qsd hb1;clear hb1;go_wp2;go_ret;exact ⟨by first | rfl | simp,((Below.refl _ w).alloc (Nat.le_refl _) _).trans (B1.out.mono (by simp))⟩
 have bd:=snd_bd hs;rw [hs] at HS;obtain ⟨f,hf⟩:∃ f,l-n-u-d=f:=⟨_,rfl⟩;have hfb:-9223372036854775808≤f∧f≤9223372036854775807:=by omega
 have hb1:0≤n∧n≤1099511627776:=bd.1;have hb2:0≤u∧u≤1099511627776:=bd.2.1;have hb3:0≤d∧d≤1099511627776:=bd.2.2.1;have hb4:0≤l∧l≤1099511627776:=bd.2.2.2;unfold nt;rw [if_neg (by decide),hf]
 clear hs bd
 by_cases p1:f=0
 · rw [if_pos p1]
   have q1:(f==0)=true:=by rw [beq_iff_eq];exact p1
   clear p1;go_enter Tryd.func39,Tryd.ntmps39
   go_wp2_with fail
   refine (HS.out _).mono ?_;rintro r w1 ⟨rfl,hb1⟩;have hz1:=hb1.size;simp at hz1;obtain ⟨hc1,hf1⟩:=bcell hb1;have B1:=qsd hb1;clear hb1
   go_wp2_with fail
   refine (HM.out _).mono ?_;rintro r w3 ⟨rfl,rfl⟩;go_wp2;go_ret;exact ⟨by first | rfl | simp,((Below.refl _ w).alloc (Nat.le_refl _) _).trans (B1.out.mono (by simp))⟩
 rw [if_neg p1];have q1:(f==0)=false:=by rw [beq_eq_false_iff_ne];exact p1
 clear p1
 by_cases p2:m=f
 · rw [if_pos p2]
   have q2:(m==f)=true:=by rw [beq_iff_eq];exact p2
   clear p2;go_enter Tryd.func39,Tryd.ntmps39
   go_wp2_with fail
   refine (HS.out _).mono ?_;rintro r w1 ⟨rfl,hb1⟩;have hz1:=hb1.size;simp at hz1;obtain ⟨hc1,hf1⟩:=bcell hb1;have B1:=qsd hb1;clear hb1
   go_wp2_with fail
   refine (HM.out _).mono ?_;rintro r w3 ⟨rfl,rfl⟩;go_wp2;go_ret;exact ⟨by first | rfl | simp,((Below.refl _ w).alloc (Nat.le_refl _) _).trans (B1.out.mono (by simp))⟩
 rw [if_neg p2];have q2:(m==f)=false:=by rw [beq_eq_false_iff_ne];exact p2
 clear p2
 by_cases p3:p=f
 · rw [if_pos p3]
   have q3:(p==f)=true:=by rw [beq_iff_eq];exact p3
   clear p3;go_enter Tryd.func39,Tryd.ntmps39
   go_wp2_with fail
   refine (HS.out _).mono ?_;rintro r w1 ⟨rfl,hb1⟩;have hz1:=hb1.size;simp at hz1;obtain ⟨hc1,hf1⟩:=bcell hb1;have B1:=qsd hb1;clear hb1
   go_wp2_with fail
   refine (HM.out _).mono ?_;rintro r w3 ⟨rfl,rfl⟩;go_wp2;go_ret;exact ⟨by first | rfl | simp,((Below.refl _ w).alloc (Nat.le_refl _) _).trans (B1.out.mono (by simp))⟩
 rw [if_neg p3];have q3:(p==f)=false:=by rw [beq_eq_false_iff_ne];exact p3
 clear p3
 by_cases p4:mode=3
 · rw [if_pos p4]
   subst p4;go_enter Tryd.func39,Tryd.ntmps39
   go_wp2_with fail
   refine (HS.out _).mono ?_;rintro r w1 ⟨rfl,hb1⟩;have hz1:=hb1.size;simp at hz1;obtain ⟨hc1,hf1⟩:=bcell hb1;have B1:=qsd hb1;clear hb1
   go_wp2_with fail
   refine (HM.out _).mono ?_;rintro r w3 ⟨rfl,rfl⟩;go_wp2;go_ret;exact ⟨by first | rfl | simp,((Below.refl _ w).alloc (Nat.le_refl _) _).trans (B1.out.mono (by simp))⟩
 · rw [if_neg p4]
   have q4:(mode==3)=false:=by rw [beq_eq_false_iff_ne];exact p4
   clear p4;go_enter Tryd.func39,Tryd.ntmps39
   go_wp2_with fail
   refine (HS.out _).mono ?_;rintro r w1 ⟨rfl,hb1⟩;have hz1:=hb1.size;simp at hz1;obtain ⟨hc1,hf1⟩:=bcell hb1;have B1:=qsd hb1;clear hb1
   go_wp2_with fail
   refine (HM.out _).mono ?_;rintro r w3 ⟨rfl,rfl⟩;go_wp2;go_ret;exact ⟨by first | rfl | simp,((Below.refl _ w).alloc (Nat.le_refl _) _).trans (B1.out.mono (by simp))⟩
end
section
open Go.RowKit
def ahd (V:Int) (s:Sp) (mode a b:Int):Nat×Bool×Int :=
 if (vd (snd s.n s.u s.d s.m s.p s.a&&may a b) s.n s.u s.d a b).2 then ((vd (snd s.n s.u s.d s.m s.p s.a&&may a b) s.n s.u s.d a b).1,true,0)
 else if V=0 then (nt (snd s.n s.u s.d s.m s.p s.a) s.n s.u s.d s.m s.p s.a mode,true,0) else (0,false,0)
theorem zero_words (L:List Nat) (V:Int) (hl:L.length=133) (hL:Wf L) (hv:(val L:Int)=V%(PB:Int)) (h0:-(HB:Int)<V) (h1:V<(HB:Int)):decide (L=List.replicate 133 0)=decide (V=0):=by
 rw [decide_eq_decide];have e:=PB_HB
 constructor
 · intro h
   rw [h,val_zeros] at hv;have h2:=Int.emod_emod_of_dvd V (Int.dvd_refl (PB:Int));have h3:(PB:Int) ∣ V:=Int.dvd_of_emod_eq_zero (by simpa using hv.symm)
   obtain ⟨k,hk⟩:=h3
   by_cases hk0:k=0
   · rw [hk,hk0];simp
   · have hp:=HB_pos
     have:(PB:Int)≤V∨V≤-(PB:Int):=by
      rcases Int.lt_or_gt_of_ne hk0 with h|h
      · right
        have:(PB:Int)*k≤(PB:Int)*(-1):=Int.mul_le_mul_of_nonneg_left (by omega) (by omega)
        omega
      · left
        have:(PB:Int)*1≤(PB:Int)*k:=Int.mul_le_mul_of_nonneg_left (by omega) (by omega)
        omega
     omega
 · rintro rfl
   refine val_inj (by simp [hl]) hL (Wf.zeros 133) ?_
   rw [val_zeros];simpa using hv
end
section
open Go.RowKit
def rd7 (V:Int) (s:Sp) (mode a b:Int):Nat×Int :=
 if (ahd V s mode a b).2.1 then ((ahd V s mode a b).1,0) else rndS (mkS (dN (exV V)) (dX (exV V)) (dE (exV V))) mode
theorem ahd_er (V:Int) (s:Sp) (mode a b:Int):(ahd V s mode a b).2.2=0:=by
 unfold ahd
 split
 · rfl
 · split <;> rfl
theorem dX_small {V:Int}(h0:-(HB:Int)<V) (h1:V<(HB:Int)):(ws (dX (exV V))).length≤133:=by
 refine (ws_len_le _ 133).2 ?_;have e:pw 133=PB:=by unfold PB;rfl
 rw [e];have hp:=PB_HB;have hq:=HB_pos;refine Nat.lt_of_le_of_lt (m:=V.natAbs) ?_ (by omega)
 unfold exV mkS dX
 split
 · exact Nat.zero_le _
 · split
   · exact Nat.zero_le _
   · exact Nat.div_le_self _ _
theorem dE_small (V:Int):-9223372036854775808≤dE (exV V)∧dE (exV V)≤9223372036854775807:=by
 unfold exV mkS dE
 split
 · simp
 · split
   · simp
   · next h=>simp only [Option.getD_some];omega
end
section
open Go.RowKit
theorem Tryd.zero_acc:Tryd.zeroCells49=((List.replicate 133 0).map U++Sp.cells ⟨0,0,0,0,0,0⟩).toArray:=by kernel_rfl
theorem zero_acc7 {w:World}{g:Nat}(h:Bl w g 49 ((List.replicate 133 0).map U++Sp.cells ⟨0,0,0,0,0,0⟩)):Acc7 w g 0 ⟨0,0,0,0,0,0⟩ :=
 ⟨List.replicate 133 0,by simp,Wf.zeros 133,by rw [val_zeros];simp,by have:=HB_pos;omega,by have:=HB_pos;omega,h⟩
theorem New7 (w:World):Calls Tryd.prog 6 #[] w fun r w'=>r=.returned (.pointer (some ⟨w.heap.size,0,none⟩))∧Acc7 w' w.heap.size 0 ⟨0,0,0,0,0,0⟩∧Below w.heap.size w w':=by
 go_enter Tryd.func6,Tryd.ntmps6;go_wp2;go_ret;refine ⟨rfl,?_,bel_alloc _ _⟩;rw [Tryd.zero_acc];exact zero_acc7 (Bl.new _ _ _)
end
section
open Go.RowKit
def QB:Nat:=HB/4398046511104
theorem QB_HB:HB=4398046511104*QB:=by
 obtain ⟨k,hk⟩:∃ k,k=4238:=⟨_,rfl⟩;obtain ⟨j,hj⟩:∃ j,j=4196:=⟨_,rfl⟩;unfold QB;rw [HB_two k hk,show k=42+j by omega,Nat.pow_add]
 have e:(2:Nat)^42=4398046511104:=by decide
 rw [e,Nat.mul_div_cancel_left _ (by decide)]
theorem QB_pos:0<QB:=by have:=QB_HB;have:=HB_pos;omega
theorem pT_small (x y:Nat) (hx:x<18446744073709551616) (hy:y<18446744073709551616):-(QB:Int)≤pT x y∧pT x y≤(QB:Int):=by
 have hp:=QB_pos
 have e2:∃ j,j=4196∧QB=2^j:=by
  obtain ⟨k,hk⟩:∃ k,k=4238:=⟨_,rfl⟩;obtain ⟨j,hj⟩:∃ j,j=4196:=⟨_,rfl⟩;refine ⟨j,hj,?_⟩;unfold QB;rw [HB_two k hk,show k=42+j by omega,Nat.pow_add]
  have e:(2:Nat)^42=4398046511104:=by decide
  rw [e,Nat.mul_div_cancel_left _ (by decide)]
 obtain ⟨j,hj,hq⟩:=e2;unfold pT pv7
 split
 · have f1:=fr_bound (eW x) (fW x) (bw_parts x hx).2.2
   have f2:=fr_bound (eW y) (fW y) (bw_parts y hy).2.2;have x1:=xp_bound (eW x) (bw_parts x hx).2.1;have x2:=xp_bound (eW y) (bw_parts y hy).2.1
   have h1:frW x*frW y<2^106:=by
    have:frW x*frW y≤9007199254740991*9007199254740991:=Nat.mul_le_mul (by unfold frW;omega) (by unfold frW;omega)
    exact Nat.lt_of_le_of_lt this (by decide)
   have h3:frW x*frW y*2^(xpW x+xpW y+2148).toNat<QB:=by
    rw [hq];refine Nat.lt_of_lt_of_le (Nat.mul_lt_mul_of_pos_right h1 (Nat.two_pow_pos _)) ?_;rw [←Nat.pow_add];exact Nat.pow_le_pow_right (by decide) (by unfold xpW;omega)
   have:=sgn_bound (!ngW x==ngW y) _ _ h3;omega
 · constructor <;> omega
def Sp.pos (s:Sp):Prop:=0≤s.n∧0≤s.u∧0≤s.d∧0≤s.m∧0≤s.p∧s.n+s.u+s.d+s.m+s.p≤s.a
theorem Sp.pos.cnt {s:Sp}(h:s.pos) (k:Nat) (hk:k≤5):(s.cnt k 1).pos:=by
 obtain ⟨h0,h1,h2,h3,h4,h5⟩:=h;have hc:k=0∨k=1∨k=2∨k=3∨k=4∨k=5:=by omega
 rcases hc with rfl|rfl|rfl|rfl|rfl|rfl <;> (unfold Sp.pos Sp.cnt;simp;omega)
theorem Sp.pos.ok {s:Sp}(h:s.pos) (ha:s.a≤4398046511104):s.ok:=by
 obtain ⟨h0,h1,h2,h3,h4,h5⟩:=h;unfold Sp.ok;omega
theorem cnt_a (s:Sp) (k:Nat) (c:Int):(s.cnt k c).a=s.a+c:=rfl
theorem put_ok (V:Int) (s:Sp) (k:Nat) (T:Int) (h0:-(HB:Int)<V+T) (h1:V+T<(HB:Int)) (ha:s.a<1099511627776):putS V s k T=(0,V+T,s.cnt k 1):=by
 unfold putS step7;rw [if_neg (by omega),if_pos ⟨h0,h1⟩]
end
section
open Go.RowKit
def vS (l:List Nat):Int:=l.foldl (fun v x=>v+pT x 4607182418800017408) 0
def sS (l:List Nat):Sp:=l.foldl (fun s x=>s.cnt (pK x 4607182418800017408) 1) ⟨0,0,0,0,0,0⟩
theorem take_snoc10 (l:List Nat) (k:Nat) (h:k<l.length):l.take (k+1)=l.take k++[l.getD k 0]:=by
 rw [List.take_succ_eq_append_getElem h,List.getD_eq_getElem?_getD,List.getElem?_eq_getElem h];rfl
theorem vS_take (l:List Nat) (k:Nat) (h:k<l.length):vS (l.take (k+1))=vS (l.take k)+pT (l.getD k 0) 4607182418800017408:=by
 rw [take_snoc10 l k h];simp [vS,List.foldl_append]
theorem sS_take (l:List Nat) (k:Nat) (h:k<l.length):sS (l.take (k+1))=(sS (l.take k)).cnt (pK (l.getD k 0) 4607182418800017408) 1:=by
 rw [take_snoc10 l k h];simp [sS,List.foldl_append]
theorem vS_bound (l:List Nat) (hl:W64 l):∀ k,k≤l.length→-((k*QB:Nat):Int)≤vS (l.take k)∧vS (l.take k)≤((k*QB:Nat):Int)
 | 0,_=>by simp [vS]
 | k+1,h=>by
   obtain ⟨h1,h2⟩:=vS_bound l hl k (by omega)
   have h3:=pT_small (l.getD k 0) 4607182418800017408 (hl.get k) (by decide)
   rw [vS_take l k h];have e:((k+1)*QB:Nat)=k*QB+QB:=by rw [Nat.add_mul,Nat.one_mul]
   omega
theorem sS_pos (l:List Nat):∀ k,k≤l.length→(sS (l.take k)).pos∧(sS (l.take k)).a=k
 | 0,_=>⟨by rw [List.take_zero];unfold Sp.pos sS;decide,rfl⟩
 | k+1,h=>by
   obtain ⟨h1,h2⟩:=sS_pos l k (by omega)
   rw [sS_take l k h];refine ⟨h1.cnt _ (pk_le _ _ _),?_⟩;rw [cnt_a,h2];omega
theorem exact_core (xs:List Nat) (a:Option Addr) (n c:Nat) (mode pa pb:Int) (X:Nat) (er:Int) (w:World) (hn:n=xs.length) (hF:Fs w.heap.size w a xs) (hW:W64 xs) (hT:Tab w) (hm0:0≤mode) (hm1:mode≤4) (hab:may pa pb=true) (hl:n≤65536)
 (HR:Hid (∀ (g:Nat) (u:World),Acc7 u g (vS xs) (sS xs)→(sS xs).ok→Tab u→Calls Tryd.prog 11 #[.pointer (some ⟨g,0,none⟩),.int .i64 mode,.agg #[.int .i64 pa,.int .i64 pb]] u fun r w'=>r=.returned (.tuple #[.float .f64 X,.int .i64 er])∧Below u.heap.size u w')) :
 Calls Tryd.prog 12 #[.slice a n c,.int .i64 mode,.agg #[.int .i64 pa,.int .i64 pb]] w fun r w'=>r=.returned (.tuple #[.float .f64 X,.int .i64 er])∧Below w.heap.size w w':=by
 have HM:=hid (fun u:World=>May_any pa pb u)
 rw [hab] at HM;have HX:=qsd (ai hn (ai hF (ai hW (ai hT hl))));have b0:decide (mode<0)=false:=by simp;omega
 have b1:decide (4<mode)=false:=by simp;omega
 have b2:decide ((65536:Int)<(n:Int))=false:=by simp;omega
 have b3:decide (65536<n)=false:=by simp;omega
 clear hn hF hW hT hm0 hm1 hab hl;go_enter Tryd.func12,Tryd.ntmps12
 go_wp2_with fail
 refine (HM.out _).mono ?_;rintro r w1 ⟨rfl,hb1⟩
 have P1:Aside (Bl w1 w.heap.size 39 [.int .i64 pa,.int .i64 pb]∧Below w.heap.size w w1∧w.heap.size<w1.heap.size):=by
  have e0:=bel_alloc w (Obj.cells #[.int .i64 pa,.int .i64 pb] 39);exact ⟨(Bl.new w 39 [_,_]).below hb1 (by simp),e0.trans (hb1.mono (by simp)),by have:=hb1.size;simp at this;omega⟩
 clear hb1 HM
 go_wp2_with fail
 refine (New7 w1).mono ?_;rintro r w2 ⟨rfl,hA,hb2⟩;obtain ⟨g,hg⟩:∃ g,g=w1.heap.size:=⟨_,rfl⟩;rw [←hg] at hA ⊢
 have P2:Aside (Bl w2 w.heap.size 39 [.int .i64 pa,.int .i64 pb]∧Below w.heap.size w w2∧w.heap.size<g∧Acc7 w2 g 0 ⟨0,0,0,0,0,0⟩) :=
  ⟨P1.out.1.below hb2 P1.out.2.2,P1.out.2.1.trans (hb2.mono P1.out.2.1.size),by rw [hg];exact P1.out.2.2,hA⟩
 clear hb2 hA hg P1;go_wp2
 go_loopg [30] n (fun gk i wr=>∃ k:Nat,gk+k=n∧i=.int .i64 (k:Nat)∧Aside (Acc7 wr g (vS (xs.take k)) (sS (xs.take k))∧Bl wr w.heap.size 39 [.int .i64 pa,.int .i64 pb]∧Below w.heap.size w wr))
 case atStart=>exact ⟨0,by omega,by simp,by simpa [vS,sS] using P2.out.2.2.2,P2.out.1,P2.out.2.1⟩
 case round =>
  obtain ⟨k,hgk,rfl,HA⟩:=hrel
  by_cases hk:k<n
  · obtain ⟨b,off,rfl,hc⟩:=HX.out.2.1.at HA.out.2.2 k (by rw [←HX.out.1];exact hk)
    obtain ⟨x,hx⟩:∃ x,x=xs.getD k 0:=⟨_,rfl⟩;rw [←hx] at hc
    have C:Hid (Calls Tryd.prog 8 #[.pointer (some ⟨g,0,none⟩),.float .f64 x] wr (Did g wr (0,vS (xs.take (k+1)),sS (xs.take (k+1))))):=by
     have hk2:k<xs.length:=by rw [←HX.out.1];exact hk
     obtain ⟨p1,p2⟩:=sS_pos xs k (by omega)
     obtain ⟨v1,v2⟩:=vS_bound xs HX.out.2.2.1 k (by omega)
     have hx64:x<18446744073709551616:=by rw [hx];exact HX.out.2.2.1.get k
     have hsm:=pT_small x 4607182418800017408 hx64 (by decide)
     have hl:=HX.out.2.2.2.2;have hkq:k*QB≤65536*QB:=Nat.mul_le_mul_right _ (by omega)
     have hQ:=QB_HB;have hqp:=QB_pos;have C:=Add7 g (vS (xs.take k)) (sS (xs.take k)) x wr HA.out.1 (p1.ok (by omega)) hx64
     rw [put_ok _ _ _ _ (by omega) (by omega) (by omega)] at C
     rw [vS_take xs k hk2,sS_take xs k hk2,←hx];exact C
    have hkb:k<4611686018427387904:=by have:=HX.out.2.2.2.2;omega
    clear hx
    go_wp2_with fail
    refine (C.out).mono ?_;rintro r w3 ⟨rfl,hA3,hbut⟩;have H3:=qsd (ai hA3 (ai (HA.out.2.1.but hbut (by have:=P2.out.2.2.1;omega)) (But.below HA.out.2.2 hbut HA.out.2.2.size (by have:=P2.out.2.2.1;omega))))
    clear hA3 hbut C;go_wp2
    go_roundg (gk-1)
    case measure=>omega
    case rel=>exact ⟨k+1,by omega,by first | rfl | simp,H3.out⟩
  · have hd:decide ((k:Int)<n)=false:=by simp;omega
    have q0:=HA.out.2.1.cell 0 _ rfl;have q1:=HA.out.2.1.cell 1 _ rfl
    have C:Hid (Calls Tryd.prog 11 #[.pointer (some ⟨g,0,none⟩),.int .i64 mode,.agg #[.int .i64 pa,.int .i64 pb]] wr fun r w'=>r=.returned (.tuple #[.float .f64 X,.int .i64 er])∧Below wr.heap.size wr w'):=by
     have e:xs.take k=xs:=by rw [List.take_of_length_le];rw [←HX.out.1];omega
     have hA:=HA.out.1;obtain ⟨p1,p2⟩:=sS_pos xs k (by rw [←HX.out.1];omega)
     rw [e] at hA p1 p2;have hl:=HX.out.2.2.2.2;exact HR.out g wr hA (p1.ok (by omega)) (HX.out.2.2.2.1.belows HA.out.2.2)
    clear HR
    go_wp2_with fail
    refine (C.out).mono ?_;rintro r w3 ⟨rfl,hb3⟩;have B3:=qsd (HA.out.2.2.trans (hb3.mono HA.out.2.2.size));clear hb3 C;go_wp2
    go_ret2
    exact ⟨rfl,B3.out⟩
end
section
open Go.RowKit J
def nrm (z:Nat):Nat:=if nanW z then oddW else z
theorem nan_odd:nanW oddW=true:=by decide
theorem nrm_idem (z:Nat):nrm (nrm z)=nrm z:=by
 unfold nrm
 cases h:nanW z
 · simp [h]
 · simp [nan_odd]
theorem nrm_lt {z:Nat}(h:z<18446744073709551616):nrm z<18446744073709551616:=by
 unfold nrm
 split
 · decide
 · exact h
theorem nan_nrm (z:Nat):nanW (nrm z)=nanW z:=by
 unfold nrm
 cases h:nanW z
 · simp [h]
 · simp [nan_odd]
theorem nan_mag {x:Nat}(h:nanW x=true):9218868437227405312<magW x:=of_decide_eq_true h
theorem add_nan_l {x:Nat}(y:Nat) (h:nanW x=true):arW .add x y=oddW:=by
 obtain ⟨s,t,hr⟩:=read_nanW x (nan_mag h);rw [arW_add,hr];rfl
theorem add_nan_r {x y:Nat}(hx:x<18446744073709551616) (h:nanW y=true):arW .add x y=oddW:=by
 obtain ⟨s,t,hr2⟩:=read_nanW y (nan_mag h)
 rcases kinds x hx with ⟨a1,a2,a3,a4⟩|⟨a1,a2,a3,a4⟩|⟨a1,a2,a4⟩
 · exact add_nan_l y a1
 · rw [arW_add,read_infW x hx a4,hr2];rfl
 · obtain ⟨m,k,hr,_⟩:=read_finW x hx a4
   rw [arW_add,hr,hr2];rfl
theorem add_nrm {x y:Nat}(hx:x<18446744073709551616) (hy:y<18446744073709551616):arW .add (nrm x) (nrm y)=arW .add x y:=by
 cases h1:nanW x
 · have e1:nrm x=x:=by unfold nrm;rw [h1];rfl
   rw [e1]
   cases h2:nanW y
   · have e2:nrm y=y:=by unfold nrm;rw [h2];rfl
     rw [e2]
   · rw [add_nan_r hx h2,add_nan_r hx (by rw [nan_nrm];exact h2)]
 · rw [add_nan_l _ h1,add_nan_l _ (by rw [nan_nrm];exact h1)]
theorem gives_nrm {op:BinOp}{x y z:Nat}(ho:op=.add∨op=.sub∨op=.mul) (h:Gives op x y z):nrm z=arW op x y∧z<18446744073709551616:=by
 rcases h with h|⟨h,h2,h3⟩
 · have hb:=bits_fin ho h
   refine ⟨?_,hb.2⟩;unfold nrm nanW arW;rw [h,if_neg (by simp;omega)];rfl
 · refine ⟨?_,h3⟩
   unfold nrm nanW arW;rw [h,if_pos (by simpa using h2)];rfl
theorem arW_nrm {op:BinOp}(ho:op=.add∨op=.sub∨op=.mul) (x y:Nat):nrm (arW op x y)=arW op x y∧arW op x y<18446744073709551616:=by
 unfold arW
 cases h:floatBits op .f64 x y with
 | none=>exact ⟨by decide,by decide⟩
 | some z =>
   have hb:=bits_fin ho h;refine ⟨?_,hb.2⟩
   show nrm z=z
   unfold nrm nanW;rw [if_neg (by simp;omega)]
abbrev plF (x y:Nat):Nat:=arW .add x y
theorem plF_lt (x y:Nat):plF x y<18446744073709551616:=(arW_nrm (.inl rfl) x y).2
theorem plF_nrm (x y:Nat):nrm (plF x y)=plF x y:=(arW_nrm (.inl rfl) x y).1
def runF:List Nat→Nat
 | []=>0
 | x::l=>l.foldl plF (nrm x)
theorem runF_snoc (l:List Nat) (y:Nat) (h:l≠[]):runF (l++[y])=plF (runF l) y:=by
 cases l with
 | nil=>exact absurd rfl h
 | cons x l=>simp [runF,List.foldl_append]
theorem runF_take (l:List Nat) (k:Nat) (h0:0<k) (h:k<l.length):runF (l.take (k+1))=plF (runF (l.take k)) (l.getD k 0):=by
 have e:l.take (k+1)=l.take k++[l.getD k 0]:=by
  rw [List.take_succ_eq_append_getElem h,List.getD_eq_getElem?_getD,List.getElem?_eq_getElem h];rfl
 rw [e,runF_snoc];intro h2;have:=congrArg List.length h2;rw [List.length_take,List.length_nil] at this;omega
theorem runF_one (l:List Nat) (h:0<l.length):runF (l.take 1)=nrm (l.getD 0 0):=by
 cases l with
 | nil=>simp at h
 | cons x l=>simp [runF]
theorem foldl_lt (l:List Nat) (s:Nat) (hs:s<18446744073709551616∧nrm s=s):l.foldl plF s<18446744073709551616∧nrm (l.foldl plF s)=l.foldl plF s:=by
 induction l generalizing s with
 | nil=>exact hs
 | cons x l ih=>exact ih _ ⟨plF_lt _ _,plF_nrm _ _⟩
theorem runF_ok (l:List Nat) (h:∀ x ∈ l,x<18446744073709551616):runF l<18446744073709551616∧nrm (runF l)=runF l:=by
 cases l with
 | nil=>exact ⟨by decide,by decide⟩
 | cons x l=>exact foldl_lt l _ ⟨nrm_lt (h x (List.mem_cons_self ..)),nrm_idem x⟩
end
section
open Go.RowKit J
theorem pw52 (f a L:Nat) (h:52+a=L):f*4503599627370496*2^a=f*2^L:=by
 rw [Nat.mul_assoc,←h,Nat.pow_add]
theorem pw52b (f a b L:Nat) (h:52+a=b+L):f*4503599627370496*2^a=f*2^b*2^L:=by
 rw [pw52 f a (b+L) h,Nat.pow_add,Nat.mul_assoc]
theorem sg_mul (n:Bool) (P K:Nat):(if n then -((P*K:Nat):Int) else ((P*K:Nat):Int))=(if n then -(P:Int) else (P:Int))*(K:Int):=by
 cases n <;> simp [Int.neg_mul]
theorem pT_fv {x:Nat}(hx:x<18446744073709551616) (fx:finW x):pT x 4607182418800017408=fvW x*((2^1074:Nat):Int)∧(pK x 4607182418800017408=0∨pK x 4607182418800017408=4∨pK x 4607182418800017408=5):=by
 obtain ⟨L,hL⟩:∃ L,L=1074:=⟨_,rfl⟩;have hm:magW x=eW x*4503599627370496+fW x:=by unfold magW eW fW;omega
 have he:eW x<2047:=by have h:magW x<9218868437227405312:=fx;omega
 have hf:fW x<4503599627370496:=Nat.mod_lt _ (by decide)
 have hng:(!ngW x==ngW 4607182418800017408)=negW x:=by
  have h1:ngW x=negW x:=by unfold ngW B.ng;rw [if_neg (by omega)];rfl
  rw [h1,show ngW 4607182418800017408=false by decide]
  cases negW x <;> rfl
 have hc1:clW 4607182418800017408=2:=by decide
 have hf1:frW 4607182418800017408=4503599627370496:=by decide
 have hx1:xpW 4607182418800017408=-52:=by decide
 unfold pT pK;rw [hng,hc1,hf1,hx1]
 by_cases h0:eW x=0
 · have hfr:frW x=fW x:=by unfold frW B.fr;rw [if_neg (by omega),if_pos h0];simp
   have hxp:xpW x=-1074:=by unfold xpW B.xp;rw [if_neg (by omega),if_pos h0]
   have hv:vK (magW x)=fW x:=by
    have:=vK_word 0 (fW x) (.inl rfl) (by omega)
    rw [hm,h0];simpa using this
   by_cases hz:fW x=0
   · have hcl:clW x=0:=by unfold clW B.cls;rw [if_neg (by omega),if_pos h0,if_pos hz]
     rw [hcl]
     have hpk:pk (max 0 2) (min 0 2) (negW x)=4∨pk (max 0 2) (min 0 2) (negW x)=5:=by
      cases negW x
      · exact .inr (by decide)
      · exact .inl (by decide)
     refine ⟨?_,.inr hpk⟩;rw [pv7_no (by rcases hpk with h | h <;> rw [h] <;> decide)]
     unfold fvW B.sg;rw [hv,hz,←hL];generalize 2^L=K
     cases negW x <;> simp
   · have hcl:clW x=1:=by unfold clW B.cls;rw [if_neg (by omega),if_pos h0,if_neg hz]
     rw [hcl];have hpk:pk (max 1 2) (min 1 2) (negW x)=0:=by cases negW x <;> decide
     refine ⟨?_,.inl hpk⟩;rw [pv7_yes hpk,hfr,hxp,←hL];obtain ⟨a,ha⟩:∃ a,a=((-1074:Int)+-52+2148).toNat:=⟨_,rfl⟩;have ha2:a=1022:=by rw [ha];rfl
     rw [←ha];unfold fvW B.sg sgn7;rw [hv];have e:fW x*4503599627370496*2^a=fW x*2^L:=pw52 _ a L (by omega)
     rw [e];generalize 2^L=K;exact sg_mul _ _ _
 · have hfr:frW x=fW x+4503599627370496:=by unfold frW B.fr;rw [if_neg (by omega),if_neg h0];omega
   have hxp:xpW x=(eW x:Int)-1075:=by unfold xpW B.xp;rw [if_neg (by omega),if_neg h0]
   have hv:vK (magW x)=(fW x+4503599627370496)*2^(eW x-1):=by
    have:=vK_word (eW x-1) (fW x+4503599627370496) (.inr (by omega)) (by omega)
    rw [←this,hm,show eW x*4503599627370496+fW x=(eW x-1)*4503599627370496+(fW x+4503599627370496) by omega]
   have hcl:clW x=2:=by unfold clW B.cls;rw [if_neg (by omega),if_neg h0]
   rw [hcl];have hpk:pk (max 2 2) (min 2 2) (negW x)=0:=by cases negW x <;> decide
   refine ⟨?_,.inl hpk⟩;rw [pv7_yes hpk,hfr,hxp,←hL];unfold fvW B.sg sgn7;rw [hv];obtain ⟨a,ha⟩:∃ a,a=((eW x:Int)-1075+-52+2148).toNat:=⟨_,rfl⟩;obtain ⟨b,hb⟩:∃ b,b=eW x-1:=⟨_,rfl⟩;rw [←ha,←hb];have e:(fW x+4503599627370496)*4503599627370496*2^a=(fW x+4503599627370496)*2^b*2^L:=pw52b _ a b L (by omega)
   rw [e];generalize (fW x+4503599627370496)*2^b=P;generalize 2^L=K;exact sg_mul _ _ _
end
end Go.Proofs.YtaofncmoehebmaaDoor
