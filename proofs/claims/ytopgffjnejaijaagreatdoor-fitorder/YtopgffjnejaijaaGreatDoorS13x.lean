import Derived.Test.YtopgffjnejaijaaGreatDoorS6x
import Derived.Deep.RegionHeld
import Derived.Test.YtopgffjnejaijaaGreatDoorD4x
import Derived.Test.YtopgffjnejaijaaGreatDoorW8x
import Derived.Test.YtopgffjnejaijaaGreatDoorM1x
import Derived.Deep.RegionWith
import Derived.Test.YtopgffjnejaijaaGreatDoorD20x
import Derived.Test.YtopgffjnejaijaaGreatDoorD30x
import Ieee.Arith
import Derived.Test.YtopgffjnejaijaaGreatDoorW18x
import Derived.Laws.IdiomStrings
import Derived.Test.YtopgffjnejaijaaGreatDoorD15x
set_option linter.unusedVariables false
set_option linter.unusedSimpArgs false
set_option maxHeartbeats 16000000
set_option maxRecDepth 20000
namespace Go.Proofs.YtopgffjnejaijaaGreatDoor
namespace J
end J
section
open Go.RowKit
def sW (x:Nat):Bool:=decide (9223372036854775808≤x)
def eW (x:Nat):Nat:=x%9223372036854775808/4503599627370496
def fW (x:Nat):Nat:=x%4503599627370496
theorem bw_parts (x:Nat) (hx:x<18446744073709551616):x=B.bw (sW x) (eW x) (fW x)∧eW x<2048∧fW x<4503599627370496:=by
 unfold B.bw sW eW fW;refine ⟨?_,by omega,by omega⟩
 by_cases h:9223372036854775808≤x
 · simp only [h,decide_true,Bool.toNat_true];omega
 · simp only [h,decide_false,Bool.toNat_false];omega
def clW (x:Nat):Int:=B.cls (eW x) (fW x)
def xpW (x:Nat):Int:=B.xp (eW x)
def frW (x:Nat):Nat:=(B.fr (eW x) (fW x)).toNat
def ngW (x:Nat):Bool:=B.ng (sW x) (eW x) (fW x)
def pK (x y:Nat):Nat:=pk (max (clW x) (clW y)) (min (clW x) (clW y)) (!ngW x==ngW y)
def pT (x y:Nat):Int:=pv7 (max (clW x) (clW y)) (min (clW x) (clW y)) (!ngW x==ngW y) (frW x) (frW y) (xpW x+xpW y)
theorem pk_le (hi lo:Int) (ng:Bool):pk hi lo ng≤5:=by
 unfold pk
 split
 · omega
 · split
   · split <;> omega
   · split
     · split <;> omega
     · omega
theorem HB_two (k:Nat) (hk:k=4238):HB=2^k:=by
 obtain ⟨j,hj⟩:∃ j,j=32*132:=⟨_,rfl⟩;rw [HB_eq,pw_pow,←hj,show k=14+j by omega,Nat.pow_add]
theorem sgn_bound (ng:Bool) (X B:Nat) (h:X<B):-(B:Int)<sgn7 ng X∧sgn7 ng X<(B:Int):=by cases ng <;> simp only [sgn7,if_true,if_false] <;> constructor <;> (try simp) <;> omega
theorem pT_bound (x y:Nat) (hx:x<18446744073709551616) (hy:y<18446744073709551616):-(HB:Int)<pT x y∧pT x y<(HB:Int):=by
 unfold pT pv7;have hp:=HB_pos
 split
 · refine sgn_bound _ _ _ ?_
   have f1:=fr_bound (eW x) (fW x) (bw_parts x hx).2.2;have f2:=fr_bound (eW y) (fW y) (bw_parts y hy).2.2;have x1:=xp_bound (eW x) (bw_parts x hx).2.1;have x2:=xp_bound (eW y) (bw_parts y hy).2.1
   have h1:frW x*frW y<2^106:=by
    have:frW x*frW y≤9007199254740991*9007199254740991:=Nat.mul_le_mul (by unfold frW;omega) (by unfold frW;omega)
    exact Nat.lt_of_le_of_lt this (by decide)
   obtain ⟨k,hk⟩:∃ k,k=4238:=⟨_,rfl⟩;rw [HB_two k hk];refine Nat.lt_of_lt_of_le (Nat.mul_lt_mul_of_pos_right h1 (Nat.two_pow_pos _)) ?_;rw [←Nat.pow_add];exact Nat.pow_le_pow_right (by decide) (by unfold xpW;omega)
 · constructor <;> omega
theorem product7 (x y:Nat) (hx:x<18446744073709551616) (hy:y<18446744073709551616) (w:World) :
 Calls Tryz.prog 79 #[.float .f64 x,.float .f64 y] w fun r w'=>∃ v,r=.returned v∧Th w.heap.size w' v (pK x y) (pT x y)∧Below w.heap.size w w':=by
 obtain ⟨a1,a2,a3⟩:=bw_parts x hx;obtain ⟨b1,b2,b3⟩:=bw_parts y hy;have h1:=splitIs (sW x) (eW x) (fW x) a2 a3;have h2:=splitIs (sW y) (eW y) (fW y) b2 b3;rw [←a1] at h1;rw [←b1] at h2;exact product_any x y _ _ _ _ _ _ _ _ w h1 h2 (xp_bound _ a2) (xp_bound _ b2) (fr_bound _ _ a3) (fr_bound _ _ b3)
theorem number7 (x:Nat) (hx:x<18446744073709551616) (w:World) :
 Calls Tryz.prog 94 #[.float .f64 x] w fun r w'=>∃ v,r=.returned v∧Th w.heap.size w' v (pK x 4607182418800017408) (pT x 4607182418800017408)∧Below w.heap.size w w':=by
 have HP:=hid (fun u:World=>product7 x 4607182418800017408 hx (by decide) u)
 clear hx;go_enter Tryz.func94,Tryz.ntmps94
 go_wp2_with fail
 refine (HP.out _).mono ?_;rintro r w1 ⟨v,rfl,hT,hb⟩;obtain ⟨ng,a,n,c,p,xs,hlo,rfl,hA,hp,hv⟩:=hT;have HL:=qsd hlo;have Z:=qsd ((Bl.new w 117 [Value.int .i64 0,Value.bool false,Value.slice none 0 0,Value.int .i64 0]).below hb (by simp))
 have HA:=qsd (ai hA (ai hp (ai hv hb)));obtain ⟨z0,z1,z2,z3⟩:=Z.out.four;have g0:=Z.out.frozen 0;have g1:=Z.out.frozen 1;have g2:=Z.out.frozen 2;have g3:=Z.out.frozen 3;clear hA hp hv hb hlo;go_wp2;obtain ⟨w5,hw5⟩:∃ w5,w5=((((w1.setCell ⟨w.heap.size,0,none⟩ (.int .i64 (pK x 4607182418800017408:Nat))).setCell ⟨w.heap.size,1,none⟩ (.bool ng)).setCell ⟨w.heap.size,2,none⟩ (.slice a n c)).setCell ⟨w.heap.size,3,none⟩ (.int .i64 (p:Nat))):=⟨_,rfl⟩;rw [←hw5];have q:Bl w5 w.heap.size 117 [.int .i64 (pK x 4607182418800017408:Nat),.bool ng,.slice a n c,.int .i64 (p:Nat)]:=by rw [hw5];exact put4 Z.out
 have hbut:But w.heap.size w1 w5:=by rw [hw5];exact ((((But.refl _ w1).set 0 _).set 1 _).set 2 _).set 3 _
 have hBw:Below w.heap.size w w1:=(bel_alloc w _).trans (HA.out.2.2.2.mono (by simp))
 have qb:Below w.heap.size w w5:=But.below hBw hbut hBw.size (Nat.le_refl _);clear hw5;obtain ⟨q0,q1,q2,q3⟩:=q.four;refine bodyPost_ret (v:=.agg #[.int .i64 (pK x 4607182418800017408:Nat),.bool ng,.slice a n c,.int .i64 (p:Nat)]) (by simp [results,Tryz.results94,go_sem,q0,q1,q2,q3]) rfl ?_
 refine ⟨_,rfl,⟨ng,a,n,c,p,xs,fun ad e=>?_,rfl,?_,HA.out.2.1,HA.out.2.2.1⟩,qb⟩
 · have:=HL.out ad e;simp at this;omega
 · obtain ⟨r1,r2,r3,r4,r5,r6⟩:=HA.out.1
   refine ⟨r1,r2,r3,r4,fun hne=>?_,r6⟩
   obtain ⟨b,off,hlt,rfl,hc⟩:=r5 hne;have hbb:=HL.out _ rfl;simp at hbb;refine ⟨b,off,Nat.lt_of_lt_of_le hlt hbut.size,rfl,fun i hi=>?_⟩
   rw [←hc i hi];exact World.cell?_of_block (a:=⟨b,off+i,none⟩) (hbut.block b hlt (by omega))
theorem put7 (g:Nat) (V T:Int) (s:Sp) (k lo:Nat) (v:Value) (w:World) (hA:Acc7 w g V s) (hs:s.ok) (hk:k≤5) (ht:Th lo w v k T) (h0:-(HB:Int)<T) (h1:T<(HB:Int)) :
 Calls Tryz.prog 78 #[.pointer (some ⟨g,0,none⟩),v] w (Did g w (putS V s k T)):=by
 obtain ⟨L,a1,a2,a3,a4,a5,a6⟩:=hA;obtain ⟨ng,a,n,c,p,xs,_,rfl,hx,hp,hv⟩:=ht;exact put_core g L xs V T s k ng a n c p w hs hk a6 a1 a2 a3 a4 a5 hx hp hv h0 h1
theorem Add7 (g:Nat) (V:Int) (s:Sp) (x:Nat) (w:World) (hA:Acc7 w g V s) (hs:s.ok) (hx:x<18446744073709551616) :
 Calls Tryz.prog 74 #[.pointer (some ⟨g,0,none⟩),.float .f64 x] w (Did g w (putS V s (pK x 4607182418800017408) (pT x 4607182418800017408))):=by
 obtain ⟨X,hX⟩:∃ X,X=putS V s (pK x 4607182418800017408) (pT x 4607182418800017408):=⟨_,rfl⟩;rw [←hX];have HP:=hid (fun u:World=>number7 x hx u)
 have HB:=qsd (pT_bound x 4607182418800017408 hx (by decide))
 have HA:=qsd (ai hA (ai hs hX));clear hA hs hX hx;go_enter Tryz.func74,Tryz.ntmps74
 go_wp2_with fail
 refine (HP.out _).mono ?_;rintro r w1 ⟨v,rfl,hT,hb⟩;have HT:=qsd (ai hT hb);clear hT hb
 go_wp2_with fail
 have CP:=put7 g V (pT x 4607182418800017408) s (pK x 4607182418800017408) w.heap.size v w1 (HA.out.1.bel HT.out.2) HA.out.2.1 (pk_le _ _ _) HT.out.1 HB.out.1 HB.out.2;rw [←HA.out.2.2] at CP;refine CP.mono ?_;rintro r w2 hD;have HD:=qsd hD;obtain ⟨rfl,_,_⟩:=hD;clear CP;go_wp2;go_ret;exact ⟨rfl,HD.out.2.1,((But.refl g w).of_bel HT.out.2).trans HD.out.2.2⟩
theorem AddProduct7 (g:Nat) (V:Int) (s:Sp) (x y:Nat) (w:World) (hA:Acc7 w g V s) (hs:s.ok) (hx:x<18446744073709551616) (hy:y<18446744073709551616) :
 Calls Tryz.prog 50 #[.pointer (some ⟨g,0,none⟩),.float .f64 x,.float .f64 y] w (Did g w (putS V s (pK x y) (pT x y))):=by
 obtain ⟨X,hX⟩:∃ X,X=putS V s (pK x y) (pT x y):=⟨_,rfl⟩;rw [←hX];have HP:=hid (fun u:World=>product7 x y hx hy u)
 have HB:=qsd (pT_bound x y hx hy);have HA:=qsd (ai hA (ai hs hX));clear hA hs hX hx hy;go_enter Tryz.func50,Tryz.ntmps50
 go_wp2_with fail
 refine (HP.out _).mono ?_;rintro r w1 ⟨v,rfl,hT,hb⟩;have HT:=qsd (ai hT hb);clear hT hb
 go_wp2_with fail
 have CP:=put7 g V (pT x y) s (pK x y) w.heap.size v w1 (HA.out.1.bel HT.out.2) HA.out.2.1 (pk_le _ _ _) HT.out.1 HB.out.1 HB.out.2;rw [←HA.out.2.2] at CP;refine CP.mono ?_;rintro r w2 hD;have HD:=qsd hD;obtain ⟨rfl,_,_⟩:=hD;clear CP;go_wp2;go_ret;exact ⟨rfl,HD.out.2.1,((But.refl g w).of_bel HT.out.2).trans HD.out.2.2⟩
end
section
open Go.RowKit
theorem neg7_val (N:Nat) (V:Int) (h:(N:Int)=V%(PB:Int)) (h0:-(HB:Int)<V) (h1:V<(HB:Int)):neg7 N=decide (V<0)∧mag7 N=V.natAbs:=by
 have e:=PB_HB;have hp:=HB_pos;unfold mag7 neg7
 by_cases hv:0≤V
 · rw [Int.emod_eq_of_lt hv (by omega)] at h
   rw [decide_eq_false (by omega),decide_eq_false (by omega)]
   refine ⟨rfl,?_⟩;rw [if_neg (by decide)]
   omega
 · have h2:V%(PB:Int)=V+PB:=by
    rw [←Int.add_emod_right,Int.emod_eq_of_lt (by omega) (by omega)]
   rw [h2] at h;rw [decide_eq_true (by omega),decide_eq_true (by omega)]
   refine ⟨rfl,?_⟩;rw [if_pos rfl];omega
def exV (V:Int):Option (Bool×Nat×Int):=mkS (decide (V<0)) V.natAbs (-2148)
theorem _root_.Nat.le.ne7 {a b c:Nat}(h:a≤b) (e:a=c+1):b≠c:=by omega
theorem Nt.lo7 {lo k:Nat}{w:World}{v:Value}{X:Nat}(h:Nt lo w v X) (hk:k≤lo):k≤lo:=hk
theorem Tryz.row_dyad:∃ d:TypeDesc,Tryz.prog.underlying 42=some d∧d.isRow=true:=by
 have h:(Tryz.prog.underlying 42).any (·.isRow)=true:=by kernel_rfl
 obtain ⟨d,h1,h2⟩:=(Option.any_eq_true _ _).1 h;exact ⟨d,h1,h2⟩
theorem Tryz.size_dyad:(Tryz.prog.info? 42).map (·.size)=some 3:=by kernel_rfl
theorem row_result {fn:Func}{p:Tmp}{ty:TypeId}(h:fn.results=#[.cell p ty]) (tmps:Array Value) (w:World) (g:Nat) (cs:List Value)
 (hp:tmps.getD p undef=.pointer (some ⟨g,0,none⟩)) (hg:Bl w g ty cs) (hdr:∃ d:TypeDesc,Tryz.prog.underlying ty=some d∧d.isRow=true) (hi:(Tryz.prog.info? ty).map (·.size)=some cs.toArray.size) :
 (results fn tmps).run Tryz.prog w=.ok (.agg cs.toArray) w:=by
 obtain ⟨d,h1,h2⟩:=hdr
 cases d <;> first
  | exact results_cell_row (P:=Tryz.prog) h tmps w g ty _ _ _ hp hg h1 rfl hi
  | exact absurd h2 (by simp [TypeDesc.isRow])
theorem exact_close {w base:World}{tmps:Array Value}{o:Option (Bool×Nat×Int)}{v x y z:Value}{lo:Nat}(h2:tmps.getD 2 undef=.pointer (some ⟨w.heap.size,0,none⟩))
 (hZ:Bl base w.heap.size 42 [x,y,z]) (hbw:Below w.heap.size w base) (hN:Nt lo base v (dX o)) (hlo:w.heap.size<lo) :
 bodyPost Tryz.prog Tryz.f51 (fun r w'=>∃ v,r=.returned (.agg #[.bool (dN o),v,.int .i64 (dE o)])∧Nt w.heap.size w' v (dX o)∧Below w.heap.size w w') .ret ⟨tmps,[]⟩
  (((base.setCell ⟨w.heap.size,0,none⟩ (.bool (dN o))).setCell ⟨w.heap.size,1,none⟩ v).setCell ⟨w.heap.size,2,none⟩ (.int .i64 (dE o))):=by
 have q:Bl (((base.setCell ⟨w.heap.size,0,none⟩ (.bool (dN o))).setCell ⟨w.heap.size,1,none⟩ v).setCell ⟨w.heap.size,2,none⟩ (.int .i64 (dE o))) w.heap.size 42 [.bool (dN o),v,.int .i64 (dE o)]:=((hZ.set 0 _).set 1 _).set 2 _;have hbut:But w.heap.size base (((base.setCell ⟨w.heap.size,0,none⟩ (.bool (dN o))).setCell ⟨w.heap.size,1,none⟩ v).setCell ⟨w.heap.size,2,none⟩ (.int .i64 (dE o))):=(((But.refl _ _).set 0 _).set 1 _).set 2 _;refine bodyPost_ret (v:=.agg #[.bool (dN o),v,.int .i64 (dE o)]) (row_result Tryz.results51 _ _ w.heap.size [.bool (dN o),v,.int .i64 (dE o)] h2 q Tryz.row_dyad (by rw [Tryz.size_dyad];rfl)) rfl ?_
 exact ⟨v,rfl,(hN.but7 hbut hlo).mono (by omega),But.below hbw hbut hbw.size (Nat.le_refl _)⟩
theorem exact_close2 {w base:World}{tmps:Array Value}{o:Option (Bool×Nat×Int)}{v x y z:Value}{lo:Nat}{ob:Obj}(h2:tmps.getD 2 undef=.pointer (some ⟨w.heap.size,0,none⟩))
 (hZ:Bl base w.heap.size 42 [x,y,z]) (hbw:Below w.heap.size w base) (hN:Nt lo base v (dX o)) (hlo:w.heap.size<lo) :
 bodyPost Tryz.prog Tryz.f51 (fun r w'=>∃ v,r=.returned (.agg #[.bool (dN o),v,.int .i64 (dE o)])∧Nt w.heap.size w' v (dX o)∧Below w.heap.size w w') .ret ⟨tmps,[]⟩
  ((((base.setCell ⟨w.heap.size,0,none⟩ (.bool (dN o))).setCell ⟨w.heap.size,1,none⟩ v).setCell ⟨w.heap.size,2,none⟩ (.int .i64 (dE o))).alloc ob):=by
 have q:Bl (((base.setCell ⟨w.heap.size,0,none⟩ (.bool (dN o))).setCell ⟨w.heap.size,1,none⟩ v).setCell ⟨w.heap.size,2,none⟩ (.int .i64 (dE o))) w.heap.size 42 [.bool (dN o),v,.int .i64 (dE o)]:=((hZ.set 0 _).set 1 _).set 2 _;have hbut:But w.heap.size base (((base.setCell ⟨w.heap.size,0,none⟩ (.bool (dN o))).setCell ⟨w.heap.size,1,none⟩ v).setCell ⟨w.heap.size,2,none⟩ (.int .i64 (dE o))):=(((But.refl _ _).set 0 _).set 1 _).set 2 _;have hW:=But.below hbw hbut hbw.size (Nat.le_refl _);refine bodyPost_ret (v:=.agg #[.bool (dN o),v,.int .i64 (dE o)]) (row_result Tryz.results51 _ _ w.heap.size [.bool (dN o),v,.int .i64 (dE o)] h2 (q.alloc ob) Tryz.row_dyad (by rw [Tryz.size_dyad];rfl)) rfl ?_
 exact ⟨v,rfl,((hN.but7 hbut hlo).mono (by omega)).below (bel_alloc _ _),hW.trans ((bel_alloc _ _).mono hW.size)⟩
theorem Exact7 (g:Nat) (V:Int) (s:Sp) (w:World) (hA:Acc7 w g V s) (hT:Tab w):Calls Tryz.prog 51 #[.pointer (some ⟨g,0,none⟩)] w fun r w' =>
 ∃ v,r=.returned (.agg #[.bool (dN (exV V)),v,.int .i64 (dE (exV V))])∧Nt w.heap.size w' v (dX (exV V))∧Below w.heap.size w w':=by
 obtain ⟨o,ho⟩:∃ o,o=exV V:=⟨_,rfl⟩;rw [←ho];obtain ⟨L,a1,a2,a3,a4,a5,a6⟩:=hA;have hnm:=neg7_val (val L) V a3 a4 a5;have HA:=qsd (ai a1 (ai a2 (ai a6.hd (ai hT (ai ho hnm)))));have hlt:=a6.lt;clear a1 a2 a3 a4 a5 a6 hT ho hnm;have HLT:=qsd hlt;clear hlt;obtain ⟨W1,hW1⟩:∃ W,W=w.alloc (.cells #[.bool false,.slice none 0 0,.int .i64 0] 42):=⟨_,rfl⟩
 have H1:Aside (Below w.heap.size w W1∧Bl W1 w.heap.size 42 [.bool false,.slice none 0 0,.int .i64 0]∧W1.heap.size=w.heap.size+1):=by
  subst hW1;exact ⟨bel_alloc _ _,Bl.new _ 42 [_,_,_],by simp⟩
 go_enter Tryz.func51,Tryz.ntmps51;go_wp2;rw [←hW1];clear hW1;have BB:Aside (Below W1.heap.size W1 W1.drew):=(Below.refl _ _).drew;have HH:Aside (∀ W:World,Below W1.heap.size W1 W→Hd W g L):=fun W h=>(HA.out.2.2.1.below H1.out.1 HLT.out (Nat.le_refl _)).below h (Nat.lt_of_lt_of_le HLT.out H1.out.1.size) (Nat.le_refl _)
 have HTT:Aside (∀ W:World,Below W1.heap.size W1 W→Tab W):=fun W h=>(HA.out.2.2.2.1.belows H1.out.1).belows h
 go_region_with (first
  | (go_at_call 80
     with_reducible refine (below_any g L _ HA.out.1 HA.out.2.1 (HH.out _ (by first | exact BB.out | exact BB.out.trans ((bel_alloc _ _).mono BB.out.size) | exact (bel_alloc _ _).drew))).mono ?_
     rintro r u ⟨rfl,rfl⟩)
  | (go_at_call 81
     with_reducible refine (size7_any L g _ HA.out.1 HA.out.2.1 (HH.out _ (by first | exact BB.out | exact BB.out.trans ((bel_alloc _ _).mono BB.out.size) | exact (bel_alloc _ _).drew))).mono ?_
     rintro r u ⟨b,cap,M,rfl,hM,hMv,hb⟩;have hu:Below W1.heap.size W1 u:=by first | exact BB.out.trans (hb.mono BB.out.size) | exact (BB.out.trans ((bel_alloc _ _).mono BB.out.size)).trans (hb.mono (by have:=BB.out.size;simp;omega)) | exact ((bel_alloc _ _).drew).trans (hb.mono (by simp))
     try have DZ:=qsd (ai (DZ.out.1.below hb DZ.out.1.lt) DZ.out.2)
     try have DZ:=qsd (ai ((Bl.new _ 42 [Value.bool false,Value.slice none 0 0,Value.int .i64 0]).below hb (by simp)) BB.out.size)
     try have DZ:=qsd (ai ((Bl.new W1 42 [Value.bool false,Value.slice none 0 0,Value.int .i64 0]).drew.below hb (by simp)) (Nat.le_refl W1.heap.size))
     have BB:=qsd hu;have HM:=qsd (ai hM (show mkS (neg7 (val L)) (val M) (-2148)=o by rw [HA.out.2.2.2.2.1,hMv,HA.out.2.2.2.2.2.1,HA.out.2.2.2.2.2.2];rfl))
     clear hM hMv hb hu)
  | (go_at_call 34
     with_reducible refine (Make_any (by first | exact HM.out.1 | exact HM.out.1.below (bel_alloc _ _)) (HTT.out _ (by first | exact BB.out | exact BB.out.trans ((bel_alloc _ _).mono BB.out.size) | exact (bel_alloc _ _).drew)) (neg7 (val L)) (-2148) (by decide) (by decide)).mono ?_
     rintro r u ⟨hD,hb⟩;rw [HM.out.2] at hD;obtain ⟨v,rfl,hN⟩:=hD
     try have DL:=qsd DZ.out.1.lt
     have hu:Below W1.heap.size W1 u:=by first | exact BB.out.trans (hb.mono BB.out.size) | exact (BB.out.trans ((bel_alloc _ _).mono BB.out.size)).trans (hb.mono (by have:=BB.out.size;simp;omega)) | exact ((bel_alloc _ _).drew).trans (hb.mono (by simp))
     try have DZ:=qsd (ai (DZ.out.1.below hb DZ.out.1.lt) DZ.out.2)
     try have DZ:=qsd (ai ((Bl.new _ 42 [Value.bool false,Value.slice none 0 0,Value.int .i64 0]).below hb (by simp)) BB.out.size)
     try have DZ:=qsd (ai ((Bl.new W1 42 [Value.bool false,Value.slice none 0 0,Value.int .i64 0]).drew.below hb (by simp)) (Nat.le_refl W1.heap.size))
     have hN2:=ai hN (hN.lo7 (k:=W1.heap.size) (by first | exact BB.out.size | (have:=BB.out.size;simp;omega)))
     obtain ⟨a,c,rfl,_⟩:=hN.arg (by
      refine Nat.le_trans ((ws_len_le _ 133).2 ?_) (by decide)
      have e:=HM.out.2;have hm:=val_lt M HM.out.1.wf;rw [←HM.out.1.len] at hm;rw [←e];refine Nat.lt_of_le_of_lt ?_ hm;unfold mkS dX
      split
      · exact Nat.zero_le _
      · split
        · exact Nat.zero_le _
        · exact Nat.div_le_self _ _)
     have HN:=qsd (ai hN2 hu);have Z:=qsd (H1.out.2.1.below hu (by have:=H1.out.2.2;omega))
     have z0:=Z.out.cell 0 _ rfl;have z1:=Z.out.cell 1 _ rfl;have z2:=Z.out.cell 2 _ rfl;have g0:=Z.out.frozen 0;have g1:=Z.out.frozen 1;have g2:=Z.out.frozen 2
     try have d0:=DZ.out.1.cell 0 _ rfl
     try have d1:=DZ.out.1.cell 1 _ rfl
     try have d2:=DZ.out.1.cell 2 _ rfl
     try have e0:=DZ.out.1.frozen 0
     try have e1:=DZ.out.1.frozen 1
     try have e2:=DZ.out.1.frozen 2
     have hlu:w.heap.size<u.heap.size:=Z.out.lt
     try have nx:=DZ.out.2.ne7 H1.out.2.2
     try have ny:=nx.symm
     clear hN hN2 hb hu))
 all_goals (
  clear HM HA HH HTT BB;go_wp2;have hW:Below w.heap.size w u:=H1.out.1.trans (HN.out.2.mono H1.out.1.size);have hlo:=HN.out.1.2;have hl1:=H1.out.2.2
  first
   | (with_reducible refine exact_close2 (x:=.bool false) (y:=.slice none 0 0) (z:=.int .i64 0) ?_ Z.out hW HN.out.1.1 (by omega)
      rfl)
   | (with_reducible refine exact_close (x:=.bool false) (y:=.slice none 0 0) (z:=.int .i64 0) ?_ (Bl.but Z.out ((((But.refl _ _).set 0 _).set 1 _).set 2 _) ny) (But.below hW ((((But.refl _ _).set 0 _).set 1 _).set 2 _) hW.size (by have:=DZ.out.2;omega)) (HN.out.1.1.but7 ((((But.refl _ _).set 0 _).set 1 _).set 2 _) (by first | exact DL.out | (simp;done) | (simp;omega))) (by omega)
      rfl))
end
section
open Go.RowKit
open Go.Proofs.YtopgffjnejaijaaGreatDoor.B (f64bits f64frombits bw)
attribute [local go_sem] f64bits f64frombits
def kn (a:Int):Bool:=decide (0≤a)&&decide (a≤2)
def may (a b:Int):Bool:=kn a&&kn b
theorem known_any (a:Int) (w:World):Calls Tryz.prog 109 #[.int .i64 a] w fun r w'=>r=.returned (.bool (kn a))∧w'=w:=by
 unfold kn
 by_cases h:0≤a
 · have hd:decide (0≤a)=true:=decide_eq_true h
   rw [hd];go_enter Tryz.func109,Tryz.ntmps109;go_wp2;go_ret;exact ⟨by first | rfl | simp,rfl⟩
 · have hd:decide (0≤a)=false:=decide_eq_false h
   rw [hd];go_enter Tryz.func109,Tryz.ntmps109;go_wp2;go_ret;exact ⟨by first | rfl | simp,rfl⟩
theorem May_any (a b:Int) (w:World):Calls Tryz.prog 90 #[.agg #[.int .i64 a,.int .i64 b]] w fun r w'=>r=.returned (.bool (may a b))∧Below w.heap.size w w':=by
 unfold may
 rcases ha:kn a with _|_
 · have H:=hid (fun w=>ha ▸ known_any a w)
   clear ha;go_enter Tryz.func90,Tryz.ntmps90
   go_wp2_with fail
   refine (H.out _).mono ?_;rintro r w1 ⟨rfl,rfl⟩;go_wp2;go_ret;exact ⟨rfl,(Below.refl _ _).alloc (Nat.le_refl _) _⟩
 · have H:=hid (fun w=>ha ▸ known_any a w)
   have H2:=hid (fun w=>known_any b w)
   obtain ⟨kb,hkb⟩:∃ k,kn b=k:=⟨_,rfl⟩;rw [hkb] at H2 ⊢;clear ha hkb;go_enter Tryz.func90,Tryz.ntmps90
   go_wp2_with fail
   refine (H.out _).mono ?_;rintro r w1 ⟨rfl,rfl⟩
   go_wp2_with fail
   refine (H2.out _).mono ?_;rintro r w1 ⟨rfl,rfl⟩;go_wp2;go_ret;exact ⟨by first | rfl | simp,(Below.refl _ _).alloc (Nat.le_refl _) _⟩
open Go.RowKit
open Go.Proofs.YtopgffjnejaijaaGreatDoor.B (f64bits f64frombits bw bcell)
attribute [local go_sem] f64bits f64frombits
end
section
open Go.RowKit
theorem Tryz.zero_acc:Tryz.zeroCells114=((List.replicate 133 0).map U++Sp.cells ⟨0,0,0,0,0,0⟩).toArray:=by kernel_rfl
theorem zero_acc7 {w:World}{g:Nat}(h:Bl w g 114 ((List.replicate 133 0).map U++Sp.cells ⟨0,0,0,0,0,0⟩)):Acc7 w g 0 ⟨0,0,0,0,0,0⟩ :=
 ⟨List.replicate 133 0,by simp,Wf.zeros 133,by rw [val_zeros];simp,by have:=HB_pos;omega,by have:=HB_pos;omega,h⟩
theorem New7 (w:World):Calls Tryz.prog 49 #[] w fun r w'=>r=.returned (.pointer (some ⟨w.heap.size,0,none⟩))∧Acc7 w' w.heap.size 0 ⟨0,0,0,0,0,0⟩∧Below w.heap.size w w':=by
 go_enter Tryz.func49,Tryz.ntmps49;go_wp2;go_ret;refine ⟨rfl,?_,bel_alloc _ _⟩;rw [Tryz.zero_acc];exact zero_acc7 (Bl.new _ _ _)
end
section
open Go.RowKit
def QB:Nat:=HB/4398046511104
theorem QB_HB:HB=4398046511104*QB:=by
 obtain ⟨k,hk⟩:∃ k,k=4238:=⟨_,rfl⟩;obtain ⟨j,hj⟩:∃ j,j=4196:=⟨_,rfl⟩;unfold QB;rw [HB_two k hk,show k=42+j by omega,Nat.pow_add]
 have e:(2:Nat)^42=4398046511104:=by decide
 rw [e,Nat.mul_div_cancel_left _ (by decide)]
theorem QB_pos:0<QB:=by have:=QB_HB;have:=HB_pos;omega
theorem pT_small (x y:Nat) (hx:x<18446744073709551616) (hy:y<18446744073709551616):-(QB:Int)≤pT x y∧pT x y≤(QB:Int):=by
 have hp:=QB_pos
 have e2:∃ j,j=4196∧QB=2^j:=by
  obtain ⟨k,hk⟩:∃ k,k=4238:=⟨_,rfl⟩;obtain ⟨j,hj⟩:∃ j,j=4196:=⟨_,rfl⟩;refine ⟨j,hj,?_⟩;unfold QB;rw [HB_two k hk,show k=42+j by omega,Nat.pow_add]
  have e:(2:Nat)^42=4398046511104:=by decide
  rw [e,Nat.mul_div_cancel_left _ (by decide)]
 obtain ⟨j,hj,hq⟩:=e2;unfold pT pv7
 split
 · have f1:=fr_bound (eW x) (fW x) (bw_parts x hx).2.2
   have f2:=fr_bound (eW y) (fW y) (bw_parts y hy).2.2;have x1:=xp_bound (eW x) (bw_parts x hx).2.1;have x2:=xp_bound (eW y) (bw_parts y hy).2.1
   have h1:frW x*frW y<2^106:=by
    have:frW x*frW y≤9007199254740991*9007199254740991:=Nat.mul_le_mul (by unfold frW;omega) (by unfold frW;omega)
    exact Nat.lt_of_le_of_lt this (by decide)
   have h3:frW x*frW y*2^(xpW x+xpW y+2148).toNat<QB:=by
    rw [hq];refine Nat.lt_of_lt_of_le (Nat.mul_lt_mul_of_pos_right h1 (Nat.two_pow_pos _)) ?_;rw [←Nat.pow_add];exact Nat.pow_le_pow_right (by decide) (by unfold xpW;omega)
   have:=sgn_bound (!ngW x==ngW y) _ _ h3;omega
 · constructor <;> omega
def Sp.pos (s:Sp):Prop:=0≤s.n∧0≤s.u∧0≤s.d∧0≤s.m∧0≤s.p∧s.n+s.u+s.d+s.m+s.p≤s.a
theorem Sp.pos.cnt {s:Sp}(h:s.pos) (k:Nat) (hk:k≤5):(s.cnt k 1).pos:=by
 obtain ⟨h0,h1,h2,h3,h4,h5⟩:=h;have hc:k=0∨k=1∨k=2∨k=3∨k=4∨k=5:=by omega
 rcases hc with rfl|rfl|rfl|rfl|rfl|rfl <;> (unfold Sp.pos Sp.cnt;simp;omega)
theorem Sp.pos.ok {s:Sp}(h:s.pos) (ha:s.a≤4398046511104):s.ok:=by
 obtain ⟨h0,h1,h2,h3,h4,h5⟩:=h;unfold Sp.ok;omega
theorem cnt_a (s:Sp) (k:Nat) (c:Int):(s.cnt k c).a=s.a+c:=rfl
theorem put_ok (V:Int) (s:Sp) (k:Nat) (T:Int) (h0:-(HB:Int)<V+T) (h1:V+T<(HB:Int)) (ha:s.a<1099511627776):putS V s k T=(0,V+T,s.cnt k 1):=by
 unfold putS step7;rw [if_neg (by omega),if_pos ⟨h0,h1⟩]
end
section
open Go.RowKit
def vS (l:List Nat):Int:=l.foldl (fun v x=>v+pT x 4607182418800017408) 0
def sS (l:List Nat):Sp:=l.foldl (fun s x=>s.cnt (pK x 4607182418800017408) 1) ⟨0,0,0,0,0,0⟩
theorem take_snoc10 (l:List Nat) (k:Nat) (h:k<l.length):l.take (k+1)=l.take k++[l.getD k 0]:=by
 rw [List.take_succ_eq_append_getElem h,List.getD_eq_getElem?_getD,List.getElem?_eq_getElem h];rfl
theorem vS_take (l:List Nat) (k:Nat) (h:k<l.length):vS (l.take (k+1))=vS (l.take k)+pT (l.getD k 0) 4607182418800017408:=by
 rw [take_snoc10 l k h];simp [vS,List.foldl_append]
theorem sS_take (l:List Nat) (k:Nat) (h:k<l.length):sS (l.take (k+1))=(sS (l.take k)).cnt (pK (l.getD k 0) 4607182418800017408) 1:=by
 rw [take_snoc10 l k h];simp [sS,List.foldl_append]
theorem vS_bound (l:List Nat) (hl:W64 l):∀ k,k≤l.length→-((k*QB:Nat):Int)≤vS (l.take k)∧vS (l.take k)≤((k*QB:Nat):Int)
 | 0,_=>by simp [vS]
 | k+1,h=>by
   obtain ⟨h1,h2⟩:=vS_bound l hl k (by omega)
   have h3:=pT_small (l.getD k 0) 4607182418800017408 (hl.get k) (by decide)
   rw [vS_take l k h];have e:((k+1)*QB:Nat)=k*QB+QB:=by rw [Nat.add_mul,Nat.one_mul]
   omega
theorem sS_pos (l:List Nat):∀ k,k≤l.length→(sS (l.take k)).pos∧(sS (l.take k)).a=k
 | 0,_=>⟨by rw [List.take_zero];unfold Sp.pos sS;decide,rfl⟩
 | k+1,h=>by
   obtain ⟨h1,h2⟩:=sS_pos l k (by omega)
   rw [sS_take l k h];refine ⟨h1.cnt _ (pk_le _ _ _),?_⟩;rw [cnt_a,h2];omega
end
section
open Go.RowKit
def vI (I:List (Nat×Int)):Int:=I.foldl (fun v p=>v+p.2) 0
def sI (I:List (Nat×Int)):Sp:=I.foldl (fun s p=>s.cnt p.1 1) ⟨0,0,0,0,0,0⟩
theorem vI_snoc (I:List (Nat×Int)) (p:Nat×Int):vI (I++[p])=vI I+p.2:=by simp [vI,List.foldl_append]
theorem sI_snoc (I:List (Nat×Int)) (p:Nat×Int):sI (I++[p])=(sI I).cnt p.1 1:=by simp [sI,List.foldl_append]
def Ip (p:Nat×Int):Prop:=p.1≤5∧-(QB:Int)≤p.2∧p.2≤(QB:Int)
theorem ip_prod {x y:Nat}(hx:x<18446744073709551616) (hy:y<18446744073709551616):Ip (pK x y,pT x y):=⟨pk_le _ _ _,(pT_small x y hx hy).1,(pT_small x y hx hy).2⟩
theorem vI_fold:∀ (I:List (Nat×Int)) (v:Int),(∀ p ∈ I,Ip p)→v-((I.length*QB:Nat):Int)≤I.foldl (fun v p=>v+p.2) v∧I.foldl (fun v p=>v+p.2) v≤v+((I.length*QB:Nat):Int)
 | [],v,_=>by simp
 | p::I,v,h=>by
   obtain ⟨h1,h2⟩:=vI_fold I (v+p.2) (fun q hq=>h q (List.mem_cons_of_mem _ hq))
   obtain ⟨_,h3,h4⟩:=h p List.mem_cons_self;rw [List.foldl_cons,List.length_cons,Nat.add_mul,Nat.one_mul];omega
theorem vI_bd (I:List (Nat×Int)) (h:∀ p ∈ I,Ip p):-((I.length*QB:Nat):Int)≤vI I∧vI I≤((I.length*QB:Nat):Int):=by
 have:=vI_fold I 0 h;unfold vI;omega
theorem sI_fold:∀ (I:List (Nat×Int)) (s:Sp),(∀ p ∈ I,Ip p)→s.pos→(I.foldl (fun s p=>s.cnt p.1 1) s).pos∧(I.foldl (fun s p=>s.cnt p.1 1) s).a=s.a+I.length
 | [],s,_,hs=>⟨hs,by simp⟩
 | p::I,s,h,hs=>by
   obtain ⟨h1,h2⟩:=sI_fold I (s.cnt p.1 1) (fun q hq=>h q (List.mem_cons_of_mem _ hq)) (hs.cnt _ (h p List.mem_cons_self).1)
   refine ⟨h1,?_⟩;rw [List.foldl_cons,h2,cnt_a,List.length_cons];omega
theorem sI_pos (I:List (Nat×Int)) (h:∀ p ∈ I,Ip p):(sI I).pos∧(sI I).a=I.length:=by
 have:=sI_fold I ⟨0,0,0,0,0,0⟩ h (by unfold Sp.pos;decide)
 unfold sI;refine ⟨this.1,?_⟩;rw [this.2];simp
def At12 (w:World) (g:Nat) (I:List (Nat×Int)):Prop:=Acc7 w g (vI I) (sI I)∧(∀ p ∈ I,Ip p)
theorem At12.ok {w:World}{g:Nat}{I:List (Nat×Int)}(h:At12 w g I) (hl:I.length≤1000000):(sI I).ok:=by
 obtain ⟨p1,p2⟩:=sI_pos I h.2;exact p1.ok (by rw [p2];omega)
theorem addP12 (g:Nat) (I:List (Nat×Int)) (x y:Nat) (w:World) (hA:At12 w g I) (hl:I.length<1000000) (hx:x<18446744073709551616) (hy:y<18446744073709551616) :
 Calls Tryz.prog 50 #[.pointer (some ⟨g,0,none⟩),.float .f64 x,.float .f64 y] w fun r w'=>r=.returned (.int .i64 0)∧At12 w' g (I++[(pK x y,pT x y)])∧But g w w':=by
 have C:=AddProduct7 g (vI I) (sI I) x y w hA.1 (hA.ok (by omega)) hx hy
 obtain ⟨p1,p2⟩:=sI_pos I hA.2;obtain ⟨v1,v2⟩:=vI_bd I hA.2;have hsm:=pT_small x y hx hy;have hkq:I.length*QB≤1000000*QB:=Nat.mul_le_mul_right _ (by omega)
 have hQ:=QB_HB;have hqp:=QB_pos;rw [put_ok _ _ _ _ (by omega) (by omega) (by omega)] at C
 refine C.mono ?_;rintro r w' ⟨rfl,h2,h3⟩;refine ⟨rfl,⟨?_,fun p hp=>?_⟩,h3⟩
 · rw [vI_snoc,sI_snoc];exact h2
 · rcases List.mem_append.1 hp with h | h
   · exact hA.2 p h
   · rw [List.mem_singleton] at h;subst h;exact ip_prod hx hy
end
section
open Go.RowKit J
theorem absSg (s:Bool) (v:Nat):(B.sg s v).natAbs=v:=by unfold B.sg;cases s <;> simp
end
section
open Go.RowKit J
abbrev Wd (x:Nat):Prop:=x<18446744073709551616
end
section
open Go.RowKit J
abbrev finW (x:Nat):Prop:=magW x<9218868437227405312
def fvW (x:Nat):Int:=B.sg (negW x) (vK (magW x))
theorem sg_abs (s:Bool) (v:Nat):(B.sg s v).natAbs=v:=absSg s v
end
section
open Go.RowKit J
theorem fin_parts {x:Nat}(hx:x<18446744073709551616) (fx:finW x):ngW x=negW x∧vK (magW x)=frW x*2^(xpW x+1074).toNat∧-1074≤xpW x∧((clW x=0∧frW x=0)∨((clW x=1∨clW x=2)∧frW x≠0)):=by
 have hm:magW x=eW x*4503599627370496+fW x:=by unfold magW eW fW;omega
 have he:eW x<2047:=by have h:magW x<9218868437227405312:=fx;omega
 have hf:fW x<4503599627370496:=Nat.mod_lt _ (by decide)
 refine ⟨by unfold ngW B.ng;rw [if_neg (by omega)];rfl,?_⟩
 by_cases h0:eW x=0
 · have hfr:frW x=fW x:=by unfold frW B.fr;rw [if_neg (by omega),if_pos h0];simp
   have hxp:xpW x=-1074:=by unfold xpW B.xp;rw [if_neg (by omega),if_pos h0]
   have hv:vK (magW x)=fW x:=by
    have:=vK_word 0 (fW x) (.inl rfl) (by omega)
    rw [hm,h0];simpa using this
   refine ⟨by rw [hv,hfr,hxp];simp,by omega,?_⟩
   by_cases hz:fW x=0
   · exact .inl ⟨by unfold clW B.cls;rw [if_neg (by omega),if_pos h0,if_pos hz],by omega⟩
   · exact .inr ⟨.inl (by unfold clW B.cls;rw [if_neg (by omega),if_pos h0,if_neg hz]),by omega⟩
 · have hfr:frW x=fW x+4503599627370496:=by unfold frW B.fr;rw [if_neg (by omega),if_neg h0];omega
   have hxp:xpW x=(eW x:Int)-1075:=by unfold xpW B.xp;rw [if_neg (by omega),if_neg h0]
   have hv:vK (magW x)=(fW x+4503599627370496)*2^(eW x-1):=by
    have:=vK_word (eW x-1) (fW x+4503599627370496) (.inr (by omega)) (by omega)
    rw [←this,hm,show eW x*4503599627370496+fW x=(eW x-1)*4503599627370496+(fW x+4503599627370496) by omega]
   refine ⟨by rw [hv,hfr,hxp,show ((eW x:Int)-1075+1074).toNat=eW x-1 by omega],by omega,.inr ⟨.inr (by unfold clW B.cls;rw [if_neg (by omega),if_neg h0]),by omega⟩⟩
theorem sg_prod (a b:Bool) (f g i j:Nat):sgn7 (!(a==b)) (f*g*2^(i+j))=B.sg a (f*2^i)*B.sg b (g*2^j):=by
 have e:f*g*2^(i+j)=(f*2^i)*(g*2^j):=by
  rw [Nat.pow_add,Nat.mul_mul_mul_comm]
 rw [e];generalize f*2^i=P;generalize g*2^j=Q;unfold sgn7 B.sg
 cases a <;> cases b <;> simp [Int.neg_mul,Int.mul_neg]
theorem pT_mul {x y:Nat}(hx:x<18446744073709551616) (hy:y<18446744073709551616) (fx:finW x) (fy:finW y):pT x y=fvW x*fvW y∧(pK x y=0∨pK x y=4∨pK x y=5):=by
 obtain ⟨n1,v1,x1,c1⟩:=fin_parts hx fx;obtain ⟨n2,v2,x2,c2⟩:=fin_parts hy fy;unfold pT pK fvW;rw [n1,n2,v1,v2]
 by_cases hz:clW x=0∨clW y=0
 · have hmin:min (clW x) (clW y)=0:=by omega
   have hmax:max (clW x) (clW y)≤2:=by omega
   have hpk:pk (max (clW x) (clW y)) (min (clW x) (clW y)) (!negW x==negW y)=4∨pk (max (clW x) (clW y)) (min (clW x) (clW y)) (!negW x==negW y)=5:=by
    unfold pk;rw [hmin,if_neg (by omega),if_neg (by omega),if_pos rfl]
    split
    · exact .inl rfl
    · exact .inr rfl
   refine ⟨?_,.inr hpk⟩;rw [pv7_no (by omega)]
   rcases c1 with ⟨_,f1⟩|⟨k1,_⟩
   · rw [f1];simp [B.sg]
   · rcases c2 with ⟨_,f2⟩ | ⟨k2,_⟩
     · rw [f2];simp [B.sg]
     · omega
 · have hpk:pk (max (clW x) (clW y)) (min (clW x) (clW y)) (!negW x==negW y)=0:=by
    unfold pk;rw [if_neg (by omega),if_neg (by omega),if_neg (by omega)]
   refine ⟨?_,.inl hpk⟩;rw [pv7_yes hpk,show (xpW x+xpW y+2148).toNat=(xpW x+1074).toNat+(xpW y+1074).toNat by omega]
   have e:(!negW x==negW y)=!(negW x==negW y):=by cases negW x <;> cases negW y <;> rfl
   rw [e];exact sg_prod _ _ _ _ _ _
end
section
open Go.RowKit
theorem pow_lt_iff {n a b:Nat}(hn:0<n):a^n<b^n↔a<b:=Nat.pow_lt_pow_iff_left (by omega)
theorem pow_inj_iff {n a b:Nat}(hn:0<n):a^n=b^n↔a=b:=by
 constructor
 · intro h
   rcases Nat.lt_trichotomy a b with k|k|k
   · have:=(pow_lt_iff hn).2 k;omega
   · exact k
   · have:=(pow_lt_iff hn).2 k;omega
 · intro h;rw [h]
structure Grid (v:Nat→Nat) (top:Nat):Prop where
 one:1<top
 zero:v 0=0
 mono:∀ {k l},k<l→v k<v l
 step:∀ k,k<top→∃ c j,v k=c*2^j∧v (k+1)=(c+1)*2^j∧c<9007199254740992∧j≤2045
structure LiesG (v:Nat→Nat) (top n:Nat) (K:Nat) (t:Bool) (m:Int) (V S:Nat):Prop where
 fin:K<top
 pos:0<S
 one:t=true→V=v K^n*S
 low:t=false→v K^n*S<V
 mids:t=false→V<v (K+1)^n*S→(m=-1∧2^n*V<(v K+v (K+1))^n*S∨m=0∧2^n*V=(v K+v (K+1))^n*S∨m=1∧(v K+v (K+1))^n*S<2^n*V)
 high:t=false→V<v (K+1)^n*S∨(K+1=top∧m=1)
def Alike (n P Q V S:Nat):Prop:=∀ c j,c≤18014398509481984→j≤2046→((c*2^j)*Q<2*P↔(c*2^j)^n*S<2^n*V)∧((c*2^j)*Q=2*P↔(c*2^j)^n*S=2^n*V)
theorem two_mul_pow (n a S V:Nat):((2*a)^n*S<2^n*V↔a^n*S<V)∧((2*a)^n*S=2^n*V↔a^n*S=V):=by
 have h:(2*a)^n*S=2^n*(a^n*S):=by rw [Nat.mul_pow,Nat.mul_assoc]
 have hp:0<2^n:=Nat.two_pow_pos n;rw [h];exact ⟨Nat.mul_lt_mul_left hp,⟨fun h=>Nat.eq_of_mul_eq_mul_left hp h,fun h=>by rw [h]⟩⟩
theorem LiesG.of_alike {v:Nat→Nat}{top n K:Nat}{t:Bool}{m:Int}{P Q V S:Nat}(G:Grid v top) (hn:0<n) (h:LiesG v top 1 K t m P Q) (hS:0<S) (hA:Alike n P Q V S):LiesG v top n K t m V S:=by
 obtain ⟨c,j,e1,e2,hc,hj⟩:=G.step K h.fin;have a1:=hA (2*c) j (by omega) (by omega)
 have a2:=hA (2*(c+1)) j (by omega) (by omega)
 have a3:=hA (2*c+1) j (by omega) (by omega)
 have g1:2*c*2^j=2*v K:=by rw [e1,Nat.mul_assoc]
 have g2:2*(c+1)*2^j=2*v (K+1):=by rw [e2,Nat.mul_assoc]
 have g3:(2*c+1)*2^j=v K+v (K+1):=by rw [e1,e2,←Nat.add_mul];congr 1;omega
 rw [g1] at a1;rw [g2] at a2;rw [g3] at a3;have b1:=two_mul_pow n (v K) S V;have b2:=two_mul_pow n (v (K+1)) S V;rw [b1.1,b1.2] at a1;rw [b2.1,b2.2] at a2;have d1:2*v K*Q=2*(v K*Q):=Nat.mul_assoc _ _ _;have d2:2*v (K+1)*Q=2*(v (K+1)*Q):=Nat.mul_assoc _ _ _;rw [d1] at a1;rw [d2] at a2;have h1:=h.one;have h2:=h.low;have h3:=h.mids;have h4:=h.high;simp only [Nat.pow_one] at h1 h2 h3 h4;generalize v K*Q=A at *;generalize v (K+1)*Q=B at *;generalize (v K+v (K+1))*Q=C at *
 have ge:∀ {x y x' y':Nat},((x<y↔x'<y')∧(x=y↔x'=y'))→(y<x↔y'<x'):=by
  intro x y x' y' ⟨p,q⟩
  constructor
  · intro hh
    rcases Nat.lt_trichotomy x' y' with k|k|k
    · have:=p.2 k;omega
    · have:=q.2 k;omega
    · exact k
  · intro hh
    rcases Nat.lt_trichotomy x y with k|k|k
    · have:=p.1 k;omega
    · have:=q.1 k;omega
    · exact k
 have a2':=ge a2;have a3':=ge a3;refine ⟨h.fin,hS,fun ht=>?_,fun ht=>?_,fun ht hlt=>?_,fun ht=>?_⟩
 · have:=h1 ht
   exact (a1.2.1 (by omega)).symm
 · exact a1.1.1 (by have:=h2 ht;omega)
 · have hb:P<B:=by have:=a2'.2 hlt;omega
   rcases h3 ht hb with ⟨q,r⟩|⟨q,r⟩|⟨q,r⟩
   · exact .inl ⟨q,a3'.1 r⟩
   · exact .inr (.inl ⟨q,(a3.2.1 r.symm).symm⟩)
   · exact .inr (.inr ⟨q,a3.1.1 r⟩)
 · rcases h4 ht with q | q
   · exact .inl (a2'.1 (by omega))
   · exact .inr q
theorem alike_span (n R p q V S d:Nat) (hn:0<n) (hS:0<S) (hR:9007199254740992≤R) (hd:d≤1)
 (h0:d=0→V*(2^q)^n=(R*2^p)^n*S) (h1:d=1→(R*2^p)^n*S<V*(2^q)^n∧V*(2^q)^n<((R+1)*2^p)^n*S) :
 Alike n ((2*R+d)*2^p) (2*2^q) V S:=by
 intro c j hc hj;have hq:0<(2^q)^n:=Nat.pow_pos (Nat.two_pow_pos q)
 -- both sides times 2^q
 have f1:(c*2^j)^n*S<2^n*V↔(c*2^(j+q))^n*S<2^n*(V*(2^q)^n):=by
  rw [←Nat.mul_lt_mul_right hq]
  have:(c*2^j)^n*S*(2^q)^n=(c*2^(j+q))^n*S:=by
   rw [Nat.mul_right_comm,←Nat.mul_pow,Nat.mul_assoc c,←Nat.pow_add]
  rw [this,Nat.mul_assoc]
 have f2:(c*2^j)^n*S=2^n*V↔(c*2^(j+q))^n*S=2^n*(V*(2^q)^n):=by
  have e:(c*2^j)^n*S*(2^q)^n=(c*2^(j+q))^n*S:=by
   rw [Nat.mul_right_comm,←Nat.mul_pow,Nat.mul_assoc c,←Nat.pow_add]
  rw [←e,←Nat.mul_assoc (2^n)];exact ⟨fun h=>by rw [h],fun h=>Nat.eq_of_mul_eq_mul_right hq h⟩
 have f3:c*2^j*(2*2^q)=2*(c*2^(j+q)):=by rw [Nat.pow_add,←Nat.mul_assoc c,Nat.mul_left_comm]
 rw [f1,f2,f3];generalize V*(2^q)^n=U at *;have g0:∀ a:Nat,(2*a)^n*S=2^n*(a^n*S):=fun a=>by rw [Nat.mul_pow,Nat.mul_assoc]
 have hp2:0<2^n:=Nat.two_pow_pos n;have hlt2:(c*2^(j+q)<(2*R+d)*2^p↔2*(c*2^(j+q))<2*((2*R+d)*2^p)):=by omega
 have heq2:(c*2^(j+q)=(2*R+d)*2^p↔2*(c*2^(j+q))=2*((2*R+d)*2^p)):=by omega
 rw [←hlt2,←heq2]
 -- powers times S
 have L:∀ a b:Nat,(a^n*S<b^n*S↔a<b):=fun a b=>by rw [Nat.mul_lt_mul_right hS,pow_lt_iff hn]
 have E:∀ a b:Nat,(a^n*S=b^n*S↔a=b):=fun a b=>⟨fun h=>(pow_inj_iff hn).1 (Nat.eq_of_mul_eq_mul_right hS h),fun h=>by rw [h]⟩
 rcases Nat.eq_zero_or_pos d with hd0|hd1
 · subst hd0
   have hU:=h0 rfl;have k1:(2*(R*2^p))^n*S=2^n*U:=by rw [g0,←hU]
   have k2:(2*R+0)*2^p=2*(R*2^p):=by rw [Nat.add_zero,Nat.mul_assoc]
   rw [k2,←k1,L,E];exact ⟨Iff.rfl,Iff.rfl⟩
 · obtain rfl:d=1:=by omega
   obtain ⟨u1,u2⟩:=h1 rfl;have k1:(2*(R*2^p))^n*S<2^n*U:=by rw [g0];exact Nat.mul_lt_mul_of_pos_left u1 hp2
   have k2:2^n*U<(2*((R+1)*2^p))^n*S:=by rw [g0];exact Nat.mul_lt_mul_of_pos_left u2 hp2
   have below:∀ x,x≤2*(R*2^p)→(x<(2*R+1)*2^p↔x^n*S<2^n*U)∧(x=(2*R+1)*2^p↔x^n*S=2^n*U):=by
    intro x hx
    have y1:x<(2*R+1)*2^p:=by
     have:=Nat.two_pow_pos p;rw [Nat.add_mul,Nat.mul_assoc,Nat.one_mul];omega
    have y2:x^n*S<2^n*U:=by
     refine Nat.lt_of_le_of_lt ?_ k1;exact Nat.mul_le_mul_right _ (Nat.pow_le_pow_left hx n)
    exact ⟨⟨fun _=>y2,fun _=>y1⟩,⟨fun h=>by omega,fun h=>by omega⟩⟩
   have above:∀ x,2*((R+1)*2^p)≤x→(x<(2*R+1)*2^p↔x^n*S<2^n*U)∧(x=(2*R+1)*2^p↔x^n*S=2^n*U):=by
    intro x hx
    have y1:(2*R+1)*2^p<x:=by
     have:=Nat.two_pow_pos p;refine Nat.lt_of_lt_of_le ?_ hx;rw [←Nat.mul_assoc];exact Nat.mul_lt_mul_of_pos_right (by omega) this
    have y2:2^n*U<x^n*S:=by
     refine Nat.lt_of_lt_of_le k2 ?_;exact Nat.mul_le_mul_right _ (Nat.pow_le_pow_left hx n)
    exact ⟨⟨fun h=>by omega,fun h=>by omega⟩,⟨fun h=>by omega,fun h=>by omega⟩⟩
   by_cases hjp:p<j+q
   · obtain ⟨i,hi⟩:∃ i,j+q=i+1+p:=⟨j+q-1-p,by omega⟩
     have e:c*2^(j+q)=2*((c*2^i)*2^p):=by
      rw [hi,Nat.pow_add,Nat.pow_succ,←Nat.mul_assoc,←Nat.mul_assoc,Nat.mul_comm (c*2^i) 2,Nat.mul_assoc 2]
     rw [e]
     rcases Nat.lt_or_ge R (c*2^i) with k|k
     · exact above _ (Nat.mul_le_mul_left _ (Nat.mul_le_mul_right _ k))
     · exact below _ (Nat.mul_le_mul_left _ (Nat.mul_le_mul_right _ k))
   · refine below _ ?_
     calc c*2^(j+q)≤18014398509481984*2^p:=Nat.mul_le_mul hc (Nat.pow_le_pow_right (by decide) (by omega))
      _≤(2*R)*2^p:=Nat.mul_le_mul_right _ (by omega)
      _=2*(R*2^p):=Nat.mul_assoc _ _ _
theorem alike_far (n P Q V S:Nat) (hn:0<n) (hP:∀ c j,c≤18014398509481984→j≤2046→c*2^j*Q<2*P) (hV:∀ c j,c≤18014398509481984→j≤2046→(c*2^j)^n*S<2^n*V):Alike n P Q V S:=by
 intro c j hc hj;have h1:=hP c j hc hj;have h2:=hV c j hc hj;exact ⟨⟨fun _=>h2,fun _=>h1⟩,⟨fun h=>by omega,fun h=>by omega⟩⟩
theorem alike_near (n P Q V S:Nat) (hn:0<n) (hP0:0<P) (hV0:0<V) (hS:0<S) (hP:2*P<Q) (hV:2^n*V<S):Alike n P Q V S:=by
 intro c j hc hj
 rcases Nat.eq_zero_or_pos (c*2^j) with h0|h0
 · rw [h0,Nat.zero_mul,Nat.zero_pow hn,Nat.zero_mul]
   have:=Nat.mul_pos (Nat.two_pow_pos n) hV0;exact ⟨⟨fun _=>this,fun _=>by omega⟩,⟨fun h=>by omega,fun h=>by omega⟩⟩
 · have h1:Q≤c*2^j*Q:=Nat.le_mul_of_pos_left _ h0
   have h2:S≤(c*2^j)^n*S:=Nat.le_mul_of_pos_left _ (Nat.pow_pos h0);exact ⟨⟨fun h=>by omega,fun h=>by omega⟩,⟨fun h=>by omega,fun h=>by omega⟩⟩
def cmpN (x y:Nat):Int:=if x<y then -1 else if y<x then 1 else 0
theorem LiesG.doc {v:Nat→Nat}{top n K:Nat}{t:Bool}{m:Int}{V S:Nat}(G:Grid v top) (hn:0<n) (h:LiesG v top n K t m V S) (k:Nat) (hk:k<top) (h1:v k^n*S≤V) (h2:k+1=top∨V<v (k+1)^n*S) :
 k=K∧t=decide (V=v K^n*S)∧(t=false→m=cmpN (2^n*V) ((v K+v (K+1))^n*S)):=by
 have L:∀ {a b:Nat},a<b→v a^n*S<v b^n*S:=fun {a b} q=>Nat.mul_lt_mul_of_pos_right ((pow_lt_iff hn).2 (G.mono q)) h.pos
 have Le:∀ {a b:Nat},a≤b→v a^n*S≤v b^n*S:=fun {a b} q=>by
  rcases Nat.lt_or_ge a b with k|k
  · exact Nat.le_of_lt (L k)
  · rw [show a=b by omega];exact Nat.le_refl _
 have hge:v K^n*S≤V:=by
  cases ht:t
  · exact Nat.le_of_lt (h.low ht)
  · rw [h.one ht];exact Nat.le_refl _
 have hfin:=h.fin
 have hkK:k=K:=by
  rcases Nat.lt_trichotomy k K with q|q|q
  · exfalso
    rcases h2 with e|e
    · omega
    · have:=Le (show k+1≤K by omega);omega
  · exact q
  · exfalso
    have a1:=Le (show K+1≤k by omega)
    have a2:=L (show K<K+1 by omega)
    cases t with
    | true=>have:=h.one rfl;omega
    | false =>
      rcases h.high rfl with e|e
      · omega
      · omega
 subst hkK;refine ⟨rfl,?_,?_⟩
 · cases t with
   | true=>exact (decide_eq_true (h.one rfl)).symm
   | false=>have:=h.low rfl;exact (decide_eq_false (by omega)).symm
 · intro ht
   by_cases hb:V<v (k+1)^n*S
   · have hm:=h.mids ht hb
     generalize 2^n*V=V2 at *;generalize (v k+v (k+1))^n*S=C at *;unfold cmpN
     rcases hm with ⟨e,q⟩|⟨e,q⟩|⟨e,q⟩
     · rw [if_pos q,e]
     · rw [if_neg (by omega),if_neg (by omega),e]
     · rw [if_neg (by omega),if_pos q,e]
   · rcases h.high ht with e | ⟨_,e⟩
     · exact absurd e hb
     · have hmid:(v k+v (k+1))^n*S<2^n*V:=by
        have q1:v k+v (k+1)<2*v (k+1):=by have:=G.mono (show k<k+1 by omega);omega
        have q2:(v k+v (k+1))^n*S<(2*v (k+1))^n*S:=Nat.mul_lt_mul_of_pos_right ((pow_lt_iff hn).2 q1) h.pos;rw [Nat.mul_pow,Nat.mul_assoc] at q2;have q3:=Nat.mul_le_mul_left (2^n) (Nat.le_of_not_lt hb);omega
       unfold cmpN;rw [if_neg (by omega),if_pos hmid,e]
theorem scale_lt (a b i k i' k':Nat) (h:i'+k=k'+i):a*2^i<b*2^k↔a*2^i'<b*2^k':=by
 rcases Nat.le_total i i' with q|q
 · obtain ⟨d,rfl⟩:∃ d,i'=i+d:=⟨i'-i,by omega⟩
   obtain rfl:k'=k+d:=by omega
   rw [Nat.pow_add,Nat.pow_add,←Nat.mul_assoc,←Nat.mul_assoc,Nat.mul_lt_mul_right (Nat.two_pow_pos d)]
 · obtain ⟨d,rfl⟩:∃ d,i=i'+d:=⟨i-i',by omega⟩
   obtain rfl:k=k'+d:=by omega
   rw [Nat.pow_add,Nat.pow_add,←Nat.mul_assoc,←Nat.mul_assoc,Nat.mul_lt_mul_right (Nat.two_pow_pos d)]
theorem scale_eq (a b i k i' k':Nat) (h:i'+k=k'+i):a*2^i=b*2^k↔a*2^i'=b*2^k':=by
 have h1:=scale_lt a b i k i' k' h;have h2:=scale_lt b a k i k' i' (by omega)
 generalize a*2^i=A at *;generalize a*2^i'=A' at *;generalize b*2^k=B at *;generalize b*2^k'=B' at *
 constructor
 · intro e;rcases Nat.lt_trichotomy A' B' with q | q | q
   · have:=h1.2 q;omega
   · exact q
   · have:=h2.2 q;omega
 · intro e;rcases Nat.lt_trichotomy A B with q | q | q
   · have:=h1.1 q;omega
   · exact q
   · have:=h2.1 q;omega
def cutS (Y size:Nat):Nat:=bl Y+size-262144
def higS (Y size:Nat):Nat:=Y/2^cutS Y size
def byS (X Y size:Nat):Int:=(bl (higS Y size):Int)+size-bl X
def levS (X Y size:Nat):Nat:=if byS X Y size<0 then X/2^(-byS X Y size).toNat else X*2^(byS X Y size).toNat
def who0 (X Y size:Nat):Nat:=levS X Y size/higS Y size
def lefS (X Y size:Nat):Nat:=levS X Y size%higS Y size
def lowS (Y size:Nat):Nat:=Y-higS Y size*2^cutS Y size
def hasS (X Y size:Nat):Nat:=lefS X Y size*2^cutS Y size
def takS (X Y size:Nat):Nat:=who0 X Y size*lowS Y size
def whoS (X Y size:Nat):Nat:=if hasS X Y size<takS X Y size then who0 X Y size-1 else who0 X Y size
def atS (X Y size:Nat):Bool:=decide (hasS X Y size=takS X Y size)&&decide (0≤byS X Y size)
structure DivS (X Y size:Nat):Prop where
 one:atS X Y size=true→X*2^((byS X Y size).toNat+cutS Y size)=whoS X Y size*Y*2^(-byS X Y size).toNat
 low:atS X Y size=false→whoS X Y size*Y*2^(-byS X Y size).toNat<X*2^((byS X Y size).toNat+cutS Y size)
 high:atS X Y size=false→X*2^((byS X Y size).toNat+cutS Y size)<(whoS X Y size+1)*Y*2^(-byS X Y size).toNat
 least:X≠0→2^(size-1)≤whoS X Y size+1
 most:whoS X Y size<2^(size+1)
 less:hasS X Y size<takS X Y size→1≤who0 X Y size
 hig:higS Y size≠0
 low':higS Y size*2^cutS Y size≤Y
 lowlt:lowS Y size<2^cutS Y size
 w0:who0 X Y size<2^(size+1)
 blh:bl (higS Y size)=bl Y-cutS Y size
 lev:levS X Y size<2^(bl (higS Y size)+size)
 lef:lefS X Y size<higS Y size
theorem bl_unique {X k:Nat}(h1:2^k≤X) (h2:X<2^(k+1)):bl X=k+1:=by
 have h0:X≠0:=by have:=Nat.two_pow_pos k;omega
 have a:=bl_lt X;have b:=bl_ge X h0;have c:=bl_pos X h0;have d1:=(Nat.pow_lt_pow_iff_right (a:=2) (by decide)).1 (Nat.lt_of_le_of_lt h1 a)
 have d2:=(Nat.pow_lt_pow_iff_right (a:=2) (by decide)).1 (Nat.lt_of_le_of_lt b h2)
 omega
theorem divS_facts (X Y size:Nat) (hX:X=0∨X%2=1) (hY:Y≠0) (hs0:1≤size) (hs:size≤1000) (hbX:bl X≤262144) (hbY:bl Y≤262144):DivS X Y size:=by
 obtain ⟨cut,ecut⟩:∃ c,cutS Y size=c:=⟨_,rfl⟩;obtain ⟨H,eH⟩:∃ c,higS Y size=c:=⟨_,rfl⟩;have eH':Y/2^cut=H:=by rw [←eH,←ecut];rfl
 have hD:0<2^cut:=Nat.two_pow_pos cut;have hYlt:=bl_lt Y;have hYge:=bl_ge Y hY;have hYpos:=bl_pos Y hY;have hcut:cut<bl Y∧(0<cut→cut=bl Y+size-262144):=by unfold cutS at ecut;omega
 have hH1:2^(bl Y-1-cut)≤H:=by
  rw [←eH',Nat.le_div_iff_mul_le hD,←Nat.pow_add,show bl Y-1-cut+cut=bl Y-1 by omega];exact hYge
 have hH2:H<2^(bl Y-1-cut+1):=by
  rw [←eH',Nat.div_lt_iff_lt_mul hD,←Nat.pow_add,show bl Y-1-cut+1+cut=bl Y by omega];exact hYlt
 have hblH:bl H=bl Y-cut:=by rw [bl_unique hH1 hH2];omega
 have hH0:0<H:=Nat.lt_of_lt_of_le (Nat.two_pow_pos _) hH1;have hHD:H*2^cut≤Y:=by rw [←eH'];exact Nat.div_mul_le_self _ _
 have hYdm:H*2^cut+Y%2^cut=Y:=by rw [←eH',Nat.mul_comm];exact Nat.div_add_mod Y _
 have hYm:=Nat.mod_lt Y hD;obtain ⟨Lo,eLo⟩:∃ c,lowS Y size=c:=⟨_,rfl⟩;have eLo':Y-H*2^cut=Lo:=by rw [←eLo];unfold lowS;rw [eH,ecut]
 have hLo:Lo<2^cut:=by omega
 have hYs:Y=H*2^cut+Lo:=by omega
 obtain ⟨b,eb⟩:∃ b,byS X Y size=b:=⟨_,rfl⟩;have eb':(bl H:Int)+size-bl X=b:=by rw [←eb];unfold byS;rw [eH]
 obtain ⟨lev,elev⟩:∃ c,levS X Y size=c:=⟨_,rfl⟩;have elev':(if b<0 then X/2^(-b).toNat else X*2^b.toNat)=lev:=by rw [←elev];unfold levS;rw [eb]
 obtain ⟨W0,eW0⟩:∃ c,who0 X Y size=c:=⟨_,rfl⟩;have eW0':lev/H=W0:=by rw [←eW0];unfold who0;rw [elev,eH]
 obtain ⟨Lf,eLf⟩:∃ c,lefS X Y size=c:=⟨_,rfl⟩;have eLf':lev%H=Lf:=by rw [←eLf];unfold lefS;rw [elev,eH]
 have hdm:H*W0+Lf=lev:=by rw [←eW0',←eLf'];exact Nat.div_add_mod lev H
 have hLf:Lf<H:=by rw [←eLf'];exact Nat.mod_lt _ hH0
 have eHas:hasS X Y size=Lf*2^cut:=by unfold hasS;rw [eLf,ecut]
 have eTak:takS X Y size=W0*Lo:=by unfold takS;rw [eW0,eLo]
 have hXlt:=bl_lt X
 have hlevlt:lev<2^(bl H+size):=by
  rw [←elev']
  split
  · rename_i hb
    rw [Nat.div_lt_iff_lt_mul (Nat.two_pow_pos _),←Nat.pow_add,show bl H+size+(-b).toNat=bl X by omega];exact hXlt
  · rename_i hb
    refine Nat.lt_of_lt_of_le (Nat.mul_lt_mul_of_pos_right hXlt (Nat.two_pow_pos _)) ?_;rw [←Nat.pow_add];exact Nat.pow_le_pow_right (by decide) (by omega)
 have hW0lt:W0<2^(size+1):=by
  rw [←eW0',Nat.div_lt_iff_lt_mul hH0];refine Nat.lt_of_lt_of_le hlevlt ?_;have:2^(size+1)*2^(bl Y-1-cut)≤2^(size+1)*H:=Nat.mul_le_mul_left _ hH1;rw [←Nat.pow_add,show size+1+(bl Y-1-cut)=bl H+size by omega] at this
  exact this
 have hW0ge:X≠0→2^(size-1)≤W0:=by
  intro h0;have hXge:=bl_ge X h0;have hXp:=bl_pos X h0
  have hl:2^(bl H+size-1)≤lev:=by
   rw [←elev']
   split
   · rename_i hb
     rw [Nat.le_div_iff_mul_le (Nat.two_pow_pos _),←Nat.pow_add,show bl H+size-1+(-b).toNat=bl X-1 by omega];exact hXge
   · rename_i hb
     refine Nat.le_trans ?_ (Nat.mul_le_mul_right _ hXge);rw [←Nat.pow_add];exact Nat.pow_le_pow_right (by decide) (by omega)
  rw [←eW0',Nat.le_div_iff_mul_le hH0];refine Nat.le_trans ?_ hl;have:2^(size-1)*H≤2^(size-1)*2^(bl H):=Nat.mul_le_mul_left _ (Nat.le_of_lt (bl_lt H));rw [←Nat.pow_add,show size-1+bl H=bl H+size-1 by omega] at this
  exact this
 -- whole times the low end is below Y
 have hWL:W0*Lo<Y:=by
  by_cases hc:cut=0
  · subst hc
    have:Lo=0:=by simpa using hLo
    rw [this,Nat.mul_zero];omega
  · have h1:W0*Lo<2^(size+1)*2^cut:=Nat.mul_lt_mul'' hW0lt hLo
    rw [←Nat.pow_add] at h1;refine Nat.lt_of_lt_of_le h1 (Nat.le_trans ?_ hYge);exact Nat.pow_le_pow_right (by decide) (by omega)
 -- what the level is,by whole
 have hsum:lev*2^cut+W0*Lo=W0*Y+Lf*2^cut:=by
  rw [←hdm,hYs,Nat.add_mul,Nat.mul_add,Nat.mul_comm H W0,Nat.mul_assoc];omega
 have hLfD:Lf*2^cut<Y:=Nat.lt_of_lt_of_le (Nat.mul_lt_mul_of_pos_right hLf hD) hHD
 have hless:hasS X Y size<takS X Y size→1≤W0:=by
  intro h;rw [eHas,eTak] at h
  rcases Nat.eq_zero_or_pos W0 with q|q
  · rw [q,Nat.zero_mul] at h;omega
  · exact q
 have eWho:whoS X Y size=if Lf*2^cut<W0*Lo then W0-1 else W0:=by unfold whoS;rw [eHas,eTak,eW0]
 have eAt:atS X Y size=(decide (Lf*2^cut=W0*Lo)&&decide (0≤b)):=by unfold atS;rw [eHas,eTak,eb]
 have key:(atS X Y size=true→X*2^(b.toNat+cut)=whoS X Y size*Y*2^(-b).toNat)∧(atS X Y size=false→whoS X Y size*Y*2^(-b).toNat<X*2^(b.toNat+cut)∧X*2^(b.toNat+cut)<(whoS X Y size+1)*Y*2^(-b).toNat):=by
  rw [eAt,eWho]
  by_cases hb:b<0
  · have hc0:cut=0:=by omega
    have hX0:X≠0:=by intro h;rw [h,bl_zero] at eb';omega
    have hXo:X%2=1:=by omega
    rw [if_pos hb] at elev';subst hc0;have hL0:Lo=0:=by simpa using hLo
    have hb1:b.toNat=0:=by omega
    rw [hL0,Nat.mul_zero,if_neg (by omega),hb1,Nat.add_zero,Nat.pow_zero,Nat.mul_one]
    rw [hL0,Nat.pow_zero,Nat.mul_one,Nat.mul_one,Nat.mul_zero] at hsum;rw [decide_eq_false (show ¬ 0≤b by omega),Bool.and_false]
    refine ⟨fun h=>(by cases h),fun _=>?_⟩
    obtain ⟨k,hk⟩:∃ k,(-b).toNat=k:=⟨_,rfl⟩;have hk0:0<k:=by omega
    rw [hk] at elev' ⊢;have hP:=Nat.two_pow_pos k;have hxm:2^k*lev+X%2^k=X:=by rw [←elev'];exact Nat.div_add_mod X _
    have hxl:=Nat.mod_lt X hP
    have hx0:X%2^k≠0:=by
     intro h;rw [h] at hxm;rw [show k=k-1+1 by omega,Nat.pow_succ,Nat.mul_comm _ 2,Nat.mul_assoc] at hxm
     omega
    have h1:W0*Y≤lev:=by omega
    have h2:lev+1≤(W0+1)*Y:=by
     rw [Nat.add_mul,Nat.one_mul];rw [Nat.pow_zero,Nat.mul_one] at hLfD;omega
    have h3:=Nat.mul_le_mul_right (2^k) h1;have h4:=Nat.mul_le_mul_right (2^k) h2;rw [Nat.add_mul,Nat.one_mul] at h4;rw [Nat.mul_comm] at hxm;omega
  · rw [if_neg hb] at elev'
    have hb1:(-b).toNat=0:=by omega
    rw [hb1,Nat.pow_zero,Nat.mul_one,Nat.mul_one,decide_eq_true (show 0≤b by omega),Bool.and_true]
    have e1:X*2^(b.toNat+cut)=lev*2^cut:=by rw [Nat.pow_add,←Nat.mul_assoc,elev']
    rw [e1];generalize lev*2^cut=L at *;generalize Lf*2^cut=A at *;generalize hT:W0*Lo=T at *
    by_cases hlt:A<T
    · rw [if_pos hlt]
      have hW1:1≤W0:=hless (by rw [eHas,eTak];exact hlt)
      obtain ⟨W,rfl⟩:∃ W,W0=W+1:=⟨W0-1,by omega⟩
      rw [Nat.add_sub_cancel];rw [Nat.add_mul,Nat.one_mul] at hsum ⊢;refine ⟨fun h=>?_,fun _=>by omega⟩
      have:=of_decide_eq_true h;omega
    · rw [if_neg hlt]
      rw [Nat.add_mul,Nat.one_mul];refine ⟨fun h=>?_,fun h=>?_⟩
      · have:=of_decide_eq_true h;omega
      · have:=of_decide_eq_false h;omega
 refine ⟨?_,?_,?_,?_,?_,?_,?_,?_,?_,?_,?_,?_,?_⟩
 · rw [eb,ecut];exact key.1
 · rw [eb,ecut];exact fun h=>(key.2 h).1
 · rw [eb,ecut];exact fun h=>(key.2 h).2
 · intro h
   have:=hW0ge h;rw [eWho];split <;> omega
 · rw [eWho];split <;> omega
 · rw [eW0];exact hless
 · rw [eH];omega
 · rw [eH,ecut];exact hHD
 · rw [eLo,ecut];exact hLo
 · rw [eW0];exact hW0lt
 · rw [eH,ecut];exact hblH
 · rw [elev,eH];exact hlevlt
 · rw [eLf,eH];exact hLf
theorem Alike.scale {n P Q P' Q' V S:Nat}(h:Alike n P' Q' V S) (hQ:0<Q) (hQ':0<Q') (e:P*Q'=P'*Q):Alike n P Q V S:=by
 intro c j hc hj;obtain ⟨h1,h2⟩:=h c j hc hj;rw [←h1,←h2];generalize c*2^j=g;have e1:g*Q*Q'=g*Q'*Q:=Nat.mul_right_comm _ _ _;have e2:2*P*Q'=2*P'*Q:=by rw [Nat.mul_assoc,e,Nat.mul_assoc]
 constructor
 · rw [←Nat.mul_lt_mul_right hQ',e1,e2,Nat.mul_lt_mul_right hQ]
 · constructor
   · intro k
     have:=congrArg (·*Q') k
     simp only [e1,e2] at this;exact Nat.eq_of_mul_eq_mul_right hQ this
   · intro k
     have:=congrArg (·*Q) k
     simp only [←e1,←e2] at this;exact Nat.eq_of_mul_eq_mul_right hQ' this
structure InSpan (n R d V S u:Nat) (h:Int):Prop where
 pos:0<S
 one:d=0→V*(2^(-(h+u)).toNat)^n=(R*2^(h+u).toNat)^n*S
 in':d=1→(R*2^(h+u).toNat)^n*S<V*(2^(-(h+u)).toNat)^n∧V*(2^(-(h+u)).toNat)^n<((R+1)*2^(h+u).toNat)^n*S
def clampE (h:Int):Int:=min (max (h-1) (-4096)) 4096
theorem alike_clamp (n R d V S u:Nat) (h:Int) (hn:0<n) (hR1:9007199254740992≤R) (hR2:R<2^100) (hd:d≤1) (hu0:149≤u) (hu1:u≤1074) (hI:InSpan n R d V S u h) :
 Alike n ((2*R+d)*2^(clampE h+u).toNat) (2^(-(clampE h+u)).toNat) V S:=by
 have hS:=hI.pos
 have hlo:(R*2^(h+u).toNat)^n*S≤V*(2^(-(h+u)).toNat)^n:=by
  rcases Nat.eq_zero_or_pos d with q|q
  · rw [hI.one q];exact Nat.le_refl _
  · exact Nat.le_of_lt (hI.in' (by omega)).1
 have hhi:V*(2^(-(h+u)).toNat)^n<((R+1)*2^(h+u).toNat)^n*S:=by
  rcases Nat.eq_zero_or_pos d with q|q
  · rw [hI.one q]
    exact Nat.mul_lt_mul_of_pos_right ((pow_lt_iff hn).2 (Nat.mul_lt_mul_of_pos_right (by omega) (Nat.two_pow_pos _))) hS
  · exact (hI.in' (by omega)).2
 by_cases h1:h-1 < -4096
 · have hc:clampE h=-4096:=by unfold clampE;omega
   rw [hc];have e1:((-4096:Int)+u).toNat=0:=by omega
   have e2:(h+u).toNat=0:=by omega
   rw [e1,Nat.pow_zero,Nat.mul_one];rw [e2,Nat.pow_zero,Nat.mul_one] at hlo hhi;obtain ⟨q,hq⟩:∃ q,(-(h+u)).toNat=q:=⟨_,rfl⟩;have hq1:3000≤q:=by omega
   rw [hq] at hlo hhi;obtain ⟨q',hq'⟩:∃ q',(-((-4096:Int)+u)).toNat=q':=⟨_,rfl⟩;have hq'1:3000≤q':=by omega
   rw [hq'];have hbig:∀ k,103≤k→2^103≤2^k:=fun k hk=>Nat.pow_le_pow_right (by decide) hk
   have b1:=hbig q (by omega)
   have b2:=hbig q' (by omega)
   have e103:(2:Nat)^103=8*2^100:=by decide
   have hqn:0<(2^q)^n:=Nat.pow_pos (Nat.two_pow_pos q);refine alike_near n _ _ V S hn (by omega) ?_ hS (by omega) ?_
   · rcases Nat.eq_zero_or_pos V with z | z
     · rw [z,Nat.zero_mul] at hlo
       have:=Nat.mul_pos (Nat.pow_pos (n:=n) (show 0<R by omega)) hS
       omega
     · exact z
   · have s1:2^n*V*(2^q)^n<(2*(R+1))^n*S:=by
      rw [Nat.mul_pow,Nat.mul_assoc,Nat.mul_assoc];exact Nat.mul_lt_mul_of_pos_left hhi (Nat.two_pow_pos n)
     have s2:(2*(R+1))^n*S≤(2^q)^n*S:=Nat.mul_le_mul_right _ (Nat.pow_le_pow_left (by omega) n)
     have s3:2^n*V*(2^q)^n<S*(2^q)^n:=by rw [Nat.mul_comm S];exact Nat.lt_of_lt_of_le s1 s2
     exact (Nat.mul_lt_mul_right hqn).1 s3
 · by_cases h2:4096<h-1
   · have hc:clampE h=4096:=by unfold clampE;omega
     rw [hc];have e1:(-((4096:Int)+u)).toNat=0:=by omega
     have e2:(-(h+u)).toNat=0:=by omega
     rw [e1,Nat.pow_zero];rw [e2,Nat.pow_zero,Nat.one_pow,Nat.mul_one] at hlo hhi;obtain ⟨A,hA⟩:∃ A,((4096:Int)+u).toNat=A:=⟨_,rfl⟩;obtain ⟨p,hp⟩:∃ p,(h+u).toNat=p:=⟨_,rfl⟩;rw [hA];rw [hp] at hlo hhi;have hA1:2101≤A:=by omega
     have hp1:2101≤p:=by omega
     have top:∀ c j k,c≤18014398509481984→j≤2046→2101≤k→c*2^j<2^k:=by
      intro c j k hcc hj hk;have h54:(18014398509481984:Nat)=2^54:=by decide
      calc c*2^j≤2^54*2^j:=Nat.mul_le_mul_right _ (by omega)
       _=2^(54+j):=(Nat.pow_add _ _ _).symm
       _<2^k:=Nat.pow_lt_pow_right (by decide) (by omega)
     refine alike_far n _ _ V S hn ?_ ?_
     · intro c j hcc hj
       have t:=top c j A hcc hj hA1;have:2^A≤(2*R+d)*2^A:=Nat.le_mul_of_pos_left _ (by omega)
       rw [Nat.mul_one];omega
     · intro c j hcc hj
       have t:=top c j p hcc hj hp1;have t2:2^p≤R*2^p:=Nat.le_mul_of_pos_left _ (by omega)
       have t3:(c*2^j)^n*S<(R*2^p)^n*S:=Nat.mul_lt_mul_of_pos_right ((pow_lt_iff hn).2 (by omega)) hS
       have t4:V≤2^n*V:=Nat.le_mul_of_pos_left _ (Nat.two_pow_pos n);omega
   · have hc:clampE h=h-1:=by unfold clampE;omega
     rw [hc];have sp:=alike_span n R (h+u).toNat (-(h+u)).toNat V S d hn hS hR1 hd hI.one hI.in';refine sp.scale (Nat.two_pow_pos _) (Nat.mul_pos (by decide) (Nat.two_pow_pos _)) ?_
     have e:∀ a b c k:Nat,a+1+b=c+k→(2*R+d)*2^a*(2*2^b)=(2*R+d)*2^c*2^k:=by
      intro a b c k hh;rw [Nat.mul_assoc,Nat.mul_assoc,←Nat.pow_add,←hh,Nat.pow_add,Nat.pow_succ,Nat.mul_assoc (2^a)]
     exact e _ _ _ _ (by omega)
def rV11 (X:Nat) (e f:Int) (u n:Nat):Nat:=X*2^(e-f+(n*u:Nat)).toNat
def rS11 (Y:Nat) (e f:Int) (u n:Nat):Nat:=Y*2^(-(e-f+(n*u:Nat))).toNat
theorem quo_span (X Y:Nat) (e f:Int) (u:Nat) (hY:Y≠0) (hD:DivS X Y 64) :
 InSpan 1 (whoS X Y 64) (if atS X Y 64 then 0 else 1) (rV11 X e f u 1) (rS11 Y e f u 1) u (e-f-byS X Y 64-cutS Y 64):=by
 have h1:=hD.one;have h2:=hD.low;have h3:=hD.high;generalize whoS X Y 64=W at *;generalize byS X Y 64=b at *;generalize cutS Y 64=cut at *;generalize atS X Y 64=t at *;have hY0:0<Y:=by omega
 have sides:∀ R:Nat,(R*2^(e-f-b-cut+u).toNat)^1*rS11 Y e f u 1=R*Y*2^((e-f-b-cut+u).toNat+(-(e-f+(1*u:Nat))).toNat):=by
  intro R;unfold rS11;rw [Nat.pow_one,Nat.pow_add,Nat.mul_assoc R,Nat.mul_assoc R,←Nat.mul_assoc (2^_) Y,Nat.mul_comm (2^_) Y,Nat.mul_assoc Y]
 have left:rV11 X e f u 1*(2^(-(e-f-b-cut+u)).toNat)^1=X*2^((e-f+(1*u:Nat)).toNat+(-(e-f-b-cut+u)).toNat):=by
  unfold rV11;rw [Nat.pow_one,Nat.pow_add,Nat.mul_assoc]
 refine ⟨Nat.mul_pos hY0 (Nat.two_pow_pos _),fun hd=>?_,fun hd=>?_⟩
 · have ht:t=true:=by cases t with
    | true=>rfl
    | false=>simp at hd
   rw [left,sides];exact (scale_eq X (W*Y) _ _ _ _ (by omega)).1 (h1 ht)
 · have ht:t=false:=by cases t with
    | true=>simp at hd
    | false=>rfl
   rw [left,sides,sides];exact ⟨(scale_lt (W*Y) X _ _ _ _ (by omega)).1 (h2 ht),(scale_lt X ((W+1)*Y) _ _ _ _ (by omega)).1 (h3 ht)⟩
end
section
open Go.RowKit
theorem Div_arg {w:World}{a b:Option Addr}{n c m d:Nat}{xs ys:List Nat}{V U:Nat}{z:Int}(h1:Arg w a n c xs) (h2:Arg w b m d ys) (e:divS (val xs) (val ys)=(V,U,z)) :
 Calls Tryz.prog 112 #[.slice a n c,.slice b m d] w fun r w'=>∃ v u,r=.returned (.tuple #[v,u,.int .i64 z])∧Nt w.heap.size w' v V∧Nt w.heap.size w' u U∧Below w.heap.size w w' :=
 (Div_any xs ys a b n c m d w.heap.size w h1.len h2.len h1.cap h2.cap (by have:=h1.big;omega) (by have:=h2.big;omega) h1.wf h2.wf h1.rd h2.rd (Nat.le_refl _)).mono
  fun r w' ⟨⟨v,u,h3,h4,h5,h6⟩,hb⟩=>by rw [e] at h3 h4 h5;exact ⟨v,u,h3,h4,h5,hb⟩
end
section
open Go.RowKit
theorem Len_arg {w:World}{a:Option Addr}{n c:Nat}{xs:List Nat}{k:Nat}(h1:Arg w a n c xs) (e:bl (val xs)=k) :
 Calls Tryz.prog 52 #[.slice a n c] w fun r w'=>r=.returned (.int .i64 (k:Nat))∧Below w.heap.size w w':=by
 subst e;exact (len_any xs a n c w.heap.size w h1.len h1.cap (by have:=h1.big;omega) h1.wf h1.rd).mono fun r w' ⟨h,e⟩=>⟨h,by rw [e];exact Below.refl _ _⟩
theorem shiftS_up {X V:Nat}{k:Nat}(hX:¬ LG X) (hb:X=0∨bl X+k≤262144) (e:X*2^k=V):shiftS X (k:Int)=(V,0):=by
 unfold shiftS;rw [if_neg hX]
 by_cases h0:X=0
 · rw [if_pos h0,←e,h0,Nat.zero_mul]
 · rw [if_neg h0,if_neg (by omega),if_neg (by omega)]
   simp [e]
theorem shiftS_dn {X V:Nat}{k:Nat}(hX:¬ LG X) (e:X/2^k=V):shiftS X (-(k:Int))=(V,0):=by
 unfold shiftS;rw [if_neg hX]
 by_cases h0:X=0
 · rw [if_pos h0,←e,h0,Nat.zero_div]
 · rw [if_neg h0]
   by_cases hk:k=0
   · subst hk
     rw [if_neg (by simp),if_neg (by have:=mt (LG_bl X).2 hX;omega)]
     simp at e;simp [e]
   · rw [if_pos (by omega)]
     simp [e]
theorem divS_ok {X Y:Nat}(h1:¬ LG X) (h2:¬ LG Y) (h:Y≠0) {V U:Nat}(e1:X/Y=V) (e2:X%Y=U):divS X Y=(V,U,0):=by
 unfold divS;rw [if_neg (by simp [h1,h2]),if_neg h,e1,e2]
theorem cmpLow_any {w:World}{a b q h:Option Addr}{ca cb cq ch:Nat}(W0 Lf Y H cut Bk Lo Tk' Hs:Nat) (z:Int) (AW:Arg w a (ws W0).length ca (ws W0)) (AL:Arg w b (ws Lf).length cb (ws Lf)) (AY:Arg w q (ws Y).length cq (ws Y)) (AH:Arg w h (ws H).length ch (ws H))
 (hc:cut≤4611686018427387904) (e1:shiftS H (cut:Int)=(Bk,0)) (e2:subS Y Bk=(Lo,0)) (e3:mulS W0 Lo=(Tk',0)) (e4:shiftS Lf (cut:Int)=(Hs,0)) (e5:cmpI Hs Tk'=z)
 (l1:(ws Bk).length≤8192) (l2:(ws Lo).length≤8192) (l3:(ws Tk').length≤8192) (l4:(ws Hs).length≤8192) :
 Calls Tryz.prog 113 #[.slice a (ws W0).length ca,.slice b (ws Lf).length cb,.slice q (ws Y).length cq,.slice h (ws H).length ch,.int .i64 (cut:Nat)] w fun r w'=>r=.returned (.int .i64 z)∧Below w.heap.size w w':=by
 rw [←val_ws H] at e1;rw [←val_ws Y,←val_ws Bk] at e2;rw [←val_ws W0,←val_ws Lo] at e3;rw [←val_ws Lf] at e4;rw [←val_ws Hs,←val_ws Tk'] at e5;have E:=(qsd (ai e1 (ai e2 (ai e3 (ai e4 e5)))));clear e1 e2 e3 e4 e5;have hbel:=Below.refl w.heap.size w;have S0:=(qsd (ai hbel (ai AW (ai AL (ai AY AH)))));clear hbel;clear AW AL AY AH;go_enter Tryz.func113,Tryz.ntmps113;obtain ⟨bel,AW,AL,AY,AH⟩:=S0.out;have HC:=hid (Shift_arg (cut:Int) AH E.out.1 (by omega) (by omega))
 clear bel AW AL AY AH
 go_wp2_with fail
 refine HC.out.mono ?_;rintro r u1 ⟨v,rfl,hN,hb⟩;obtain ⟨a1,c1,rfl,_⟩:=hN.arg (by omega)
 clear HC;obtain ⟨bel,AW,AL,AY,AH⟩:=S0.out;have hbn:=bel.trans (hb.mono bel.size);have S1:=qsd (ai hbn (ai (AW.below hb) (ai (AL.below hb) (ai (AY.below hb) (ai (AH.below hb) (hN.mono bel.size))))));clear bel AW AL AY AH;clear hb hbn S0;clear hN;obtain ⟨bel,AW,AL,AY,AH,NB⟩:=S1.out;have HC:=hid (Sub_arg AY (NB.arg' (by omega)).2 E.out.2.1)
 clear bel AW AL AY AH NB
 go_wp2_with fail
 refine HC.out.mono ?_;rintro r u2 ⟨v,rfl,hN,hb⟩;obtain ⟨a2,c2,rfl,_⟩:=hN.arg (by omega)
 clear HC;obtain ⟨bel,AW,AL,AY,AH,NB⟩:=S1.out;have hbn:=bel.trans (hb.mono bel.size);have S2:=qsd (ai hbn (ai (AW.below hb) (ai (AL.below hb) (ai (AY.below hb) (ai (AH.below hb) (ai (NB.below hb) (hN.mono bel.size)))))));clear bel AW AL AY AH NB;clear hb hbn S1;clear hN;obtain ⟨bel,AW,AL,AY,AH,NB,NL⟩:=S2.out;have HC:=hid (Mul_arg AW (NL.arg' (by omega)).2 E.out.2.2.1)
 clear bel AW AL AY AH NB NL
 go_wp2_with fail
 refine HC.out.mono ?_;rintro r u3 ⟨v,rfl,hN,hb⟩;obtain ⟨a3,c3,rfl,_⟩:=hN.arg (by omega)
 clear HC;obtain ⟨bel,AW,AL,AY,AH,NB,NL⟩:=S2.out;have hbn:=bel.trans (hb.mono bel.size);have S3:=qsd (ai hbn (ai (AW.below hb) (ai (AL.below hb) (ai (AY.below hb) (ai (AH.below hb) (ai (NB.below hb) (ai (NL.below hb) (hN.mono bel.size))))))));clear bel AW AL AY AH NB NL;clear hb hbn S2;clear hN;obtain ⟨bel,AW,AL,AY,AH,NB,NL,NT⟩:=S3.out;have HC:=hid (Shift_arg (cut:Int) AL E.out.2.2.2.1 (by omega) (by omega))
 clear bel AW AL AY AH NB NL NT
 go_wp2_with fail
 refine HC.out.mono ?_;rintro r u4 ⟨v,rfl,hN,hb⟩;obtain ⟨a4,c4,rfl,_⟩:=hN.arg (by omega)
 clear HC;obtain ⟨bel,AW,AL,AY,AH,NB,NL,NT⟩:=S3.out;have hbn:=bel.trans (hb.mono bel.size);have S4:=qsd (ai hbn (ai (AW.below hb) (ai (AL.below hb) (ai (AY.below hb) (ai (AH.below hb) (ai (NB.below hb) (ai (NL.below hb) (ai (NT.below hb) (hN.mono bel.size)))))))));clear bel AW AL AY AH NB NL NT;clear hb hbn S3;clear hN;obtain ⟨bel,AW,AL,AY,AH,NB,NL,NT,NS⟩:=S4.out;have HC:=hid (Cmp_arg (NS.arg' (by omega)).2 (NT.arg' (by omega)).2 z E.out.2.2.2.2)
 clear bel AW AL AY AH NB NL NT NS
 go_wp2_with fail
 refine HC.out.mono ?_;rintro r u5 ⟨rfl,hb⟩;clear HC;obtain ⟨bel,AW,AL,AY,AH,NB,NL,NT,NS⟩:=S4.out;have hbn:=bel.trans (hb.mono bel.size);have S5:=qsd (ai hbn (ai (AW.below hb) (ai (AL.below hb) (ai (AY.below hb) (ai (AH.below hb) (ai (NB.below hb) (ai (NL.below hb) (ai (NT.below hb) (NS.below hb)))))))));clear bel AW AL AY AH NB NL NT NS;clear hb hbn S4;have hbW:=hid S5.out.1;clear S5 E;go_wp2;go_ret;exact ⟨rfl,hbW.out⟩
end
section
open Go.RowKit
def Tk (w:World) (g T:Nat) (x y z:Value):Prop:=w.heap[g]?=some (.cells #[x,y,z] T (0,0))
theorem Tk.lt {w:World}{g T:Nat}{x y z:Value}(h:Tk w g T x y z):g<w.heap.size:=(Array.getElem?_eq_some_iff.1 h).1
theorem Tk.below {w w':World}{g T:Nat}{x y z:Value}(h:Tk w g T x y z) (hb:Below w.heap.size w w'):Tk w' g T x y z:=by
 unfold Tk;rw [hb.block g h.lt];exact h
theorem Tk.alloc {w:World}{g T:Nat}{x y z:Value}(h:Tk w g T x y z) (o:Obj):Tk (w.alloc o) g T x y z:=h.below (below_alloc w o)
theorem Tk.new (w:World) (T:Nat) (x y z:Value):Tk (w.alloc (.cells #[x,y,z] T)) w.heap.size T x y z:=heap_alloc_new _ _
theorem Tk.facts {w:World}{g T:Nat}{x y z:Value}(h:Tk w g T x y z) :
 w.cell? ⟨g,0,none⟩=some x∧w.cell? ⟨g,1,none⟩=some y∧w.cell? ⟨g,2,none⟩=some z∧w.frozen? ⟨g,0,none⟩=false∧w.frozen? ⟨g,1,none⟩=false∧w.frozen? ⟨g,2,none⟩=false:=by
 unfold Tk at h;simp [World.cell?,World.frozen?,h]
theorem Tk.set {w:World}{g T:Nat}{x y z:Value}(h:Tk w g T x y z) (a b c:Value):Tk (st3 w g a b c) g T a b c:=by
 unfold Tk at h ⊢;simp [st3,World.setCell,Array.getElem?_modify,h]
def Rq (w:World) (g:Nat) (n:Bool) (v:Value) (e:Int) (m:Bool) (u:Value) (f:Int):Prop:=w.heap[g]?=some (.cells #[.bool n,v,.int .i64 e,.bool m,u,.int .i64 f] 79 (0,0))
theorem Rq.lt {w:World}{g:Nat}{n:Bool}{v:Value}{e:Int}{m:Bool}{u:Value}{f:Int}(h:Rq w g n v e m u f):g<w.heap.size:=(Array.getElem?_eq_some_iff.1 h).1
theorem Rq.below {w w':World}{g:Nat}{n:Bool}{v:Value}{e:Int}{m:Bool}{u:Value}{f:Int}(h:Rq w g n v e m u f) (hb:Below w.heap.size w w'):Rq w' g n v e m u f:=by
 unfold Rq;rw [hb.block g h.lt];exact h
theorem Rq.alloc {w:World}{g:Nat}{n:Bool}{v:Value}{e:Int}{m:Bool}{u:Value}{f:Int}(h:Rq w g n v e m u f) (o:Obj):Rq (w.alloc o) g n v e m u f:=h.below (below_alloc w o)
theorem Rq.new (w:World) (n:Bool) (v:Value) (e:Int) (m:Bool) (u:Value) (f:Int):Rq (w.alloc (.cells #[.bool n,v,.int .i64 e,.bool m,u,.int .i64 f] 79)) w.heap.size n v e m u f:=heap_alloc_new _ _
theorem Rq.facts {w:World}{g:Nat}{n:Bool}{v:Value}{e:Int}{m:Bool}{u:Value}{f:Int}(h:Rq w g n v e m u f) :
 w.cell? ⟨g,0,none⟩=some (.bool n)∧w.cell? ⟨g,1,none⟩=some v∧w.cell? ⟨g,2,none⟩=some (.int .i64 e)∧w.cell? ⟨g,3,none⟩=some (.bool m)∧w.cell? ⟨g,4,none⟩=some u∧w.cell? ⟨g,5,none⟩=some (.int .i64 f):=by
 unfold Rq at h;simp [World.cell?,h]
theorem Rq.frz {w:World}{g:Nat}{n:Bool}{v:Value}{e:Int}{m:Bool}{u:Value}{f:Int}(h:Rq w g n v e m u f) :
 w.frozen? ⟨g,0,none⟩=false∧w.frozen? ⟨g,1,none⟩=false∧w.frozen? ⟨g,2,none⟩=false∧w.frozen? ⟨g,3,none⟩=false∧w.frozen? ⟨g,4,none⟩=false∧w.frozen? ⟨g,5,none⟩=false:=by
 unfold Rq at h;simp [World.frozen?,h]
abbrev st6 (w:World) (g:Nat) (a b c d e f:Value):World:=(((((w.setCell ⟨g,0,none⟩ a).setCell ⟨g,1,none⟩ b).setCell ⟨g,2,none⟩ c).setCell ⟨g,3,none⟩ d).setCell ⟨g,4,none⟩ e).setCell ⟨g,5,none⟩ f
theorem st6_but (g:Nat) (w:World) (a b c d e f:Value):But g w (st6 w g a b c d e f):=((((((But.refl g w).set _ _).set _ _).set _ _).set _ _).set _ _).set _ _
theorem Rq.set {w:World}{g:Nat}{n:Bool}{v:Value}{e:Int}{m:Bool}{u:Value}{f:Int}(h:Rq w g n v e m u f) (n':Bool) (v':Value) (e':Int) (m':Bool) (u':Value) (f':Int) :
 Rq (st6 w g (.bool n') v' (.int .i64 e') (.bool m') u' (.int .i64 f')) g n' v' e' m' u' f':=by
 unfold Rq at h ⊢;simp [st6,World.setCell,Array.getElem?_modify,h]
theorem Nt.off {lo:Nat}{w w':World}{v:Value}{X g:Nat}(h:Nt lo w v X) (hb:But g w w') (hg:v.ownBlock≠Option.some g):Nt lo w' v X:=by
 refine ⟨h.1,?_⟩
 rcases h.2 with hn|⟨g',cap,cur,rfl,hlo,hg',rest⟩
 · exact .inl hn
 · refine .inr ⟨g',cap,cur,rfl,hlo,?_,rest⟩
   rw [hb.block g' (Array.getElem?_eq_some_iff.1 hg').1 (by intro e;subst e;exact hg (by simp [Value.ownBlock]))];exact hg'
theorem Nt.notin {lo:Nat}{w:World}{v:Value}{X g T:Nat}{C:Array Value}{fz:Nat×Nat}(h:Nt lo w v X) (hT:T≠90) (hg:w.heap[g]?=Option.some (.cells C T fz)):v.ownBlock≠Option.some g:=by
 intro e
 rcases h.2 with ⟨rfl,_⟩|⟨g',cap,cur,rfl,_,h2,_⟩
 · simp [Value.ownBlock] at e
 · simp [Value.ownBlock] at e
   subst e;rw [hg] at h2;simp at h2;exact hT h2.2.1
theorem Nt.st3k {lo:Nat}{w:World}{v:Value}{X g T:Nat}{x y z:Value}(h:Nt lo w v X) (D:Tk w g T x y z) (hT:T≠90) (a b c:Value):Nt lo (st3 w g a b c) v X:=h.off (set3_but g w a b c) (h.notin hT D)
theorem Nt.st6k {lo:Nat}{w:World}{v:Value}{X g:Nat}{n:Bool}{p:Value}{e:Int}{m:Bool}{u:Value}{f:Int}(h:Nt lo w v X) (D:Rq w g n p e m u f) (a b c d q r:Value):Nt lo (st6 w g a b c d q r) v X:=h.off (st6_but g w a b c d q r) (h.notin (by decide) D)
theorem below_st3 {B g:Nat}{a w:World}(h:Below B a w) (hB:B≤w.heap.size) (hg:B≤g) (x y z:Value):Below B a (st3 w g x y z):=But.below h (set3_but g w x y z) hB hg
theorem below_st6 {B g:Nat}{a w:World}(h:Below B a w) (hB:B≤w.heap.size) (hg:B≤g) (x y z p q r:Value):Below B a (st6 w g x y z p q r):=But.below h (st6_but g w x y z p q r) hB hg
def Ap (v u:Value):Prop:=∀ g,v.ownBlock=some g→u.ownBlock≠some g
theorem Nt.blk {lo:Nat}{w:World}{v:Value}{X g:Nat}(h:Nt lo w v X) (hg:v.ownBlock=Option.some g):lo≤g∧g<w.heap.size:=by
 rcases h.2 with ⟨rfl,_⟩|⟨g',cap,cur,rfl,h1,h2,_⟩
 · simp [Value.ownBlock] at hg
 · simp [Value.ownBlock] at hg
   subst hg;exact ⟨h1,(Array.getElem?_eq_some_iff.1 h2).1⟩
theorem Nt.ap {lo:Nat}{w w':World}{v u:Value}{X Y:Nat}(h:Nt lo w v X) (k:Nt w.heap.size w' u Y):Ap v u:=by
 intro g hg hu;have:=(h.blk hg).2;have:=(k.blk hu).1;omega
theorem ws0:(ws 0).length=0:=by rw [ws_zero];rfl
end
end Go.Proofs.YtopgffjnejaijaaGreatDoor
