import Derived.Test.YthfkleadcnkglaaGreatDoorD32cx
import Derived.Test.YthfkleadcnkglaaGreatDoorW44x
import Derived.Test.YthfkleadcnkglaaGreatDoorD21x
import Derived.Deep.RegionWith
import Derived.Deep.RegionHeld3
import Derived.Deep.CutRange
import Derived.Test.YthfkleadcnkglaaGreatDoorS5x
import Derived.Test.YthfkleadcnkglaaGreatDoorP2x
import Derived.Test.YthfkleadcnkglaaGreatDoorD5x
set_option linter.unusedVariables false
set_option linter.unusedSimpArgs false
set_option maxHeartbeats 16000000
set_option maxRecDepth 20000
namespace Go.Proofs.YthfkleadcnkglaaGreatDoor
namespace J
end J
section
open Go.RowKit
theorem rSign_any3 {w:World}{a:Option Addr}{n c:Nat}{xs:List Nat}(h1:Arg w a n c xs) (ng:Bool) (e:Int) :
 Calls Tryz.prog 75 #[.agg #[.bool ng,.slice a n c,.int .i64 e]] w fun r w'=>r=.returned (.int .i64 (sgn ng (val xs)))∧Below w.heap.size w w':=by
 have hB:Below w.heap.size w (w.alloc (.cells #[.bool ng,.slice a n c,.int .i64 e] 47)):=below_alloc w _;have A1:=h1.below hB;have hbig:=h1.big;have H1:=hid (rLen_any xs a n c _ _ A1.len (by omega) A1.wf A1.rd)
 obtain ⟨X,hX⟩:∃ X,val xs=X:=⟨_,rfl⟩;rw [hX] at H1 ⊢;have SB:=qsd hB;clear hB A1 h1 hX hbig;unfold sgn
 by_cases h0:X=0
 · rw [if_pos h0]
   have hb:bl X=0:=by rw [h0,bl_zero]
   rw [hb] at H1;clear h0 hb;go_enter Tryz.func75,Tryz.ntmps75
   go_wp2_with fail
   refine H1.out.mono ?_;rintro r w1 ⟨rfl,rfl⟩;go_wp2;go_ret;exact ⟨rfl,SB.out⟩
 · rw [if_neg h0]
   obtain ⟨b,hb⟩:∃ b,bl X=b:=⟨_,rfl⟩;have hb0:((b:Int)==0)=false:=by have:=bl_pos X h0;simp;omega
   rw [hb] at H1;clear h0 hb
   cases ng
   · simp only [Bool.false_eq_true,if_false]
     go_enter Tryz.func75,Tryz.ntmps75
     go_wp2_with fail
     refine H1.out.mono ?_;rintro r w1 ⟨rfl,rfl⟩;go_wp2;go_ret;exact ⟨rfl,SB.out⟩
   · simp only [if_true]
     go_enter Tryz.func75,Tryz.ntmps75
     go_wp2_with fail
     refine H1.out.mono ?_;rintro r w1 ⟨rfl,rfl⟩;go_wp2;go_ret;exact ⟨rfl,SB.out⟩
theorem moved_raw {w:World}{a:Option Addr}{l c:Nat}{xs:List Nat}{X:Nat}(k:Nat) (h1:Arg w a l c xs) (hX:val xs=X) (hl:l≤2000000) (hk:k≤64000000) :
 Calls Tryz.prog 71 #[.slice a l c,.int .i64 (k:Nat)] w fun r w'=>∃ v,r=.returned v∧Nt w.heap.size w' v (X*2^k)∧Below w.heap.size w w':=by
 obtain ⟨q,hq⟩:∃ q,q=k/32:=⟨_,rfl⟩;obtain ⟨s,hs⟩:∃ s,s=k%32:=⟨_,rfl⟩;have e1:(k:Int)/32=(q:Int):=by omega
 have e2:(k:Int)%32=(s:Int):=by omega
 have hqb:q≤2000000:=by omega
 have hs32:s<32:=by omega
 obtain ⟨W1,hW1⟩:∃ W,W=w.alloc (.cells (madeCells #[.int .u32 0] q) 133):=⟨_,rfl⟩;have hO1:Own W1 w.heap.size (List.replicate q 0):=by rw [hW1];exact Own.made w q
 have hB1:Below w.heap.size w W1:=by rw [hW1];exact (Below.refl _ _).alloc (Nat.le_refl _) _
 have hmk:=make_words (q:Int) q rfl (by omega) w
 rw [←hW1] at hmk;have hR:=own_row_made hO1 (by simp;omega)
 simp only [List.length_replicate] at hR;have A1:=h1.below hB1;obtain ⟨v',w2,hap,hown,hgrow⟩:=append_words W1 w.heap.size _ q (List.replicate q 0) xs a l c W1.heap.size 45 hR A1.len A1.rd A1.nil (by omega) hB1.size
 have hB2:Below w.heap.size w w2:=hB1.grown hgrow hB1.size (fun k hk=>by simp [Value.ownBlock] at hk;omega)
 obtain ⟨a2,c2,rfl,hc2,hl2,hnil2,hRd2⟩:=Rw.words hown;have AO:Arg w2 a2 (q+l) c2 (List.replicate q 0++xs):=⟨hl2,hc2,by omega,(Wf.zeros q).append h1.wf,hRd2,hnil2⟩
 have hval:val (List.replicate q 0++xs)=X*pw q:=by
  rw [val_append,val_zeros,hX,List.length_replicate,Nat.zero_add,Nat.mul_comm]
 have hpw:pw q*2^s=2^k:=by
  have:pw q=2^(32*q):=by unfold pw;rw [Nat.pow_mul]
  rw [this,←Nat.pow_add]
  congr 1
  omega
 have hps:=pow_small s hs32;obtain ⟨p,hp⟩:∃ p,p=2^s:=⟨_,rfl⟩
 have e3:(2:Int)^s=(p:Int):=by
  have h5:((2^s:Nat):Int)=(2:Int)^s:=by simp
  rw [←h5,←hp]
 have hpl:p<4294967296:=by omega
 have T1:=hid (rTimes_arg (V:=X*2^k) (AO.below (below_alloc w2 _)) (lit_arg w2 p (by omega)) (by omega) (by rw [hval];simp only [val];rw [←hpw,hp,Nat.mul_assoc];simp))
 have HAP:=hid hap;have hs2:=hB2.size;have S1:=qsd hB2;clear hap hown hgrow hB2 hl2 hnil2 hRd2 AO hval hpw A1 hR hO1 hB1 h1 hW1 hq hs hps hp hX;go_enter Tryz.func71,Tryz.ntmps71
 go_wp2_with (at_builtin;refine wpList_append_run2 rfl (.tmp 39) (.tmp 40) 45 rfl _ _ rfl rfl _ _ HAP.out ?_)
 refine T1.out.mono ?_;rintro r u3 ⟨v3,rfl,hN3,hb3⟩;have S2:=(qsd (ai hN3 hb3));clear hN3 hb3;go_wp2;go_ret;obtain ⟨hN3,hb3⟩:=S2.out;exact ⟨v3,rfl,hN3.mono (by simp;omega),S1.out.trans (((below_alloc w2 _).trans (hb3.mono (by simp))).mono hs2)⟩
theorem ag_zero1 {w:World}{a b:Option Addr}{n c m d:Nat}(e f:Int) (x y:Nat) (bx:x≤1125899906842624) (by':y≤1125899906842624) (hx:x=0) (z:Int)
 (H1:Hid (Calls Tryz.prog 124 #[.slice a n c] w fun r w'=>r=.returned (.int .i64 (x:Nat))∧w'=w))
 (H2:Hid (Calls Tryz.prog 124 #[.slice b m d] w fun r w'=>r=.returned (.int .i64 (y:Nat))∧w'=w))
 (HC:Hid (Calls Tryz.prog 73 #[.slice a n c,.slice b m d] w fun r w'=>r=.returned (.int .i64 z)∧Below w.heap.size w w')):Calls Tryz.prog 76 #[.slice a n c,.int .i64 e,.slice b m d,.int .i64 f] w fun r w'=>r=.returned (.int .i64 z)∧Below w.heap.size w w':=by
 have ex:IntKind.u64.wrap (x:Int)=(x:Int):=by rw [IntKind.wrap_u64];omega
 have ey:IntKind.u64.wrap (y:Int)=(y:Int):=by rw [IntKind.wrap_u64];omega
 subst hx;go_enter Tryz.func76,Tryz.ntmps76
 go_wp2_with fail
 refine H1.out.mono ?_;rintro r ww ⟨rfl,hw⟩;rw [hw];clear hw ww
 go_wp2_with fail
 refine H2.out.mono ?_;rintro r ww ⟨rfl,hw⟩;rw [hw];clear hw ww
 go_wp2_with fail
 refine HC.out.mono ?_;rintro r u1 ⟨rfl,hb⟩;have S1:=qsd hb;clear hb;go_wp2;go_ret;exact ⟨rfl,S1.out⟩
theorem ag_zero2 {w:World}{a b:Option Addr}{n c m d:Nat}(e f:Int) (x y:Nat) (bx:x≤1125899906842624) (by':y≤1125899906842624) (hx:((x:Int)==0)=false) (hy:y=0) (z:Int)
 (H1:Hid (Calls Tryz.prog 124 #[.slice a n c] w fun r w'=>r=.returned (.int .i64 (x:Nat))∧w'=w))
 (H2:Hid (Calls Tryz.prog 124 #[.slice b m d] w fun r w'=>r=.returned (.int .i64 (y:Nat))∧w'=w))
 (HC:Hid (Calls Tryz.prog 73 #[.slice a n c,.slice b m d] w fun r w'=>r=.returned (.int .i64 z)∧Below w.heap.size w w')):Calls Tryz.prog 76 #[.slice a n c,.int .i64 e,.slice b m d,.int .i64 f] w fun r w'=>r=.returned (.int .i64 z)∧Below w.heap.size w w':=by
 have ex:IntKind.u64.wrap (x:Int)=(x:Int):=by rw [IntKind.wrap_u64];omega
 have ey:IntKind.u64.wrap (y:Int)=(y:Int):=by rw [IntKind.wrap_u64];omega
 subst hy;go_enter Tryz.func76,Tryz.ntmps76
 go_wp2_with fail
 refine H1.out.mono ?_;rintro r ww ⟨rfl,hw⟩;rw [hw];clear hw ww
 go_wp2_with fail
 refine H2.out.mono ?_;rintro r ww ⟨rfl,hw⟩;rw [hw];clear hw ww
 go_wp2_with fail
 refine HC.out.mono ?_;rintro r u1 ⟨rfl,hb⟩;have S1:=qsd hb;clear hb;go_wp2;go_ret;exact ⟨rfl,S1.out⟩
theorem ag_turn {w:World}{a b:Option Addr}{n c m d:Nat}(e f:Int) (x y:Nat) (bx:x≤1125899906842624) (by':y≤1125899906842624) (hx:((x:Int)==0)=false) (hy:((y:Int)==0)=false) (hlt:e<f) (z:Int) (hz0:-1≤z) (hz1:z≤1)
 (H1:Hid (Calls Tryz.prog 124 #[.slice a n c] w fun r w'=>r=.returned (.int .i64 (x:Nat))∧w'=w))
 (H2:Hid (Calls Tryz.prog 124 #[.slice b m d] w fun r w'=>r=.returned (.int .i64 (y:Nat))∧w'=w))
 (HR:Hid (Calls Tryz.prog 76 #[.slice b m d,.int .i64 f,.slice a n c,.int .i64 e] w fun r w'=>r=.returned (.int .i64 z)∧Below w.heap.size w w')):Calls Tryz.prog 76 #[.slice a n c,.int .i64 e,.slice b m d,.int .i64 f] w fun r w'=>r=.returned (.int .i64 (-z))∧Below w.heap.size w w':=by
 have ex:IntKind.u64.wrap (x:Int)=(x:Int):=by rw [IntKind.wrap_u64];omega
 have ey:IntKind.u64.wrap (y:Int)=(y:Int):=by rw [IntKind.wrap_u64];omega
 go_enter Tryz.func76,Tryz.ntmps76
 go_wp2_with fail
 refine H1.out.mono ?_;rintro r ww ⟨rfl,hw⟩;rw [hw];clear hw ww
 go_wp2_with fail
 refine H2.out.mono ?_;rintro r ww ⟨rfl,hw⟩;rw [hw];clear hw ww
 go_wp2_with fail
 refine HR.out.mono ?_;rintro r u1 ⟨rfl,hb⟩;have S1:=qsd hb;clear hb;go_wp2;go_ret;exact ⟨rfl,S1.out⟩
theorem ag_far {w:World}{a b:Option Addr}{n c m d:Nat}(e f:Int) (x y:Nat) (bx:x≤1125899906842624) (by':y≤1125899906842624) (hx:((x:Int)==0)=false) (hy:((y:Int)==0)=false) (hge:decide (e<f)=false) (dd:Nat) (hap:IntKind.u64.wrap (IntKind.u64.wrap e-IntKind.u64.wrap f)=(dd:Int)) (hd:1099511627776<dd)
 (H1:Hid (Calls Tryz.prog 124 #[.slice a n c] w fun r w'=>r=.returned (.int .i64 (x:Nat))∧w'=w))
 (H2:Hid (Calls Tryz.prog 124 #[.slice b m d] w fun r w'=>r=.returned (.int .i64 (y:Nat))∧w'=w)):Calls Tryz.prog 76 #[.slice a n c,.int .i64 e,.slice b m d,.int .i64 f] w fun r w'=>r=.returned (.int .i64 1)∧Below w.heap.size w w':=by
 have hd2:(1099511627776:Int)<(dd:Int):=by omega
 have ex:IntKind.u64.wrap (x:Int)=(x:Int):=by rw [IntKind.wrap_u64];omega
 have ey:IntKind.u64.wrap (y:Int)=(y:Int):=by rw [IntKind.wrap_u64];omega
 go_enter Tryz.func76,Tryz.ntmps76
 go_wp2_with fail
 refine H1.out.mono ?_;rintro r ww ⟨rfl,hw⟩;rw [hw];clear hw ww
 go_wp2_with fail
 refine H2.out.mono ?_;rintro r ww ⟨rfl,hw⟩;rw [hw];clear hw ww;go_wp2;go_ret;exact ⟨rfl,Below.refl _ _⟩
theorem ag_more {w:World}{a b:Option Addr}{n c m d:Nat}(e f:Int) (x y:Nat) (bx:x≤1125899906842624) (by':y≤1125899906842624) (hx:((x:Int)==0)=false) (hy:((y:Int)==0)=false) (hge:decide (e<f)=false) (dd:Nat) (hap:IntKind.u64.wrap (IntKind.u64.wrap e-IntKind.u64.wrap f)=(dd:Int)) (hd:dd≤1099511627776) (h1:y<x+dd)
 (H1:Hid (Calls Tryz.prog 124 #[.slice a n c] w fun r w'=>r=.returned (.int .i64 (x:Nat))∧w'=w))
 (H2:Hid (Calls Tryz.prog 124 #[.slice b m d] w fun r w'=>r=.returned (.int .i64 (y:Nat))∧w'=w)):Calls Tryz.prog 76 #[.slice a n c,.int .i64 e,.slice b m d,.int .i64 f] w fun r w'=>r=.returned (.int .i64 1)∧Below w.heap.size w w':=by
 have hd2:decide ((1099511627776:Int)<(dd:Int))=false:=decide_eq_false (by omega)
 have hd3:decide (1099511627776<dd)=false:=decide_eq_false (by omega)
 have es:IntKind.u64.wrap ((x:Int)+(dd:Int))=(x:Int)+(dd:Int):=by rw [IntKind.wrap_u64];omega
 have h2:(y:Int)<(x:Int)+(dd:Int):=by omega
 have ex:IntKind.u64.wrap (x:Int)=(x:Int):=by rw [IntKind.wrap_u64];omega
 have ey:IntKind.u64.wrap (y:Int)=(y:Int):=by rw [IntKind.wrap_u64];omega
 go_enter Tryz.func76,Tryz.ntmps76
 go_wp2_with fail
 refine H1.out.mono ?_;rintro r ww ⟨rfl,hw⟩;rw [hw];clear hw ww
 go_wp2_with fail
 refine H2.out.mono ?_;rintro r ww ⟨rfl,hw⟩;rw [hw];clear hw ww;go_wp2;go_ret;exact ⟨rfl,Below.refl _ _⟩
theorem ag_less {w:World}{a b:Option Addr}{n c m d:Nat}(e f:Int) (x y:Nat) (bx:x≤1125899906842624) (by':y≤1125899906842624) (hx:((x:Int)==0)=false) (hy:((y:Int)==0)=false) (hge:decide (e<f)=false) (dd:Nat) (hap:IntKind.u64.wrap (IntKind.u64.wrap e-IntKind.u64.wrap f)=(dd:Int)) (hd:dd≤1099511627776) (h1:x+dd<y)
 (H1:Hid (Calls Tryz.prog 124 #[.slice a n c] w fun r w'=>r=.returned (.int .i64 (x:Nat))∧w'=w))
 (H2:Hid (Calls Tryz.prog 124 #[.slice b m d] w fun r w'=>r=.returned (.int .i64 (y:Nat))∧w'=w)):Calls Tryz.prog 76 #[.slice a n c,.int .i64 e,.slice b m d,.int .i64 f] w fun r w'=>r=.returned (.int .i64 (-1))∧Below w.heap.size w w':=by
 have hd2:decide ((1099511627776:Int)<(dd:Int))=false:=decide_eq_false (by omega)
 have hd3:decide (1099511627776<dd)=false:=decide_eq_false (by omega)
 have es:IntKind.u64.wrap ((x:Int)+(dd:Int))=(x:Int)+(dd:Int):=by rw [IntKind.wrap_u64];omega
 have h2:(x:Int)+(dd:Int)<(y:Int):=by omega
 have h3:decide ((y:Int)<(x:Int)+(dd:Int))=false:=decide_eq_false (by omega)
 have h4:decide (y<x+dd)=false:=decide_eq_false (by omega)
 have ex:IntKind.u64.wrap (x:Int)=(x:Int):=by rw [IntKind.wrap_u64];omega
 have ey:IntKind.u64.wrap (y:Int)=(y:Int):=by rw [IntKind.wrap_u64];omega
 go_enter Tryz.func76,Tryz.ntmps76
 go_wp2_with fail
 refine H1.out.mono ?_;rintro r ww ⟨rfl,hw⟩;rw [hw];clear hw ww
 go_wp2_with fail
 refine H2.out.mono ?_;rintro r ww ⟨rfl,hw⟩;rw [hw];clear hw ww;go_wp2;go_ret;exact ⟨rfl,Below.refl _ _⟩
theorem ag_even {w:World}{a b:Option Addr}{n c m d:Nat}(e f:Int) (x y:Nat) (bx:x≤1125899906842624) (by':y≤1125899906842624) (hx:((x:Int)==0)=false) (hy:((y:Int)==0)=false) (hge:decide (e<f)=false) (dd:Nat) (hap:IntKind.u64.wrap (IntKind.u64.wrap e-IntKind.u64.wrap f)=(dd:Int)) (hd:dd≤64000000) (h1:x+dd=y) (P:Nat) (lP:(ws P).length≤35184372088832) (z:Int)
 (H1:Hid (Calls Tryz.prog 124 #[.slice a n c] w fun r w'=>r=.returned (.int .i64 (x:Nat))∧w'=w))
 (H2:Hid (Calls Tryz.prog 124 #[.slice b m d] w fun r w'=>r=.returned (.int .i64 (y:Nat))∧w'=w))
 (HM:Hid (Calls Tryz.prog 71 #[.slice a n c,.int .i64 (dd:Nat)] w fun r w'=>∃ v,r=.returned v∧Nt w.heap.size w' v P∧Below w.heap.size w w'))
 (HC:Hid (∀ u p q,Below w.heap.size w u→Arg u p (ws P).length q (ws P)→Calls Tryz.prog 73 #[.slice p (ws P).length q,.slice b m d] u fun r w'=>r=.returned (.int .i64 z)∧Below u.heap.size u w')):Calls Tryz.prog 76 #[.slice a n c,.int .i64 e,.slice b m d,.int .i64 f] w fun r w'=>r=.returned (.int .i64 z)∧Below w.heap.size w w':=by
 have hd2:decide ((1099511627776:Int)<(dd:Int))=false:=decide_eq_false (by omega)
 have hd3:decide (1099511627776<dd)=false:=decide_eq_false (by omega)
 have es:IntKind.u64.wrap ((x:Int)+(dd:Int))=(x:Int)+(dd:Int):=by rw [IntKind.wrap_u64];omega
 have h2:decide ((x:Int)+(dd:Int)<(y:Int))=false:=decide_eq_false (by omega)
 have h3:decide ((y:Int)<(x:Int)+(dd:Int))=false:=decide_eq_false (by omega)
 have h4:decide (y<x+dd)=false:=decide_eq_false (by omega)
 have h5:decide (x+dd<y)=false:=decide_eq_false (by omega)
 have ed:IntKind.i64.wrap (dd:Int)=(dd:Int):=by rw [IntKind.wrap_i64];omega
 clear h1;have ex:IntKind.u64.wrap (x:Int)=(x:Int):=by rw [IntKind.wrap_u64];omega
 have ey:IntKind.u64.wrap (y:Int)=(y:Int):=by rw [IntKind.wrap_u64];omega
 go_enter Tryz.func76,Tryz.ntmps76
 go_wp2_with fail
 refine H1.out.mono ?_;rintro r ww ⟨rfl,hw⟩;rw [hw];clear hw ww
 go_wp2_with fail
 refine H2.out.mono ?_;rintro r ww ⟨rfl,hw⟩;rw [hw];clear hw ww
 go_wp2_with fail
 refine HM.out.mono ?_;rintro r u1 ⟨v,rfl,hN,hb⟩;obtain ⟨a1,c1,rfl,A1⟩:=hN.arg lP;have HC1:=hid (HC.out u1 a1 c1 hb A1);have hs1:=hb.size;have S1:=qsd hb;clear hN hb A1
 go_wp2_with fail
 refine HC1.out.mono ?_;rintro r u2 ⟨rfl,hb⟩;have S2:=qsd (S1.out.trans (hb.mono hs1));clear hb;go_wp2;go_ret;exact ⟨rfl,S2.out⟩
def agV (X:Nat) (e:Int) (Y:Nat) (f:Int):Int:=if X=0∨Y=0 then cmpI X Y else cmpP X e Y f
theorem against_ge {w:World}{a b:Option Addr}{n c m d:Nat}{xs ys:List Nat}(h1:Arg w a n c xs) (h2:Arg w b m d ys) (hn:n≤2000000) (hm:m≤2000000) (e f:Int) (he0:-9223372036854775808≤e) (he1:e≤9223372036854775807) (hf0:-9223372036854775808≤f) (hf1:f≤9223372036854775807) (h:f≤e) (hX:val xs≠0) (hY:val ys≠0) :
 Calls Tryz.prog 76 #[.slice a n c,.int .i64 e,.slice b m d,.int .i64 f] w fun r w'=>r=.returned (.int .i64 (cmpP (val xs) e (val ys) f))∧Below w.heap.size w w':=by
 have b1:=h1.big;have b2:=h2.big;have L1:=hid (rLen_any xs a n c w.heap.size w h1.len (by omega) h1.wf h1.rd)
 have L2:=hid (rLen_any ys b m d w.heap.size w h2.len (by omega) h2.wf h2.rd)
 have x0:(((bl (val xs):Nat):Int)==0)=false:=by have:=bl_pos _ hX;simp;omega
 have y0:(((bl (val ys):Nat):Int)==0)=false:=by have:=bl_pos _ hY;simp;omega
 have hap:=u64_apart e f he0 he1 hf0 hf1 h;have hge:decide (e<f)=false:=decide_eq_false (by omega)
 have c1:=bl_arg h1
 have c2:bl (val ys)≤64000000:=by
  have:=val_lt ys h2.wf;rw [←h2.len] at this;have:=bl_pw _ _ this;omega
 unfold cmpP;rw [if_neg (by omega)]
 obtain ⟨dd,hdd⟩:∃ dd,(e-f).toNat=dd:=⟨_,rfl⟩;rw [hdd] at hap ⊢;have hb:=bl_up (val xs) dd hX
 by_cases k1:1099511627776<dd
 · have:cmpI (val xs*2^dd) (val ys)=1:=by
    rw [cmpI_bl (by omega),hb];unfold cmpI;rw [if_neg (by omega),if_pos (by omega)]
   rw [this];exact ag_far e f _ _ c1 (by omega) x0 y0 hge dd hap k1 L1 L2
 · by_cases k2:bl (val ys)<bl (val xs)+dd
   · have:cmpI (val xs*2^dd) (val ys)=1:=by
      rw [cmpI_bl (by omega),hb];unfold cmpI;rw [if_neg (by omega),if_pos (by omega)]
     rw [this];exact ag_more e f _ _ c1 (by omega) x0 y0 hge dd hap (by omega) k2 L1 L2
   · by_cases k3:bl (val xs)+dd<bl (val ys)
     · have:cmpI (val xs*2^dd) (val ys)=-1:=by
        rw [cmpI_bl (by omega),hb];unfold cmpI;rw [if_pos (by omega)]
       rw [this];exact ag_less e f _ _ c1 (by omega) x0 y0 hge dd hap (by omega) k3 L1 L2
     · have lP:(ws (val xs*2^dd)).length≤35184372088832:=by rw [ws_len_bl,hb];omega
       obtain ⟨P,hP⟩:∃ P,val xs*2^dd=P:=⟨_,rfl⟩;have HM:=hid (moved_raw (X:=val xs) dd h1 rfl hn (by omega))
       rw [hP] at HM lP ⊢;exact ag_even e f _ _ c1 (by omega) x0 y0 hge dd hap (by omega) (by omega) P lP _ L1 L2 HM (hid fun u p q hu hA=>rCmp_arg hA (h2.below hu) _ (by rw [val_ws]))
theorem against_any {w:World}{a b:Option Addr}{n c m d:Nat}{xs ys:List Nat}(h1:Arg w a n c xs) (h2:Arg w b m d ys) (hn:n≤2000000) (hm:m≤2000000) (e f:Int) (he0:-9223372036854775808≤e) (he1:e≤9223372036854775807) (hf0:-9223372036854775808≤f) (hf1:f≤9223372036854775807) :
 Calls Tryz.prog 76 #[.slice a n c,.int .i64 e,.slice b m d,.int .i64 f] w fun r w'=>r=.returned (.int .i64 (agV (val xs) e (val ys) f))∧Below w.heap.size w w':=by
 have b1:=h1.big;have b2:=h2.big;have L1:=hid (rLen_any xs a n c w.heap.size w h1.len (by omega) h1.wf h1.rd)
 have L2:=hid (rLen_any ys b m d w.heap.size w h2.len (by omega) h2.wf h2.rd)
 have c1:=bl_arg h1;have c2:=bl_arg h2;unfold agV
 by_cases hX:val xs=0
 · rw [if_pos (.inl hX)]
   exact ag_zero1 e f _ _ c1 c2 (by rw [hX,bl_zero]) _ L1 L2 (hid (rCmp_arg h1 h2 _ rfl))
 · have x0:(((bl (val xs):Nat):Int)==0)=false:=by have:=bl_pos _ hX;simp;omega
   by_cases hY:val ys=0
   · rw [if_pos (.inr hY)]
     exact ag_zero2 e f _ _ c1 c2 x0 (by rw [hY,bl_zero]) _ L1 L2 (hid (rCmp_arg h1 h2 _ rfl))
   · have y0:(((bl (val ys):Nat):Int)==0)=false:=by have:=bl_pos _ hY;simp;omega
     rw [if_neg (fun h=>h.elim hX hY)]
     by_cases h:e<f
     · have hr:=cmpP_range (val ys) f (val xs) e
       have:=ag_turn e f _ _ c1 c2 x0 y0 h (cmpP (val ys) f (val xs) e) (by omega) (by omega) L1 L2 (hid (against_ge h2 h1 hm hn f e hf0 hf1 he0 he1 (by omega) hY hX))
       rw [cmpP_neg] at this;exact this
     · exact against_ge h1 h2 hn hm e f he0 he1 hf0 hf1 (by omega) hX hY
end
section
open Go.RowKit
theorem agV_z (X:Nat) (e:Int) (Y:Nat) (f B:Int) (h1:B≤e) (h2:B≤f):agV X e Y f=cmpZ ((X*2^(e-B).toNat:Nat):Int) ((Y*2^(f-B).toNat:Nat):Int):=by
 rw [cmpZ_nat];unfold agV
 by_cases h:X=0∨Y=0
 · rw [if_pos h]
   have p1:=pos_iff X (e-B).toNat;have p2:=pos_iff Y (f-B).toNat;generalize X*2^(e-B).toNat=P at p1 ⊢;generalize Y*2^(f-B).toNat=Q at p2 ⊢
   have q1:X=0∧P=0∨X≠0∧P≠0:=by
    by_cases h:X=0
    · exact .inl ⟨h,p1.2 h⟩
    · exact .inr ⟨h,fun k=>h (p1.1 k)⟩
   have q2:Y=0∧Q=0∨Y≠0∧Q≠0:=by
    by_cases h:Y=0
    · exact .inl ⟨h,p2.2 h⟩
    · exact .inr ⟨h,fun k=>h (p2.1 k)⟩
   clear p1 p2;unfold cmpI
   rcases h with h|h
   · rcases q1 with ⟨a,b⟩ | ⟨a,b⟩
     · rcases q2 with ⟨c,d⟩ | ⟨c,d⟩
       · rw [a,b,c,d]
       · rw [a,b,if_pos (by omega),if_pos (by omega)]
     · exact absurd h a
   · rcases q2 with ⟨c,d⟩ | ⟨c,d⟩
     · rcases q1 with ⟨a,b⟩ | ⟨a,b⟩
       · rw [a,b,c,d]
       · rw [c,d,if_neg (by omega),if_pos (by omega),if_neg (by omega),if_pos (by omega)]
     · exact absurd h c
 · rw [if_neg h]
   exact cmpP_base X e Y f B h1 h2
theorem num64_vK (k:Nat) (B:Int) (hB:B≤-1074):(num64 k).1*2^((num64 k).2-B).toNat=vK k*2^(-1074-B).toNat∧(num64 k).1<9007199254740992∧B≤(num64 k).2∧((num64 k).1=0↔k=0):=by
 unfold num64
 by_cases h:k/4503599627370496=0
 · rw [if_pos h]
   refine ⟨?_,by simp only;omega,by simp only;omega,by simp only;omega⟩
   simp only;have:=vK_word 0 k (.inl rfl) (by omega)
   rw [Nat.zero_mul,Nat.zero_add,Nat.pow_zero,Nat.mul_one] at this;rw [this,show k%4503599627370496=k by omega]
 · rw [if_neg h]
   obtain ⟨q,hq⟩:∃ q,k/4503599627370496=q:=⟨_,rfl⟩;obtain ⟨f,hf⟩:∃ f,k%4503599627370496=f:=⟨_,rfl⟩;rw [hq,hf];refine ⟨?_,by simp only;omega,by simp only;omega,by simp only;omega⟩
   simp only;have:=vK_word (q-1) (4503599627370496+f) (.inr (by omega)) (by omega)
   rw [show (q-1)*4503599627370496+(4503599627370496+f)=k by omega] at this
   rw [this,Nat.mul_assoc,←Nat.pow_add,show (-1074+(q:Int)-1-B).toNat=q-1+(-1074-B).toNat by omega]
end
section
open Go.RowKit J
theorem sg1_sg (s:Bool) (v:Nat):sg1 s*(v:Int)=B.sg s v:=by unfold sg1 B.sg;cases s <;> simp
theorem top_v (K:Nat) (hK:K<9218868437227405312) (a:Nat) (ha:a=2045):vK K<9007199254740992*2^a:=by
 have h:=vK_word a 9007199254740992 (.inr (by omega)) (by omega)
 have h2:a*4503599627370496+9007199254740992=9218868437227405312:=by rw [ha]
 rw [←h,h2];exact vK_lt.2 hK
theorem of_fo (s:Bool) (K:Nat) (hK:K<9218868437227405312):∃ n X e,ofK s K=some (n,X,e)∧Fo (some (n,X,e)) (B.sg s (vK K)*(UU:Int)) (-1074) 1024∧(X=0↔K=0):=by
 obtain ⟨n,X,e,h1,F,h2,h3,h4⟩:=ofK_val s K hK;refine ⟨n,X,e,h1,⟨n,X,e,rfl,F,?_,?_⟩,h3⟩
 · obtain ⟨a,ha⟩:∃ a:Nat,(-1074 - -2097152:Int).toNat=a:=⟨_,rfl⟩
   have h5:=h4 (-2097152) (by omega)
   rw [ha] at h5;rw [h5,US a (by omega),Int.natCast_mul,Int.natCast_mul,←Int.mul_assoc,←Int.mul_assoc,sg1_sg]
 · by_cases hX:X=0
   · exact .inl hX
   · right
     have ho:=frm_odd F hX;have hd:=F.down
     -- in units of the form's own place
     have h5:=h4 (min e (-1074)) (by omega)
     unfold zv at h5;simp only at h5;rw [h2 hX] at h5
     have h6:X*2^(e-min e (-1074)).toNat=vK K*2^(-1074-min e (-1074)).toNat:=by
      unfold sg1 at h5
      cases s
      · simp only [Bool.false_eq_true,if_false,Int.one_mul] at h5;exact_mod_cast h5
      · simp only [if_true] at h5;have:=Int.eq_of_mul_eq_mul_left (by decide) h5;exact_mod_cast this
     have he:-1074≤e:=by
      apply Int.le_of_not_gt;intro hlt
      rw [show (e-min e (-1074)).toNat=0 by omega,Nat.pow_zero,Nat.mul_one] at h6
      obtain ⟨q,hq⟩:∃ q,(-1074-min e (-1074)).toNat=q+1:=⟨(-1074-min e (-1074)).toNat-1,by omega⟩
      rw [hq,Nat.pow_succ,←Nat.mul_assoc] at h6;omega
     refine ⟨he,?_⟩;rw [show (-1074-min e (-1074)).toNat=0 by omega,Nat.pow_zero,Nat.mul_one] at h6
     obtain ⟨q,hq⟩:∃ q,(e-min e (-1074)).toNat=q:=⟨_,rfl⟩;rw [hq] at h6;obtain ⟨c,hc⟩:∃ c:Nat,c=2045:=⟨_,rfl⟩;have h7:=top_v K hK c hc;have h8:=bl_ge X hX;have h9:=bl_pos X hX;obtain ⟨b,hb⟩:∃ b,bl X=b+1:=⟨bl X-1,by omega⟩
     rw [hb,Nat.add_sub_cancel] at h8;have h10:2^b*2^q<9007199254740992*2^c:=Nat.lt_of_le_of_lt (Nat.mul_le_mul_right _ h8) (by rw [h6];exact h7)
     rw [←Nat.pow_add,show (9007199254740992:Nat)=2^53 from rfl,←Nat.pow_add] at h10
     have h11:=(Nat.pow_lt_pow_iff_right (by decide:1<2)).1 h10
     omega
theorem round_fo {n:Bool}{X:Nat}{e T L H:Int}(h:Fo (some (n,X,e)) T L H) (hT:T≠0):X≠0∧n=decide (T<0)∧∀ R,NE R T.natAbs UU→rW 0 n X e=min R 9218868437227405312:=by
 obtain ⟨F,hv,_⟩:=h.frm;have hS:=S_pos;unfold zv at hv;simp only at hv
 have hX:X≠0:=by
  intro h0;rw [h0,Nat.zero_mul] at hv;have:T*(SS:Int)=0:=by rw [←hv];simp
  rcases Int.mul_eq_zero.1 this with h|h <;> omega
 obtain ⟨q,hq⟩:∃ q,X*2^(e - -2097152).toNat=q:=⟨_,rfl⟩;have hq0:0<q:=by rw [←hq];exact Nat.mul_pos (by omega) (Nat.two_pow_pos _)
 rw [hq] at hv
 have hab:q=T.natAbs*SS:=by
  have:=congrArg Int.natAbs hv;rw [Int.natAbs_mul,Int.natAbs_mul,Int.natAbs_natCast,Int.natAbs_natCast] at this;rw [←this];unfold sg1;cases n <;> simp
 refine ⟨hX,?_,fun R hR=>?_⟩
 · have hTS:T<0→T*(SS:Int)<0:=fun h=>Int.mul_neg_of_neg_of_pos h (by omega)
   have hTP:0<T→0<T*(SS:Int):=fun h=>Int.mul_pos h (by omega)
   unfold sg1 at hv
   cases n
   · simp only [Bool.false_eq_true,if_false,Int.one_mul] at hv
     rw [decide_eq_false (by intro h;have:=hTS h;omega)]
   · simp only [if_true] at hv
     rw [decide_eq_true (by apply Int.lt_of_not_ge;intro h;have:=hTP (by omega);omega)]
 · exact rW_ne F hX (-2097152) (by omega) (V:=T.natAbs) (U:=UU) (S:=SS) (by rw [hq,hab]) (US _ (by omega)) hR
theorem frmLen {n:Bool}{X:Nat}{e:Int}(F:Frm n X e):(ws X).length≤8192:=by
 have:=mkS_len n X e;rw [mkS_idem F] at this;exact this
theorem read_nanW (x:Nat) (h:9218868437227405312<magW x):∃ s t,Ieee.double.read x=.nan s t:=⟨_,_,B.read_nan Ieee.double x (by rw [B.dInf,B.dSign];exact h) hBin⟩
theorem read_infW (x:Nat) (hx:x<18446744073709551616) (h:magW x=9218868437227405312):Ieee.double.read x=.infinity (negW x):=by
 have e:=wd_of x hx;rw [h,wd_word,←B.dInf] at e;rw [e,B.read_inf Ieee.double _ hInf hBin,←e]
theorem read_finW (x:Nat) (hx:x<18446744073709551616) (h:magW x<9218868437227405312):∃ m k,Ieee.double.read x=.number (negW x) m (Ieee.double.leastPlace+(k:Nat))∧m*2^k=vK (magW x):=by
 have e:=wd_of x hx;rw [wd_word] at e;obtain ⟨m,k,h1,h2⟩:=B.read_word Ieee.double (negW x) (magW x) (by rw [B.dInf];exact h) hInf
 rw [←e] at h1;exact ⟨m,k,h1,h2⟩
end
section
open Go.RowKit J
theorem turn_wd (s:Bool) (K:Nat) (h:K<9223372036854775808):turnW (wd64 s K)=wd64 (!s) K:=by
 unfold turnW wd64
 cases s <;> simp <;> omega
theorem turn_lt (y:Nat) (hy:y<18446744073709551616):turnW y<18446744073709551616:=by unfold turnW;split <;> omega
end
section
open Go.RowKit J
theorem absSg (s:Bool) (v:Nat):(B.sg s v).natAbs=v:=by unfold B.sg;cases s <;> simp
end
section
open Go.RowKit J
abbrev Wd (x:Nat):Prop:=x<18446744073709551616
end
section
open Go.RowKit J
abbrev finW (x:Nat):Prop:=magW x<9218868437227405312
def fvW (x:Nat):Int:=B.sg (negW x) (vK (magW x))
theorem sg_abs (s:Bool) (v:Nat):(B.sg s v).natAbs=v:=absSg s v
theorem fv_wd (s:Bool) (K:Nat) (h:K<9218868437227405312):finW (wd64 s K)∧fvW (wd64 s K)=B.sg s (vK K):=by
 obtain ⟨h1,h2,_⟩:=magW_wd s K (by omega)
 unfold fvW;rw [h1,h2];exact ⟨by unfold finW;rw [h1];exact h,rfl⟩
theorem fv_turn {y:Nat}(hy:Wd y) (fy:finW y):finW (turnW y)∧fvW (turnW y)=-fvW y:=by
 have hm:magW y<9223372036854775808:=Nat.mod_lt _ (by decide)
 have e:turnW y=wd64 (!negW y) (magW y):=by rw [←turn_wd _ _ hm,←wd_of y hy]
 rw [e];obtain ⟨k1,k2⟩:=fv_wd (!negW y) (magW y) fy;refine ⟨k1,?_⟩;rw [k2];unfold fvW B.sg
 cases negW y <;> simp
end
section
open Go.RowKit J
theorem fin_parts {x:Nat}(hx:x<18446744073709551616) (fx:finW x):ngW x=negW x∧vK (magW x)=frW x*2^(xpW x+1074).toNat∧-1074≤xpW x∧((clW x=0∧frW x=0)∨((clW x=1∨clW x=2)∧frW x≠0)):=by
 have hm:magW x=eW x*4503599627370496+fW x:=by unfold magW eW fW;omega
 have he:eW x<2047:=by have h:magW x<9218868437227405312:=fx;omega
 have hf:fW x<4503599627370496:=Nat.mod_lt _ (by decide)
 refine ⟨by unfold ngW B.ng;rw [if_neg (by omega)];rfl,?_⟩
 by_cases h0:eW x=0
 · have hfr:frW x=fW x:=by unfold frW B.fr;rw [if_neg (by omega),if_pos h0];simp
   have hxp:xpW x=-1074:=by unfold xpW B.xp;rw [if_neg (by omega),if_pos h0]
   have hv:vK (magW x)=fW x:=by
    have:=vK_word 0 (fW x) (.inl rfl) (by omega)
    rw [hm,h0];simpa using this
   refine ⟨by rw [hv,hfr,hxp];simp,by omega,?_⟩
   by_cases hz:fW x=0
   · exact .inl ⟨by unfold clW B.cls;rw [if_neg (by omega),if_pos h0,if_pos hz],by omega⟩
   · exact .inr ⟨.inl (by unfold clW B.cls;rw [if_neg (by omega),if_pos h0,if_neg hz]),by omega⟩
 · have hfr:frW x=fW x+4503599627370496:=by unfold frW B.fr;rw [if_neg (by omega),if_neg h0];omega
   have hxp:xpW x=(eW x:Int)-1075:=by unfold xpW B.xp;rw [if_neg (by omega),if_neg h0]
   have hv:vK (magW x)=(fW x+4503599627370496)*2^(eW x-1):=by
    have:=vK_word (eW x-1) (fW x+4503599627370496) (.inr (by omega)) (by omega)
    rw [←this,hm,show eW x*4503599627370496+fW x=(eW x-1)*4503599627370496+(fW x+4503599627370496) by omega]
   refine ⟨by rw [hv,hfr,hxp,show ((eW x:Int)-1075+1074).toNat=eW x-1 by omega],by omega,.inr ⟨.inr (by unfold clW B.cls;rw [if_neg (by omega),if_neg h0]),by omega⟩⟩
theorem sg_prod (a b:Bool) (f g i j:Nat):sgn7 (!(a==b)) (f*g*2^(i+j))=B.sg a (f*2^i)*B.sg b (g*2^j):=by
 have e:f*g*2^(i+j)=(f*2^i)*(g*2^j):=by
  rw [Nat.pow_add,Nat.mul_mul_mul_comm]
 rw [e];generalize f*2^i=P;generalize g*2^j=Q;unfold sgn7 B.sg
 cases a <;> cases b <;> simp [Int.neg_mul,Int.mul_neg]
theorem pT_mul {x y:Nat}(hx:x<18446744073709551616) (hy:y<18446744073709551616) (fx:finW x) (fy:finW y):pT x y=fvW x*fvW y∧(pK x y=0∨pK x y=4∨pK x y=5):=by
 obtain ⟨n1,v1,x1,c1⟩:=fin_parts hx fx;obtain ⟨n2,v2,x2,c2⟩:=fin_parts hy fy;unfold pT pK fvW;rw [n1,n2,v1,v2]
 by_cases hz:clW x=0∨clW y=0
 · have hmin:min (clW x) (clW y)=0:=by omega
   have hmax:max (clW x) (clW y)≤2:=by omega
   have hpk:pk (max (clW x) (clW y)) (min (clW x) (clW y)) (!negW x==negW y)=4∨pk (max (clW x) (clW y)) (min (clW x) (clW y)) (!negW x==negW y)=5:=by
    unfold pk;rw [hmin,if_neg (by omega),if_neg (by omega),if_pos rfl]
    split
    · exact .inl rfl
    · exact .inr rfl
   refine ⟨?_,.inr hpk⟩;rw [pv7_no (by omega)]
   rcases c1 with ⟨_,f1⟩|⟨k1,_⟩
   · rw [f1];simp [B.sg]
   · rcases c2 with ⟨_,f2⟩ | ⟨k2,_⟩
     · rw [f2];simp [B.sg]
     · omega
 · have hpk:pk (max (clW x) (clW y)) (min (clW x) (clW y)) (!negW x==negW y)=0:=by
    unfold pk;rw [if_neg (by omega),if_neg (by omega),if_neg (by omega)]
   refine ⟨?_,.inl hpk⟩;rw [pv7_yes hpk,show (xpW x+xpW y+2148).toNat=(xpW x+1074).toNat+(xpW y+1074).toNat by omega]
   have e:(!negW x==negW y)=!(negW x==negW y):=by cases negW x <;> cases negW y <;> rfl
   rw [e];exact sg_prod _ _ _ _ _ _
theorem cl_nan {x:Nat}(h:9218868437227405312<magW x):clW x=4:=by
 have hm:magW x=eW x*4503599627370496+fW x:=by unfold magW eW fW;omega
 have hf:fW x<4503599627370496:=Nat.mod_lt _ (by decide)
 have he:eW x<2048:=by have:magW x<9223372036854775808:=Nat.mod_lt _ (by decide);omega
 unfold clW B.cls;rw [if_pos (by omega),if_neg (by omega)]
theorem cl_inf {x:Nat}(h:magW x=9218868437227405312):clW x=3∧ngW x=negW x:=by
 have hm:magW x=eW x*4503599627370496+fW x:=by unfold magW eW fW;omega
 have hf:fW x<4503599627370496:=Nat.mod_lt _ (by decide)
 unfold clW B.cls ngW B.ng;rw [if_pos (by omega),if_pos (by omega),if_neg (by omega)]
 exact ⟨rfl,rfl⟩
theorem cl_range (x:Nat):0≤clW x∧clW x≤4:=by unfold clW B.cls;(repeat' split) <;> omega
theorem pT_odd {x y:Nat}(h:¬ (finW x∧finW y)):pT x y=0∧(pK x y=1∨pK x y=2∨pK x y=3):=by
 have h3:3≤max (clW x) (clW y):=by
  have aux:∀ z:Nat,¬ finW z→3≤clW z:=fun z hz=>by
   rcases Nat.lt_or_ge 9218868437227405312 (magW z) with q|q
   · rw [cl_nan q];omega
   · have:magW z=9218868437227405312:=by
      have:¬ magW z<9218868437227405312:=hz;omega
     rw [(cl_inf this).1];omega
  by_cases hx:finW x
  · have:=aux y (fun hy=>h ⟨hx,hy⟩);omega
  · have:=aux x hx;omega
 have h4:=cl_range x;have h5:=cl_range y
 have hpk:pK x y=1∨pK x y=2∨pK x y=3:=by
  unfold pK pk
  split
  · exact .inl rfl
  · rw [if_pos (by omega)]
    split
    · exact .inr (.inr rfl)
    · exact .inr (.inl rfl)
 refine ⟨?_,hpk⟩;unfold pT
 exact pv7_no (by have:pK x y≠0:=by omega
                  exact this)
theorem pK_self_nan {x:Nat}(h:9218868437227405312<magW x):pK x x=1:=by
 unfold pK pk;rw [cl_nan h,if_pos (by omega)]
theorem pK_self_inf {x:Nat}(h:magW x=9218868437227405312):pK x x=2:=by
 unfold pK pk;rw [(cl_inf h).1,if_neg (by omega),if_pos (by omega),if_neg (by cases ngW x <;> simp)]
end
section
open Go.RowKit J
theorem xor_up (z:Nat) (hz:z<2^63):z ^^^ 2^63=2^63+z:=by
 apply Nat.eq_of_testBit_eq
 intro i;rw [Nat.testBit_xor,Nat.testBit_two_pow]
 rcases Nat.lt_trichotomy i 63 with h|h|h
 · rw [Nat.testBit_two_pow_add_gt h]
   simp [show ¬ 63=i by omega]
 · subst h
   rw [Nat.testBit_two_pow_add_eq,Nat.testBit_lt_two_pow hz];simp
 · have h1:z<2^i:=Nat.lt_of_lt_of_le hz (Nat.pow_le_pow_right (by decide) (by omega))
   have h2:2^63+z<2^i:=Nat.lt_of_lt_of_le (show 2^63+z<2^64 by omega) (Nat.pow_le_pow_right (by decide) (by omega))
   rw [Nat.testBit_lt_two_pow h1,Nat.testBit_lt_two_pow h2];simp [show ¬ 63=i by omega]
theorem neg_turn (y:Nat) (hy:y<18446744073709551616):Op.negFloat .f64 y=turnW y:=by
 show y ^^^ 2^63=turnW y
 unfold turnW
 by_cases h:9223372036854775808≤y
 · rw [if_pos h]
   obtain ⟨z,hz⟩:∃ z,z=y-9223372036854775808:=⟨_,rfl⟩;have e:y=z ^^^ 2^63:=by rw [xor_up z (by omega)];omega
   rw [←hz,e,Nat.xor_assoc,Nat.xor_self,Nat.xor_zero]
 · rw [if_neg h,xor_up y (by omega)];omega
theorem sub_self_fin (x:Nat) (hx:x<18446744073709551616) (fx:finW x):floatBits .sub .f64 x x=some 0:=by
 obtain ⟨m,k,hr,_⟩:=read_finW x hx fx
 show ((Ieee.double.read x).sum (Ieee.double.read x).opposite).map Ieee.double.write=some 0
 rw [hr];generalize Ieee.double.leastPlace+(k:Int)=p
 have ht:Ieee.signed (negW x) m (p-min p p).toNat+Ieee.signed (!negW x) m (p-min p p).toNat=0:=by
  unfold Ieee.signed
  cases negW x <;> simp <;> omega
 simp only [Ieee.Datum.opposite,Ieee.Datum.sum,ht,if_true,Option.map_some];have hs:(negW x&&!negW x)=false:=by cases negW x <;> rfl
 rw [hs];rfl
theorem sub_nan (x y:Nat) (h:9218868437227405312<magW x∨9218868437227405312<magW y):floatBits .sub .f64 x y=none:=by
 show ((Ieee.double.read x).sum (Ieee.double.read y).opposite).map Ieee.double.write=none
 rcases h with h|h
 · obtain ⟨s,t,hr⟩:=read_nanW x h
   rw [hr];rfl
 · obtain ⟨s,t,hr⟩:=read_nanW y h
   rw [hr]
   cases Ieee.double.read x <;> rfl
theorem write_inf12 (s:Bool):Ieee.double.write (.infinity s)=wd64 s 9218868437227405312:=by cases s <;> decide +kernel
theorem sub_inf_inf (x y:Nat) (hx:x<18446744073709551616) (hy:y<18446744073709551616) (h1:magW x=9218868437227405312) (h2:magW y=9218868437227405312):floatBits .sub .f64 x y=if negW x=negW y then none else some (wd64 (negW x) 9218868437227405312):=by
 show ((Ieee.double.read x).sum (Ieee.double.read y).opposite).map Ieee.double.write=_
 rw [read_infW x hx h1,read_infW y hy h2];simp only [Ieee.Datum.opposite,Ieee.Datum.sum]
 cases negW x <;> cases negW y <;> simp [write_inf12]
theorem sub_inf_fin (x y:Nat) (hx:x<18446744073709551616) (hy:y<18446744073709551616) (h1:magW x=9218868437227405312) (h2:finW y):floatBits .sub .f64 x y=some (wd64 (negW x) 9218868437227405312):=by
 show ((Ieee.double.read x).sum (Ieee.double.read y).opposite).map Ieee.double.write=_
 obtain ⟨m,k,hr,_⟩:=read_finW y hy h2;rw [read_infW x hx h1,hr];simp only [Ieee.Datum.opposite,Ieee.Datum.sum,Option.map_some,write_inf12]
theorem sub_fin_inf (x y:Nat) (hx:x<18446744073709551616) (hy:y<18446744073709551616) (h1:finW x) (h2:magW y=9218868437227405312):floatBits .sub .f64 x y=some (wd64 (!negW y) 9218868437227405312):=by
 show ((Ieee.double.read x).sum (Ieee.double.read y).opposite).map Ieee.double.write=_
 obtain ⟨m,k,hr,_⟩:=read_finW x hx h1;rw [read_infW y hy h2,hr];simp only [Ieee.Datum.opposite,Ieee.Datum.sum,Option.map_some,write_inf12]
def k12 (x y:Nat):Nat:=if 9218868437227405312<magW x∨9218868437227405312<magW y∨(magW x=9218868437227405312∧magW y=9218868437227405312∧negW x=negW y) then 1 else 2
theorem wd_inf (s:Bool):magW (wd64 s 9218868437227405312)=9218868437227405312∧wd64 s 9218868437227405312<18446744073709551616:=by cases s <;> decide
theorem sub_odd (x y:Nat) (hx:x<18446744073709551616) (hy:y<18446744073709551616) (h:¬ (finW x∧finW y)) :
 (floatBits .sub .f64 x y=none∧k12 x y=1)∨∃ z,floatBits .sub .f64 x y=some z∧magW z=9218868437227405312∧z<18446744073709551616∧k12 x y=2:=by
 unfold k12
 by_cases n1:9218868437227405312<magW x
 · exact .inl ⟨sub_nan x y (.inl n1),if_pos (.inl n1)⟩
 · by_cases n2:9218868437227405312<magW y
   · exact .inl ⟨sub_nan x y (.inr n2),if_pos (.inr (.inl n2))⟩
   · by_cases f1:finW x
     · have f2:¬ finW y:=fun f2=>h ⟨f1,f2⟩
       have i2:magW y=9218868437227405312:=by have:¬ magW y<9218868437227405312:=f2;omega
       have g1:magW x<9218868437227405312:=f1;exact .inr ⟨_,sub_fin_inf x y hx hy f1 i2,(wd_inf _).1,(wd_inf _).2,if_neg (by omega)⟩
     · have i1:magW x=9218868437227405312:=by have:¬ magW x<9218868437227405312:=f1;omega
       by_cases f2:finW y
       · have g2:magW y<9218868437227405312:=f2
         exact .inr ⟨_,sub_inf_fin x y hx hy i1 f2,(wd_inf _).1,(wd_inf _).2,if_neg (by omega)⟩
       · have i2:magW y=9218868437227405312:=by have:¬ magW y<9218868437227405312:=f2;omega
         have e:=sub_inf_inf x y hx hy i1 i2
         by_cases hs:negW x=negW y
         · rw [if_pos hs] at e
           exact .inl ⟨e,if_pos (.inr (.inr ⟨i1,i2,hs⟩))⟩
         · rw [if_neg hs] at e
           exact .inr ⟨_,e,(wd_inf _).1,(wd_inf _).2,if_neg (by rintro (q | q | ⟨_,_,q⟩);exact n1 q;exact n2 q;exact hs q)⟩
theorem order_nan (z:Nat) (h:9218868437227405312<magW z):(FloatKind.f64.format.order z 0==some .eq)=false:=by
 obtain ⟨s,t,hr⟩:=read_nanW z h
 show ((Ieee.double.read z).order (Ieee.double.read 0)==some .eq)=false
 rw [hr];rfl
theorem pK_nans {x y:Nat}(h:9218868437227405312<magW x) (h2:9218868437227405312<magW y):pK x y=1:=by
 unfold pK pk;rw [cl_nan h,cl_nan h2,if_pos (by omega)]
end
section
open Go.RowKit J
theorem put12 (g h:Nat) (I:List (Nat×Int)) (x y:Nat) (w:World) (hA:At12 w g I) (hl:I.length<1000000) (hx:x<18446744073709551616) (hy:y<18446744073709551616) (hc:w.cell? ⟨h,0,none⟩=some (.pointer (some ⟨g,0,none⟩))) :
 Calls Tryz.prog 84 #[.float .f64 x,.float .f64 y,.pointer (some ⟨h,0,none⟩)] w fun r w'=>r=.returned (.tuple #[])∧At12 w' g (I++[(pK x y,pT x y)])∧But g w w':=by
 have HP:=hid (addP12 g I x y w hA hl hx hy);clear hA hl hx hy;go_enter Tryz.func84,Tryz.ntmps84
 go_wp2_with fail
 refine HP.out.mono ?_;rintro r u ⟨rfl,h1,h2⟩;have H:=qsd (ai h1 h2);clear h1 h2 HP hc;go_wp2
 go_end0
 exact ⟨rfl,H.out⟩
theorem sum12D (n p q:Nat) (J:Nat→List (Nat×Int)) (w:World) (hJ:J 0=[]) (hn:n≤65536)
 (HH:Hid (∀ (g h k:Nat) (u:World),w.heap.size≤g→w.heap.size≤h→k<n→At12 u g (J k)→u.cell? ⟨h,0,none⟩=some (.pointer (some ⟨g,0,none⟩))→Below w.heap.size w u →
  Calls Tryz.prog 38 #[.int .i64 (k:Nat),.func (.func 84) #[] #[.pointer (some ⟨h,0,none⟩)],.pointer (some ⟨p,0,none⟩),.pointer (some ⟨q,0,none⟩)] u fun r u'=>r=.returned (.tuple #[])∧At12 u' g (J (k+1))∧But g u u')) :
 Calls Tryz.prog 37 #[.int .i64 (n:Nat),.func (.func 38) #[] #[.pointer (some ⟨p,0,none⟩),.pointer (some ⟨q,0,none⟩)]] w fun r w'=>∃ g,r=.returned (.pointer (some ⟨g,0,none⟩))∧At12 w' g (J n)∧Below w.heap.size w w':=by
 have HJ:=qsd (ai hJ hn);clear hJ;go_enter Tryz.func37,Tryz.ntmps37
 go_wp2_with fail
 refine (New7 w).mono ?_;rintro r w1 ⟨rfl,hA,hb1⟩;obtain ⟨g,hg⟩:∃ g,g=w.heap.size:=⟨_,rfl⟩;rw [←hg] at hA ⊢;obtain ⟨h,hh⟩:∃ h,h=w1.heap.size:=⟨_,rfl⟩;obtain ⟨W,hW⟩:∃ W,W=w1.alloc (Obj.cells #[.pointer (some ⟨g,0,none⟩)] 57):=⟨_,rfl⟩
 have H0:Aside (At12 W g (J 0)∧W.cell? ⟨h,0,none⟩=some (.pointer (some ⟨g,0,none⟩))∧Below w.heap.size w W∧W.heap.size=h+1):=by
  rw [hW,HJ.out.1,hh];refine ⟨⟨hA.bel (bel_alloc _ _),fun p hp=>by cases hp⟩,?_,hb1.trans ((bel_alloc _ _).mono hb1.size),by simp⟩
  unfold World.cell?;simp only [heap_alloc_new];rfl
 have HG:Aside (w.heap.size≤g∧w.heap.size≤h∧g<h):=by rw [hg,hh];exact ⟨Nat.le_refl _,hb1.size,by have:=hA.lt;omega⟩
 have HW:=qsd hW;clear hA hb1 hg hW;go_wp2
 try rw [←hh]
 try rw [←HW.out]
 clear HW hh
 go_loopg [11] n (fun gk i wr=>∃ k:Nat,gk+k=n∧i=.int .i64 (k:Nat)∧Aside (At12 wr g (J k)∧wr.cell? ⟨h,0,none⟩=some (.pointer (some ⟨g,0,none⟩))∧Below w.heap.size w wr∧h<wr.heap.size))
 case atStart=>exact ⟨0,by omega,by simp,H0.out.1,H0.out.2.1,H0.out.2.2.1,by have:=H0.out.2.2.2;omega⟩
 case round =>
  clear H0;obtain ⟨k,hgk,rfl,HA⟩:=hrel
  by_cases hk:k<n
  · have C:=hid (HH.out g h k wr HG.out.1 HG.out.2.1 hk HA.out.1 HA.out.2.1 HA.out.2.2.1)
    have hkb:k<4611686018427387904:=by omega
    go_wp2_with fail
    refine C.out.mono ?_;rintro r u ⟨rfl,h1,hbut⟩
    have H3:Aside (At12 u g (J (k+1))∧u.cell? ⟨h,0,none⟩=some (.pointer (some ⟨g,0,none⟩))∧Below w.heap.size w u∧h<u.heap.size) :=
     ⟨h1,(World.cell?_of_block (a:=⟨h,0,none⟩) (hbut.block h HA.out.2.2.2 (by have:=HG.out.2.2;omega))).trans HA.out.2.1,But.below HA.out.2.2.1 hbut HA.out.2.2.1.size HG.out.1,Nat.lt_of_lt_of_le HA.out.2.2.2 hbut.size⟩
    clear h1 hbut C HA;go_wp2
    go_roundg (gk-1)
    case measure=>omega
    case rel=>exact ⟨k+1,by omega,by first | rfl | simp,H3.out⟩
  · obtain rfl:n=k:=by omega
    have hd:decide ((n:Int)<n)=false:=by simp
    have hc:=HA.out.2.1;clear HH;go_wp2;go_ret;exact ⟨g,rfl,HA.out.1,HA.out.2.2.1⟩
theorem sum12N (n p:Nat) (J:Nat→List (Nat×Int)) (w:World) (hJ:J 0=[]) (hn:n≤65536)
 (HH:Hid (∀ (g h k:Nat) (u:World),w.heap.size≤g→w.heap.size≤h→k<n→At12 u g (J k)→u.cell? ⟨h,0,none⟩=some (.pointer (some ⟨g,0,none⟩))→Below w.heap.size w u →
  Calls Tryz.prog 46 #[.int .i64 (k:Nat),.func (.func 84) #[] #[.pointer (some ⟨h,0,none⟩)],.pointer (some ⟨p,0,none⟩)] u fun r u'=>r=.returned (.tuple #[])∧At12 u' g (J (k+1))∧But g u u')) :
 Calls Tryz.prog 37 #[.int .i64 (n:Nat),.func (.func 46) #[] #[.pointer (some ⟨p,0,none⟩)]] w fun r w'=>∃ g,r=.returned (.pointer (some ⟨g,0,none⟩))∧At12 w' g (J n)∧Below w.heap.size w w':=by
 have HJ:=qsd (ai hJ hn);clear hJ;go_enter Tryz.func37,Tryz.ntmps37
 go_wp2_with fail
 refine (New7 w).mono ?_;rintro r w1 ⟨rfl,hA,hb1⟩;obtain ⟨g,hg⟩:∃ g,g=w.heap.size:=⟨_,rfl⟩;rw [←hg] at hA ⊢;obtain ⟨h,hh⟩:∃ h,h=w1.heap.size:=⟨_,rfl⟩;obtain ⟨W,hW⟩:∃ W,W=w1.alloc (Obj.cells #[.pointer (some ⟨g,0,none⟩)] 57):=⟨_,rfl⟩
 have H0:Aside (At12 W g (J 0)∧W.cell? ⟨h,0,none⟩=some (.pointer (some ⟨g,0,none⟩))∧Below w.heap.size w W∧W.heap.size=h+1):=by
  rw [hW,HJ.out.1,hh];refine ⟨⟨hA.bel (bel_alloc _ _),fun p hp=>by cases hp⟩,?_,hb1.trans ((bel_alloc _ _).mono hb1.size),by simp⟩
  unfold World.cell?;simp only [heap_alloc_new];rfl
 have HG:Aside (w.heap.size≤g∧w.heap.size≤h∧g<h):=by rw [hg,hh];exact ⟨Nat.le_refl _,hb1.size,by have:=hA.lt;omega⟩
 have HW:=qsd hW;clear hA hb1 hg hW;go_wp2
 try rw [←hh]
 try rw [←HW.out]
 clear HW hh
 go_loopg [11] n (fun gk i wr=>∃ k:Nat,gk+k=n∧i=.int .i64 (k:Nat)∧Aside (At12 wr g (J k)∧wr.cell? ⟨h,0,none⟩=some (.pointer (some ⟨g,0,none⟩))∧Below w.heap.size w wr∧h<wr.heap.size))
 case atStart=>exact ⟨0,by omega,by simp,H0.out.1,H0.out.2.1,H0.out.2.2.1,by have:=H0.out.2.2.2;omega⟩
 case round =>
  clear H0;obtain ⟨k,hgk,rfl,HA⟩:=hrel
  by_cases hk:k<n
  · have C:=hid (HH.out g h k wr HG.out.1 HG.out.2.1 hk HA.out.1 HA.out.2.1 HA.out.2.2.1)
    have hkb:k<4611686018427387904:=by omega
    go_wp2_with fail
    refine C.out.mono ?_;rintro r u ⟨rfl,h1,hbut⟩
    have H3:Aside (At12 u g (J (k+1))∧u.cell? ⟨h,0,none⟩=some (.pointer (some ⟨g,0,none⟩))∧Below w.heap.size w u∧h<u.heap.size) :=
     ⟨h1,(World.cell?_of_block (a:=⟨h,0,none⟩) (hbut.block h HA.out.2.2.2 (by have:=HG.out.2.2;omega))).trans HA.out.2.1,But.below HA.out.2.2.1 hbut HA.out.2.2.1.size HG.out.1,Nat.lt_of_lt_of_le HA.out.2.2.2 hbut.size⟩
    clear h1 hbut C HA;go_wp2
    go_roundg (gk-1)
    case measure=>omega
    case rel=>exact ⟨k+1,by omega,by first | rfl | simp,H3.out⟩
  · obtain rfl:n=k:=by omega
    have hd:decide ((n:Int)<n)=false:=by simp
    have hc:=HA.out.2.1;clear HH;go_wp2;go_ret;exact ⟨g,rfl,HA.out.1,HA.out.2.2.1⟩
theorem sum12A (n p q:Nat) (J:Nat→List (Nat×Int)) (w:World) (hJ:J 0=[]) (hn:n≤65536)
 (HH:Hid (∀ (g h k:Nat) (u:World),w.heap.size≤g→w.heap.size≤h→k<n→At12 u g (J k)→u.cell? ⟨h,0,none⟩=some (.pointer (some ⟨g,0,none⟩))→Below w.heap.size w u →
  Calls Tryz.prog 48 #[.int .i64 (k:Nat),.func (.func 84) #[] #[.pointer (some ⟨h,0,none⟩)],.pointer (some ⟨p,0,none⟩),.pointer (some ⟨q,0,none⟩)] u fun r u'=>r=.returned (.tuple #[])∧At12 u' g (J (k+1))∧But g u u')) :
 Calls Tryz.prog 37 #[.int .i64 (n:Nat),.func (.func 48) #[] #[.pointer (some ⟨p,0,none⟩),.pointer (some ⟨q,0,none⟩)]] w fun r w'=>∃ g,r=.returned (.pointer (some ⟨g,0,none⟩))∧At12 w' g (J n)∧Below w.heap.size w w':=by
 have HJ:=qsd (ai hJ hn);clear hJ;go_enter Tryz.func37,Tryz.ntmps37
 go_wp2_with fail
 refine (New7 w).mono ?_;rintro r w1 ⟨rfl,hA,hb1⟩;obtain ⟨g,hg⟩:∃ g,g=w.heap.size:=⟨_,rfl⟩;rw [←hg] at hA ⊢;obtain ⟨h,hh⟩:∃ h,h=w1.heap.size:=⟨_,rfl⟩;obtain ⟨W,hW⟩:∃ W,W=w1.alloc (Obj.cells #[.pointer (some ⟨g,0,none⟩)] 57):=⟨_,rfl⟩
 have H0:Aside (At12 W g (J 0)∧W.cell? ⟨h,0,none⟩=some (.pointer (some ⟨g,0,none⟩))∧Below w.heap.size w W∧W.heap.size=h+1):=by
  rw [hW,HJ.out.1,hh];refine ⟨⟨hA.bel (bel_alloc _ _),fun p hp=>by cases hp⟩,?_,hb1.trans ((bel_alloc _ _).mono hb1.size),by simp⟩
  unfold World.cell?;simp only [heap_alloc_new];rfl
 have HG:Aside (w.heap.size≤g∧w.heap.size≤h∧g<h):=by rw [hg,hh];exact ⟨Nat.le_refl _,hb1.size,by have:=hA.lt;omega⟩
 have HW:=qsd hW;clear hA hb1 hg hW;go_wp2
 try rw [←hh]
 try rw [←HW.out]
 clear HW hh
 go_loopg [11] n (fun gk i wr=>∃ k:Nat,gk+k=n∧i=.int .i64 (k:Nat)∧Aside (At12 wr g (J k)∧wr.cell? ⟨h,0,none⟩=some (.pointer (some ⟨g,0,none⟩))∧Below w.heap.size w wr∧h<wr.heap.size))
 case atStart=>exact ⟨0,by omega,by simp,H0.out.1,H0.out.2.1,H0.out.2.2.1,by have:=H0.out.2.2.2;omega⟩
 case round =>
  clear H0;obtain ⟨k,hgk,rfl,HA⟩:=hrel
  by_cases hk:k<n
  · have C:=hid (HH.out g h k wr HG.out.1 HG.out.2.1 hk HA.out.1 HA.out.2.1 HA.out.2.2.1)
    have hkb:k<4611686018427387904:=by omega
    go_wp2_with fail
    refine C.out.mono ?_;rintro r u ⟨rfl,h1,hbut⟩
    have H3:Aside (At12 u g (J (k+1))∧u.cell? ⟨h,0,none⟩=some (.pointer (some ⟨g,0,none⟩))∧Below w.heap.size w u∧h<u.heap.size) :=
     ⟨h1,(World.cell?_of_block (a:=⟨h,0,none⟩) (hbut.block h HA.out.2.2.2 (by have:=HG.out.2.2;omega))).trans HA.out.2.1,But.below HA.out.2.2.1 hbut HA.out.2.2.1.size HG.out.1,Nat.lt_of_lt_of_le HA.out.2.2.2 hbut.size⟩
    clear h1 hbut C HA;go_wp2
    go_roundg (gk-1)
    case measure=>omega
    case rel=>exact ⟨k+1,by omega,by first | rfl | simp,H3.out⟩
  · obtain rfl:n=k:=by omega
    have hd:decide ((n:Int)<n)=false:=by simp
    have hc:=HA.out.2.1;clear HH;go_wp2;go_ret;exact ⟨g,rfl,HA.out.1,HA.out.2.2.1⟩
end
section
open Go.RowKit J
theorem neg12 {P:Program}(w:World) (t:TypeId) (y:Nat) (hy:y<18446744073709551616):(Go.Op.unary .neg (.float .f64 y)).run P w=.ok (.float .f64 (turnW y)) w:=by
 rw [←neg_turn y hy];rfl
theorem hand12D (p q g h k n m c1 c2 b1 o1 b2 o2:Nat) (I:List (Nat×Int)) (x y:Nat) (u:World) (hA:At12 u g I) (hl:I.length<1000000) (hx:x<18446744073709551616) (hy:y<18446744073709551616) (hc:u.cell? ⟨h,0,none⟩=some (.pointer (some ⟨g,0,none⟩)))
 (hp:u.cell? ⟨p,0,none⟩=some (.slice (some ⟨b1,o1,none⟩) n c1)) (hq:u.cell? ⟨q,0,none⟩=some (.slice (some ⟨b2,o2,none⟩) m c2)) (h1:u.cell? ⟨b1,o1+k,none⟩=some (.float .f64 x)) (h2:u.cell? ⟨b2,o2+k,none⟩=some (.float .f64 y)) (hk1:k<n) (hk2:k<m) (hn:n≤65536) :
 (p<g∧q<g∧b1<g∧b2<g) →
 Calls Tryz.prog 38 #[.int .i64 (k:Nat),.func (.func 84) #[] #[.pointer (some ⟨h,0,none⟩)],.pointer (some ⟨p,0,none⟩),.pointer (some ⟨q,0,none⟩)] u fun r u'=>r=.returned (.tuple #[])∧At12 u' g (I++[(pK x y,pT x y)])∧But g u u':=by
 rintro ⟨l1,l2,l3,l4⟩;have hgl:=hA.lt;have HP:=hid (put12 g h I x y u.drew (hA.bel ((Below.refl _ _).drew)) hl hx hy hc);have kS:Aside (u.drew.cell? ⟨p,0,none⟩=some (.slice (some ⟨b1,o1,none⟩) n c1)∧u.drew.cell? ⟨q,0,none⟩=some (.slice (some ⟨b2,o2,none⟩) m c2)∧u.drew.cell? ⟨b1,o1+k,none⟩=some (.float .f64 x)∧u.drew.cell? ⟨b2,o2+k,none⟩=some (.float .f64 y)):=⟨hp,hq,h1,h2⟩;have HL:=qsd (ai l1 (ai l2 (ai l3 (ai l4 hgl))));have hkb:k<4611686018427387904:=by omega
 clear hA hl hx hy hc hp hq h1 h2 hn l1 l2 l3 l4 hgl;go_enter Tryz.func38,Tryz.ntmps38
 go_upto_region 0 with fail
 go_region_held3 (fun w'=>w'.cell? ⟨p,0,none⟩=some (.slice (some ⟨b1,o1,none⟩) n c1)∧w'.cell? ⟨q,0,none⟩=some (.slice (some ⟨b2,o2,none⟩) m c2)∧w'.cell? ⟨b1,o1+k,none⟩=some (.float .f64 x)∧w'.cell? ⟨b2,o2+k,none⟩=some (.float .f64 y)) (with_reducible exact kS.out) (first
  | (go_at_call 84
     with_reducible refine HP.out.mono ?_
     rintro r v ⟨rfl,hA,hbut⟩;have H:=qsd (ai hA hbut);have kS:=qsd (ai ((World.cell?_of_block (a:=⟨p,0,none⟩) (hbut.block p (show p<u.heap.size by have:=HL.out;omega) (by have:=HL.out;omega))).trans kS.out.1) (ai ((World.cell?_of_block (a:=⟨q,0,none⟩) (hbut.block q (show q<u.heap.size by have:=HL.out;omega) (by have:=HL.out;omega))).trans kS.out.2.1) (ai ((World.cell?_of_block (a:=⟨b1,o1+k,none⟩) (hbut.block b1 (show b1<u.heap.size by have:=HL.out;omega) (by have:=HL.out;omega))).trans kS.out.2.2.1) ((World.cell?_of_block (a:=⟨b2,o2+k,none⟩) (hbut.block b2 (show b2<u.heap.size by have:=HL.out;omega) (by have:=HL.out;omega))).trans kS.out.2.2.2))))
     clear hA hbut))
 all_goals (
  clear kS HP;go_wp2
  go_end0
  exact ⟨rfl,H.out.1,(But.refl g u).drew.trans H.out.2⟩)
theorem hand12N (p g h k n c1 b1 o1:Nat) (I:List (Nat×Int)) (x:Nat) (u:World) (hA:At12 u g I) (hl:I.length<1000000) (hx:x<18446744073709551616) (hc:u.cell? ⟨h,0,none⟩=some (.pointer (some ⟨g,0,none⟩)))
 (hp:u.cell? ⟨p,0,none⟩=some (.slice (some ⟨b1,o1,none⟩) n c1)) (h1:u.cell? ⟨b1,o1+k,none⟩=some (.float .f64 x)) (hk1:k<n) (hn:n≤65536) :
 (p<g∧b1<g) →
 Calls Tryz.prog 46 #[.int .i64 (k:Nat),.func (.func 84) #[] #[.pointer (some ⟨h,0,none⟩)],.pointer (some ⟨p,0,none⟩)] u fun r u'=>r=.returned (.tuple #[])∧At12 u' g (I++[(pK x x,pT x x)])∧But g u u':=by
 rintro ⟨l1,l3⟩;have hgl:=hA.lt;have HP:=hid (put12 g h I x x u.drew (hA.bel ((Below.refl _ _).drew)) hl hx hx hc);have kS:Aside (u.drew.cell? ⟨p,0,none⟩=some (.slice (some ⟨b1,o1,none⟩) n c1)∧u.drew.cell? ⟨b1,o1+k,none⟩=some (.float .f64 x)):=⟨hp,h1⟩;have HL:=qsd (ai l1 (ai l3 hgl));have hkb:k<4611686018427387904:=by omega
 clear hA hl hx hc hp h1 hn l1 l3 hgl;go_enter Tryz.func46,Tryz.ntmps46
 go_upto_region 0 with fail
 go_region_held3 (fun w'=>w'.cell? ⟨p,0,none⟩=some (.slice (some ⟨b1,o1,none⟩) n c1)∧w'.cell? ⟨b1,o1+k,none⟩=some (.float .f64 x)) (with_reducible exact kS.out) (first
  | (go_at_call 84
     with_reducible refine HP.out.mono ?_
     rintro r v ⟨rfl,hA,hbut⟩;have H:=qsd (ai hA hbut);have kS:=qsd (ai ((World.cell?_of_block (a:=⟨p,0,none⟩) (hbut.block p (show p<u.heap.size by have:=HL.out;omega) (by have:=HL.out;omega))).trans kS.out.1) ((World.cell?_of_block (a:=⟨b1,o1+k,none⟩) (hbut.block b1 (show b1<u.heap.size by have:=HL.out;omega) (by have:=HL.out;omega))).trans kS.out.2))
     clear hA hbut))
 all_goals (
  clear kS HP;go_wp2
  go_end0
  exact ⟨rfl,H.out.1,(But.refl g u).drew.trans H.out.2⟩)
end
section
open Go.RowKit J
theorem finite12 (x:Nat) (hx:x<18446744073709551616) (w:World):Calls Tryz.prog 102 #[.float .f64 x] w fun r w'=>r=.returned (.bool (decide (finW x)))∧Below w.heap.size w w':=by
 by_cases fx:finW x
 · rw [decide_eq_true fx]
   have d:=run_float_arith (P:=Tryz.prog) w .sub 27 .f64 x x 0 (sub_self_fin x hx fx);have ho:(FloatKind.f64.format.order 0 0==some .eq)=true:=by decide +kernel
   clear hx fx;go_enter Tryz.func102,Tryz.ntmps102
   go_wp2_with (simp only [d])
   go_ret;exact ⟨rfl,Below.refl _ _⟩
 · rw [decide_eq_false fx]
   have h:floatBits .sub .f64 x x=none:=by
    rcases sub_odd x x hx hx (fun q=>fx q.1) with ⟨h,_⟩|⟨z,_,_,_,h⟩
    · exact h
    · exfalso
      unfold k12 at h;have hx2:¬ magW x<9218868437227405312:=fx;rw [if_pos (by rcases Nat.lt_or_ge 9218868437227405312 (magW x) with q | q;exact .inl q;exact .inr (.inr ⟨by omega,by omega,rfl⟩))] at h
      omega
   obtain ⟨z,hz,d⟩:=run_float_none (P:=Tryz.prog) w .sub 27 x x (.inr (.inl rfl)) h;have ho:=order_nan z hz.1;clear hx fx h hz;go_enter Tryz.func102,Tryz.ntmps102
   go_wp2_with (simp only [d])
   go_ret;exact ⟨rfl,(Below.refl _ _).drew⟩
def ap12 (x y:Nat):List (Nat×Int):=if finW x∧finW y then [(pK x x,pT x x),(pK y y,pT y y),(pK x (turnW y),pT x (turnW y)),(pK x (turnW y),pT x (turnW y))] else [(k12 x y,0)]
theorem ap12_len (x y:Nat):(ap12 x y).length≤4:=by unfold ap12;split <;> simp
theorem but_cell {g h:Nat}{w w':World}{v:Value}(hb:But g w w') (hl:h<w.heap.size) (hne:h≠g) (hc:w.cell? ⟨h,0,none⟩=some v):w'.cell? ⟨h,0,none⟩=some v:=(World.cell?_of_block (a:=⟨h,0,none⟩) (hb.block h hl hne)).trans hc
theorem apart12 (g h:Nat) (I:List (Nat×Int)) (x y:Nat) (u:World) (hA:At12 u g I) (hl:I.length<999990) (hx:x<18446744073709551616) (hy:y<18446744073709551616) (hc:u.cell? ⟨h,0,none⟩=some (.pointer (some ⟨g,0,none⟩))) (hh:h<u.heap.size) (hne:h≠g) :
 Calls Tryz.prog 49 #[.float .f64 x,.float .f64 y,.func (.func 84) #[] #[.pointer (some ⟨h,0,none⟩)]] u fun r u'=>r=.returned (.tuple #[])∧At12 u' g (I++ap12 x y)∧But g u u':=by
 have F1:=hid (fun W:World=>finite12 x hx W)
 have F2:=hid (fun W:World=>finite12 y hy W)
 by_cases hf:finW x∧finW y
 · have ht:=turn_lt y hy
   have e:I++ap12 x y=(((I++[(pK x x,pT x x)])++[(pK y y,pT y y)])++[(pK x (turnW y),pT x (turnW y))])++[(pK x (turnW y),pT x (turnW y))]:=by
    unfold ap12;rw [if_pos hf];simp
   rw [e];rw [decide_eq_true hf.1] at F1;rw [decide_eq_true hf.2] at F2;obtain ⟨I1,hI1⟩:∃ J,J=I++[(pK x x,pT x x)]:=⟨_,rfl⟩;obtain ⟨I2,hI2⟩:∃ J,J=I1++[(pK y y,pT y y)]:=⟨_,rfl⟩;obtain ⟨I3,hI3⟩:∃ J,J=I2++[(pK x (turnW y),pT x (turnW y))]:=⟨_,rfl⟩;obtain ⟨I4,hI4⟩:∃ J,J=I3++[(pK x (turnW y),pT x (turnW y))]:=⟨_,rfl⟩;rw [←hI1,←hI2,←hI3,←hI4];have l1:I1.length<999991:=by rw [hI1];simp;omega
   have l2:I2.length<999992:=by rw [hI2];simp;omega
   have l3:I3.length<999993:=by rw [hI3];simp;omega
   have P1:=hid (fun (W:World) (a:At12 W g I) (c:W.cell? ⟨h,0,none⟩=some (.pointer (some ⟨g,0,none⟩)))=>put12 g h I x x W a (by omega) hx hx c)
   have P2:=hid (fun (W:World) (a:At12 W g I1) (c:W.cell? ⟨h,0,none⟩=some (.pointer (some ⟨g,0,none⟩)))=>put12 g h I1 y y W a (by omega) hy hy c)
   have P3:=hid (fun (W:World) (a:At12 W g I2) (c:W.cell? ⟨h,0,none⟩=some (.pointer (some ⟨g,0,none⟩)))=>put12 g h I2 x (turnW y) W a (by omega) hx ht c)
   have P4:=hid (fun (W:World) (a:At12 W g I3) (c:W.cell? ⟨h,0,none⟩=some (.pointer (some ⟨g,0,none⟩)))=>put12 g h I3 x (turnW y) W a (by omega) hx ht c)
   rw [←hI1] at P1;rw [←hI2] at P2;rw [←hI3] at P3;rw [←hI4] at P4;have hn:=fun W:World=>neg12 (P:=Tryz.prog) W 0 y hy
   have HA:=qsd (ai hA (ai hc (ai hh hne)));clear hA hc hh hne hI1 hI2 hI3 hI4 l1 l2 l3 e hl ht hx hy hf;go_enter Tryz.func49,Tryz.ntmps49
   go_wp2_with fail
   refine (F1.out _).mono ?_;rintro r u1 ⟨rfl,hb1⟩;have K1:=qsd hb1;clear hb1
   go_wp2_with fail
   refine (F2.out _).mono ?_;rintro r u2 ⟨rfl,hb2⟩
   have K2:Aside (At12 u2 g I∧u2.cell? ⟨h,0,none⟩=some (.pointer (some ⟨g,0,none⟩))∧h<u2.heap.size∧But g u u2):=by
    have hb:=K1.out.trans (hb2.mono K1.out.size);exact ⟨HA.out.1.bel hb,(hb.cell (p:=⟨h,0,none⟩) HA.out.2.2.1).trans HA.out.2.1,Nat.lt_of_lt_of_le HA.out.2.2.1 hb.size,(But.refl g u).of_bel hb⟩
   clear hb2 K1 F1 F2
   go_wp2_with fail
   refine (P1.out _ K2.out.1 K2.out.2.1).mono ?_;rintro r u3 ⟨rfl,hA3,hB3⟩;have K3:=qsd (ai hA3 (ai (but_cell hB3 K2.out.2.2.1 HA.out.2.2.2 K2.out.2.1) (ai (Nat.lt_of_lt_of_le K2.out.2.2.1 hB3.size) (K2.out.2.2.2.trans hB3))));clear hA3 hB3 P1 K2
   go_wp2_with fail
   refine (P2.out _ K3.out.1 K3.out.2.1).mono ?_;rintro r u4 ⟨rfl,hA3,hB3⟩;have K4:=qsd (ai hA3 (ai (but_cell hB3 K3.out.2.2.1 HA.out.2.2.2 K3.out.2.1) (ai (Nat.lt_of_lt_of_le K3.out.2.2.1 hB3.size) (K3.out.2.2.2.trans hB3))));clear hA3 hB3 P2 K3
   go_wp2_with (simp only [hn])
   refine (P3.out _ K4.out.1 K4.out.2.1).mono ?_;rintro r u5 ⟨rfl,hA3,hB3⟩;have K5:=qsd (ai hA3 (ai (but_cell hB3 K4.out.2.2.1 HA.out.2.2.2 K4.out.2.1) (ai (Nat.lt_of_lt_of_le K4.out.2.2.1 hB3.size) (K4.out.2.2.2.trans hB3))));clear hA3 hB3 P3 K4
   go_wp2_with (simp only [hn])
   refine (P4.out _ K5.out.1 K5.out.2.1).mono ?_;rintro r u6 ⟨rfl,hA3,hB3⟩;have K6:=qsd (ai hA3 (K5.out.2.2.2.trans hB3));clear hA3 hB3 P4 K5;go_wp2
   go_end0
   exact ⟨rfl,K6.out.1,K6.out.2⟩
 · have e:ap12 x y=[(k12 x y,0)]:=by unfold ap12;rw [if_neg hf]
   rw [e];have HA:=qsd (ai hA (ai hc (ai hh (ai hne hl))))
   have hfd:(decide (finW x)=false)∨(decide (finW x)=true∧decide (finW y)=false):=by
    by_cases f1:finW x
    · exact .inr ⟨decide_eq_true f1,decide_eq_false (fun f2=>hf ⟨f1,f2⟩)⟩
    · exact .inl (decide_eq_false f1)
   have hodd:=sub_odd x y hx hy hf;have HX:=qsd (ai hx hy);clear hA hc hh hne hl e hf hx hy;have fin:Hid (∀ (W:World) (tmps:Array Value) (z1 z2:Nat),True):=fun _ _ _ _=>trivial
   clear fin
   rcases hfd with hfd|⟨hfd1,hfd⟩
   · rw [hfd] at F1
     clear hfd F2;go_enter Tryz.func49,Tryz.ntmps49
     go_wp2_with fail
     refine (F1.out _).mono ?_;rintro r u2 ⟨rfl,hb⟩
     have K2:Aside (At12 u2 g I∧u2.cell? ⟨h,0,none⟩=some (.pointer (some ⟨g,0,none⟩))∧But g u u2) :=
      ⟨HA.out.1.bel hb,(hb.cell (p:=⟨h,0,none⟩) HA.out.2.2.1).trans HA.out.2.1,(But.refl g u).of_bel hb⟩
     clear hb F1
     rcases hodd with ⟨hno,hk⟩|⟨z,hz,hm,hz64,hk⟩
     · obtain ⟨z1,hz1,d1⟩:=run_float_none (P:=Tryz.prog) u2 .sub 27 x y (.inr (.inl rfl)) hno
       obtain ⟨z2,hz2,d2⟩:=run_float_none (P:=Tryz.prog) u2.drew .sub 27 x y (.inr (.inl rfl)) hno;have HP:=put12 g h I z1 z2 u2.drew.drew (K2.out.1.bel (((Below.refl _ _).drew).drew)) (by have:=HA.out.2.2.2.2;omega) hz1.2 hz2.2 K2.out.2.1
       rw [pK_nans hz1.1 hz2.1,(pT_odd (fun q=>by have q1:magW z1<9218868437227405312:=q.1;have:9218868437227405312<magW z1:=hz1.1;omega)).1,←hk] at HP
       have HP:=hid HP;clear hno hk hz1 hz2 HX
       go_wp2_with (first | simp only [d1] | simp only [d2])
       refine HP.out.mono ?_;rintro r u3 ⟨rfl,hA3,hB3⟩;have K3:=qsd (ai hA3 (K2.out.2.2.trans (((But.refl g u2).drew.drew).trans hB3)));clear hA3 hB3 HP K2 d1 d2;go_wp2;refine bodyPost_ret (results_none rfl _ _ _) rfl ?_;exact ⟨rfl,K3.out.1,K3.out.2⟩
     · have d1:=run_float_arith (P:=Tryz.prog) u2 .sub 27 .f64 x y z hz
       have HP:=put12 g h I z z u2 K2.out.1 (by have:=HA.out.2.2.2.2;omega) hz64 hz64 K2.out.2.1
       rw [pK_self_inf hm,(pT_odd (fun q=>by have q1:magW z<9218868437227405312:=q.1;omega)).1,←hk] at HP
       have HP:=hid HP;clear hz hk hm hz64 HX
       go_wp2_with (simp only [d1])
       refine HP.out.mono ?_;rintro r u3 ⟨rfl,hA3,hB3⟩;have K3:=qsd (ai hA3 (K2.out.2.2.trans hB3));clear hA3 hB3 HP K2 d1;go_wp2;refine bodyPost_ret (results_none rfl _ _ _) rfl ?_;exact ⟨rfl,K3.out.1,K3.out.2⟩
   · rw [hfd1] at F1
     rw [hfd] at F2;clear hfd hfd1;go_enter Tryz.func49,Tryz.ntmps49
     go_wp2_with fail
     refine (F1.out _).mono ?_;rintro r u1 ⟨rfl,hb1⟩;have K1:=qsd hb1;clear hb1
     go_wp2_with fail
     refine (F2.out _).mono ?_;rintro r u2 ⟨rfl,hb2⟩
     have K2:Aside (At12 u2 g I∧u2.cell? ⟨h,0,none⟩=some (.pointer (some ⟨g,0,none⟩))∧But g u u2):=by
      have hb:=K1.out.trans (hb2.mono K1.out.size);exact ⟨HA.out.1.bel hb,(hb.cell (p:=⟨h,0,none⟩) HA.out.2.2.1).trans HA.out.2.1,(But.refl g u).of_bel hb⟩
     clear hb2 F1 F2 K1
     rcases hodd with ⟨hno,hk⟩|⟨z,hz,hm,hz64,hk⟩
     · obtain ⟨z1,hz1,d1⟩:=run_float_none (P:=Tryz.prog) u2 .sub 27 x y (.inr (.inl rfl)) hno
       obtain ⟨z2,hz2,d2⟩:=run_float_none (P:=Tryz.prog) u2.drew .sub 27 x y (.inr (.inl rfl)) hno;have HP:=put12 g h I z1 z2 u2.drew.drew (K2.out.1.bel (((Below.refl _ _).drew).drew)) (by have:=HA.out.2.2.2.2;omega) hz1.2 hz2.2 K2.out.2.1
       rw [pK_nans hz1.1 hz2.1,(pT_odd (fun q=>by have q1:magW z1<9218868437227405312:=q.1;have:9218868437227405312<magW z1:=hz1.1;omega)).1,←hk] at HP
       have HP:=hid HP;clear hno hk hz1 hz2 HX
       go_wp2_with (first | simp only [d1] | simp only [d2])
       refine HP.out.mono ?_;rintro r u3 ⟨rfl,hA3,hB3⟩;have K3:=qsd (ai hA3 (K2.out.2.2.trans (((But.refl g u2).drew.drew).trans hB3)));clear hA3 hB3 HP K2 d1 d2;go_wp2;refine bodyPost_ret (results_none rfl _ _ _) rfl ?_;exact ⟨rfl,K3.out.1,K3.out.2⟩
     · have d1:=run_float_arith (P:=Tryz.prog) u2 .sub 27 .f64 x y z hz
       have HP:=put12 g h I z z u2 K2.out.1 (by have:=HA.out.2.2.2.2;omega) hz64 hz64 K2.out.2.1
       rw [pK_self_inf hm,(pT_odd (fun q=>by have q1:magW z<9218868437227405312:=q.1;omega)).1,←hk] at HP
       have HP:=hid HP;clear hz hk hm hz64 HX
       go_wp2_with (simp only [d1])
       refine HP.out.mono ?_;rintro r u3 ⟨rfl,hA3,hB3⟩;have K3:=qsd (ai hA3 (K2.out.2.2.trans hB3));clear hA3 hB3 HP K2 d1;go_wp2;refine bodyPost_ret (results_none rfl _ _ _) rfl ?_;exact ⟨rfl,K3.out.1,K3.out.2⟩
theorem hand12A (p q g h k n m c1 c2 b1 o1 b2 o2:Nat) (I:List (Nat×Int)) (x y:Nat) (u:World) (hA:At12 u g I) (hl:I.length<999990) (hx:x<18446744073709551616) (hy:y<18446744073709551616) (hc:u.cell? ⟨h,0,none⟩=some (.pointer (some ⟨g,0,none⟩)))
 (hp:u.cell? ⟨p,0,none⟩=some (.slice (some ⟨b1,o1,none⟩) n c1)) (hq:u.cell? ⟨q,0,none⟩=some (.slice (some ⟨b2,o2,none⟩) m c2)) (h1:u.cell? ⟨b1,o1+k,none⟩=some (.float .f64 x)) (h2:u.cell? ⟨b2,o2+k,none⟩=some (.float .f64 y)) (hk1:k<n) (hk2:k<m) (hn:n≤65536) (hh:h<u.heap.size) (hne:h≠g) :
 (p<g∧q<g∧b1<g∧b2<g) →
 Calls Tryz.prog 48 #[.int .i64 (k:Nat),.func (.func 84) #[] #[.pointer (some ⟨h,0,none⟩)],.pointer (some ⟨p,0,none⟩),.pointer (some ⟨q,0,none⟩)] u fun r u'=>r=.returned (.tuple #[])∧At12 u' g (I++ap12 x y)∧But g u u':=by
 rintro ⟨l1,l2,l3,l4⟩;have hgl:=hA.lt;have HP:=hid (apart12 g h I x y u.drew (hA.bel ((Below.refl _ _).drew)) hl hx hy hc hh hne);have kS:Aside (u.drew.cell? ⟨p,0,none⟩=some (.slice (some ⟨b1,o1,none⟩) n c1)∧u.drew.cell? ⟨q,0,none⟩=some (.slice (some ⟨b2,o2,none⟩) m c2)∧u.drew.cell? ⟨b1,o1+k,none⟩=some (.float .f64 x)∧u.drew.cell? ⟨b2,o2+k,none⟩=some (.float .f64 y)):=⟨hp,hq,h1,h2⟩;have HL:=qsd (ai l1 (ai l2 (ai l3 (ai l4 hgl))));have hkb:k<4611686018427387904:=by omega
 clear hA hl hx hy hc hp hq h1 h2 hn l1 l2 l3 l4 hgl hh hne;go_enter Tryz.func48,Tryz.ntmps48
 go_upto_region 0 with fail
 go_region_held3 (fun w'=>w'.cell? ⟨p,0,none⟩=some (.slice (some ⟨b1,o1,none⟩) n c1)∧w'.cell? ⟨q,0,none⟩=some (.slice (some ⟨b2,o2,none⟩) m c2)∧w'.cell? ⟨b1,o1+k,none⟩=some (.float .f64 x)∧w'.cell? ⟨b2,o2+k,none⟩=some (.float .f64 y)) (with_reducible exact kS.out) (first
  | (go_at_call 49
     with_reducible refine HP.out.mono ?_
     rintro r v ⟨rfl,hA,hbut⟩;have H:=qsd (ai hA hbut);have kS:=qsd (ai ((World.cell?_of_block (a:=⟨p,0,none⟩) (hbut.block p (show p<u.heap.size by have:=HL.out;omega) (by have:=HL.out;omega))).trans kS.out.1) (ai ((World.cell?_of_block (a:=⟨q,0,none⟩) (hbut.block q (show q<u.heap.size by have:=HL.out;omega) (by have:=HL.out;omega))).trans kS.out.2.1) (ai ((World.cell?_of_block (a:=⟨b1,o1+k,none⟩) (hbut.block b1 (show b1<u.heap.size by have:=HL.out;omega) (by have:=HL.out;omega))).trans kS.out.2.2.1) ((World.cell?_of_block (a:=⟨b2,o2+k,none⟩) (hbut.block b2 (show b2<u.heap.size by have:=HL.out;omega) (by have:=HL.out;omega))).trans kS.out.2.2.2))))
     clear hA hbut))
 all_goals (
  clear kS HP;go_wp2
  go_end0
  exact ⟨rfl,H.out.1,(But.refl g u).drew.trans H.out.2⟩)
end
section
open Go.RowKit
theorem ahead10 (g:Nat) (V:Int) (s:Sp) (mode a b:Int) (w:World) (hA:Acc7 w g V s) (hs:s.ok) (hm0:0≤mode) (hm1:mode≤4) (hab:may a b=true) (ha:¬ (0<s.n∧a=2)) (hb:¬ (0<s.u+s.d∧b=2)) :
 Calls Tryz.prog 86 #[.pointer (some ⟨g,0,none⟩),.int .i64 mode,.agg #[.int .i64 a,.int .i64 b]] w fun r w'=>r=.returned (.tuple #[.float .f64 (ahd V s mode a b).1,.bool (ahd V s mode a b).2.1,.int .i64 (ahd V s mode a b).2.2])∧Below w.heap.size w w':=by
 obtain ⟨⟨X,tl,er⟩,hX⟩:∃ X,X=ahd V s mode a b:=⟨_,rfl⟩;rw [←hX];simp only;obtain ⟨L,a1,a2,a3,a4,a5,a6⟩:=hA;have hz:=zero_words L V a1 a2 a3 a4 a5;obtain ⟨n,u,d,m,p,l⟩:=s;have HM:=hid (fun u:World=>May_any a b u)
 rw [hab] at HM;have HV:=hid (fun w:World=>Verdict_any n u d m p l a b w)
 have HN:=hid (fun w:World=>Nought_any n u d m p l mode w)
 obtain ⟨⟨vx,vt⟩,hvd⟩:∃ v,v=vd (snd n u d m p l&&may a b) n u d a b:=⟨_,rfl⟩;obtain ⟨nx,hnt⟩:∃ v,v=nt (snd n u d m p l) n u d m p l mode:=⟨_,rfl⟩;rw [←hvd] at HV;rw [←hnt] at HN;simp only at HV;simp only [ahd] at hX;rw [←hvd,←hnt] at hX;simp only at hX;have HX:=qsd hX;have HA:=qsd (ai a1 (ai a6 hz));have hlt:=a6.lt;have hne:g≠w.heap.size:=Nat.ne_of_lt hlt;have hne1:g≠w.heap.size+1:=by omega
 have c0:=a6.cell a1 0 _ rfl;have c1:=a6.cell a1 1 _ rfl;have c2:=a6.cell a1 2 _ rfl;have c3:=a6.cell a1 3 _ rfl;have c4:=a6.cell a1 4 _ rfl;have c5:=a6.cell a1 5 _ rfl;obtain ⟨h0,h1,h2,h3,h4,h5⟩:=hs;have ha1:¬ (0<n∧a=2):=ha;have hb1:¬ (0<u+d∧b=2):=hb;have b0:decide (mode<0)=false:=by simp;omega
 have b1:decide (4<mode)=false:=by simp;omega
 clear a1 a2 a3 a4 a5 a6 hX hvd hnt hab ha hb hz;go_enter Tryz.func86,Tryz.ntmps86
 go_wp2_with fail
 refine (HM.out _).mono ?_;rintro r w1 ⟨rfl,hb1⟩;have hz1:w.heap.size+1<w1.heap.size:=by have:=hb1.size;simp at this;omega
 have B1:=qsd hb1
 have P1:Aside (Bl w1 w.heap.size 24 [.int .i64 a,.int .i64 b]∧Bl w1 (w.heap.size+1) 42 [.int .i64 n,.int .i64 u,.int .i64 d,.int .i64 m,.int .i64 p,.int .i64 l]∧Below w.heap.size w w1∧Ac w1 g L ⟨n,u,d,m,p,l⟩):=by
  have e0:=(bel_alloc w (Obj.cells #[.int .i64 a,.int .i64 b] 24)).trans ((bel_alloc (w.alloc (Obj.cells #[.int .i64 a,.int .i64 b] 24)) (Obj.cells #[.int .i64 n,.int .i64 u,.int .i64 d,.int .i64 m,.int .i64 p,.int .i64 l] 42)).mono (by simp))
  have e1:=e0.trans (hb1.mono e0.size);exact ⟨(((Bl.new w 24 [_,_]).alloc _).below hb1 (by simp;omega)),((Bl.new' (w.alloc _) 42 _ [_,_,_,_,_,_] (by simp)).below hb1 (by simp)),e1,HA.out.2.1.below e1 HA.out.2.1.lt⟩
 clear hb1 c0 c1 c2 c3 c4 c5;have q0:=P1.out.1.cell 0 _ rfl;have q1:=P1.out.1.cell 1 _ rfl;have s0:=P1.out.2.1.cell 0 _ rfl;have s1:=P1.out.2.1.cell 1 _ rfl;have s2:=P1.out.2.1.cell 2 _ rfl;have s3:=P1.out.2.1.cell 3 _ rfl;have s4:=P1.out.2.1.cell 4 _ rfl;have s5:=P1.out.2.1.cell 5 _ rfl
 have hca:(0<n∧(a==2)=false)∨n≤0:=by
  by_cases h:0<n
  · exact .inl ⟨h,by simp;intro e;exact ha1 ⟨h,e⟩⟩
  · exact .inr (by omega)
 have hcb:(0<u+d∧(b==2)=false)∨u+d≤0:=by
  by_cases h:0<u+d
  · exact .inl ⟨h,by simp;intro e;exact hb1 ⟨h,e⟩⟩
  · exact .inr (by omega)
 clear ha1 hb1
 rcases hca with ⟨hn,ha'⟩|hn <;> rcases hcb with ⟨hu,hb'⟩|hu
 all_goals (
  go_wp2_with fail
  refine (HV.out _).mono ?_;rintro r w2 ⟨rfl,hb2⟩
  have P2:Aside (Bl w2 (w.heap.size+1) 42 [.int .i64 n,.int .i64 u,.int .i64 d,.int .i64 m,.int .i64 p,.int .i64 l]∧Below w.heap.size w w2∧Ac w2 g L ⟨n,u,d,m,p,l⟩) :=
   ⟨P1.out.2.1.below hb2 P1.out.2.1.lt,P1.out.2.2.1.trans (hb2.mono P1.out.2.2.1.size),P1.out.2.2.2.below hb2 P1.out.2.2.2.lt⟩
  clear hb2 q0 q1 s0 s1 s2 s3 s4 s5 hn hu
  cases vt
  · have s0:=P2.out.1.cell 0 _ rfl
    have s1:=P2.out.1.cell 1 _ rfl;have s2:=P2.out.1.cell 2 _ rfl;have s3:=P2.out.1.cell 3 _ rfl;have s4:=P2.out.1.cell 4 _ rfl;have s5:=P2.out.1.cell 5 _ rfl
    go_wp2_with (first | (with_reducible refine wpList_load_mid (P:=Tryz.prog) rfl 135 (.tmp 57) rfl g 0 rfl (L.map U) _ P2.out.2.2.range Tryz.desc_words rfl (by simp [Tryz.size_words,HA.out.1]) ?_))
    rw [Tryz.nought_words,eq_words L _ w2 HA.out.1 (by simp),HA.out.2.2]
    generalize (List.replicate 133 0).map U=zz
    by_cases hV:V=0
    · rw [decide_eq_true hV]
      simp only [Result.andThen_ok,Oper.upon];have HX2:=qsd (show (X,tl,er)=(nx,true,0) by rw [HX.out,if_neg (by decide),if_pos hV])
      clear hV
      go_wp2_with fail
      refine (HN.out _).mono ?_;rintro r w3 ⟨rfl,hb3⟩;have B3:=qsd hb3;clear hb3;go_wp2;refine bodyPost_ret (v:=.tuple #[.float .f64 nx,.bool true,.int .i64 0]) (by simp [results,Tryz.results86,go_sem]) rfl ?_
      have e:=HX2.out
      cases e
      exact ⟨rfl,P2.out.2.1.trans (B3.out.mono P2.out.2.1.size)⟩
    · rw [decide_eq_false hV]
      simp only [Result.andThen_ok,Oper.upon];have HX2:=qsd (show (X,tl,er)=(0,false,0) by rw [HX.out,if_neg (by decide),if_neg hV])
      clear hV;go_wp2;refine bodyPost_ret (v:=.tuple #[.float .f64 0,.bool false,.int .i64 0]) (by simp [results,Tryz.results86,go_sem]) rfl ?_
      have e:=HX2.out
      cases e
      exact ⟨rfl,P2.out.2.1⟩
  · go_wp2
    refine bodyPost_ret (v:=.tuple #[.float .f64 vx,.bool true,.int .i64 0]) (by simp [results,Tryz.results86,go_sem]) rfl ?_
    have e:=HX.out;rw [if_pos trivial] at e
    cases e
    exact ⟨rfl,P2.out.2.1⟩)
theorem ahead10_nan (g:Nat) (V:Int) (s:Sp) (mode a b:Int) (w:World) (hA:Acc7 w g V s) (hs:s.ok) (hm0:0≤mode) (hm1:mode≤4) (hab:may a b=true) (hx:0<s.n∧a=2) :
 Calls Tryz.prog 86 #[.pointer (some ⟨g,0,none⟩),.int .i64 mode,.agg #[.int .i64 a,.int .i64 b]] w fun r w'=>r=.returned (.tuple #[.float .f64 0,.bool false,.int .i64 60])∧Below w.heap.size w w':=by
 obtain ⟨L,a1,a2,a3,a4,a5,a6⟩:=hA;obtain ⟨n,u,d,m,p,l⟩:=s;have HM:=hid (fun u:World=>May_any a b u)
 rw [hab] at HM;have HA:=qsd (ai a1 a6);have hlt:=a6.lt;have hne:g≠w.heap.size:=Nat.ne_of_lt hlt;have hne1:g≠w.heap.size+1:=by omega
 have c0:=a6.cell a1 0 _ rfl;have c1:=a6.cell a1 1 _ rfl;have c2:=a6.cell a1 2 _ rfl;have c3:=a6.cell a1 3 _ rfl;have c4:=a6.cell a1 4 _ rfl;have c5:=a6.cell a1 5 _ rfl;obtain ⟨h0,h1,h2,h3,h4,h5⟩:=hs;have b0:decide (mode<0)=false:=by simp;omega
 have b1:decide (4<mode)=false:=by simp;omega
 have hn:0<n:=hx.1;have ha2:(a==2)=true:=by simpa using hx.2
 clear hx;clear a1 a2 a3 a4 a5 a6 hab;go_enter Tryz.func86,Tryz.ntmps86
 go_wp2_with fail
 refine (HM.out _).mono ?_;rintro r w1 ⟨rfl,hb1⟩
 have P1:Aside (Bl w1 w.heap.size 24 [.int .i64 a,.int .i64 b]∧Bl w1 (w.heap.size+1) 42 [.int .i64 n,.int .i64 u,.int .i64 d,.int .i64 m,.int .i64 p,.int .i64 l]∧Below w.heap.size w w1):=by
  have e0:=(bel_alloc w (Obj.cells #[.int .i64 a,.int .i64 b] 24)).trans ((bel_alloc (w.alloc (Obj.cells #[.int .i64 a,.int .i64 b] 24)) (Obj.cells #[.int .i64 n,.int .i64 u,.int .i64 d,.int .i64 m,.int .i64 p,.int .i64 l] 42)).mono (by simp))
  have e1:=e0.trans (hb1.mono e0.size);exact ⟨(((Bl.new w 24 [_,_]).alloc _).below hb1 (by simp;omega)),((Bl.new' (w.alloc _) 42 _ [_,_,_,_,_,_] (by simp)).below hb1 (by simp)),e1⟩
 clear hb1 c0 c1 c2 c3 c4 c5;have q0:=P1.out.1.cell 0 _ rfl;have q1:=P1.out.1.cell 1 _ rfl;have s0:=P1.out.2.1.cell 0 _ rfl;have s1:=P1.out.2.1.cell 1 _ rfl;have s2:=P1.out.2.1.cell 2 _ rfl;have s3:=P1.out.2.1.cell 3 _ rfl;have s4:=P1.out.2.1.cell 4 _ rfl;have s5:=P1.out.2.1.cell 5 _ rfl
 all_goals
  go_wp2;refine bodyPost_ret (v:=.tuple #[.float .f64 0,.bool false,.int .i64 60]) (by simp [results,Tryz.results86,go_sem]) rfl ?_
  exact ⟨rfl,P1.out.2.2⟩
theorem ahead10_inf (g:Nat) (V:Int) (s:Sp) (mode a b:Int) (w:World) (hA:Acc7 w g V s) (hs:s.ok) (hm0:0≤mode) (hm1:mode≤4) (hab:may a b=true) (hn:¬ (0<s.n∧a=2)) (hx:0<s.u+s.d∧b=2) :
 Calls Tryz.prog 86 #[.pointer (some ⟨g,0,none⟩),.int .i64 mode,.agg #[.int .i64 a,.int .i64 b]] w fun r w'=>r=.returned (.tuple #[.float .f64 0,.bool false,.int .i64 61])∧Below w.heap.size w w':=by
 obtain ⟨L,a1,a2,a3,a4,a5,a6⟩:=hA;obtain ⟨n,u,d,m,p,l⟩:=s;have HM:=hid (fun u:World=>May_any a b u)
 rw [hab] at HM;have HA:=qsd (ai a1 a6);have hlt:=a6.lt;have hne:g≠w.heap.size:=Nat.ne_of_lt hlt;have hne1:g≠w.heap.size+1:=by omega
 have c0:=a6.cell a1 0 _ rfl;have c1:=a6.cell a1 1 _ rfl;have c2:=a6.cell a1 2 _ rfl;have c3:=a6.cell a1 3 _ rfl;have c4:=a6.cell a1 4 _ rfl;have c5:=a6.cell a1 5 _ rfl;obtain ⟨h0,h1,h2,h3,h4,h5⟩:=hs;have b0:decide (mode<0)=false:=by simp;omega
 have b1:decide (4<mode)=false:=by simp;omega
 have hu:0<u+d:=hx.1;have hb2:(b==2)=true:=by simpa using hx.2
 have hca:(0<n∧(a==2)=false)∨n≤0:=by
  by_cases h:0<n
  · exact .inl ⟨h,by simp;intro e;exact hn ⟨h,e⟩⟩
  · exact .inr (by omega)
 clear hx hn;clear a1 a2 a3 a4 a5 a6 hab;go_enter Tryz.func86,Tryz.ntmps86
 go_wp2_with fail
 refine (HM.out _).mono ?_;rintro r w1 ⟨rfl,hb1⟩
 have P1:Aside (Bl w1 w.heap.size 24 [.int .i64 a,.int .i64 b]∧Bl w1 (w.heap.size+1) 42 [.int .i64 n,.int .i64 u,.int .i64 d,.int .i64 m,.int .i64 p,.int .i64 l]∧Below w.heap.size w w1):=by
  have e0:=(bel_alloc w (Obj.cells #[.int .i64 a,.int .i64 b] 24)).trans ((bel_alloc (w.alloc (Obj.cells #[.int .i64 a,.int .i64 b] 24)) (Obj.cells #[.int .i64 n,.int .i64 u,.int .i64 d,.int .i64 m,.int .i64 p,.int .i64 l] 42)).mono (by simp))
  have e1:=e0.trans (hb1.mono e0.size);exact ⟨(((Bl.new w 24 [_,_]).alloc _).below hb1 (by simp;omega)),((Bl.new' (w.alloc _) 42 _ [_,_,_,_,_,_] (by simp)).below hb1 (by simp)),e1⟩
 clear hb1 c0 c1 c2 c3 c4 c5;have q0:=P1.out.1.cell 0 _ rfl;have q1:=P1.out.1.cell 1 _ rfl;have s0:=P1.out.2.1.cell 0 _ rfl;have s1:=P1.out.2.1.cell 1 _ rfl;have s2:=P1.out.2.1.cell 2 _ rfl;have s3:=P1.out.2.1.cell 3 _ rfl;have s4:=P1.out.2.1.cell 4 _ rfl;have s5:=P1.out.2.1.cell 5 _ rfl
 rcases hca with ⟨hn,ha2⟩|hn
 all_goals
  go_wp2;refine bodyPost_ret (v:=.tuple #[.float .f64 0,.bool false,.int .i64 61]) (by simp [results,Tryz.results86,go_sem]) rfl ?_
  exact ⟨rfl,P1.out.2.2⟩
end
section
open Go.RowKit
def rd10 (V:Int) (s:Sp) (mode a b:Int):Nat×Int:=if 0<s.n∧a=2 then (0,60) else if 0<s.u+s.d∧b=2 then (0,61) else rd7 V s mode a b
theorem round10_ok (g:Nat) (V:Int) (s:Sp) (mode a b:Int) (w:World) (hA:Acc7 w g V s) (hs:s.ok) (hT:Tab w) (hm0:0≤mode) (hm1:mode≤4) (hab:may a b=true) (ha:¬ (0<s.n∧a=2)) (hb:¬ (0<s.u+s.d∧b=2)) :
 Calls Tryz.prog 39 #[.pointer (some ⟨g,0,none⟩),.int .i64 mode,.agg #[.int .i64 a,.int .i64 b]] w fun r w'=>r=.returned (.tuple #[.float .f64 (rd7 V s mode a b).1,.int .i64 (rd7 V s mode a b).2])∧Below w.heap.size w w':=by
 obtain ⟨⟨X,er⟩,hX⟩:∃ X,X=rd7 V s mode a b:=⟨_,rfl⟩;rw [←hX];simp only;have hb0:=bel_alloc w (Obj.cells #[.int .i64 a,.int .i64 b] 24);have HH:=hid (ahead10 g V s mode a b _ (hA.bel hb0) hs hm0 hm1 hab ha hb);have her:=ahd_er V s mode a b;unfold rd7 at hX;obtain ⟨⟨ax,at',ae⟩,hAh⟩:∃ Y,Y=ahd V s mode a b:=⟨_,rfl⟩;rw [←hAh] at HH her hX;simp only at HH her hX;subst her;have HX:=qsd hX;have HA:=qsd (ai hA (ai hT hb0));clear hA hT hb0 hX hAh hs hab ha hb;go_enter Tryz.func39,Tryz.ntmps39
 go_wp2_with fail
 refine HH.out.mono ?_;rintro r w1 ⟨rfl,hb1⟩;have B1:=qsd (HA.out.2.2.trans (hb1.mono HA.out.2.2.size));clear hb1
 cases at'
 · go_wp2_with fail
   refine (Exact7 g V s w1 (HA.out.1.bel B1.out) (HA.out.2.1.belows B1.out)).mono ?_;rintro r w2 ⟨v,rfl,hN,hb2⟩;obtain ⟨L,_,_,_,h0,h1,_⟩:=HA.out.1;obtain ⟨ad,c,rfl,AV⟩:=hN.arg (Nat.le_trans (dX_small h0 h1) (by decide))
   have HR:=hid (Round_any AV (HA.out.2.1.belows (B1.out.trans (hb2.mono B1.out.size))) (dN (exV V)) (dE (exV V)) mode (dE_small V).1 (dE_small V).2);rw [val_ws] at HR;have HX2:=HX.out;rw [if_neg (by decide)] at HX2
   rw [←HX2] at HR;simp only at HR;have B2:=qsd (B1.out.trans (hb2.mono B1.out.size));clear hN hb2 AV h0 h1 HX2
   go_wp2_with fail
   refine HR.out.mono ?_;rintro r w3 ⟨rfl,hb3⟩;have B3:=qsd hb3;clear hb3;go_wp2;refine bodyPost_ret (v:=.tuple #[.float .f64 X,.int .i64 er]) (by simp [results,Tryz.results39,go_sem]) rfl ?_
   exact ⟨rfl,B2.out.trans (B3.out.mono B2.out.size)⟩
 · go_wp2
   have HX2:=HX.out;rw [if_pos trivial] at HX2
   cases HX2
   refine bodyPost_ret (v:=.tuple #[.float .f64 X,.int .i64 0]) (by simp [results,Tryz.results39,go_sem]) rfl ?_
   exact ⟨rfl,B1.out⟩
theorem round10_nan (g:Nat) (mode a b:Int) (w:World)
 (HH:Hid (∀ u:World,Below w.heap.size w u→Calls Tryz.prog 86 #[.pointer (some ⟨g,0,none⟩),.int .i64 mode,.agg #[.int .i64 a,.int .i64 b]] u fun r w'=>r=.returned (.tuple #[.float .f64 0,.bool false,.int .i64 60])∧Below u.heap.size u w')) :
 Calls Tryz.prog 39 #[.pointer (some ⟨g,0,none⟩),.int .i64 mode,.agg #[.int .i64 a,.int .i64 b]] w fun r w'=>r=.returned (.tuple #[.float .f64 0,.int .i64 60])∧Below w.heap.size w w':=by
 have hb0:=qsd (bel_alloc w (Obj.cells #[.int .i64 a,.int .i64 b] 24));go_enter Tryz.func39,Tryz.ntmps39
 go_wp2_with fail
 refine (HH.out _ hb0.out).mono ?_;rintro r w1 ⟨rfl,hb1⟩;have B1:=qsd (hb0.out.trans (hb1.mono hb0.out.size));clear hb1 HH;go_wp2;refine bodyPost_ret (v:=.tuple #[.float .f64 0,.int .i64 60]) (by simp [results,Tryz.results39,go_sem]) rfl ?_
 exact ⟨rfl,B1.out⟩
theorem round10_inf (g:Nat) (mode a b:Int) (w:World)
 (HH:Hid (∀ u:World,Below w.heap.size w u→Calls Tryz.prog 86 #[.pointer (some ⟨g,0,none⟩),.int .i64 mode,.agg #[.int .i64 a,.int .i64 b]] u fun r w'=>r=.returned (.tuple #[.float .f64 0,.bool false,.int .i64 61])∧Below u.heap.size u w')) :
 Calls Tryz.prog 39 #[.pointer (some ⟨g,0,none⟩),.int .i64 mode,.agg #[.int .i64 a,.int .i64 b]] w fun r w'=>r=.returned (.tuple #[.float .f64 0,.int .i64 61])∧Below w.heap.size w w':=by
 have hb0:=qsd (bel_alloc w (Obj.cells #[.int .i64 a,.int .i64 b] 24));go_enter Tryz.func39,Tryz.ntmps39
 go_wp2_with fail
 refine (HH.out _ hb0.out).mono ?_;rintro r w1 ⟨rfl,hb1⟩;have B1:=qsd (hb0.out.trans (hb1.mono hb0.out.size));clear hb1 HH;go_wp2;refine bodyPost_ret (v:=.tuple #[.float .f64 0,.int .i64 61]) (by simp [results,Tryz.results39,go_sem]) rfl ?_
 exact ⟨rfl,B1.out⟩
theorem Round10 (g:Nat) (V:Int) (s:Sp) (mode a b:Int) (w:World) (hA:Acc7 w g V s) (hs:s.ok) (hT:Tab w) (hm0:0≤mode) (hm1:mode≤4) (hab:may a b=true) :
 Calls Tryz.prog 39 #[.pointer (some ⟨g,0,none⟩),.int .i64 mode,.agg #[.int .i64 a,.int .i64 b]] w fun r w'=>r=.returned (.tuple #[.float .f64 (rd10 V s mode a b).1,.int .i64 (rd10 V s mode a b).2])∧Below w.heap.size w w':=by
 unfold rd10
 by_cases h1:0<s.n∧a=2
 · rw [if_pos h1]
   exact round10_nan g mode a b w (hid fun u hb=>ahead10_nan g V s mode a b u (hA.bel hb) hs hm0 hm1 hab h1)
 · rw [if_neg h1]
   by_cases h2:0<s.u+s.d∧b=2
   · rw [if_pos h2]
     exact round10_inf g mode a b w (hid fun u hb=>ahead10_inf g V s mode a b u (hA.bel hb) hs hm0 hm1 hab h1 h2)
   · rw [if_neg h2]
     exact round10_ok g V s mode a b w hA hs hT hm0 hm1 hab h1 h2
end
end Go.Proofs.YthfkleadcnkglaaGreatDoor
