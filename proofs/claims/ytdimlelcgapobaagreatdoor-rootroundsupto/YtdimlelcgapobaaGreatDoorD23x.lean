import Derived.Test.YtdimlelcgapobaaGreatDoorZ8x
import Derived.Deep.RegionWith
import Derived.Deep.RegionHeld3
import Derived.Deep.CutRange
import Derived.Test.YtdimlelcgapobaaGreatDoorW34x
import Derived.BigQuiet
set_option linter.unusedVariables false
set_option linter.unusedSimpArgs false
set_option maxHeartbeats 16000000
set_option maxRecDepth 20000
namespace Go.Proofs.YtdimlelcgapobaaGreatDoor
section
open Go.RowKit
theorem and_one64 (z:Nat) (h:z<18446744073709551616):bits BinOp.and IntKind.u64 (z:Int) 1=((z%2:Nat):Int):=by
 have h:=B.bits_mask1 z h;exact h
theorem out_even1 (F:Nat) (ex:Int) (t:Bool) (n:Bool) (w:World)  :
 Calls Tryz.prog 115 #[.agg #[.int .u64 (F:Nat),.int .i64 ex,.bool t,.int .i64 1],.int .i64 0,.bool n] w fun r w'=>r=.returned (.bool true)∧Below w.heap.size w w':=by
 have HB:=sd (show Below w.heap.size w (w.alloc (.cells #[.int .u64 (F:Nat),.int .i64 ex,.bool t,.int .i64 1] 133)) from below_alloc w _)
 go_enter Tryz.func115,Tryz.ntmps115;go_wp2
 all_goals go_ret
 all_goals exact ⟨rfl,HB.out⟩
theorem out_even0 (F:Nat) (ex:Int) (t:Bool) (n:Bool) (w:World) (b:Bool) (hb:(bits BinOp.and IntKind.u64 (F:Int) 1==1)=b) :
 Calls Tryz.prog 115 #[.agg #[.int .u64 (F:Nat),.int .i64 ex,.bool t,.int .i64 0],.int .i64 0,.bool n] w fun r w'=>r=.returned (.bool b)∧Below w.heap.size w w':=by
 have HB:=sd (show Below w.heap.size w (w.alloc (.cells #[.int .u64 (F:Nat),.int .i64 ex,.bool t,.int .i64 0] 133)) from below_alloc w _)
 go_enter Tryz.func115,Tryz.ntmps115;go_wp2
 all_goals go_ret
 all_goals exact ⟨rfl,HB.out⟩
theorem out_evenm (F:Nat) (ex:Int) (t:Bool) (n:Bool) (w:World)  :
 Calls Tryz.prog 115 #[.agg #[.int .u64 (F:Nat),.int .i64 ex,.bool t,.int .i64 (-1)],.int .i64 0,.bool n] w fun r w'=>r=.returned (.bool false)∧Below w.heap.size w w':=by
 have HB:=sd (show Below w.heap.size w (w.alloc (.cells #[.int .u64 (F:Nat),.int .i64 ex,.bool t,.int .i64 (-1)] 133)) from below_alloc w _)
 go_enter Tryz.func115,Tryz.ntmps115;go_wp2
 all_goals go_ret
 all_goals exact ⟨rfl,HB.out⟩
theorem out_zero (F:Nat) (ex:Int) (t:Bool) (mid:Int) (n:Bool) (w:World)  :
 Calls Tryz.prog 115 #[.agg #[.int .u64 (F:Nat),.int .i64 ex,.bool t,.int .i64 mid],.int .i64 1,.bool n] w fun r w'=>r=.returned (.bool false)∧Below w.heap.size w w':=by
 have HB:=sd (show Below w.heap.size w (w.alloc (.cells #[.int .u64 (F:Nat),.int .i64 ex,.bool t,.int .i64 mid] 133)) from below_alloc w _)
 go_enter Tryz.func115,Tryz.ntmps115;go_wp2
 all_goals go_ret
 all_goals exact ⟨rfl,HB.out⟩
theorem out_up (F:Nat) (ex:Int) (t:Bool) (mid:Int) (n:Bool) (w:World)  :
 Calls Tryz.prog 115 #[.agg #[.int .u64 (F:Nat),.int .i64 ex,.bool t,.int .i64 mid],.int .i64 2,.bool n] w fun r w'=>r=.returned (.bool (!n))∧Below w.heap.size w w':=by
 have HB:=sd (show Below w.heap.size w (w.alloc (.cells #[.int .u64 (F:Nat),.int .i64 ex,.bool t,.int .i64 mid] 133)) from below_alloc w _)
 go_enter Tryz.func115,Tryz.ntmps115;go_wp2
 all_goals go_ret
 all_goals exact ⟨rfl,HB.out⟩
theorem out_down (F:Nat) (ex:Int) (t:Bool) (mid:Int) (n:Bool) (w:World)  :
 Calls Tryz.prog 115 #[.agg #[.int .u64 (F:Nat),.int .i64 ex,.bool t,.int .i64 mid],.int .i64 3,.bool n] w fun r w'=>r=.returned (.bool n)∧Below w.heap.size w w':=by
 have HB:=sd (show Below w.heap.size w (w.alloc (.cells #[.int .u64 (F:Nat),.int .i64 ex,.bool t,.int .i64 mid] 133)) from below_alloc w _)
 go_enter Tryz.func115,Tryz.ntmps115;go_wp2
 all_goals go_ret
 all_goals exact ⟨rfl,HB.out⟩
theorem out_away (F:Nat) (ex:Int) (t:Bool) (mid:Int) (n:Bool) (w:World) (b:Bool) (hb:decide (0≤mid)=b) :
 Calls Tryz.prog 115 #[.agg #[.int .u64 (F:Nat),.int .i64 ex,.bool t,.int .i64 mid],.int .i64 4,.bool n] w fun r w'=>r=.returned (.bool b)∧Below w.heap.size w w':=by
 have HB:=sd (show Below w.heap.size w (w.alloc (.cells #[.int .u64 (F:Nat),.int .i64 ex,.bool t,.int .i64 mid] 133)) from below_alloc w _)
 go_enter Tryz.func115,Tryz.ntmps115;go_wp2
 all_goals go_ret
 all_goals exact ⟨rfl,HB.out⟩
theorem goesOut_any (F:Nat) (ex:Int) (t:Bool) (mid mode:Int) (n:Bool) (w:World) (hF:F<18446744073709551616) (hm:mid=-1∨mid=0∨mid=1) (h0:0≤mode) (h4:mode≤4) :
 Calls Tryz.prog 115 #[.agg #[.int .u64 (F:Nat),.int .i64 ex,.bool t,.int .i64 mid],.int .i64 mode,.bool n] w fun r w'=>r=.returned (.bool (outS mode F mid n))∧Below w.heap.size w w':=by
 have hc:mode=0∨mode=1∨mode=2∨mode=3∨mode=4:=by omega
 rcases hc with rfl|rfl|rfl|rfl|rfl
 · rcases hm with rfl | rfl | rfl
   · exact out_evenm F ex t n w
   · have e:(bits BinOp.and IntKind.u64 (F:Int) 1==1)=outS 0 F 0 n:=by
      rw [and_one64 F hF];unfold outS
      rcases Nat.mod_two_eq_zero_or_one F with h|h <;> simp [h]
     exact out_even0 F ex t n w _ e
   · exact out_even1 F ex t n w
 · exact out_zero F ex t mid n w
 · exact out_up F ex t mid n w
 · exact out_down F ex t mid n w
 · exact out_away F ex t mid n w _ rfl
end
section
open Go.RowKit
theorem round_begin (w:World) (n:Bool) (v:Value) (e a b c:Int) (W:World) (hW:W=(w.alloc (.cells #[.bool n,v,.int .i64 e] 27)).alloc (.cells #[.int .i64 a,.int .i64 b,.int .i64 c] 106)) :
 Below w.heap.size w W∧W.heap.size=w.heap.size+2∧Dk W w.heap.size n v e∧Wk W (w.heap.size+1) a b c:=by
 subst hW;refine ⟨(below_alloc w _).alloc (by simp) _,by simp,(Dk.new w n v e).alloc _,?_⟩
 unfold Wk;have:=heap_alloc_new (w.alloc (.cells #[.bool n,v,.int .i64 e] 27)) (.cells #[.int .i64 a,.int .i64 b,.int .i64 c] 106);simpa using this
theorem Wk.below {w w':World}{g:Nat}{a b c:Int}(h:Wk w g a b c) (hb:Below w.heap.size w w'):Wk w' g a b c:=by
 unfold Wk;rw [hb.block g (Array.getElem?_eq_some_iff.1 h).1];exact h
theorem round_mode (n:Bool) (a:Option Addr) (l c:Nat) (e mode:Int) (w:World) (hm:mode<0∨4<mode) :
 Calls Tryz.prog 79 #[.agg #[.bool n,.slice a l c,.int .i64 e],.int .i64 mode,.agg #[.int .i64 53,.int .i64 (-1074),.int .i64 1024]] w fun r w'=>r=.returned (.tuple #[.float .f64 0,.int .i64 1])∧Below w.heap.size w w':=by
 have HB:=sd (show Below w.heap.size w ((w.alloc (.cells #[.bool n,.slice a l c,.int .i64 e] 27)).alloc (.cells #[.int .i64 53,.int .i64 (-1074),.int .i64 1024] 106)) from (below_alloc w _).alloc (by simp) _)
 rcases hm with h|h
 · go_enter Tryz.func79,Tryz.ntmps79
   go_wp2
   go_ret2
   exact ⟨rfl,HB.out⟩
 · have h':decide (mode<0)=false:=decide_eq_false (by omega)
   go_enter Tryz.func79,Tryz.ntmps79;go_wp2
   go_ret2
   exact ⟨rfl,HB.out⟩
theorem round_err {w:World}{a:Option Addr}{l c:Nat}(n:Bool) (e mode:Int) (n1:Bool) (X:Nat) (e1 er:Int) (lX:(ws X).length≤8192) (hm0:0≤mode) (hm4:mode≤4) (her:(er != 0)=true)
 (HF:Hid (∀ u,Below w.heap.size w u→Calls Tryz.prog 94 #[.agg #[.bool n,.slice a l c,.int .i64 e]] u fun r w'=>(∃ v,r=.returned (.tuple #[.agg #[.bool n1,v,.int .i64 e1],.int .i64 er])∧Nt u.heap.size w' v X)∧Below u.heap.size u w')) :
 Calls Tryz.prog 79 #[.agg #[.bool n,.slice a l c,.int .i64 e],.int .i64 mode,.agg #[.int .i64 53,.int .i64 (-1074),.int .i64 1024]] w fun r w'=>r=.returned (.tuple #[.float .f64 0,.int .i64 er])∧Below w.heap.size w w':=by
 obtain ⟨W1,hW1⟩:∃ W,W=(w.alloc (.cells #[.bool n,.slice a l c,.int .i64 e] 27)).alloc (.cells #[.int .i64 53,.int .i64 (-1074),.int .i64 1024] 106):=⟨_,rfl⟩;obtain ⟨hB,hz1,DD,DW⟩:=round_begin w n (.slice a l c) e 53 (-1074) 1024 W1 hW1;have H1:=hid (HF.out W1 hB);have SB:=(sd (ai hB (ai hz1 DW)));clear hB hz1 DD DW HF;go_enter Tryz.func79,Tryz.ntmps79
 go_wp2_with fail
 rw [←hW1];clear hW1;refine H1.out.mono ?_;rintro r u1 ⟨⟨v,rfl,hN⟩,hb⟩;obtain ⟨a1,c1,rfl,_⟩:=hN.arg (by omega)
 obtain ⟨hB,hz1,DW⟩:=SB.out;have SF:=sd (hB.trans (hb.mono (by omega)))
 have hz:w.heap.size≤u1.heap.size:=by have:=hb.size;omega
 clear hN hb H1 hB hz1 DW SB;go_wp2
 go_ret2
 exact ⟨rfl,SF.out.alloc hz _⟩
theorem round_none {w:World}{a:Option Addr}{l c:Nat}(n:Bool) (e mode:Int) (n1:Bool) (X:Nat) (e1:Int) (lX:(ws X).length=0) (hm0:0≤mode) (hm4:mode≤4)
 (HF:Hid (∀ u,Below w.heap.size w u→Calls Tryz.prog 94 #[.agg #[.bool n,.slice a l c,.int .i64 e]] u fun r w'=>(∃ v,r=.returned (.tuple #[.agg #[.bool n1,v,.int .i64 e1],.int .i64 0])∧Nt u.heap.size w' v X)∧Below u.heap.size u w')) :
 Calls Tryz.prog 79 #[.agg #[.bool n,.slice a l c,.int .i64 e],.int .i64 mode,.agg #[.int .i64 53,.int .i64 (-1074),.int .i64 1024]] w fun r w'=>r=.returned (.tuple #[.float .f64 0,.int .i64 0])∧Below w.heap.size w w':=by
 obtain ⟨W1,hW1⟩:∃ W,W=(w.alloc (.cells #[.bool n,.slice a l c,.int .i64 e] 27)).alloc (.cells #[.int .i64 53,.int .i64 (-1074),.int .i64 1024] 106):=⟨_,rfl⟩;obtain ⟨hB,hz1,DD,DW⟩:=round_begin w n (.slice a l c) e 53 (-1074) 1024 W1 hW1;have H1:=hid (HF.out W1 hB);have SB:=(sd (ai hB (ai hz1 DW)));clear hB hz1 DD DW HF;go_enter Tryz.func79,Tryz.ntmps79
 go_wp2_with fail
 rw [←hW1];clear hW1;refine H1.out.mono ?_;rintro r u1 ⟨⟨v,rfl,hN⟩,hb⟩;obtain ⟨a1,c1,rfl,_⟩:=hN.arg (by omega)
 obtain ⟨hB,hz1,DW⟩:=SB.out;have SF:=sd (hB.trans (hb.mono (by omega)))
 have hz:w.heap.size≤u1.heap.size:=by have:=hb.size;omega
 clear hN hb H1 hB hz1 DW SB;rw [lX];go_wp2
 go_ret2
 exact ⟨rfl,SF.out.alloc hz _⟩
theorem round_tf {w:World}{a:Option Addr}{l c:Nat}(n:Bool) (e mode:Int) (X:Nat) (e1:Int) (lX:(ws X).length≤8192) (hX:((((ws X).length:Nat):Int)==0)=false) (hm0:0≤mode) (hm4:mode≤4)
 (F cw K K2:Nat) (ex mid:Int) (hF:F≤9007199254740991) (ecv:floatOfInt .f64 (F:Int)=cw)
 (HF:Hid (∀ u,Below w.heap.size w u→Calls Tryz.prog 94 #[.agg #[.bool n,.slice a l c,.int .i64 e]] u fun r w'=>(∃ v,r=.returned (.tuple #[.agg #[.bool false,v,.int .i64 e1],.int .i64 0])∧Nt u.heap.size w' v X)∧Below u.heap.size u w'))
 (HP:Hid (∀ (u:World) (p:Option Addr) (q:Nat),Arg u p (ws X).length q (ws X)→Calls Tryz.prog 114 #[.agg #[.bool false,.slice p (ws X).length q,.int .i64 e1],.agg #[.int .i64 53,.int .i64 (-1074),.int .i64 1024]] u fun r w'=>r=.returned (.agg #[.int .u64 (F:Nat),.int .i64 ex,.bool true,.int .i64 mid])∧Below u.heap.size u w'))
 (HD:Hid (∀ u,Calls Tryz.prog 116 #[.float .f64 cw,.int .i64 ex] u fun r w'=>r=.returned (.float .f64 K)∧w'=u)) :
 Calls Tryz.prog 79 #[.agg #[.bool n,.slice a l c,.int .i64 e],.int .i64 mode,.agg #[.int .i64 53,.int .i64 (-1074),.int .i64 1024]] w fun r w'=>r=.returned (.tuple #[.float .f64 K,.int .i64 0])∧Below w.heap.size w w':=by
 obtain ⟨W1,hW1⟩:∃ W,W=(w.alloc (.cells #[.bool n,.slice a l c,.int .i64 e] 27)).alloc (.cells #[.int .i64 53,.int .i64 (-1074),.int .i64 1024] 106):=⟨_,rfl⟩;obtain ⟨hB,hz1,DD,DW⟩:=round_begin w n (.slice a l c) e 53 (-1074) 1024 W1 hW1;have H1:=hid (HF.out W1 hB);have SB:=(sd (ai hB (ai hz1 DW)));clear hB hz1 DD DW HF;go_enter Tryz.func79,Tryz.ntmps79
 go_wp2_with fail
 rw [←hW1];clear hW1;refine H1.out.mono ?_;rintro r u1 ⟨⟨v,rfl,hN⟩,hb⟩;obtain ⟨a1,c1,rfl,_⟩:=hN.arg (by omega)
 obtain ⟨hB,hz1,DW⟩:=SB.out;obtain ⟨W2,hW2⟩:∃ W,W=u1.alloc (.cells #[.bool false,.slice a1 (ws X).length c1,.int .i64 e1] 27):=⟨_,rfl⟩;have hbW:Below u1.heap.size u1 W2:=by rw [hW2];exact below_alloc u1 _
 have D2:Dk W2 u1.heap.size false (.slice a1 (ws X).length c1) e1:=by rw [hW2];exact Dk.new u1 _ _ _
 have V2:Wk W2 (w.heap.size+1) 53 (-1074) 1024:=(DW.below hb).below hbW;have hB2:Below w.heap.size w W2:=(hB.trans (hb.mono (by omega))).trans (hbW.mono (by have:=hb.size;omega))
 have H2:=hid (HP.out W2 a1 c1 ((hN.below hbW).arg' (by omega)).2)
 obtain ⟨x0,x1,x2,xf0,xf1,xf2⟩:=D2.facts;obtain ⟨y0,y1,y2⟩:=V2.facts;obtain ⟨t0,t1,t2⟩:=(DW.below hb).facts;have hzu:w.heap.size+1<u1.heap.size:=by have:=hb.size;omega
 have hzz:w.heap.size≤u1.heap.size:=by have:=hb.size;omega
 have hz4:u1.heap.size<W2.heap.size:=D2.lt;have S2:=(sd (ai hB2 D2));clear hN hb H1 hB hz1 DW SB hbW D2 V2 hB2 HP
 go_wp2_with fail
 rw [←hW2];clear hW2;refine H2.out.mono ?_;rintro r u2 ⟨rfl,hb⟩;obtain ⟨W3,hW3⟩:∃ W,W=u2.alloc (.cells #[.int .u64 (F:Nat),.int .i64 ex,.bool true,.int .i64 mid] 133):=⟨_,rfl⟩;have hbW:Below u2.heap.size u2 W3:=by rw [hW3];exact below_alloc u2 _
 have P3:Pk W3 u2.heap.size (F:Nat) ex true mid:=by rw [hW3];exact heap_alloc_new _ _
 have D3:=(S2.out.2.below hb).below hbW;have hB3:Below w.heap.size w W3:=(S2.out.1.trans (hb.mono (by omega))).trans (hbW.mono (by have:=hb.size;omega))
 have hz6:u1.heap.size<u2.heap.size:=by have:=hb.size;omega
 obtain ⟨q0,q1,q2,q3,qf0,qf1,qf2,qf3⟩:=P3.facts;obtain ⟨d0,d1,d2,df0,df1,df2⟩:=D3.facts;have hz5:w.heap.size≤u2.heap.size:=by omega
 have hz7:u2.heap.size<W3.heap.size:=P3.lt;have S3:=(sd (ai hB3 (ai P3 D3)));clear hb hbW P3 D3 hB3 S2 H2 x0 x1 x2 xf0 xf1 xf2 y0 y1 y2
 go_upto_region 7 with fail
 rw [←hW3];clear hW3
 go_wp2_with fail
 try simp only [ecv]
 refine (Calls.mono (HD.out _)) ?_;rintro r ww ⟨rfl,hw⟩;rw [hw];clear hw ww HD;go_wp2
 go_ret2
 exact ⟨rfl,S3.out.1⟩
theorem round_tt {w:World}{a:Option Addr}{l c:Nat}(n:Bool) (e mode:Int) (X:Nat) (e1:Int) (lX:(ws X).length≤8192) (hX:((((ws X).length:Nat):Int)==0)=false) (hm0:0≤mode) (hm4:mode≤4)
 (F cw K K2:Nat) (ex mid:Int) (hF:F≤9007199254740991) (ecv:floatOfInt .f64 (F:Int)=cw)
 (HF:Hid (∀ u,Below w.heap.size w u→Calls Tryz.prog 94 #[.agg #[.bool n,.slice a l c,.int .i64 e]] u fun r w'=>(∃ v,r=.returned (.tuple #[.agg #[.bool true,v,.int .i64 e1],.int .i64 0])∧Nt u.heap.size w' v X)∧Below u.heap.size u w'))
 (HP:Hid (∀ (u:World) (p:Option Addr) (q:Nat),Arg u p (ws X).length q (ws X)→Calls Tryz.prog 114 #[.agg #[.bool true,.slice p (ws X).length q,.int .i64 e1],.agg #[.int .i64 53,.int .i64 (-1074),.int .i64 1024]] u fun r w'=>r=.returned (.agg #[.int .u64 (F:Nat),.int .i64 ex,.bool true,.int .i64 mid])∧Below u.heap.size u w'))
 (HD:Hid (∀ u,Calls Tryz.prog 116 #[.float .f64 cw,.int .i64 ex] u fun r w'=>r=.returned (.float .f64 K)∧w'=u))
 (HC:Hid (∀ u,Calls Tryz.prog 117 #[.float .f64 K,.float .f64 13830554455654793216] u fun r w'=>r=.returned (.float .f64 K2)∧w'=u)) :
 Calls Tryz.prog 79 #[.agg #[.bool n,.slice a l c,.int .i64 e],.int .i64 mode,.agg #[.int .i64 53,.int .i64 (-1074),.int .i64 1024]] w fun r w'=>r=.returned (.tuple #[.float .f64 K2,.int .i64 0])∧Below w.heap.size w w':=by
 obtain ⟨W1,hW1⟩:∃ W,W=(w.alloc (.cells #[.bool n,.slice a l c,.int .i64 e] 27)).alloc (.cells #[.int .i64 53,.int .i64 (-1074),.int .i64 1024] 106):=⟨_,rfl⟩;obtain ⟨hB,hz1,DD,DW⟩:=round_begin w n (.slice a l c) e 53 (-1074) 1024 W1 hW1;have H1:=hid (HF.out W1 hB);have SB:=(sd (ai hB (ai hz1 DW)));clear hB hz1 DD DW HF;go_enter Tryz.func79,Tryz.ntmps79
 go_wp2_with fail
 rw [←hW1];clear hW1;refine H1.out.mono ?_;rintro r u1 ⟨⟨v,rfl,hN⟩,hb⟩;obtain ⟨a1,c1,rfl,_⟩:=hN.arg (by omega)
 obtain ⟨hB,hz1,DW⟩:=SB.out;obtain ⟨W2,hW2⟩:∃ W,W=u1.alloc (.cells #[.bool true,.slice a1 (ws X).length c1,.int .i64 e1] 27):=⟨_,rfl⟩;have hbW:Below u1.heap.size u1 W2:=by rw [hW2];exact below_alloc u1 _
 have D2:Dk W2 u1.heap.size true (.slice a1 (ws X).length c1) e1:=by rw [hW2];exact Dk.new u1 _ _ _
 have V2:Wk W2 (w.heap.size+1) 53 (-1074) 1024:=(DW.below hb).below hbW;have hB2:Below w.heap.size w W2:=(hB.trans (hb.mono (by omega))).trans (hbW.mono (by have:=hb.size;omega))
 have H2:=hid (HP.out W2 a1 c1 ((hN.below hbW).arg' (by omega)).2)
 obtain ⟨x0,x1,x2,xf0,xf1,xf2⟩:=D2.facts;obtain ⟨y0,y1,y2⟩:=V2.facts;obtain ⟨t0,t1,t2⟩:=(DW.below hb).facts;have hzu:w.heap.size+1<u1.heap.size:=by have:=hb.size;omega
 have hzz:w.heap.size≤u1.heap.size:=by have:=hb.size;omega
 have hz4:u1.heap.size<W2.heap.size:=D2.lt;have S2:=(sd (ai hB2 D2));clear hN hb H1 hB hz1 DW SB hbW D2 V2 hB2 HP
 go_wp2_with fail
 rw [←hW2];clear hW2;refine H2.out.mono ?_;rintro r u2 ⟨rfl,hb⟩;obtain ⟨W3,hW3⟩:∃ W,W=u2.alloc (.cells #[.int .u64 (F:Nat),.int .i64 ex,.bool true,.int .i64 mid] 133):=⟨_,rfl⟩;have hbW:Below u2.heap.size u2 W3:=by rw [hW3];exact below_alloc u2 _
 have P3:Pk W3 u2.heap.size (F:Nat) ex true mid:=by rw [hW3];exact heap_alloc_new _ _
 have D3:=(S2.out.2.below hb).below hbW;have hB3:Below w.heap.size w W3:=(S2.out.1.trans (hb.mono (by omega))).trans (hbW.mono (by have:=hb.size;omega))
 have hz6:u1.heap.size<u2.heap.size:=by have:=hb.size;omega
 obtain ⟨q0,q1,q2,q3,qf0,qf1,qf2,qf3⟩:=P3.facts;obtain ⟨d0,d1,d2,df0,df1,df2⟩:=D3.facts;have hz5:w.heap.size≤u2.heap.size:=by omega
 have hz7:u2.heap.size<W3.heap.size:=P3.lt;have S3:=(sd (ai hB3 (ai P3 D3)));clear hb hbW P3 D3 hB3 S2 H2 x0 x1 x2 xf0 xf1 xf2 y0 y1 y2
 go_upto_region 7 with fail
 rw [←hW3];clear hW3
 go_wp2_with fail
 try simp only [ecv]
 refine (Calls.mono (HD.out _)) ?_;rintro r ww ⟨rfl,hw⟩;rw [hw];clear hw ww HD
 go_wp2_with fail
 refine (Calls.mono (HC.out _)) ?_;rintro r ww ⟨rfl,hw⟩;rw [hw];clear hw ww HC;go_wp2
 go_ret2
 exact ⟨rfl,S3.out.1⟩
theorem round_fff {w:World}{a:Option Addr}{l c:Nat}(n:Bool) (e mode:Int) (X:Nat) (e1:Int) (lX:(ws X).length≤8192) (hX:((((ws X).length:Nat):Int)==0)=false) (hm0:0≤mode) (hm4:mode≤4)
 (F cw K K2:Nat) (ex mid:Int) (hF:F≤9007199254740991) (ecv:floatOfInt .f64 (F:Int)=cw)
 (HF:Hid (∀ u,Below w.heap.size w u→Calls Tryz.prog 94 #[.agg #[.bool n,.slice a l c,.int .i64 e]] u fun r w'=>(∃ v,r=.returned (.tuple #[.agg #[.bool false,v,.int .i64 e1],.int .i64 0])∧Nt u.heap.size w' v X)∧Below u.heap.size u w'))
 (HP:Hid (∀ (u:World) (p:Option Addr) (q:Nat),Arg u p (ws X).length q (ws X)→Calls Tryz.prog 114 #[.agg #[.bool false,.slice p (ws X).length q,.int .i64 e1],.agg #[.int .i64 53,.int .i64 (-1074),.int .i64 1024]] u fun r w'=>r=.returned (.agg #[.int .u64 (F:Nat),.int .i64 ex,.bool false,.int .i64 mid])∧Below u.heap.size u w'))
 (HG:Hid (∀ u,Calls Tryz.prog 115 #[.agg #[.int .u64 (F:Nat),.int .i64 ex,.bool false,.int .i64 mid],.int .i64 mode,.bool false] u fun r w'=>r=.returned (.bool false)∧Below u.heap.size u w'))
 (HD:Hid (∀ u,Calls Tryz.prog 116 #[.float .f64 cw,.int .i64 ex] u fun r w'=>r=.returned (.float .f64 K)∧w'=u)) :
 Calls Tryz.prog 79 #[.agg #[.bool n,.slice a l c,.int .i64 e],.int .i64 mode,.agg #[.int .i64 53,.int .i64 (-1074),.int .i64 1024]] w fun r w'=>r=.returned (.tuple #[.float .f64 K,.int .i64 0])∧Below w.heap.size w w':=by
 obtain ⟨W1,hW1⟩:∃ W,W=(w.alloc (.cells #[.bool n,.slice a l c,.int .i64 e] 27)).alloc (.cells #[.int .i64 53,.int .i64 (-1074),.int .i64 1024] 106):=⟨_,rfl⟩;obtain ⟨hB,hz1,DD,DW⟩:=round_begin w n (.slice a l c) e 53 (-1074) 1024 W1 hW1;have H1:=hid (HF.out W1 hB);have SB:=(sd (ai hB (ai hz1 DW)));clear hB hz1 DD DW HF;go_enter Tryz.func79,Tryz.ntmps79
 go_wp2_with fail
 rw [←hW1];clear hW1;refine H1.out.mono ?_;rintro r u1 ⟨⟨v,rfl,hN⟩,hb⟩;obtain ⟨a1,c1,rfl,_⟩:=hN.arg (by omega)
 obtain ⟨hB,hz1,DW⟩:=SB.out;obtain ⟨W2,hW2⟩:∃ W,W=u1.alloc (.cells #[.bool false,.slice a1 (ws X).length c1,.int .i64 e1] 27):=⟨_,rfl⟩;have hbW:Below u1.heap.size u1 W2:=by rw [hW2];exact below_alloc u1 _
 have D2:Dk W2 u1.heap.size false (.slice a1 (ws X).length c1) e1:=by rw [hW2];exact Dk.new u1 _ _ _
 have V2:Wk W2 (w.heap.size+1) 53 (-1074) 1024:=(DW.below hb).below hbW;have hB2:Below w.heap.size w W2:=(hB.trans (hb.mono (by omega))).trans (hbW.mono (by have:=hb.size;omega))
 have H2:=hid (HP.out W2 a1 c1 ((hN.below hbW).arg' (by omega)).2)
 obtain ⟨x0,x1,x2,xf0,xf1,xf2⟩:=D2.facts;obtain ⟨y0,y1,y2⟩:=V2.facts;obtain ⟨t0,t1,t2⟩:=(DW.below hb).facts;have hzu:w.heap.size+1<u1.heap.size:=by have:=hb.size;omega
 have hzz:w.heap.size≤u1.heap.size:=by have:=hb.size;omega
 have hz4:u1.heap.size<W2.heap.size:=D2.lt;have S2:=(sd (ai hB2 D2));clear hN hb H1 hB hz1 DW SB hbW D2 V2 hB2 HP
 go_wp2_with fail
 rw [←hW2];clear hW2;refine H2.out.mono ?_;rintro r u2 ⟨rfl,hb⟩;obtain ⟨W3,hW3⟩:∃ W,W=u2.alloc (.cells #[.int .u64 (F:Nat),.int .i64 ex,.bool false,.int .i64 mid] 133):=⟨_,rfl⟩;have hbW:Below u2.heap.size u2 W3:=by rw [hW3];exact below_alloc u2 _
 have P3:Pk W3 u2.heap.size (F:Nat) ex false mid:=by rw [hW3];exact heap_alloc_new _ _
 have D3:=(S2.out.2.below hb).below hbW;have hB3:Below w.heap.size w W3:=(S2.out.1.trans (hb.mono (by omega))).trans (hbW.mono (by have:=hb.size;omega))
 have hz6:u1.heap.size<u2.heap.size:=by have:=hb.size;omega
 obtain ⟨q0,q1,q2,q3,qf0,qf1,qf2,qf3⟩:=P3.facts;obtain ⟨d0,d1,d2,df0,df1,df2⟩:=D3.facts;have hz5:w.heap.size≤u2.heap.size:=by omega
 have hz7:u2.heap.size<W3.heap.size:=P3.lt;have S3:=(sd (ai hB3 (ai P3 D3)));clear hb hbW P3 D3 hB3 S2 H2 x0 x1 x2 xf0 xf1 xf2 y0 y1 y2
 go_upto_region 7 with fail
 rw [←hW3];clear hW3
 go_wp2_with fail
 refine (Calls.mono (HG.out _)) ?_;rintro r u3 ⟨rfl,hb⟩;have P4:=S3.out.2.1.below hb;have D4:=S3.out.2.2.below hb;have hB4:Below w.heap.size w u3:=S3.out.1.trans (hb.mono (by omega))
 have hz8:w.heap.size≤u3.heap.size:=by have:=hb.size;omega
 obtain ⟨r0,r1,r2,r3,rf0,rf1,rf2,rf3⟩:=P4.facts;obtain ⟨s0,s1,s2,sf0,sf1,sf2⟩:=D4.facts;have S4:=sd hB4;clear hb P4 D4 hB4 S3 HG q0 q1 q2 q3 qf0 qf1 qf2 qf3 d0 d1 d2 df0 df1 df2
 go_wp2_with fail
 try simp only [ecv]
 refine (Calls.mono (HD.out _)) ?_;rintro r ww ⟨rfl,hw⟩;rw [hw];clear hw ww HD;go_wp2
 go_ret2
 exact ⟨rfl,S4.out⟩
theorem round_fft {w:World}{a:Option Addr}{l c:Nat}(n:Bool) (e mode:Int) (X:Nat) (e1:Int) (lX:(ws X).length≤8192) (hX:((((ws X).length:Nat):Int)==0)=false) (hm0:0≤mode) (hm4:mode≤4)
 (F cw K K2:Nat) (ex mid:Int) (hF:F≤9007199254740991) (ecv:floatOfInt .f64 (F:Int)=cw)
 (HF:Hid (∀ u,Below w.heap.size w u→Calls Tryz.prog 94 #[.agg #[.bool n,.slice a l c,.int .i64 e]] u fun r w'=>(∃ v,r=.returned (.tuple #[.agg #[.bool true,v,.int .i64 e1],.int .i64 0])∧Nt u.heap.size w' v X)∧Below u.heap.size u w'))
 (HP:Hid (∀ (u:World) (p:Option Addr) (q:Nat),Arg u p (ws X).length q (ws X)→Calls Tryz.prog 114 #[.agg #[.bool true,.slice p (ws X).length q,.int .i64 e1],.agg #[.int .i64 53,.int .i64 (-1074),.int .i64 1024]] u fun r w'=>r=.returned (.agg #[.int .u64 (F:Nat),.int .i64 ex,.bool false,.int .i64 mid])∧Below u.heap.size u w'))
 (HG:Hid (∀ u,Calls Tryz.prog 115 #[.agg #[.int .u64 (F:Nat),.int .i64 ex,.bool false,.int .i64 mid],.int .i64 mode,.bool true] u fun r w'=>r=.returned (.bool false)∧Below u.heap.size u w'))
 (HD:Hid (∀ u,Calls Tryz.prog 116 #[.float .f64 cw,.int .i64 ex] u fun r w'=>r=.returned (.float .f64 K)∧w'=u))
 (HC:Hid (∀ u,Calls Tryz.prog 117 #[.float .f64 K,.float .f64 13830554455654793216] u fun r w'=>r=.returned (.float .f64 K2)∧w'=u)) :
 Calls Tryz.prog 79 #[.agg #[.bool n,.slice a l c,.int .i64 e],.int .i64 mode,.agg #[.int .i64 53,.int .i64 (-1074),.int .i64 1024]] w fun r w'=>r=.returned (.tuple #[.float .f64 K2,.int .i64 0])∧Below w.heap.size w w':=by
 obtain ⟨W1,hW1⟩:∃ W,W=(w.alloc (.cells #[.bool n,.slice a l c,.int .i64 e] 27)).alloc (.cells #[.int .i64 53,.int .i64 (-1074),.int .i64 1024] 106):=⟨_,rfl⟩;obtain ⟨hB,hz1,DD,DW⟩:=round_begin w n (.slice a l c) e 53 (-1074) 1024 W1 hW1;have H1:=hid (HF.out W1 hB);have SB:=(sd (ai hB (ai hz1 DW)));clear hB hz1 DD DW HF;go_enter Tryz.func79,Tryz.ntmps79
 go_wp2_with fail
 rw [←hW1];clear hW1;refine H1.out.mono ?_;rintro r u1 ⟨⟨v,rfl,hN⟩,hb⟩;obtain ⟨a1,c1,rfl,_⟩:=hN.arg (by omega)
 obtain ⟨hB,hz1,DW⟩:=SB.out;obtain ⟨W2,hW2⟩:∃ W,W=u1.alloc (.cells #[.bool true,.slice a1 (ws X).length c1,.int .i64 e1] 27):=⟨_,rfl⟩;have hbW:Below u1.heap.size u1 W2:=by rw [hW2];exact below_alloc u1 _
 have D2:Dk W2 u1.heap.size true (.slice a1 (ws X).length c1) e1:=by rw [hW2];exact Dk.new u1 _ _ _
 have V2:Wk W2 (w.heap.size+1) 53 (-1074) 1024:=(DW.below hb).below hbW;have hB2:Below w.heap.size w W2:=(hB.trans (hb.mono (by omega))).trans (hbW.mono (by have:=hb.size;omega))
 have H2:=hid (HP.out W2 a1 c1 ((hN.below hbW).arg' (by omega)).2)
 obtain ⟨x0,x1,x2,xf0,xf1,xf2⟩:=D2.facts;obtain ⟨y0,y1,y2⟩:=V2.facts;obtain ⟨t0,t1,t2⟩:=(DW.below hb).facts;have hzu:w.heap.size+1<u1.heap.size:=by have:=hb.size;omega
 have hzz:w.heap.size≤u1.heap.size:=by have:=hb.size;omega
 have hz4:u1.heap.size<W2.heap.size:=D2.lt;have S2:=(sd (ai hB2 D2));clear hN hb H1 hB hz1 DW SB hbW D2 V2 hB2 HP
 go_wp2_with fail
 rw [←hW2];clear hW2;refine H2.out.mono ?_;rintro r u2 ⟨rfl,hb⟩;obtain ⟨W3,hW3⟩:∃ W,W=u2.alloc (.cells #[.int .u64 (F:Nat),.int .i64 ex,.bool false,.int .i64 mid] 133):=⟨_,rfl⟩;have hbW:Below u2.heap.size u2 W3:=by rw [hW3];exact below_alloc u2 _
 have P3:Pk W3 u2.heap.size (F:Nat) ex false mid:=by rw [hW3];exact heap_alloc_new _ _
 have D3:=(S2.out.2.below hb).below hbW;have hB3:Below w.heap.size w W3:=(S2.out.1.trans (hb.mono (by omega))).trans (hbW.mono (by have:=hb.size;omega))
 have hz6:u1.heap.size<u2.heap.size:=by have:=hb.size;omega
 obtain ⟨q0,q1,q2,q3,qf0,qf1,qf2,qf3⟩:=P3.facts;obtain ⟨d0,d1,d2,df0,df1,df2⟩:=D3.facts;have hz5:w.heap.size≤u2.heap.size:=by omega
 have hz7:u2.heap.size<W3.heap.size:=P3.lt;have S3:=(sd (ai hB3 (ai P3 D3)));clear hb hbW P3 D3 hB3 S2 H2 x0 x1 x2 xf0 xf1 xf2 y0 y1 y2
 go_upto_region 7 with fail
 rw [←hW3];clear hW3
 go_wp2_with fail
 refine (Calls.mono (HG.out _)) ?_;rintro r u3 ⟨rfl,hb⟩;have P4:=S3.out.2.1.below hb;have D4:=S3.out.2.2.below hb;have hB4:Below w.heap.size w u3:=S3.out.1.trans (hb.mono (by omega))
 have hz8:w.heap.size≤u3.heap.size:=by have:=hb.size;omega
 obtain ⟨r0,r1,r2,r3,rf0,rf1,rf2,rf3⟩:=P4.facts;obtain ⟨s0,s1,s2,sf0,sf1,sf2⟩:=D4.facts;have S4:=sd hB4;clear hb P4 D4 hB4 S3 HG q0 q1 q2 q3 qf0 qf1 qf2 qf3 d0 d1 d2 df0 df1 df2
 go_wp2_with fail
 try simp only [ecv]
 refine (Calls.mono (HD.out _)) ?_;rintro r ww ⟨rfl,hw⟩;rw [hw];clear hw ww HD
 go_wp2_with fail
 refine (Calls.mono (HC.out _)) ?_;rintro r ww ⟨rfl,hw⟩;rw [hw];clear hw ww HC;go_wp2
 go_ret2
 exact ⟨rfl,S4.out⟩
theorem round_ftf {w:World}{a:Option Addr}{l c:Nat}(n:Bool) (e mode:Int) (X:Nat) (e1:Int) (lX:(ws X).length≤8192) (hX:((((ws X).length:Nat):Int)==0)=false) (hm0:0≤mode) (hm4:mode≤4)
 (F cw K K2:Nat) (ex mid:Int) (hF:F≤9007199254740991) (ecv:floatOfInt .f64 ((F:Int)+1)=cw)
 (HF:Hid (∀ u,Below w.heap.size w u→Calls Tryz.prog 94 #[.agg #[.bool n,.slice a l c,.int .i64 e]] u fun r w'=>(∃ v,r=.returned (.tuple #[.agg #[.bool false,v,.int .i64 e1],.int .i64 0])∧Nt u.heap.size w' v X)∧Below u.heap.size u w'))
 (HP:Hid (∀ (u:World) (p:Option Addr) (q:Nat),Arg u p (ws X).length q (ws X)→Calls Tryz.prog 114 #[.agg #[.bool false,.slice p (ws X).length q,.int .i64 e1],.agg #[.int .i64 53,.int .i64 (-1074),.int .i64 1024]] u fun r w'=>r=.returned (.agg #[.int .u64 (F:Nat),.int .i64 ex,.bool false,.int .i64 mid])∧Below u.heap.size u w'))
 (HG:Hid (∀ u,Calls Tryz.prog 115 #[.agg #[.int .u64 (F:Nat),.int .i64 ex,.bool false,.int .i64 mid],.int .i64 mode,.bool false] u fun r w'=>r=.returned (.bool true)∧Below u.heap.size u w'))
 (HD:Hid (∀ u,Calls Tryz.prog 116 #[.float .f64 cw,.int .i64 ex] u fun r w'=>r=.returned (.float .f64 K)∧w'=u)) :
 Calls Tryz.prog 79 #[.agg #[.bool n,.slice a l c,.int .i64 e],.int .i64 mode,.agg #[.int .i64 53,.int .i64 (-1074),.int .i64 1024]] w fun r w'=>r=.returned (.tuple #[.float .f64 K,.int .i64 0])∧Below w.heap.size w w':=by
 obtain ⟨W1,hW1⟩:∃ W,W=(w.alloc (.cells #[.bool n,.slice a l c,.int .i64 e] 27)).alloc (.cells #[.int .i64 53,.int .i64 (-1074),.int .i64 1024] 106):=⟨_,rfl⟩;obtain ⟨hB,hz1,DD,DW⟩:=round_begin w n (.slice a l c) e 53 (-1074) 1024 W1 hW1;have H1:=hid (HF.out W1 hB);have SB:=(sd (ai hB (ai hz1 DW)));clear hB hz1 DD DW HF;go_enter Tryz.func79,Tryz.ntmps79
 go_wp2_with fail
 rw [←hW1];clear hW1;refine H1.out.mono ?_;rintro r u1 ⟨⟨v,rfl,hN⟩,hb⟩;obtain ⟨a1,c1,rfl,_⟩:=hN.arg (by omega)
 obtain ⟨hB,hz1,DW⟩:=SB.out;obtain ⟨W2,hW2⟩:∃ W,W=u1.alloc (.cells #[.bool false,.slice a1 (ws X).length c1,.int .i64 e1] 27):=⟨_,rfl⟩;have hbW:Below u1.heap.size u1 W2:=by rw [hW2];exact below_alloc u1 _
 have D2:Dk W2 u1.heap.size false (.slice a1 (ws X).length c1) e1:=by rw [hW2];exact Dk.new u1 _ _ _
 have V2:Wk W2 (w.heap.size+1) 53 (-1074) 1024:=(DW.below hb).below hbW;have hB2:Below w.heap.size w W2:=(hB.trans (hb.mono (by omega))).trans (hbW.mono (by have:=hb.size;omega))
 have H2:=hid (HP.out W2 a1 c1 ((hN.below hbW).arg' (by omega)).2)
 obtain ⟨x0,x1,x2,xf0,xf1,xf2⟩:=D2.facts;obtain ⟨y0,y1,y2⟩:=V2.facts;obtain ⟨t0,t1,t2⟩:=(DW.below hb).facts;have hzu:w.heap.size+1<u1.heap.size:=by have:=hb.size;omega
 have hzz:w.heap.size≤u1.heap.size:=by have:=hb.size;omega
 have hz4:u1.heap.size<W2.heap.size:=D2.lt;have S2:=(sd (ai hB2 D2));clear hN hb H1 hB hz1 DW SB hbW D2 V2 hB2 HP
 go_wp2_with fail
 rw [←hW2];clear hW2;refine H2.out.mono ?_;rintro r u2 ⟨rfl,hb⟩;obtain ⟨W3,hW3⟩:∃ W,W=u2.alloc (.cells #[.int .u64 (F:Nat),.int .i64 ex,.bool false,.int .i64 mid] 133):=⟨_,rfl⟩;have hbW:Below u2.heap.size u2 W3:=by rw [hW3];exact below_alloc u2 _
 have P3:Pk W3 u2.heap.size (F:Nat) ex false mid:=by rw [hW3];exact heap_alloc_new _ _
 have D3:=(S2.out.2.below hb).below hbW;have hB3:Below w.heap.size w W3:=(S2.out.1.trans (hb.mono (by omega))).trans (hbW.mono (by have:=hb.size;omega))
 have hz6:u1.heap.size<u2.heap.size:=by have:=hb.size;omega
 obtain ⟨q0,q1,q2,q3,qf0,qf1,qf2,qf3⟩:=P3.facts;obtain ⟨d0,d1,d2,df0,df1,df2⟩:=D3.facts;have hz5:w.heap.size≤u2.heap.size:=by omega
 have hz7:u2.heap.size<W3.heap.size:=P3.lt;have S3:=(sd (ai hB3 (ai P3 D3)));clear hb hbW P3 D3 hB3 S2 H2 x0 x1 x2 xf0 xf1 xf2 y0 y1 y2
 go_upto_region 7 with fail
 rw [←hW3];clear hW3
 go_wp2_with fail
 refine (Calls.mono (HG.out _)) ?_;rintro r u3 ⟨rfl,hb⟩;have P4:=S3.out.2.1.below hb;have D4:=S3.out.2.2.below hb;have hB4:Below w.heap.size w u3:=S3.out.1.trans (hb.mono (by omega))
 have hz8:w.heap.size≤u3.heap.size:=by have:=hb.size;omega
 obtain ⟨r0,r1,r2,r3,rf0,rf1,rf2,rf3⟩:=P4.facts;obtain ⟨s0,s1,s2,sf0,sf1,sf2⟩:=D4.facts;have S4:=sd hB4;clear hb P4 D4 hB4 S3 HG q0 q1 q2 q3 qf0 qf1 qf2 qf3 d0 d1 d2 df0 df1 df2
 go_wp2_with fail
 try simp only [ecv]
 refine (Calls.mono (HD.out _)) ?_;rintro r ww ⟨rfl,hw⟩;rw [hw];clear hw ww HD;go_wp2
 go_ret2
 exact ⟨rfl,Below.setC S4.out _ _ _ hz5 hz8⟩
theorem round_ftt {w:World}{a:Option Addr}{l c:Nat}(n:Bool) (e mode:Int) (X:Nat) (e1:Int) (lX:(ws X).length≤8192) (hX:((((ws X).length:Nat):Int)==0)=false) (hm0:0≤mode) (hm4:mode≤4)
 (F cw K K2:Nat) (ex mid:Int) (hF:F≤9007199254740991) (ecv:floatOfInt .f64 ((F:Int)+1)=cw)
 (HF:Hid (∀ u,Below w.heap.size w u→Calls Tryz.prog 94 #[.agg #[.bool n,.slice a l c,.int .i64 e]] u fun r w'=>(∃ v,r=.returned (.tuple #[.agg #[.bool true,v,.int .i64 e1],.int .i64 0])∧Nt u.heap.size w' v X)∧Below u.heap.size u w'))
 (HP:Hid (∀ (u:World) (p:Option Addr) (q:Nat),Arg u p (ws X).length q (ws X)→Calls Tryz.prog 114 #[.agg #[.bool true,.slice p (ws X).length q,.int .i64 e1],.agg #[.int .i64 53,.int .i64 (-1074),.int .i64 1024]] u fun r w'=>r=.returned (.agg #[.int .u64 (F:Nat),.int .i64 ex,.bool false,.int .i64 mid])∧Below u.heap.size u w'))
 (HG:Hid (∀ u,Calls Tryz.prog 115 #[.agg #[.int .u64 (F:Nat),.int .i64 ex,.bool false,.int .i64 mid],.int .i64 mode,.bool true] u fun r w'=>r=.returned (.bool true)∧Below u.heap.size u w'))
 (HD:Hid (∀ u,Calls Tryz.prog 116 #[.float .f64 cw,.int .i64 ex] u fun r w'=>r=.returned (.float .f64 K)∧w'=u))
 (HC:Hid (∀ u,Calls Tryz.prog 117 #[.float .f64 K,.float .f64 13830554455654793216] u fun r w'=>r=.returned (.float .f64 K2)∧w'=u)) :
 Calls Tryz.prog 79 #[.agg #[.bool n,.slice a l c,.int .i64 e],.int .i64 mode,.agg #[.int .i64 53,.int .i64 (-1074),.int .i64 1024]] w fun r w'=>r=.returned (.tuple #[.float .f64 K2,.int .i64 0])∧Below w.heap.size w w':=by
 obtain ⟨W1,hW1⟩:∃ W,W=(w.alloc (.cells #[.bool n,.slice a l c,.int .i64 e] 27)).alloc (.cells #[.int .i64 53,.int .i64 (-1074),.int .i64 1024] 106):=⟨_,rfl⟩;obtain ⟨hB,hz1,DD,DW⟩:=round_begin w n (.slice a l c) e 53 (-1074) 1024 W1 hW1;have H1:=hid (HF.out W1 hB);have SB:=(sd (ai hB (ai hz1 DW)));clear hB hz1 DD DW HF;go_enter Tryz.func79,Tryz.ntmps79
 go_wp2_with fail
 rw [←hW1];clear hW1;refine H1.out.mono ?_;rintro r u1 ⟨⟨v,rfl,hN⟩,hb⟩;obtain ⟨a1,c1,rfl,_⟩:=hN.arg (by omega)
 obtain ⟨hB,hz1,DW⟩:=SB.out;obtain ⟨W2,hW2⟩:∃ W,W=u1.alloc (.cells #[.bool true,.slice a1 (ws X).length c1,.int .i64 e1] 27):=⟨_,rfl⟩;have hbW:Below u1.heap.size u1 W2:=by rw [hW2];exact below_alloc u1 _
 have D2:Dk W2 u1.heap.size true (.slice a1 (ws X).length c1) e1:=by rw [hW2];exact Dk.new u1 _ _ _
 have V2:Wk W2 (w.heap.size+1) 53 (-1074) 1024:=(DW.below hb).below hbW;have hB2:Below w.heap.size w W2:=(hB.trans (hb.mono (by omega))).trans (hbW.mono (by have:=hb.size;omega))
 have H2:=hid (HP.out W2 a1 c1 ((hN.below hbW).arg' (by omega)).2)
 obtain ⟨x0,x1,x2,xf0,xf1,xf2⟩:=D2.facts;obtain ⟨y0,y1,y2⟩:=V2.facts;obtain ⟨t0,t1,t2⟩:=(DW.below hb).facts;have hzu:w.heap.size+1<u1.heap.size:=by have:=hb.size;omega
 have hzz:w.heap.size≤u1.heap.size:=by have:=hb.size;omega
 have hz4:u1.heap.size<W2.heap.size:=D2.lt;have S2:=(sd (ai hB2 D2));clear hN hb H1 hB hz1 DW SB hbW D2 V2 hB2 HP
 go_wp2_with fail
 rw [←hW2];clear hW2;refine H2.out.mono ?_;rintro r u2 ⟨rfl,hb⟩;obtain ⟨W3,hW3⟩:∃ W,W=u2.alloc (.cells #[.int .u64 (F:Nat),.int .i64 ex,.bool false,.int .i64 mid] 133):=⟨_,rfl⟩;have hbW:Below u2.heap.size u2 W3:=by rw [hW3];exact below_alloc u2 _
 have P3:Pk W3 u2.heap.size (F:Nat) ex false mid:=by rw [hW3];exact heap_alloc_new _ _
 have D3:=(S2.out.2.below hb).below hbW;have hB3:Below w.heap.size w W3:=(S2.out.1.trans (hb.mono (by omega))).trans (hbW.mono (by have:=hb.size;omega))
 have hz6:u1.heap.size<u2.heap.size:=by have:=hb.size;omega
 obtain ⟨q0,q1,q2,q3,qf0,qf1,qf2,qf3⟩:=P3.facts;obtain ⟨d0,d1,d2,df0,df1,df2⟩:=D3.facts;have hz5:w.heap.size≤u2.heap.size:=by omega
 have hz7:u2.heap.size<W3.heap.size:=P3.lt;have S3:=(sd (ai hB3 (ai P3 D3)));clear hb hbW P3 D3 hB3 S2 H2 x0 x1 x2 xf0 xf1 xf2 y0 y1 y2
 go_upto_region 7 with fail
 rw [←hW3];clear hW3
 go_wp2_with fail
 refine (Calls.mono (HG.out _)) ?_;rintro r u3 ⟨rfl,hb⟩;have P4:=S3.out.2.1.below hb;have D4:=S3.out.2.2.below hb;have hB4:Below w.heap.size w u3:=S3.out.1.trans (hb.mono (by omega))
 have hz8:w.heap.size≤u3.heap.size:=by have:=hb.size;omega
 obtain ⟨r0,r1,r2,r3,rf0,rf1,rf2,rf3⟩:=P4.facts;obtain ⟨s0,s1,s2,sf0,sf1,sf2⟩:=D4.facts;have S4:=sd hB4;clear hb P4 D4 hB4 S3 HG q0 q1 q2 q3 qf0 qf1 qf2 qf3 d0 d1 d2 df0 df1 df2
 go_wp2_with fail
 try simp only [ecv]
 refine (Calls.mono (HD.out _)) ?_;rintro r ww ⟨rfl,hw⟩;rw [hw];clear hw ww HD
 go_wp2_with fail
 refine (Calls.mono (HC.out _)) ?_;rintro r ww ⟨rfl,hw⟩;rw [hw];clear hw ww HC;go_wp2
 go_ret2
 exact ⟨rfl,Below.setC S4.out _ _ _ hz5 hz8⟩
end
section
open Go.RowKit
def rndK (mode:Int) (n:Bool) (X:Nat) (e:Int):Nat :=
 let p:=plc 53 (-1074) 1024 X e
 (p.2.1+1074).toNat*4503599627370496+(if p.2.2.1 then p.1 else if outS mode p.1 p.2.2.2 n then p.1+1 else p.1)
def rndS (o:Option (Bool×Nat×Int)) (mode:Int):Nat×Int :=
 if mode<0∨4<mode then (0,1)
 else match o with
  | none=>(0,2)
  | some (n,X,e)=>if X=0 then (0,0) else (rndK mode n X e+(if n then 9223372036854775808 else 0),0)
theorem plc_mid (X:Nat) (e:Int):(plc 53 (-1074) 1024 X e).2.2.2=-1∨(plc 53 (-1074) 1024 X e).2.2.2=0∨(plc 53 (-1074) 1024 X e).2.2.2=1:=by
 unfold plc
 split
 · simp
 · simp only
   split
   · simp
   · simp only
     split
     · simp
     · split <;> simp
theorem ldexp_word (F:Nat) (ex:Int) (hF:F≤9007199254740992) (h0:-1074≤ex) (h1:ex≤971) (hn:ex=-1074∨4503599627370496≤F) :
 ∃ cw,floatOfInt .f64 (F:Int)=cw∧∀ u,Calls Tryz.prog 116 #[.float .f64 cw,.int .i64 ex] u fun r w'=>r=.returned (.float .f64 ((ex+1074).toNat*4503599627370496+F))∧w'=u:=by
 by_cases hz:F=0
 · subst hz
   obtain rfl:ex=-1074:=by omega
   exact ⟨0,by decide,fun u=>B.Ldexp_nought _ u⟩
 · obtain ⟨e,g,hw⟩:=B.whole_of F (by omega) hF
   exact ⟨_,B.ofInt_whole F e g hw,fun u=>B.Ldexp_any F e g ex u hw (by omega) hF h0 h1 hn⟩
theorem copy_word (K:Nat) (hK:K≤9218868437227405312) (u:World):Calls Tryz.prog 117 #[.float .f64 K,.float .f64 13830554455654793216] u fun r w'=>r=.returned (.float .f64 (K+9223372036854775808))∧w'=u:=by
 have h:=B.copysign_neg (K/4503599627370496) (K%4503599627370496) (by omega) (by omega) u
 have e1:B.bw false (K/4503599627370496) (K%4503599627370496)=K:=by unfold B.bw;simp;omega
 have e2:B.bw true (K/4503599627370496) (K%4503599627370496)=K+9223372036854775808:=by unfold B.bw;simp;omega
 rw [e1,e2] at h;exact h
theorem round_any {w:World}{a:Option Addr}{l c:Nat}{xs:List Nat}(hA:Arg w a l c xs) (hT:Tab w) (n:Bool) (e mode:Int) (he0:-9223372036854775808≤e) (he1:e≤9223372036854775807) :
 Calls Tryz.prog 79 #[.agg #[.bool n,.slice a l c,.int .i64 e],.int .i64 mode,.agg #[.int .i64 53,.int .i64 (-1074),.int .i64 1024]] w fun r w'=>r=.returned (.tuple #[.float .f64 (rndS (mkS n (val xs) e) mode).1,.int .i64 (rndS (mkS n (val xs) e) mode).2])∧Below w.heap.size w w':=by
 unfold rndS
 by_cases hm:mode<0∨4<mode
 · rw [if_pos hm];exact round_mode n a l c e mode w hm
 · rw [if_neg hm]
   have HF:Hid (∀ u,Below w.heap.size w u→Calls Tryz.prog 94 #[.agg #[.bool n,.slice a l c,.int .i64 e]] u fun r w'=>DAns u.heap.size w' r (mkS n (val xs) e)∧Below u.heap.size u w'):=fun u hu=>form_any (hA.below hu) (hT.belows hu) n e he0 he1
   cases ho:mkS n (val xs) e with
   | none =>
     rw [ho] at HF;exact round_err n e mode false 0 0 2 (by rw [ws_zero];simp) (by omega) (by omega) rfl HF
   | some d =>
     obtain ⟨n1,X,e1⟩:=d;rw [ho] at HF;have FX:=mkS_frm ho;simp only
     by_cases hX:X=0
     · rw [if_pos hX]
       exact round_none n e mode n1 X e1 ((ws_len_zero X).2 hX) (by omega) (by omega) HF
     · rw [if_neg hX]
       have pf:=plc_facts X e1 hX FX.down FX.up;have pm:=plc_mid X e1;have HP:∀ (u:World) (p:Option Addr) (q:Nat),Arg u p (ws X).length q (ws X)→Calls Tryz.prog 114 #[.agg #[.bool n1,.slice p (ws X).length q,.int .i64 e1],.agg #[.int .i64 53,.int .i64 (-1074),.int .i64 1024]] u fun r w'=>r=.returned (.agg #[.int .u64 ((plc 53 (-1074) 1024 X e1).1:Nat),.int .i64 (plc 53 (-1074) 1024 X e1).2.1,.bool (plc 53 (-1074) 1024 X e1).2.2.1,.int .i64 (plc 53 (-1074) 1024 X e1).2.2.2])∧Below u.heap.size u w':=fun u p q hA=>placed_any hA n1 e1 FX.down FX.up hX FX.size
       unfold rndK;simp only;generalize plc 53 (-1074) 1024 X e1=P at pf pm HP ⊢;obtain ⟨F,ex,t,mid⟩:=P;simp only at pf pm HP ⊢;obtain ⟨p1,p2,p3,p4⟩:=pf;have HG:∀ u,Calls Tryz.prog 115 #[.agg #[.int .u64 (F:Nat),.int .i64 ex,.bool false,.int .i64 mid],.int .i64 mode,.bool n1] u fun r w'=>r=.returned (.bool (outS mode F mid n1))∧Below u.heap.size u w':=fun u=>goesOut_any F ex false mid mode n1 u (by omega) pm (by omega) (by omega)
       have lX:=frm_len FX
       cases t with
       | true =>
         simp only [if_true];obtain ⟨cw,ecv,HD⟩:=ldexp_word F ex (by omega) p2 p3 p4
         cases n1 with
         | false =>
           simp only [Bool.false_eq_true,if_false,Nat.add_zero];exact round_tf n e mode X e1 lX (len_ne hX) (by omega) (by omega) F cw _ 0 ex mid p1 ecv HF (hid HP) (hid HD)
         | true =>
           simp only [if_true];exact round_tt n e mode X e1 lX (len_ne hX) (by omega) (by omega) F cw _ _ ex mid p1 ecv HF (hid HP) (hid HD) (hid fun u=>copy_word _ (by omega) u)
       | false =>
         simp only [Bool.false_eq_true,if_false]
         cases hob:outS mode F mid n1 with
         | false =>
           rw [hob] at HG;simp only [Bool.false_eq_true,if_false];obtain ⟨cw,ecv,HD⟩:=ldexp_word F ex (by omega) p2 p3 p4
           cases n1 with
           | false =>
             simp only [Bool.false_eq_true,if_false,Nat.add_zero];exact round_fff n e mode X e1 lX (len_ne hX) (by omega) (by omega) F cw _ 0 ex mid p1 ecv HF (hid HP) (hid HG) (hid HD)
           | true =>
             simp only [if_true];exact round_fft n e mode X e1 lX (len_ne hX) (by omega) (by omega) F cw _ _ ex mid p1 ecv HF (hid HP) (hid HG) (hid HD) (hid fun u=>copy_word _ (by omega) u)
         | true =>
           rw [hob] at HG;simp only [if_true];obtain ⟨cw,ecv,HD⟩:=ldexp_word (F+1) ex (by omega) p2 p3 (by omega)
           cases n1 with
           | false =>
             simp only [Bool.false_eq_true,if_false,Nat.add_zero];exact round_ftf n e mode X e1 lX (len_ne hX) (by omega) (by omega) F cw _ 0 ex mid p1 (by simpa using ecv) HF (hid HP) (hid HG) (hid HD)
           | true =>
             simp only [if_true];exact round_ftt n e mode X e1 lX (len_ne hX) (by omega) (by omega) F cw _ _ ex mid p1 (by simpa using ecv) HF (hid HP) (hid HG) (hid HD) (hid fun u=>copy_word _ (by omega) u)
theorem Round_any {w:World}{a:Option Addr}{l c:Nat}{xs:List Nat}(hA:Arg w a l c xs) (hT:Tab w) (n:Bool) (e mode:Int) (he0:-9223372036854775808≤e) (he1:e≤9223372036854775807) :
 Calls Tryz.prog 43 #[.agg #[.bool n,.slice a l c,.int .i64 e],.int .i64 mode] w fun r w'=>r=.returned (.tuple #[.float .f64 (rndS (mkS n (val xs) e) mode).1,.int .i64 (rndS (mkS n (val xs) e) mode).2])∧Below w.heap.size w w':=by
 have hb0:=below_alloc w (.cells #[.bool n,.slice a l c,.int .i64 e] 27);have H:=hid (round_any (hA.below hb0) (hT.belows hb0) n e mode he0 he1);have S0:=sd hb0;obtain ⟨⟨K,er⟩,hK⟩:∃ K,rndS (mkS n (val xs) e) mode=K:=⟨_,rfl⟩;rw [hK] at H ⊢;simp only at H ⊢;clear hA hT hb0 hK;go_enter Tryz.func43,Tryz.ntmps43
 go_wp2_with fail
 refine H.out.mono ?_;rintro r u1 ⟨rfl,hb⟩;have S1:=sd hb;clear hb;go_wp2
 go_ret2
 exact ⟨rfl,S0.out.trans (S1.out.mono (by simp))⟩
end
section
open Go.RowKit
theorem isNaN_c (x:Int) (w:World):Calls Tryz.prog 161 #[.int .u64 x] w fun r w'=>r=.returned (.bool false)∧w'=w:=by
 go_enter Tryz.func161,Tryz.ntmps161;go_wp2;go_ret;exact ⟨rfl,rfl⟩
def cmpZ (x y:Int):Int:=if x<y then -1 else if y<x then 1 else 0
theorem cmpZ_nat (x y:Nat):cmpZ (x:Int) (y:Int)=cmpI x y:=by
 unfold cmpZ cmpI;simp only [Int.ofNat_lt]
theorem compare_w (x y:Int) (w:World):Calls Tryz.prog 139 #[.int .u64 x,.int .u64 y] w fun r w'=>r=.returned (.int .i64 (cmpZ x y))∧w'=w:=by
 have H:Hid (∀ x w,_):=isNaN_c
 rcases Int.lt_trichotomy x y with h|h|h
 · have e:cmpZ x y=-1:=by simp [cmpZ,h]
   rw [e];clear e;go_enter Tryz.func139,Tryz.ntmps139
   go_wp2_with fail
   refine (H.out _ _).mono ?_;rintro r w1 ⟨rfl,rfl⟩
   go_wp2_with fail
   refine (H.out _ _).mono ?_;rintro r w1 ⟨rfl,rfl⟩;go_wp2;go_ret;exact ⟨rfl,rfl⟩
 · have e:cmpZ x y=0:=by simp [cmpZ,h]
   rw [e];clear e;subst h;go_enter Tryz.func139,Tryz.ntmps139
   go_wp2_with fail
   refine (H.out _ _).mono ?_;rintro r w1 ⟨rfl,rfl⟩
   go_wp2_with fail
   refine (H.out _ _).mono ?_;rintro r w1 ⟨rfl,rfl⟩;go_wp2;go_ret;exact ⟨rfl,rfl⟩
 · have e:cmpZ x y=1:=by unfold cmpZ;rw [if_neg (by omega),if_pos h]
   rw [e];clear e;have h0:decide (x<y)=false:=decide_eq_false (by omega)
   go_enter Tryz.func139,Tryz.ntmps139
   go_wp2_with fail
   refine (H.out _ _).mono ?_;rintro r w1 ⟨rfl,rfl⟩
   go_wp2_with fail
   refine (H.out _ _).mono ?_;rintro r w1 ⟨rfl,rfl⟩;go_wp2;go_ret;exact ⟨rfl,rfl⟩
theorem compare_z (x y:Int) (w:World):Calls Tryz.prog 95 #[.int .i64 x,.int .i64 y] w fun r w'=>r=.returned (.int .i64 (cmpZ x y))∧w'=w:=by
 have H:Hid (∀ x w,_):=isNaN_i
 rcases Int.lt_trichotomy x y with h|h|h
 · have e:cmpZ x y=-1:=by simp [cmpZ,h]
   rw [e];clear e;go_enter Tryz.func95,Tryz.ntmps95
   go_wp2_with fail
   refine (H.out _ _).mono ?_;rintro r w1 ⟨rfl,rfl⟩
   go_wp2_with fail
   refine (H.out _ _).mono ?_;rintro r w1 ⟨rfl,rfl⟩;go_wp2;go_ret;exact ⟨rfl,rfl⟩
 · have e:cmpZ x y=0:=by simp [cmpZ,h]
   rw [e];clear e;subst h;go_enter Tryz.func95,Tryz.ntmps95
   go_wp2_with fail
   refine (H.out _ _).mono ?_;rintro r w1 ⟨rfl,rfl⟩
   go_wp2_with fail
   refine (H.out _ _).mono ?_;rintro r w1 ⟨rfl,rfl⟩;go_wp2;go_ret;exact ⟨rfl,rfl⟩
 · have e:cmpZ x y=1:=by unfold cmpZ;rw [if_neg (by omega),if_pos h]
   rw [e];clear e;have h0:decide (x<y)=false:=decide_eq_false (by omega)
   go_enter Tryz.func95,Tryz.ntmps95
   go_wp2_with fail
   refine (H.out _ _).mono ?_;rintro r w1 ⟨rfl,rfl⟩
   go_wp2_with fail
   refine (H.out _ _).mono ?_;rintro r w1 ⟨rfl,rfl⟩;go_wp2;go_ret;exact ⟨rfl,rfl⟩
theorem Sign_any3 {w:World}{a:Option Addr}{n c:Nat}{xs:List Nat}(h1:Arg w a n c xs) (ng:Bool) (e:Int) :
 Calls Tryz.prog 59 #[.agg #[.bool ng,.slice a n c,.int .i64 e]] w fun r w'=>r=.returned (.int .i64 (sgn ng (val xs)))∧Below w.heap.size w w':=by
 have hB:Below w.heap.size w (w.alloc (.cells #[.bool ng,.slice a n c,.int .i64 e] 27)):=below_alloc w _;have A1:=h1.below hB;have hbig:=h1.big;have H1:=hid (len_any xs a n c _ _ A1.len A1.cap (by omega) A1.wf A1.rd)
 obtain ⟨X,hX⟩:∃ X,val xs=X:=⟨_,rfl⟩;rw [hX] at H1 ⊢;have SB:=sd hB;clear hB A1 h1 hX hbig;unfold sgn
 by_cases h0:X=0
 · rw [if_pos h0]
   have hb:bl X=0:=by rw [h0,bl_zero]
   rw [hb] at H1;clear h0 hb;go_enter Tryz.func59,Tryz.ntmps59
   go_wp2_with fail
   refine H1.out.mono ?_;rintro r w1 ⟨rfl,rfl⟩;go_wp2;go_ret;exact ⟨rfl,SB.out⟩
 · rw [if_neg h0]
   obtain ⟨b,hb⟩:∃ b,bl X=b:=⟨_,rfl⟩;have hb0:((b:Int)==0)=false:=by have:=bl_pos X h0;simp;omega
   rw [hb] at H1;clear h0 hb
   cases ng
   · simp only [Bool.false_eq_true,if_false]
     go_enter Tryz.func59,Tryz.ntmps59
     go_wp2_with fail
     refine H1.out.mono ?_;rintro r w1 ⟨rfl,rfl⟩;go_wp2;go_ret;exact ⟨rfl,SB.out⟩
   · simp only [if_true]
     go_enter Tryz.func59,Tryz.ntmps59
     go_wp2_with fail
     refine H1.out.mono ?_;rintro r w1 ⟨rfl,rfl⟩;go_wp2;go_ret;exact ⟨rfl,SB.out⟩
theorem cmpFromTop_any {w:World}{a b:Option Addr}{n c m d:Nat}{xs ys:List Nat}(h1:Arg w a n c xs) (h2:Arg w b m d ys) (dd:Nat) (hd:bl (val xs)+dd=bl (val ys)) :
 Calls Tryz.prog 140 #[.slice a n c,.slice b m d] w fun r w'=>r=.returned (.int .i64 (cmpI (val xs*2^dd) (val ys)))∧w'=w:=by
 have hb1:=h1.big;have hb2:=h2.big;have H1:=hid (len_any xs a n c w.heap.size w h1.len h1.cap (by omega) h1.wf h1.rd)
 have H2:=hid (len_any ys b m d w.heap.size w h2.len h2.cap (by omega) h2.wf h2.rd)
 have b1:bl (val xs)≤32*n:=by have:=val_lt xs h1.wf;rw [←h1.len] at this;exact bl_pw _ _ this
 have b2:bl (val ys)≤32*m:=by have:=val_lt ys h2.wf;rw [←h2.len] at this;exact bl_pw _ _ this
 have WX:Hid (∀ i:Int,-9223372036854775808≤i→i≤9223372036854000000→Calls Tryz.prog 162 #[.slice a n c,.int .i64 i] w fun r w'=>r=.returned (.int .u32 ((win (val xs) i:Nat):Int))∧w'=w):=fun i h0 h3=>window_any xs a n c w.heap.size i w h1.len (by omega) h1.wf h1.rd h0 (by omega)
 have WY:Hid (∀ i:Int,-9223372036854775808≤i→i≤9223372036854000000→Calls Tryz.prog 162 #[.slice b m d,.int .i64 i] w fun r w'=>r=.returned (.int .u32 ((win (val ys) i:Nat):Int))∧w'=w):=fun i h0 h3=>window_any ys b m d w.heap.size i w h2.len (by omega) h2.wf h2.rd h0 (by omega)
 obtain ⟨X,hX⟩:∃ X,val xs=X:=⟨_,rfl⟩;obtain ⟨Y,hY⟩:∃ Y,val ys=Y:=⟨_,rfl⟩;rw [hX] at H1 b1 hd WX ⊢;rw [hY] at H2 b2 hd WY ⊢;have st:top X (bl X:Int)=top Y (bl Y:Int):=by rw [top_bl,top_bl]
 obtain ⟨i0,hi0⟩:∃ i,bl X=i:=⟨_,rfl⟩;obtain ⟨j0,hj0⟩:∃ j,bl Y=j:=⟨_,rfl⟩;rw [hi0] at H1 b1 hd st;rw [hj0] at H2 b2 hd st;obtain ⟨R,hR⟩:∃ R,cmpI (X*2^dd) Y=R:=⟨_,rfl⟩;rw [hR];have HR:=sd hR;have ST:=sd st;have HD:=sd hd;have bi:(i0:Int)≤1125899906842624:=by omega
 have bj:(j0:Int)≤1125899906842624:=by omega
 clear h1 h2 hX hY hi0 hj0 st hR hd b1 b2 hb1 hb2;go_enter Tryz.func140,Tryz.ntmps140
 go_wp2_with fail
 refine H1.out.mono ?_;rintro r w1 ⟨rfl,rfl⟩
 go_wp2_with fail
 refine H2.out.mono ?_;rintro r w1 ⟨rfl,rfl⟩;go_wp2
 go_loopg [5,6] (j0+32) (fun gk iv jv wr=>∃ i j:Int,(gk:Int)=j+32∧iv=.int .i64 i∧jv=.int .i64 j∧wr=w1∧-32≤j∧j≤1125899906842624∧i≤j∧-1125899906842656≤i∧Aside (i=j-dd∧top X i=top Y j))
 case atStart=>exact ⟨i0,j0,by omega,rfl,rfl,rfl,by omega,by omega,by have:=HD.out;omega,by omega,by have:=HD.out;omega,ST.out⟩
 case round =>
  obtain ⟨i,j,hgk,rfl,rfl,rfl,hj0',hj1,hij,hi0',HA⟩:=hrel
  by_cases hj:0<j
  · have hi2:i-32≤9223372036854000000:=by omega
    have hj2:j-32≤9223372036854000000:=by omega
    have G1:=hid (WX.out (i-32) (by omega) hi2)
    have G2:=hid (WY.out (j-32) (by omega) hj2)
    obtain ⟨x,hx⟩:∃ x,win X (i-32)=x:=⟨_,rfl⟩;obtain ⟨y,hy⟩:∃ y,win Y (j-32)=y:=⟨_,rfl⟩;rw [hx] at G1;rw [hy] at G2;have HXY:=(sd (ai hx hy));have hlo:-1125899906842656≤i:=hi0';clear hx hy;have CM:=hid (compare_u x y wr);obtain ⟨z,hz⟩:∃ z,cmpI x y=z:=⟨_,rfl⟩;rw [hz] at CM;have HZ:=sd hz;clear hz
    by_cases hpi:0<i
    · by_cases h0:z=0
      · subst h0
        go_wp2_with fail
        refine G1.out.mono ?_;rintro r w2 ⟨rfl,rfl⟩
        go_wp2_with fail
        refine G2.out.mono ?_;rintro r w2 ⟨rfl,rfl⟩
        go_wp2_with fail
        refine CM.out.mono ?_;rintro r w2 ⟨rfl,rfl⟩;go_wp2
        go_roundg (gk-32)
        case measure=>omega
        case rel =>
         refine ⟨i-32,j-32,by omega,by first | rfl | go_num,by first | rfl | go_num,rfl,by omega,by omega,by omega,?_,?_,?_⟩
         · have:=HA.out.1;have:=HD.out;omega
         · have:=HA.out.1;omega
         · exact top_alike HA.out.2 (by rw [HXY.out.1,HXY.out.2];exact HZ.out)
      · have h0':(z==0)=false:=by simpa using h0
        go_wp2_with fail
        refine G1.out.mono ?_;rintro r w2 ⟨rfl,rfl⟩
        go_wp2_with fail
        refine G2.out.mono ?_;rintro r w2 ⟨rfl,rfl⟩
        go_wp2_with fail
        refine CM.out.mono ?_;rintro r w2 ⟨rfl,rfl⟩;go_wp2
        have e:z=R:=by
         have h:=top_differ dd HA.out.1 HA.out.2 (by rw [HXY.out.1,HXY.out.2,HZ.out];exact h0)
         rw [HXY.out.1,HXY.out.2,HZ.out,HR.out] at h;exact h
        subst e;go_ret;exact ⟨rfl,rfl⟩
    · have hpi':decide (0<i)=false:=decide_eq_false hpi
      by_cases h0:z=0
      · subst h0
        go_wp2_with fail
        refine G1.out.mono ?_;rintro r w2 ⟨rfl,rfl⟩
        go_wp2_with fail
        refine G2.out.mono ?_;rintro r w2 ⟨rfl,rfl⟩
        go_wp2_with fail
        refine CM.out.mono ?_;rintro r w2 ⟨rfl,rfl⟩;go_wp2
        go_roundg (gk-32)
        case measure=>omega
        case rel =>
         refine ⟨i-32,j-32,by omega,by first | rfl | go_num,by first | rfl | go_num,rfl,by omega,by omega,by omega,?_,?_,?_⟩
         · have:=HA.out.1;have:=HD.out;omega
         · have:=HA.out.1;omega
         · exact top_alike HA.out.2 (by rw [HXY.out.1,HXY.out.2];exact HZ.out)
      · have h0':(z==0)=false:=by simpa using h0
        go_wp2_with fail
        refine G1.out.mono ?_;rintro r w2 ⟨rfl,rfl⟩
        go_wp2_with fail
        refine G2.out.mono ?_;rintro r w2 ⟨rfl,rfl⟩
        go_wp2_with fail
        refine CM.out.mono ?_;rintro r w2 ⟨rfl,rfl⟩;go_wp2
        have e:z=R:=by
         have h:=top_differ dd HA.out.1 HA.out.2 (by rw [HXY.out.1,HXY.out.2,HZ.out];exact h0)
         rw [HXY.out.1,HXY.out.2,HZ.out,HR.out] at h;exact h
        subst e;go_ret;exact ⟨rfl,rfl⟩
  · have hpi':decide (0<i)=false:=decide_eq_false (by omega)
    have hpj':decide (0<j)=false:=decide_eq_false (by omega)
    have e:R=0:=by rw [←HR.out];exact top_end dd HA.out.1 HA.out.2 (by omega)
    subst e;go_wp2;go_ret;exact ⟨rfl,rfl⟩
theorem cmpSizes_go {w:World}{a b:Option Addr}{n c m d:Nat}(ng mg:Bool) (e f:Int) (x y dd:Nat) (R:Int) (bx:x≤1125899906842624) (by':y≤1125899906842624)
 (hge:decide (e<f)=false) (hap:IntKind.u64.wrap (IntKind.u64.wrap e-IntKind.u64.wrap f)=(dd:Int))
 (H1:Hid (∀ u,Below w.heap.size w u→Calls Tryz.prog 82 #[.slice a n c] u fun r w'=>r=.returned (.int .i64 (x:Nat))∧w'=u))
 (H2:Hid (∀ u,Below w.heap.size w u→Calls Tryz.prog 82 #[.slice b m d] u fun r w'=>r=.returned (.int .i64 (y:Nat))∧w'=u))
 (H3:Hid (∀ u,Below w.heap.size w u→dd+x=y→Calls Tryz.prog 140 #[.slice a n c,.slice b m d] u fun r w'=>r=.returned (.int .i64 R)∧w'=u)) :
 Calls Tryz.prog 96 #[.agg #[.bool ng,.slice a n c,.int .i64 e],.agg #[.bool mg,.slice b m d,.int .i64 f]] w fun r w'=>r=.returned (.int .i64 (if y<dd then 1 else if dd+x=y then R else cmpI (dd+x) y))∧Below w.heap.size w w':=by
 obtain ⟨W1,hW1⟩:∃ W,W=(w.alloc (.cells #[.bool ng,.slice a n c,.int .i64 e] 27)).alloc (.cells #[.bool mg,.slice b m d,.int .i64 f] 27):=⟨_,rfl⟩;have hB:Below w.heap.size w W1:=by rw [hW1];exact (below_alloc w _).alloc (by simp) _
 have DA:Dk W1 w.heap.size ng (.slice a n c) e:=by rw [hW1];exact (Dk.new w ng (.slice a n c) e).alloc _
 have DB:Dk W1 (w.heap.size+1) mg (.slice b m d) f:=by
  rw [hW1];have:=Dk.new (w.alloc (.cells #[.bool ng,.slice a n c,.int .i64 e] 27)) mg (.slice b m d) f;simpa using this
 obtain ⟨x0,x1,x2,xf0,xf1,xf2⟩:=DA.facts;obtain ⟨y0,y1,y2,yf0,yf1,yf2⟩:=DB.facts;have SB:=sd hB;clear DA DB hB;have T1:=hid (H1.out W1 SB.out);have T2:=hid (H2.out W1 SB.out);have T1':=hid (H1.out W1.drew SB.out.drew);have T2':=hid (H2.out W1.drew SB.out.drew);have ex:IntKind.u64.wrap (x:Int)=(x:Int):=by rw [IntKind.wrap_u64];omega
 have ey:IntKind.u64.wrap (y:Int)=(y:Int):=by rw [IntKind.wrap_u64];omega
 by_cases h1:y<dd
 · rw [if_pos h1]
   have h1':(y:Int)<(dd:Int):=by omega
   go_enter Tryz.func96,Tryz.ntmps96
   go_upto_region 1 with fail
   rw [←hW1];clear hW1
   go_upto_region 4 with fail
   go_region_held3 (fun w'=>w'.cell? ⟨w.heap.size,1,none⟩=some (.slice a n c)∧w'.cell? ⟨w.heap.size+1,1,none⟩=some (.slice b m d)) (go_keep) (first
    | (go_at_call 82
       first | with_reducible refine T1.out.mono ?_ | with_reducible refine T1'.out.mono ?_ | with_reducible refine T2.out.mono ?_ | with_reducible refine T2'.out.mono ?_
       rintro r w' ⟨rfl,rfl⟩))
   all_goals (
    go_wp2;go_ret
    first | exact ⟨rfl,SB.out⟩ | exact ⟨rfl,SB.out.drew⟩)
 · rw [if_neg h1]
   have h1':decide ((y:Int)<(dd:Int))=false:=decide_eq_false (by omega)
   have es:IntKind.u64.wrap ((dd:Int)+(x:Int))=(dd:Int)+(x:Int):=by rw [IntKind.wrap_u64];omega
   by_cases h2:dd+x=y
   · rw [if_pos h2]
     have T3:=hid (H3.out W1 SB.out h2);have T3':=hid (H3.out W1.drew SB.out.drew h2);have h2':((dd:Int)+(x:Int)==(y:Int))=true:=by simp;omega
     have h2'':(dd:Int)+(x:Int)=(y:Int):=by omega
     go_enter Tryz.func96,Tryz.ntmps96
     go_upto_region 1 with fail
     rw [←hW1];clear hW1
     go_upto_region 4 with fail
     go_region_held3 (fun w'=>w'.cell? ⟨w.heap.size,1,none⟩=some (.slice a n c)∧w'.cell? ⟨w.heap.size+1,1,none⟩=some (.slice b m d)) (go_keep) (first
      | (go_at_call 82
         first | with_reducible refine T1.out.mono ?_ | with_reducible refine T1'.out.mono ?_ | with_reducible refine T2.out.mono ?_ | with_reducible refine T2'.out.mono ?_
         rintro r w' ⟨rfl,rfl⟩))
     all_goals (
      go_wp2_with fail
      first | with_reducible refine T3.out.mono ?_ | with_reducible refine T3'.out.mono ?_
      rintro r w' ⟨rfl,rfl⟩;go_wp2;go_ret
      first | exact ⟨rfl,SB.out⟩ | exact ⟨rfl,SB.out.drew⟩)
   · rw [if_neg h2]
     have h2':((dd:Int)+(x:Int)==(y:Int))=false:=by simp;omega
     have CW:Hid (∀ u,Calls Tryz.prog 139 #[.int .u64 ((dd:Int)+(x:Int)),.int .u64 (y:Int)] u fun r w'=>r=.returned (.int .i64 (cmpI (dd+x) y))∧w'=u):=fun u=>by
      have:=compare_w ((dd:Int)+(x:Int)) (y:Int) u;rw [show (dd:Int)+(x:Int)=((dd+x:Nat):Int) by omega,cmpZ_nat] at this
      rw [show (dd:Int)+(x:Int)=((dd+x:Nat):Int) by omega]
      exact this
     obtain ⟨z,hz⟩:∃ z,cmpI (dd+x) y=z:=⟨_,rfl⟩;rw [hz] at CW ⊢;clear hz;go_enter Tryz.func96,Tryz.ntmps96
     go_upto_region 1 with fail
     rw [←hW1];clear hW1
     go_upto_region 4 with fail
     go_region_held3 (fun w'=>w'.cell? ⟨w.heap.size,1,none⟩=some (.slice a n c)∧w'.cell? ⟨w.heap.size+1,1,none⟩=some (.slice b m d)) (go_keep) (first
      | (go_at_call 82
         first | with_reducible refine T1.out.mono ?_ | with_reducible refine T1'.out.mono ?_ | with_reducible refine T2.out.mono ?_ | with_reducible refine T2'.out.mono ?_
         rintro r w' ⟨rfl,rfl⟩))
     all_goals (
      go_wp2_with fail
      refine (CW.out _).mono ?_;rintro r w' ⟨rfl,rfl⟩;go_wp2;go_ret
      first | exact ⟨rfl,SB.out⟩ | exact ⟨rfl,SB.out.drew⟩)
end
section
open Go.RowKit
theorem cmpSizes_lt {w:World}{a b:Option Addr}{n c m d:Nat}(ng mg:Bool) (e f:Int) (z:Int) (hlt:e<f) (hz0:-1≤z) (hz1:z≤1)
 (HR:Hid (∀ u,Below w.heap.size w u→Calls Tryz.prog 96 #[.agg #[.bool mg,.slice b m d,.int .i64 f],.agg #[.bool ng,.slice a n c,.int .i64 e]] u fun r w'=>r=.returned (.int .i64 z)∧Below u.heap.size u w')) :
 Calls Tryz.prog 96 #[.agg #[.bool ng,.slice a n c,.int .i64 e],.agg #[.bool mg,.slice b m d,.int .i64 f]] w fun r w'=>r=.returned (.int .i64 (-z))∧Below w.heap.size w w':=by
 obtain ⟨W1,hW1⟩:∃ W,W=(w.alloc (.cells #[.bool ng,.slice a n c,.int .i64 e] 27)).alloc (.cells #[.bool mg,.slice b m d,.int .i64 f] 27):=⟨_,rfl⟩;have hB:Below w.heap.size w W1:=by rw [hW1];exact (below_alloc w _).alloc (by simp) _
 have hz:W1.heap.size=w.heap.size+2:=by rw [hW1];simp
 have DA:Dk W1 w.heap.size ng (.slice a n c) e:=by rw [hW1];exact (Dk.new w ng (.slice a n c) e).alloc _
 have DB:Dk W1 (w.heap.size+1) mg (.slice b m d) f:=by
  rw [hW1];have:=Dk.new (w.alloc (.cells #[.bool ng,.slice a n c,.int .i64 e] 27)) mg (.slice b m d) f;simpa using this
 have hs:w.heap.size≤W1.heap.size:=by omega
 have S0:=(sd (ai hB (ai DA DB)));clear hz;clear hB DA DB;go_enter Tryz.func96,Tryz.ntmps96
 go_upto_region 1 with fail
 rw [←hW1];clear hW1;obtain ⟨hB,DA,DB⟩:=S0.out;obtain ⟨x0,x1,x2,xf0,xf1,xf2⟩:=DA.facts;obtain ⟨y0,y1,y2,yf0,yf1,yf2⟩:=DB.facts;have HH:=hid (HR.out W1 hB);clear hB DA DB
 go_wp2_with fail
 clear x0 x1 x2 xf0 xf1 xf2 y0 y1 y2 yf0 yf1 yf2;refine HH.out.mono ?_;rintro r u1 ⟨rfl,hb⟩;obtain ⟨hB,DA,DB⟩:=S0.out;have hs1:=hb.size;have S1:=(sd (ai (hB.trans (hb.mono (by omega))) (ai (DA.below hb) (DB.below hb))))
 clear hB DA DB hb HH S0;go_wp2;go_ret;exact ⟨rfl,S1.out.1⟩
theorem cmp_nought {w:World}{a b:Option Addr}{n c m d:Nat}(ng mg:Bool) (e f:Int) (s t z:Int) (hs0:s=0)
 (HA:Hid (∀ u,Below w.heap.size w u→Calls Tryz.prog 59 #[.agg #[.bool ng,.slice a n c,.int .i64 e]] u fun r w'=>r=.returned (.int .i64 s)∧Below u.heap.size u w'))
 (HB:Hid (∀ u,Below w.heap.size w u→Calls Tryz.prog 59 #[.agg #[.bool mg,.slice b m d,.int .i64 f]] u fun r w'=>r=.returned (.int .i64 t)∧Below u.heap.size u w'))
 (HC:Hid (∀ u,Calls Tryz.prog 95 #[.int .i64 s,.int .i64 t] u fun r w'=>r=.returned (.int .i64 z)∧w'=u)) :
 Calls Tryz.prog 61 #[.agg #[.bool ng,.slice a n c,.int .i64 e],.agg #[.bool mg,.slice b m d,.int .i64 f]] w fun r w'=>r=.returned (.int .i64 z)∧Below w.heap.size w w':=by
 subst hs0;obtain ⟨W1,hW1⟩:∃ W,W=(w.alloc (.cells #[.bool ng,.slice a n c,.int .i64 e] 27)).alloc (.cells #[.bool mg,.slice b m d,.int .i64 f] 27):=⟨_,rfl⟩;have hB:Below w.heap.size w W1:=by rw [hW1];exact (below_alloc w _).alloc (by simp) _
 have hz:W1.heap.size=w.heap.size+2:=by rw [hW1];simp
 have DA:Dk W1 w.heap.size ng (.slice a n c) e:=by rw [hW1];exact (Dk.new w ng (.slice a n c) e).alloc _
 have DB:Dk W1 (w.heap.size+1) mg (.slice b m d) f:=by
  rw [hW1];have:=Dk.new (w.alloc (.cells #[.bool ng,.slice a n c,.int .i64 e] 27)) mg (.slice b m d) f;simpa using this
 have hs:w.heap.size≤W1.heap.size:=by omega
 have S0:=(sd (ai hB (ai DA DB)));clear hz;clear hB DA DB;go_enter Tryz.func61,Tryz.ntmps61
 go_upto_region 1 with fail
 rw [←hW1];clear hW1;obtain ⟨hB,DA,DB⟩:=S0.out;obtain ⟨x0,x1,x2,xf0,xf1,xf2⟩:=DA.facts;obtain ⟨y0,y1,y2,yf0,yf1,yf2⟩:=DB.facts;have HH:=hid (HA.out W1 hB);clear hB DA DB
 go_wp2_with fail
 clear x0 x1 x2 xf0 xf1 xf2 y0 y1 y2 yf0 yf1 yf2;refine HH.out.mono ?_;rintro r u1 ⟨rfl,hb⟩;obtain ⟨hB,DA,DB⟩:=S0.out;have hs1:=hb.size;have S1:=(sd (ai (hB.trans (hb.mono (by omega))) (ai (DA.below hb) (DB.below hb))))
 clear hB DA DB hb HH S0;obtain ⟨hB,DA,DB⟩:=S1.out;obtain ⟨x0,x1,x2,xf0,xf1,xf2⟩:=DA.facts;obtain ⟨y0,y1,y2,yf0,yf1,yf2⟩:=DB.facts;have HH:=hid (HB.out u1 hB);clear hB DA DB
 go_wp2_with fail
 clear x0 x1 x2 xf0 xf1 xf2 y0 y1 y2 yf0 yf1 yf2;refine HH.out.mono ?_;rintro r u2 ⟨rfl,hb⟩;obtain ⟨hB,DA,DB⟩:=S1.out;have hs2:=hb.size;have S2:=(sd (ai (hB.trans (hb.mono (by omega))) (ai (DA.below hb) (DB.below hb))))
 clear hB DA DB hb HH S1;obtain ⟨hB,DA,DB⟩:=S2.out;obtain ⟨x0,x1,x2,xf0,xf1,xf2⟩:=DA.facts;obtain ⟨y0,y1,y2,yf0,yf1,yf2⟩:=DB.facts;have HH:=hid (HC.out u2);clear hB DA DB
 go_wp2_with fail
 clear x0 x1 x2 xf0 xf1 xf2 y0 y1 y2 yf0 yf1 yf2;refine HH.out.mono ?_;rintro r uu ⟨rfl,hw⟩;rw [hw];clear hw uu HH;go_wp2;go_ret;exact ⟨rfl,S2.out.1⟩
theorem cmp_apart {w:World}{a b:Option Addr}{n c m d:Nat}(ng mg:Bool) (e f:Int) (s t z:Int) (hs0:(s==0)=false) (hst:(s==t)=false)
 (HA:Hid (∀ u,Below w.heap.size w u→Calls Tryz.prog 59 #[.agg #[.bool ng,.slice a n c,.int .i64 e]] u fun r w'=>r=.returned (.int .i64 s)∧Below u.heap.size u w'))
 (HB:Hid (∀ u,Below w.heap.size w u→Calls Tryz.prog 59 #[.agg #[.bool mg,.slice b m d,.int .i64 f]] u fun r w'=>r=.returned (.int .i64 t)∧Below u.heap.size u w'))
 (HC:Hid (∀ u,Calls Tryz.prog 95 #[.int .i64 s,.int .i64 t] u fun r w'=>r=.returned (.int .i64 z)∧w'=u)) :
 Calls Tryz.prog 61 #[.agg #[.bool ng,.slice a n c,.int .i64 e],.agg #[.bool mg,.slice b m d,.int .i64 f]] w fun r w'=>r=.returned (.int .i64 z)∧Below w.heap.size w w':=by
 obtain ⟨W1,hW1⟩:∃ W,W=(w.alloc (.cells #[.bool ng,.slice a n c,.int .i64 e] 27)).alloc (.cells #[.bool mg,.slice b m d,.int .i64 f] 27):=⟨_,rfl⟩;have hB:Below w.heap.size w W1:=by rw [hW1];exact (below_alloc w _).alloc (by simp) _
 have hz:W1.heap.size=w.heap.size+2:=by rw [hW1];simp
 have DA:Dk W1 w.heap.size ng (.slice a n c) e:=by rw [hW1];exact (Dk.new w ng (.slice a n c) e).alloc _
 have DB:Dk W1 (w.heap.size+1) mg (.slice b m d) f:=by
  rw [hW1];have:=Dk.new (w.alloc (.cells #[.bool ng,.slice a n c,.int .i64 e] 27)) mg (.slice b m d) f;simpa using this
 have hs:w.heap.size≤W1.heap.size:=by omega
 have S0:=(sd (ai hB (ai DA DB)));clear hz;clear hB DA DB;go_enter Tryz.func61,Tryz.ntmps61
 go_upto_region 1 with fail
 rw [←hW1];clear hW1;obtain ⟨hB,DA,DB⟩:=S0.out;obtain ⟨x0,x1,x2,xf0,xf1,xf2⟩:=DA.facts;obtain ⟨y0,y1,y2,yf0,yf1,yf2⟩:=DB.facts;have HH:=hid (HA.out W1 hB);clear hB DA DB
 go_wp2_with fail
 clear x0 x1 x2 xf0 xf1 xf2 y0 y1 y2 yf0 yf1 yf2;refine HH.out.mono ?_;rintro r u1 ⟨rfl,hb⟩;obtain ⟨hB,DA,DB⟩:=S0.out;have hs1:=hb.size;have S1:=(sd (ai (hB.trans (hb.mono (by omega))) (ai (DA.below hb) (DB.below hb))))
 clear hB DA DB hb HH S0;obtain ⟨hB,DA,DB⟩:=S1.out;obtain ⟨x0,x1,x2,xf0,xf1,xf2⟩:=DA.facts;obtain ⟨y0,y1,y2,yf0,yf1,yf2⟩:=DB.facts;have HH:=hid (HB.out u1 hB);clear hB DA DB
 go_wp2_with fail
 clear x0 x1 x2 xf0 xf1 xf2 y0 y1 y2 yf0 yf1 yf2;refine HH.out.mono ?_;rintro r u2 ⟨rfl,hb⟩;obtain ⟨hB,DA,DB⟩:=S1.out;have hs2:=hb.size;have S2:=(sd (ai (hB.trans (hb.mono (by omega))) (ai (DA.below hb) (DB.below hb))))
 clear hB DA DB hb HH S1;obtain ⟨hB,DA,DB⟩:=S2.out;obtain ⟨x0,x1,x2,xf0,xf1,xf2⟩:=DA.facts;obtain ⟨y0,y1,y2,yf0,yf1,yf2⟩:=DB.facts;have HH:=hid (HB.out u2 hB);clear hB DA DB
 go_wp2_with fail
 clear x0 x1 x2 xf0 xf1 xf2 y0 y1 y2 yf0 yf1 yf2;refine HH.out.mono ?_;rintro r u3 ⟨rfl,hb⟩;obtain ⟨hB,DA,DB⟩:=S2.out;have hs3:=hb.size;have S3:=(sd (ai (hB.trans (hb.mono (by omega))) (ai (DA.below hb) (DB.below hb))))
 clear hB DA DB hb HH S2;obtain ⟨hB,DA,DB⟩:=S3.out;obtain ⟨x0,x1,x2,xf0,xf1,xf2⟩:=DA.facts;obtain ⟨y0,y1,y2,yf0,yf1,yf2⟩:=DB.facts;have HH:=hid (HC.out u3);clear hB DA DB
 go_wp2_with fail
 clear x0 x1 x2 xf0 xf1 xf2 y0 y1 y2 yf0 yf1 yf2;refine HH.out.mono ?_;rintro r uu ⟨rfl,hw⟩;rw [hw];clear hw uu HH;go_wp2;go_ret;exact ⟨rfl,S3.out.1⟩
theorem cmp_alike {w:World}{a b:Option Addr}{n c m d:Nat}(ng mg:Bool) (e f:Int) (s z:Int) (hs0:(s==0)=false) (bs0:-1≤s) (bs1:s≤1) (bz0:-1≤z) (bz1:z≤1) (p:Int) (hp:IntKind.i64.wrap (s*z)=p)
 (HA:Hid (∀ u,Below w.heap.size w u→Calls Tryz.prog 59 #[.agg #[.bool ng,.slice a n c,.int .i64 e]] u fun r w'=>r=.returned (.int .i64 s)∧Below u.heap.size u w'))
 (HB:Hid (∀ u,Below w.heap.size w u→Calls Tryz.prog 59 #[.agg #[.bool mg,.slice b m d,.int .i64 f]] u fun r w'=>r=.returned (.int .i64 s)∧Below u.heap.size u w'))
 (HZ:Hid (∀ u,Below w.heap.size w u→Calls Tryz.prog 96 #[.agg #[.bool ng,.slice a n c,.int .i64 e],.agg #[.bool mg,.slice b m d,.int .i64 f]] u fun r w'=>r=.returned (.int .i64 z)∧Below u.heap.size u w')) :
 Calls Tryz.prog 61 #[.agg #[.bool ng,.slice a n c,.int .i64 e],.agg #[.bool mg,.slice b m d,.int .i64 f]] w fun r w'=>r=.returned (.int .i64 p)∧Below w.heap.size w w':=by
 obtain ⟨W1,hW1⟩:∃ W,W=(w.alloc (.cells #[.bool ng,.slice a n c,.int .i64 e] 27)).alloc (.cells #[.bool mg,.slice b m d,.int .i64 f] 27):=⟨_,rfl⟩;have hB:Below w.heap.size w W1:=by rw [hW1];exact (below_alloc w _).alloc (by simp) _
 have hz:W1.heap.size=w.heap.size+2:=by rw [hW1];simp
 have DA:Dk W1 w.heap.size ng (.slice a n c) e:=by rw [hW1];exact (Dk.new w ng (.slice a n c) e).alloc _
 have DB:Dk W1 (w.heap.size+1) mg (.slice b m d) f:=by
  rw [hW1];have:=Dk.new (w.alloc (.cells #[.bool ng,.slice a n c,.int .i64 e] 27)) mg (.slice b m d) f;simpa using this
 have hs:w.heap.size≤W1.heap.size:=by omega
 have S0:=(sd (ai hB (ai DA DB)));clear hz;clear hB DA DB;go_enter Tryz.func61,Tryz.ntmps61
 go_upto_region 1 with fail
 rw [←hW1];clear hW1;obtain ⟨hB,DA,DB⟩:=S0.out;obtain ⟨x0,x1,x2,xf0,xf1,xf2⟩:=DA.facts;obtain ⟨y0,y1,y2,yf0,yf1,yf2⟩:=DB.facts;have HH:=hid (HA.out W1 hB);clear hB DA DB
 go_wp2_with fail
 clear x0 x1 x2 xf0 xf1 xf2 y0 y1 y2 yf0 yf1 yf2;refine HH.out.mono ?_;rintro r u1 ⟨rfl,hb⟩;obtain ⟨hB,DA,DB⟩:=S0.out;have hs1:=hb.size;have S1:=(sd (ai (hB.trans (hb.mono (by omega))) (ai (DA.below hb) (DB.below hb))))
 clear hB DA DB hb HH S0;obtain ⟨hB,DA,DB⟩:=S1.out;obtain ⟨x0,x1,x2,xf0,xf1,xf2⟩:=DA.facts;obtain ⟨y0,y1,y2,yf0,yf1,yf2⟩:=DB.facts;have HH:=hid (HB.out u1 hB);clear hB DA DB
 go_wp2_with fail
 clear x0 x1 x2 xf0 xf1 xf2 y0 y1 y2 yf0 yf1 yf2;refine HH.out.mono ?_;rintro r u2 ⟨rfl,hb⟩;obtain ⟨hB,DA,DB⟩:=S1.out;have hs2:=hb.size;have S2:=(sd (ai (hB.trans (hb.mono (by omega))) (ai (DA.below hb) (DB.below hb))))
 clear hB DA DB hb HH S1;obtain ⟨hB,DA,DB⟩:=S2.out;obtain ⟨x0,x1,x2,xf0,xf1,xf2⟩:=DA.facts;obtain ⟨y0,y1,y2,yf0,yf1,yf2⟩:=DB.facts;have HH:=hid (HZ.out u2 hB);clear hB DA DB
 go_wp2_with fail
 clear x0 x1 x2 xf0 xf1 xf2 y0 y1 y2 yf0 yf1 yf2;refine HH.out.mono ?_;rintro r u3 ⟨rfl,hb⟩;obtain ⟨hB,DA,DB⟩:=S2.out;have hs3:=hb.size;have S3:=(sd (ai (hB.trans (hb.mono (by omega))) (ai (DA.below hb) (DB.below hb))))
 clear hB DA DB hb HH S2;go_wp2;go_ret;exact ⟨rfl,S3.out.1⟩
theorem u64_apart (e f:Int) (he0:-9223372036854775808≤e) (he1:e≤9223372036854775807) (hf0:-9223372036854775808≤f) (hf1:f≤9223372036854775807) (h:f≤e):IntKind.u64.wrap (IntKind.u64.wrap e-IntKind.u64.wrap f)=(((e-f).toNat:Nat):Int):=by
 rw [IntKind.wrap_u64,IntKind.wrap_u64,IntKind.wrap_u64];omega
theorem cmp_size (X Y dd:Nat) (hX:X≠0):(if bl Y<dd then 1 else if dd+bl X=bl Y then cmpI (X*2^dd) Y else cmpI (dd+bl X) (bl Y))=cmpI (X*2^dd) Y:=by
 have hb:=bl_up X dd hX
 by_cases h1:bl Y<dd
 · rw [if_pos h1,cmpI_bl (by omega),hb]
   unfold cmpI;rw [if_neg (by omega),if_pos (by omega)]
 · rw [if_neg h1]
   by_cases h2:dd+bl X=bl Y
   · rw [if_pos h2]
   · rw [if_neg h2,cmpI_bl (x:=X*2^dd) (by omega),hb,Nat.add_comm]
theorem bl_arg {w:World}{a:Option Addr}{n c:Nat}{xs:List Nat}(h1:Arg w a n c xs):bl (val xs)≤1125899906842624:=by
 have:=val_lt xs h1.wf;rw [←h1.len] at this;have:=bl_pw _ _ this;have:=h1.big;omega
theorem cmpSizes_ge {w:World}{a b:Option Addr}{n c m d:Nat}{xs ys:List Nat}(h1:Arg w a n c xs) (h2:Arg w b m d ys) (ng mg:Bool) (e f:Int) (he0:-9223372036854775808≤e) (he1:e≤9223372036854775807) (hf0:-9223372036854775808≤f) (hf1:f≤9223372036854775807) (h:f≤e) (hX:val xs≠0) :
 Calls Tryz.prog 96 #[.agg #[.bool ng,.slice a n c,.int .i64 e],.agg #[.bool mg,.slice b m d,.int .i64 f]] w fun r w'=>r=.returned (.int .i64 (cmpP (val xs) e (val ys) f))∧Below w.heap.size w w':=by
 have b1:=h1.big;have b2:=h2.big
 have:=cmpSizes_go (w:=w) ng mg e f (bl (val xs)) (bl (val ys)) (e-f).toNat (cmpI (val xs*2^(e-f).toNat) (val ys)) (bl_arg h1) (bl_arg h2) (decide_eq_false (by omega)) (u64_apart e f he0 he1 hf0 hf1 h)
  (hid fun u hu=>len_any xs a n c u.heap.size u h1.len h1.cap (by omega) h1.wf (h1.below hu).rd)
  (hid fun u hu=>len_any ys b m d u.heap.size u h2.len h2.cap (by omega) h2.wf (h2.below hu).rd)
  (hid fun u hu hd=>cmpFromTop_any (h1.below hu) (h2.below hu) (e-f).toNat (by omega))
 rw [cmp_size _ _ _ hX] at this;unfold cmpP;rw [if_neg (by omega)]
 exact this
theorem cmpSizes_any {w:World}{a b:Option Addr}{n c m d:Nat}{xs ys:List Nat}(h1:Arg w a n c xs) (h2:Arg w b m d ys) (ng mg:Bool) (e f:Int) (he0:-9223372036854775808≤e) (he1:e≤9223372036854775807) (hf0:-9223372036854775808≤f) (hf1:f≤9223372036854775807) (hX:val xs≠0) (hY:val ys≠0) :
 Calls Tryz.prog 96 #[.agg #[.bool ng,.slice a n c,.int .i64 e],.agg #[.bool mg,.slice b m d,.int .i64 f]] w fun r w'=>r=.returned (.int .i64 (cmpP (val xs) e (val ys) f))∧Below w.heap.size w w':=by
 by_cases h:e<f
 · have hr:=cmpP_range (val ys) f (val xs) e
   have:=cmpSizes_lt (w:=w) ng mg e f (cmpP (val ys) f (val xs) e) h (by omega) (by omega) (hid fun u hu=>cmpSizes_ge (h2.below hu) (h1.below hu) mg ng f e hf0 hf1 he0 he1 (by omega) hY)
   rw [cmpP_neg] at this;exact this
 · exact cmpSizes_ge h1 h2 ng mg e f he0 he1 hf0 hf1 (by omega) hX
theorem sgn_range (n:Bool) (X:Nat):sgn n X=-1∨sgn n X=0∨sgn n X=1:=by
 unfold sgn;split
 · exact .inr (.inl rfl)
 · split
   · exact .inl rfl
   · exact .inr (.inr rfl)
theorem sgn_zero3 {n:Bool}{X:Nat}:sgn n X=0↔X=0:=by
 unfold sgn
 by_cases h:X=0
 · simp [h]
 · rw [if_neg h];cases n <;> simp [h]
theorem Cmp_any3 {w:World}{a b:Option Addr}{n c m d:Nat}{xs ys:List Nat}(h1:Arg w a n c xs) (h2:Arg w b m d ys) (ng mg:Bool) (e f:Int) (he0:-9223372036854775808≤e) (he1:e≤9223372036854775807) (hf0:-9223372036854775808≤f) (hf1:f≤9223372036854775807) :
 Calls Tryz.prog 61 #[.agg #[.bool ng,.slice a n c,.int .i64 e],.agg #[.bool mg,.slice b m d,.int .i64 f]] w fun r w'=>r=.returned (.int .i64 (cmpV ng (val xs) e mg (val ys) f))∧Below w.heap.size w w':=by
 have SA:=hid fun u (hu:Below w.heap.size w u)=>Sign_any3 (h1.below hu) ng e
 have SB:=hid fun u (hu:Below w.heap.size w u)=>Sign_any3 (h2.below hu) mg f
 have hA:=sgn_range ng (val xs);have hB:=sgn_range mg (val ys)
 by_cases h0:sgn ng (val xs)=0
 · have hX:=sgn_zero3.1 h0
   have e1:cmpV ng (val xs) e mg (val ys) f=cmpZ (sgn ng (val xs)) (sgn mg (val ys)):=by
    unfold cmpV cmpZ;rw [if_pos hX]
   rw [e1];exact cmp_nought ng mg e f _ _ _ h0 SA SB (hid fun u=>compare_z _ _ u)
 · have h0':(sgn ng (val xs)==0)=false:=by simpa using h0
   by_cases hst:sgn ng (val xs)=sgn mg (val ys)
   · have hX:val xs≠0:=fun h=>h0 (sgn_zero3.2 h)
     have hY:val ys≠0:=fun h=>h0 (by rw [hst];exact sgn_zero3.2 h)
     have hz:=cmpP_range (val xs) e (val ys) f
     have e1:cmpV ng (val xs) e mg (val ys) f=sgn ng (val xs)*cmpP (val xs) e (val ys) f:=by
      unfold cmpV;rw [hst,if_neg (by omega),if_neg (by omega),if_neg hX,←hst]
      unfold sgn;rw [if_neg hX]
      cases ng
      · simp
      · simp only [if_true]
        rw [Int.neg_one_mul,cmpP_neg]
     rw [e1];rw [←hst] at SB;refine cmp_alike ng mg e f (sgn ng (val xs)) (cmpP (val xs) e (val ys) f) h0' (by omega) (by omega) (by omega) (by omega) _ ?_ SA SB (hid fun u hu=>cmpSizes_any (h1.below hu) (h2.below hu) ng mg e f he0 he1 hf0 hf1 hX hY)
     rcases hA with h|h|h <;> rcases hz with k|k|k <;> rw [h,k] <;> rfl
   · have e1:cmpV ng (val xs) e mg (val ys) f=cmpZ (sgn ng (val xs)) (sgn mg (val ys)):=by
      unfold cmpV cmpZ
      by_cases k:sgn ng (val xs)<sgn mg (val ys)
      · rw [if_pos k,if_pos k]
      · rw [if_neg k,if_neg k,if_pos (by omega),if_pos (by omega)]
     rw [e1];exact cmp_apart ng mg e f _ _ _ h0' (by simpa using hst) SA SB (hid fun u=>compare_z _ _ u)
end
end Go.Proofs.YtdimlelcgapobaaGreatDoor
