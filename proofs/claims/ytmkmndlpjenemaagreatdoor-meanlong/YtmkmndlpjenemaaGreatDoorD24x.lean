import Derived.Test.YtmkmndlpjenemaaGreatDoorBW6x
import Derived.Test.YtmkmndlpjenemaaGreatDoorS11ax
import Derived.Test.YtmkmndlpjenemaaGreatDoorBIeeex
import Derived.Test.YtmkmndlpjenemaaGreatDoorM1x
import Ieee.Arith
import Derived.Deep.Cut
import Derived.Deep.RegionWith
import Derived.Deep.RegionHeld3
import Derived.Deep.CutRange
import Derived.Test.YtmkmndlpjenemaaGreatDoorW24x
import Derived.BigQuiet
import Derived.Laws.Bits64
import Derived.Laws.Bits64b
set_option linter.unusedVariables false
set_option linter.unusedSimpArgs false
set_option maxHeartbeats 16000000
set_option maxRecDepth 20000
namespace Go.Proofs.YtmkmndlpjenemaaGreatDoor
namespace J
end J
section
open Go.RowKit
theorem round_begin (w:World) (n:Bool) (v:Value) (e a b c:Int) (W:World) (hW:W=(w.alloc (.cells #[.bool n,v,.int .i64 e] 42)).alloc (.cells #[.int .i64 a,.int .i64 b,.int .i64 c] 155)) :
 Below w.heap.size w W∧W.heap.size=w.heap.size+2∧Dk W w.heap.size n v e∧Wk W (w.heap.size+1) a b c:=by
 subst hW;refine ⟨(below_alloc w _).alloc (by simp) _,by simp,(Dk.new w n v e).alloc _,?_⟩
 unfold Wk;have:=heap_alloc_new (w.alloc (.cells #[.bool n,v,.int .i64 e] 42)) (.cells #[.int .i64 a,.int .i64 b,.int .i64 c] 155);simpa using this
theorem Wk.below {w w':World}{g:Nat}{a b c:Int}(h:Wk w g a b c) (hb:Below w.heap.size w w'):Wk w' g a b c:=by
 unfold Wk;rw [hb.block g (Array.getElem?_eq_some_iff.1 h).1];exact h
theorem round_mode (n:Bool) (a:Option Addr) (l c:Nat) (e mode:Int) (w:World) (hm:mode<0∨4<mode) :
 Calls Tryz.prog 111 #[.agg #[.bool n,.slice a l c,.int .i64 e],.int .i64 mode,.agg #[.int .i64 53,.int .i64 (-1074),.int .i64 1024]] w fun r w'=>r=.returned (.tuple #[.float .f64 0,.int .i64 1])∧Below w.heap.size w w':=by
 have HB:=qsd (show Below w.heap.size w ((w.alloc (.cells #[.bool n,.slice a l c,.int .i64 e] 42)).alloc (.cells #[.int .i64 53,.int .i64 (-1074),.int .i64 1024] 155)) from (below_alloc w _).alloc (by simp) _)
 rcases hm with h|h
 · go_enter Tryz.func111,Tryz.ntmps111
   go_wp2
   go_ret2
   exact ⟨rfl,HB.out⟩
 · have h':decide (mode<0)=false:=decide_eq_false (by omega)
   go_enter Tryz.func111,Tryz.ntmps111;go_wp2
   go_ret2
   exact ⟨rfl,HB.out⟩
theorem round_err {w:World}{a:Option Addr}{l c:Nat}(n:Bool) (e mode:Int) (n1:Bool) (X:Nat) (e1 er:Int) (lX:(ws X).length≤8192) (hm0:0≤mode) (hm4:mode≤4) (her:(er != 0)=true)
 (HF:Hid (∀ u,Below w.heap.size w u→Calls Tryz.prog 74 #[.agg #[.bool n,.slice a l c,.int .i64 e]] u fun r w'=>(∃ v,r=.returned (.tuple #[.agg #[.bool n1,v,.int .i64 e1],.int .i64 er])∧Nt u.heap.size w' v X)∧Below u.heap.size u w')) :
 Calls Tryz.prog 111 #[.agg #[.bool n,.slice a l c,.int .i64 e],.int .i64 mode,.agg #[.int .i64 53,.int .i64 (-1074),.int .i64 1024]] w fun r w'=>r=.returned (.tuple #[.float .f64 0,.int .i64 er])∧Below w.heap.size w w':=by
 obtain ⟨W1,hW1⟩:∃ W,W=(w.alloc (.cells #[.bool n,.slice a l c,.int .i64 e] 42)).alloc (.cells #[.int .i64 53,.int .i64 (-1074),.int .i64 1024] 155):=⟨_,rfl⟩;obtain ⟨hB,hz1,DD,DW⟩:=round_begin w n (.slice a l c) e 53 (-1074) 1024 W1 hW1;have H1:=hid (HF.out W1 hB);have SB:=(qsd (ai hB (ai hz1 DW)));clear hB hz1 DD DW HF;go_enter Tryz.func111,Tryz.ntmps111
 go_wp2_with fail
 rw [←hW1];clear hW1;refine H1.out.mono ?_;rintro r u1 ⟨⟨v,rfl,hN⟩,hb⟩;obtain ⟨a1,c1,rfl,_⟩:=hN.arg (by omega)
 obtain ⟨hB,hz1,DW⟩:=SB.out;have SF:=qsd (hB.trans (hb.mono (by omega)))
 have hz:w.heap.size≤u1.heap.size:=by have:=hb.size;omega
 clear hN hb H1 hB hz1 DW SB;go_wp2
 go_ret2
 exact ⟨rfl,SF.out.alloc hz _⟩
theorem round_none {w:World}{a:Option Addr}{l c:Nat}(n:Bool) (e mode:Int) (n1:Bool) (X:Nat) (e1:Int) (lX:(ws X).length=0) (hm0:0≤mode) (hm4:mode≤4)
 (HF:Hid (∀ u,Below w.heap.size w u→Calls Tryz.prog 74 #[.agg #[.bool n,.slice a l c,.int .i64 e]] u fun r w'=>(∃ v,r=.returned (.tuple #[.agg #[.bool n1,v,.int .i64 e1],.int .i64 0])∧Nt u.heap.size w' v X)∧Below u.heap.size u w')) :
 Calls Tryz.prog 111 #[.agg #[.bool n,.slice a l c,.int .i64 e],.int .i64 mode,.agg #[.int .i64 53,.int .i64 (-1074),.int .i64 1024]] w fun r w'=>r=.returned (.tuple #[.float .f64 0,.int .i64 0])∧Below w.heap.size w w':=by
 obtain ⟨W1,hW1⟩:∃ W,W=(w.alloc (.cells #[.bool n,.slice a l c,.int .i64 e] 42)).alloc (.cells #[.int .i64 53,.int .i64 (-1074),.int .i64 1024] 155):=⟨_,rfl⟩;obtain ⟨hB,hz1,DD,DW⟩:=round_begin w n (.slice a l c) e 53 (-1074) 1024 W1 hW1;have H1:=hid (HF.out W1 hB);have SB:=(qsd (ai hB (ai hz1 DW)));clear hB hz1 DD DW HF;go_enter Tryz.func111,Tryz.ntmps111
 go_wp2_with fail
 rw [←hW1];clear hW1;refine H1.out.mono ?_;rintro r u1 ⟨⟨v,rfl,hN⟩,hb⟩;obtain ⟨a1,c1,rfl,_⟩:=hN.arg (by omega)
 obtain ⟨hB,hz1,DW⟩:=SB.out;have SF:=qsd (hB.trans (hb.mono (by omega)))
 have hz:w.heap.size≤u1.heap.size:=by have:=hb.size;omega
 clear hN hb H1 hB hz1 DW SB;rw [lX];go_wp2
 go_ret2
 exact ⟨rfl,SF.out.alloc hz _⟩
theorem round_tf {w:World}{a:Option Addr}{l c:Nat}(n:Bool) (e mode:Int) (X:Nat) (e1:Int) (lX:(ws X).length≤8192) (hX:((((ws X).length:Nat):Int)==0)=false) (hm0:0≤mode) (hm4:mode≤4)
 (F cw K K2:Nat) (ex mid:Int) (hF:F≤9007199254740991) (ecv:floatOfInt .f64 (F:Int)=cw)
 (HF:Hid (∀ u,Below w.heap.size w u→Calls Tryz.prog 74 #[.agg #[.bool n,.slice a l c,.int .i64 e]] u fun r w'=>(∃ v,r=.returned (.tuple #[.agg #[.bool false,v,.int .i64 e1],.int .i64 0])∧Nt u.heap.size w' v X)∧Below u.heap.size u w'))
 (HP:Hid (∀ (u:World) (p:Option Addr) (q:Nat),Arg u p (ws X).length q (ws X)→Calls Tryz.prog 137 #[.agg #[.bool false,.slice p (ws X).length q,.int .i64 e1],.agg #[.int .i64 53,.int .i64 (-1074),.int .i64 1024]] u fun r w'=>r=.returned (.agg #[.int .u64 (F:Nat),.int .i64 ex,.bool true,.int .i64 mid])∧Below u.heap.size u w'))
 (HD:Hid (∀ u,Calls Tryz.prog 20 #[.float .f64 cw,.int .i64 ex] u fun r w'=>r=.returned (.float .f64 K)∧w'=u)) :
 Calls Tryz.prog 111 #[.agg #[.bool n,.slice a l c,.int .i64 e],.int .i64 mode,.agg #[.int .i64 53,.int .i64 (-1074),.int .i64 1024]] w fun r w'=>r=.returned (.tuple #[.float .f64 K,.int .i64 0])∧Below w.heap.size w w':=by
 obtain ⟨W1,hW1⟩:∃ W,W=(w.alloc (.cells #[.bool n,.slice a l c,.int .i64 e] 42)).alloc (.cells #[.int .i64 53,.int .i64 (-1074),.int .i64 1024] 155):=⟨_,rfl⟩;obtain ⟨hB,hz1,DD,DW⟩:=round_begin w n (.slice a l c) e 53 (-1074) 1024 W1 hW1;have H1:=hid (HF.out W1 hB);have SB:=(qsd (ai hB (ai hz1 DW)));clear hB hz1 DD DW HF;go_enter Tryz.func111,Tryz.ntmps111
 go_wp2_with fail
 rw [←hW1];clear hW1;refine H1.out.mono ?_;rintro r u1 ⟨⟨v,rfl,hN⟩,hb⟩;obtain ⟨a1,c1,rfl,_⟩:=hN.arg (by omega)
 obtain ⟨hB,hz1,DW⟩:=SB.out;obtain ⟨W2,hW2⟩:∃ W,W=u1.alloc (.cells #[.bool false,.slice a1 (ws X).length c1,.int .i64 e1] 42):=⟨_,rfl⟩;have hbW:Below u1.heap.size u1 W2:=by rw [hW2];exact below_alloc u1 _
 have D2:Dk W2 u1.heap.size false (.slice a1 (ws X).length c1) e1:=by rw [hW2];exact Dk.new u1 _ _ _
 have V2:Wk W2 (w.heap.size+1) 53 (-1074) 1024:=(DW.below hb).below hbW;have hB2:Below w.heap.size w W2:=(hB.trans (hb.mono (by omega))).trans (hbW.mono (by have:=hb.size;omega))
 have H2:=hid (HP.out W2 a1 c1 ((hN.below hbW).arg' (by omega)).2)
 obtain ⟨x0,x1,x2,xf0,xf1,xf2⟩:=D2.facts;obtain ⟨y0,y1,y2⟩:=V2.facts;obtain ⟨t0,t1,t2⟩:=(DW.below hb).facts;have hzu:w.heap.size+1<u1.heap.size:=by have:=hb.size;omega
 have hzz:w.heap.size≤u1.heap.size:=by have:=hb.size;omega
 have hz4:u1.heap.size<W2.heap.size:=D2.lt;have S2:=(qsd (ai hB2 D2));clear hN hb H1 hB hz1 DW SB hbW D2 V2 hB2 HP
 go_wp2_with fail
 rw [←hW2];clear hW2;refine H2.out.mono ?_;rintro r u2 ⟨rfl,hb⟩;obtain ⟨W3,hW3⟩:∃ W,W=u2.alloc (.cells #[.int .u64 (F:Nat),.int .i64 ex,.bool true,.int .i64 mid] 173):=⟨_,rfl⟩;have hbW:Below u2.heap.size u2 W3:=by rw [hW3];exact below_alloc u2 _
 have P3:Pk W3 u2.heap.size (F:Nat) ex true mid:=by rw [hW3];exact heap_alloc_new _ _
 have D3:=(S2.out.2.below hb).below hbW;have hB3:Below w.heap.size w W3:=(S2.out.1.trans (hb.mono (by omega))).trans (hbW.mono (by have:=hb.size;omega))
 have hz6:u1.heap.size<u2.heap.size:=by have:=hb.size;omega
 obtain ⟨q0,q1,q2,q3,qf0,qf1,qf2,qf3⟩:=P3.facts;obtain ⟨d0,d1,d2,df0,df1,df2⟩:=D3.facts;have hz5:w.heap.size≤u2.heap.size:=by omega
 have hz7:u2.heap.size<W3.heap.size:=P3.lt;have S3:=(qsd (ai hB3 (ai P3 D3)));clear hb hbW P3 D3 hB3 S2 H2 x0 x1 x2 xf0 xf1 xf2 y0 y1 y2
 go_upto_region 7 with fail
 rw [←hW3];clear hW3
 go_wp2_with fail
 try simp only [ecv]
 refine (Calls.mono (HD.out _)) ?_;rintro r ww ⟨rfl,hw⟩;rw [hw];clear hw ww HD;go_wp2
 go_ret2
 exact ⟨rfl,S3.out.1⟩
theorem round_tt {w:World}{a:Option Addr}{l c:Nat}(n:Bool) (e mode:Int) (X:Nat) (e1:Int) (lX:(ws X).length≤8192) (hX:((((ws X).length:Nat):Int)==0)=false) (hm0:0≤mode) (hm4:mode≤4)
 (F cw K K2:Nat) (ex mid:Int) (hF:F≤9007199254740991) (ecv:floatOfInt .f64 (F:Int)=cw)
 (HF:Hid (∀ u,Below w.heap.size w u→Calls Tryz.prog 74 #[.agg #[.bool n,.slice a l c,.int .i64 e]] u fun r w'=>(∃ v,r=.returned (.tuple #[.agg #[.bool true,v,.int .i64 e1],.int .i64 0])∧Nt u.heap.size w' v X)∧Below u.heap.size u w'))
 (HP:Hid (∀ (u:World) (p:Option Addr) (q:Nat),Arg u p (ws X).length q (ws X)→Calls Tryz.prog 137 #[.agg #[.bool true,.slice p (ws X).length q,.int .i64 e1],.agg #[.int .i64 53,.int .i64 (-1074),.int .i64 1024]] u fun r w'=>r=.returned (.agg #[.int .u64 (F:Nat),.int .i64 ex,.bool true,.int .i64 mid])∧Below u.heap.size u w'))
 (HD:Hid (∀ u,Calls Tryz.prog 20 #[.float .f64 cw,.int .i64 ex] u fun r w'=>r=.returned (.float .f64 K)∧w'=u))
 (HC:Hid (∀ u,Calls Tryz.prog 95 #[.float .f64 K,.float .f64 13830554455654793216] u fun r w'=>r=.returned (.float .f64 K2)∧w'=u)) :
 Calls Tryz.prog 111 #[.agg #[.bool n,.slice a l c,.int .i64 e],.int .i64 mode,.agg #[.int .i64 53,.int .i64 (-1074),.int .i64 1024]] w fun r w'=>r=.returned (.tuple #[.float .f64 K2,.int .i64 0])∧Below w.heap.size w w':=by
 obtain ⟨W1,hW1⟩:∃ W,W=(w.alloc (.cells #[.bool n,.slice a l c,.int .i64 e] 42)).alloc (.cells #[.int .i64 53,.int .i64 (-1074),.int .i64 1024] 155):=⟨_,rfl⟩;obtain ⟨hB,hz1,DD,DW⟩:=round_begin w n (.slice a l c) e 53 (-1074) 1024 W1 hW1;have H1:=hid (HF.out W1 hB);have SB:=(qsd (ai hB (ai hz1 DW)));clear hB hz1 DD DW HF;go_enter Tryz.func111,Tryz.ntmps111
 go_wp2_with fail
 rw [←hW1];clear hW1;refine H1.out.mono ?_;rintro r u1 ⟨⟨v,rfl,hN⟩,hb⟩;obtain ⟨a1,c1,rfl,_⟩:=hN.arg (by omega)
 obtain ⟨hB,hz1,DW⟩:=SB.out;obtain ⟨W2,hW2⟩:∃ W,W=u1.alloc (.cells #[.bool true,.slice a1 (ws X).length c1,.int .i64 e1] 42):=⟨_,rfl⟩;have hbW:Below u1.heap.size u1 W2:=by rw [hW2];exact below_alloc u1 _
 have D2:Dk W2 u1.heap.size true (.slice a1 (ws X).length c1) e1:=by rw [hW2];exact Dk.new u1 _ _ _
 have V2:Wk W2 (w.heap.size+1) 53 (-1074) 1024:=(DW.below hb).below hbW;have hB2:Below w.heap.size w W2:=(hB.trans (hb.mono (by omega))).trans (hbW.mono (by have:=hb.size;omega))
 have H2:=hid (HP.out W2 a1 c1 ((hN.below hbW).arg' (by omega)).2)
 obtain ⟨x0,x1,x2,xf0,xf1,xf2⟩:=D2.facts;obtain ⟨y0,y1,y2⟩:=V2.facts;obtain ⟨t0,t1,t2⟩:=(DW.below hb).facts;have hzu:w.heap.size+1<u1.heap.size:=by have:=hb.size;omega
 have hzz:w.heap.size≤u1.heap.size:=by have:=hb.size;omega
 have hz4:u1.heap.size<W2.heap.size:=D2.lt;have S2:=(qsd (ai hB2 D2));clear hN hb H1 hB hz1 DW SB hbW D2 V2 hB2 HP
 go_wp2_with fail
 rw [←hW2];clear hW2;refine H2.out.mono ?_;rintro r u2 ⟨rfl,hb⟩;obtain ⟨W3,hW3⟩:∃ W,W=u2.alloc (.cells #[.int .u64 (F:Nat),.int .i64 ex,.bool true,.int .i64 mid] 173):=⟨_,rfl⟩;have hbW:Below u2.heap.size u2 W3:=by rw [hW3];exact below_alloc u2 _
 have P3:Pk W3 u2.heap.size (F:Nat) ex true mid:=by rw [hW3];exact heap_alloc_new _ _
 have D3:=(S2.out.2.below hb).below hbW;have hB3:Below w.heap.size w W3:=(S2.out.1.trans (hb.mono (by omega))).trans (hbW.mono (by have:=hb.size;omega))
 have hz6:u1.heap.size<u2.heap.size:=by have:=hb.size;omega
 obtain ⟨q0,q1,q2,q3,qf0,qf1,qf2,qf3⟩:=P3.facts;obtain ⟨d0,d1,d2,df0,df1,df2⟩:=D3.facts;have hz5:w.heap.size≤u2.heap.size:=by omega
 have hz7:u2.heap.size<W3.heap.size:=P3.lt;have S3:=(qsd (ai hB3 (ai P3 D3)));clear hb hbW P3 D3 hB3 S2 H2 x0 x1 x2 xf0 xf1 xf2 y0 y1 y2
 go_upto_region 7 with fail
 rw [←hW3];clear hW3
 go_wp2_with fail
 try simp only [ecv]
 refine (Calls.mono (HD.out _)) ?_;rintro r ww ⟨rfl,hw⟩;rw [hw];clear hw ww HD
 go_wp2_with fail
 refine (Calls.mono (HC.out _)) ?_;rintro r ww ⟨rfl,hw⟩;rw [hw];clear hw ww HC;go_wp2
 go_ret2
 exact ⟨rfl,S3.out.1⟩
theorem round_fff {w:World}{a:Option Addr}{l c:Nat}(n:Bool) (e mode:Int) (X:Nat) (e1:Int) (lX:(ws X).length≤8192) (hX:((((ws X).length:Nat):Int)==0)=false) (hm0:0≤mode) (hm4:mode≤4)
 (F cw K K2:Nat) (ex mid:Int) (hF:F≤9007199254740991) (ecv:floatOfInt .f64 (F:Int)=cw)
 (HF:Hid (∀ u,Below w.heap.size w u→Calls Tryz.prog 74 #[.agg #[.bool n,.slice a l c,.int .i64 e]] u fun r w'=>(∃ v,r=.returned (.tuple #[.agg #[.bool false,v,.int .i64 e1],.int .i64 0])∧Nt u.heap.size w' v X)∧Below u.heap.size u w'))
 (HP:Hid (∀ (u:World) (p:Option Addr) (q:Nat),Arg u p (ws X).length q (ws X)→Calls Tryz.prog 137 #[.agg #[.bool false,.slice p (ws X).length q,.int .i64 e1],.agg #[.int .i64 53,.int .i64 (-1074),.int .i64 1024]] u fun r w'=>r=.returned (.agg #[.int .u64 (F:Nat),.int .i64 ex,.bool false,.int .i64 mid])∧Below u.heap.size u w'))
 (HG:Hid (∀ u,Calls Tryz.prog 138 #[.agg #[.int .u64 (F:Nat),.int .i64 ex,.bool false,.int .i64 mid],.int .i64 mode,.bool false] u fun r w'=>r=.returned (.bool false)∧Below u.heap.size u w'))
 (HD:Hid (∀ u,Calls Tryz.prog 20 #[.float .f64 cw,.int .i64 ex] u fun r w'=>r=.returned (.float .f64 K)∧w'=u)) :
 Calls Tryz.prog 111 #[.agg #[.bool n,.slice a l c,.int .i64 e],.int .i64 mode,.agg #[.int .i64 53,.int .i64 (-1074),.int .i64 1024]] w fun r w'=>r=.returned (.tuple #[.float .f64 K,.int .i64 0])∧Below w.heap.size w w':=by
 obtain ⟨W1,hW1⟩:∃ W,W=(w.alloc (.cells #[.bool n,.slice a l c,.int .i64 e] 42)).alloc (.cells #[.int .i64 53,.int .i64 (-1074),.int .i64 1024] 155):=⟨_,rfl⟩;obtain ⟨hB,hz1,DD,DW⟩:=round_begin w n (.slice a l c) e 53 (-1074) 1024 W1 hW1;have H1:=hid (HF.out W1 hB);have SB:=(qsd (ai hB (ai hz1 DW)));clear hB hz1 DD DW HF;go_enter Tryz.func111,Tryz.ntmps111
 go_wp2_with fail
 rw [←hW1];clear hW1;refine H1.out.mono ?_;rintro r u1 ⟨⟨v,rfl,hN⟩,hb⟩;obtain ⟨a1,c1,rfl,_⟩:=hN.arg (by omega)
 obtain ⟨hB,hz1,DW⟩:=SB.out;obtain ⟨W2,hW2⟩:∃ W,W=u1.alloc (.cells #[.bool false,.slice a1 (ws X).length c1,.int .i64 e1] 42):=⟨_,rfl⟩;have hbW:Below u1.heap.size u1 W2:=by rw [hW2];exact below_alloc u1 _
 have D2:Dk W2 u1.heap.size false (.slice a1 (ws X).length c1) e1:=by rw [hW2];exact Dk.new u1 _ _ _
 have V2:Wk W2 (w.heap.size+1) 53 (-1074) 1024:=(DW.below hb).below hbW;have hB2:Below w.heap.size w W2:=(hB.trans (hb.mono (by omega))).trans (hbW.mono (by have:=hb.size;omega))
 have H2:=hid (HP.out W2 a1 c1 ((hN.below hbW).arg' (by omega)).2)
 obtain ⟨x0,x1,x2,xf0,xf1,xf2⟩:=D2.facts;obtain ⟨y0,y1,y2⟩:=V2.facts;obtain ⟨t0,t1,t2⟩:=(DW.below hb).facts;have hzu:w.heap.size+1<u1.heap.size:=by have:=hb.size;omega
 have hzz:w.heap.size≤u1.heap.size:=by have:=hb.size;omega
 have hz4:u1.heap.size<W2.heap.size:=D2.lt;have S2:=(qsd (ai hB2 D2));clear hN hb H1 hB hz1 DW SB hbW D2 V2 hB2 HP
 go_wp2_with fail
 rw [←hW2];clear hW2;refine H2.out.mono ?_;rintro r u2 ⟨rfl,hb⟩;obtain ⟨W3,hW3⟩:∃ W,W=u2.alloc (.cells #[.int .u64 (F:Nat),.int .i64 ex,.bool false,.int .i64 mid] 173):=⟨_,rfl⟩;have hbW:Below u2.heap.size u2 W3:=by rw [hW3];exact below_alloc u2 _
 have P3:Pk W3 u2.heap.size (F:Nat) ex false mid:=by rw [hW3];exact heap_alloc_new _ _
 have D3:=(S2.out.2.below hb).below hbW;have hB3:Below w.heap.size w W3:=(S2.out.1.trans (hb.mono (by omega))).trans (hbW.mono (by have:=hb.size;omega))
 have hz6:u1.heap.size<u2.heap.size:=by have:=hb.size;omega
 obtain ⟨q0,q1,q2,q3,qf0,qf1,qf2,qf3⟩:=P3.facts;obtain ⟨d0,d1,d2,df0,df1,df2⟩:=D3.facts;have hz5:w.heap.size≤u2.heap.size:=by omega
 have hz7:u2.heap.size<W3.heap.size:=P3.lt;have S3:=(qsd (ai hB3 (ai P3 D3)));clear hb hbW P3 D3 hB3 S2 H2 x0 x1 x2 xf0 xf1 xf2 y0 y1 y2
 go_upto_region 7 with fail
 rw [←hW3];clear hW3
 go_wp2_with fail
 refine (Calls.mono (HG.out _)) ?_;rintro r u3 ⟨rfl,hb⟩;have P4:=S3.out.2.1.below hb;have D4:=S3.out.2.2.below hb;have hB4:Below w.heap.size w u3:=S3.out.1.trans (hb.mono (by omega))
 have hz8:w.heap.size≤u3.heap.size:=by have:=hb.size;omega
 obtain ⟨r0,r1,r2,r3,rf0,rf1,rf2,rf3⟩:=P4.facts;obtain ⟨s0,s1,s2,sf0,sf1,sf2⟩:=D4.facts;have S4:=qsd hB4;clear hb P4 D4 hB4 S3 HG q0 q1 q2 q3 qf0 qf1 qf2 qf3 d0 d1 d2 df0 df1 df2
 go_wp2_with fail
 try simp only [ecv]
 refine (Calls.mono (HD.out _)) ?_;rintro r ww ⟨rfl,hw⟩;rw [hw];clear hw ww HD;go_wp2
 go_ret2
 exact ⟨rfl,S4.out⟩
theorem round_fft {w:World}{a:Option Addr}{l c:Nat}(n:Bool) (e mode:Int) (X:Nat) (e1:Int) (lX:(ws X).length≤8192) (hX:((((ws X).length:Nat):Int)==0)=false) (hm0:0≤mode) (hm4:mode≤4)
 (F cw K K2:Nat) (ex mid:Int) (hF:F≤9007199254740991) (ecv:floatOfInt .f64 (F:Int)=cw)
 (HF:Hid (∀ u,Below w.heap.size w u→Calls Tryz.prog 74 #[.agg #[.bool n,.slice a l c,.int .i64 e]] u fun r w'=>(∃ v,r=.returned (.tuple #[.agg #[.bool true,v,.int .i64 e1],.int .i64 0])∧Nt u.heap.size w' v X)∧Below u.heap.size u w'))
 (HP:Hid (∀ (u:World) (p:Option Addr) (q:Nat),Arg u p (ws X).length q (ws X)→Calls Tryz.prog 137 #[.agg #[.bool true,.slice p (ws X).length q,.int .i64 e1],.agg #[.int .i64 53,.int .i64 (-1074),.int .i64 1024]] u fun r w'=>r=.returned (.agg #[.int .u64 (F:Nat),.int .i64 ex,.bool false,.int .i64 mid])∧Below u.heap.size u w'))
 (HG:Hid (∀ u,Calls Tryz.prog 138 #[.agg #[.int .u64 (F:Nat),.int .i64 ex,.bool false,.int .i64 mid],.int .i64 mode,.bool true] u fun r w'=>r=.returned (.bool false)∧Below u.heap.size u w'))
 (HD:Hid (∀ u,Calls Tryz.prog 20 #[.float .f64 cw,.int .i64 ex] u fun r w'=>r=.returned (.float .f64 K)∧w'=u))
 (HC:Hid (∀ u,Calls Tryz.prog 95 #[.float .f64 K,.float .f64 13830554455654793216] u fun r w'=>r=.returned (.float .f64 K2)∧w'=u)) :
 Calls Tryz.prog 111 #[.agg #[.bool n,.slice a l c,.int .i64 e],.int .i64 mode,.agg #[.int .i64 53,.int .i64 (-1074),.int .i64 1024]] w fun r w'=>r=.returned (.tuple #[.float .f64 K2,.int .i64 0])∧Below w.heap.size w w':=by
 obtain ⟨W1,hW1⟩:∃ W,W=(w.alloc (.cells #[.bool n,.slice a l c,.int .i64 e] 42)).alloc (.cells #[.int .i64 53,.int .i64 (-1074),.int .i64 1024] 155):=⟨_,rfl⟩;obtain ⟨hB,hz1,DD,DW⟩:=round_begin w n (.slice a l c) e 53 (-1074) 1024 W1 hW1;have H1:=hid (HF.out W1 hB);have SB:=(qsd (ai hB (ai hz1 DW)));clear hB hz1 DD DW HF;go_enter Tryz.func111,Tryz.ntmps111
 go_wp2_with fail
 rw [←hW1];clear hW1;refine H1.out.mono ?_;rintro r u1 ⟨⟨v,rfl,hN⟩,hb⟩;obtain ⟨a1,c1,rfl,_⟩:=hN.arg (by omega)
 obtain ⟨hB,hz1,DW⟩:=SB.out;obtain ⟨W2,hW2⟩:∃ W,W=u1.alloc (.cells #[.bool true,.slice a1 (ws X).length c1,.int .i64 e1] 42):=⟨_,rfl⟩;have hbW:Below u1.heap.size u1 W2:=by rw [hW2];exact below_alloc u1 _
 have D2:Dk W2 u1.heap.size true (.slice a1 (ws X).length c1) e1:=by rw [hW2];exact Dk.new u1 _ _ _
 have V2:Wk W2 (w.heap.size+1) 53 (-1074) 1024:=(DW.below hb).below hbW;have hB2:Below w.heap.size w W2:=(hB.trans (hb.mono (by omega))).trans (hbW.mono (by have:=hb.size;omega))
 have H2:=hid (HP.out W2 a1 c1 ((hN.below hbW).arg' (by omega)).2)
 obtain ⟨x0,x1,x2,xf0,xf1,xf2⟩:=D2.facts;obtain ⟨y0,y1,y2⟩:=V2.facts;obtain ⟨t0,t1,t2⟩:=(DW.below hb).facts;have hzu:w.heap.size+1<u1.heap.size:=by have:=hb.size;omega
 have hzz:w.heap.size≤u1.heap.size:=by have:=hb.size;omega
 have hz4:u1.heap.size<W2.heap.size:=D2.lt;have S2:=(qsd (ai hB2 D2));clear hN hb H1 hB hz1 DW SB hbW D2 V2 hB2 HP
 go_wp2_with fail
 rw [←hW2];clear hW2;refine H2.out.mono ?_;rintro r u2 ⟨rfl,hb⟩;obtain ⟨W3,hW3⟩:∃ W,W=u2.alloc (.cells #[.int .u64 (F:Nat),.int .i64 ex,.bool false,.int .i64 mid] 173):=⟨_,rfl⟩;have hbW:Below u2.heap.size u2 W3:=by rw [hW3];exact below_alloc u2 _
 have P3:Pk W3 u2.heap.size (F:Nat) ex false mid:=by rw [hW3];exact heap_alloc_new _ _
 have D3:=(S2.out.2.below hb).below hbW;have hB3:Below w.heap.size w W3:=(S2.out.1.trans (hb.mono (by omega))).trans (hbW.mono (by have:=hb.size;omega))
 have hz6:u1.heap.size<u2.heap.size:=by have:=hb.size;omega
 obtain ⟨q0,q1,q2,q3,qf0,qf1,qf2,qf3⟩:=P3.facts;obtain ⟨d0,d1,d2,df0,df1,df2⟩:=D3.facts;have hz5:w.heap.size≤u2.heap.size:=by omega
 have hz7:u2.heap.size<W3.heap.size:=P3.lt;have S3:=(qsd (ai hB3 (ai P3 D3)));clear hb hbW P3 D3 hB3 S2 H2 x0 x1 x2 xf0 xf1 xf2 y0 y1 y2
 go_upto_region 7 with fail
 rw [←hW3];clear hW3
 go_wp2_with fail
 refine (Calls.mono (HG.out _)) ?_;rintro r u3 ⟨rfl,hb⟩;have P4:=S3.out.2.1.below hb;have D4:=S3.out.2.2.below hb;have hB4:Below w.heap.size w u3:=S3.out.1.trans (hb.mono (by omega))
 have hz8:w.heap.size≤u3.heap.size:=by have:=hb.size;omega
 obtain ⟨r0,r1,r2,r3,rf0,rf1,rf2,rf3⟩:=P4.facts;obtain ⟨s0,s1,s2,sf0,sf1,sf2⟩:=D4.facts;have S4:=qsd hB4;clear hb P4 D4 hB4 S3 HG q0 q1 q2 q3 qf0 qf1 qf2 qf3 d0 d1 d2 df0 df1 df2
 go_wp2_with fail
 try simp only [ecv]
 refine (Calls.mono (HD.out _)) ?_;rintro r ww ⟨rfl,hw⟩;rw [hw];clear hw ww HD
 go_wp2_with fail
 refine (Calls.mono (HC.out _)) ?_;rintro r ww ⟨rfl,hw⟩;rw [hw];clear hw ww HC;go_wp2
 go_ret2
 exact ⟨rfl,S4.out⟩
theorem round_ftf {w:World}{a:Option Addr}{l c:Nat}(n:Bool) (e mode:Int) (X:Nat) (e1:Int) (lX:(ws X).length≤8192) (hX:((((ws X).length:Nat):Int)==0)=false) (hm0:0≤mode) (hm4:mode≤4)
 (F cw K K2:Nat) (ex mid:Int) (hF:F≤9007199254740991) (ecv:floatOfInt .f64 ((F:Int)+1)=cw)
 (HF:Hid (∀ u,Below w.heap.size w u→Calls Tryz.prog 74 #[.agg #[.bool n,.slice a l c,.int .i64 e]] u fun r w'=>(∃ v,r=.returned (.tuple #[.agg #[.bool false,v,.int .i64 e1],.int .i64 0])∧Nt u.heap.size w' v X)∧Below u.heap.size u w'))
 (HP:Hid (∀ (u:World) (p:Option Addr) (q:Nat),Arg u p (ws X).length q (ws X)→Calls Tryz.prog 137 #[.agg #[.bool false,.slice p (ws X).length q,.int .i64 e1],.agg #[.int .i64 53,.int .i64 (-1074),.int .i64 1024]] u fun r w'=>r=.returned (.agg #[.int .u64 (F:Nat),.int .i64 ex,.bool false,.int .i64 mid])∧Below u.heap.size u w'))
 (HG:Hid (∀ u,Calls Tryz.prog 138 #[.agg #[.int .u64 (F:Nat),.int .i64 ex,.bool false,.int .i64 mid],.int .i64 mode,.bool false] u fun r w'=>r=.returned (.bool true)∧Below u.heap.size u w'))
 (HD:Hid (∀ u,Calls Tryz.prog 20 #[.float .f64 cw,.int .i64 ex] u fun r w'=>r=.returned (.float .f64 K)∧w'=u)) :
 Calls Tryz.prog 111 #[.agg #[.bool n,.slice a l c,.int .i64 e],.int .i64 mode,.agg #[.int .i64 53,.int .i64 (-1074),.int .i64 1024]] w fun r w'=>r=.returned (.tuple #[.float .f64 K,.int .i64 0])∧Below w.heap.size w w':=by
 obtain ⟨W1,hW1⟩:∃ W,W=(w.alloc (.cells #[.bool n,.slice a l c,.int .i64 e] 42)).alloc (.cells #[.int .i64 53,.int .i64 (-1074),.int .i64 1024] 155):=⟨_,rfl⟩;obtain ⟨hB,hz1,DD,DW⟩:=round_begin w n (.slice a l c) e 53 (-1074) 1024 W1 hW1;have H1:=hid (HF.out W1 hB);have SB:=(qsd (ai hB (ai hz1 DW)));clear hB hz1 DD DW HF;go_enter Tryz.func111,Tryz.ntmps111
 go_wp2_with fail
 rw [←hW1];clear hW1;refine H1.out.mono ?_;rintro r u1 ⟨⟨v,rfl,hN⟩,hb⟩;obtain ⟨a1,c1,rfl,_⟩:=hN.arg (by omega)
 obtain ⟨hB,hz1,DW⟩:=SB.out;obtain ⟨W2,hW2⟩:∃ W,W=u1.alloc (.cells #[.bool false,.slice a1 (ws X).length c1,.int .i64 e1] 42):=⟨_,rfl⟩;have hbW:Below u1.heap.size u1 W2:=by rw [hW2];exact below_alloc u1 _
 have D2:Dk W2 u1.heap.size false (.slice a1 (ws X).length c1) e1:=by rw [hW2];exact Dk.new u1 _ _ _
 have V2:Wk W2 (w.heap.size+1) 53 (-1074) 1024:=(DW.below hb).below hbW;have hB2:Below w.heap.size w W2:=(hB.trans (hb.mono (by omega))).trans (hbW.mono (by have:=hb.size;omega))
 have H2:=hid (HP.out W2 a1 c1 ((hN.below hbW).arg' (by omega)).2)
 obtain ⟨x0,x1,x2,xf0,xf1,xf2⟩:=D2.facts;obtain ⟨y0,y1,y2⟩:=V2.facts;obtain ⟨t0,t1,t2⟩:=(DW.below hb).facts;have hzu:w.heap.size+1<u1.heap.size:=by have:=hb.size;omega
 have hzz:w.heap.size≤u1.heap.size:=by have:=hb.size;omega
 have hz4:u1.heap.size<W2.heap.size:=D2.lt;have S2:=(qsd (ai hB2 D2));clear hN hb H1 hB hz1 DW SB hbW D2 V2 hB2 HP
 go_wp2_with fail
 rw [←hW2];clear hW2;refine H2.out.mono ?_;rintro r u2 ⟨rfl,hb⟩;obtain ⟨W3,hW3⟩:∃ W,W=u2.alloc (.cells #[.int .u64 (F:Nat),.int .i64 ex,.bool false,.int .i64 mid] 173):=⟨_,rfl⟩;have hbW:Below u2.heap.size u2 W3:=by rw [hW3];exact below_alloc u2 _
 have P3:Pk W3 u2.heap.size (F:Nat) ex false mid:=by rw [hW3];exact heap_alloc_new _ _
 have D3:=(S2.out.2.below hb).below hbW;have hB3:Below w.heap.size w W3:=(S2.out.1.trans (hb.mono (by omega))).trans (hbW.mono (by have:=hb.size;omega))
 have hz6:u1.heap.size<u2.heap.size:=by have:=hb.size;omega
 obtain ⟨q0,q1,q2,q3,qf0,qf1,qf2,qf3⟩:=P3.facts;obtain ⟨d0,d1,d2,df0,df1,df2⟩:=D3.facts;have hz5:w.heap.size≤u2.heap.size:=by omega
 have hz7:u2.heap.size<W3.heap.size:=P3.lt;have S3:=(qsd (ai hB3 (ai P3 D3)));clear hb hbW P3 D3 hB3 S2 H2 x0 x1 x2 xf0 xf1 xf2 y0 y1 y2
 go_upto_region 7 with fail
 rw [←hW3];clear hW3
 go_wp2_with fail
 refine (Calls.mono (HG.out _)) ?_;rintro r u3 ⟨rfl,hb⟩;have P4:=S3.out.2.1.below hb;have D4:=S3.out.2.2.below hb;have hB4:Below w.heap.size w u3:=S3.out.1.trans (hb.mono (by omega))
 have hz8:w.heap.size≤u3.heap.size:=by have:=hb.size;omega
 obtain ⟨r0,r1,r2,r3,rf0,rf1,rf2,rf3⟩:=P4.facts;obtain ⟨s0,s1,s2,sf0,sf1,sf2⟩:=D4.facts;have S4:=qsd hB4;clear hb P4 D4 hB4 S3 HG q0 q1 q2 q3 qf0 qf1 qf2 qf3 d0 d1 d2 df0 df1 df2
 go_wp2_with fail
 try simp only [ecv]
 refine (Calls.mono (HD.out _)) ?_;rintro r ww ⟨rfl,hw⟩;rw [hw];clear hw ww HD;go_wp2
 go_ret2
 exact ⟨rfl,Below.setC S4.out _ _ _ hz5 hz8⟩
theorem round_ftt {w:World}{a:Option Addr}{l c:Nat}(n:Bool) (e mode:Int) (X:Nat) (e1:Int) (lX:(ws X).length≤8192) (hX:((((ws X).length:Nat):Int)==0)=false) (hm0:0≤mode) (hm4:mode≤4)
 (F cw K K2:Nat) (ex mid:Int) (hF:F≤9007199254740991) (ecv:floatOfInt .f64 ((F:Int)+1)=cw)
 (HF:Hid (∀ u,Below w.heap.size w u→Calls Tryz.prog 74 #[.agg #[.bool n,.slice a l c,.int .i64 e]] u fun r w'=>(∃ v,r=.returned (.tuple #[.agg #[.bool true,v,.int .i64 e1],.int .i64 0])∧Nt u.heap.size w' v X)∧Below u.heap.size u w'))
 (HP:Hid (∀ (u:World) (p:Option Addr) (q:Nat),Arg u p (ws X).length q (ws X)→Calls Tryz.prog 137 #[.agg #[.bool true,.slice p (ws X).length q,.int .i64 e1],.agg #[.int .i64 53,.int .i64 (-1074),.int .i64 1024]] u fun r w'=>r=.returned (.agg #[.int .u64 (F:Nat),.int .i64 ex,.bool false,.int .i64 mid])∧Below u.heap.size u w'))
 (HG:Hid (∀ u,Calls Tryz.prog 138 #[.agg #[.int .u64 (F:Nat),.int .i64 ex,.bool false,.int .i64 mid],.int .i64 mode,.bool true] u fun r w'=>r=.returned (.bool true)∧Below u.heap.size u w'))
 (HD:Hid (∀ u,Calls Tryz.prog 20 #[.float .f64 cw,.int .i64 ex] u fun r w'=>r=.returned (.float .f64 K)∧w'=u))
 (HC:Hid (∀ u,Calls Tryz.prog 95 #[.float .f64 K,.float .f64 13830554455654793216] u fun r w'=>r=.returned (.float .f64 K2)∧w'=u)) :
 Calls Tryz.prog 111 #[.agg #[.bool n,.slice a l c,.int .i64 e],.int .i64 mode,.agg #[.int .i64 53,.int .i64 (-1074),.int .i64 1024]] w fun r w'=>r=.returned (.tuple #[.float .f64 K2,.int .i64 0])∧Below w.heap.size w w':=by
 obtain ⟨W1,hW1⟩:∃ W,W=(w.alloc (.cells #[.bool n,.slice a l c,.int .i64 e] 42)).alloc (.cells #[.int .i64 53,.int .i64 (-1074),.int .i64 1024] 155):=⟨_,rfl⟩;obtain ⟨hB,hz1,DD,DW⟩:=round_begin w n (.slice a l c) e 53 (-1074) 1024 W1 hW1;have H1:=hid (HF.out W1 hB);have SB:=(qsd (ai hB (ai hz1 DW)));clear hB hz1 DD DW HF;go_enter Tryz.func111,Tryz.ntmps111
 go_wp2_with fail
 rw [←hW1];clear hW1;refine H1.out.mono ?_;rintro r u1 ⟨⟨v,rfl,hN⟩,hb⟩;obtain ⟨a1,c1,rfl,_⟩:=hN.arg (by omega)
 obtain ⟨hB,hz1,DW⟩:=SB.out;obtain ⟨W2,hW2⟩:∃ W,W=u1.alloc (.cells #[.bool true,.slice a1 (ws X).length c1,.int .i64 e1] 42):=⟨_,rfl⟩;have hbW:Below u1.heap.size u1 W2:=by rw [hW2];exact below_alloc u1 _
 have D2:Dk W2 u1.heap.size true (.slice a1 (ws X).length c1) e1:=by rw [hW2];exact Dk.new u1 _ _ _
 have V2:Wk W2 (w.heap.size+1) 53 (-1074) 1024:=(DW.below hb).below hbW;have hB2:Below w.heap.size w W2:=(hB.trans (hb.mono (by omega))).trans (hbW.mono (by have:=hb.size;omega))
 have H2:=hid (HP.out W2 a1 c1 ((hN.below hbW).arg' (by omega)).2)
 obtain ⟨x0,x1,x2,xf0,xf1,xf2⟩:=D2.facts;obtain ⟨y0,y1,y2⟩:=V2.facts;obtain ⟨t0,t1,t2⟩:=(DW.below hb).facts;have hzu:w.heap.size+1<u1.heap.size:=by have:=hb.size;omega
 have hzz:w.heap.size≤u1.heap.size:=by have:=hb.size;omega
 have hz4:u1.heap.size<W2.heap.size:=D2.lt;have S2:=(qsd (ai hB2 D2));clear hN hb H1 hB hz1 DW SB hbW D2 V2 hB2 HP
 go_wp2_with fail
 rw [←hW2];clear hW2;refine H2.out.mono ?_;rintro r u2 ⟨rfl,hb⟩;obtain ⟨W3,hW3⟩:∃ W,W=u2.alloc (.cells #[.int .u64 (F:Nat),.int .i64 ex,.bool false,.int .i64 mid] 173):=⟨_,rfl⟩;have hbW:Below u2.heap.size u2 W3:=by rw [hW3];exact below_alloc u2 _
 have P3:Pk W3 u2.heap.size (F:Nat) ex false mid:=by rw [hW3];exact heap_alloc_new _ _
 have D3:=(S2.out.2.below hb).below hbW;have hB3:Below w.heap.size w W3:=(S2.out.1.trans (hb.mono (by omega))).trans (hbW.mono (by have:=hb.size;omega))
 have hz6:u1.heap.size<u2.heap.size:=by have:=hb.size;omega
 obtain ⟨q0,q1,q2,q3,qf0,qf1,qf2,qf3⟩:=P3.facts;obtain ⟨d0,d1,d2,df0,df1,df2⟩:=D3.facts;have hz5:w.heap.size≤u2.heap.size:=by omega
 have hz7:u2.heap.size<W3.heap.size:=P3.lt;have S3:=(qsd (ai hB3 (ai P3 D3)));clear hb hbW P3 D3 hB3 S2 H2 x0 x1 x2 xf0 xf1 xf2 y0 y1 y2
 go_upto_region 7 with fail
 rw [←hW3];clear hW3
 go_wp2_with fail
 refine (Calls.mono (HG.out _)) ?_;rintro r u3 ⟨rfl,hb⟩;have P4:=S3.out.2.1.below hb;have D4:=S3.out.2.2.below hb;have hB4:Below w.heap.size w u3:=S3.out.1.trans (hb.mono (by omega))
 have hz8:w.heap.size≤u3.heap.size:=by have:=hb.size;omega
 obtain ⟨r0,r1,r2,r3,rf0,rf1,rf2,rf3⟩:=P4.facts;obtain ⟨s0,s1,s2,sf0,sf1,sf2⟩:=D4.facts;have S4:=qsd hB4;clear hb P4 D4 hB4 S3 HG q0 q1 q2 q3 qf0 qf1 qf2 qf3 d0 d1 d2 df0 df1 df2
 go_wp2_with fail
 try simp only [ecv]
 refine (Calls.mono (HD.out _)) ?_;rintro r ww ⟨rfl,hw⟩;rw [hw];clear hw ww HD
 go_wp2_with fail
 refine (Calls.mono (HC.out _)) ?_;rintro r ww ⟨rfl,hw⟩;rw [hw];clear hw ww HC;go_wp2
 go_ret2
 exact ⟨rfl,Below.setC S4.out _ _ _ hz5 hz8⟩
end
section
open Go.RowKit
def rndK (mode:Int) (n:Bool) (X:Nat) (e:Int):Nat :=
 let p:=plc 53 (-1074) 1024 X e
 (p.2.1+1074).toNat*4503599627370496+(if p.2.2.1 then p.1 else if outS mode p.1 p.2.2.2 n then p.1+1 else p.1)
def rndS (o:Option (Bool×Nat×Int)) (mode:Int):Nat×Int :=
 if mode<0∨4<mode then (0,1)
 else match o with
  | none=>(0,2)
  | some (n,X,e)=>if X=0 then (0,0) else (rndK mode n X e+(if n then 9223372036854775808 else 0),0)
theorem plc_mid (X:Nat) (e:Int):(plc 53 (-1074) 1024 X e).2.2.2=-1∨(plc 53 (-1074) 1024 X e).2.2.2=0∨(plc 53 (-1074) 1024 X e).2.2.2=1:=by
 unfold plc
 split
 · simp
 · simp only
   split
   · simp
   · simp only
     split
     · simp
     · split <;> simp
theorem ldexp_word (F:Nat) (ex:Int) (hF:F≤9007199254740992) (h0:-1074≤ex) (h1:ex≤971) (hn:ex=-1074∨4503599627370496≤F) :
 ∃ cw,floatOfInt .f64 (F:Int)=cw∧∀ u,Calls Tryz.prog 20 #[.float .f64 cw,.int .i64 ex] u fun r w'=>r=.returned (.float .f64 ((ex+1074).toNat*4503599627370496+F))∧w'=u:=by
 by_cases hz:F=0
 · subst hz
   obtain rfl:ex=-1074:=by omega
   exact ⟨0,by decide,fun u=>B.Ldexp_nought _ u⟩
 · obtain ⟨e,g,hw⟩:=B.whole_of F (by omega) hF
   exact ⟨_,B.ofInt_whole F e g hw,fun u=>B.Ldexp_any F e g ex u hw (by omega) hF h0 h1 hn⟩
theorem copy_word (K:Nat) (hK:K≤9218868437227405312) (u:World):Calls Tryz.prog 95 #[.float .f64 K,.float .f64 13830554455654793216] u fun r w'=>r=.returned (.float .f64 (K+9223372036854775808))∧w'=u:=by
 have h:=B.copysign_neg (K/4503599627370496) (K%4503599627370496) (by omega) (by omega) u
 have e1:B.bw false (K/4503599627370496) (K%4503599627370496)=K:=by unfold B.bw;simp;omega
 have e2:B.bw true (K/4503599627370496) (K%4503599627370496)=K+9223372036854775808:=by unfold B.bw;simp;omega
 rw [e1,e2] at h;exact h
theorem round_any {w:World}{a:Option Addr}{l c:Nat}{xs:List Nat}(hA:Arg w a l c xs) (hT:Tab w) (n:Bool) (e mode:Int) (he0:-9223372036854775808≤e) (he1:e≤9223372036854775807) :
 Calls Tryz.prog 111 #[.agg #[.bool n,.slice a l c,.int .i64 e],.int .i64 mode,.agg #[.int .i64 53,.int .i64 (-1074),.int .i64 1024]] w fun r w'=>r=.returned (.tuple #[.float .f64 (rndS (mkS n (val xs) e) mode).1,.int .i64 (rndS (mkS n (val xs) e) mode).2])∧Below w.heap.size w w':=by
 unfold rndS
 by_cases hm:mode<0∨4<mode
 · rw [if_pos hm];exact round_mode n a l c e mode w hm
 · rw [if_neg hm]
   have HF:Hid (∀ u,Below w.heap.size w u→Calls Tryz.prog 74 #[.agg #[.bool n,.slice a l c,.int .i64 e]] u fun r w'=>DAns u.heap.size w' r (mkS n (val xs) e)∧Below u.heap.size u w'):=fun u hu=>form_any (hA.below hu) (hT.belows hu) n e he0 he1
   cases ho:mkS n (val xs) e with
   | none =>
     rw [ho] at HF;exact round_err n e mode false 0 0 2 (by rw [ws_zero];simp) (by omega) (by omega) rfl HF
   | some d =>
     obtain ⟨n1,X,e1⟩:=d;rw [ho] at HF;have FX:=mkS_frm ho;simp only
     by_cases hX:X=0
     · rw [if_pos hX]
       exact round_none n e mode n1 X e1 ((ws_len_zero X).2 hX) (by omega) (by omega) HF
     · rw [if_neg hX]
       have pf:=plc_facts X e1 hX FX.down FX.up;have pm:=plc_mid X e1;have HP:∀ (u:World) (p:Option Addr) (q:Nat),Arg u p (ws X).length q (ws X)→Calls Tryz.prog 137 #[.agg #[.bool n1,.slice p (ws X).length q,.int .i64 e1],.agg #[.int .i64 53,.int .i64 (-1074),.int .i64 1024]] u fun r w'=>r=.returned (.agg #[.int .u64 ((plc 53 (-1074) 1024 X e1).1:Nat),.int .i64 (plc 53 (-1074) 1024 X e1).2.1,.bool (plc 53 (-1074) 1024 X e1).2.2.1,.int .i64 (plc 53 (-1074) 1024 X e1).2.2.2])∧Below u.heap.size u w':=fun u p q hA=>placed_any hA n1 e1 FX.down FX.up hX FX.size
       unfold rndK;simp only;generalize plc 53 (-1074) 1024 X e1=P at pf pm HP ⊢;obtain ⟨F,ex,t,mid⟩:=P;simp only at pf pm HP ⊢;obtain ⟨p1,p2,p3,p4⟩:=pf;have HG:∀ u,Calls Tryz.prog 138 #[.agg #[.int .u64 (F:Nat),.int .i64 ex,.bool false,.int .i64 mid],.int .i64 mode,.bool n1] u fun r w'=>r=.returned (.bool (outS mode F mid n1))∧Below u.heap.size u w':=fun u=>goesOut_any F ex false mid mode n1 u (by omega) pm (by omega) (by omega)
       have lX:=frm_len FX
       cases t with
       | true =>
         simp only [if_true];obtain ⟨cw,ecv,HD⟩:=ldexp_word F ex (by omega) p2 p3 p4
         cases n1 with
         | false =>
           simp only [Bool.false_eq_true,if_false,Nat.add_zero];exact round_tf n e mode X e1 lX (len_ne hX) (by omega) (by omega) F cw _ 0 ex mid p1 ecv HF (hid HP) (hid HD)
         | true =>
           simp only [if_true];exact round_tt n e mode X e1 lX (len_ne hX) (by omega) (by omega) F cw _ _ ex mid p1 ecv HF (hid HP) (hid HD) (hid fun u=>copy_word _ (by omega) u)
       | false =>
         simp only [Bool.false_eq_true,if_false]
         cases hob:outS mode F mid n1 with
         | false =>
           rw [hob] at HG;simp only [Bool.false_eq_true,if_false];obtain ⟨cw,ecv,HD⟩:=ldexp_word F ex (by omega) p2 p3 p4
           cases n1 with
           | false =>
             simp only [Bool.false_eq_true,if_false,Nat.add_zero];exact round_fff n e mode X e1 lX (len_ne hX) (by omega) (by omega) F cw _ 0 ex mid p1 ecv HF (hid HP) (hid HG) (hid HD)
           | true =>
             simp only [if_true];exact round_fft n e mode X e1 lX (len_ne hX) (by omega) (by omega) F cw _ _ ex mid p1 ecv HF (hid HP) (hid HG) (hid HD) (hid fun u=>copy_word _ (by omega) u)
         | true =>
           rw [hob] at HG;simp only [if_true];obtain ⟨cw,ecv,HD⟩:=ldexp_word (F+1) ex (by omega) p2 p3 (by omega)
           cases n1 with
           | false =>
             simp only [Bool.false_eq_true,if_false,Nat.add_zero];exact round_ftf n e mode X e1 lX (len_ne hX) (by omega) (by omega) F cw _ 0 ex mid p1 (by simpa using ecv) HF (hid HP) (hid HG) (hid HD)
           | true =>
             simp only [if_true];exact round_ftt n e mode X e1 lX (len_ne hX) (by omega) (by omega) F cw _ _ ex mid p1 (by simpa using ecv) HF (hid HP) (hid HG) (hid HD) (hid fun u=>copy_word _ (by omega) u)
theorem Round_any {w:World}{a:Option Addr}{l c:Nat}{xs:List Nat}(hA:Arg w a l c xs) (hT:Tab w) (n:Bool) (e mode:Int) (he0:-9223372036854775808≤e) (he1:e≤9223372036854775807) :
 Calls Tryz.prog 78 #[.agg #[.bool n,.slice a l c,.int .i64 e],.int .i64 mode] w fun r w'=>r=.returned (.tuple #[.float .f64 (rndS (mkS n (val xs) e) mode).1,.int .i64 (rndS (mkS n (val xs) e) mode).2])∧Below w.heap.size w w':=by
 have hb0:=below_alloc w (.cells #[.bool n,.slice a l c,.int .i64 e] 42);have H:=hid (round_any (hA.below hb0) (hT.belows hb0) n e mode he0 he1);have S0:=qsd hb0;obtain ⟨⟨K,er⟩,hK⟩:∃ K,rndS (mkS n (val xs) e) mode=K:=⟨_,rfl⟩;rw [hK] at H ⊢;simp only at H ⊢;clear hA hT hb0 hK;go_enter Tryz.func78,Tryz.ntmps78
 go_wp2_with fail
 refine H.out.mono ?_;rintro r u1 ⟨rfl,hb⟩;have S1:=qsd hb;clear hb;go_wp2
 go_ret2
 exact ⟨rfl,S0.out.trans (S1.out.mono (by simp))⟩
end
section
open Go.RowKit
theorem Tryz.zero_acc:Tryz.zeroCells80=((List.replicate 133 0).map U++Sp.cells ⟨0,0,0,0,0,0⟩).toArray:=by kernel_rfl
theorem zero_acc7 {w:World}{g:Nat}(h:Bl w g 80 ((List.replicate 133 0).map U++Sp.cells ⟨0,0,0,0,0,0⟩)):Acc7 w g 0 ⟨0,0,0,0,0,0⟩ :=
 ⟨List.replicate 133 0,by simp,Wf.zeros 133,by rw [val_zeros];simp,by have:=HB_pos;omega,by have:=HB_pos;omega,h⟩
theorem New7 (w:World):Calls Tryz.prog 12 #[] w fun r w'=>r=.returned (.pointer (some ⟨w.heap.size,0,none⟩))∧Acc7 w' w.heap.size 0 ⟨0,0,0,0,0,0⟩∧Below w.heap.size w w':=by
 go_enter Tryz.func12,Tryz.ntmps12;go_wp2;go_ret;refine ⟨rfl,?_,bel_alloc _ _⟩;rw [Tryz.zero_acc];exact zero_acc7 (Bl.new _ _ _)
end
section
open Go.RowKit
def QB:Nat:=HB/4398046511104
theorem QB_HB:HB=4398046511104*QB:=by
 obtain ⟨k,hk⟩:∃ k,k=4238:=⟨_,rfl⟩;obtain ⟨j,hj⟩:∃ j,j=4196:=⟨_,rfl⟩;unfold QB;rw [HB_two k hk,show k=42+j by omega,Nat.pow_add]
 have e:(2:Nat)^42=4398046511104:=by decide
 rw [e,Nat.mul_div_cancel_left _ (by decide)]
theorem QB_pos:0<QB:=by have:=QB_HB;have:=HB_pos;omega
theorem pT_small (x y:Nat) (hx:x<18446744073709551616) (hy:y<18446744073709551616):-(QB:Int)≤pT x y∧pT x y≤(QB:Int):=by
 have hp:=QB_pos
 have e2:∃ j,j=4196∧QB=2^j:=by
  obtain ⟨k,hk⟩:∃ k,k=4238:=⟨_,rfl⟩;obtain ⟨j,hj⟩:∃ j,j=4196:=⟨_,rfl⟩;refine ⟨j,hj,?_⟩;unfold QB;rw [HB_two k hk,show k=42+j by omega,Nat.pow_add]
  have e:(2:Nat)^42=4398046511104:=by decide
  rw [e,Nat.mul_div_cancel_left _ (by decide)]
 obtain ⟨j,hj,hq⟩:=e2;unfold pT pv7
 split
 · have f1:=fr_bound (eW x) (fW x) (bw_parts x hx).2.2
   have f2:=fr_bound (eW y) (fW y) (bw_parts y hy).2.2;have x1:=xp_bound (eW x) (bw_parts x hx).2.1;have x2:=xp_bound (eW y) (bw_parts y hy).2.1
   have h1:frW x*frW y<2^106:=by
    have:frW x*frW y≤9007199254740991*9007199254740991:=Nat.mul_le_mul (by unfold frW;omega) (by unfold frW;omega)
    exact Nat.lt_of_le_of_lt this (by decide)
   have h3:frW x*frW y*2^(xpW x+xpW y+2148).toNat<QB:=by
    rw [hq];refine Nat.lt_of_lt_of_le (Nat.mul_lt_mul_of_pos_right h1 (Nat.two_pow_pos _)) ?_;rw [←Nat.pow_add];exact Nat.pow_le_pow_right (by decide) (by unfold xpW;omega)
   have:=sgn_bound (!ngW x==ngW y) _ _ h3;omega
 · constructor <;> omega
def Sp.pos (s:Sp):Prop:=0≤s.n∧0≤s.u∧0≤s.d∧0≤s.m∧0≤s.p∧s.n+s.u+s.d+s.m+s.p≤s.a
theorem Sp.pos.cnt {s:Sp}(h:s.pos) (k:Nat) (hk:k≤5):(s.cnt k 1).pos:=by
 obtain ⟨h0,h1,h2,h3,h4,h5⟩:=h;have hc:k=0∨k=1∨k=2∨k=3∨k=4∨k=5:=by omega
 rcases hc with rfl|rfl|rfl|rfl|rfl|rfl <;> (unfold Sp.pos Sp.cnt;simp;omega)
theorem Sp.pos.ok {s:Sp}(h:s.pos) (ha:s.a≤4398046511104):s.ok:=by
 obtain ⟨h0,h1,h2,h3,h4,h5⟩:=h;unfold Sp.ok;omega
theorem cnt_a (s:Sp) (k:Nat) (c:Int):(s.cnt k c).a=s.a+c:=rfl
theorem put_ok (V:Int) (s:Sp) (k:Nat) (T:Int) (h0:-(HB:Int)<V+T) (h1:V+T<(HB:Int)) (ha:s.a<1099511627776):putS V s k T=(0,V+T,s.cnt k 1):=by
 unfold putS step7;rw [if_neg (by omega),if_pos ⟨h0,h1⟩]
end
section
open Go.RowKit
def vS (l:List Nat):Int:=l.foldl (fun v x=>v+pT x 4607182418800017408) 0
def sS (l:List Nat):Sp:=l.foldl (fun s x=>s.cnt (pK x 4607182418800017408) 1) ⟨0,0,0,0,0,0⟩
theorem take_snoc10 (l:List Nat) (k:Nat) (h:k<l.length):l.take (k+1)=l.take k++[l.getD k 0]:=by
 rw [List.take_succ_eq_append_getElem h,List.getD_eq_getElem?_getD,List.getElem?_eq_getElem h];rfl
theorem vS_take (l:List Nat) (k:Nat) (h:k<l.length):vS (l.take (k+1))=vS (l.take k)+pT (l.getD k 0) 4607182418800017408:=by
 rw [take_snoc10 l k h];simp [vS,List.foldl_append]
theorem sS_take (l:List Nat) (k:Nat) (h:k<l.length):sS (l.take (k+1))=(sS (l.take k)).cnt (pK (l.getD k 0) 4607182418800017408) 1:=by
 rw [take_snoc10 l k h];simp [sS,List.foldl_append]
theorem vS_bound (l:List Nat) (hl:W64 l):∀ k,k≤l.length→-((k*QB:Nat):Int)≤vS (l.take k)∧vS (l.take k)≤((k*QB:Nat):Int)
 | 0,_=>by simp [vS]
 | k+1,h=>by
   obtain ⟨h1,h2⟩:=vS_bound l hl k (by omega)
   have h3:=pT_small (l.getD k 0) 4607182418800017408 (hl.get k) (by decide)
   rw [vS_take l k h];have e:((k+1)*QB:Nat)=k*QB+QB:=by rw [Nat.add_mul,Nat.one_mul]
   omega
theorem sS_pos (l:List Nat):∀ k,k≤l.length→(sS (l.take k)).pos∧(sS (l.take k)).a=k
 | 0,_=>⟨by rw [List.take_zero];unfold Sp.pos sS;decide,rfl⟩
 | k+1,h=>by
   obtain ⟨h1,h2⟩:=sS_pos l k (by omega)
   rw [sS_take l k h];refine ⟨h1.cnt _ (pk_le _ _ _),?_⟩;rw [cnt_a,h2];omega
end
section
open Go.RowKit
def vI (I:List (Nat×Int)):Int:=I.foldl (fun v p=>v+p.2) 0
def sI (I:List (Nat×Int)):Sp:=I.foldl (fun s p=>s.cnt p.1 1) ⟨0,0,0,0,0,0⟩
theorem vI_snoc (I:List (Nat×Int)) (p:Nat×Int):vI (I++[p])=vI I+p.2:=by simp [vI,List.foldl_append]
theorem sI_snoc (I:List (Nat×Int)) (p:Nat×Int):sI (I++[p])=(sI I).cnt p.1 1:=by simp [sI,List.foldl_append]
def Ip (p:Nat×Int):Prop:=p.1≤5∧-(QB:Int)≤p.2∧p.2≤(QB:Int)
theorem ip_prod {x y:Nat}(hx:x<18446744073709551616) (hy:y<18446744073709551616):Ip (pK x y,pT x y):=⟨pk_le _ _ _,(pT_small x y hx hy).1,(pT_small x y hx hy).2⟩
theorem vI_fold:∀ (I:List (Nat×Int)) (v:Int),(∀ p ∈ I,Ip p)→v-((I.length*QB:Nat):Int)≤I.foldl (fun v p=>v+p.2) v∧I.foldl (fun v p=>v+p.2) v≤v+((I.length*QB:Nat):Int)
 | [],v,_=>by simp
 | p::I,v,h=>by
   obtain ⟨h1,h2⟩:=vI_fold I (v+p.2) (fun q hq=>h q (List.mem_cons_of_mem _ hq))
   obtain ⟨_,h3,h4⟩:=h p List.mem_cons_self;rw [List.foldl_cons,List.length_cons,Nat.add_mul,Nat.one_mul];omega
theorem vI_bd (I:List (Nat×Int)) (h:∀ p ∈ I,Ip p):-((I.length*QB:Nat):Int)≤vI I∧vI I≤((I.length*QB:Nat):Int):=by
 have:=vI_fold I 0 h;unfold vI;omega
theorem sI_fold:∀ (I:List (Nat×Int)) (s:Sp),(∀ p ∈ I,Ip p)→s.pos→(I.foldl (fun s p=>s.cnt p.1 1) s).pos∧(I.foldl (fun s p=>s.cnt p.1 1) s).a=s.a+I.length
 | [],s,_,hs=>⟨hs,by simp⟩
 | p::I,s,h,hs=>by
   obtain ⟨h1,h2⟩:=sI_fold I (s.cnt p.1 1) (fun q hq=>h q (List.mem_cons_of_mem _ hq)) (hs.cnt _ (h p List.mem_cons_self).1)
   refine ⟨h1,?_⟩;rw [List.foldl_cons,h2,cnt_a,List.length_cons];omega
theorem sI_pos (I:List (Nat×Int)) (h:∀ p ∈ I,Ip p):(sI I).pos∧(sI I).a=I.length:=by
 have:=sI_fold I ⟨0,0,0,0,0,0⟩ h (by unfold Sp.pos;decide)
 unfold sI;refine ⟨this.1,?_⟩;rw [this.2];simp
def At12 (w:World) (g:Nat) (I:List (Nat×Int)):Prop:=Acc7 w g (vI I) (sI I)∧(∀ p ∈ I,Ip p)
theorem At12.ok {w:World}{g:Nat}{I:List (Nat×Int)}(h:At12 w g I) (hl:I.length≤1000000):(sI I).ok:=by
 obtain ⟨p1,p2⟩:=sI_pos I h.2;exact p1.ok (by rw [p2];omega)
theorem addP12 (g:Nat) (I:List (Nat×Int)) (x y:Nat) (w:World) (hA:At12 w g I) (hl:I.length<1000000) (hx:x<18446744073709551616) (hy:y<18446744073709551616) :
 Calls Tryz.prog 72 #[.pointer (some ⟨g,0,none⟩),.float .f64 x,.float .f64 y] w fun r w'=>r=.returned (.int .i64 0)∧At12 w' g (I++[(pK x y,pT x y)])∧But g w w':=by
 have C:=AddProduct7 g (vI I) (sI I) x y w hA.1 (hA.ok (by omega)) hx hy
 obtain ⟨p1,p2⟩:=sI_pos I hA.2;obtain ⟨v1,v2⟩:=vI_bd I hA.2;have hsm:=pT_small x y hx hy;have hkq:I.length*QB≤1000000*QB:=Nat.mul_le_mul_right _ (by omega)
 have hQ:=QB_HB;have hqp:=QB_pos;rw [put_ok _ _ _ _ (by omega) (by omega) (by omega)] at C
 refine C.mono ?_;rintro r w' ⟨rfl,h2,h3⟩;refine ⟨rfl,⟨?_,fun p hp=>?_⟩,h3⟩
 · rw [vI_snoc,sI_snoc];exact h2
 · rcases List.mem_append.1 hp with h | h
   · exact hA.2 p h
   · rw [List.mem_singleton] at h;subst h;exact ip_prod hx hy
end
section
open Go.RowKit
attribute [local go_sem] B.f64bits B.f64frombits
theorem st_float {P:Program}{w:World}(a:Addr) (k:FloatKind) (n:Nat) (m:Mode):(store a (.float k n) m).run P w=stored P w a (.float k n) m:=run_store P w a _ m rfl
theorem run_float_none {P:Program}(w:World) (op:BinOp) (t:TypeId) (x y:Nat) (ho:op=.add∨op=.sub∨op=.mul) (h:floatBits op .f64 x y=none) :
 ∃ z,(9218868437227405312<z%9223372036854775808∧z<18446744073709551616)∧(binOp op t (.float .f64 x) (.float .f64 y)).run P w=.ok (.float .f64 z) w.drew:=by
 refine ⟨(Question.nanBits .f64 x y).cut (w.tape w.drawn (.nanBits .f64 x y)),?_,?_⟩
 · unfold Question.cut
   generalize w.tape w.drawn (.nanBits .f64 x y)=t
   show 9218868437227405312<((t%2)*9223372036854775808+9218868437227405312+1+(t/2)%4503599627370495)%9223372036854775808∧((t%2)*9223372036854775808+9218868437227405312+1+(t/2)%4503599627370495)<18446744073709551616
   have h1:(t/2)%4503599627370495<4503599627370495:=Nat.mod_lt _ (by decide)
   generalize (t/2)%4503599627370495=q at *
   rcases Nat.mod_two_eq_zero_or_one t with h2|h2 <;> rw [h2] <;> omega
 · unfold floatBits at h
   rcases ho with rfl|rfl|rfl <;> simp only at h <;> simp [binOp,Op.floatArith,h,Question.forced]
end
section
open Go.RowKit
theorem lo_odd1 {X:Nat}(h:X%2=1):lo X=0:=by
 have:=lo_eq 0 (X/2);rw [show 2^0*(2*(X/2)+1)=X by omega] at this
 exact this
end
section
open Go.RowKit
def sgn (n:Bool) (X:Nat):Int:=if X=0 then 0 else if n then -1 else 1
end
section
open Go.RowKit
theorem Sign_any3 {w:World}{a:Option Addr}{n c:Nat}{xs:List Nat}(h1:Arg w a n c xs) (ng:Bool) (e:Int) :
 Calls Tryz.prog 35 #[.agg #[.bool ng,.slice a n c,.int .i64 e]] w fun r w'=>r=.returned (.int .i64 (sgn ng (val xs)))∧Below w.heap.size w w':=by
 have hB:Below w.heap.size w (w.alloc (.cells #[.bool ng,.slice a n c,.int .i64 e] 42)):=below_alloc w _;have A1:=h1.below hB;have hbig:=h1.big;have H1:=hid (len_any xs a n c _ _ A1.len A1.cap (by omega) A1.wf A1.rd)
 obtain ⟨X,hX⟩:∃ X,val xs=X:=⟨_,rfl⟩;rw [hX] at H1 ⊢;have SB:=qsd hB;clear hB A1 h1 hX hbig;unfold sgn
 by_cases h0:X=0
 · rw [if_pos h0]
   have hb:bl X=0:=by rw [h0,bl_zero]
   rw [hb] at H1;clear h0 hb;go_enter Tryz.func35,Tryz.ntmps35
   go_wp2_with fail
   refine H1.out.mono ?_;rintro r w1 ⟨rfl,rfl⟩;go_wp2;go_ret;exact ⟨rfl,SB.out⟩
 · rw [if_neg h0]
   obtain ⟨b,hb⟩:∃ b,bl X=b:=⟨_,rfl⟩;have hb0:((b:Int)==0)=false:=by have:=bl_pos X h0;simp;omega
   rw [hb] at H1;clear h0 hb
   cases ng
   · simp only [Bool.false_eq_true,if_false]
     go_enter Tryz.func35,Tryz.ntmps35
     go_wp2_with fail
     refine H1.out.mono ?_;rintro r w1 ⟨rfl,rfl⟩;go_wp2;go_ret;exact ⟨rfl,SB.out⟩
   · simp only [if_true]
     go_enter Tryz.func35,Tryz.ntmps35
     go_wp2_with fail
     refine H1.out.mono ?_;rintro r w1 ⟨rfl,rfl⟩;go_wp2;go_ret;exact ⟨rfl,SB.out⟩
end
section
open Go.RowKit
theorem sgn_zero3 {n:Bool}{X:Nat}:sgn n X=0↔X=0:=by
 unfold sgn
 by_cases h:X=0
 · simp [h]
 · rw [if_neg h];cases n <;> simp [h]
end
section
open Go.RowKit
def sg1 (n:Bool):Int:=if n then -1 else 1
def zv (B:Int) (x:Bool×Nat×Int):Int:=sg1 x.1*((x.2.1*2^(x.2.2-B).toNat:Nat):Int)
theorem pow_split (e l B:Int) (h:B≤e) (hl:0≤l):(2:Nat)^(e+l-B).toNat=2^l.toNat*2^(e-B).toNat:=by
 rw [←Nat.pow_add];congr 1;omega
theorem zv_mkS {n:Bool}{X:Nat}{e:Int}{x:Bool×Nat×Int}(h:mkS n X e=some x) (B:Int) (hB:X=0∨B≤e):zv B x=sg1 n*((X*2^(e-B).toNat:Nat):Int):=by
 unfold mkS at h
 by_cases h0:X=0
 · rw [if_pos h0] at h
   cases h
   subst h0;simp [zv]
 · rw [if_neg h0] at h
   split at h
   · cases h
   · cases h
     have hB':B≤e:=by rcases hB with h | h;exact absurd h h0;exact h
     obtain ⟨m,hm,hd,_⟩:=odd_part X h0
     show sg1 n*((X/2^lo X*2^(e+(lo X:Int)-B).toNat:Nat):Int)=_
     rw [pow_split e (lo X) B hB' (by omega),Int.toNat_natCast,←Nat.mul_assoc]
     have hx:X/2^lo X*2^lo X=X:=by rw [hd];rw [Nat.mul_comm];exact hm.symm
     rw [hx]
end
section
open Go.RowKit
theorem mkS_idem {n:Bool}{X:Nat}{e:Int}(F:Frm n X e):mkS n X e=some (n,X,e):=by
 unfold mkS
 rcases F.odd with h|⟨rfl,rfl,rfl⟩
 · have h1:=F.size;have h2:=F.up;have h3:=F.down
   rw [if_neg (by omega),lo_odd1 h,if_neg (by omega),Nat.pow_zero,Nat.div_one]
   simp
 · rw [if_pos rfl]
structure Fv (B:Int) (o:Option (Bool×Nat×Int)) (z:Int):Prop where
 ex:∃ n X e,o=some (n,X,e)∧Frm n X e∧zv B (n,X,e)=z
end
section
open Go.RowKit
theorem plc_floor (dg:Nat) (least top:Int) (X:Nat) (e:Int) (ho:X%2=1) (Bs:Int) (h1:Bs≤e) (h2:Bs≤least) (hin:¬ top<e+(bl X:Int)) :
 Bs≤(plc dg least top X e).2.1 ∧
 (((plc dg least top X e).2.2.1=true∧X*2^(e-Bs).toNat=(plc dg least top X e).1*2^((plc dg least top X e).2.1-Bs).toNat) ∨
  ((plc dg least top X e).2.2.1=false∧(plc dg least top X e).1*2^((plc dg least top X e).2.1-Bs).toNat<X*2^(e-Bs).toNat∧X*2^(e-Bs).toNat<((plc dg least top X e).1+1)*2^((plc dg least top X e).2.1-Bs).toNat ∧
   ((plc dg least top X e).2.2.2=-1∧2*(X*2^(e-Bs).toNat)<(2*(plc dg least top X e).1+1)*2^((plc dg least top X e).2.1-Bs).toNat ∨
    (plc dg least top X e).2.2.2=0∧2*(X*2^(e-Bs).toNat)=(2*(plc dg least top X e).1+1)*2^((plc dg least top X e).2.1-Bs).toNat ∨
    (plc dg least top X e).2.2.2=1∧(2*(plc dg least top X e).1+1)*2^((plc dg least top X e).2.1-Bs).toNat<2*(X*2^(e-Bs).toNat)))):=by
 unfold plc;rw [if_neg hin];simp only;obtain ⟨ex,hex⟩:∃ ex,max (e+(bl X:Int)-(dg:Int)) least=ex:=⟨_,rfl⟩;rw [hex];have hle:least≤ex:=by omega
 by_cases hoff:ex-e≤0
 · rw [if_pos hoff]
   simp only;refine ⟨by omega,.inl ⟨trivial,?_⟩⟩
   rw [Nat.mul_assoc,←Nat.pow_add,show (-(ex-e)).toNat+(ex-Bs).toNat=(e-Bs).toNat by omega]
 · rw [if_neg hoff]
   simp only;obtain ⟨k,hk⟩:∃ k:Nat,(ex-e).toNat=k:=⟨_,rfl⟩;have hk0:0<k:=by omega
   have hexB:(ex-Bs).toNat=k+(e-Bs).toNat:=by omega
   have hk1:(ex-e-1).toNat=k-1:=by omega
   rw [hk,hexB,hk1,Nat.pow_add];obtain ⟨Q,hQ⟩:∃ Q,2^(e-Bs).toNat=Q:=⟨_,rfl⟩;have hQ0:0<Q:=by rw [←hQ];exact Nat.two_pow_pos _
   rw [hQ];have hdm:=Nat.div_add_mod X (2^k);have hmod:=Nat.mod_lt X (Nat.two_pow_pos k);obtain ⟨F,hF⟩:∃ F,X/2^k=F:=⟨_,rfl⟩;obtain ⟨R,hR⟩:∃ R,X%2^k=R:=⟨_,rfl⟩;have hhalf:2^k=2*2^(k-1):=by rw [show k=k-1+1 by omega,Nat.pow_succ,Nat.mul_comm];rfl
   have hbit:X/2^(k-1)%2=R/2^(k-1):=by
    rw [←hR,hhalf];rw [Nat.mul_comm 2,Nat.mod_mul_right_div_self]
   obtain ⟨Hf,hHf⟩:∃ Hf,2^(k-1)=Hf:=⟨_,rfl⟩;have hHf0:0<Hf:=by rw [←hHf];exact Nat.two_pow_pos _
   rw [hHf] at hhalf hbit ⊢;rw [hbit];rw [hhalf] at hdm hmod hF hR ⊢;rw [hF,hR] at hdm;rw [hR] at hmod;rw [hF]
   have hR0:R≠0:=by
    intro h;rw [h,Nat.add_zero,Nat.mul_assoc] at hdm;omega
   have e1:F*(2*Hf*Q)=(F*(2*Hf))*Q:=(Nat.mul_assoc _ _ _).symm;have e2:(F+1)*(2*Hf*Q)=((F+1)*(2*Hf))*Q:=(Nat.mul_assoc _ _ _).symm
   have e3:(2*F+1)*(2*Hf*Q)=(2*(F*(2*Hf))+2*Hf)*Q:=by
    rw [Nat.add_mul,Nat.add_mul,Nat.one_mul,Nat.mul_assoc 2 F,←Nat.mul_assoc F,Nat.mul_assoc 2 (F*(2*Hf)) Q]
   have e4:2*(X*Q)=(2*X)*Q:=by rw [Nat.mul_assoc]
   have e5:2*Hf*F=F*(2*Hf):=Nat.mul_comm _ _;rw [e5] at hdm;have e6:(F+1)*(2*Hf)=F*(2*Hf)+2*Hf:=by rw [Nat.add_mul,Nat.one_mul]
   rw [e1,e2,e3,e4,e6];generalize F*(2*Hf)=G at hdm ⊢;refine ⟨by omega,.inr ⟨trivial,Nat.mul_lt_mul_of_pos_right (by omega) hQ0,Nat.mul_lt_mul_of_pos_right (by omega) hQ0,?_⟩⟩
   by_cases hone:ex-e=1
   · rw [if_pos hone]
     have hk1':k=1:=by omega
     have hHf1:Hf=1:=by rw [←hHf,hk1']
     refine .inr (.inl ⟨rfl,?_⟩)
     congr 1
     omega
   · rw [if_neg hone]
     have hHf2:Hf%2=0:=by
      rw [←hHf,show k-1=k-2+1 by omega,Nat.pow_succ];omega
     have hRodd:R%2=1:=by
      have:G%2=0∨True:=.inr trivial;rw [←hR];rw [Nat.mod_mul_right_mod];exact ho
     by_cases hge:Hf≤R
     · have hd1:R/Hf=1:=by
        rw [Nat.div_eq_iff hHf0];omega
       rw [hd1,if_pos rfl];refine .inr (.inr ⟨rfl,Nat.mul_lt_mul_of_pos_right ?_ hQ0⟩);have:R≠Hf:=by intro h;rw [h] at hRodd;omega
       omega
     · have hd0:R/Hf=0:=Nat.div_eq_of_lt (by omega)
       rw [hd0,if_neg (by omega)]
       exact .inl ⟨rfl,Nat.mul_lt_mul_of_pos_right (by omega) hQ0⟩
def flK (X:Nat) (e:Int):Nat:=((plc 53 (-1074) 1024 X e).2.1+1074).toNat*4503599627370496+(plc 53 (-1074) 1024 X e).1
abbrev vK (K:Nat):Nat:=B.val Ieee.double K
theorem vK_lt {K L:Nat}:vK K<vK L↔K<L:=B.val_lt_iff Ieee.double
theorem vK_word (j F:Nat) (h:j=0∨4503599627370496≤F) (hF:F≤9007199254740992):vK (j*4503599627370496+F)=F*2^j:=by
 have:=B.val_at Ieee.double j F (by rw [B.dBin];exact h) (by rw [B.dBin];omega)
 rw [B.dBin] at this;exact this
structure Lies (K:Nat) (at':Bool) (mid:Int) (V S:Nat):Prop where
 fin:K<9218868437227405312
 pos:0<S
 one:at'=true→V=vK K*S
 low:at'=false→vK K*S<V
 mids:at'=false→V<vK (K+1)*S→(mid=-1∧2*V<vK K*S+vK (K+1)*S∨mid=0∧2*V=vK K*S+vK (K+1)*S∨mid=1∧vK K*S+vK (K+1)*S<2*V)
 high:at'=false→V<vK (K+1)*S∨(K=9218868437227405311∧mid=1)
theorem lies (X:Nat) (e:Int) (hX:X%2=1) (he0:-1048576≤e) (he1:e≤1048576) (Bs:Int) (h1:Bs≤e) (h2:Bs≤-1074) :
 Lies (flK X e) (plc 53 (-1074) 1024 X e).2.2.1 (plc 53 (-1074) 1024 X e).2.2.2 (X*2^(e-Bs).toNat) (2^(-1074-Bs).toNat):=by
 have hX0:X≠0:=by omega
 obtain ⟨f1,f2,f3,f4⟩:=plc_facts X e hX0 he0 he1;obtain ⟨j,hj⟩:∃ j:Nat,((plc 53 (-1074) 1024 X e).2.1+1074).toNat=j:=⟨_,rfl⟩;have hS:0<2^(-1074-Bs).toNat:=Nat.two_pow_pos _
 have hw:∀ F,F≤9007199254740992→(j=0∨4503599627370496≤F)→vK (j*4503599627370496+F)*2^(-1074-Bs).toNat=F*2^((plc 53 (-1074) 1024 X e).2.1-Bs).toNat:=by
  intro F hF hn;rw [vK_word j F hn hF,Nat.mul_assoc,←Nat.pow_add]
  congr 2
  omega
 have hn1:j=0∨4503599627370496≤(plc 53 (-1074) 1024 X e).1:=by
  rcases f4 with h|h
  · left;omega
  · exact .inr h
 have w1:=hw (plc 53 (-1074) 1024 X e).1 (by omega) hn1
 have w2:=hw ((plc 53 (-1074) 1024 X e).1+1) (by omega) (by rcases hn1 with h | h;exact .inl h;exact .inr (by omega))
 have hflK:flK X e=j*4503599627370496+(plc 53 (-1074) 1024 X e).1:=by unfold flK;rw [hj]
 have hflK1:flK X e+1=j*4503599627370496+((plc 53 (-1074) 1024 X e).1+1):=by rw [hflK];omega
 have hfin:flK X e<9218868437227405312:=by rw [hflK];omega
 rw [←hflK] at w1;rw [←hflK1] at w2
 by_cases hin:1024<e+(bl X:Int)
 · have hp:plc 53 (-1074) 1024 X e=((2^53-1:Nat),((1024:Int)-((53:Nat):Int)),false,(1:Int)):=by unfold plc;rw [if_pos hin]
   have hK:flK X e=9218868437227405311:=by unfold flK;rw [hp];rfl
   refine ⟨hfin,hS,fun h=>(by rw [hp] at h;cases h),fun _=>?_,fun _ hlt=>?_,fun _=>.inr ⟨hK,(by rw [hp])⟩⟩
   · rw [w1]
     have hlow:(2^53-1)*2^(971-Bs).toNat<2^53*2^(971-Bs).toNat:=Nat.mul_lt_mul_of_pos_right (by decide) (Nat.two_pow_pos _)
     have hup:2^53*2^(971-Bs).toNat≤X*2^(e-Bs).toNat:=by
      have hb:=bl_ge X hX0;have hbp:=bl_pos X hX0;refine Nat.le_trans ?_ (Nat.mul_le_mul_right _ hb);rw [←Nat.pow_add,←Nat.pow_add];exact Nat.pow_le_pow_right (by omega) (by omega)
     rw [hp];exact Nat.lt_of_lt_of_le hlow hup
   · exfalso
     rw [w2,hp] at hlt
     have hup:2^53*2^(971-Bs).toNat≤X*2^(e-Bs).toNat:=by
      have hb:=bl_ge X hX0;have hbp:=bl_pos X hX0;refine Nat.le_trans ?_ (Nat.mul_le_mul_right _ hb);rw [←Nat.pow_add,←Nat.pow_add];exact Nat.pow_le_pow_right (by omega) (by omega)
     exact absurd hlt (Nat.not_lt.2 hup)
 · obtain ⟨_,hfl⟩:=plc_floor 53 (-1074) 1024 X e hX Bs h1 h2 hin
   have hmid:vK (flK X e)*2^(-1074-Bs).toNat+vK (flK X e+1)*2^(-1074-Bs).toNat=(2*(plc 53 (-1074) 1024 X e).1+1)*2^((plc 53 (-1074) 1024 X e).2.1-Bs).toNat:=by
    rw [w1,w2,←Nat.add_mul];congr 1;omega
   rcases hfl with ⟨ht,hv⟩|⟨hf,hlo,hhi,hm⟩
   · exact ⟨hfin,hS,fun _=>(by rw [w1];exact hv),fun h=>(by rw [ht] at h;cases h),fun h=>(by rw [ht] at h;cases h),fun h=>(by rw [ht] at h;cases h)⟩
   · refine ⟨hfin,hS,fun h=>(by rw [hf] at h;cases h),fun _=>(by rw [w1];exact hlo),fun _ _=>(by rw [hmid];exact hm),fun _=>.inl (by rw [w2];exact hhi)⟩
end
section
open Go.RowKit
theorem vS_le {K L S:Nat}(h:K≤L):vK K*S≤vK L*S:=by
 rcases Nat.lt_or_ge K L with k|k
 · exact Nat.mul_le_mul_right _ (Nat.le_of_lt (vK_lt.2 k))
 · rw [show K=L by omega];exact Nat.le_refl _
theorem vS_lt {K L S:Nat}(hS:0<S) (h:K<L):vK K*S<vK L*S:=Nat.mul_lt_mul_of_pos_right (vK_lt.2 h) hS
theorem Lies.ge {K:Nat}{t:Bool}{m:Int}{V S:Nat}(h:Lies K t m V S):vK K*S≤V:=by
 cases ht:t
 · exact Nat.le_of_lt (h.low ht)
 · rw [h.one ht];exact Nat.le_refl _
def rK (mode:Int) (n:Bool) (K:Nat) (t:Bool) (m:Int):Nat:=if t then K else if outS mode K m n then K+1 else K
theorem outS_par (mode:Int) (j F:Nat) (m:Int) (n:Bool):outS mode (j*4503599627370496+F) m n=outS mode F m n:=by
 unfold outS;rw [show (j*4503599627370496+F)%2=F%2 by omega]
theorem rndK_eq (mode:Int) (n:Bool) (X:Nat) (e:Int):rndK mode n X e=rK mode n (flK X e) (plc 53 (-1074) 1024 X e).2.2.1 (plc 53 (-1074) 1024 X e).2.2.2:=by
 unfold rndK rK flK;simp only;rw [outS_par]
 split
 · rfl
 · split <;> omega
theorem lies_mono {K1 K2:Nat}{t1 t2:Bool}{m1 m2:Int}{V1 V2 S:Nat}(h1:Lies K1 t1 m1 V1 S) (h2:Lies K2 t2 m2 V2 S) (h:V1≤V2):K1≤K2:=by
 rcases Nat.lt_or_ge K2 K1 with k|k
 · exfalso
   have a1:=h1.ge;have a2:vK (K2+1)*S≤vK K1*S:=vS_le (by omega)
   have a3:V2<vK (K2+1)*S:=by
    cases ht:t2
    · rcases h2.high ht with q | q
      · exact q
      · have:=h1.fin;omega
    · rw [h2.one ht];exact vS_lt h2.pos (by omega)
   omega
 · exact k
theorem rK_mono (mode:Int) (n:Bool) {K1 K2:Nat}{t1 t2:Bool}{m1 m2:Int}{V1 V2 S:Nat}(h1:Lies K1 t1 m1 V1 S) (h2:Lies K2 t2 m2 V2 S) (h:V1≤V2):rK mode n K1 t1 m1≤rK mode n K2 t2 m2:=by
 have hK:=lies_mono h1 h2 h;have u1:rK mode n K1 t1 m1≤K1+1:=by unfold rK;split;omega;split <;> omega
 have l2:K2≤rK mode n K2 t2 m2:=by unfold rK;split;omega;split <;> omega
 rcases Nat.lt_or_ge K1 K2 with k|k
 · omega
 · have e:K1=K2:=by omega
   subst e
   by_cases ht1:t1=true
   · unfold rK at *
     rw [if_pos ht1] at *;exact l2
   · have ht1f:t1=false:=by simpa using ht1
     have ht2f:t2=false:=by
      cases ht2:t2
      · rfl
      · exfalso
        have a1:=h1.low ht1f;have a2:=h2.one ht2;omega
     have hmm:m1≤m2:=by
      rcases h2.high ht2f with q2|⟨q2,q2'⟩
      · have q1:V1<vK (K1+1)*S:=by omega
        have r1:=h1.mids ht1f q1;have r2:=h2.mids ht2f q2;generalize vK K1*S+vK (K1+1)*S=M at r1 r2;omega
      · rw [q2']
        rcases h1.high ht1f with q1|⟨q1,q1'⟩
        · have r1:=h1.mids ht1f q1
          omega
        · omega
     unfold rK;rw [ht1f,ht2f];simp only [Bool.false_eq_true,if_false]
     have key:outS mode K1 m1 n=true→outS mode K1 m2 n=true:=by
      unfold outS
      split
      · intro hq
        simp only [Bool.or_eq_true,Bool.and_eq_true,decide_eq_true_eq] at hq ⊢;omega
      · split
        · exact id
        · split
          · exact id
          · split
            · intro hq
              simp only [decide_eq_true_eq] at hq ⊢;omega
            · exact id
     by_cases ho:outS mode K1 m1 n=true
     · rw [if_pos ho,if_pos (key ho)];exact Nat.le_refl _
     · rw [if_neg ho];split <;> omega
theorem rK_own (mode:Int) (n:Bool) {K:Nat}{t:Bool}{m:Int}{V S:Nat}(h:Lies K t m V S) (L:Nat) (hL:L<9218868437227405312) (hV:V=vK L*S):rK mode n K t m=L:=by
 have hKL:K≤L:=by
  rcases Nat.lt_or_ge L K with k|k
  · exfalso
    have a1:=h.ge;have a2:=vS_lt h.pos k;omega
  · exact k
 by_cases ht:t=true
 · have:vK K=vK L:=Nat.eq_of_mul_eq_mul_right h.pos (by rw [←hV,h.one ht])
   unfold rK;rw [if_pos ht];exact B.val_inj Ieee.double this
 · exfalso
   have htf:t=false:=by simpa using ht
   have a1:=h.low htf
   have hlt:K<L:=by
    rcases Nat.lt_or_ge K L with k|k
    · exact k
    · have:K=L:=by omega
      rw [this] at a1;omega
   rcases h.high htf with q|⟨q,_⟩
   · have a2:vK (K+1)*S≤vK L*S:=vS_le (by omega)
     omega
   · omega
end
section
open Go.RowKit
def wd64 (s:Bool) (K:Nat):Nat:=K+(if s then 9223372036854775808 else 0)
def sK (s:Bool) (K:Nat):Int:=if s then -(K:Int) else K
theorem wd64_bw (s:Bool) (K:Nat) (h:K≤9218868437227405312):wd64 s K=B.bw s (K/4503599627370496) (K%4503599627370496)∧K/4503599627370496<2048∧K%4503599627370496<4503599627370496∧B.odd (K/4503599627370496) (K%4503599627370496)=false∧B.pl s (K/4503599627370496) (K%4503599627370496)=sK s K:=by
 refine ⟨?_,by omega,by omega,?_,?_⟩
 · unfold wd64 B.bw
   cases s
   · simp;omega
   · simp;omega
 · unfold B.odd
   simp;omega
 · unfold B.pl B.sg sK
   rw [show K/4503599627370496*4503599627370496+K%4503599627370496=K by omega]
theorem eq64 (s t:Bool) (K L:Nat) (hK:K≤9218868437227405312) (hL:L≤9218868437227405312):(FloatKind.f64.format.order (wd64 s K) (wd64 t L)==some .eq)=decide (sK s K=sK t L):=by
 obtain ⟨a1,a2,a3,a4,a5⟩:=wd64_bw s K hK;obtain ⟨b1,b2,b3,b4,b5⟩:=wd64_bw t L hL;rw [a1,b1,B.eq_f64 s t _ _ _ _ a2 a3 b2 b3,a4,b4,a5,b5];simp
end
section
open Go.RowKit
attribute [local go_sem] B.f64bits B.f64frombits st_float
def magW (x:Nat):Nat:=x%9223372036854775808
def negW (x:Nat):Bool:=decide (9223372036854775808≤x)
end
section
open Go.RowKit J
theorem wd_word (s:Bool) (K:Nat):wd64 s K=Ieee.double.word s K:=by
 unfold wd64;have e:Ieee.double.word s K=(if s then 9223372036854775808+K else K):=rfl
 rw [e]
 cases s <;> simp;omega
theorem hInf:Ieee.double.infRung<Ieee.double.signWeight:=by rw [B.dInf,B.dSign];omega
theorem hBin:Ieee.double.binade≤Ieee.double.infRung:=by rw [B.dInf,B.dBin];omega
theorem wd_of (x:Nat) (h:x<18446744073709551616):x=wd64 (negW x) (magW x):=by
 unfold wd64 negW magW
 by_cases hx:9223372036854775808≤x
 · rw [decide_eq_true hx,if_pos rfl];omega
 · rw [decide_eq_false hx,if_neg (by simp)];omega
end
section
open Go.RowKit J
theorem read_nanW (x:Nat) (h:9218868437227405312<magW x):∃ s t,Ieee.double.read x=.nan s t:=⟨_,_,B.read_nan Ieee.double x (by rw [B.dInf,B.dSign];exact h) hBin⟩
theorem read_infW (x:Nat) (hx:x<18446744073709551616) (h:magW x=9218868437227405312):Ieee.double.read x=.infinity (negW x):=by
 have e:=wd_of x hx;rw [h,wd_word,←B.dInf] at e;rw [e,B.read_inf Ieee.double _ hInf hBin,←e]
theorem read_finW (x:Nat) (hx:x<18446744073709551616) (h:magW x<9218868437227405312):∃ m k,Ieee.double.read x=.number (negW x) m (Ieee.double.leastPlace+(k:Nat))∧m*2^k=vK (magW x):=by
 have e:=wd_of x hx;rw [wd_word] at e;obtain ⟨m,k,h1,h2⟩:=B.read_word Ieee.double (negW x) (magW x) (by rw [B.dInf];exact h) hInf
 rw [←e] at h1;exact ⟨m,k,h1,h2⟩
end
section
open Go.RowKit J
abbrev finW (x:Nat):Prop:=magW x<9218868437227405312
def fvW (x:Nat):Int:=B.sg (negW x) (vK (magW x))
end
section
open Go.RowKit J
theorem fin_parts {x:Nat}(hx:x<18446744073709551616) (fx:finW x):ngW x=negW x∧vK (magW x)=frW x*2^(xpW x+1074).toNat∧-1074≤xpW x∧((clW x=0∧frW x=0)∨((clW x=1∨clW x=2)∧frW x≠0)):=by
 have hm:magW x=eW x*4503599627370496+fW x:=by unfold magW eW fW;omega
 have he:eW x<2047:=by have h:magW x<9218868437227405312:=fx;omega
 have hf:fW x<4503599627370496:=Nat.mod_lt _ (by decide)
 refine ⟨by unfold ngW B.ng;rw [if_neg (by omega)];rfl,?_⟩
 by_cases h0:eW x=0
 · have hfr:frW x=fW x:=by unfold frW B.fr;rw [if_neg (by omega),if_pos h0];simp
   have hxp:xpW x=-1074:=by unfold xpW B.xp;rw [if_neg (by omega),if_pos h0]
   have hv:vK (magW x)=fW x:=by
    have:=vK_word 0 (fW x) (.inl rfl) (by omega)
    rw [hm,h0];simpa using this
   refine ⟨by rw [hv,hfr,hxp];simp,by omega,?_⟩
   by_cases hz:fW x=0
   · exact .inl ⟨by unfold clW B.cls;rw [if_neg (by omega),if_pos h0,if_pos hz],by omega⟩
   · exact .inr ⟨.inl (by unfold clW B.cls;rw [if_neg (by omega),if_pos h0,if_neg hz]),by omega⟩
 · have hfr:frW x=fW x+4503599627370496:=by unfold frW B.fr;rw [if_neg (by omega),if_neg h0];omega
   have hxp:xpW x=(eW x:Int)-1075:=by unfold xpW B.xp;rw [if_neg (by omega),if_neg h0]
   have hv:vK (magW x)=(fW x+4503599627370496)*2^(eW x-1):=by
    have:=vK_word (eW x-1) (fW x+4503599627370496) (.inr (by omega)) (by omega)
    rw [←this,hm,show eW x*4503599627370496+fW x=(eW x-1)*4503599627370496+(fW x+4503599627370496) by omega]
   refine ⟨by rw [hv,hfr,hxp,show ((eW x:Int)-1075+1074).toNat=eW x-1 by omega],by omega,.inr ⟨.inr (by unfold clW B.cls;rw [if_neg (by omega),if_neg h0]),by omega⟩⟩
theorem sg_prod (a b:Bool) (f g i j:Nat):sgn7 (!(a==b)) (f*g*2^(i+j))=B.sg a (f*2^i)*B.sg b (g*2^j):=by
 have e:f*g*2^(i+j)=(f*2^i)*(g*2^j):=by
  rw [Nat.pow_add,Nat.mul_mul_mul_comm]
 rw [e];generalize f*2^i=P;generalize g*2^j=Q;unfold sgn7 B.sg
 cases a <;> cases b <;> simp [Int.neg_mul,Int.mul_neg]
theorem pT_mul {x y:Nat}(hx:x<18446744073709551616) (hy:y<18446744073709551616) (fx:finW x) (fy:finW y):pT x y=fvW x*fvW y∧(pK x y=0∨pK x y=4∨pK x y=5):=by
 obtain ⟨n1,v1,x1,c1⟩:=fin_parts hx fx;obtain ⟨n2,v2,x2,c2⟩:=fin_parts hy fy;unfold pT pK fvW;rw [n1,n2,v1,v2]
 by_cases hz:clW x=0∨clW y=0
 · have hmin:min (clW x) (clW y)=0:=by omega
   have hmax:max (clW x) (clW y)≤2:=by omega
   have hpk:pk (max (clW x) (clW y)) (min (clW x) (clW y)) (!negW x==negW y)=4∨pk (max (clW x) (clW y)) (min (clW x) (clW y)) (!negW x==negW y)=5:=by
    unfold pk;rw [hmin,if_neg (by omega),if_neg (by omega),if_pos rfl]
    split
    · exact .inl rfl
    · exact .inr rfl
   refine ⟨?_,.inr hpk⟩;rw [pv7_no (by omega)]
   rcases c1 with ⟨_,f1⟩|⟨k1,_⟩
   · rw [f1];simp [B.sg]
   · rcases c2 with ⟨_,f2⟩ | ⟨k2,_⟩
     · rw [f2];simp [B.sg]
     · omega
 · have hpk:pk (max (clW x) (clW y)) (min (clW x) (clW y)) (!negW x==negW y)=0:=by
    unfold pk;rw [if_neg (by omega),if_neg (by omega),if_neg (by omega)]
   refine ⟨?_,.inl hpk⟩;rw [pv7_yes hpk,show (xpW x+xpW y+2148).toNat=(xpW x+1074).toNat+(xpW y+1074).toNat by omega]
   have e:(!negW x==negW y)=!(negW x==negW y):=by cases negW x <;> cases negW y <;> rfl
   rw [e];exact sg_prod _ _ _ _ _ _
theorem cl_nan {x:Nat}(h:9218868437227405312<magW x):clW x=4:=by
 have hm:magW x=eW x*4503599627370496+fW x:=by unfold magW eW fW;omega
 have hf:fW x<4503599627370496:=Nat.mod_lt _ (by decide)
 have he:eW x<2048:=by have:magW x<9223372036854775808:=Nat.mod_lt _ (by decide);omega
 unfold clW B.cls;rw [if_pos (by omega),if_neg (by omega)]
theorem cl_inf {x:Nat}(h:magW x=9218868437227405312):clW x=3∧ngW x=negW x:=by
 have hm:magW x=eW x*4503599627370496+fW x:=by unfold magW eW fW;omega
 have hf:fW x<4503599627370496:=Nat.mod_lt _ (by decide)
 unfold clW B.cls ngW B.ng;rw [if_pos (by omega),if_pos (by omega),if_neg (by omega)]
 exact ⟨rfl,rfl⟩
end
section
open Go.RowKit J
theorem sub_self_fin (x:Nat) (hx:x<18446744073709551616) (fx:finW x):floatBits .sub .f64 x x=some 0:=by
 obtain ⟨m,k,hr,_⟩:=read_finW x hx fx
 show ((Ieee.double.read x).sum (Ieee.double.read x).opposite).map Ieee.double.write=some 0
 rw [hr];generalize Ieee.double.leastPlace+(k:Int)=p
 have ht:Ieee.signed (negW x) m (p-min p p).toNat+Ieee.signed (!negW x) m (p-min p p).toNat=0:=by
  unfold Ieee.signed
  cases negW x <;> simp <;> omega
 simp only [Ieee.Datum.opposite,Ieee.Datum.sum,ht,if_true,Option.map_some];have hs:(negW x&&!negW x)=false:=by cases negW x <;> rfl
 rw [hs];rfl
end
end Go.Proofs.YtmkmndlpjenemaaGreatDoor
