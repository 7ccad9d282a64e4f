import Derived.Test.YthfkleadcnkglaaGreatDoorD9x
import Derived.Test.YthfkleadcnkglaaGreatDoorS11x
import Derived.Test.YthfkleadcnkglaaGreatDoorW52x
import Derived.Test.YthfkleadcnkglaaGreatDoorM1x
import Ieee.Arith
import Derived.Test.YthfkleadcnkglaaGreatDoorBW0x
import Derived.Deep.Cut
import Derived.Deep.RegionHeld3
set_option linter.unusedVariables false
set_option linter.unusedSimpArgs false
set_option maxHeartbeats 16000000
set_option maxRecDepth 20000
namespace Go.Proofs.YthfkleadcnkglaaGreatDoor
section
open Go.RowKit
theorem round_begin (w:World) (n:Bool) (v:Value) (e a b c:Int) (W:World) (hW:W=(w.alloc (.cells #[.bool n,v,.int .i64 e] 47)).alloc (.cells #[.int .i64 a,.int .i64 b,.int .i64 c] 130)) :
 Below w.heap.size w W∧W.heap.size=w.heap.size+2∧Dk W w.heap.size n v e∧Wk W (w.heap.size+1) a b c:=by
 subst hW;refine ⟨(below_alloc w _).alloc (by simp) _,by simp,(Dk.new w n v e).alloc _,?_⟩
 unfold Wk;have:=heap_alloc_new (w.alloc (.cells #[.bool n,v,.int .i64 e] 47)) (.cells #[.int .i64 a,.int .i64 b,.int .i64 c] 130);simpa using this
theorem Wk.below {w w':World}{g:Nat}{a b c:Int}(h:Wk w g a b c) (hb:Below w.heap.size w w'):Wk w' g a b c:=by
 unfold Wk;rw [hb.block g (Array.getElem?_eq_some_iff.1 h).1];exact h
theorem round_mode (n:Bool) (a:Option Addr) (l c:Nat) (e mode:Int) (w:World) (hm:mode<0∨4<mode) :
 Calls Tryz.prog 113 #[.agg #[.bool n,.slice a l c,.int .i64 e],.int .i64 mode,.agg #[.int .i64 53,.int .i64 (-1074),.int .i64 1024]] w fun r w'=>r=.returned (.tuple #[.float .f64 0,.int .i64 1])∧Below w.heap.size w w':=by
 have HB:=qsd (show Below w.heap.size w ((w.alloc (.cells #[.bool n,.slice a l c,.int .i64 e] 47)).alloc (.cells #[.int .i64 53,.int .i64 (-1074),.int .i64 1024] 130)) from (below_alloc w _).alloc (by simp) _)
 rcases hm with h|h
 · go_enter Tryz.func113,Tryz.ntmps113
   go_wp2
   go_ret2
   exact ⟨rfl,HB.out⟩
 · have h':decide (mode<0)=false:=decide_eq_false (by omega)
   go_enter Tryz.func113,Tryz.ntmps113;go_wp2
   go_ret2
   exact ⟨rfl,HB.out⟩
theorem round_err {w:World}{a:Option Addr}{l c:Nat}(n:Bool) (e mode:Int) (n1:Bool) (X:Nat) (e1 er:Int) (lX:(ws X).length≤8192) (hm0:0≤mode) (hm4:mode≤4) (her:(er != 0)=true)
 (HF:Hid (∀ u,Below w.heap.size w u→Calls Tryz.prog 156 #[.agg #[.bool n,.slice a l c,.int .i64 e]] u fun r w'=>(∃ v,r=.returned (.tuple #[.agg #[.bool n1,v,.int .i64 e1],.int .i64 er])∧Nt u.heap.size w' v X)∧Below u.heap.size u w')) :
 Calls Tryz.prog 113 #[.agg #[.bool n,.slice a l c,.int .i64 e],.int .i64 mode,.agg #[.int .i64 53,.int .i64 (-1074),.int .i64 1024]] w fun r w'=>r=.returned (.tuple #[.float .f64 0,.int .i64 er])∧Below w.heap.size w w':=by
 obtain ⟨W1,hW1⟩:∃ W,W=(w.alloc (.cells #[.bool n,.slice a l c,.int .i64 e] 47)).alloc (.cells #[.int .i64 53,.int .i64 (-1074),.int .i64 1024] 130):=⟨_,rfl⟩;obtain ⟨hB,hz1,DD,DW⟩:=round_begin w n (.slice a l c) e 53 (-1074) 1024 W1 hW1;have H1:=hid (HF.out W1 hB);have SB:=(qsd (ai hB (ai hz1 DW)));clear hB hz1 DD DW HF;go_enter Tryz.func113,Tryz.ntmps113
 go_wp2_with fail
 rw [←hW1];clear hW1;refine H1.out.mono ?_;rintro r u1 ⟨⟨v,rfl,hN⟩,hb⟩;obtain ⟨a1,c1,rfl,_⟩:=hN.arg (by omega)
 obtain ⟨hB,hz1,DW⟩:=SB.out;have SF:=qsd (hB.trans (hb.mono (by omega)))
 have hz:w.heap.size≤u1.heap.size:=by have:=hb.size;omega
 clear hN hb H1 hB hz1 DW SB;go_wp2
 go_ret2
 exact ⟨rfl,SF.out.alloc hz _⟩
theorem round_none {w:World}{a:Option Addr}{l c:Nat}(n:Bool) (e mode:Int) (n1:Bool) (X:Nat) (e1:Int) (lX:(ws X).length=0) (hm0:0≤mode) (hm4:mode≤4)
 (HF:Hid (∀ u,Below w.heap.size w u→Calls Tryz.prog 156 #[.agg #[.bool n,.slice a l c,.int .i64 e]] u fun r w'=>(∃ v,r=.returned (.tuple #[.agg #[.bool n1,v,.int .i64 e1],.int .i64 0])∧Nt u.heap.size w' v X)∧Below u.heap.size u w')) :
 Calls Tryz.prog 113 #[.agg #[.bool n,.slice a l c,.int .i64 e],.int .i64 mode,.agg #[.int .i64 53,.int .i64 (-1074),.int .i64 1024]] w fun r w'=>r=.returned (.tuple #[.float .f64 0,.int .i64 0])∧Below w.heap.size w w':=by
 obtain ⟨W1,hW1⟩:∃ W,W=(w.alloc (.cells #[.bool n,.slice a l c,.int .i64 e] 47)).alloc (.cells #[.int .i64 53,.int .i64 (-1074),.int .i64 1024] 130):=⟨_,rfl⟩;obtain ⟨hB,hz1,DD,DW⟩:=round_begin w n (.slice a l c) e 53 (-1074) 1024 W1 hW1;have H1:=hid (HF.out W1 hB);have SB:=(qsd (ai hB (ai hz1 DW)));clear hB hz1 DD DW HF;go_enter Tryz.func113,Tryz.ntmps113
 go_wp2_with fail
 rw [←hW1];clear hW1;refine H1.out.mono ?_;rintro r u1 ⟨⟨v,rfl,hN⟩,hb⟩;obtain ⟨a1,c1,rfl,_⟩:=hN.arg (by omega)
 obtain ⟨hB,hz1,DW⟩:=SB.out;have SF:=qsd (hB.trans (hb.mono (by omega)))
 have hz:w.heap.size≤u1.heap.size:=by have:=hb.size;omega
 clear hN hb H1 hB hz1 DW SB;rw [lX];go_wp2
 go_ret2
 exact ⟨rfl,SF.out.alloc hz _⟩
theorem round_tf {w:World}{a:Option Addr}{l c:Nat}(n:Bool) (e mode:Int) (X:Nat) (e1:Int) (lX:(ws X).length≤8192) (hX:((((ws X).length:Nat):Int)==0)=false) (hm0:0≤mode) (hm4:mode≤4)
 (F cw K K2:Nat) (ex mid:Int) (hF:F≤9007199254740991) (ecv:floatOfInt .f64 (F:Int)=cw)
 (HF:Hid (∀ u,Below w.heap.size w u→Calls Tryz.prog 156 #[.agg #[.bool n,.slice a l c,.int .i64 e]] u fun r w'=>(∃ v,r=.returned (.tuple #[.agg #[.bool false,v,.int .i64 e1],.int .i64 0])∧Nt u.heap.size w' v X)∧Below u.heap.size u w'))
 (HP:Hid (∀ (u:World) (p:Option Addr) (q:Nat),Arg u p (ws X).length q (ws X)→Calls Tryz.prog 157 #[.agg #[.bool false,.slice p (ws X).length q,.int .i64 e1],.agg #[.int .i64 53,.int .i64 (-1074),.int .i64 1024]] u fun r w'=>r=.returned (.agg #[.int .u64 (F:Nat),.int .i64 ex,.bool true,.int .i64 mid])∧Below u.heap.size u w'))
 (HD:Hid (∀ u,Calls Tryz.prog 77 #[.float .f64 cw,.int .i64 ex] u fun r w'=>r=.returned (.float .f64 K)∧w'=u)) :
 Calls Tryz.prog 113 #[.agg #[.bool n,.slice a l c,.int .i64 e],.int .i64 mode,.agg #[.int .i64 53,.int .i64 (-1074),.int .i64 1024]] w fun r w'=>r=.returned (.tuple #[.float .f64 K,.int .i64 0])∧Below w.heap.size w w':=by
 obtain ⟨W1,hW1⟩:∃ W,W=(w.alloc (.cells #[.bool n,.slice a l c,.int .i64 e] 47)).alloc (.cells #[.int .i64 53,.int .i64 (-1074),.int .i64 1024] 130):=⟨_,rfl⟩;obtain ⟨hB,hz1,DD,DW⟩:=round_begin w n (.slice a l c) e 53 (-1074) 1024 W1 hW1;have H1:=hid (HF.out W1 hB);have SB:=(qsd (ai hB (ai hz1 DW)));clear hB hz1 DD DW HF;go_enter Tryz.func113,Tryz.ntmps113
 go_wp2_with fail
 rw [←hW1];clear hW1;refine H1.out.mono ?_;rintro r u1 ⟨⟨v,rfl,hN⟩,hb⟩;obtain ⟨a1,c1,rfl,_⟩:=hN.arg (by omega)
 obtain ⟨hB,hz1,DW⟩:=SB.out;obtain ⟨W2,hW2⟩:∃ W,W=u1.alloc (.cells #[.bool false,.slice a1 (ws X).length c1,.int .i64 e1] 47):=⟨_,rfl⟩;have hbW:Below u1.heap.size u1 W2:=by rw [hW2];exact below_alloc u1 _
 have D2:Dk W2 u1.heap.size false (.slice a1 (ws X).length c1) e1:=by rw [hW2];exact Dk.new u1 _ _ _
 have V2:Wk W2 (w.heap.size+1) 53 (-1074) 1024:=(DW.below hb).below hbW;have hB2:Below w.heap.size w W2:=(hB.trans (hb.mono (by omega))).trans (hbW.mono (by have:=hb.size;omega))
 have H2:=hid (HP.out W2 a1 c1 ((hN.below hbW).arg' (by omega)).2)
 obtain ⟨x0,x1,x2,xf0,xf1,xf2⟩:=D2.facts;obtain ⟨y0,y1,y2⟩:=V2.facts;obtain ⟨t0,t1,t2⟩:=(DW.below hb).facts;have hzu:w.heap.size+1<u1.heap.size:=by have:=hb.size;omega
 have hzz:w.heap.size≤u1.heap.size:=by have:=hb.size;omega
 have hz4:u1.heap.size<W2.heap.size:=D2.lt;have S2:=(qsd (ai hB2 D2));clear hN hb H1 hB hz1 DW SB hbW D2 V2 hB2 HP
 go_wp2_with fail
 rw [←hW2];clear hW2;refine H2.out.mono ?_;rintro r u2 ⟨rfl,hb⟩;obtain ⟨W3,hW3⟩:∃ W,W=u2.alloc (.cells #[.int .u64 (F:Nat),.int .i64 ex,.bool true,.int .i64 mid] 174):=⟨_,rfl⟩;have hbW:Below u2.heap.size u2 W3:=by rw [hW3];exact below_alloc u2 _
 have P3:Pk W3 u2.heap.size (F:Nat) ex true mid:=by rw [hW3];exact heap_alloc_new _ _
 have D3:=(S2.out.2.below hb).below hbW;have hB3:Below w.heap.size w W3:=(S2.out.1.trans (hb.mono (by omega))).trans (hbW.mono (by have:=hb.size;omega))
 have hz6:u1.heap.size<u2.heap.size:=by have:=hb.size;omega
 obtain ⟨q0,q1,q2,q3,qf0,qf1,qf2,qf3⟩:=P3.facts;obtain ⟨d0,d1,d2,df0,df1,df2⟩:=D3.facts;have hz5:w.heap.size≤u2.heap.size:=by omega
 have hz7:u2.heap.size<W3.heap.size:=P3.lt;have S3:=(qsd (ai hB3 (ai P3 D3)));clear hb hbW P3 D3 hB3 S2 H2 x0 x1 x2 xf0 xf1 xf2 y0 y1 y2
 go_upto_region 7 with fail
 rw [←hW3];clear hW3
 go_wp2_with fail
 try simp only [ecv]
 refine (Calls.mono (HD.out _)) ?_;rintro r ww ⟨rfl,hw⟩;rw [hw];clear hw ww HD;go_wp2
 go_ret2
 exact ⟨rfl,S3.out.1⟩
theorem round_tt {w:World}{a:Option Addr}{l c:Nat}(n:Bool) (e mode:Int) (X:Nat) (e1:Int) (lX:(ws X).length≤8192) (hX:((((ws X).length:Nat):Int)==0)=false) (hm0:0≤mode) (hm4:mode≤4)
 (F cw K K2:Nat) (ex mid:Int) (hF:F≤9007199254740991) (ecv:floatOfInt .f64 (F:Int)=cw)
 (HF:Hid (∀ u,Below w.heap.size w u→Calls Tryz.prog 156 #[.agg #[.bool n,.slice a l c,.int .i64 e]] u fun r w'=>(∃ v,r=.returned (.tuple #[.agg #[.bool true,v,.int .i64 e1],.int .i64 0])∧Nt u.heap.size w' v X)∧Below u.heap.size u w'))
 (HP:Hid (∀ (u:World) (p:Option Addr) (q:Nat),Arg u p (ws X).length q (ws X)→Calls Tryz.prog 157 #[.agg #[.bool true,.slice p (ws X).length q,.int .i64 e1],.agg #[.int .i64 53,.int .i64 (-1074),.int .i64 1024]] u fun r w'=>r=.returned (.agg #[.int .u64 (F:Nat),.int .i64 ex,.bool true,.int .i64 mid])∧Below u.heap.size u w'))
 (HD:Hid (∀ u,Calls Tryz.prog 77 #[.float .f64 cw,.int .i64 ex] u fun r w'=>r=.returned (.float .f64 K)∧w'=u))
 (HC:Hid (∀ u,Calls Tryz.prog 159 #[.float .f64 K,.float .f64 13830554455654793216] u fun r w'=>r=.returned (.float .f64 K2)∧w'=u)) :
 Calls Tryz.prog 113 #[.agg #[.bool n,.slice a l c,.int .i64 e],.int .i64 mode,.agg #[.int .i64 53,.int .i64 (-1074),.int .i64 1024]] w fun r w'=>r=.returned (.tuple #[.float .f64 K2,.int .i64 0])∧Below w.heap.size w w':=by
 obtain ⟨W1,hW1⟩:∃ W,W=(w.alloc (.cells #[.bool n,.slice a l c,.int .i64 e] 47)).alloc (.cells #[.int .i64 53,.int .i64 (-1074),.int .i64 1024] 130):=⟨_,rfl⟩;obtain ⟨hB,hz1,DD,DW⟩:=round_begin w n (.slice a l c) e 53 (-1074) 1024 W1 hW1;have H1:=hid (HF.out W1 hB);have SB:=(qsd (ai hB (ai hz1 DW)));clear hB hz1 DD DW HF;go_enter Tryz.func113,Tryz.ntmps113
 go_wp2_with fail
 rw [←hW1];clear hW1;refine H1.out.mono ?_;rintro r u1 ⟨⟨v,rfl,hN⟩,hb⟩;obtain ⟨a1,c1,rfl,_⟩:=hN.arg (by omega)
 obtain ⟨hB,hz1,DW⟩:=SB.out;obtain ⟨W2,hW2⟩:∃ W,W=u1.alloc (.cells #[.bool true,.slice a1 (ws X).length c1,.int .i64 e1] 47):=⟨_,rfl⟩;have hbW:Below u1.heap.size u1 W2:=by rw [hW2];exact below_alloc u1 _
 have D2:Dk W2 u1.heap.size true (.slice a1 (ws X).length c1) e1:=by rw [hW2];exact Dk.new u1 _ _ _
 have V2:Wk W2 (w.heap.size+1) 53 (-1074) 1024:=(DW.below hb).below hbW;have hB2:Below w.heap.size w W2:=(hB.trans (hb.mono (by omega))).trans (hbW.mono (by have:=hb.size;omega))
 have H2:=hid (HP.out W2 a1 c1 ((hN.below hbW).arg' (by omega)).2)
 obtain ⟨x0,x1,x2,xf0,xf1,xf2⟩:=D2.facts;obtain ⟨y0,y1,y2⟩:=V2.facts;obtain ⟨t0,t1,t2⟩:=(DW.below hb).facts;have hzu:w.heap.size+1<u1.heap.size:=by have:=hb.size;omega
 have hzz:w.heap.size≤u1.heap.size:=by have:=hb.size;omega
 have hz4:u1.heap.size<W2.heap.size:=D2.lt;have S2:=(qsd (ai hB2 D2));clear hN hb H1 hB hz1 DW SB hbW D2 V2 hB2 HP
 go_wp2_with fail
 rw [←hW2];clear hW2;refine H2.out.mono ?_;rintro r u2 ⟨rfl,hb⟩;obtain ⟨W3,hW3⟩:∃ W,W=u2.alloc (.cells #[.int .u64 (F:Nat),.int .i64 ex,.bool true,.int .i64 mid] 174):=⟨_,rfl⟩;have hbW:Below u2.heap.size u2 W3:=by rw [hW3];exact below_alloc u2 _
 have P3:Pk W3 u2.heap.size (F:Nat) ex true mid:=by rw [hW3];exact heap_alloc_new _ _
 have D3:=(S2.out.2.below hb).below hbW;have hB3:Below w.heap.size w W3:=(S2.out.1.trans (hb.mono (by omega))).trans (hbW.mono (by have:=hb.size;omega))
 have hz6:u1.heap.size<u2.heap.size:=by have:=hb.size;omega
 obtain ⟨q0,q1,q2,q3,qf0,qf1,qf2,qf3⟩:=P3.facts;obtain ⟨d0,d1,d2,df0,df1,df2⟩:=D3.facts;have hz5:w.heap.size≤u2.heap.size:=by omega
 have hz7:u2.heap.size<W3.heap.size:=P3.lt;have S3:=(qsd (ai hB3 (ai P3 D3)));clear hb hbW P3 D3 hB3 S2 H2 x0 x1 x2 xf0 xf1 xf2 y0 y1 y2
 go_upto_region 7 with fail
 rw [←hW3];clear hW3
 go_wp2_with fail
 try simp only [ecv]
 refine (Calls.mono (HD.out _)) ?_;rintro r ww ⟨rfl,hw⟩;rw [hw];clear hw ww HD
 go_wp2_with fail
 refine (Calls.mono (HC.out _)) ?_;rintro r ww ⟨rfl,hw⟩;rw [hw];clear hw ww HC;go_wp2
 go_ret2
 exact ⟨rfl,S3.out.1⟩
theorem round_fff {w:World}{a:Option Addr}{l c:Nat}(n:Bool) (e mode:Int) (X:Nat) (e1:Int) (lX:(ws X).length≤8192) (hX:((((ws X).length:Nat):Int)==0)=false) (hm0:0≤mode) (hm4:mode≤4)
 (F cw K K2:Nat) (ex mid:Int) (hF:F≤9007199254740991) (ecv:floatOfInt .f64 (F:Int)=cw)
 (HF:Hid (∀ u,Below w.heap.size w u→Calls Tryz.prog 156 #[.agg #[.bool n,.slice a l c,.int .i64 e]] u fun r w'=>(∃ v,r=.returned (.tuple #[.agg #[.bool false,v,.int .i64 e1],.int .i64 0])∧Nt u.heap.size w' v X)∧Below u.heap.size u w'))
 (HP:Hid (∀ (u:World) (p:Option Addr) (q:Nat),Arg u p (ws X).length q (ws X)→Calls Tryz.prog 157 #[.agg #[.bool false,.slice p (ws X).length q,.int .i64 e1],.agg #[.int .i64 53,.int .i64 (-1074),.int .i64 1024]] u fun r w'=>r=.returned (.agg #[.int .u64 (F:Nat),.int .i64 ex,.bool false,.int .i64 mid])∧Below u.heap.size u w'))
 (HG:Hid (∀ u,Calls Tryz.prog 158 #[.agg #[.int .u64 (F:Nat),.int .i64 ex,.bool false,.int .i64 mid],.int .i64 mode,.bool false] u fun r w'=>r=.returned (.bool false)∧Below u.heap.size u w'))
 (HD:Hid (∀ u,Calls Tryz.prog 77 #[.float .f64 cw,.int .i64 ex] u fun r w'=>r=.returned (.float .f64 K)∧w'=u)) :
 Calls Tryz.prog 113 #[.agg #[.bool n,.slice a l c,.int .i64 e],.int .i64 mode,.agg #[.int .i64 53,.int .i64 (-1074),.int .i64 1024]] w fun r w'=>r=.returned (.tuple #[.float .f64 K,.int .i64 0])∧Below w.heap.size w w':=by
 obtain ⟨W1,hW1⟩:∃ W,W=(w.alloc (.cells #[.bool n,.slice a l c,.int .i64 e] 47)).alloc (.cells #[.int .i64 53,.int .i64 (-1074),.int .i64 1024] 130):=⟨_,rfl⟩;obtain ⟨hB,hz1,DD,DW⟩:=round_begin w n (.slice a l c) e 53 (-1074) 1024 W1 hW1;have H1:=hid (HF.out W1 hB);have SB:=(qsd (ai hB (ai hz1 DW)));clear hB hz1 DD DW HF;go_enter Tryz.func113,Tryz.ntmps113
 go_wp2_with fail
 rw [←hW1];clear hW1;refine H1.out.mono ?_;rintro r u1 ⟨⟨v,rfl,hN⟩,hb⟩;obtain ⟨a1,c1,rfl,_⟩:=hN.arg (by omega)
 obtain ⟨hB,hz1,DW⟩:=SB.out;obtain ⟨W2,hW2⟩:∃ W,W=u1.alloc (.cells #[.bool false,.slice a1 (ws X).length c1,.int .i64 e1] 47):=⟨_,rfl⟩;have hbW:Below u1.heap.size u1 W2:=by rw [hW2];exact below_alloc u1 _
 have D2:Dk W2 u1.heap.size false (.slice a1 (ws X).length c1) e1:=by rw [hW2];exact Dk.new u1 _ _ _
 have V2:Wk W2 (w.heap.size+1) 53 (-1074) 1024:=(DW.below hb).below hbW;have hB2:Below w.heap.size w W2:=(hB.trans (hb.mono (by omega))).trans (hbW.mono (by have:=hb.size;omega))
 have H2:=hid (HP.out W2 a1 c1 ((hN.below hbW).arg' (by omega)).2)
 obtain ⟨x0,x1,x2,xf0,xf1,xf2⟩:=D2.facts;obtain ⟨y0,y1,y2⟩:=V2.facts;obtain ⟨t0,t1,t2⟩:=(DW.below hb).facts;have hzu:w.heap.size+1<u1.heap.size:=by have:=hb.size;omega
 have hzz:w.heap.size≤u1.heap.size:=by have:=hb.size;omega
 have hz4:u1.heap.size<W2.heap.size:=D2.lt;have S2:=(qsd (ai hB2 D2));clear hN hb H1 hB hz1 DW SB hbW D2 V2 hB2 HP
 go_wp2_with fail
 rw [←hW2];clear hW2;refine H2.out.mono ?_;rintro r u2 ⟨rfl,hb⟩;obtain ⟨W3,hW3⟩:∃ W,W=u2.alloc (.cells #[.int .u64 (F:Nat),.int .i64 ex,.bool false,.int .i64 mid] 174):=⟨_,rfl⟩;have hbW:Below u2.heap.size u2 W3:=by rw [hW3];exact below_alloc u2 _
 have P3:Pk W3 u2.heap.size (F:Nat) ex false mid:=by rw [hW3];exact heap_alloc_new _ _
 have D3:=(S2.out.2.below hb).below hbW;have hB3:Below w.heap.size w W3:=(S2.out.1.trans (hb.mono (by omega))).trans (hbW.mono (by have:=hb.size;omega))
 have hz6:u1.heap.size<u2.heap.size:=by have:=hb.size;omega
 obtain ⟨q0,q1,q2,q3,qf0,qf1,qf2,qf3⟩:=P3.facts;obtain ⟨d0,d1,d2,df0,df1,df2⟩:=D3.facts;have hz5:w.heap.size≤u2.heap.size:=by omega
 have hz7:u2.heap.size<W3.heap.size:=P3.lt;have S3:=(qsd (ai hB3 (ai P3 D3)));clear hb hbW P3 D3 hB3 S2 H2 x0 x1 x2 xf0 xf1 xf2 y0 y1 y2
 go_upto_region 7 with fail
 rw [←hW3];clear hW3
 go_wp2_with fail
 refine (Calls.mono (HG.out _)) ?_;rintro r u3 ⟨rfl,hb⟩;have P4:=S3.out.2.1.below hb;have D4:=S3.out.2.2.below hb;have hB4:Below w.heap.size w u3:=S3.out.1.trans (hb.mono (by omega))
 have hz8:w.heap.size≤u3.heap.size:=by have:=hb.size;omega
 obtain ⟨r0,r1,r2,r3,rf0,rf1,rf2,rf3⟩:=P4.facts;obtain ⟨s0,s1,s2,sf0,sf1,sf2⟩:=D4.facts;have S4:=qsd hB4;clear hb P4 D4 hB4 S3 HG q0 q1 q2 q3 qf0 qf1 qf2 qf3 d0 d1 d2 df0 df1 df2
 go_wp2_with fail
 try simp only [ecv]
 refine (Calls.mono (HD.out _)) ?_;rintro r ww ⟨rfl,hw⟩;rw [hw];clear hw ww HD;go_wp2
 go_ret2
 exact ⟨rfl,S4.out⟩
theorem round_fft {w:World}{a:Option Addr}{l c:Nat}(n:Bool) (e mode:Int) (X:Nat) (e1:Int) (lX:(ws X).length≤8192) (hX:((((ws X).length:Nat):Int)==0)=false) (hm0:0≤mode) (hm4:mode≤4)
 (F cw K K2:Nat) (ex mid:Int) (hF:F≤9007199254740991) (ecv:floatOfInt .f64 (F:Int)=cw)
 (HF:Hid (∀ u,Below w.heap.size w u→Calls Tryz.prog 156 #[.agg #[.bool n,.slice a l c,.int .i64 e]] u fun r w'=>(∃ v,r=.returned (.tuple #[.agg #[.bool true,v,.int .i64 e1],.int .i64 0])∧Nt u.heap.size w' v X)∧Below u.heap.size u w'))
 (HP:Hid (∀ (u:World) (p:Option Addr) (q:Nat),Arg u p (ws X).length q (ws X)→Calls Tryz.prog 157 #[.agg #[.bool true,.slice p (ws X).length q,.int .i64 e1],.agg #[.int .i64 53,.int .i64 (-1074),.int .i64 1024]] u fun r w'=>r=.returned (.agg #[.int .u64 (F:Nat),.int .i64 ex,.bool false,.int .i64 mid])∧Below u.heap.size u w'))
 (HG:Hid (∀ u,Calls Tryz.prog 158 #[.agg #[.int .u64 (F:Nat),.int .i64 ex,.bool false,.int .i64 mid],.int .i64 mode,.bool true] u fun r w'=>r=.returned (.bool false)∧Below u.heap.size u w'))
 (HD:Hid (∀ u,Calls Tryz.prog 77 #[.float .f64 cw,.int .i64 ex] u fun r w'=>r=.returned (.float .f64 K)∧w'=u))
 (HC:Hid (∀ u,Calls Tryz.prog 159 #[.float .f64 K,.float .f64 13830554455654793216] u fun r w'=>r=.returned (.float .f64 K2)∧w'=u)) :
 Calls Tryz.prog 113 #[.agg #[.bool n,.slice a l c,.int .i64 e],.int .i64 mode,.agg #[.int .i64 53,.int .i64 (-1074),.int .i64 1024]] w fun r w'=>r=.returned (.tuple #[.float .f64 K2,.int .i64 0])∧Below w.heap.size w w':=by
 obtain ⟨W1,hW1⟩:∃ W,W=(w.alloc (.cells #[.bool n,.slice a l c,.int .i64 e] 47)).alloc (.cells #[.int .i64 53,.int .i64 (-1074),.int .i64 1024] 130):=⟨_,rfl⟩;obtain ⟨hB,hz1,DD,DW⟩:=round_begin w n (.slice a l c) e 53 (-1074) 1024 W1 hW1;have H1:=hid (HF.out W1 hB);have SB:=(qsd (ai hB (ai hz1 DW)));clear hB hz1 DD DW HF;go_enter Tryz.func113,Tryz.ntmps113
 go_wp2_with fail
 rw [←hW1];clear hW1;refine H1.out.mono ?_;rintro r u1 ⟨⟨v,rfl,hN⟩,hb⟩;obtain ⟨a1,c1,rfl,_⟩:=hN.arg (by omega)
 obtain ⟨hB,hz1,DW⟩:=SB.out;obtain ⟨W2,hW2⟩:∃ W,W=u1.alloc (.cells #[.bool true,.slice a1 (ws X).length c1,.int .i64 e1] 47):=⟨_,rfl⟩;have hbW:Below u1.heap.size u1 W2:=by rw [hW2];exact below_alloc u1 _
 have D2:Dk W2 u1.heap.size true (.slice a1 (ws X).length c1) e1:=by rw [hW2];exact Dk.new u1 _ _ _
 have V2:Wk W2 (w.heap.size+1) 53 (-1074) 1024:=(DW.below hb).below hbW;have hB2:Below w.heap.size w W2:=(hB.trans (hb.mono (by omega))).trans (hbW.mono (by have:=hb.size;omega))
 have H2:=hid (HP.out W2 a1 c1 ((hN.below hbW).arg' (by omega)).2)
 obtain ⟨x0,x1,x2,xf0,xf1,xf2⟩:=D2.facts;obtain ⟨y0,y1,y2⟩:=V2.facts;obtain ⟨t0,t1,t2⟩:=(DW.below hb).facts;have hzu:w.heap.size+1<u1.heap.size:=by have:=hb.size;omega
 have hzz:w.heap.size≤u1.heap.size:=by have:=hb.size;omega
 have hz4:u1.heap.size<W2.heap.size:=D2.lt;have S2:=(qsd (ai hB2 D2));clear hN hb H1 hB hz1 DW SB hbW D2 V2 hB2 HP
 go_wp2_with fail
 rw [←hW2];clear hW2;refine H2.out.mono ?_;rintro r u2 ⟨rfl,hb⟩;obtain ⟨W3,hW3⟩:∃ W,W=u2.alloc (.cells #[.int .u64 (F:Nat),.int .i64 ex,.bool false,.int .i64 mid] 174):=⟨_,rfl⟩;have hbW:Below u2.heap.size u2 W3:=by rw [hW3];exact below_alloc u2 _
 have P3:Pk W3 u2.heap.size (F:Nat) ex false mid:=by rw [hW3];exact heap_alloc_new _ _
 have D3:=(S2.out.2.below hb).below hbW;have hB3:Below w.heap.size w W3:=(S2.out.1.trans (hb.mono (by omega))).trans (hbW.mono (by have:=hb.size;omega))
 have hz6:u1.heap.size<u2.heap.size:=by have:=hb.size;omega
 obtain ⟨q0,q1,q2,q3,qf0,qf1,qf2,qf3⟩:=P3.facts;obtain ⟨d0,d1,d2,df0,df1,df2⟩:=D3.facts;have hz5:w.heap.size≤u2.heap.size:=by omega
 have hz7:u2.heap.size<W3.heap.size:=P3.lt;have S3:=(qsd (ai hB3 (ai P3 D3)));clear hb hbW P3 D3 hB3 S2 H2 x0 x1 x2 xf0 xf1 xf2 y0 y1 y2
 go_upto_region 7 with fail
 rw [←hW3];clear hW3
 go_wp2_with fail
 refine (Calls.mono (HG.out _)) ?_;rintro r u3 ⟨rfl,hb⟩;have P4:=S3.out.2.1.below hb;have D4:=S3.out.2.2.below hb;have hB4:Below w.heap.size w u3:=S3.out.1.trans (hb.mono (by omega))
 have hz8:w.heap.size≤u3.heap.size:=by have:=hb.size;omega
 obtain ⟨r0,r1,r2,r3,rf0,rf1,rf2,rf3⟩:=P4.facts;obtain ⟨s0,s1,s2,sf0,sf1,sf2⟩:=D4.facts;have S4:=qsd hB4;clear hb P4 D4 hB4 S3 HG q0 q1 q2 q3 qf0 qf1 qf2 qf3 d0 d1 d2 df0 df1 df2
 go_wp2_with fail
 try simp only [ecv]
 refine (Calls.mono (HD.out _)) ?_;rintro r ww ⟨rfl,hw⟩;rw [hw];clear hw ww HD
 go_wp2_with fail
 refine (Calls.mono (HC.out _)) ?_;rintro r ww ⟨rfl,hw⟩;rw [hw];clear hw ww HC;go_wp2
 go_ret2
 exact ⟨rfl,S4.out⟩
theorem round_ftf {w:World}{a:Option Addr}{l c:Nat}(n:Bool) (e mode:Int) (X:Nat) (e1:Int) (lX:(ws X).length≤8192) (hX:((((ws X).length:Nat):Int)==0)=false) (hm0:0≤mode) (hm4:mode≤4)
 (F cw K K2:Nat) (ex mid:Int) (hF:F≤9007199254740991) (ecv:floatOfInt .f64 ((F:Int)+1)=cw)
 (HF:Hid (∀ u,Below w.heap.size w u→Calls Tryz.prog 156 #[.agg #[.bool n,.slice a l c,.int .i64 e]] u fun r w'=>(∃ v,r=.returned (.tuple #[.agg #[.bool false,v,.int .i64 e1],.int .i64 0])∧Nt u.heap.size w' v X)∧Below u.heap.size u w'))
 (HP:Hid (∀ (u:World) (p:Option Addr) (q:Nat),Arg u p (ws X).length q (ws X)→Calls Tryz.prog 157 #[.agg #[.bool false,.slice p (ws X).length q,.int .i64 e1],.agg #[.int .i64 53,.int .i64 (-1074),.int .i64 1024]] u fun r w'=>r=.returned (.agg #[.int .u64 (F:Nat),.int .i64 ex,.bool false,.int .i64 mid])∧Below u.heap.size u w'))
 (HG:Hid (∀ u,Calls Tryz.prog 158 #[.agg #[.int .u64 (F:Nat),.int .i64 ex,.bool false,.int .i64 mid],.int .i64 mode,.bool false] u fun r w'=>r=.returned (.bool true)∧Below u.heap.size u w'))
 (HD:Hid (∀ u,Calls Tryz.prog 77 #[.float .f64 cw,.int .i64 ex] u fun r w'=>r=.returned (.float .f64 K)∧w'=u)) :
 Calls Tryz.prog 113 #[.agg #[.bool n,.slice a l c,.int .i64 e],.int .i64 mode,.agg #[.int .i64 53,.int .i64 (-1074),.int .i64 1024]] w fun r w'=>r=.returned (.tuple #[.float .f64 K,.int .i64 0])∧Below w.heap.size w w':=by
 obtain ⟨W1,hW1⟩:∃ W,W=(w.alloc (.cells #[.bool n,.slice a l c,.int .i64 e] 47)).alloc (.cells #[.int .i64 53,.int .i64 (-1074),.int .i64 1024] 130):=⟨_,rfl⟩;obtain ⟨hB,hz1,DD,DW⟩:=round_begin w n (.slice a l c) e 53 (-1074) 1024 W1 hW1;have H1:=hid (HF.out W1 hB);have SB:=(qsd (ai hB (ai hz1 DW)));clear hB hz1 DD DW HF;go_enter Tryz.func113,Tryz.ntmps113
 go_wp2_with fail
 rw [←hW1];clear hW1;refine H1.out.mono ?_;rintro r u1 ⟨⟨v,rfl,hN⟩,hb⟩;obtain ⟨a1,c1,rfl,_⟩:=hN.arg (by omega)
 obtain ⟨hB,hz1,DW⟩:=SB.out;obtain ⟨W2,hW2⟩:∃ W,W=u1.alloc (.cells #[.bool false,.slice a1 (ws X).length c1,.int .i64 e1] 47):=⟨_,rfl⟩;have hbW:Below u1.heap.size u1 W2:=by rw [hW2];exact below_alloc u1 _
 have D2:Dk W2 u1.heap.size false (.slice a1 (ws X).length c1) e1:=by rw [hW2];exact Dk.new u1 _ _ _
 have V2:Wk W2 (w.heap.size+1) 53 (-1074) 1024:=(DW.below hb).below hbW;have hB2:Below w.heap.size w W2:=(hB.trans (hb.mono (by omega))).trans (hbW.mono (by have:=hb.size;omega))
 have H2:=hid (HP.out W2 a1 c1 ((hN.below hbW).arg' (by omega)).2)
 obtain ⟨x0,x1,x2,xf0,xf1,xf2⟩:=D2.facts;obtain ⟨y0,y1,y2⟩:=V2.facts;obtain ⟨t0,t1,t2⟩:=(DW.below hb).facts;have hzu:w.heap.size+1<u1.heap.size:=by have:=hb.size;omega
 have hzz:w.heap.size≤u1.heap.size:=by have:=hb.size;omega
 have hz4:u1.heap.size<W2.heap.size:=D2.lt;have S2:=(qsd (ai hB2 D2));clear hN hb H1 hB hz1 DW SB hbW D2 V2 hB2 HP
 go_wp2_with fail
 rw [←hW2];clear hW2;refine H2.out.mono ?_;rintro r u2 ⟨rfl,hb⟩;obtain ⟨W3,hW3⟩:∃ W,W=u2.alloc (.cells #[.int .u64 (F:Nat),.int .i64 ex,.bool false,.int .i64 mid] 174):=⟨_,rfl⟩;have hbW:Below u2.heap.size u2 W3:=by rw [hW3];exact below_alloc u2 _
 have P3:Pk W3 u2.heap.size (F:Nat) ex false mid:=by rw [hW3];exact heap_alloc_new _ _
 have D3:=(S2.out.2.below hb).below hbW;have hB3:Below w.heap.size w W3:=(S2.out.1.trans (hb.mono (by omega))).trans (hbW.mono (by have:=hb.size;omega))
 have hz6:u1.heap.size<u2.heap.size:=by have:=hb.size;omega
 obtain ⟨q0,q1,q2,q3,qf0,qf1,qf2,qf3⟩:=P3.facts;obtain ⟨d0,d1,d2,df0,df1,df2⟩:=D3.facts;have hz5:w.heap.size≤u2.heap.size:=by omega
 have hz7:u2.heap.size<W3.heap.size:=P3.lt;have S3:=(qsd (ai hB3 (ai P3 D3)));clear hb hbW P3 D3 hB3 S2 H2 x0 x1 x2 xf0 xf1 xf2 y0 y1 y2
 go_upto_region 7 with fail
 rw [←hW3];clear hW3
 go_wp2_with fail
 refine (Calls.mono (HG.out _)) ?_;rintro r u3 ⟨rfl,hb⟩;have P4:=S3.out.2.1.below hb;have D4:=S3.out.2.2.below hb;have hB4:Below w.heap.size w u3:=S3.out.1.trans (hb.mono (by omega))
 have hz8:w.heap.size≤u3.heap.size:=by have:=hb.size;omega
 obtain ⟨r0,r1,r2,r3,rf0,rf1,rf2,rf3⟩:=P4.facts;obtain ⟨s0,s1,s2,sf0,sf1,sf2⟩:=D4.facts;have S4:=qsd hB4;clear hb P4 D4 hB4 S3 HG q0 q1 q2 q3 qf0 qf1 qf2 qf3 d0 d1 d2 df0 df1 df2
 go_wp2_with fail
 try simp only [ecv]
 refine (Calls.mono (HD.out _)) ?_;rintro r ww ⟨rfl,hw⟩;rw [hw];clear hw ww HD;go_wp2
 go_ret2
 exact ⟨rfl,Below.setC S4.out _ _ _ hz5 hz8⟩
theorem round_ftt {w:World}{a:Option Addr}{l c:Nat}(n:Bool) (e mode:Int) (X:Nat) (e1:Int) (lX:(ws X).length≤8192) (hX:((((ws X).length:Nat):Int)==0)=false) (hm0:0≤mode) (hm4:mode≤4)
 (F cw K K2:Nat) (ex mid:Int) (hF:F≤9007199254740991) (ecv:floatOfInt .f64 ((F:Int)+1)=cw)
 (HF:Hid (∀ u,Below w.heap.size w u→Calls Tryz.prog 156 #[.agg #[.bool n,.slice a l c,.int .i64 e]] u fun r w'=>(∃ v,r=.returned (.tuple #[.agg #[.bool true,v,.int .i64 e1],.int .i64 0])∧Nt u.heap.size w' v X)∧Below u.heap.size u w'))
 (HP:Hid (∀ (u:World) (p:Option Addr) (q:Nat),Arg u p (ws X).length q (ws X)→Calls Tryz.prog 157 #[.agg #[.bool true,.slice p (ws X).length q,.int .i64 e1],.agg #[.int .i64 53,.int .i64 (-1074),.int .i64 1024]] u fun r w'=>r=.returned (.agg #[.int .u64 (F:Nat),.int .i64 ex,.bool false,.int .i64 mid])∧Below u.heap.size u w'))
 (HG:Hid (∀ u,Calls Tryz.prog 158 #[.agg #[.int .u64 (F:Nat),.int .i64 ex,.bool false,.int .i64 mid],.int .i64 mode,.bool true] u fun r w'=>r=.returned (.bool true)∧Below u.heap.size u w'))
 (HD:Hid (∀ u,Calls Tryz.prog 77 #[.float .f64 cw,.int .i64 ex] u fun r w'=>r=.returned (.float .f64 K)∧w'=u))
 (HC:Hid (∀ u,Calls Tryz.prog 159 #[.float .f64 K,.float .f64 13830554455654793216] u fun r w'=>r=.returned (.float .f64 K2)∧w'=u)) :
 Calls Tryz.prog 113 #[.agg #[.bool n,.slice a l c,.int .i64 e],.int .i64 mode,.agg #[.int .i64 53,.int .i64 (-1074),.int .i64 1024]] w fun r w'=>r=.returned (.tuple #[.float .f64 K2,.int .i64 0])∧Below w.heap.size w w':=by
 obtain ⟨W1,hW1⟩:∃ W,W=(w.alloc (.cells #[.bool n,.slice a l c,.int .i64 e] 47)).alloc (.cells #[.int .i64 53,.int .i64 (-1074),.int .i64 1024] 130):=⟨_,rfl⟩;obtain ⟨hB,hz1,DD,DW⟩:=round_begin w n (.slice a l c) e 53 (-1074) 1024 W1 hW1;have H1:=hid (HF.out W1 hB);have SB:=(qsd (ai hB (ai hz1 DW)));clear hB hz1 DD DW HF;go_enter Tryz.func113,Tryz.ntmps113
 go_wp2_with fail
 rw [←hW1];clear hW1;refine H1.out.mono ?_;rintro r u1 ⟨⟨v,rfl,hN⟩,hb⟩;obtain ⟨a1,c1,rfl,_⟩:=hN.arg (by omega)
 obtain ⟨hB,hz1,DW⟩:=SB.out;obtain ⟨W2,hW2⟩:∃ W,W=u1.alloc (.cells #[.bool true,.slice a1 (ws X).length c1,.int .i64 e1] 47):=⟨_,rfl⟩;have hbW:Below u1.heap.size u1 W2:=by rw [hW2];exact below_alloc u1 _
 have D2:Dk W2 u1.heap.size true (.slice a1 (ws X).length c1) e1:=by rw [hW2];exact Dk.new u1 _ _ _
 have V2:Wk W2 (w.heap.size+1) 53 (-1074) 1024:=(DW.below hb).below hbW;have hB2:Below w.heap.size w W2:=(hB.trans (hb.mono (by omega))).trans (hbW.mono (by have:=hb.size;omega))
 have H2:=hid (HP.out W2 a1 c1 ((hN.below hbW).arg' (by omega)).2)
 obtain ⟨x0,x1,x2,xf0,xf1,xf2⟩:=D2.facts;obtain ⟨y0,y1,y2⟩:=V2.facts;obtain ⟨t0,t1,t2⟩:=(DW.below hb).facts;have hzu:w.heap.size+1<u1.heap.size:=by have:=hb.size;omega
 have hzz:w.heap.size≤u1.heap.size:=by have:=hb.size;omega
 have hz4:u1.heap.size<W2.heap.size:=D2.lt;have S2:=(qsd (ai hB2 D2));clear hN hb H1 hB hz1 DW SB hbW D2 V2 hB2 HP
 go_wp2_with fail
 rw [←hW2];clear hW2;refine H2.out.mono ?_;rintro r u2 ⟨rfl,hb⟩;obtain ⟨W3,hW3⟩:∃ W,W=u2.alloc (.cells #[.int .u64 (F:Nat),.int .i64 ex,.bool false,.int .i64 mid] 174):=⟨_,rfl⟩;have hbW:Below u2.heap.size u2 W3:=by rw [hW3];exact below_alloc u2 _
 have P3:Pk W3 u2.heap.size (F:Nat) ex false mid:=by rw [hW3];exact heap_alloc_new _ _
 have D3:=(S2.out.2.below hb).below hbW;have hB3:Below w.heap.size w W3:=(S2.out.1.trans (hb.mono (by omega))).trans (hbW.mono (by have:=hb.size;omega))
 have hz6:u1.heap.size<u2.heap.size:=by have:=hb.size;omega
 obtain ⟨q0,q1,q2,q3,qf0,qf1,qf2,qf3⟩:=P3.facts;obtain ⟨d0,d1,d2,df0,df1,df2⟩:=D3.facts;have hz5:w.heap.size≤u2.heap.size:=by omega
 have hz7:u2.heap.size<W3.heap.size:=P3.lt;have S3:=(qsd (ai hB3 (ai P3 D3)));clear hb hbW P3 D3 hB3 S2 H2 x0 x1 x2 xf0 xf1 xf2 y0 y1 y2
 go_upto_region 7 with fail
 rw [←hW3];clear hW3
 go_wp2_with fail
 refine (Calls.mono (HG.out _)) ?_;rintro r u3 ⟨rfl,hb⟩;have P4:=S3.out.2.1.below hb;have D4:=S3.out.2.2.below hb;have hB4:Below w.heap.size w u3:=S3.out.1.trans (hb.mono (by omega))
 have hz8:w.heap.size≤u3.heap.size:=by have:=hb.size;omega
 obtain ⟨r0,r1,r2,r3,rf0,rf1,rf2,rf3⟩:=P4.facts;obtain ⟨s0,s1,s2,sf0,sf1,sf2⟩:=D4.facts;have S4:=qsd hB4;clear hb P4 D4 hB4 S3 HG q0 q1 q2 q3 qf0 qf1 qf2 qf3 d0 d1 d2 df0 df1 df2
 go_wp2_with fail
 try simp only [ecv]
 refine (Calls.mono (HD.out _)) ?_;rintro r ww ⟨rfl,hw⟩;rw [hw];clear hw ww HD
 go_wp2_with fail
 refine (Calls.mono (HC.out _)) ?_;rintro r ww ⟨rfl,hw⟩;rw [hw];clear hw ww HC;go_wp2
 go_ret2
 exact ⟨rfl,Below.setC S4.out _ _ _ hz5 hz8⟩
end
section
open Go.RowKit
def rndK (mode:Int) (n:Bool) (X:Nat) (e:Int):Nat :=
 let p:=plc 53 (-1074) 1024 X e
 (p.2.1+1074).toNat*4503599627370496+(if p.2.2.1 then p.1 else if outS mode p.1 p.2.2.2 n then p.1+1 else p.1)
def rndS (o:Option (Bool×Nat×Int)) (mode:Int):Nat×Int :=
 if mode<0∨4<mode then (0,1)
 else match o with
  | none=>(0,2)
  | some (n,X,e)=>if X=0 then (0,0) else (rndK mode n X e+(if n then 9223372036854775808 else 0),0)
theorem plc_mid (X:Nat) (e:Int):(plc 53 (-1074) 1024 X e).2.2.2=-1∨(plc 53 (-1074) 1024 X e).2.2.2=0∨(plc 53 (-1074) 1024 X e).2.2.2=1:=by
 unfold plc
 split
 · simp
 · simp only
   split
   · simp
   · simp only
     split
     · simp
     · split <;> simp
theorem ldexp_word (F:Nat) (ex:Int) (hF:F≤9007199254740992) (h0:-1074≤ex) (h1:ex≤971) (hn:ex=-1074∨4503599627370496≤F) :
 ∃ cw,floatOfInt .f64 (F:Int)=cw∧∀ u,Calls Tryz.prog 77 #[.float .f64 cw,.int .i64 ex] u fun r w'=>r=.returned (.float .f64 ((ex+1074).toNat*4503599627370496+F))∧w'=u:=by
 by_cases hz:F=0
 · subst hz
   obtain rfl:ex=-1074:=by omega
   exact ⟨0,by decide,fun u=>B.Ldexp_nought _ u⟩
 · obtain ⟨e,g,hw⟩:=B.whole_of F (by omega) hF
   exact ⟨_,B.ofInt_whole F e g hw,fun u=>B.Ldexp_any F e g ex u hw (by omega) hF h0 h1 hn⟩
theorem copy_word (K:Nat) (hK:K≤9218868437227405312) (u:World):Calls Tryz.prog 159 #[.float .f64 K,.float .f64 13830554455654793216] u fun r w'=>r=.returned (.float .f64 (K+9223372036854775808))∧w'=u:=by
 have h:=B.copysign_neg (K/4503599627370496) (K%4503599627370496) (by omega) (by omega) u
 have e1:B.bw false (K/4503599627370496) (K%4503599627370496)=K:=by unfold B.bw;simp;omega
 have e2:B.bw true (K/4503599627370496) (K%4503599627370496)=K+9223372036854775808:=by unfold B.bw;simp;omega
 rw [e1,e2] at h;exact h
theorem round_any {w:World}{a:Option Addr}{l c:Nat}{xs:List Nat}(hA:Arg w a l c xs) (hT:Tab w) (n:Bool) (e mode:Int) (he0:-9223372036854775808≤e) (he1:e≤9223372036854775807) :
 Calls Tryz.prog 113 #[.agg #[.bool n,.slice a l c,.int .i64 e],.int .i64 mode,.agg #[.int .i64 53,.int .i64 (-1074),.int .i64 1024]] w fun r w'=>r=.returned (.tuple #[.float .f64 (rndS (mkS n (val xs) e) mode).1,.int .i64 (rndS (mkS n (val xs) e) mode).2])∧Below w.heap.size w w':=by
 unfold rndS
 by_cases hm:mode<0∨4<mode
 · rw [if_pos hm];exact round_mode n a l c e mode w hm
 · rw [if_neg hm]
   have HF:Hid (∀ u,Below w.heap.size w u→Calls Tryz.prog 156 #[.agg #[.bool n,.slice a l c,.int .i64 e]] u fun r w'=>DAns u.heap.size w' r (mkS n (val xs) e)∧Below u.heap.size u w'):=fun u hu=>form_any (hA.below hu) (hT.belows hu) n e he0 he1
   cases ho:mkS n (val xs) e with
   | none =>
     rw [ho] at HF;exact round_err n e mode false 0 0 2 (by rw [ws_zero];simp) (by omega) (by omega) rfl HF
   | some d =>
     obtain ⟨n1,X,e1⟩:=d;rw [ho] at HF;have FX:=mkS_frm ho;simp only
     by_cases hX:X=0
     · rw [if_pos hX]
       exact round_none n e mode n1 X e1 ((ws_len_zero X).2 hX) (by omega) (by omega) HF
     · rw [if_neg hX]
       have pf:=plc_facts X e1 hX FX.down FX.up;have pm:=plc_mid X e1;have HP:∀ (u:World) (p:Option Addr) (q:Nat),Arg u p (ws X).length q (ws X)→Calls Tryz.prog 157 #[.agg #[.bool n1,.slice p (ws X).length q,.int .i64 e1],.agg #[.int .i64 53,.int .i64 (-1074),.int .i64 1024]] u fun r w'=>r=.returned (.agg #[.int .u64 ((plc 53 (-1074) 1024 X e1).1:Nat),.int .i64 (plc 53 (-1074) 1024 X e1).2.1,.bool (plc 53 (-1074) 1024 X e1).2.2.1,.int .i64 (plc 53 (-1074) 1024 X e1).2.2.2])∧Below u.heap.size u w':=fun u p q hA=>placed_any hA n1 e1 FX.down FX.up hX FX.size
       unfold rndK;simp only;generalize plc 53 (-1074) 1024 X e1=P at pf pm HP ⊢;obtain ⟨F,ex,t,mid⟩:=P;simp only at pf pm HP ⊢;obtain ⟨p1,p2,p3,p4⟩:=pf;have HG:∀ u,Calls Tryz.prog 158 #[.agg #[.int .u64 (F:Nat),.int .i64 ex,.bool false,.int .i64 mid],.int .i64 mode,.bool n1] u fun r w'=>r=.returned (.bool (outS mode F mid n1))∧Below u.heap.size u w':=fun u=>goesOut_any F ex false mid mode n1 u (by omega) pm (by omega) (by omega)
       have lX:=frm_len FX
       cases t with
       | true =>
         simp only [if_true];obtain ⟨cw,ecv,HD⟩:=ldexp_word F ex (by omega) p2 p3 p4
         cases n1 with
         | false =>
           simp only [Bool.false_eq_true,if_false,Nat.add_zero];exact round_tf n e mode X e1 lX (len_ne hX) (by omega) (by omega) F cw _ 0 ex mid p1 ecv HF (hid HP) (hid HD)
         | true =>
           simp only [if_true];exact round_tt n e mode X e1 lX (len_ne hX) (by omega) (by omega) F cw _ _ ex mid p1 ecv HF (hid HP) (hid HD) (hid fun u=>copy_word _ (by omega) u)
       | false =>
         simp only [Bool.false_eq_true,if_false]
         cases hob:outS mode F mid n1 with
         | false =>
           rw [hob] at HG;simp only [Bool.false_eq_true,if_false];obtain ⟨cw,ecv,HD⟩:=ldexp_word F ex (by omega) p2 p3 p4
           cases n1 with
           | false =>
             simp only [Bool.false_eq_true,if_false,Nat.add_zero];exact round_fff n e mode X e1 lX (len_ne hX) (by omega) (by omega) F cw _ 0 ex mid p1 ecv HF (hid HP) (hid HG) (hid HD)
           | true =>
             simp only [if_true];exact round_fft n e mode X e1 lX (len_ne hX) (by omega) (by omega) F cw _ _ ex mid p1 ecv HF (hid HP) (hid HG) (hid HD) (hid fun u=>copy_word _ (by omega) u)
         | true =>
           rw [hob] at HG;simp only [if_true];obtain ⟨cw,ecv,HD⟩:=ldexp_word (F+1) ex (by omega) p2 p3 (by omega)
           cases n1 with
           | false =>
             simp only [Bool.false_eq_true,if_false,Nat.add_zero];exact round_ftf n e mode X e1 lX (len_ne hX) (by omega) (by omega) F cw _ 0 ex mid p1 (by simpa using ecv) HF (hid HP) (hid HG) (hid HD)
           | true =>
             simp only [if_true];exact round_ftt n e mode X e1 lX (len_ne hX) (by omega) (by omega) F cw _ _ ex mid p1 (by simpa using ecv) HF (hid HP) (hid HG) (hid HD) (hid fun u=>copy_word _ (by omega) u)
theorem Round_any {w:World}{a:Option Addr}{l c:Nat}{xs:List Nat}(hA:Arg w a l c xs) (hT:Tab w) (n:Bool) (e mode:Int) (he0:-9223372036854775808≤e) (he1:e≤9223372036854775807) :
 Calls Tryz.prog 60 #[.agg #[.bool n,.slice a l c,.int .i64 e],.int .i64 mode] w fun r w'=>r=.returned (.tuple #[.float .f64 (rndS (mkS n (val xs) e) mode).1,.int .i64 (rndS (mkS n (val xs) e) mode).2])∧Below w.heap.size w w':=by
 have hb0:=below_alloc w (.cells #[.bool n,.slice a l c,.int .i64 e] 47);have H:=hid (round_any (hA.below hb0) (hT.belows hb0) n e mode he0 he1);have S0:=qsd hb0;obtain ⟨⟨K,er⟩,hK⟩:∃ K,rndS (mkS n (val xs) e) mode=K:=⟨_,rfl⟩;rw [hK] at H ⊢;simp only at H ⊢;clear hA hT hb0 hK;go_enter Tryz.func60,Tryz.ntmps60
 go_wp2_with fail
 refine H.out.mono ?_;rintro r u1 ⟨rfl,hb⟩;have S1:=qsd hb;clear hb;go_wp2
 go_ret2
 exact ⟨rfl,S0.out.trans (S1.out.mono (by simp))⟩
end
section
open Go.RowKit
def rd7 (V:Int) (s:Sp) (mode a b:Int):Nat×Int :=
 if (ahd V s mode a b).2.1 then ((ahd V s mode a b).1,0) else rndS (mkS (dN (exV V)) (dX (exV V)) (dE (exV V))) mode
theorem ahd_er (V:Int) (s:Sp) (mode a b:Int):(ahd V s mode a b).2.2=0:=by
 unfold ahd
 split
 · rfl
 · split <;> rfl
theorem dX_small {V:Int}(h0:-(HB:Int)<V) (h1:V<(HB:Int)):(ws (dX (exV V))).length≤133:=by
 refine (ws_len_le _ 133).2 ?_;have e:pw 133=PB:=by unfold PB;rfl
 rw [e];have hp:=PB_HB;have hq:=HB_pos;refine Nat.lt_of_le_of_lt (m:=V.natAbs) ?_ (by omega)
 unfold exV mkS dX
 split
 · exact Nat.zero_le _
 · split
   · exact Nat.zero_le _
   · exact Nat.div_le_self _ _
theorem dE_small (V:Int):-9223372036854775808≤dE (exV V)∧dE (exV V)≤9223372036854775807:=by
 unfold exV mkS dE
 split
 · simp
 · split
   · simp
   · next h=>simp only [Option.getD_some];omega
theorem Round7 (g:Nat) (V:Int) (s:Sp) (mode a b:Int) (w:World) (hA:Acc7 w g V s) (hs:s.ok) (hT:Tab w) (hm0:0≤mode) (hm1:mode≤4) (hab:may a b=true) (ha:a≠2) (hb:b≠2) :
 Calls Tryz.prog 39 #[.pointer (some ⟨g,0,none⟩),.int .i64 mode,.agg #[.int .i64 a,.int .i64 b]] w fun r w'=>r=.returned (.tuple #[.float .f64 (rd7 V s mode a b).1,.int .i64 (rd7 V s mode a b).2])∧Below w.heap.size w w':=by
 obtain ⟨⟨X,er⟩,hX⟩:∃ X,X=rd7 V s mode a b:=⟨_,rfl⟩;rw [←hX];simp only;have hb0:=bel_alloc w (Obj.cells #[.int .i64 a,.int .i64 b] 24);have HH:=hid (ahead7 g V s mode a b _ (hA.bel hb0) hs hm0 hm1 hab ha hb);have her:=ahd_er V s mode a b;unfold rd7 at hX;obtain ⟨⟨ax,at',ae⟩,hAh⟩:∃ Y,Y=ahd V s mode a b:=⟨_,rfl⟩;rw [←hAh] at HH her hX;simp only at HH her hX;subst her;have HX:=qsd hX;have HA:=qsd (ai hA (ai hT hb0));clear hA hT hb0 hX hAh hs hab ha hb;go_enter Tryz.func39,Tryz.ntmps39
 go_wp2_with fail
 refine HH.out.mono ?_;rintro r w1 ⟨rfl,hb1⟩;have B1:=qsd (HA.out.2.2.trans (hb1.mono HA.out.2.2.size));clear hb1
 cases at'
 · go_wp2_with fail
   refine (Exact7 g V s w1 (HA.out.1.bel B1.out) (HA.out.2.1.belows B1.out)).mono ?_;rintro r w2 ⟨v,rfl,hN,hb2⟩;obtain ⟨L,_,_,_,h0,h1,_⟩:=HA.out.1;obtain ⟨ad,c,rfl,AV⟩:=hN.arg (Nat.le_trans (dX_small h0 h1) (by decide))
   have HR:=hid (Round_any AV (HA.out.2.1.belows (B1.out.trans (hb2.mono B1.out.size))) (dN (exV V)) (dE (exV V)) mode (dE_small V).1 (dE_small V).2);rw [val_ws] at HR;have HX2:=HX.out;rw [if_neg (by decide)] at HX2
   rw [←HX2] at HR;simp only at HR;have B2:=qsd (B1.out.trans (hb2.mono B1.out.size));clear hN hb2 AV h0 h1 HX2
   go_wp2_with fail
   refine HR.out.mono ?_;rintro r w3 ⟨rfl,hb3⟩;have B3:=qsd hb3;clear hb3;go_wp2;refine bodyPost_ret (v:=.tuple #[.float .f64 X,.int .i64 er]) (by simp [results,Tryz.results39,go_sem]) rfl ?_
   exact ⟨rfl,B2.out.trans (B3.out.mono B2.out.size)⟩
 · go_wp2
   have HX2:=HX.out;rw [if_pos trivial] at HX2
   cases HX2
   refine bodyPost_ret (v:=.tuple #[.float .f64 X,.int .i64 0]) (by simp [results,Tryz.results39,go_sem]) rfl ?_
   exact ⟨rfl,B1.out⟩
end
section
open Go.RowKit
theorem Tryz.zero_acc:Tryz.zeroCells137=((List.replicate 133 0).map U++Sp.cells ⟨0,0,0,0,0,0⟩).toArray:=by kernel_rfl
theorem zero_acc7 {w:World}{g:Nat}(h:Bl w g 137 ((List.replicate 133 0).map U++Sp.cells ⟨0,0,0,0,0,0⟩)):Acc7 w g 0 ⟨0,0,0,0,0,0⟩ :=
 ⟨List.replicate 133 0,by simp,Wf.zeros 133,by rw [val_zeros];simp,by have:=HB_pos;omega,by have:=HB_pos;omega,h⟩
theorem New7 (w:World):Calls Tryz.prog 63 #[] w fun r w'=>r=.returned (.pointer (some ⟨w.heap.size,0,none⟩))∧Acc7 w' w.heap.size 0 ⟨0,0,0,0,0,0⟩∧Below w.heap.size w w':=by
 go_enter Tryz.func63,Tryz.ntmps63;go_wp2;go_ret;refine ⟨rfl,?_,bel_alloc _ _⟩;rw [Tryz.zero_acc];exact zero_acc7 (Bl.new _ _ _)
end
section
open Go.RowKit
open Go.Proofs.YthfkleadcnkglaaGreatDoor.B (bw)
theorem pK_one:pK 4607182418800017408 4607182418800017408=0:=by decide
theorem pT_pow (x:Nat) (ng:Bool) (j k:Nat) (h:pK x 4607182418800017408=0) (hf:frW x=2^52) (hn:(!ngW x==ngW 4607182418800017408)=ng) (hj:(xpW x+xpW 4607182418800017408+2148).toNat=j) (hk:k=104+j):pT x 4607182418800017408=sgn7 ng (2^k):=by
 unfold pT;rw [pv7_yes h,hf,show frW 4607182418800017408=2^52 by decide,hn,hj,hk,←Nat.pow_add,←Nat.pow_add]
theorem pT_one (k:Nat) (hk:k=2148):pT 4607182418800017408 4607182418800017408=((2^k:Nat):Int):=by
 obtain ⟨j,hj⟩:∃ j,j=2044:=⟨_,rfl⟩;rw [pT_pow 4607182418800017408 false j k pK_one (by decide) (by decide) (by rw [hj];decide) (by omega)]
 rfl
theorem bl_double7 (X:Nat) (h:X≠0):bl (2*X)=bl X+1:=by
 have:=bl_mul_pow 1 X h;rw [Nat.pow_one] at this;omega
theorem lo_double7 (X:Nat) (h:X≠0):lo (2*X)=lo X+1:=by
 obtain ⟨m,hm⟩:=lo_form X h;obtain ⟨k,hk⟩:∃ k,lo X=k:=⟨_,rfl⟩;rw [hk] at hm ⊢;have e:2*X=2^(k+1)*(2*m+1):=by rw [hm,Nat.pow_succ];grind
 rw [e];exact lo_eq (k+1) m
theorem mkS_double7 (n:Bool) (X:Nat) (e:Int):mkS n (2*X) e=mkS n X (e+1):=by
 unfold mkS
 by_cases h:X=0
 · subst h;simp
 · rw [if_neg (by omega),if_neg h,lo_double7 X h,bl_double7 X h]
   have e1:2*X/2^(lo X+1)=X/2^lo X:=by
    rw [Nat.pow_succ,Nat.mul_comm (2^lo X) 2,Nat.mul_div_mul_left _ _ (by omega)]
   rw [e1];have e2:(262144<bl X+1-(lo X+1)∨1048576-((lo X+1:Nat):Int)<e∨e < -1048576-((lo X+1:Nat):Int))↔(262144<bl X-lo X∨1048576-(lo X:Int)<e+1∨e+1 < -1048576-(lo X:Int)):=by omega
   by_cases h2:262144<bl X-lo X∨1048576-(lo X:Int)<e+1∨e+1 < -1048576-(lo X:Int)
   · rw [if_pos h2,if_pos (e2.2 h2)]
   · rw [if_neg h2,if_neg (fun h3=>h2 (e2.1 h3))]
     congr 3
     omega
theorem mkS_pow7 (n:Bool) (k:Nat):∀ e:Int,mkS n (2^k) e=mkS n 1 (e+k):=by
 induction k with
 | zero=>intro e;simp
 | succ k ih=>intro e;rw [Nat.pow_succ,Nat.mul_comm,mkS_double7,ih];congr 1;omega
end
section
open Go.RowKit
def QB:Nat:=HB/4398046511104
theorem QB_HB:HB=4398046511104*QB:=by
 obtain ⟨k,hk⟩:∃ k,k=4238:=⟨_,rfl⟩;obtain ⟨j,hj⟩:∃ j,j=4196:=⟨_,rfl⟩;unfold QB;rw [HB_two k hk,show k=42+j by omega,Nat.pow_add]
 have e:(2:Nat)^42=4398046511104:=by decide
 rw [e,Nat.mul_div_cancel_left _ (by decide)]
theorem QB_pos:0<QB:=by have:=QB_HB;have:=HB_pos;omega
theorem pT_small (x y:Nat) (hx:x<18446744073709551616) (hy:y<18446744073709551616):-(QB:Int)≤pT x y∧pT x y≤(QB:Int):=by
 have hp:=QB_pos
 have e2:∃ j,j=4196∧QB=2^j:=by
  obtain ⟨k,hk⟩:∃ k,k=4238:=⟨_,rfl⟩;obtain ⟨j,hj⟩:∃ j,j=4196:=⟨_,rfl⟩;refine ⟨j,hj,?_⟩;unfold QB;rw [HB_two k hk,show k=42+j by omega,Nat.pow_add]
  have e:(2:Nat)^42=4398046511104:=by decide
  rw [e,Nat.mul_div_cancel_left _ (by decide)]
 obtain ⟨j,hj,hq⟩:=e2;unfold pT pv7
 split
 · have f1:=fr_bound (eW x) (fW x) (bw_parts x hx).2.2
   have f2:=fr_bound (eW y) (fW y) (bw_parts y hy).2.2;have x1:=xp_bound (eW x) (bw_parts x hx).2.1;have x2:=xp_bound (eW y) (bw_parts y hy).2.1
   have h1:frW x*frW y<2^106:=by
    have:frW x*frW y≤9007199254740991*9007199254740991:=Nat.mul_le_mul (by unfold frW;omega) (by unfold frW;omega)
    exact Nat.lt_of_le_of_lt this (by decide)
   have h3:frW x*frW y*2^(xpW x+xpW y+2148).toNat<QB:=by
    rw [hq];refine Nat.lt_of_lt_of_le (Nat.mul_lt_mul_of_pos_right h1 (Nat.two_pow_pos _)) ?_;rw [←Nat.pow_add];exact Nat.pow_le_pow_right (by decide) (by unfold xpW;omega)
   have:=sgn_bound (!ngW x==ngW y) _ _ h3;omega
 · constructor <;> omega
def Sp.pos (s:Sp):Prop:=0≤s.n∧0≤s.u∧0≤s.d∧0≤s.m∧0≤s.p∧s.n+s.u+s.d+s.m+s.p≤s.a
theorem Sp.pos.cnt {s:Sp}(h:s.pos) (k:Nat) (hk:k≤5):(s.cnt k 1).pos:=by
 obtain ⟨h0,h1,h2,h3,h4,h5⟩:=h;have hc:k=0∨k=1∨k=2∨k=3∨k=4∨k=5:=by omega
 rcases hc with rfl|rfl|rfl|rfl|rfl|rfl <;> (unfold Sp.pos Sp.cnt;simp;omega)
theorem Sp.pos.ok {s:Sp}(h:s.pos) (ha:s.a≤4398046511104):s.ok:=by
 obtain ⟨h0,h1,h2,h3,h4,h5⟩:=h;unfold Sp.ok;omega
theorem cnt_a (s:Sp) (k:Nat) (c:Int):(s.cnt k c).a=s.a+c:=rfl
theorem put_ok (V:Int) (s:Sp) (k:Nat) (T:Int) (h0:-(HB:Int)<V+T) (h1:V+T<(HB:Int)) (ha:s.a<1099511627776):putS V s k T=(0,V+T,s.cnt k 1):=by
 unfold putS step7;rw [if_neg (by omega),if_pos ⟨h0,h1⟩]
end
section
open Go.RowKit
def vS (l:List Nat):Int:=l.foldl (fun v x=>v+pT x 4607182418800017408) 0
def sS (l:List Nat):Sp:=l.foldl (fun s x=>s.cnt (pK x 4607182418800017408) 1) ⟨0,0,0,0,0,0⟩
theorem take_snoc10 (l:List Nat) (k:Nat) (h:k<l.length):l.take (k+1)=l.take k++[l.getD k 0]:=by
 rw [List.take_succ_eq_append_getElem h,List.getD_eq_getElem?_getD,List.getElem?_eq_getElem h];rfl
theorem vS_take (l:List Nat) (k:Nat) (h:k<l.length):vS (l.take (k+1))=vS (l.take k)+pT (l.getD k 0) 4607182418800017408:=by
 rw [take_snoc10 l k h];simp [vS,List.foldl_append]
theorem sS_take (l:List Nat) (k:Nat) (h:k<l.length):sS (l.take (k+1))=(sS (l.take k)).cnt (pK (l.getD k 0) 4607182418800017408) 1:=by
 rw [take_snoc10 l k h];simp [sS,List.foldl_append]
theorem vS_bound (l:List Nat) (hl:W64 l):∀ k,k≤l.length→-((k*QB:Nat):Int)≤vS (l.take k)∧vS (l.take k)≤((k*QB:Nat):Int)
 | 0,_=>by simp [vS]
 | k+1,h=>by
   obtain ⟨h1,h2⟩:=vS_bound l hl k (by omega)
   have h3:=pT_small (l.getD k 0) 4607182418800017408 (hl.get k) (by decide)
   rw [vS_take l k h];have e:((k+1)*QB:Nat)=k*QB+QB:=by rw [Nat.add_mul,Nat.one_mul]
   omega
theorem sS_pos (l:List Nat):∀ k,k≤l.length→(sS (l.take k)).pos∧(sS (l.take k)).a=k
 | 0,_=>⟨by rw [List.take_zero];unfold Sp.pos sS;decide,rfl⟩
 | k+1,h=>by
   obtain ⟨h1,h2⟩:=sS_pos l k (by omega)
   rw [sS_take l k h];refine ⟨h1.cnt _ (pk_le _ _ _),?_⟩;rw [cnt_a,h2];omega
theorem exact_core (xs:List Nat) (a:Option Addr) (n c:Nat) (mode pa pb:Int) (X:Nat) (er:Int) (w:World) (hn:n=xs.length) (hF:Fs w.heap.size w a xs) (hW:W64 xs) (hT:Tab w) (hm0:0≤mode) (hm1:mode≤4) (hab:may pa pb=true) (hl:n≤65536)
 (HR:Hid (∀ (g:Nat) (u:World),Acc7 u g (vS xs) (sS xs)→(sS xs).ok→Tab u→Calls Tryz.prog 39 #[.pointer (some ⟨g,0,none⟩),.int .i64 mode,.agg #[.int .i64 pa,.int .i64 pb]] u fun r w'=>r=.returned (.tuple #[.float .f64 X,.int .i64 er])∧Below u.heap.size u w')) :
 Calls Tryz.prog 23 #[.slice a n c,.int .i64 mode,.agg #[.int .i64 pa,.int .i64 pb]] w fun r w'=>r=.returned (.tuple #[.float .f64 X,.int .i64 er])∧Below w.heap.size w w':=by
 have HM:=hid (fun u:World=>May_any pa pb u)
 rw [hab] at HM;have HX:=qsd (ai hn (ai hF (ai hW (ai hT hl))));have b0:decide (mode<0)=false:=by simp;omega
 have b1:decide (4<mode)=false:=by simp;omega
 have b2:decide ((65536:Int)<(n:Int))=false:=by simp;omega
 have b3:decide (65536<n)=false:=by simp;omega
 clear hn hF hW hT hm0 hm1 hab hl;go_enter Tryz.func23,Tryz.ntmps23
 go_wp2_with fail
 refine (HM.out _).mono ?_;rintro r w1 ⟨rfl,hb1⟩
 have P1:Aside (Bl w1 w.heap.size 24 [.int .i64 pa,.int .i64 pb]∧Below w.heap.size w w1∧w.heap.size<w1.heap.size):=by
  have e0:=bel_alloc w (Obj.cells #[.int .i64 pa,.int .i64 pb] 24);exact ⟨(Bl.new w 24 [_,_]).below hb1 (by simp),e0.trans (hb1.mono (by simp)),by have:=hb1.size;simp at this;omega⟩
 clear hb1 HM
 go_wp2_with fail
 refine (New7 w1).mono ?_;rintro r w2 ⟨rfl,hA,hb2⟩;obtain ⟨g,hg⟩:∃ g,g=w1.heap.size:=⟨_,rfl⟩;rw [←hg] at hA ⊢
 have P2:Aside (Bl w2 w.heap.size 24 [.int .i64 pa,.int .i64 pb]∧Below w.heap.size w w2∧w.heap.size<g∧Acc7 w2 g 0 ⟨0,0,0,0,0,0⟩) :=
  ⟨P1.out.1.below hb2 P1.out.2.2,P1.out.2.1.trans (hb2.mono P1.out.2.1.size),by rw [hg];exact P1.out.2.2,hA⟩
 clear hb2 hA hg P1;go_wp2
 go_loopg [30] n (fun gk i wr=>∃ k:Nat,gk+k=n∧i=.int .i64 (k:Nat)∧Aside (Acc7 wr g (vS (xs.take k)) (sS (xs.take k))∧Bl wr w.heap.size 24 [.int .i64 pa,.int .i64 pb]∧Below w.heap.size w wr))
 case atStart=>exact ⟨0,by omega,by simp,by simpa [vS,sS] using P2.out.2.2.2,P2.out.1,P2.out.2.1⟩
 case round =>
  obtain ⟨k,hgk,rfl,HA⟩:=hrel
  by_cases hk:k<n
  · obtain ⟨b,off,rfl,hc⟩:=HX.out.2.1.at HA.out.2.2 k (by rw [←HX.out.1];exact hk)
    obtain ⟨x,hx⟩:∃ x,x=xs.getD k 0:=⟨_,rfl⟩;rw [←hx] at hc
    have C:Hid (Calls Tryz.prog 64 #[.pointer (some ⟨g,0,none⟩),.float .f64 x] wr (Did g wr (0,vS (xs.take (k+1)),sS (xs.take (k+1))))):=by
     have hk2:k<xs.length:=by rw [←HX.out.1];exact hk
     obtain ⟨p1,p2⟩:=sS_pos xs k (by omega)
     obtain ⟨v1,v2⟩:=vS_bound xs HX.out.2.2.1 k (by omega)
     have hx64:x<18446744073709551616:=by rw [hx];exact HX.out.2.2.1.get k
     have hsm:=pT_small x 4607182418800017408 hx64 (by decide)
     have hl:=HX.out.2.2.2.2;have hkq:k*QB≤65536*QB:=Nat.mul_le_mul_right _ (by omega)
     have hQ:=QB_HB;have hqp:=QB_pos;have C:=Add7 g (vS (xs.take k)) (sS (xs.take k)) x wr HA.out.1 (p1.ok (by omega)) hx64
     rw [put_ok _ _ _ _ (by omega) (by omega) (by omega)] at C
     rw [vS_take xs k hk2,sS_take xs k hk2,←hx];exact C
    have hkb:k<4611686018427387904:=by have:=HX.out.2.2.2.2;omega
    clear hx
    go_wp2_with fail
    refine (C.out).mono ?_;rintro r w3 ⟨rfl,hA3,hbut⟩;have H3:=qsd (ai hA3 (ai (HA.out.2.1.but hbut (by have:=P2.out.2.2.1;omega)) (But.below HA.out.2.2 hbut HA.out.2.2.size (by have:=P2.out.2.2.1;omega))))
    clear hA3 hbut C;go_wp2
    go_roundg (gk-1)
    case measure=>omega
    case rel=>exact ⟨k+1,by omega,by first | rfl | simp,H3.out⟩
  · have hd:decide ((k:Int)<n)=false:=by simp;omega
    have q0:=HA.out.2.1.cell 0 _ rfl;have q1:=HA.out.2.1.cell 1 _ rfl
    have C:Hid (Calls Tryz.prog 39 #[.pointer (some ⟨g,0,none⟩),.int .i64 mode,.agg #[.int .i64 pa,.int .i64 pb]] wr fun r w'=>r=.returned (.tuple #[.float .f64 X,.int .i64 er])∧Below wr.heap.size wr w'):=by
     have e:xs.take k=xs:=by rw [List.take_of_length_le];rw [←HX.out.1];omega
     have hA:=HA.out.1;obtain ⟨p1,p2⟩:=sS_pos xs k (by rw [←HX.out.1];omega)
     rw [e] at hA p1 p2;have hl:=HX.out.2.2.2.2;exact HR.out g wr hA (p1.ok (by omega)) (HX.out.2.2.2.1.belows HA.out.2.2)
    clear HR
    go_wp2_with fail
    refine (C.out).mono ?_;rintro r w3 ⟨rfl,hb3⟩;have B3:=qsd (HA.out.2.2.trans (hb3.mono HA.out.2.2.size));clear hb3 C;go_wp2
    go_ret2
    exact ⟨rfl,B3.out⟩
theorem Exact10 (xs:List Nat) (a:Option Addr) (n c:Nat) (mode pa pb:Int) (w:World) (hn:n=xs.length) (hF:Fs w.heap.size w a xs) (hW:W64 xs) (hT:Tab w) (hm0:0≤mode) (hm1:mode≤4) (hab:may pa pb=true) (hl:n≤65536) (ha:pa≠2) (hb:pb≠2) :
 Calls Tryz.prog 23 #[.slice a n c,.int .i64 mode,.agg #[.int .i64 pa,.int .i64 pb]] w fun r w'=>r=.returned (.tuple #[.float .f64 (rd7 (vS xs) (sS xs) mode pa pb).1,.int .i64 (rd7 (vS xs) (sS xs) mode pa pb).2])∧Below w.heap.size w w' :=
 exact_core xs a n c mode pa pb _ _ w hn hF hW hT hm0 hm1 hab hl (hid fun g u hA hs hT=>Round7 g (vS xs) (sS xs) mode pa pb u hA hs hT hm0 hm1 hab ha hb)
end
section
open Go.RowKit
attribute [local go_sem] B.f64bits B.f64frombits
theorem st_float {P:Program}{w:World}(a:Addr) (k:FloatKind) (n:Nat) (m:Mode):(store a (.float k n) m).run P w=stored P w a (.float k n) m:=run_store P w a _ m rfl
def oddW:Nat:=9221120237041090560
def arW (op:BinOp) (x y:Nat):Nat:=(floatBits op .f64 x y).getD oddW
theorem run_float_none {P:Program}(w:World) (op:BinOp) (t:TypeId) (x y:Nat) (ho:op=.add∨op=.sub∨op=.mul) (h:floatBits op .f64 x y=none) :
 ∃ z,(9218868437227405312<z%9223372036854775808∧z<18446744073709551616)∧(binOp op t (.float .f64 x) (.float .f64 y)).run P w=.ok (.float .f64 z) w.drew:=by
 refine ⟨(Question.nanBits .f64 x y).cut (w.tape w.drawn (.nanBits .f64 x y)),?_,?_⟩
 · unfold Question.cut
   generalize w.tape w.drawn (.nanBits .f64 x y)=t
   show 9218868437227405312<((t%2)*9223372036854775808+9218868437227405312+1+(t/2)%4503599627370495)%9223372036854775808∧((t%2)*9223372036854775808+9218868437227405312+1+(t/2)%4503599627370495)<18446744073709551616
   have h1:(t/2)%4503599627370495<4503599627370495:=Nat.mod_lt _ (by decide)
   generalize (t/2)%4503599627370495=q at *
   rcases Nat.mod_two_eq_zero_or_one t with h2|h2 <;> rw [h2] <;> omega
 · unfold floatBits at h
   rcases ho with rfl|rfl|rfl <;> simp only at h <;> simp [binOp,Op.floatArith,h,Question.forced]
def Gives (op:BinOp) (x y z:Nat):Prop:=floatBits op .f64 x y=some z∨floatBits op .f64 x y=none∧9218868437227405312<z%9223372036854775808∧z<18446744073709551616
theorem write_fin (d:Ieee.Datum) (h:d.isNaN=false):Ieee.double.write d%9223372036854775808≤9218868437227405312∧Ieee.double.write d<18446744073709551616:=by
 have hw:∀ (s:Bool) (r:Nat),r≤9218868437227405312→Ieee.double.word s r%9223372036854775808≤9218868437227405312∧Ieee.double.word s r<18446744073709551616:=by
  intro s r hr;have e:Ieee.double.word s r=(if s then 9223372036854775808+r else r):=rfl
  rw [e]
  cases s <;> simp <;> omega
 cases d with
 | number n m p =>
   show Ieee.double.nearest n m p%_≤_∧Ieee.double.nearest n m p<_
   unfold Ieee.Format.nearest
   split
   · exact hw _ _ (by omega)
   · exact hw _ _ (Nat.min_le_right _ _)
 | infinity n=>exact hw _ _ (Nat.le_refl _)
 | nan n f=>cases h
theorem sum_fin {a b d:Ieee.Datum}(h:a.sum b=some d):d.isNaN=false:=by
 cases a <;> cases b <;> simp only [Ieee.Datum.sum] at h <;> first | (cases h;rfl) | (cases h;done) | (split at h <;> first | (cases h;rfl) | (cases h;done))
theorem product_fin {a b d:Ieee.Datum}(h:a.product b=some d):d.isNaN=false:=by
 cases a <;> cases b <;> simp only [Ieee.Datum.product] at h <;> first | (cases h;rfl) | (cases h;done) | (split at h <;> first | (cases h;rfl) | (cases h;done))
theorem bits_fin {op:BinOp}{x y z:Nat}(ho:op=.add∨op=.sub∨op=.mul) (h:floatBits op .f64 x y=some z):z%9223372036854775808≤9218868437227405312∧z<18446744073709551616:=by
 unfold floatBits at h
 rcases ho with rfl|rfl|rfl
 · obtain ⟨d,h1,h2⟩:=Option.map_eq_some_iff.1 (show ((Ieee.double.read x).sum (Ieee.double.read y)).map Ieee.double.write=some z from h)
   rw [←h2];exact write_fin d (sum_fin h1)
 · obtain ⟨d,h1,h2⟩:=Option.map_eq_some_iff.1 (show ((Ieee.double.read x).sum (Ieee.double.read y).opposite).map Ieee.double.write=some z from h)
   rw [←h2];exact write_fin d (sum_fin h1)
 · obtain ⟨d,h1,h2⟩:=Option.map_eq_some_iff.1 (show ((Ieee.double.read x).product (Ieee.double.read y)).map Ieee.double.write=some z from h)
   rw [←h2];exact write_fin d (product_fin h1)
def nanW (z:Nat):Bool:=decide (9218868437227405312<z%9223372036854775808)
theorem bwz (z:Nat) (h:z<18446744073709551616):∃ s e f,e<2048∧f<4503599627370496∧z=B.bw s e f∧B.odd e f=nanW z:=by
 refine ⟨decide (9223372036854775808≤z),z%9223372036854775808/4503599627370496,z%4503599627370496,by omega,by omega,?_,?_⟩
 · unfold B.bw
   by_cases h1:9223372036854775808≤z
   · simp only [h1,decide_true,Bool.toNat_true];omega
   · simp only [h1,decide_false,Bool.toNat_false];omega
 · unfold B.odd nanW
   rw [Bool.eq_iff_iff];simp only [Bool.and_eq_true,beq_iff_eq,bne_iff_ne,ne_eq,decide_eq_true_eq];omega
end
section
open Go.RowKit
theorem radd_res (W:World) (g:Nat) (n:Bool) (v:Value) (e k:Int) (tmps:Array Value) (ht:tmps[4]?.getD undef=.pointer (some ⟨g,0,none⟩)) (hk:tmps[5]?.getD undef=.int .i64 k) (D:Dk W g n v e) :
 (results Tryz.f27 tmps).run Tryz.prog W=.ok (.tuple #[.agg #[.bool n,v,.int .i64 e],.int .i64 k]) W:=by
 obtain ⟨x0,x1,x2,xf0,xf1,xf2⟩:=D.facts;simp [results,Tryz.results27,ht,hk,go_sem,x0,x1,x2]
theorem radd_ff {w:World}{a b:Option Addr}{l c k d:Nat}(n m:Bool) (e f:Int) (n1 m1:Bool) (X Y:Nat) (e1 f1:Int) (lX:(ws X).length≤8192) (lY:(ws Y).length≤8192)
 (HF1:Hid (∀ u,Below w.heap.size w u→Calls Tryz.prog 68 #[.agg #[.bool n,.slice a l c,.int .i64 e]] u fun r w'=>(∃ v,r=.returned (.tuple #[.agg #[.bool n1,v,.int .i64 e1],.bool false])∧Nt u.heap.size w' v X)∧Below u.heap.size u w'))
 (HF2:Hid (∀ u,Below w.heap.size w u→Calls Tryz.prog 68 #[.agg #[.bool m,.slice b k d,.int .i64 f]] u fun r w'=>(∃ v,r=.returned (.tuple #[.agg #[.bool m1,v,.int .i64 f1],.bool false])∧Nt u.heap.size w' v Y)∧Below u.heap.size u w')):Calls Tryz.prog 27 #[.agg #[.bool n,.slice a l c,.int .i64 e],.agg #[.bool m,.slice b k d,.int .i64 f]] w fun r w'=>r=.returned (.tuple #[.agg #[.bool false,.slice none 0 0,.int .i64 0],.int .i64 2])∧Below w.heap.size w w':=by
 obtain ⟨W1,hW1⟩:∃ W,W=((w.alloc (.cells #[.bool n,.slice a l c,.int .i64 e] 47)).alloc (.cells #[.bool m,.slice b k d,.int .i64 f] 47)).alloc (.cells #[.bool false,.slice none 0 0,.int .i64 0] 47):=⟨_,rfl⟩;obtain ⟨hB,hz1,DA,DB,DR⟩:=add_begin w n m (.slice a l c) (.slice b k d) e f W1 hW1;have H1:=hid (HF1.out W1 hB);have SB:=(qsd (ai hB (ai hz1 (ai DA (ai DB DR)))));clear hB hz1 DA DB DR HF1;go_enter Tryz.func27,Tryz.ntmps27
 go_wp2_with fail
 rw [←hW1];clear hW1;refine H1.out.mono ?_;rintro r u1 ⟨⟨v,rfl,hN⟩,hb⟩;obtain ⟨a1,c1,rfl,_⟩:=hN.arg (by omega)
 obtain ⟨hB,hz1,DA,DB,DR⟩:=SB.out;obtain ⟨U1,hU1⟩:∃ U,U=u1.alloc (.cells #[.bool n1,.slice a1 (ws X).length c1,.int .i64 e1] 47):=⟨_,rfl⟩;have hA:Below u1.heap.size u1 U1:=by rw [hU1];exact below_alloc _ _
 have hs1:w.heap.size+3≤u1.heap.size:=by have:=hb.size;omega
 have hs2:u1.heap.size<U1.heap.size:=by rw [hU1];simp
 have FB:=(DB.below hb).below hA;have FR:=(DR.below hb).below hA;have DX:Dk U1 u1.heap.size n1 (.slice a1 (ws X).length c1) e1:=by rw [hU1];exact Dk.new _ _ _ _
 have NX:Nt (w.heap.size+3) U1 (.slice a1 (ws X).length c1) X:=(hN.mono (by omega)).below hA
 have BU:Below w.heap.size w U1:=(hB.trans (hb.mono (by omega))).trans (hA.mono (by omega))
 have H2:=hid (HF2.out U1 BU);obtain ⟨y0,y1,y2,yf0,yf1,yf2⟩:=FB.facts;have S1:=(qsd (ai BU (ai FR (ai DX NX))));clear hN hb H1 hB hz1 hA DA DB DR FB FR DX NX BU SB HF2
 go_upto_region 2 with fail
 rw [←hU1];clear hU1
 go_wp2_with fail
 clear y0 y1 y2 yf0 yf1 yf2;refine H2.out.mono ?_;rintro r u2 ⟨⟨v,rfl,hM⟩,hb⟩;obtain ⟨a2,c2,rfl,_⟩:=hM.arg (by omega)
 obtain ⟨BU,FR,DX,NX⟩:=S1.out;obtain ⟨U2,hU2⟩:∃ U,U=u2.alloc (.cells #[.bool m1,.slice a2 (ws Y).length c2,.int .i64 f1] 47):=⟨_,rfl⟩;have hA:Below u2.heap.size u2 U2:=by rw [hU2];exact below_alloc _ _
 have hs3:U1.heap.size≤u2.heap.size:=hb.size;have hs4:u2.heap.size<U2.heap.size:=by rw [hU2];simp
 have GR:=(FR.below hb).below hA;have GX:=(DX.below hb).below hA;have GY:Dk U2 u2.heap.size m1 (.slice a2 (ws Y).length c2) f1:=by rw [hU2];exact Dk.new _ _ _ _
 have MX:=(NX.below hb).below hA;have MY:Nt (w.heap.size+3) U2 (.slice a2 (ws Y).length c2) Y:=(hM.mono (by omega)).below hA
 have BV:Below w.heap.size w U2:=(BU.trans (hb.mono (by omega))).trans (hA.mono (by omega))
 have S2:=(qsd (ai BV (ai GR (ai GX (ai GY (ai MX MY))))));clear hM hb H2 hA FR DX NX BU GR GX GY MX MY BV S1
 go_upto_region 3 with fail
 rw [←hU2];clear hU2;obtain ⟨r0,r1,r2,rf0,rf1,rf2⟩:=S2.out.2.1.facts;obtain ⟨x0,x1,x2,xf0,xf1,xf2⟩:=S2.out.2.2.1.facts;obtain ⟨y0,y1,y2,yf0,yf1,yf2⟩:=S2.out.2.2.2.1.facts;go_wp2;refine bodyPost_ret (radd_res _ (w.heap.size+1+1) false (.slice none 0 0) 0 2 _ rfl rfl (S2.out.2.1.set _ _ _)) rfl ⟨rfl,?_⟩;refine Fin.bel (m:=w.heap.size+3) (v:=.slice a1 (ws X).length c1) (X:=X) ?_;have FE:Fin w.heap.size (w.heap.size+3) w U2 (.slice a1 (ws X).length c1) X:=⟨S2.out.2.2.2.2.1,S2.out.1,by omega⟩
 repeat (with_reducible first | exact FE | refine Fin.drew ?_ | refine Fin.alloc ?_ _ | refine Fin.set ?_ _ _ _ (by omega) (by omega))
theorem radd_ft {w:World}{a b:Option Addr}{l c k d:Nat}(n m:Bool) (e f:Int) (n1 m1:Bool) (X Y:Nat) (e1 f1:Int) (lX:(ws X).length≤8192) (lY:(ws Y).length≤8192)
 (HF1:Hid (∀ u,Below w.heap.size w u→Calls Tryz.prog 68 #[.agg #[.bool n,.slice a l c,.int .i64 e]] u fun r w'=>(∃ v,r=.returned (.tuple #[.agg #[.bool n1,v,.int .i64 e1],.bool false])∧Nt u.heap.size w' v X)∧Below u.heap.size u w'))
 (HF2:Hid (∀ u,Below w.heap.size w u→Calls Tryz.prog 68 #[.agg #[.bool m,.slice b k d,.int .i64 f]] u fun r w'=>(∃ v,r=.returned (.tuple #[.agg #[.bool m1,v,.int .i64 f1],.bool true])∧Nt u.heap.size w' v Y)∧Below u.heap.size u w')):Calls Tryz.prog 27 #[.agg #[.bool n,.slice a l c,.int .i64 e],.agg #[.bool m,.slice b k d,.int .i64 f]] w fun r w'=>r=.returned (.tuple #[.agg #[.bool false,.slice none 0 0,.int .i64 0],.int .i64 2])∧Below w.heap.size w w':=by
 obtain ⟨W1,hW1⟩:∃ W,W=((w.alloc (.cells #[.bool n,.slice a l c,.int .i64 e] 47)).alloc (.cells #[.bool m,.slice b k d,.int .i64 f] 47)).alloc (.cells #[.bool false,.slice none 0 0,.int .i64 0] 47):=⟨_,rfl⟩;obtain ⟨hB,hz1,DA,DB,DR⟩:=add_begin w n m (.slice a l c) (.slice b k d) e f W1 hW1;have H1:=hid (HF1.out W1 hB);have SB:=(qsd (ai hB (ai hz1 (ai DA (ai DB DR)))));clear hB hz1 DA DB DR HF1;go_enter Tryz.func27,Tryz.ntmps27
 go_wp2_with fail
 rw [←hW1];clear hW1;refine H1.out.mono ?_;rintro r u1 ⟨⟨v,rfl,hN⟩,hb⟩;obtain ⟨a1,c1,rfl,_⟩:=hN.arg (by omega)
 obtain ⟨hB,hz1,DA,DB,DR⟩:=SB.out;obtain ⟨U1,hU1⟩:∃ U,U=u1.alloc (.cells #[.bool n1,.slice a1 (ws X).length c1,.int .i64 e1] 47):=⟨_,rfl⟩;have hA:Below u1.heap.size u1 U1:=by rw [hU1];exact below_alloc _ _
 have hs1:w.heap.size+3≤u1.heap.size:=by have:=hb.size;omega
 have hs2:u1.heap.size<U1.heap.size:=by rw [hU1];simp
 have FB:=(DB.below hb).below hA;have FR:=(DR.below hb).below hA;have DX:Dk U1 u1.heap.size n1 (.slice a1 (ws X).length c1) e1:=by rw [hU1];exact Dk.new _ _ _ _
 have NX:Nt (w.heap.size+3) U1 (.slice a1 (ws X).length c1) X:=(hN.mono (by omega)).below hA
 have BU:Below w.heap.size w U1:=(hB.trans (hb.mono (by omega))).trans (hA.mono (by omega))
 have H2:=hid (HF2.out U1 BU);obtain ⟨y0,y1,y2,yf0,yf1,yf2⟩:=FB.facts;have S1:=(qsd (ai BU (ai FR (ai DX NX))));clear hN hb H1 hB hz1 hA DA DB DR FB FR DX NX BU SB HF2
 go_upto_region 2 with fail
 rw [←hU1];clear hU1
 go_wp2_with fail
 clear y0 y1 y2 yf0 yf1 yf2;refine H2.out.mono ?_;rintro r u2 ⟨⟨v,rfl,hM⟩,hb⟩;obtain ⟨a2,c2,rfl,_⟩:=hM.arg (by omega)
 obtain ⟨BU,FR,DX,NX⟩:=S1.out;obtain ⟨U2,hU2⟩:∃ U,U=u2.alloc (.cells #[.bool m1,.slice a2 (ws Y).length c2,.int .i64 f1] 47):=⟨_,rfl⟩;have hA:Below u2.heap.size u2 U2:=by rw [hU2];exact below_alloc _ _
 have hs3:U1.heap.size≤u2.heap.size:=hb.size;have hs4:u2.heap.size<U2.heap.size:=by rw [hU2];simp
 have GR:=(FR.below hb).below hA;have GX:=(DX.below hb).below hA;have GY:Dk U2 u2.heap.size m1 (.slice a2 (ws Y).length c2) f1:=by rw [hU2];exact Dk.new _ _ _ _
 have MX:=(NX.below hb).below hA;have MY:Nt (w.heap.size+3) U2 (.slice a2 (ws Y).length c2) Y:=(hM.mono (by omega)).below hA
 have BV:Below w.heap.size w U2:=(BU.trans (hb.mono (by omega))).trans (hA.mono (by omega))
 have S2:=(qsd (ai BV (ai GR (ai GX (ai GY (ai MX MY))))));clear hM hb H2 hA FR DX NX BU GR GX GY MX MY BV S1
 go_upto_region 3 with fail
 rw [←hU2];clear hU2;obtain ⟨r0,r1,r2,rf0,rf1,rf2⟩:=S2.out.2.1.facts;obtain ⟨x0,x1,x2,xf0,xf1,xf2⟩:=S2.out.2.2.1.facts;obtain ⟨y0,y1,y2,yf0,yf1,yf2⟩:=S2.out.2.2.2.1.facts;go_wp2;refine bodyPost_ret (radd_res _ (w.heap.size+1+1) false (.slice none 0 0) 0 2 _ rfl rfl (S2.out.2.1.set _ _ _)) rfl ⟨rfl,?_⟩;refine Fin.bel (m:=w.heap.size+3) (v:=.slice a1 (ws X).length c1) (X:=X) ?_;have FE:Fin w.heap.size (w.heap.size+3) w U2 (.slice a1 (ws X).length c1) X:=⟨S2.out.2.2.2.2.1,S2.out.1,by omega⟩
 repeat (with_reducible first | exact FE | refine Fin.drew ?_ | refine Fin.alloc ?_ _ | refine Fin.set ?_ _ _ _ (by omega) (by omega))
theorem radd_tf {w:World}{a b:Option Addr}{l c k d:Nat}(n m:Bool) (e f:Int) (n1 m1:Bool) (X Y:Nat) (e1 f1:Int) (lX:(ws X).length≤8192) (lY:(ws Y).length≤8192)
 (HF1:Hid (∀ u,Below w.heap.size w u→Calls Tryz.prog 68 #[.agg #[.bool n,.slice a l c,.int .i64 e]] u fun r w'=>(∃ v,r=.returned (.tuple #[.agg #[.bool n1,v,.int .i64 e1],.bool true])∧Nt u.heap.size w' v X)∧Below u.heap.size u w'))
 (HF2:Hid (∀ u,Below w.heap.size w u→Calls Tryz.prog 68 #[.agg #[.bool m,.slice b k d,.int .i64 f]] u fun r w'=>(∃ v,r=.returned (.tuple #[.agg #[.bool m1,v,.int .i64 f1],.bool false])∧Nt u.heap.size w' v Y)∧Below u.heap.size u w')):Calls Tryz.prog 27 #[.agg #[.bool n,.slice a l c,.int .i64 e],.agg #[.bool m,.slice b k d,.int .i64 f]] w fun r w'=>r=.returned (.tuple #[.agg #[.bool false,.slice none 0 0,.int .i64 0],.int .i64 2])∧Below w.heap.size w w':=by
 obtain ⟨W1,hW1⟩:∃ W,W=((w.alloc (.cells #[.bool n,.slice a l c,.int .i64 e] 47)).alloc (.cells #[.bool m,.slice b k d,.int .i64 f] 47)).alloc (.cells #[.bool false,.slice none 0 0,.int .i64 0] 47):=⟨_,rfl⟩;obtain ⟨hB,hz1,DA,DB,DR⟩:=add_begin w n m (.slice a l c) (.slice b k d) e f W1 hW1;have H1:=hid (HF1.out W1 hB);have SB:=(qsd (ai hB (ai hz1 (ai DA (ai DB DR)))));clear hB hz1 DA DB DR HF1;go_enter Tryz.func27,Tryz.ntmps27
 go_wp2_with fail
 rw [←hW1];clear hW1;refine H1.out.mono ?_;rintro r u1 ⟨⟨v,rfl,hN⟩,hb⟩;obtain ⟨a1,c1,rfl,_⟩:=hN.arg (by omega)
 obtain ⟨hB,hz1,DA,DB,DR⟩:=SB.out;obtain ⟨U1,hU1⟩:∃ U,U=u1.alloc (.cells #[.bool n1,.slice a1 (ws X).length c1,.int .i64 e1] 47):=⟨_,rfl⟩;have hA:Below u1.heap.size u1 U1:=by rw [hU1];exact below_alloc _ _
 have hs1:w.heap.size+3≤u1.heap.size:=by have:=hb.size;omega
 have hs2:u1.heap.size<U1.heap.size:=by rw [hU1];simp
 have FB:=(DB.below hb).below hA;have FR:=(DR.below hb).below hA;have DX:Dk U1 u1.heap.size n1 (.slice a1 (ws X).length c1) e1:=by rw [hU1];exact Dk.new _ _ _ _
 have NX:Nt (w.heap.size+3) U1 (.slice a1 (ws X).length c1) X:=(hN.mono (by omega)).below hA
 have BU:Below w.heap.size w U1:=(hB.trans (hb.mono (by omega))).trans (hA.mono (by omega))
 have H2:=hid (HF2.out U1 BU);obtain ⟨y0,y1,y2,yf0,yf1,yf2⟩:=FB.facts;have S1:=(qsd (ai BU (ai FR (ai DX NX))));clear hN hb H1 hB hz1 hA DA DB DR FB FR DX NX BU SB HF2
 go_upto_region 2 with fail
 rw [←hU1];clear hU1
 go_wp2_with fail
 clear y0 y1 y2 yf0 yf1 yf2;refine H2.out.mono ?_;rintro r u2 ⟨⟨v,rfl,hM⟩,hb⟩;obtain ⟨a2,c2,rfl,_⟩:=hM.arg (by omega)
 obtain ⟨BU,FR,DX,NX⟩:=S1.out;obtain ⟨U2,hU2⟩:∃ U,U=u2.alloc (.cells #[.bool m1,.slice a2 (ws Y).length c2,.int .i64 f1] 47):=⟨_,rfl⟩;have hA:Below u2.heap.size u2 U2:=by rw [hU2];exact below_alloc _ _
 have hs3:U1.heap.size≤u2.heap.size:=hb.size;have hs4:u2.heap.size<U2.heap.size:=by rw [hU2];simp
 have GR:=(FR.below hb).below hA;have GX:=(DX.below hb).below hA;have GY:Dk U2 u2.heap.size m1 (.slice a2 (ws Y).length c2) f1:=by rw [hU2];exact Dk.new _ _ _ _
 have MX:=(NX.below hb).below hA;have MY:Nt (w.heap.size+3) U2 (.slice a2 (ws Y).length c2) Y:=(hM.mono (by omega)).below hA
 have BV:Below w.heap.size w U2:=(BU.trans (hb.mono (by omega))).trans (hA.mono (by omega))
 have S2:=(qsd (ai BV (ai GR (ai GX (ai GY (ai MX MY))))));clear hM hb H2 hA FR DX NX BU GR GX GY MX MY BV S1
 go_upto_region 3 with fail
 rw [←hU2];clear hU2;obtain ⟨r0,r1,r2,rf0,rf1,rf2⟩:=S2.out.2.1.facts;obtain ⟨x0,x1,x2,xf0,xf1,xf2⟩:=S2.out.2.2.1.facts;obtain ⟨y0,y1,y2,yf0,yf1,yf2⟩:=S2.out.2.2.2.1.facts;go_wp2;refine bodyPost_ret (radd_res _ (w.heap.size+1+1) false (.slice none 0 0) 0 2 _ rfl rfl (S2.out.2.1.set _ _ _)) rfl ⟨rfl,?_⟩;refine Fin.bel (m:=w.heap.size+3) (v:=.slice a1 (ws X).length c1) (X:=X) ?_;have FE:Fin w.heap.size (w.heap.size+3) w U2 (.slice a1 (ws X).length c1) X:=⟨S2.out.2.2.2.2.1,S2.out.1,by omega⟩
 repeat (with_reducible first | exact FE | refine Fin.drew ?_ | refine Fin.alloc ?_ _ | refine Fin.set ?_ _ _ _ (by omega) (by omega))
theorem radd_left {w:World}{a b:Option Addr}{l c k d:Nat}(n m:Bool) (e f:Int) (n1 m1:Bool) (X Y:Nat) (e1 f1:Int) (lX:(ws X).length≤8192) (lY:(ws Y).length≤8192) (hX:(ws X).length=0)
 (HF1:Hid (∀ u,Below w.heap.size w u→Calls Tryz.prog 68 #[.agg #[.bool n,.slice a l c,.int .i64 e]] u fun r w'=>(∃ v,r=.returned (.tuple #[.agg #[.bool n1,v,.int .i64 e1],.bool true])∧Nt u.heap.size w' v X)∧Below u.heap.size u w'))
 (HF2:Hid (∀ u,Below w.heap.size w u→Calls Tryz.prog 68 #[.agg #[.bool m,.slice b k d,.int .i64 f]] u fun r w'=>(∃ v,r=.returned (.tuple #[.agg #[.bool m1,v,.int .i64 f1],.bool true])∧Nt u.heap.size w' v Y)∧Below u.heap.size u w')):Calls Tryz.prog 27 #[.agg #[.bool n,.slice a l c,.int .i64 e],.agg #[.bool m,.slice b k d,.int .i64 f]] w fun r w'=>DAns w.heap.size w' r (some (m1,Y,f1))∧Below w.heap.size w w':=by
 have HH:=qsd hX;clear hX;obtain ⟨W1,hW1⟩:∃ W,W=((w.alloc (.cells #[.bool n,.slice a l c,.int .i64 e] 47)).alloc (.cells #[.bool m,.slice b k d,.int .i64 f] 47)).alloc (.cells #[.bool false,.slice none 0 0,.int .i64 0] 47):=⟨_,rfl⟩;obtain ⟨hB,hz1,DA,DB,DR⟩:=add_begin w n m (.slice a l c) (.slice b k d) e f W1 hW1;have H1:=hid (HF1.out W1 hB);have SB:=(qsd (ai hB (ai hz1 (ai DA (ai DB DR)))));clear hB hz1 DA DB DR HF1;go_enter Tryz.func27,Tryz.ntmps27
 go_wp2_with fail
 rw [←hW1];clear hW1;refine H1.out.mono ?_;rintro r u1 ⟨⟨v,rfl,hN⟩,hb⟩;obtain ⟨a1,c1,rfl,_⟩:=hN.arg (by omega)
 obtain ⟨hB,hz1,DA,DB,DR⟩:=SB.out;obtain ⟨U1,hU1⟩:∃ U,U=u1.alloc (.cells #[.bool n1,.slice a1 (ws X).length c1,.int .i64 e1] 47):=⟨_,rfl⟩;have hA:Below u1.heap.size u1 U1:=by rw [hU1];exact below_alloc _ _
 have hs1:w.heap.size+3≤u1.heap.size:=by have:=hb.size;omega
 have hs2:u1.heap.size<U1.heap.size:=by rw [hU1];simp
 have FB:=(DB.below hb).below hA;have FR:=(DR.below hb).below hA;have DX:Dk U1 u1.heap.size n1 (.slice a1 (ws X).length c1) e1:=by rw [hU1];exact Dk.new _ _ _ _
 have NX:Nt (w.heap.size+3) U1 (.slice a1 (ws X).length c1) X:=(hN.mono (by omega)).below hA
 have BU:Below w.heap.size w U1:=(hB.trans (hb.mono (by omega))).trans (hA.mono (by omega))
 have H2:=hid (HF2.out U1 BU);obtain ⟨y0,y1,y2,yf0,yf1,yf2⟩:=FB.facts;have S1:=(qsd (ai BU (ai FR (ai DX NX))));clear hN hb H1 hB hz1 hA DA DB DR FB FR DX NX BU SB HF2
 go_upto_region 2 with fail
 rw [←hU1];clear hU1
 go_wp2_with fail
 clear y0 y1 y2 yf0 yf1 yf2;refine H2.out.mono ?_;rintro r u2 ⟨⟨v,rfl,hM⟩,hb⟩;obtain ⟨a2,c2,rfl,_⟩:=hM.arg (by omega)
 obtain ⟨BU,FR,DX,NX⟩:=S1.out;obtain ⟨U2,hU2⟩:∃ U,U=u2.alloc (.cells #[.bool m1,.slice a2 (ws Y).length c2,.int .i64 f1] 47):=⟨_,rfl⟩;have hA:Below u2.heap.size u2 U2:=by rw [hU2];exact below_alloc _ _
 have hs3:U1.heap.size≤u2.heap.size:=hb.size;have hs4:u2.heap.size<U2.heap.size:=by rw [hU2];simp
 have GR:=(FR.below hb).below hA;have GX:=(DX.below hb).below hA;have GY:Dk U2 u2.heap.size m1 (.slice a2 (ws Y).length c2) f1:=by rw [hU2];exact Dk.new _ _ _ _
 have MX:=(NX.below hb).below hA;have MY:Nt (w.heap.size+3) U2 (.slice a2 (ws Y).length c2) Y:=(hM.mono (by omega)).below hA
 have BV:Below w.heap.size w U2:=(BU.trans (hb.mono (by omega))).trans (hA.mono (by omega))
 have S2:=(qsd (ai BV (ai GR (ai GX (ai GY (ai MX MY))))));clear hM hb H2 hA FR DX NX BU GR GX GY MX MY BV S1
 go_upto_region 5 with fail
 rw [←hU2];clear hU2;obtain ⟨r0,r1,r2,rf0,rf1,rf2⟩:=S2.out.2.1.facts;obtain ⟨x0,x1,x2,xf0,xf1,xf2⟩:=S2.out.2.2.1.facts;obtain ⟨y0,y1,y2,yf0,yf1,yf2⟩:=S2.out.2.2.2.1.facts;have hX:=HH.out;go_wp2;refine bodyPost_ret (radd_res _ (w.heap.size+1+1) m1 (.slice a2 (ws Y).length c2) f1 0 _ rfl rfl (S2.out.2.1.set _ _ _)) rfl ?_;refine Fin.dans (m:=w.heap.size+3) ?_ (by omega)
 have FE:Fin w.heap.size (w.heap.size+3) w U2 _ _:=⟨S2.out.2.2.2.2.2,S2.out.1,by omega⟩
 repeat (with_reducible first | exact FE | refine Fin.drew ?_ | refine Fin.alloc ?_ _ | refine Fin.set ?_ _ _ _ (by omega) (by omega))
 exact FE
theorem radd_right {w:World}{a b:Option Addr}{l c k d:Nat}(n m:Bool) (e f:Int) (n1 m1:Bool) (X Y:Nat) (e1 f1:Int) (lX:(ws X).length≤8192) (lY:(ws Y).length≤8192) (hX:((((ws X).length:Nat):Int)==0)=false) (hY:(ws Y).length=0)
 (HF1:Hid (∀ u,Below w.heap.size w u→Calls Tryz.prog 68 #[.agg #[.bool n,.slice a l c,.int .i64 e]] u fun r w'=>(∃ v,r=.returned (.tuple #[.agg #[.bool n1,v,.int .i64 e1],.bool true])∧Nt u.heap.size w' v X)∧Below u.heap.size u w'))
 (HF2:Hid (∀ u,Below w.heap.size w u→Calls Tryz.prog 68 #[.agg #[.bool m,.slice b k d,.int .i64 f]] u fun r w'=>(∃ v,r=.returned (.tuple #[.agg #[.bool m1,v,.int .i64 f1],.bool true])∧Nt u.heap.size w' v Y)∧Below u.heap.size u w')):Calls Tryz.prog 27 #[.agg #[.bool n,.slice a l c,.int .i64 e],.agg #[.bool m,.slice b k d,.int .i64 f]] w fun r w'=>DAns w.heap.size w' r (some (n1,X,e1))∧Below w.heap.size w w':=by
 have HH:=qsd hY;clear hY;obtain ⟨W1,hW1⟩:∃ W,W=((w.alloc (.cells #[.bool n,.slice a l c,.int .i64 e] 47)).alloc (.cells #[.bool m,.slice b k d,.int .i64 f] 47)).alloc (.cells #[.bool false,.slice none 0 0,.int .i64 0] 47):=⟨_,rfl⟩;obtain ⟨hB,hz1,DA,DB,DR⟩:=add_begin w n m (.slice a l c) (.slice b k d) e f W1 hW1;have H1:=hid (HF1.out W1 hB);have SB:=(qsd (ai hB (ai hz1 (ai DA (ai DB DR)))));clear hB hz1 DA DB DR HF1;go_enter Tryz.func27,Tryz.ntmps27
 go_wp2_with fail
 rw [←hW1];clear hW1;refine H1.out.mono ?_;rintro r u1 ⟨⟨v,rfl,hN⟩,hb⟩;obtain ⟨a1,c1,rfl,_⟩:=hN.arg (by omega)
 obtain ⟨hB,hz1,DA,DB,DR⟩:=SB.out;obtain ⟨U1,hU1⟩:∃ U,U=u1.alloc (.cells #[.bool n1,.slice a1 (ws X).length c1,.int .i64 e1] 47):=⟨_,rfl⟩;have hA:Below u1.heap.size u1 U1:=by rw [hU1];exact below_alloc _ _
 have hs1:w.heap.size+3≤u1.heap.size:=by have:=hb.size;omega
 have hs2:u1.heap.size<U1.heap.size:=by rw [hU1];simp
 have FB:=(DB.below hb).below hA;have FR:=(DR.below hb).below hA;have DX:Dk U1 u1.heap.size n1 (.slice a1 (ws X).length c1) e1:=by rw [hU1];exact Dk.new _ _ _ _
 have NX:Nt (w.heap.size+3) U1 (.slice a1 (ws X).length c1) X:=(hN.mono (by omega)).below hA
 have BU:Below w.heap.size w U1:=(hB.trans (hb.mono (by omega))).trans (hA.mono (by omega))
 have H2:=hid (HF2.out U1 BU);obtain ⟨y0,y1,y2,yf0,yf1,yf2⟩:=FB.facts;have S1:=(qsd (ai BU (ai FR (ai DX NX))));clear hN hb H1 hB hz1 hA DA DB DR FB FR DX NX BU SB HF2
 go_upto_region 2 with fail
 rw [←hU1];clear hU1
 go_wp2_with fail
 clear y0 y1 y2 yf0 yf1 yf2;refine H2.out.mono ?_;rintro r u2 ⟨⟨v,rfl,hM⟩,hb⟩;obtain ⟨a2,c2,rfl,_⟩:=hM.arg (by omega)
 obtain ⟨BU,FR,DX,NX⟩:=S1.out;obtain ⟨U2,hU2⟩:∃ U,U=u2.alloc (.cells #[.bool m1,.slice a2 (ws Y).length c2,.int .i64 f1] 47):=⟨_,rfl⟩;have hA:Below u2.heap.size u2 U2:=by rw [hU2];exact below_alloc _ _
 have hs3:U1.heap.size≤u2.heap.size:=hb.size;have hs4:u2.heap.size<U2.heap.size:=by rw [hU2];simp
 have GR:=(FR.below hb).below hA;have GX:=(DX.below hb).below hA;have GY:Dk U2 u2.heap.size m1 (.slice a2 (ws Y).length c2) f1:=by rw [hU2];exact Dk.new _ _ _ _
 have MX:=(NX.below hb).below hA;have MY:Nt (w.heap.size+3) U2 (.slice a2 (ws Y).length c2) Y:=(hM.mono (by omega)).below hA
 have BV:Below w.heap.size w U2:=(BU.trans (hb.mono (by omega))).trans (hA.mono (by omega))
 have S2:=(qsd (ai BV (ai GR (ai GX (ai GY (ai MX MY))))));clear hM hb H2 hA FR DX NX BU GR GX GY MX MY BV S1
 go_upto_region 5 with fail
 rw [←hU2];clear hU2;obtain ⟨r0,r1,r2,rf0,rf1,rf2⟩:=S2.out.2.1.facts;obtain ⟨x0,x1,x2,xf0,xf1,xf2⟩:=S2.out.2.2.1.facts;obtain ⟨y0,y1,y2,yf0,yf1,yf2⟩:=S2.out.2.2.2.1.facts;have hY:=HH.out;go_wp2;refine bodyPost_ret (radd_res _ (w.heap.size+1+1) n1 (.slice a1 (ws X).length c1) e1 0 _ rfl rfl (S2.out.2.1.set _ _ _)) rfl ?_;refine Fin.dans (m:=w.heap.size+3) ?_ (by omega)
 have FE:Fin w.heap.size (w.heap.size+3) w U2 _ _:=⟨S2.out.2.2.2.2.1,S2.out.1,by omega⟩
 repeat (with_reducible first | exact FE | refine Fin.drew ?_ | refine Fin.alloc ?_ _ | refine Fin.set ?_ _ _ _ (by omega) (by omega))
 exact FE
end
end Go.Proofs.YthfkleadcnkglaaGreatDoor
