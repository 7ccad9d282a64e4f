import Derived.Test.YtaofncmoehebmaaDoorD4x
import Derived.Deep.Cut
import Derived.Deep.RegionHeld3
import Derived.Deep.RegionWith
import Derived.Deep.CutRange
import Derived.Test.YtaofncmoehebmaaDoorW14x
import Derived.BigQuiet
import Derived.Laws.Bits64
import Derived.Laws.Bits64b
import Derived.Test.YtaofncmoehebmaaDoorBIeeex
import Derived.KernelRfl
set_option linter.unusedVariables false
set_option linter.unusedSimpArgs false
set_option maxHeartbeats 16000000
set_option maxRecDepth 20000
namespace Go.Proofs.YtaofncmoehebmaaDoor
namespace J
end J
section
open Go.RowKit
theorem round_begin (w:World) (n:Bool) (v:Value) (e a b c:Int) (W:World) (hW:W=(w.alloc (.cells #[.bool n,v,.int .i64 e] 64)).alloc (.cells #[.int .i64 a,.int .i64 b,.int .i64 c] 84)) :
 Below w.heap.size w W∧W.heap.size=w.heap.size+2∧Dk W w.heap.size n v e∧Wk W (w.heap.size+1) a b c:=by
 subst hW;refine ⟨(below_alloc w _).alloc (by simp) _,by simp,(Dk.new w n v e).alloc _,?_⟩
 unfold Wk;have:=heap_alloc_new (w.alloc (.cells #[.bool n,v,.int .i64 e] 64)) (.cells #[.int .i64 a,.int .i64 b,.int .i64 c] 84);simpa using this
theorem Wk.below {w w':World}{g:Nat}{a b c:Int}(h:Wk w g a b c) (hb:Below w.heap.size w w'):Wk w' g a b c:=by
 unfold Wk;rw [hb.block g (Array.getElem?_eq_some_iff.1 h).1];exact h
theorem round_mode (n:Bool) (a:Option Addr) (l c:Nat) (e mode:Int) (w:World) (hm:mode<0∨4<mode) :
 Calls Tryd.prog 40 #[.agg #[.bool n,.slice a l c,.int .i64 e],.int .i64 mode,.agg #[.int .i64 53,.int .i64 (-1074),.int .i64 1024]] w fun r w'=>r=.returned (.tuple #[.float .f64 0,.int .i64 1])∧Below w.heap.size w w':=by
 have HB:=qsd (show Below w.heap.size w ((w.alloc (.cells #[.bool n,.slice a l c,.int .i64 e] 64)).alloc (.cells #[.int .i64 53,.int .i64 (-1074),.int .i64 1024] 84)) from (below_alloc w _).alloc (by simp) _)
 rcases hm with h|h
 · go_enter Tryd.func40,Tryd.ntmps40
   go_wp2
   go_ret2
   exact ⟨rfl,HB.out⟩
 · have h':decide (mode<0)=false:=decide_eq_false (by omega)
   go_enter Tryd.func40,Tryd.ntmps40;go_wp2
   go_ret2
   exact ⟨rfl,HB.out⟩
theorem round_err {w:World}{a:Option Addr}{l c:Nat}(n:Bool) (e mode:Int) (n1:Bool) (X:Nat) (e1 er:Int) (lX:(ws X).length≤8192) (hm0:0≤mode) (hm4:mode≤4) (her:(er != 0)=true)
 (HF:Hid (∀ u,Below w.heap.size w u→Calls Tryd.prog 53 #[.agg #[.bool n,.slice a l c,.int .i64 e]] u fun r w'=>(∃ v,r=.returned (.tuple #[.agg #[.bool n1,v,.int .i64 e1],.int .i64 er])∧Nt u.heap.size w' v X)∧Below u.heap.size u w')) :
 Calls Tryd.prog 40 #[.agg #[.bool n,.slice a l c,.int .i64 e],.int .i64 mode,.agg #[.int .i64 53,.int .i64 (-1074),.int .i64 1024]] w fun r w'=>r=.returned (.tuple #[.float .f64 0,.int .i64 er])∧Below w.heap.size w w':=by
 obtain ⟨W1,hW1⟩:∃ W,W=(w.alloc (.cells #[.bool n,.slice a l c,.int .i64 e] 64)).alloc (.cells #[.int .i64 53,.int .i64 (-1074),.int .i64 1024] 84):=⟨_,rfl⟩;obtain ⟨hB,hz1,DD,DW⟩:=round_begin w n (.slice a l c) e 53 (-1074) 1024 W1 hW1;have H1:=hid (HF.out W1 hB);have SB:=(qsd (ai hB (ai hz1 DW)));clear hB hz1 DD DW HF;go_enter Tryd.func40,Tryd.ntmps40
 go_wp2_with fail
 rw [←hW1];clear hW1;refine H1.out.mono ?_;rintro r u1 ⟨⟨v,rfl,hN⟩,hb⟩;obtain ⟨a1,c1,rfl,_⟩:=hN.arg (by omega)
 obtain ⟨hB,hz1,DW⟩:=SB.out;have SF:=qsd (hB.trans (hb.mono (by omega)))
 have hz:w.heap.size≤u1.heap.size:=by have:=hb.size;omega
 clear hN hb H1 hB hz1 DW SB;go_wp2
 go_ret2
 exact ⟨rfl,SF.out.alloc hz _⟩
theorem round_none {w:World}{a:Option Addr}{l c:Nat}(n:Bool) (e mode:Int) (n1:Bool) (X:Nat) (e1:Int) (lX:(ws X).length=0) (hm0:0≤mode) (hm4:mode≤4)
 (HF:Hid (∀ u,Below w.heap.size w u→Calls Tryd.prog 53 #[.agg #[.bool n,.slice a l c,.int .i64 e]] u fun r w'=>(∃ v,r=.returned (.tuple #[.agg #[.bool n1,v,.int .i64 e1],.int .i64 0])∧Nt u.heap.size w' v X)∧Below u.heap.size u w')) :
 Calls Tryd.prog 40 #[.agg #[.bool n,.slice a l c,.int .i64 e],.int .i64 mode,.agg #[.int .i64 53,.int .i64 (-1074),.int .i64 1024]] w fun r w'=>r=.returned (.tuple #[.float .f64 0,.int .i64 0])∧Below w.heap.size w w':=by
 obtain ⟨W1,hW1⟩:∃ W,W=(w.alloc (.cells #[.bool n,.slice a l c,.int .i64 e] 64)).alloc (.cells #[.int .i64 53,.int .i64 (-1074),.int .i64 1024] 84):=⟨_,rfl⟩;obtain ⟨hB,hz1,DD,DW⟩:=round_begin w n (.slice a l c) e 53 (-1074) 1024 W1 hW1;have H1:=hid (HF.out W1 hB);have SB:=(qsd (ai hB (ai hz1 DW)));clear hB hz1 DD DW HF;go_enter Tryd.func40,Tryd.ntmps40
 go_wp2_with fail
 rw [←hW1];clear hW1;refine H1.out.mono ?_;rintro r u1 ⟨⟨v,rfl,hN⟩,hb⟩;obtain ⟨a1,c1,rfl,_⟩:=hN.arg (by omega)
 obtain ⟨hB,hz1,DW⟩:=SB.out;have SF:=qsd (hB.trans (hb.mono (by omega)))
 have hz:w.heap.size≤u1.heap.size:=by have:=hb.size;omega
 clear hN hb H1 hB hz1 DW SB;rw [lX];go_wp2
 go_ret2
 exact ⟨rfl,SF.out.alloc hz _⟩
theorem round_tf {w:World}{a:Option Addr}{l c:Nat}(n:Bool) (e mode:Int) (X:Nat) (e1:Int) (lX:(ws X).length≤8192) (hX:((((ws X).length:Nat):Int)==0)=false) (hm0:0≤mode) (hm4:mode≤4)
 (F cw K K2:Nat) (ex mid:Int) (hF:F≤9007199254740991) (ecv:floatOfInt .f64 (F:Int)=cw)
 (HF:Hid (∀ u,Below w.heap.size w u→Calls Tryd.prog 53 #[.agg #[.bool n,.slice a l c,.int .i64 e]] u fun r w'=>(∃ v,r=.returned (.tuple #[.agg #[.bool false,v,.int .i64 e1],.int .i64 0])∧Nt u.heap.size w' v X)∧Below u.heap.size u w'))
 (HP:Hid (∀ (u:World) (p:Option Addr) (q:Nat),Arg u p (ws X).length q (ws X)→Calls Tryd.prog 54 #[.agg #[.bool false,.slice p (ws X).length q,.int .i64 e1],.agg #[.int .i64 53,.int .i64 (-1074),.int .i64 1024]] u fun r w'=>r=.returned (.agg #[.int .u64 (F:Nat),.int .i64 ex,.bool true,.int .i64 mid])∧Below u.heap.size u w'))
 (HD:Hid (∀ u,Calls Tryd.prog 5 #[.float .f64 cw,.int .i64 ex] u fun r w'=>r=.returned (.float .f64 K)∧w'=u)) :
 Calls Tryd.prog 40 #[.agg #[.bool n,.slice a l c,.int .i64 e],.int .i64 mode,.agg #[.int .i64 53,.int .i64 (-1074),.int .i64 1024]] w fun r w'=>r=.returned (.tuple #[.float .f64 K,.int .i64 0])∧Below w.heap.size w w':=by
 obtain ⟨W1,hW1⟩:∃ W,W=(w.alloc (.cells #[.bool n,.slice a l c,.int .i64 e] 64)).alloc (.cells #[.int .i64 53,.int .i64 (-1074),.int .i64 1024] 84):=⟨_,rfl⟩;obtain ⟨hB,hz1,DD,DW⟩:=round_begin w n (.slice a l c) e 53 (-1074) 1024 W1 hW1;have H1:=hid (HF.out W1 hB);have SB:=(qsd (ai hB (ai hz1 DW)));clear hB hz1 DD DW HF;go_enter Tryd.func40,Tryd.ntmps40
 go_wp2_with fail
 rw [←hW1];clear hW1;refine H1.out.mono ?_;rintro r u1 ⟨⟨v,rfl,hN⟩,hb⟩;obtain ⟨a1,c1,rfl,_⟩:=hN.arg (by omega)
 obtain ⟨hB,hz1,DW⟩:=SB.out;obtain ⟨W2,hW2⟩:∃ W,W=u1.alloc (.cells #[.bool false,.slice a1 (ws X).length c1,.int .i64 e1] 64):=⟨_,rfl⟩;have hbW:Below u1.heap.size u1 W2:=by rw [hW2];exact below_alloc u1 _
 have D2:Dk W2 u1.heap.size false (.slice a1 (ws X).length c1) e1:=by rw [hW2];exact Dk.new u1 _ _ _
 have V2:Wk W2 (w.heap.size+1) 53 (-1074) 1024:=(DW.below hb).below hbW;have hB2:Below w.heap.size w W2:=(hB.trans (hb.mono (by omega))).trans (hbW.mono (by have:=hb.size;omega))
 have H2:=hid (HP.out W2 a1 c1 ((hN.below hbW).arg' (by omega)).2)
 obtain ⟨x0,x1,x2,xf0,xf1,xf2⟩:=D2.facts;obtain ⟨y0,y1,y2⟩:=V2.facts;obtain ⟨t0,t1,t2⟩:=(DW.below hb).facts;have hzu:w.heap.size+1<u1.heap.size:=by have:=hb.size;omega
 have hzz:w.heap.size≤u1.heap.size:=by have:=hb.size;omega
 have hz4:u1.heap.size<W2.heap.size:=D2.lt;have S2:=(qsd (ai hB2 D2));clear hN hb H1 hB hz1 DW SB hbW D2 V2 hB2 HP
 go_wp2_with fail
 rw [←hW2];clear hW2;refine H2.out.mono ?_;rintro r u2 ⟨rfl,hb⟩;obtain ⟨W3,hW3⟩:∃ W,W=u2.alloc (.cells #[.int .u64 (F:Nat),.int .i64 ex,.bool true,.int .i64 mid] 101):=⟨_,rfl⟩;have hbW:Below u2.heap.size u2 W3:=by rw [hW3];exact below_alloc u2 _
 have P3:Pk W3 u2.heap.size (F:Nat) ex true mid:=by rw [hW3];exact heap_alloc_new _ _
 have D3:=(S2.out.2.below hb).below hbW;have hB3:Below w.heap.size w W3:=(S2.out.1.trans (hb.mono (by omega))).trans (hbW.mono (by have:=hb.size;omega))
 have hz6:u1.heap.size<u2.heap.size:=by have:=hb.size;omega
 obtain ⟨q0,q1,q2,q3,qf0,qf1,qf2,qf3⟩:=P3.facts;obtain ⟨d0,d1,d2,df0,df1,df2⟩:=D3.facts;have hz5:w.heap.size≤u2.heap.size:=by omega
 have hz7:u2.heap.size<W3.heap.size:=P3.lt;have S3:=(qsd (ai hB3 (ai P3 D3)));clear hb hbW P3 D3 hB3 S2 H2 x0 x1 x2 xf0 xf1 xf2 y0 y1 y2
 go_upto_region 7 with fail
 rw [←hW3];clear hW3
 go_wp2_with fail
 try simp only [ecv]
 refine (Calls.mono (HD.out _)) ?_;rintro r ww ⟨rfl,hw⟩;rw [hw];clear hw ww HD;go_wp2
 go_ret2
 exact ⟨rfl,S3.out.1⟩
theorem round_tt {w:World}{a:Option Addr}{l c:Nat}(n:Bool) (e mode:Int) (X:Nat) (e1:Int) (lX:(ws X).length≤8192) (hX:((((ws X).length:Nat):Int)==0)=false) (hm0:0≤mode) (hm4:mode≤4)
 (F cw K K2:Nat) (ex mid:Int) (hF:F≤9007199254740991) (ecv:floatOfInt .f64 (F:Int)=cw)
 (HF:Hid (∀ u,Below w.heap.size w u→Calls Tryd.prog 53 #[.agg #[.bool n,.slice a l c,.int .i64 e]] u fun r w'=>(∃ v,r=.returned (.tuple #[.agg #[.bool true,v,.int .i64 e1],.int .i64 0])∧Nt u.heap.size w' v X)∧Below u.heap.size u w'))
 (HP:Hid (∀ (u:World) (p:Option Addr) (q:Nat),Arg u p (ws X).length q (ws X)→Calls Tryd.prog 54 #[.agg #[.bool true,.slice p (ws X).length q,.int .i64 e1],.agg #[.int .i64 53,.int .i64 (-1074),.int .i64 1024]] u fun r w'=>r=.returned (.agg #[.int .u64 (F:Nat),.int .i64 ex,.bool true,.int .i64 mid])∧Below u.heap.size u w'))
 (HD:Hid (∀ u,Calls Tryd.prog 5 #[.float .f64 cw,.int .i64 ex] u fun r w'=>r=.returned (.float .f64 K)∧w'=u))
 (HC:Hid (∀ u,Calls Tryd.prog 30 #[.float .f64 K,.float .f64 13830554455654793216] u fun r w'=>r=.returned (.float .f64 K2)∧w'=u)) :
 Calls Tryd.prog 40 #[.agg #[.bool n,.slice a l c,.int .i64 e],.int .i64 mode,.agg #[.int .i64 53,.int .i64 (-1074),.int .i64 1024]] w fun r w'=>r=.returned (.tuple #[.float .f64 K2,.int .i64 0])∧Below w.heap.size w w':=by
 obtain ⟨W1,hW1⟩:∃ W,W=(w.alloc (.cells #[.bool n,.slice a l c,.int .i64 e] 64)).alloc (.cells #[.int .i64 53,.int .i64 (-1074),.int .i64 1024] 84):=⟨_,rfl⟩;obtain ⟨hB,hz1,DD,DW⟩:=round_begin w n (.slice a l c) e 53 (-1074) 1024 W1 hW1;have H1:=hid (HF.out W1 hB);have SB:=(qsd (ai hB (ai hz1 DW)));clear hB hz1 DD DW HF;go_enter Tryd.func40,Tryd.ntmps40
 go_wp2_with fail
 rw [←hW1];clear hW1;refine H1.out.mono ?_;rintro r u1 ⟨⟨v,rfl,hN⟩,hb⟩;obtain ⟨a1,c1,rfl,_⟩:=hN.arg (by omega)
 obtain ⟨hB,hz1,DW⟩:=SB.out;obtain ⟨W2,hW2⟩:∃ W,W=u1.alloc (.cells #[.bool true,.slice a1 (ws X).length c1,.int .i64 e1] 64):=⟨_,rfl⟩;have hbW:Below u1.heap.size u1 W2:=by rw [hW2];exact below_alloc u1 _
 have D2:Dk W2 u1.heap.size true (.slice a1 (ws X).length c1) e1:=by rw [hW2];exact Dk.new u1 _ _ _
 have V2:Wk W2 (w.heap.size+1) 53 (-1074) 1024:=(DW.below hb).below hbW;have hB2:Below w.heap.size w W2:=(hB.trans (hb.mono (by omega))).trans (hbW.mono (by have:=hb.size;omega))
 have H2:=hid (HP.out W2 a1 c1 ((hN.below hbW).arg' (by omega)).2)
 obtain ⟨x0,x1,x2,xf0,xf1,xf2⟩:=D2.facts;obtain ⟨y0,y1,y2⟩:=V2.facts;obtain ⟨t0,t1,t2⟩:=(DW.below hb).facts;have hzu:w.heap.size+1<u1.heap.size:=by have:=hb.size;omega
 have hzz:w.heap.size≤u1.heap.size:=by have:=hb.size;omega
 have hz4:u1.heap.size<W2.heap.size:=D2.lt;have S2:=(qsd (ai hB2 D2));clear hN hb H1 hB hz1 DW SB hbW D2 V2 hB2 HP
 go_wp2_with fail
 rw [←hW2];clear hW2;refine H2.out.mono ?_;rintro r u2 ⟨rfl,hb⟩;obtain ⟨W3,hW3⟩:∃ W,W=u2.alloc (.cells #[.int .u64 (F:Nat),.int .i64 ex,.bool true,.int .i64 mid] 101):=⟨_,rfl⟩;have hbW:Below u2.heap.size u2 W3:=by rw [hW3];exact below_alloc u2 _
 have P3:Pk W3 u2.heap.size (F:Nat) ex true mid:=by rw [hW3];exact heap_alloc_new _ _
 have D3:=(S2.out.2.below hb).below hbW;have hB3:Below w.heap.size w W3:=(S2.out.1.trans (hb.mono (by omega))).trans (hbW.mono (by have:=hb.size;omega))
 have hz6:u1.heap.size<u2.heap.size:=by have:=hb.size;omega
 obtain ⟨q0,q1,q2,q3,qf0,qf1,qf2,qf3⟩:=P3.facts;obtain ⟨d0,d1,d2,df0,df1,df2⟩:=D3.facts;have hz5:w.heap.size≤u2.heap.size:=by omega
 have hz7:u2.heap.size<W3.heap.size:=P3.lt;have S3:=(qsd (ai hB3 (ai P3 D3)));clear hb hbW P3 D3 hB3 S2 H2 x0 x1 x2 xf0 xf1 xf2 y0 y1 y2
 go_upto_region 7 with fail
 rw [←hW3];clear hW3
 go_wp2_with fail
 try simp only [ecv]
 refine (Calls.mono (HD.out _)) ?_;rintro r ww ⟨rfl,hw⟩;rw [hw];clear hw ww HD
 go_wp2_with fail
 refine (Calls.mono (HC.out _)) ?_;rintro r ww ⟨rfl,hw⟩;rw [hw];clear hw ww HC;go_wp2
 go_ret2
 exact ⟨rfl,S3.out.1⟩
theorem round_fff {w:World}{a:Option Addr}{l c:Nat}(n:Bool) (e mode:Int) (X:Nat) (e1:Int) (lX:(ws X).length≤8192) (hX:((((ws X).length:Nat):Int)==0)=false) (hm0:0≤mode) (hm4:mode≤4)
 (F cw K K2:Nat) (ex mid:Int) (hF:F≤9007199254740991) (ecv:floatOfInt .f64 (F:Int)=cw)
 (HF:Hid (∀ u,Below w.heap.size w u→Calls Tryd.prog 53 #[.agg #[.bool n,.slice a l c,.int .i64 e]] u fun r w'=>(∃ v,r=.returned (.tuple #[.agg #[.bool false,v,.int .i64 e1],.int .i64 0])∧Nt u.heap.size w' v X)∧Below u.heap.size u w'))
 (HP:Hid (∀ (u:World) (p:Option Addr) (q:Nat),Arg u p (ws X).length q (ws X)→Calls Tryd.prog 54 #[.agg #[.bool false,.slice p (ws X).length q,.int .i64 e1],.agg #[.int .i64 53,.int .i64 (-1074),.int .i64 1024]] u fun r w'=>r=.returned (.agg #[.int .u64 (F:Nat),.int .i64 ex,.bool false,.int .i64 mid])∧Below u.heap.size u w'))
 (HG:Hid (∀ u,Calls Tryd.prog 55 #[.agg #[.int .u64 (F:Nat),.int .i64 ex,.bool false,.int .i64 mid],.int .i64 mode,.bool false] u fun r w'=>r=.returned (.bool false)∧Below u.heap.size u w'))
 (HD:Hid (∀ u,Calls Tryd.prog 5 #[.float .f64 cw,.int .i64 ex] u fun r w'=>r=.returned (.float .f64 K)∧w'=u)) :
 Calls Tryd.prog 40 #[.agg #[.bool n,.slice a l c,.int .i64 e],.int .i64 mode,.agg #[.int .i64 53,.int .i64 (-1074),.int .i64 1024]] w fun r w'=>r=.returned (.tuple #[.float .f64 K,.int .i64 0])∧Below w.heap.size w w':=by
 obtain ⟨W1,hW1⟩:∃ W,W=(w.alloc (.cells #[.bool n,.slice a l c,.int .i64 e] 64)).alloc (.cells #[.int .i64 53,.int .i64 (-1074),.int .i64 1024] 84):=⟨_,rfl⟩;obtain ⟨hB,hz1,DD,DW⟩:=round_begin w n (.slice a l c) e 53 (-1074) 1024 W1 hW1;have H1:=hid (HF.out W1 hB);have SB:=(qsd (ai hB (ai hz1 DW)));clear hB hz1 DD DW HF;go_enter Tryd.func40,Tryd.ntmps40
 go_wp2_with fail
 rw [←hW1];clear hW1;refine H1.out.mono ?_;rintro r u1 ⟨⟨v,rfl,hN⟩,hb⟩;obtain ⟨a1,c1,rfl,_⟩:=hN.arg (by omega)
 obtain ⟨hB,hz1,DW⟩:=SB.out;obtain ⟨W2,hW2⟩:∃ W,W=u1.alloc (.cells #[.bool false,.slice a1 (ws X).length c1,.int .i64 e1] 64):=⟨_,rfl⟩;have hbW:Below u1.heap.size u1 W2:=by rw [hW2];exact below_alloc u1 _
 have D2:Dk W2 u1.heap.size false (.slice a1 (ws X).length c1) e1:=by rw [hW2];exact Dk.new u1 _ _ _
 have V2:Wk W2 (w.heap.size+1) 53 (-1074) 1024:=(DW.below hb).below hbW;have hB2:Below w.heap.size w W2:=(hB.trans (hb.mono (by omega))).trans (hbW.mono (by have:=hb.size;omega))
 have H2:=hid (HP.out W2 a1 c1 ((hN.below hbW).arg' (by omega)).2)
 obtain ⟨x0,x1,x2,xf0,xf1,xf2⟩:=D2.facts;obtain ⟨y0,y1,y2⟩:=V2.facts;obtain ⟨t0,t1,t2⟩:=(DW.below hb).facts;have hzu:w.heap.size+1<u1.heap.size:=by have:=hb.size;omega
 have hzz:w.heap.size≤u1.heap.size:=by have:=hb.size;omega
 have hz4:u1.heap.size<W2.heap.size:=D2.lt;have S2:=(qsd (ai hB2 D2));clear hN hb H1 hB hz1 DW SB hbW D2 V2 hB2 HP
 go_wp2_with fail
 rw [←hW2];clear hW2;refine H2.out.mono ?_;rintro r u2 ⟨rfl,hb⟩;obtain ⟨W3,hW3⟩:∃ W,W=u2.alloc (.cells #[.int .u64 (F:Nat),.int .i64 ex,.bool false,.int .i64 mid] 101):=⟨_,rfl⟩;have hbW:Below u2.heap.size u2 W3:=by rw [hW3];exact below_alloc u2 _
 have P3:Pk W3 u2.heap.size (F:Nat) ex false mid:=by rw [hW3];exact heap_alloc_new _ _
 have D3:=(S2.out.2.below hb).below hbW;have hB3:Below w.heap.size w W3:=(S2.out.1.trans (hb.mono (by omega))).trans (hbW.mono (by have:=hb.size;omega))
 have hz6:u1.heap.size<u2.heap.size:=by have:=hb.size;omega
 obtain ⟨q0,q1,q2,q3,qf0,qf1,qf2,qf3⟩:=P3.facts;obtain ⟨d0,d1,d2,df0,df1,df2⟩:=D3.facts;have hz5:w.heap.size≤u2.heap.size:=by omega
 have hz7:u2.heap.size<W3.heap.size:=P3.lt;have S3:=(qsd (ai hB3 (ai P3 D3)));clear hb hbW P3 D3 hB3 S2 H2 x0 x1 x2 xf0 xf1 xf2 y0 y1 y2
 go_upto_region 7 with fail
 rw [←hW3];clear hW3
 go_wp2_with fail
 refine (Calls.mono (HG.out _)) ?_;rintro r u3 ⟨rfl,hb⟩;have P4:=S3.out.2.1.below hb;have D4:=S3.out.2.2.below hb;have hB4:Below w.heap.size w u3:=S3.out.1.trans (hb.mono (by omega))
 have hz8:w.heap.size≤u3.heap.size:=by have:=hb.size;omega
 obtain ⟨r0,r1,r2,r3,rf0,rf1,rf2,rf3⟩:=P4.facts;obtain ⟨s0,s1,s2,sf0,sf1,sf2⟩:=D4.facts;have S4:=qsd hB4;clear hb P4 D4 hB4 S3 HG q0 q1 q2 q3 qf0 qf1 qf2 qf3 d0 d1 d2 df0 df1 df2
 go_wp2_with fail
 try simp only [ecv]
 refine (Calls.mono (HD.out _)) ?_;rintro r ww ⟨rfl,hw⟩;rw [hw];clear hw ww HD;go_wp2
 go_ret2
 exact ⟨rfl,S4.out⟩
theorem round_fft {w:World}{a:Option Addr}{l c:Nat}(n:Bool) (e mode:Int) (X:Nat) (e1:Int) (lX:(ws X).length≤8192) (hX:((((ws X).length:Nat):Int)==0)=false) (hm0:0≤mode) (hm4:mode≤4)
 (F cw K K2:Nat) (ex mid:Int) (hF:F≤9007199254740991) (ecv:floatOfInt .f64 (F:Int)=cw)
 (HF:Hid (∀ u,Below w.heap.size w u→Calls Tryd.prog 53 #[.agg #[.bool n,.slice a l c,.int .i64 e]] u fun r w'=>(∃ v,r=.returned (.tuple #[.agg #[.bool true,v,.int .i64 e1],.int .i64 0])∧Nt u.heap.size w' v X)∧Below u.heap.size u w'))
 (HP:Hid (∀ (u:World) (p:Option Addr) (q:Nat),Arg u p (ws X).length q (ws X)→Calls Tryd.prog 54 #[.agg #[.bool true,.slice p (ws X).length q,.int .i64 e1],.agg #[.int .i64 53,.int .i64 (-1074),.int .i64 1024]] u fun r w'=>r=.returned (.agg #[.int .u64 (F:Nat),.int .i64 ex,.bool false,.int .i64 mid])∧Below u.heap.size u w'))
 (HG:Hid (∀ u,Calls Tryd.prog 55 #[.agg #[.int .u64 (F:Nat),.int .i64 ex,.bool false,.int .i64 mid],.int .i64 mode,.bool true] u fun r w'=>r=.returned (.bool false)∧Below u.heap.size u w'))
 (HD:Hid (∀ u,Calls Tryd.prog 5 #[.float .f64 cw,.int .i64 ex] u fun r w'=>r=.returned (.float .f64 K)∧w'=u))
 (HC:Hid (∀ u,Calls Tryd.prog 30 #[.float .f64 K,.float .f64 13830554455654793216] u fun r w'=>r=.returned (.float .f64 K2)∧w'=u)) :
 Calls Tryd.prog 40 #[.agg #[.bool n,.slice a l c,.int .i64 e],.int .i64 mode,.agg #[.int .i64 53,.int .i64 (-1074),.int .i64 1024]] w fun r w'=>r=.returned (.tuple #[.float .f64 K2,.int .i64 0])∧Below w.heap.size w w':=by
 obtain ⟨W1,hW1⟩:∃ W,W=(w.alloc (.cells #[.bool n,.slice a l c,.int .i64 e] 64)).alloc (.cells #[.int .i64 53,.int .i64 (-1074),.int .i64 1024] 84):=⟨_,rfl⟩;obtain ⟨hB,hz1,DD,DW⟩:=round_begin w n (.slice a l c) e 53 (-1074) 1024 W1 hW1;have H1:=hid (HF.out W1 hB);have SB:=(qsd (ai hB (ai hz1 DW)));clear hB hz1 DD DW HF;go_enter Tryd.func40,Tryd.ntmps40
 go_wp2_with fail
 rw [←hW1];clear hW1;refine H1.out.mono ?_;rintro r u1 ⟨⟨v,rfl,hN⟩,hb⟩;obtain ⟨a1,c1,rfl,_⟩:=hN.arg (by omega)
 obtain ⟨hB,hz1,DW⟩:=SB.out;obtain ⟨W2,hW2⟩:∃ W,W=u1.alloc (.cells #[.bool true,.slice a1 (ws X).length c1,.int .i64 e1] 64):=⟨_,rfl⟩;have hbW:Below u1.heap.size u1 W2:=by rw [hW2];exact below_alloc u1 _
 have D2:Dk W2 u1.heap.size true (.slice a1 (ws X).length c1) e1:=by rw [hW2];exact Dk.new u1 _ _ _
 have V2:Wk W2 (w.heap.size+1) 53 (-1074) 1024:=(DW.below hb).below hbW;have hB2:Below w.heap.size w W2:=(hB.trans (hb.mono (by omega))).trans (hbW.mono (by have:=hb.size;omega))
 have H2:=hid (HP.out W2 a1 c1 ((hN.below hbW).arg' (by omega)).2)
 obtain ⟨x0,x1,x2,xf0,xf1,xf2⟩:=D2.facts;obtain ⟨y0,y1,y2⟩:=V2.facts;obtain ⟨t0,t1,t2⟩:=(DW.below hb).facts;have hzu:w.heap.size+1<u1.heap.size:=by have:=hb.size;omega
 have hzz:w.heap.size≤u1.heap.size:=by have:=hb.size;omega
 have hz4:u1.heap.size<W2.heap.size:=D2.lt;have S2:=(qsd (ai hB2 D2));clear hN hb H1 hB hz1 DW SB hbW D2 V2 hB2 HP
 go_wp2_with fail
 rw [←hW2];clear hW2;refine H2.out.mono ?_;rintro r u2 ⟨rfl,hb⟩;obtain ⟨W3,hW3⟩:∃ W,W=u2.alloc (.cells #[.int .u64 (F:Nat),.int .i64 ex,.bool false,.int .i64 mid] 101):=⟨_,rfl⟩;have hbW:Below u2.heap.size u2 W3:=by rw [hW3];exact below_alloc u2 _
 have P3:Pk W3 u2.heap.size (F:Nat) ex false mid:=by rw [hW3];exact heap_alloc_new _ _
 have D3:=(S2.out.2.below hb).below hbW;have hB3:Below w.heap.size w W3:=(S2.out.1.trans (hb.mono (by omega))).trans (hbW.mono (by have:=hb.size;omega))
 have hz6:u1.heap.size<u2.heap.size:=by have:=hb.size;omega
 obtain ⟨q0,q1,q2,q3,qf0,qf1,qf2,qf3⟩:=P3.facts;obtain ⟨d0,d1,d2,df0,df1,df2⟩:=D3.facts;have hz5:w.heap.size≤u2.heap.size:=by omega
 have hz7:u2.heap.size<W3.heap.size:=P3.lt;have S3:=(qsd (ai hB3 (ai P3 D3)));clear hb hbW P3 D3 hB3 S2 H2 x0 x1 x2 xf0 xf1 xf2 y0 y1 y2
 go_upto_region 7 with fail
 rw [←hW3];clear hW3
 go_wp2_with fail
 refine (Calls.mono (HG.out _)) ?_;rintro r u3 ⟨rfl,hb⟩;have P4:=S3.out.2.1.below hb;have D4:=S3.out.2.2.below hb;have hB4:Below w.heap.size w u3:=S3.out.1.trans (hb.mono (by omega))
 have hz8:w.heap.size≤u3.heap.size:=by have:=hb.size;omega
 obtain ⟨r0,r1,r2,r3,rf0,rf1,rf2,rf3⟩:=P4.facts;obtain ⟨s0,s1,s2,sf0,sf1,sf2⟩:=D4.facts;have S4:=qsd hB4;clear hb P4 D4 hB4 S3 HG q0 q1 q2 q3 qf0 qf1 qf2 qf3 d0 d1 d2 df0 df1 df2
 go_wp2_with fail
 try simp only [ecv]
 refine (Calls.mono (HD.out _)) ?_;rintro r ww ⟨rfl,hw⟩;rw [hw];clear hw ww HD
 go_wp2_with fail
 refine (Calls.mono (HC.out _)) ?_;rintro r ww ⟨rfl,hw⟩;rw [hw];clear hw ww HC;go_wp2
 go_ret2
 exact ⟨rfl,S4.out⟩
theorem round_ftf {w:World}{a:Option Addr}{l c:Nat}(n:Bool) (e mode:Int) (X:Nat) (e1:Int) (lX:(ws X).length≤8192) (hX:((((ws X).length:Nat):Int)==0)=false) (hm0:0≤mode) (hm4:mode≤4)
 (F cw K K2:Nat) (ex mid:Int) (hF:F≤9007199254740991) (ecv:floatOfInt .f64 ((F:Int)+1)=cw)
 (HF:Hid (∀ u,Below w.heap.size w u→Calls Tryd.prog 53 #[.agg #[.bool n,.slice a l c,.int .i64 e]] u fun r w'=>(∃ v,r=.returned (.tuple #[.agg #[.bool false,v,.int .i64 e1],.int .i64 0])∧Nt u.heap.size w' v X)∧Below u.heap.size u w'))
 (HP:Hid (∀ (u:World) (p:Option Addr) (q:Nat),Arg u p (ws X).length q (ws X)→Calls Tryd.prog 54 #[.agg #[.bool false,.slice p (ws X).length q,.int .i64 e1],.agg #[.int .i64 53,.int .i64 (-1074),.int .i64 1024]] u fun r w'=>r=.returned (.agg #[.int .u64 (F:Nat),.int .i64 ex,.bool false,.int .i64 mid])∧Below u.heap.size u w'))
 (HG:Hid (∀ u,Calls Tryd.prog 55 #[.agg #[.int .u64 (F:Nat),.int .i64 ex,.bool false,.int .i64 mid],.int .i64 mode,.bool false] u fun r w'=>r=.returned (.bool true)∧Below u.heap.size u w'))
 (HD:Hid (∀ u,Calls Tryd.prog 5 #[.float .f64 cw,.int .i64 ex] u fun r w'=>r=.returned (.float .f64 K)∧w'=u)) :
 Calls Tryd.prog 40 #[.agg #[.bool n,.slice a l c,.int .i64 e],.int .i64 mode,.agg #[.int .i64 53,.int .i64 (-1074),.int .i64 1024]] w fun r w'=>r=.returned (.tuple #[.float .f64 K,.int .i64 0])∧Below w.heap.size w w':=by
 obtain ⟨W1,hW1⟩:∃ W,W=(w.alloc (.cells #[.bool n,.slice a l c,.int .i64 e] 64)).alloc (.cells #[.int .i64 53,.int .i64 (-1074),.int .i64 1024] 84):=⟨_,rfl⟩;obtain ⟨hB,hz1,DD,DW⟩:=round_begin w n (.slice a l c) e 53 (-1074) 1024 W1 hW1;have H1:=hid (HF.out W1 hB);have SB:=(qsd (ai hB (ai hz1 DW)));clear hB hz1 DD DW HF;go_enter Tryd.func40,Tryd.ntmps40
 go_wp2_with fail
 rw [←hW1];clear hW1;refine H1.out.mono ?_;rintro r u1 ⟨⟨v,rfl,hN⟩,hb⟩;obtain ⟨a1,c1,rfl,_⟩:=hN.arg (by omega)
 obtain ⟨hB,hz1,DW⟩:=SB.out;obtain ⟨W2,hW2⟩:∃ W,W=u1.alloc (.cells #[.bool false,.slice a1 (ws X).length c1,.int .i64 e1] 64):=⟨_,rfl⟩;have hbW:Below u1.heap.size u1 W2:=by rw [hW2];exact below_alloc u1 _
 have D2:Dk W2 u1.heap.size false (.slice a1 (ws X).length c1) e1:=by rw [hW2];exact Dk.new u1 _ _ _
 have V2:Wk W2 (w.heap.size+1) 53 (-1074) 1024:=(DW.below hb).below hbW;have hB2:Below w.heap.size w W2:=(hB.trans (hb.mono (by omega))).trans (hbW.mono (by have:=hb.size;omega))
 have H2:=hid (HP.out W2 a1 c1 ((hN.below hbW).arg' (by omega)).2)
 obtain ⟨x0,x1,x2,xf0,xf1,xf2⟩:=D2.facts;obtain ⟨y0,y1,y2⟩:=V2.facts;obtain ⟨t0,t1,t2⟩:=(DW.below hb).facts;have hzu:w.heap.size+1<u1.heap.size:=by have:=hb.size;omega
 have hzz:w.heap.size≤u1.heap.size:=by have:=hb.size;omega
 have hz4:u1.heap.size<W2.heap.size:=D2.lt;have S2:=(qsd (ai hB2 D2));clear hN hb H1 hB hz1 DW SB hbW D2 V2 hB2 HP
 go_wp2_with fail
 rw [←hW2];clear hW2;refine H2.out.mono ?_;rintro r u2 ⟨rfl,hb⟩;obtain ⟨W3,hW3⟩:∃ W,W=u2.alloc (.cells #[.int .u64 (F:Nat),.int .i64 ex,.bool false,.int .i64 mid] 101):=⟨_,rfl⟩;have hbW:Below u2.heap.size u2 W3:=by rw [hW3];exact below_alloc u2 _
 have P3:Pk W3 u2.heap.size (F:Nat) ex false mid:=by rw [hW3];exact heap_alloc_new _ _
 have D3:=(S2.out.2.below hb).below hbW;have hB3:Below w.heap.size w W3:=(S2.out.1.trans (hb.mono (by omega))).trans (hbW.mono (by have:=hb.size;omega))
 have hz6:u1.heap.size<u2.heap.size:=by have:=hb.size;omega
 obtain ⟨q0,q1,q2,q3,qf0,qf1,qf2,qf3⟩:=P3.facts;obtain ⟨d0,d1,d2,df0,df1,df2⟩:=D3.facts;have hz5:w.heap.size≤u2.heap.size:=by omega
 have hz7:u2.heap.size<W3.heap.size:=P3.lt;have S3:=(qsd (ai hB3 (ai P3 D3)));clear hb hbW P3 D3 hB3 S2 H2 x0 x1 x2 xf0 xf1 xf2 y0 y1 y2
 go_upto_region 7 with fail
 rw [←hW3];clear hW3
 go_wp2_with fail
 refine (Calls.mono (HG.out _)) ?_;rintro r u3 ⟨rfl,hb⟩;have P4:=S3.out.2.1.below hb;have D4:=S3.out.2.2.below hb;have hB4:Below w.heap.size w u3:=S3.out.1.trans (hb.mono (by omega))
 have hz8:w.heap.size≤u3.heap.size:=by have:=hb.size;omega
 obtain ⟨r0,r1,r2,r3,rf0,rf1,rf2,rf3⟩:=P4.facts;obtain ⟨s0,s1,s2,sf0,sf1,sf2⟩:=D4.facts;have S4:=qsd hB4;clear hb P4 D4 hB4 S3 HG q0 q1 q2 q3 qf0 qf1 qf2 qf3 d0 d1 d2 df0 df1 df2
 go_wp2_with fail
 try simp only [ecv]
 refine (Calls.mono (HD.out _)) ?_;rintro r ww ⟨rfl,hw⟩;rw [hw];clear hw ww HD;go_wp2
 go_ret2
 exact ⟨rfl,Below.setC S4.out _ _ _ hz5 hz8⟩
theorem round_ftt {w:World}{a:Option Addr}{l c:Nat}(n:Bool) (e mode:Int) (X:Nat) (e1:Int) (lX:(ws X).length≤8192) (hX:((((ws X).length:Nat):Int)==0)=false) (hm0:0≤mode) (hm4:mode≤4)
 (F cw K K2:Nat) (ex mid:Int) (hF:F≤9007199254740991) (ecv:floatOfInt .f64 ((F:Int)+1)=cw)
 (HF:Hid (∀ u,Below w.heap.size w u→Calls Tryd.prog 53 #[.agg #[.bool n,.slice a l c,.int .i64 e]] u fun r w'=>(∃ v,r=.returned (.tuple #[.agg #[.bool true,v,.int .i64 e1],.int .i64 0])∧Nt u.heap.size w' v X)∧Below u.heap.size u w'))
 (HP:Hid (∀ (u:World) (p:Option Addr) (q:Nat),Arg u p (ws X).length q (ws X)→Calls Tryd.prog 54 #[.agg #[.bool true,.slice p (ws X).length q,.int .i64 e1],.agg #[.int .i64 53,.int .i64 (-1074),.int .i64 1024]] u fun r w'=>r=.returned (.agg #[.int .u64 (F:Nat),.int .i64 ex,.bool false,.int .i64 mid])∧Below u.heap.size u w'))
 (HG:Hid (∀ u,Calls Tryd.prog 55 #[.agg #[.int .u64 (F:Nat),.int .i64 ex,.bool false,.int .i64 mid],.int .i64 mode,.bool true] u fun r w'=>r=.returned (.bool true)∧Below u.heap.size u w'))
 (HD:Hid (∀ u,Calls Tryd.prog 5 #[.float .f64 cw,.int .i64 ex] u fun r w'=>r=.returned (.float .f64 K)∧w'=u))
 (HC:Hid (∀ u,Calls Tryd.prog 30 #[.float .f64 K,.float .f64 13830554455654793216] u fun r w'=>r=.returned (.float .f64 K2)∧w'=u)) :
 Calls Tryd.prog 40 #[.agg #[.bool n,.slice a l c,.int .i64 e],.int .i64 mode,.agg #[.int .i64 53,.int .i64 (-1074),.int .i64 1024]] w fun r w'=>r=.returned (.tuple #[.float .f64 K2,.int .i64 0])∧Below w.heap.size w w':=by
 obtain ⟨W1,hW1⟩:∃ W,W=(w.alloc (.cells #[.bool n,.slice a l c,.int .i64 e] 64)).alloc (.cells #[.int .i64 53,.int .i64 (-1074),.int .i64 1024] 84):=⟨_,rfl⟩;obtain ⟨hB,hz1,DD,DW⟩:=round_begin w n (.slice a l c) e 53 (-1074) 1024 W1 hW1;have H1:=hid (HF.out W1 hB);have SB:=(qsd (ai hB (ai hz1 DW)));clear hB hz1 DD DW HF;go_enter Tryd.func40,Tryd.ntmps40
 go_wp2_with fail
 rw [←hW1];clear hW1;refine H1.out.mono ?_;rintro r u1 ⟨⟨v,rfl,hN⟩,hb⟩;obtain ⟨a1,c1,rfl,_⟩:=hN.arg (by omega)
 obtain ⟨hB,hz1,DW⟩:=SB.out;obtain ⟨W2,hW2⟩:∃ W,W=u1.alloc (.cells #[.bool true,.slice a1 (ws X).length c1,.int .i64 e1] 64):=⟨_,rfl⟩;have hbW:Below u1.heap.size u1 W2:=by rw [hW2];exact below_alloc u1 _
 have D2:Dk W2 u1.heap.size true (.slice a1 (ws X).length c1) e1:=by rw [hW2];exact Dk.new u1 _ _ _
 have V2:Wk W2 (w.heap.size+1) 53 (-1074) 1024:=(DW.below hb).below hbW;have hB2:Below w.heap.size w W2:=(hB.trans (hb.mono (by omega))).trans (hbW.mono (by have:=hb.size;omega))
 have H2:=hid (HP.out W2 a1 c1 ((hN.below hbW).arg' (by omega)).2)
 obtain ⟨x0,x1,x2,xf0,xf1,xf2⟩:=D2.facts;obtain ⟨y0,y1,y2⟩:=V2.facts;obtain ⟨t0,t1,t2⟩:=(DW.below hb).facts;have hzu:w.heap.size+1<u1.heap.size:=by have:=hb.size;omega
 have hzz:w.heap.size≤u1.heap.size:=by have:=hb.size;omega
 have hz4:u1.heap.size<W2.heap.size:=D2.lt;have S2:=(qsd (ai hB2 D2));clear hN hb H1 hB hz1 DW SB hbW D2 V2 hB2 HP
 go_wp2_with fail
 rw [←hW2];clear hW2;refine H2.out.mono ?_;rintro r u2 ⟨rfl,hb⟩;obtain ⟨W3,hW3⟩:∃ W,W=u2.alloc (.cells #[.int .u64 (F:Nat),.int .i64 ex,.bool false,.int .i64 mid] 101):=⟨_,rfl⟩;have hbW:Below u2.heap.size u2 W3:=by rw [hW3];exact below_alloc u2 _
 have P3:Pk W3 u2.heap.size (F:Nat) ex false mid:=by rw [hW3];exact heap_alloc_new _ _
 have D3:=(S2.out.2.below hb).below hbW;have hB3:Below w.heap.size w W3:=(S2.out.1.trans (hb.mono (by omega))).trans (hbW.mono (by have:=hb.size;omega))
 have hz6:u1.heap.size<u2.heap.size:=by have:=hb.size;omega
 obtain ⟨q0,q1,q2,q3,qf0,qf1,qf2,qf3⟩:=P3.facts;obtain ⟨d0,d1,d2,df0,df1,df2⟩:=D3.facts;have hz5:w.heap.size≤u2.heap.size:=by omega
 have hz7:u2.heap.size<W3.heap.size:=P3.lt;have S3:=(qsd (ai hB3 (ai P3 D3)));clear hb hbW P3 D3 hB3 S2 H2 x0 x1 x2 xf0 xf1 xf2 y0 y1 y2
 go_upto_region 7 with fail
 rw [←hW3];clear hW3
 go_wp2_with fail
 refine (Calls.mono (HG.out _)) ?_;rintro r u3 ⟨rfl,hb⟩;have P4:=S3.out.2.1.below hb;have D4:=S3.out.2.2.below hb;have hB4:Below w.heap.size w u3:=S3.out.1.trans (hb.mono (by omega))
 have hz8:w.heap.size≤u3.heap.size:=by have:=hb.size;omega
 obtain ⟨r0,r1,r2,r3,rf0,rf1,rf2,rf3⟩:=P4.facts;obtain ⟨s0,s1,s2,sf0,sf1,sf2⟩:=D4.facts;have S4:=qsd hB4;clear hb P4 D4 hB4 S3 HG q0 q1 q2 q3 qf0 qf1 qf2 qf3 d0 d1 d2 df0 df1 df2
 go_wp2_with fail
 try simp only [ecv]
 refine (Calls.mono (HD.out _)) ?_;rintro r ww ⟨rfl,hw⟩;rw [hw];clear hw ww HD
 go_wp2_with fail
 refine (Calls.mono (HC.out _)) ?_;rintro r ww ⟨rfl,hw⟩;rw [hw];clear hw ww HC;go_wp2
 go_ret2
 exact ⟨rfl,Below.setC S4.out _ _ _ hz5 hz8⟩
end
section
open Go.RowKit
def rndK (mode:Int) (n:Bool) (X:Nat) (e:Int):Nat :=
 let p:=plc 53 (-1074) 1024 X e
 (p.2.1+1074).toNat*4503599627370496+(if p.2.2.1 then p.1 else if outS mode p.1 p.2.2.2 n then p.1+1 else p.1)
def rndS (o:Option (Bool×Nat×Int)) (mode:Int):Nat×Int :=
 if mode<0∨4<mode then (0,1)
 else match o with
  | none=>(0,2)
  | some (n,X,e)=>if X=0 then (0,0) else (rndK mode n X e+(if n then 9223372036854775808 else 0),0)
theorem plc_mid (X:Nat) (e:Int):(plc 53 (-1074) 1024 X e).2.2.2=-1∨(plc 53 (-1074) 1024 X e).2.2.2=0∨(plc 53 (-1074) 1024 X e).2.2.2=1:=by
 unfold plc
 split
 · simp
 · simp only
   split
   · simp
   · simp only
     split
     · simp
     · split <;> simp
theorem ldexp_word (F:Nat) (ex:Int) (hF:F≤9007199254740992) (h0:-1074≤ex) (h1:ex≤971) (hn:ex=-1074∨4503599627370496≤F) :
 ∃ cw,floatOfInt .f64 (F:Int)=cw∧∀ u,Calls Tryd.prog 5 #[.float .f64 cw,.int .i64 ex] u fun r w'=>r=.returned (.float .f64 ((ex+1074).toNat*4503599627370496+F))∧w'=u:=by
 by_cases hz:F=0
 · subst hz
   obtain rfl:ex=-1074:=by omega
   exact ⟨0,by decide,fun u=>B.Ldexp_nought _ u⟩
 · obtain ⟨e,g,hw⟩:=B.whole_of F (by omega) hF
   exact ⟨_,B.ofInt_whole F e g hw,fun u=>B.Ldexp_any F e g ex u hw (by omega) hF h0 h1 hn⟩
theorem copy_word (K:Nat) (hK:K≤9218868437227405312) (u:World):Calls Tryd.prog 30 #[.float .f64 K,.float .f64 13830554455654793216] u fun r w'=>r=.returned (.float .f64 (K+9223372036854775808))∧w'=u:=by
 have h:=B.copysign_neg (K/4503599627370496) (K%4503599627370496) (by omega) (by omega) u
 have e1:B.bw false (K/4503599627370496) (K%4503599627370496)=K:=by unfold B.bw;simp;omega
 have e2:B.bw true (K/4503599627370496) (K%4503599627370496)=K+9223372036854775808:=by unfold B.bw;simp;omega
 rw [e1,e2] at h;exact h
theorem round_any {w:World}{a:Option Addr}{l c:Nat}{xs:List Nat}(hA:Arg w a l c xs) (hT:Tab w) (n:Bool) (e mode:Int) (he0:-9223372036854775808≤e) (he1:e≤9223372036854775807) :
 Calls Tryd.prog 40 #[.agg #[.bool n,.slice a l c,.int .i64 e],.int .i64 mode,.agg #[.int .i64 53,.int .i64 (-1074),.int .i64 1024]] w fun r w'=>r=.returned (.tuple #[.float .f64 (rndS (mkS n (val xs) e) mode).1,.int .i64 (rndS (mkS n (val xs) e) mode).2])∧Below w.heap.size w w':=by
 unfold rndS
 by_cases hm:mode<0∨4<mode
 · rw [if_pos hm];exact round_mode n a l c e mode w hm
 · rw [if_neg hm]
   have HF:Hid (∀ u,Below w.heap.size w u→Calls Tryd.prog 53 #[.agg #[.bool n,.slice a l c,.int .i64 e]] u fun r w'=>DAns u.heap.size w' r (mkS n (val xs) e)∧Below u.heap.size u w'):=fun u hu=>form_any (hA.below hu) (hT.belows hu) n e he0 he1
   cases ho:mkS n (val xs) e with
   | none =>
     rw [ho] at HF;exact round_err n e mode false 0 0 2 (by rw [ws_zero];simp) (by omega) (by omega) rfl HF
   | some d =>
     obtain ⟨n1,X,e1⟩:=d;rw [ho] at HF;have FX:=mkS_frm ho;simp only
     by_cases hX:X=0
     · rw [if_pos hX]
       exact round_none n e mode n1 X e1 ((ws_len_zero X).2 hX) (by omega) (by omega) HF
     · rw [if_neg hX]
       have pf:=plc_facts X e1 hX FX.down FX.up;have pm:=plc_mid X e1;have HP:∀ (u:World) (p:Option Addr) (q:Nat),Arg u p (ws X).length q (ws X)→Calls Tryd.prog 54 #[.agg #[.bool n1,.slice p (ws X).length q,.int .i64 e1],.agg #[.int .i64 53,.int .i64 (-1074),.int .i64 1024]] u fun r w'=>r=.returned (.agg #[.int .u64 ((plc 53 (-1074) 1024 X e1).1:Nat),.int .i64 (plc 53 (-1074) 1024 X e1).2.1,.bool (plc 53 (-1074) 1024 X e1).2.2.1,.int .i64 (plc 53 (-1074) 1024 X e1).2.2.2])∧Below u.heap.size u w':=fun u p q hA=>placed_any hA n1 e1 FX.down FX.up hX FX.size
       unfold rndK;simp only;generalize plc 53 (-1074) 1024 X e1=P at pf pm HP ⊢;obtain ⟨F,ex,t,mid⟩:=P;simp only at pf pm HP ⊢;obtain ⟨p1,p2,p3,p4⟩:=pf;have HG:∀ u,Calls Tryd.prog 55 #[.agg #[.int .u64 (F:Nat),.int .i64 ex,.bool false,.int .i64 mid],.int .i64 mode,.bool n1] u fun r w'=>r=.returned (.bool (outS mode F mid n1))∧Below u.heap.size u w':=fun u=>goesOut_any F ex false mid mode n1 u (by omega) pm (by omega) (by omega)
       have lX:=frm_len FX
       cases t with
       | true =>
         simp only [if_true];obtain ⟨cw,ecv,HD⟩:=ldexp_word F ex (by omega) p2 p3 p4
         cases n1 with
         | false =>
           simp only [Bool.false_eq_true,if_false,Nat.add_zero];exact round_tf n e mode X e1 lX (len_ne hX) (by omega) (by omega) F cw _ 0 ex mid p1 ecv HF (hid HP) (hid HD)
         | true =>
           simp only [if_true];exact round_tt n e mode X e1 lX (len_ne hX) (by omega) (by omega) F cw _ _ ex mid p1 ecv HF (hid HP) (hid HD) (hid fun u=>copy_word _ (by omega) u)
       | false =>
         simp only [Bool.false_eq_true,if_false]
         cases hob:outS mode F mid n1 with
         | false =>
           rw [hob] at HG;simp only [Bool.false_eq_true,if_false];obtain ⟨cw,ecv,HD⟩:=ldexp_word F ex (by omega) p2 p3 p4
           cases n1 with
           | false =>
             simp only [Bool.false_eq_true,if_false,Nat.add_zero];exact round_fff n e mode X e1 lX (len_ne hX) (by omega) (by omega) F cw _ 0 ex mid p1 ecv HF (hid HP) (hid HG) (hid HD)
           | true =>
             simp only [if_true];exact round_fft n e mode X e1 lX (len_ne hX) (by omega) (by omega) F cw _ _ ex mid p1 ecv HF (hid HP) (hid HG) (hid HD) (hid fun u=>copy_word _ (by omega) u)
         | true =>
           rw [hob] at HG;simp only [if_true];obtain ⟨cw,ecv,HD⟩:=ldexp_word (F+1) ex (by omega) p2 p3 (by omega)
           cases n1 with
           | false =>
             simp only [Bool.false_eq_true,if_false,Nat.add_zero];exact round_ftf n e mode X e1 lX (len_ne hX) (by omega) (by omega) F cw _ 0 ex mid p1 (by simpa using ecv) HF (hid HP) (hid HG) (hid HD)
           | true =>
             simp only [if_true];exact round_ftt n e mode X e1 lX (len_ne hX) (by omega) (by omega) F cw _ _ ex mid p1 (by simpa using ecv) HF (hid HP) (hid HG) (hid HD) (hid fun u=>copy_word _ (by omega) u)
theorem Round_any {w:World}{a:Option Addr}{l c:Nat}{xs:List Nat}(hA:Arg w a l c xs) (hT:Tab w) (n:Bool) (e mode:Int) (he0:-9223372036854775808≤e) (he1:e≤9223372036854775807) :
 Calls Tryd.prog 24 #[.agg #[.bool n,.slice a l c,.int .i64 e],.int .i64 mode] w fun r w'=>r=.returned (.tuple #[.float .f64 (rndS (mkS n (val xs) e) mode).1,.int .i64 (rndS (mkS n (val xs) e) mode).2])∧Below w.heap.size w w':=by
 have hb0:=below_alloc w (.cells #[.bool n,.slice a l c,.int .i64 e] 64);have H:=hid (round_any (hA.below hb0) (hT.belows hb0) n e mode he0 he1);have S0:=qsd hb0;obtain ⟨⟨K,er⟩,hK⟩:∃ K,rndS (mkS n (val xs) e) mode=K:=⟨_,rfl⟩;rw [hK] at H ⊢;simp only at H ⊢;clear hA hT hb0 hK;go_enter Tryd.func24,Tryd.ntmps24
 go_wp2_with fail
 refine H.out.mono ?_;rintro r u1 ⟨rfl,hb⟩;have S1:=qsd hb;clear hb;go_wp2
 go_ret2
 exact ⟨rfl,S0.out.trans (S1.out.mono (by simp))⟩
end
section
open Go.RowKit
theorem lo_odd1 {X:Nat}(h:X%2=1):lo X=0:=by
 have:=lo_eq 0 (X/2);rw [show 2^0*(2*(X/2)+1)=X by omega] at this
 exact this
end
section
open Go.RowKit
theorem mkS_idem {n:Bool}{X:Nat}{e:Int}(F:Frm n X e):mkS n X e=some (n,X,e):=by
 unfold mkS
 rcases F.odd with h|⟨rfl,rfl,rfl⟩
 · have h1:=F.size;have h2:=F.up;have h3:=F.down
   rw [if_neg (by omega),lo_odd1 h,if_neg (by omega),Nat.pow_zero,Nat.div_one]
   simp
 · rw [if_pos rfl]
end
section
open Go.RowKit
abbrev vK (K:Nat):Nat:=B.val Ieee.double K
theorem vK_lt {K L:Nat}:vK K<vK L↔K<L:=B.val_lt_iff Ieee.double
theorem vK_word (j F:Nat) (h:j=0∨4503599627370496≤F) (hF:F≤9007199254740992):vK (j*4503599627370496+F)=F*2^j:=by
 have:=B.val_at Ieee.double j F (by rw [B.dBin];exact h) (by rw [B.dBin];omega)
 rw [B.dBin] at this;exact this
end
section
open Go.RowKit
def wd64 (s:Bool) (K:Nat):Nat:=K+(if s then 9223372036854775808 else 0)
def sK (s:Bool) (K:Nat):Int:=if s then -(K:Int) else K
theorem wd64_bw (s:Bool) (K:Nat) (h:K≤9218868437227405312):wd64 s K=B.bw s (K/4503599627370496) (K%4503599627370496)∧K/4503599627370496<2048∧K%4503599627370496<4503599627370496∧B.odd (K/4503599627370496) (K%4503599627370496)=false∧B.pl s (K/4503599627370496) (K%4503599627370496)=sK s K:=by
 refine ⟨?_,by omega,by omega,?_,?_⟩
 · unfold wd64 B.bw
   cases s
   · simp;omega
   · simp;omega
 · unfold B.odd
   simp;omega
 · unfold B.pl B.sg sK
   rw [show K/4503599627370496*4503599627370496+K%4503599627370496=K by omega]
theorem lt64 (s t:Bool) (K L:Nat) (hK:K≤9218868437227405312) (hL:L≤9218868437227405312):(FloatKind.f64.format.order (wd64 s K) (wd64 t L)==some .lt)=decide (sK s K<sK t L):=by
 obtain ⟨a1,a2,a3,a4,a5⟩:=wd64_bw s K hK;obtain ⟨b1,b2,b3,b4,b5⟩:=wd64_bw t L hL;rw [a1,b1,B.lt_f64 s t _ _ _ _ a2 a3 b2 b3,a4,b4,a5,b5];simp
theorem eq64 (s t:Bool) (K L:Nat) (hK:K≤9218868437227405312) (hL:L≤9218868437227405312):(FloatKind.f64.format.order (wd64 s K) (wd64 t L)==some .eq)=decide (sK s K=sK t L):=by
 obtain ⟨a1,a2,a3,a4,a5⟩:=wd64_bw s K hK;obtain ⟨b1,b2,b3,b4,b5⟩:=wd64_bw t L hL;rw [a1,b1,B.eq_f64 s t _ _ _ _ a2 a3 b2 b3,a4,b4,a5,b5];simp
def rS (n:Bool) (X:Nat):Bool:=if X=0 then false else n
def rW (mode:Int) (n:Bool) (X:Nat) (e:Int):Nat:=if X=0 then 0 else rndK mode n X e
theorem rndS_form (mode:Int) (n:Bool) (X:Nat) (e:Int) (h0:0≤mode) (h4:mode≤4):rndS (some (n,X,e)) mode=(wd64 (rS n X) (rW mode n X e),0):=by
 unfold rndS;rw [if_neg (by omega)]
 simp only;unfold rS rW wd64
 by_cases h:X=0
 · rw [if_pos h,if_pos h,if_pos h];rfl
 · rw [if_neg h,if_neg h,if_neg h]
end
section
open Go.RowKit
attribute [local go_sem] B.f64bits B.f64frombits st_float
def magW (x:Nat):Nat:=x%9223372036854775808
def negW (x:Nat):Bool:=decide (9223372036854775808≤x)
def turnW (x:Nat):Nat:=if 9223372036854775808≤x then x-9223372036854775808 else x+9223372036854775808
end
section
open Go.RowKit J
theorem wd_word (s:Bool) (K:Nat):wd64 s K=Ieee.double.word s K:=by
 unfold wd64;have e:Ieee.double.word s K=(if s then 9223372036854775808+K else K):=rfl
 rw [e]
 cases s <;> simp;omega
theorem hInf:Ieee.double.infRung<Ieee.double.signWeight:=by rw [B.dInf,B.dSign];omega
theorem hBin:Ieee.double.binade≤Ieee.double.infRung:=by rw [B.dInf,B.dBin];omega
theorem wd_of (x:Nat) (h:x<18446744073709551616):x=wd64 (negW x) (magW x):=by
 unfold wd64 negW magW
 by_cases hx:9223372036854775808≤x
 · rw [decide_eq_true hx,if_pos rfl];omega
 · rw [decide_eq_false hx,if_neg (by simp)];omega
theorem magW_wd (s:Bool) (K:Nat) (h:K<9223372036854775808):magW (wd64 s K)=K∧negW (wd64 s K)=s∧wd64 s K<18446744073709551616:=by
 unfold magW negW wd64
 cases s <;> simp <;> omega
theorem add_wd (s t:Bool) (K L:Nat) (hK:K<9218868437227405312) (hL:L<9218868437227405312) :
 ∃ R,NE R (B.sg s (vK K)+B.sg t (vK L)).natAbs 1∧Ieee.double.add (wd64 s K) (wd64 t L)=some (wd64 (if B.sg s (vK K)+B.sg t (vK L)=0 then s&&t else decide (B.sg s (vK K)+B.sg t (vK L)<0)) (min R 9218868437227405312)):=by
 obtain ⟨m,j,e1,v1⟩:=B.read_word Ieee.double s K (by rw [B.dInf];exact hK) hInf
 obtain ⟨n,k,e2,v2⟩:=B.read_word Ieee.double t L (by rw [B.dInf];exact hL) hInf
 obtain ⟨mag,c,es,ev⟩:=B.sum_num s t m n j k Ieee.double.leastPlace;rw [v1,v2] at es ev;rw [wd_word,wd_word];unfold Ieee.Format.add;rw [e1,e2,es]
 show ∃ R,NE R (B.sg s (vK K)+B.sg t (vK L)).natAbs 1∧some (Ieee.double.nearest _ mag _)=_
 generalize hT:B.sg s (vK K)+B.sg t (vK L)=T at *
 by_cases hm:mag=0
 · subst hm
   have hT0:T=0:=by rw [Nat.zero_mul] at ev;omega
   refine ⟨0,NEf.own (by decide) (by rw [hT0,B.val_zero];rfl),?_⟩
   unfold Ieee.Format.nearest;rw [if_pos rfl,if_pos hT0,wd_word,Nat.zero_min]
 · obtain ⟨R,h1,h2⟩:=nearest_ne (if T=0 then s&&t else decide (T<0)) mag c 0 hm
   refine ⟨R,by rw [ev,Nat.pow_zero] at h2;exact h2,?_⟩
   rw [show Ieee.double.leastPlace+(c:Int)-((0:Nat):Int)=Ieee.double.leastPlace+(c:Int) by omega] at h1
   rw [h1,wd_word,B.dInf]
end
section
open Go.RowKit J
theorem kinds (x:Nat) (hx:x<18446744073709551616):(nanW x=true∧(magW x==9218868437227405312)=false∧(magW x==0)=false∧9218868437227405312<magW x)∨(nanW x=false∧(magW x==9218868437227405312)=true∧(magW x==0)=false∧magW x=9218868437227405312)∨(nanW x=false∧(magW x==9218868437227405312)=false∧magW x<9218868437227405312):=by
 have e:nanW x=decide (9218868437227405312<magW x):=rfl
 rcases Nat.lt_trichotomy (magW x) 9218868437227405312 with h|h|h
 · refine .inr (.inr ⟨?_,?_,h⟩)
   · rw [e];simp;omega
   · simp;omega
 · refine .inr (.inl ⟨?_,?_,?_,h⟩)
   · rw [e];simp;omega
   · simp;omega
   · simp;omega
 · refine .inl ⟨?_,?_,?_,h⟩
   · rw [e];simp;omega
   · simp;omega
   · simp;omega
theorem read_nanW (x:Nat) (h:9218868437227405312<magW x):∃ s t,Ieee.double.read x=.nan s t:=⟨_,_,B.read_nan Ieee.double x (by rw [B.dInf,B.dSign];exact h) hBin⟩
theorem read_infW (x:Nat) (hx:x<18446744073709551616) (h:magW x=9218868437227405312):Ieee.double.read x=.infinity (negW x):=by
 have e:=wd_of x hx;rw [h,wd_word,←B.dInf] at e;rw [e,B.read_inf Ieee.double _ hInf hBin,←e]
theorem read_finW (x:Nat) (hx:x<18446744073709551616) (h:magW x<9218868437227405312):∃ m k,Ieee.double.read x=.number (negW x) m (Ieee.double.leastPlace+(k:Nat))∧m*2^k=vK (magW x):=by
 have e:=wd_of x hx;rw [wd_word] at e;obtain ⟨m,k,h1,h2⟩:=B.read_word Ieee.double (negW x) (magW x) (by rw [B.dInf];exact h) hInf
 rw [←e] at h1;exact ⟨m,k,h1,h2⟩
end
section
open Go.RowKit J
theorem arW_add (x y:Nat):arW .add x y=(((Ieee.double.read x).sum (Ieee.double.read y)).map Ieee.double.write).getD oddW:=rfl
theorem arW_sub (x y:Nat):arW .sub x y=(((Ieee.double.read x).sum (Ieee.double.read y).opposite).map Ieee.double.write).getD oddW:=rfl
theorem turn_wd (s:Bool) (K:Nat) (h:K<9223372036854775808):turnW (wd64 s K)=wd64 (!s) K:=by
 unfold turnW wd64
 cases s <;> simp <;> omega
theorem turn_lt (y:Nat) (hy:y<18446744073709551616):turnW y<18446744073709551616:=by unfold turnW;split <;> omega
theorem readOpp (f:Ieee.Format) (hs:f.infRung<f.signWeight) (t:Bool) (u:Nat) (hu:u<f.infRung):(f.read (f.word t u)).opposite=f.read (f.word (!t) u):=by
 have key:∀ b:Bool,(f.word b u/f.signWeight%2==1)=b∧f.word b u%f.signWeight=u:=by
  intro b;unfold Ieee.Format.word
  cases b
  · simp only [Bool.false_eq_true,if_false]
    rw [Nat.div_eq_of_lt (by omega)];exact ⟨rfl,Nat.mod_eq_of_lt (by omega)⟩
  · simp only [if_true]
    rw [Nat.add_div_left _ (by omega),Nat.div_eq_of_lt (by omega),Nat.add_mod_left];exact ⟨rfl,Nat.mod_eq_of_lt (by omega)⟩
 unfold Ieee.Format.read;simp only [(key t).1,(key t).2,(key (!t)).1,(key (!t)).2]
 by_cases h:u<f.binade
 · rw [if_pos h,if_pos h];rfl
 · rw [if_neg h,if_neg h,if_pos hu,if_pos hu];rfl
theorem sub_turn (x y:Nat) (hy:y<18446744073709551616):arW .sub x y=arW .add x (turnW y):=by
 rw [arW_sub,arW_add];have ey:=wd_of y hy;have hm:magW y<9223372036854775808:=Nat.mod_lt _ (by decide)
 have et:turnW y=wd64 (!negW y) (magW y):=by rw [←turn_wd _ _ hm,←ey]
 obtain ⟨m1,m2,m3⟩:=magW_wd (!negW y) (magW y) hm
 rcases kinds y hy with ⟨b1,b2,b3,b4⟩|⟨b1,b2,b3,b4⟩|⟨b1,b2,b4⟩
 · obtain ⟨s,t,hr⟩:=read_nanW y b4
   obtain ⟨s2,t2,hr2⟩:=read_nanW (turnW y) (by rw [et,m1];exact b4)
   rw [hr,hr2]
   cases Ieee.double.read x <;> rfl
 · have hr:=read_infW y hy b4
   have hr2:=read_infW (turnW y) (turn_lt y hy) (by rw [et,m1];exact b4)
   rw [hr,hr2,et,m2];rfl
 · have hr:=readOpp Ieee.double hInf (negW y) (magW y) (by rw [B.dInf];exact b4)
   rw [←wd_word,←ey,←wd_word,←et] at hr;rw [hr]
end
section
open Go.RowKit
attribute [local go_sem] st_float
theorem Sum_core (a b h t u v x l:Nat) (w:World)
 (H1:Hid (∀ uu,Calls Tryd.prog 16 #[.float .f64 a,.func (.func 17) #[] #[],.float .f64 b] uu fun r w'=>r=.returned (.float .f64 h)∧Below uu.heap.size uu w'))
 (H2:Hid (∀ uu,Calls Tryd.prog 16 #[.float .f64 h,.func (.func 18) #[] #[],.float .f64 a] uu fun r w'=>r=.returned (.float .f64 t)∧Below uu.heap.size uu w'))
 (H3:Hid (∀ uu,Calls Tryd.prog 16 #[.float .f64 h,.func (.func 18) #[] #[],.float .f64 t] uu fun r w'=>r=.returned (.float .f64 u)∧Below uu.heap.size uu w'))
 (H4:Hid (∀ uu,Calls Tryd.prog 16 #[.float .f64 a,.func (.func 18) #[] #[],.float .f64 u] uu fun r w'=>r=.returned (.float .f64 v)∧Below uu.heap.size uu w'))
 (H5:Hid (∀ uu,Calls Tryd.prog 16 #[.float .f64 b,.func (.func 18) #[] #[],.float .f64 t] uu fun r w'=>r=.returned (.float .f64 x)∧Below uu.heap.size uu w'))
 (H6:Hid (∀ uu,Calls Tryd.prog 16 #[.float .f64 v,.func (.func 17) #[] #[],.float .f64 x] uu fun r w'=>r=.returned (.float .f64 l)∧Below uu.heap.size uu w')) :
 Calls Tryd.prog 7 #[.float .f64 a,.float .f64 b] w fun r w'=>r=.returned (.agg #[.float .f64 h,.float .f64 l])∧Below w.heap.size w w':=by
 go_enter Tryd.func7,Tryd.ntmps7
 go_wp2_with fail
 refine (Calls.mono (H1.out _)) ?_;rintro r w1 ⟨rfl,hb1⟩;clear H1
 have hz1_0:w.heap.size<w1.heap.size:=by
  have:=hb1.size
  try simp at this
  omega
 have S1:=qsd (Below.trans (B:=w.heap.size) (a:=w) (by repeat (first | exact Below.refl _ _ | assumption | exact Aside.out ‹_› | exact Nat.le_refl _ | (simp only [World.size_alloc,World.size_setCell];omega) | (simp;done) | (simp;omega) | omega | refine Below.alloc ?_ ?_ _ | refine Below.setCell ?_ ?_ _ | refine Below.drew ?_)) (hb1.mono (by first | omega | (simp only [World.size_alloc,World.size_setCell];omega) | (simp;omega) | (simp;done))))
 obtain ⟨hc1,hf1⟩:=bcell hb1;clear hb1
 go_wp2_with fail
 refine (Calls.mono (H2.out _)) ?_;rintro r w2 ⟨rfl,hb2⟩;clear H2
 have hz2_0:w.heap.size<w2.heap.size:=by
  have:=hb2.size
  try simp at this
  omega
 have hy2:w1.heap.size≤w2.heap.size:=by
  have:=hb2.size
  try simp at this
  omega
 have S2:=qsd (Below.trans (B:=w.heap.size) (a:=w) (by repeat (first | exact Below.refl _ _ | assumption | exact Aside.out ‹_› | exact Nat.le_refl _ | (simp only [World.size_alloc,World.size_setCell];omega) | (simp;done) | (simp;omega) | omega | refine Below.alloc ?_ ?_ _ | refine Below.setCell ?_ ?_ _ | refine Below.drew ?_)) (hb2.mono (by first | omega | (simp only [World.size_alloc,World.size_setCell];omega) | (simp;omega) | (simp;done))))
 clear S1;obtain ⟨hc2,hf2⟩:=bcell hb2;clear hb2
 go_wp2_with fail
 refine (Calls.mono (H3.out _)) ?_;rintro r w3 ⟨rfl,hb3⟩;clear H3
 have hz3_0:w.heap.size<w3.heap.size:=by
  have:=hb3.size
  try simp at this
  omega
 have hy3:w2.heap.size≤w3.heap.size:=by
  have:=hb3.size
  try simp at this
  omega
 have S3:=qsd (Below.trans (B:=w.heap.size) (a:=w) (by repeat (first | exact Below.refl _ _ | assumption | exact Aside.out ‹_› | exact Nat.le_refl _ | (simp only [World.size_alloc,World.size_setCell];omega) | (simp;done) | (simp;omega) | omega | refine Below.alloc ?_ ?_ _ | refine Below.setCell ?_ ?_ _ | refine Below.drew ?_)) (hb3.mono (by first | omega | (simp only [World.size_alloc,World.size_setCell];omega) | (simp;omega) | (simp;done))))
 clear S2;obtain ⟨hc3,hf3⟩:=bcell hb3;clear hb3
 go_wp2_with fail
 refine (Calls.mono (H4.out _)) ?_;rintro r w4 ⟨rfl,hb4⟩;clear H4
 have hz4_0:w.heap.size<w4.heap.size:=by
  have:=hb4.size
  try simp at this
  omega
 have hy4:w3.heap.size≤w4.heap.size:=by
  have:=hb4.size
  try simp at this
  omega
 have S4:=qsd (Below.trans (B:=w.heap.size) (a:=w) (by repeat (first | exact Below.refl _ _ | assumption | exact Aside.out ‹_› | exact Nat.le_refl _ | (simp only [World.size_alloc,World.size_setCell];omega) | (simp;done) | (simp;omega) | omega | refine Below.alloc ?_ ?_ _ | refine Below.setCell ?_ ?_ _ | refine Below.drew ?_)) (hb4.mono (by first | omega | (simp only [World.size_alloc,World.size_setCell];omega) | (simp;omega) | (simp;done))))
 clear S3;obtain ⟨hc4,hf4⟩:=bcell hb4;clear hb4
 go_wp2_with fail
 refine (Calls.mono (H5.out _)) ?_;rintro r w5 ⟨rfl,hb5⟩;clear H5
 have hz5_0:w.heap.size<w5.heap.size:=by
  have:=hb5.size
  try simp at this
  omega
 have hy5:w4.heap.size≤w5.heap.size:=by
  have:=hb5.size
  try simp at this
  omega
 have S5:=qsd (Below.trans (B:=w.heap.size) (a:=w) (by repeat (first | exact Below.refl _ _ | assumption | exact Aside.out ‹_› | exact Nat.le_refl _ | (simp only [World.size_alloc,World.size_setCell];omega) | (simp;done) | (simp;omega) | omega | refine Below.alloc ?_ ?_ _ | refine Below.setCell ?_ ?_ _ | refine Below.drew ?_)) (hb5.mono (by first | omega | (simp only [World.size_alloc,World.size_setCell];omega) | (simp;omega) | (simp;done))))
 clear S4;obtain ⟨hc5,hf5⟩:=bcell hb5;clear hb5
 go_wp2_with fail
 refine (Calls.mono (H6.out _)) ?_;rintro r w6 ⟨rfl,hb6⟩;clear H6
 have hz6_0:w.heap.size<w6.heap.size:=by
  have:=hb6.size
  try simp at this
  omega
 have hy6:w5.heap.size≤w6.heap.size:=by
  have:=hb6.size
  try simp at this
  omega
 have S6:=qsd (Below.trans (B:=w.heap.size) (a:=w) (by repeat (first | exact Below.refl _ _ | assumption | exact Aside.out ‹_› | exact Nat.le_refl _ | (simp only [World.size_alloc,World.size_setCell];omega) | (simp;done) | (simp;omega) | omega | refine Below.alloc ?_ ?_ _ | refine Below.setCell ?_ ?_ _ | refine Below.drew ?_)) (hb6.mono (by first | omega | (simp only [World.size_alloc,World.size_setCell];omega) | (simp;omega) | (simp;done))))
 clear S5;obtain ⟨hc6,hf6⟩:=bcell hb6;clear hb6;go_wp2;exact bodyPost_ret (v:=.agg #[.float .f64 h,.float .f64 l]) (by simp [results,Tryd.results7,go_sem,hc1,hc2,hc3,hc4,hc5,hc6,hz1_0,hz2_0,hz3_0,hz4_0,hz5_0,hz6_0]) rfl ⟨rfl,(by repeat (first | exact Below.refl _ _ | assumption | exact Aside.out ‹_› | exact Nat.le_refl _ | (simp only [World.size_alloc,World.size_setCell];omega) | (simp;done) | (simp;omega) | omega | refine Below.alloc ?_ ?_ _ | refine Below.setCell ?_ ?_ _ | refine Below.drew ?_))⟩
end
section
open Go.RowKit J
abbrev Wd (x:Nat):Prop:=x<18446744073709551616
theorem odd_wd:Wd oddW:=by unfold Wd oddW;decide
theorem ar_wd (op:BinOp) (ho:op=.add∨op=.sub∨op=.mul) (x y:Nat):Wd (arW op x y):=by
 unfold arW
 cases h:floatBits op .f64 x y with
 | none=>exact odd_wd
 | some z=>exact (bits_fin ho h).2
def plW (x y:Nat):Nat:=arW .add x y
def miW (x y:Nat):Nat:=arW .sub x y
theorem pl_wd (x y:Nat):Wd (plW x y):=ar_wd .add (.inl rfl) x y
theorem mi_wd (x y:Nat):Wd (miW x y):=ar_wd .sub (.inr (.inl rfl)) x y
def sumP (a b:Nat):Nat×Nat:=(plW a b,plW (miW a (miW (plW a b) (miW (plW a b) a))) (miW b (miW (plW a b) a)))
theorem Sum_all (a b:Nat) (w:World):Calls Tryd.prog 7 #[.float .f64 a,.float .f64 b] w fun r w'=>r=.returned (.agg #[.float .f64 (sumP a b).1,.float .f64 (sumP a b).2])∧Below w.heap.size w w' :=
 Sum_core a b _ _ _ _ _ _ w (hid fun u=>step_plus _ _ u) (hid fun u=>step_minus _ _ u) (hid fun u=>step_minus _ _ u) (hid fun u=>step_minus _ _ u) (hid fun u=>step_minus _ _ u) (hid fun u=>step_plus _ _ u)
end
section
open Go.RowKit J
abbrev finW (x:Nat):Prop:=magW x<9218868437227405312
def fvW (x:Nat):Int:=B.sg (negW x) (vK (magW x))
def EQ:Nat:=2096
theorem exQ:∃ q:Nat,q=2^EQ:=⟨_,rfl⟩
noncomputable def QQ:Nat:=Classical.choose exQ
theorem Q_eq:QQ=2^EQ:=Classical.choose_spec exQ
theorem Q_pos:0<QQ:=by rw [Q_eq];exact Nat.two_pow_pos _
theorem vK_F (K:Nat):∃ m k:Nat,vK K=m*2^k∧m≤9007199254740992:=by
 show ∃ m k,B.val Ieee.double K=m*2^k∧m≤9007199254740992
 unfold B.val;rw [B.dBin]
 split
 · exact ⟨K,0,by simp,by omega⟩
 · exact ⟨_,_,rfl,by omega⟩
theorem fv_F (x:Nat):IsF (fvW x):=by
 obtain ⟨m,k,h1,h2⟩:=vK_F (magW x);unfold fvW B.sg;rw [h1]
 cases negW x
 · exact ⟨(m:Int),k,by simp,by omega,by omega⟩
 · exact ⟨-(m:Int),k,by simp [Int.neg_mul],by omega,by omega⟩
theorem F_vK {f:Int}(h:IsF f):∃ L,vK L=f.natAbs:=by
 by_cases hs:f.natAbs≤9007199254740992
 · refine ⟨f.natAbs,?_⟩
   have:=vK_word 0 f.natAbs (.inl rfl) hs;simpa using this
 · obtain ⟨k,h1,h2,h3⟩:=h.placed
   have h2':2^(52+k)≤f.natAbs:=by
    rcases h2 with rfl|h2
    · omega
    · exact h2
   obtain ⟨q,hq⟩:=h3;have hf:f.natAbs=q.natAbs*2^k:=by rw [hq,Int.natAbs_mul,natAbs_p2,Nat.mul_comm]
   rw [hf] at h1 h2' ⊢;rw [Nat.pow_add] at h1 h2';have a1:=Nat.lt_of_mul_lt_mul_right h1;have a2:=Nat.le_of_mul_le_mul_right h2' (Nat.two_pow_pos _);exact ⟨_,vK_word k q.natAbs (.inr (by omega)) (by omega)⟩
theorem ne_near {R V L:Nat}(h:NE R V 1):((vK R:Int)-V).natAbs≤((vK L:Int)-V).natAbs:=by
 have u:2*V≤vK R+vK (R+1):=by have:=h.up;rw [Nat.mul_one] at this;exact this
 rcases Nat.lt_trichotomy L R with c|c|c
 · have d:vK (R-1)+vK R≤2*V:=by have:=h.dn (by omega);rw [Nat.mul_one] at this;exact this
   have m1:vK L≤vK (R-1):=vmono (by omega)
   have m2:vK (R-1)<vK R:=vK_lt.2 (by omega)
   omega
 · rw [c];omega
 · have m1:vK (R+1)≤vK L:=vmono (by omega)
   have m2:vK R<vK (R+1):=vK_lt.2 (by omega)
   omega
theorem ne_rn {R:Nat}{T:Int}(h:NE R T.natAbs 1) {s:Bool}(hs:T≠0→s=decide (T<0)):IsRn T (B.sg s (vK R)):=by
 have hF:IsF (B.sg s (vK R)):=by
  obtain ⟨m,k,h1,h2⟩:=vK_F R;unfold B.sg;rw [h1]
  cases s
  · exact ⟨(m:Int),k,by simp,by omega,by omega⟩
  · exact ⟨-(m:Int),k,by simp [Int.neg_mul],by omega,by omega⟩
 refine ⟨hF,fun f hf=>?_⟩
 obtain ⟨L,hL⟩:=F_vK hf;have n:=ne_near (L:=L) h
 by_cases hT:T=0
 · subst hT
   have:NE 0 (0:Int).natAbs 1:=NEf.own (by decide) (by rw [B.val_zero];rfl)
   rw [h.one this (by decide),show vK 0=0 from B.val_zero _]
   unfold B.sg
   cases s <;> simp
 · have e:=hs hT
   unfold B.sg
   by_cases hn:T<0
   · rw [decide_eq_true hn] at e;subst e
     simp only [if_true];omega
   · rw [decide_eq_false hn] at e;subst e
     simp only [Bool.false_eq_true,if_false];omega
theorem top_half (K:Nat) (h:9218868437227405311≤K):2*QQ<vK K:=by
 obtain ⟨c,hc⟩:∃ c:Nat,c=2045:=⟨_,rfl⟩;have h1:=vK_word c 4503599627370496 (.inr (by omega)) (by omega)
 have h2:c*4503599627370496+4503599627370496<K:=by rw [hc];omega
 have h3:=vK_lt.2 h2;rw [h1] at h3
 have h4:2*QQ=4503599627370496*2^c:=by
  have a1:EQ+1=52+c:=by rw [hc];unfold EQ;rfl
  have a2:2*2^EQ=2^(EQ+1):=by rw [Nat.pow_succ,Nat.mul_comm]
  rw [Q_eq,a2,a1,Nat.pow_add]
 omega
theorem ne_fin {R V:Nat}(h:NE R V 1) (hV:V≤3*QQ):R<9218868437227405312:=by
 apply Nat.lt_of_not_le;intro hh
 have d:vK (R-1)+vK R≤2*V:=by have:=h.dn (by omega);rw [Nat.mul_one] at this;exact this
 have a1:=top_half (R-1) (by omega)
 obtain ⟨c,hc⟩:∃ c:Nat,c=2045:=⟨_,rfl⟩;have h1:=vK_word c 9007199254740992 (.inr (by omega)) (by omega)
 have h2:c*4503599627370496+9007199254740992≤R:=by rw [hc];omega
 have h3:vK (c*4503599627370496+9007199254740992)≤vK R:=vmono h2;rw [h1] at h3
 have h4:4*QQ=9007199254740992*2^c:=by
  have a1:EQ+2=53+c:=by rw [hc];unfold EQ;rfl
  have a2:4*2^EQ=2^(EQ+2):=by rw [Nat.pow_add,Nat.mul_comm]
  rw [Q_eq,a2,a1,Nat.pow_add]
 omega
theorem fv_wd (s:Bool) (K:Nat) (h:K<9218868437227405312):finW (wd64 s K)∧fvW (wd64 s K)=B.sg s (vK K):=by
 obtain ⟨h1,h2,_⟩:=magW_wd s K (by omega)
 unfold fvW;rw [h1,h2];exact ⟨by unfold finW;rw [h1];exact h,rfl⟩
theorem pl_fin {x y:Nat}(hx:Wd x) (hy:Wd y) (fx:finW x) (fy:finW y) (hT:(fvW x+fvW y).natAbs≤3*QQ):finW (plW x y)∧IsRn (fvW x+fvW y) (fvW (plW x y)):=by
 obtain ⟨R,hR,hA⟩:=add_wd (negW x) (negW y) (magW x) (magW y) fx fy;rw [←wd_of x hx,←wd_of y hy] at hA
 have e:plW x y=wd64 (if fvW x+fvW y=0 then negW x&&negW y else decide (fvW x+fvW y<0)) (min R 9218868437227405312):=by
  show (Ieee.double.add x y).getD oddW=_
  rw [hA];rfl
 have hf:=ne_fin hR hT;rw [Nat.min_eq_left (by omega)] at e
 obtain ⟨k1,k2⟩:=fv_wd (if fvW x+fvW y=0 then negW x&&negW y else decide (fvW x+fvW y<0)) R hf
 rw [e];refine ⟨k1,?_⟩;rw [k2];exact ne_rn (T:=fvW x+fvW y) hR (fun h=>if_neg h)
theorem fv_turn {y:Nat}(hy:Wd y) (fy:finW y):finW (turnW y)∧fvW (turnW y)=-fvW y:=by
 have hm:magW y<9223372036854775808:=Nat.mod_lt _ (by decide)
 have e:turnW y=wd64 (!negW y) (magW y):=by rw [←turn_wd _ _ hm,←wd_of y hy]
 rw [e];obtain ⟨k1,k2⟩:=fv_wd (!negW y) (magW y) fy;refine ⟨k1,?_⟩;rw [k2];unfold fvW B.sg
 cases negW y <;> simp
theorem mi_fin {x y:Nat}(hx:Wd x) (hy:Wd y) (fx:finW x) (fy:finW y) (hT:(fvW x-fvW y).natAbs≤3*QQ):finW (miW x y)∧IsRn (fvW x-fvW y) (fvW (miW x y)):=by
 obtain ⟨k1,k2⟩:=fv_turn hy fy;have e:miW x y=plW x (turnW y):=sub_turn x y hy;have:=pl_fin hx (turn_lt y hy) fx k1 (by rw [k2];rwa [Int.sub_eq_add_neg] at hT)
 rw [e,Int.sub_eq_add_neg,←k2];exact this
end
section
open Go.RowKit J
theorem two_Q:2*QQ=2^(EQ+1):=by rw [Q_eq,Nat.pow_succ,Nat.mul_comm]
theorem rn_2Q {V s:Int}(h:IsRn V s) (hV:V.natAbs≤2*QQ):s.natAbs≤2*QQ:=by
 rw [two_Q] at hV ⊢;exact h.abs_le hV
structure TwoP (p:Nat×Nat) (V:Int):Prop where
 w1:Wd p.1
 w2:Wd p.2
 f1:finW p.1
 f2:finW p.2
 val:fvW p.1+fvW p.2=V
theorem tiny {V s:Int}{Q:Nat}(h:4503599627370496*2*(s-V).natAbs≤V.natAbs) (hV:V.natAbs≤4*Q):-(Q:Int)≤64*(s-V)∧64*(s-V)≤Q:=by omega
theorem sum_bound {A C H T G V X:Int}{Q:Nat}(t1:-(Q:Int)≤64*(H-(A+C))∧64*(H-(A+C))≤Q) (t2:-(Q:Int)≤64*(T-(H-A))∧64*(T-(H-A))≤Q) (t3:-(Q:Int)≤64*(G-(H-T))∧64*(G-(H-T))≤Q)
 (e4:4503599627370496*2*(V-(A-G)).natAbs≤(A-G).natAbs) (e5:4503599627370496*2*(X-(C-T)).natAbs≤(C-T).natAbs):(V+X).natAbs≤3*Q:=by
 have k3:(A-G).natAbs≤4*Q:=by omega
 have k4:(C-T).natAbs≤4*Q:=by omega
 have t4:=tiny e4 k3;have t5:=tiny e5 k4;clear e4 e5 k3 k4;omega
theorem sum_two {a b:Nat}(ha:Wd a) (hb:Wd b) (fa:finW a) (fb:finW b) (la:(fvW a).natAbs≤QQ) (lb:(fvW b).natAbs≤QQ):TwoP (sumP a b) (fvW a+fvW b):=by
 have hQ:=Q_pos;obtain ⟨f1,r1⟩:=pl_fin ha hb fa fb (by omega)
 have n1:=r1.near _ (fv_F a);have s1:=rn_2Q r1 (by omega)
 have t1:=qsd (tiny (Q:=QQ) r1.rel (by omega))
 obtain ⟨f2,r2⟩:=mi_fin (pl_wd a b) ha f1 fa (by omega)
 have s2:=rn_2Q r2 (by omega)
 have t2:=qsd (tiny (Q:=QQ) r2.rel (by omega))
 have n2:=r2.near _ (fv_F (plW a b));clear n1;obtain ⟨f3,r3⟩:=mi_fin (pl_wd a b) (mi_wd (plW a b) a) f1 f2 (by omega)
 have s3:=rn_2Q r3 (by omega)
 have t3:=qsd (tiny (Q:=QQ) r3.rel (by omega))
 clear n2;obtain ⟨f4,r4⟩:=mi_fin ha (mi_wd (plW a b) (miW (plW a b) a)) fa f3 (by omega)
 obtain ⟨f5,r5⟩:=mi_fin hb (mi_wd (plW a b) a) fb f2 (by omega)
 obtain ⟨f6,r6⟩:=pl_fin (mi_wd a (miW (plW a b) (miW (plW a b) a))) (mi_wd b (miW (plW a b) a)) f4 f5 (sum_bound t1.out t2.out t3.out r4.rel r5.rel);exact ⟨pl_wd _ _,pl_wd _ _,f1,f6,sum_just (fv_F a) (fv_F b) r1 r2 r3 r4 r5 r6⟩
end
section
open Go.RowKit
def fvL:List Nat→Int
 | []=>0
 | x::xs=>fvW x+fvL xs
def FinL (L:List Nat):Prop:=∀ x ∈ L,Wd x∧finW x
theorem FinL.append {A B:List Nat}(h:FinL A) (k:FinL B):FinL (A++B):=fun x hx=>by
 rcases List.mem_append.1 hx with q|q
 · exact h x q
 · exact k x q
theorem fvL_append (A B:List Nat):fvL (A++B)=fvL A+fvL B:=by
 induction A with
 | nil=>simp [fvL]
 | cons x A ih=>simp only [List.cons_append,fvL,ih];omega
theorem sum_grows {a b:Nat}(ha:Wd a∧finW a) (hb:Wd b∧finW b) {G:Nat}(hab:(fvW a).natAbs+(fvW b).natAbs≤4503599627370496*G) (hG:4503599627370496*G≤QQ) :
 TwoP (sumP a b) (fvW a+fvW b)∧(fvW (sumP a b).1).natAbs+(fvW (sumP a b).2).natAbs≤(fvW a).natAbs+(fvW b).natAbs+G:=by
 have t:=sum_two ha.1 hb.1 ha.2 hb.2 (by omega) (by omega)
 refine ⟨t,?_⟩;have r:=(pl_fin ha.1 hb.1 ha.2 hb.2 (by have:=Q_pos;omega)).2.rel
 have e:=t.val;have e1:(sumP a b).1=plW a b:=rfl;rw [e1] at e ⊢;generalize fvW (plW a b)=s at *;generalize fvW (sumP a b).2=l at *;generalize fvW a=x at *;generalize fvW b=y at *;have e2:s-(x+y)=-l:=by omega
 rw [e2] at r;have e3:(-l).natAbs=l.natAbs:=Int.natAbs_neg l;rw [e3] at r;omega
end
section
open Go.RowKit
def Fs (B:Nat) (w:World) (ao:Option Addr) (xs:List Nat):Prop :=
 xs≠[]→∃ b off,b<B∧ao=some ⟨b,off,none⟩∧∀ i,i<xs.length→w.cell? ⟨b,off+i,none⟩=some (.float .f64 (xs.getD i 0))
theorem Fs.at {B:Nat}{w w':World}{ao:Option Addr}{xs:List Nat}(h:Fs B w ao xs) (hb:Below B w w') (i:Nat) (hi:i<xs.length):∃ b off,ao=some ⟨b,off,none⟩∧w'.cell? ⟨b,off+i,none⟩=some (.float .f64 (xs.getD i 0)):=by
 obtain ⟨b,off,h1,h2,h3⟩:=h (by intro e;subst e;simp at hi)
 exact ⟨b,off,h2,(hb.cell (p:=⟨b,off+i,none⟩) h1).trans (h3 i hi)⟩
theorem Fs.below {B:Nat}{w w':World}{ao:Option Addr}{xs:List Nat}(h:Fs B w ao xs) (hb:Below B w w'):Fs B w' ao xs:=by
 intro hne;obtain ⟨b,off,h1,h2,h3⟩:=h hne;exact ⟨b,off,h1,h2,fun i hi=>(hb.cell (p:=⟨b,off+i,none⟩) h1).trans (h3 i hi)⟩
theorem Fs.mono {B B':Nat}{w:World}{ao:Option Addr}{xs:List Nat}(h:Fs B w ao xs) (hb:B≤B'):Fs B' w ao xs:=by
 intro hne;obtain ⟨b,off,h1,h2,h3⟩:=h hne;exact ⟨b,off,Nat.lt_of_lt_of_le h1 hb,h2,h3⟩
theorem Fs.cell {B:Nat}{w w':World}{b off:Nat}{xs:List Nat}(h:Fs B w (some ⟨b,off,none⟩) xs) (hb:Below B w w') (i:Nat) (hi:i<xs.length):w'.cell? ⟨b,off+i,none⟩=some (.float .f64 (xs.getD i 0)):=by
 obtain ⟨b',off',e,hc⟩:=h.at hb i hi
 cases e
 exact hc
def W64 (xs:List Nat):Prop:=∀ x ∈ xs,x<18446744073709551616
theorem W64.get {xs:List Nat}(h:W64 xs) (i:Nat):xs.getD i 0<18446744073709551616:=by
 by_cases hi:i<xs.length
 · rw [List.getD_eq_getElem?_getD,List.getElem?_eq_getElem hi];exact h _ (List.getElem_mem hi)
 · rw [List.getD_eq_getElem?_getD,List.getElem?_eq_none (by omega)];simp
end
section
open Go.RowKit
def Wb (w:World) (g:Nat) (L:List Nat):Prop:=w.heap[g]?=some (.cells (L.map U).toArray 45 (0,0))
theorem Wb.lt {w:World}{g:Nat}{L:List Nat}(h:Wb w g L):g<w.heap.size:=(Array.getElem?_eq_some_iff.1 h).1
theorem Wb.cell {w:World}{g:Nat}{L:List Nat}(h:Wb w g L) (i:Nat) (hi:i<L.length):w.cell? ⟨g,i,none⟩=some (.int .u32 ((L.getD i 0:Nat):Int)):=by
 unfold Wb at h;simp only [World.cell?,h];simp [U,List.getD_eq_getElem?_getD,List.getElem?_eq_getElem hi]
theorem Wb.frozen {w:World}{g:Nat}{L:List Nat}(h:Wb w g L) (i:Nat):w.frozen? ⟨g,i,none⟩=false:=by
 unfold Wb at h;simp [World.frozen?,h]
theorem Wb.set {w:World}{g:Nat}{L:List Nat}(h:Wb w g L) (i x:Nat):Wb (w.setCell ⟨g,i,none⟩ (.int .u32 (x:Int))) g (L.set i x):=by
 unfold Wb at h ⊢;simp [World.setCell,Array.getElem?_modify,h,List.map_set,U]
theorem Wb.drew {w:World}{g:Nat}{L:List Nat}(h:Wb w g L):Wb w.drew g L:=h
def PB:Nat:=pw 133
theorem PB_pos:0<PB:=pw_pos 133
attribute [irreducible] PB
theorem val_lt_PB {L:List Nat}(hl:L.length=133) (hw:Wf L):val L<PB:=by
 have:=val_lt L hw;rw [hl] at this;unfold PB;exact this
theorem val_set (L:List Nat) (i x:Nat) (h:i<L.length):val (L.set i x)+L.getD i 0*pw i=val L+x*pw i:=by
 have h1:=val_take_drop L i (Nat.le_of_lt h);have h2:=val_take_drop (L.set i x) i (by simp;omega)
 rw [val_drop_succ L i h] at h1;rw [val_drop_succ (L.set i x) i (by simp;omega),getD_set_same _ _ _ h] at h2
 have e1:(L.set i x).take i=L.take i:=by rw [List.take_set];exact List.set_eq_of_length_le (by simp;omega)
 have e2:(L.set i x).drop (i+1)=L.drop (i+1):=by rw [List.drop_set,if_pos (by omega)]
 rw [e1,e2] at h2;rw [h2,h1]
 grind
theorem add_step (M:List Nat) (i c T s d:Nat) (h:i<M.length) (e:s+d*4294967296=c+M.getD i 0) (hT:val M+c*pw i=T):val (M.set i s)+d*pw (i+1)=T:=by
 have h1:=val_set M i s h;rw [pw_succ];have e2:(s+d*4294967296)*pw i=(c+M.getD i 0)*pw i:=by rw [e]
 rw [Nat.add_mul,Nat.add_mul,Nat.mul_assoc] at e2;omega
theorem take_step (M:List Nat) (i c T R s lo hi b:Nat) (h:i<M.length) (e:s+lo=M.getD i 0+b*4294967296) (hc:c=lo+hi*4294967296) (hT:val M+T=R+c*pw i):val (M.set i s)+T=R+(hi+b)*pw (i+1):=by
 have h1:=val_set M i s h;rw [pw_succ];have e2:(s+lo)*pw i=(M.getD i 0+b*4294967296)*pw i:=by rw [e]
 have e3:c*pw i=(lo+hi*4294967296)*pw i:=by rw [hc]
 rw [Nat.add_mul,Nat.add_mul,Nat.mul_assoc] at e2;rw [Nat.add_mul,Nat.mul_assoc] at e3;rw [Nat.add_mul];omega
theorem pw_pow (i:Nat):pw i=2^(32*i):=by unfold pw;rw [Nat.pow_mul]
theorem place_split (n p:Nat):n*2^(p%32)*pw (p/32)=n*2^p:=by
 rw [pw_pow,Nat.mul_assoc,←Nat.pow_add,Nat.mod_add_div]
theorem add_end (M:List Nat) (c T:Nat) (hl:M.length=133) (hw:Wf M) (h:val M+c*pw 133=T):val M=T%PB:=by
 have:=val_lt_PB hl hw;have e:pw 133=PB:=by unfold PB;rfl
 rw [←h,e,Nat.mul_comm,Nat.add_mul_mod_self_left,Nat.mod_eq_of_lt this]
theorem take_end (M:List Nat) (c T R:Nat) (hl:M.length=133) (hw:Wf M) (h:val M+T=R+c*pw 133):(val M:Int)=((R:Int)-(T:Int))%(PB:Int):=by
 have h1:=val_lt_PB hl hw;have e:pw 133=PB:=by unfold PB;rfl
 rw [e] at h
 have h2:(R:Int)-(T:Int)=(val M:Int)+(PB:Int)*(-(c:Int)):=by
  have:((val M+T:Nat):Int)=((R+c*PB:Nat):Int):=by rw [h]
  simp only [Int.natCast_add,Int.natCast_mul] at this;rw [Int.mul_neg,Int.mul_comm];omega
 rw [h2,Int.add_mul_emod_self_left,Int.emod_eq_of_lt (by omega) (by omega)]
end
section
open Go.RowKit
theorem shl_small (n q:Nat) (hn:n<4294967296) (hq:q<32):n*2^q<9223372036854775808:=by
 have h1:2^q≤2147483648:=by
  have:=Nat.pow_le_pow_right (n:=2) (by decide) (show q≤31 by omega)
  simpa using this
 calc n*2^q≤4294967295*2147483648:=Nat.mul_le_mul (by omega) h1
  _<_:=by decide
theorem shl_wrap (n p:Nat) (hn:n<4294967296):IntKind.u64.wrap ((n:Int)*2^(p%32))=((n*2^(p%32):Nat):Int):=by
 have h1:=shl_small n (p%32) hn (Nat.mod_lt _ (by decide))
 have e:((n:Int)*2^(p%32))=((n*2^(p%32):Nat):Int):=by simp
 rw [e];exact wrap_u64n _ (by omega) (by omega)
theorem wadd_any (L:List Nat) (g n p:Nat) (w:World) (hW:Wb w g L) (hl:L.length=133) (hL:Wf L) (hn:n<4294967296) (hp:p<4256) :
 Calls Tryd.prog 47 #[.pointer (some ⟨g,0,none⟩),.int .u32 (n:Nat),.int .i64 (p:Nat)] w fun r w' =>
  r=.returned (.tuple #[])∧∃ M,Wb w' g M∧M.length=133∧Wf M∧val M=(val L+n*2^p)%PB∧But g w w':=by
 have HR:Aside (Wf L∧L.length=133):=⟨hL,hl⟩;have HO:Hid (Wb w g L):=hW;clear hL hW hl;go_enter Tryd.func47,Tryd.ntmps47;go_wp2
 go_loopg [6,7] 133 (fun k c i wr=>∃ (cv iv:Nat) (M:List Nat),133≤k+iv∧iv≤133∧c=.int .u64 (cv:Nat)∧cv<9223372036854775808∧i=.int .i64 (iv:Nat) ∧
  Hid (Wb wr g M)∧Aside (Wf M∧M.length=133∧val M+cv*pw iv=val L+n*2^p∧But g w wr))
 case atStart =>
  exact ⟨n*2^(p%32),p/32,L,by omega,by omega,by rw [shl_wrap n p hn],shl_small n _ hn (Nat.mod_lt _ (by decide)),by simp,HO,HR.out.1,HR.out.2,by rw [place_split],But.refl _ _⟩
 case round =>
  obtain ⟨cv,iv,M,hk,hi,rfl,hcv,rfl,HM,HA⟩:=hrel
  by_cases h1:iv=133
  · subst h1
    go_wp2;refine bodyPost_end (v:=.tuple #[]) (by simp [results,Tryd.results47,go_sem]) rfl ?_
    obtain ⟨hMw,hMl,hMs,hbut⟩:=HA.out;exact ⟨rfl,M,HM.out,hMl,hMw,add_end M cv _ hMl hMw hMs,hbut⟩
  by_cases h2:cv=0
  · subst h2
    have h3:(iv:Int)<133:=by omega
    go_wp2;refine bodyPost_end (v:=.tuple #[]) (by simp [results,Tryd.results47,go_sem]) rfl ?_
    obtain ⟨hMw,hMl,hMs,hbut⟩:=HA.out;exact ⟨rfl,M,HM.out,hMl,hMw,add_end M 0 _ hMl hMw (by rw [←hMs];simp),hbut⟩
  · have h3:iv<133:=by omega
    have h4:0<cv:=by omega
    obtain ⟨hMw,hMl,hMs,hbut⟩:=HA.out;have hgc:=HM.out.cell iv (by omega)
    have hgf:=HM.out.frozen iv;obtain ⟨x,hx⟩:∃ x:Nat,M.getD iv 0=x:=⟨_,rfl⟩;have hxl:x<4294967296:=hx ▸ hMw.get _;rw [hx] at hgc;have HX:Aside (M.getD iv 0=x):=hx;clear hx hMw hMl hMs hbut h1 h2;obtain ⟨k,rfl⟩:∃ k,gk=k+1:=⟨gk-1,by omega⟩
    go_wp2
    go_roundg k
    case measure=>omega
    case rel =>
     obtain ⟨hMw,hMl,hMs,hbut⟩:=HA.out;have e1:((cv:Int)+(x:Int))%4294967296=(((cv+x)%4294967296:Nat):Int):=by omega
     have e2:((cv:Int)+(x:Int))/4294967296=(((cv+x)/4294967296:Nat):Int):=by omega
     rw [e1];exact ⟨(cv+x)/4294967296,iv+1,M.set iv ((cv+x)%4294967296),by omega,by omega,by rw [e2],by omega,by simp,HM.out.set iv _,hMw.set _ _ (Nat.mod_lt _ (by decide)),by simp [hMl],add_step M iv cv _ _ _ (by omega) (by rw [HX.out];omega) hMs,hbut.set iv _⟩
theorem wtake_any (L:List Nat) (g n p:Nat) (w:World) (hW:Wb w g L) (hl:L.length=133) (hL:Wf L) (hn:n<4294967296) (hp:p<4256) :
 Calls Tryd.prog 46 #[.pointer (some ⟨g,0,none⟩),.int .u32 (n:Nat),.int .i64 (p:Nat)] w fun r w' =>
  r=.returned (.tuple #[])∧∃ M,Wb w' g M∧M.length=133∧Wf M∧(val M:Int)=((val L:Int)-((n*2^p:Nat):Int))%(PB:Int)∧But g w w':=by
 have HR:Aside (Wf L∧L.length=133):=⟨hL,hl⟩;have HO:Hid (Wb w g L):=hW;clear hL hW hl;go_enter Tryd.func46,Tryd.ntmps46;go_wp2
 go_loopg [6,7] 133 (fun k c i wr=>∃ (cv iv:Nat) (M:List Nat),133≤k+iv∧iv≤133∧c=.int .u64 (cv:Nat)∧cv<9223372036854775808∧i=.int .i64 (iv:Nat) ∧
  Hid (Wb wr g M)∧Aside (Wf M∧M.length=133∧val M+n*2^p=val L+cv*pw iv∧But g w wr))
 case atStart =>
  exact ⟨n*2^(p%32),p/32,L,by omega,by omega,by rw [shl_wrap n p hn],shl_small n _ hn (Nat.mod_lt _ (by decide)),by simp,HO,HR.out.1,HR.out.2,by rw [place_split],But.refl _ _⟩
 case round =>
  obtain ⟨cv,iv,M,hk,hi,rfl,hcv,rfl,HM,HA⟩:=hrel
  by_cases h1:iv=133
  · subst h1
    go_wp2;refine bodyPost_end (v:=.tuple #[]) (by simp [results,Tryd.results46,go_sem]) rfl ?_
    obtain ⟨hMw,hMl,hMs,hbut⟩:=HA.out;exact ⟨rfl,M,HM.out,hMl,hMw,take_end M cv _ _ hMl hMw hMs,hbut⟩
  by_cases h2:cv=0
  · subst h2
    have h3:(iv:Int)<133:=by omega
    go_wp2;refine bodyPost_end (v:=.tuple #[]) (by simp [results,Tryd.results46,go_sem]) rfl ?_
    obtain ⟨hMw,hMl,hMs,hbut⟩:=HA.out;exact ⟨rfl,M,HM.out,hMl,hMw,take_end M 0 _ _ hMl hMw (by rw [hMs];simp),hbut⟩
  · have h3:iv<133:=by omega
    have h4:0<cv:=by omega
    obtain ⟨hMw,hMl,hMs,hbut⟩:=HA.out;have hgc:=HM.out.cell iv (by omega)
    have hgf:=HM.out.frozen iv;obtain ⟨x,hx⟩:∃ x:Nat,M.getD iv 0=x:=⟨_,rfl⟩;have hxl:x<4294967296:=hx ▸ hMw.get _;rw [hx] at hgc;obtain ⟨lo,hlo⟩:∃ lo:Nat,cv%4294967296=lo:=⟨_,rfl⟩;obtain ⟨hi',hhi⟩:∃ hi':Nat,cv/4294967296=hi':=⟨_,rfl⟩;have e1:(cv:Int)%4294967296=(lo:Int):=by omega
    have e2:(cv:Int)/4294967296=(hi':Int):=by omega
    have b1:lo<4294967296:=by omega
    have b2:hi'<2147483648:=by omega
    have HX:Aside (M.getD iv 0=x∧cv=lo+hi'*4294967296):=⟨hx,by omega⟩
    clear hx hMw hMl hMs hbut h1 h2 hlo hhi;obtain ⟨k,rfl⟩:∃ k,gk=k+1:=⟨gk-1,by omega⟩
    by_cases hlt:x<lo
    · have h5:decide (x<lo)=true:=by simp [hlt]
      go_wp2
      go_region
      all_goals (
       go_wp2
       go_roundg k
       case measure=>omega
       case rel =>
        obtain ⟨hMw,hMl,hMs,hbut⟩:=HA.out;have e3:((x:Int)-(lo:Int))%4294967296=((x+4294967296-lo:Nat):Int):=by omega
        rw [e3];exact ⟨hi'+1,iv+1,M.set iv (x+4294967296-lo),by omega,by omega,by simp,by omega,by simp,(HM.out.set iv _).drew,hMw.set _ _ (by omega),by simp [hMl],take_step M iv cv _ _ _ lo hi' 1 (by omega) (by rw [HX.out.1];omega) HX.out.2 hMs,(hbut.set iv _).drew⟩)
    · have h5:decide (x<lo)=false:=by simp [hlt]
      go_wp2
      go_region
      all_goals (
       go_wp2
       go_roundg k
       case measure=>omega
       case rel =>
        obtain ⟨hMw,hMl,hMs,hbut⟩:=HA.out;have e3:((x:Int)-(lo:Int))=((x-lo:Nat):Int):=by omega
        rw [e3];exact ⟨hi',iv+1,M.set iv (x-lo),by omega,by omega,by simp,by omega,by simp,(HM.out.set iv _).drew,hMw.set _ _ (by omega),by simp [hMl],by have:=take_step M iv cv _ _ (x-lo) lo hi' 0 (by omega) (by rw [HX.out.1];omega) HX.out.2 hMs;simpa using this,(hbut.set iv _).drew⟩)
end
end Go.Proofs.YtaofncmoehebmaaDoor
