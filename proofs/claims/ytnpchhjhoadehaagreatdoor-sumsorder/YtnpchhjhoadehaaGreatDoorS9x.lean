import Derived.Test.YtnpchhjhoadehaaGreatDoorJ11x
import Derived.Test.YtnpchhjhoadehaaGreatDoorW3x
import Derived.Test.YtnpchhjhoadehaaGreatDoorW26x
import Derived.Test.YtnpchhjhoadehaaGreatDoorM1x
import Derived.Deep.RegionHeld
import Derived.OwnWalk
import Derived.Maps.AppendAt
set_option linter.unusedVariables false
set_option linter.unusedSimpArgs false
set_option maxHeartbeats 16000000
set_option maxRecDepth 20000
namespace Go.Proofs.YtnpchhjhoadehaaGreatDoor
section
open Go.RowKit
def SplitIs (x:Nat) (n:Bool) (c e:Int) (f:Nat):Prop:=∀ w:World,Calls Tryz.prog 42 #[.float .f64 x] w fun r w'=>r=.returned (.agg #[.bool n,.int .i64 c,.int .i64 e,.int .u64 (f:Nat)])∧Below w.heap.size w w'
def Th (lo:Nat) (w:World) (v:Value) (k:Nat) (T:Int):Prop :=
 ∃ ng a n c p xs,(∀ ad:Addr,a=some ad→lo≤ad.block)∧v=.agg #[.int .i64 (k:Nat),.bool ng,.slice a n c,.int .i64 ((p:Nat):Int)]∧Arg w a n c xs∧p+32*n≤4256∧sgn7 ng (val xs*2^p)=T
theorem Th.plain (lo:Nat) (w:World) (k:Nat):Th lo w (.agg #[.int .i64 (k:Nat),.bool false,.slice none 0 0,.int .i64 0]) k 0 :=
 ⟨false,none,0,0,0,[],fun _ e=>(by cases e),rfl,⟨rfl,Nat.le_refl _,by decide,Wf.nil,Rd.nil _ _ _,fun _=>rfl⟩,by decide,by simp [sgn7,val]⟩
theorem put4 {w:World}{g T:Nat}{a b c d v0 v1 v2 v3:Value}(h:Bl w g T [a,b,c,d]):Bl ((((w.setCell ⟨g,0,none⟩ v0).setCell ⟨g,1,none⟩ v1).setCell ⟨g,2,none⟩ v2).setCell ⟨g,3,none⟩ v3) g T [v0,v1,v2,v3] :=
 (((h.set 0 v0).set 1 v1).set 2 v2).set 3 v3
theorem Nt.but7 {lo g:Nat}{w w':World}{v:Value}{X:Nat}(h:Nt lo w v X) (hb:But g w w') (hg:g<lo):Nt lo w' v X:=by
 refine ⟨h.1,?_⟩
 rcases h.2 with hn|⟨g',cap,cur,rfl,hlo,hgc,rest⟩
 · exact .inl hn
 · exact .inr ⟨g',cap,cur,rfl,hlo,(hb.block g' (Array.getElem?_eq_some_iff.1 hgc).1 (by omega)).trans hgc,rest⟩
theorem mul_nt {w:World}{v1 v2:Value}{X Y V lo1 lo2:Nat}(N1:Nt lo1 w v1 X) (N2:Nt lo2 w v2 Y) (s1:(ws X).length≤1000) (s2:(ws Y).length≤1000) (e:mulS X Y=(V,0)) :
 Calls Tryz.prog 86 #[v1,v2] w fun r w'=>∃ v,r=.returned (.tuple #[v,.int .i64 0])∧Nt w.heap.size w' v V∧Below w.heap.size w w':=by
 obtain ⟨a,c,rfl,A1⟩:=N1.arg (by omega)
 obtain ⟨b,d,rfl,A2⟩:=N2.arg (by omega)
 exact Mul_arg A1 A2 (by rw [val_ws,val_ws];exact e)
theorem Bl.four {w:World}{g T:Nat}{a b c d:Value}(h:Bl w g T [a,b,c,d]):w.cell? ⟨g,0,none⟩=some a∧w.cell? ⟨g,1,none⟩=some b∧w.cell? ⟨g,2,none⟩=some c∧w.cell? ⟨g,3,none⟩=some d :=
 ⟨h.cell 0 _ rfl,h.cell 1 _ rfl,h.cell 2 _ rfl,h.cell 3 _ rfl⟩
theorem put4_below {B:Nat}{a w:World}{g:Nat}{v0 v1 v2 v3:Value}(h:Below B a w) (hB:B≤w.heap.size) (hg:B≤g):Below B a ((((w.setCell ⟨g,0,none⟩ v0).setCell ⟨g,1,none⟩ v1).setCell ⟨g,2,none⟩ v2).setCell ⟨g,3,none⟩ v3) :=
 But.below h (((((But.refl g w).set 0 v0).set 1 v1).set 2 v2).set 3 v3) hB hg
theorem mulS_small (f1 f2:Nat) (hf1:f1<9007199254740992) (hf2:f2<9007199254740992):mulS f1 f2=(f1*f2,0)∧(ws (f1*f2)).length≤4:=by
 have h1:f1*f2<pw 4:=by
  have:f1*f2≤9007199254740992*9007199254740992:=Nat.mul_le_mul (by omega) (by omega)
  have e:pw 4=340282366920938463463374607431768211456:=by decide
  omega
 have e4:pw 2=18446744073709551616:=by decide
 have g1:=bl_le_words f1 2 (by omega)
 have g2:=bl_le_words f2 2 (by omega)
 have g3:=bl_le_words (f1*f2) 4 h1;refine ⟨?_,(ws_len_le _ _).2 h1⟩;unfold mulS;rw [if_neg (by rw [LG_bl,LG_bl];omega),if_neg (by rw [LG_bl];omega)]
def pk (hi lo:Int) (ng:Bool):Nat:=if hi=4∨hi=3∧lo=0 then 1 else if hi=3 then (if ng then 3 else 2) else if lo=0 then (if ng then 4 else 5) else 0
def pv7 (hi lo:Int) (ng:Bool) (f1 f2:Nat) (e:Int):Int:=if pk hi lo ng=0 then sgn7 ng (f1*f2*2^(e+2148).toNat) else 0
theorem pv7_no {hi lo:Int}{ng:Bool}{f1 f2:Nat}{e:Int}(h:pk hi lo ng≠0):pv7 hi lo ng f1 f2 e=0:=by unfold pv7;rw [if_neg h]
theorem pv7_yes {hi lo:Int}{ng:Bool}{f1 f2:Nat}{e:Int}(h:pk hi lo ng=0):pv7 hi lo ng f1 f2 e=sgn7 ng (f1*f2*2^(e+2148).toNat):=by unfold pv7;rw [if_pos h]
theorem product_any (x y:Nat) (n1 n2:Bool) (c1 c2 x1 x2:Int) (f1 f2:Nat) (w:World) (H1:SplitIs x n1 c1 x1 f1) (H2:SplitIs y n2 c2 x2 f2)
 (hx1:-1074≤x1∧x1≤971) (hx2:-1074≤x2∧x2≤971) (hf1:f1<9007199254740992) (hf2:f2<9007199254740992) :
 Calls Tryz.prog 65 #[.float .f64 x,.float .f64 y] w fun r w'=>∃ v,r=.returned v ∧
  Th w.heap.size w' v (pk (max c1 c2) (min c1 c2) (!n1==n2)) (pv7 (max c1 c2) (min c1 c2) (!n1==n2) f1 f2 (x1+x2))∧Below w.heap.size w w':=by
 have H1:=hid H1;have H2:=hid H2;go_enter Tryz.func65,Tryz.ntmps65
 go_wp2_with fail
 refine Calls.mono (H1.out _) ?_;rintro r w1 ⟨rfl,hb1⟩;have B1:=qsd hb1;clear hb1
 go_wp2_with fail
 refine Calls.mono (H2.out _) ?_;rintro r w2 ⟨rfl,hb2⟩;have B2:=qsd hb2;clear hb2;go_wp2
 go_region
 obtain ⟨w4,hw4⟩:∃ w4,w4=((w2.alloc (Obj.cells #[Value.bool n1,Value.int IntKind.i64 c1,Value.int IntKind.i64 x1,Value.int IntKind.u64 (f1:Nat)] 85)).alloc (Obj.cells #[Value.bool n2,Value.int IntKind.i64 c2,Value.int IntKind.i64 x2,Value.int IntKind.u64 (f2:Nat)] 85)).drew:=⟨_,rfl⟩;rw [←hw4]
 have H4:Aside (Bl w4 w.heap.size 71 [Value.int .i64 0,Value.bool false,Value.slice none 0 0,Value.int .i64 0]∧Bl w4 w2.heap.size 85 [Value.bool n1,Value.int IntKind.i64 c1,Value.int IntKind.i64 x1,Value.int IntKind.u64 (f1:Nat)]∧Bl w4 (w2.heap.size+1) 85 [Value.bool n2,Value.int IntKind.i64 c2,Value.int IntKind.i64 x2,Value.int IntKind.u64 (f2:Nat)]∧Below w.heap.size w w4∧w.heap.size<w2.heap.size∧w4.heap.size=w2.heap.size+2):=by
  subst hw4;have z0:=Bl.new w 71 [Value.int .i64 0,Value.bool false,Value.slice none 0 0,Value.int .i64 0];have s0:w.heap.size<w1.heap.size:=by have:=B1.out.size;simp at this;omega
  have z1:=z0.below B1.out (by simp)
  have z2:=z1.below B2.out s0;have s2:=B2.out.size;refine ⟨((z2.alloc _).alloc _).drew,((Bl.new w2 85 [_,_,_,_]).alloc _).drew,(Bl.new' _ 85 _ [_,_,_,_] (by simp)).drew,?_,by omega,by simp⟩
  refine Below.drew ?_;refine ((((bel_alloc w _).trans (B1.out.mono (by simp))).trans (B2.out.mono (by omega))).trans ((bel_alloc _ _).mono (by omega))).trans ((bel_alloc _ _).mono (by simp;omega))
 clear hw4;obtain ⟨ng,hng⟩:∃ ng,ng=(!n1==n2):=⟨_,rfl⟩;obtain ⟨hi,hhi⟩:∃ hi,hi=max c1 c2:=⟨_,rfl⟩;obtain ⟨lo,hlo⟩:∃ lo,lo=min c1 c2:=⟨_,rfl⟩;rw [←hng,←hhi,←hlo];have HG:Aside (ng=(!n1==n2)∧hi=max c1 c2∧lo=min c1 c2):=⟨hng,hhi,hlo⟩;clear hng hhi hlo;have hne:w.heap.size≠w2.heap.size:=Nat.ne_of_lt H4.out.2.2.2.2.1;have hne2:w.heap.size≠w2.heap.size+1:=by have:=H4.out.2.2.2.2.1;omega
 have z0:=H4.out.1.cell 0 _ rfl;have z1:=H4.out.1.cell 1 _ rfl;have z2:=H4.out.1.cell 2 _ rfl;have z3:=H4.out.1.cell 3 _ rfl;have g0:=H4.out.1.frozen 0;have g1:=H4.out.1.frozen 1;have g2:=H4.out.1.frozen 2;have g3:=H4.out.1.frozen 3
 by_cases hodd:hi=4
 · subst hodd
   go_wp2;obtain ⟨w5,hw5⟩:∃ w5,w5=((((w4.setCell ⟨w.heap.size,0,none⟩ (.int .i64 1)).setCell ⟨w.heap.size,1,none⟩ (.bool false)).setCell ⟨w.heap.size,2,none⟩ (.slice none 0 0)).setCell ⟨w.heap.size,3,none⟩ (.int .i64 0)):=⟨_,rfl⟩;rw [←hw5];have q:Bl w5 w.heap.size 71 [.int .i64 1,.bool false,.slice none 0 0,.int .i64 0]:=by rw [hw5];exact put4 H4.out.1
   have qb:Below w.heap.size w w5:=by rw [hw5];exact put4_below H4.out.2.2.2.1 H4.out.2.2.2.1.size (Nat.le_refl _)
   skip
   clear hw5;obtain ⟨q0,q1,q2,q3⟩:=q.four;refine bodyPost_ret (v:=.agg #[.int .i64 1,.bool false,.slice none 0 0,.int .i64 0]) (by simp [results,Tryz.results65,go_sem,q0,q1,q2,q3]) rfl ?_
   rw [←HG.out.1,←HG.out.2.1,←HG.out.2.2];have hk:pk 4 lo ng=1:=by unfold pk;rw [if_pos (Or.inl rfl)]
   rw [pv7_no (by rw [hk];decide),hk]
   exact ⟨_,rfl,Th.plain _ _ _,qb⟩
 by_cases hinf:hi=3
 · subst hinf
   by_cases hz:lo=0
   · subst hz
     go_wp2;obtain ⟨w5,hw5⟩:∃ w5,w5=((((w4.setCell ⟨w.heap.size,0,none⟩ (.int .i64 1)).setCell ⟨w.heap.size,1,none⟩ (.bool false)).setCell ⟨w.heap.size,2,none⟩ (.slice none 0 0)).setCell ⟨w.heap.size,3,none⟩ (.int .i64 0)):=⟨_,rfl⟩;rw [←hw5];have q:Bl w5 w.heap.size 71 [.int .i64 1,.bool false,.slice none 0 0,.int .i64 0]:=by rw [hw5];exact put4 H4.out.1
     have qb:Below w.heap.size w w5:=by rw [hw5];exact put4_below H4.out.2.2.2.1 H4.out.2.2.2.1.size (Nat.le_refl _)
     skip
     clear hw5;obtain ⟨q0,q1,q2,q3⟩:=q.four;refine bodyPost_ret (v:=.agg #[.int .i64 1,.bool false,.slice none 0 0,.int .i64 0]) (by simp [results,Tryz.results65,go_sem,q0,q1,q2,q3]) rfl ?_
     rw [←HG.out.1,←HG.out.2.1,←HG.out.2.2];have hk:pk 3 0 ng=1:=by unfold pk;rw [if_pos (Or.inr ⟨rfl,rfl⟩)]
     rw [pv7_no (by rw [hk];decide),hk]
     exact ⟨_,rfl,Th.plain _ _ _,qb⟩
   · have hz':(lo==0)=false:=by simpa using hz
     cases ng
     · go_wp2_with (go_at_call 85;refine (signed_any _ _ _ _).mono ?_;rintro r u ⟨rfl,rfl⟩)
       obtain ⟨w5,hw5⟩:∃ w5,w5=((((u.setCell ⟨w.heap.size,0,none⟩ (.int .i64 2)).setCell ⟨w.heap.size,1,none⟩ (.bool false)).setCell ⟨w.heap.size,2,none⟩ (.slice none 0 0)).setCell ⟨w.heap.size,3,none⟩ (.int .i64 0)):=⟨_,rfl⟩;rw [←hw5];have q:Bl w5 w.heap.size 71 [.int .i64 2,.bool false,.slice none 0 0,.int .i64 0]:=by rw [hw5];exact put4 H4.out.1
       have qb:Below w.heap.size w w5:=by rw [hw5];exact put4_below H4.out.2.2.2.1 H4.out.2.2.2.1.size (Nat.le_refl _)
       skip
       clear hw5;obtain ⟨q0,q1,q2,q3⟩:=q.four;refine bodyPost_ret (v:=.agg #[.int .i64 2,.bool false,.slice none 0 0,.int .i64 0]) (by simp [results,Tryz.results65,go_sem,q0,q1,q2,q3]) rfl ?_
       rw [←HG.out.1,←HG.out.2.1,←HG.out.2.2];have hk:pk 3 lo false=2:=by unfold pk;rw [if_neg (by omega),if_pos rfl];rfl
       rw [pv7_no (by rw [hk];decide),hk]
       exact ⟨_,rfl,Th.plain _ _ _,qb⟩
     · go_wp2_with (go_at_call 85;refine (signed_any _ _ _ _).mono ?_;rintro r u ⟨rfl,rfl⟩)
       obtain ⟨w5,hw5⟩:∃ w5,w5=((((u.setCell ⟨w.heap.size,0,none⟩ (.int .i64 3)).setCell ⟨w.heap.size,1,none⟩ (.bool false)).setCell ⟨w.heap.size,2,none⟩ (.slice none 0 0)).setCell ⟨w.heap.size,3,none⟩ (.int .i64 0)):=⟨_,rfl⟩;rw [←hw5];have q:Bl w5 w.heap.size 71 [.int .i64 3,.bool false,.slice none 0 0,.int .i64 0]:=by rw [hw5];exact put4 H4.out.1
       have qb:Below w.heap.size w w5:=by rw [hw5];exact put4_below H4.out.2.2.2.1 H4.out.2.2.2.1.size (Nat.le_refl _)
       skip
       clear hw5;obtain ⟨q0,q1,q2,q3⟩:=q.four;refine bodyPost_ret (v:=.agg #[.int .i64 3,.bool false,.slice none 0 0,.int .i64 0]) (by simp [results,Tryz.results65,go_sem,q0,q1,q2,q3]) rfl ?_
       rw [←HG.out.1,←HG.out.2.1,←HG.out.2.2];have hk:pk 3 lo true=3:=by unfold pk;rw [if_neg (by omega),if_pos rfl];rfl
       rw [pv7_no (by rw [hk];decide),hk]
       exact ⟨_,rfl,Th.plain _ _ _,qb⟩
 have ho':(hi==4)=false:=by simpa using hodd
 have hi':(hi==3)=false:=by simpa using hinf
 by_cases hz:lo=0
 · subst hz
   cases ng
   · go_wp2_with (go_at_call 85;refine (signed_any _ _ _ _).mono ?_;rintro r u ⟨rfl,rfl⟩)
     obtain ⟨w5,hw5⟩:∃ w5,w5=((((u.setCell ⟨w.heap.size,0,none⟩ (.int .i64 5)).setCell ⟨w.heap.size,1,none⟩ (.bool false)).setCell ⟨w.heap.size,2,none⟩ (.slice none 0 0)).setCell ⟨w.heap.size,3,none⟩ (.int .i64 0)):=⟨_,rfl⟩;rw [←hw5];have q:Bl w5 w.heap.size 71 [.int .i64 5,.bool false,.slice none 0 0,.int .i64 0]:=by rw [hw5];exact put4 H4.out.1
     have qb:Below w.heap.size w w5:=by rw [hw5];exact put4_below H4.out.2.2.2.1 H4.out.2.2.2.1.size (Nat.le_refl _)
     skip
     clear hw5;obtain ⟨q0,q1,q2,q3⟩:=q.four;refine bodyPost_ret (v:=.agg #[.int .i64 5,.bool false,.slice none 0 0,.int .i64 0]) (by simp [results,Tryz.results65,go_sem,q0,q1,q2,q3]) rfl ?_
     rw [←HG.out.1,←HG.out.2.1,←HG.out.2.2];have hk:pk hi 0 false=5:=by unfold pk;rw [if_neg (by omega),if_neg (by omega),if_pos rfl];rfl
     rw [pv7_no (by rw [hk];decide),hk]
     exact ⟨_,rfl,Th.plain _ _ _,qb⟩
   · go_wp2_with (go_at_call 85;refine (signed_any _ _ _ _).mono ?_;rintro r u ⟨rfl,rfl⟩)
     obtain ⟨w5,hw5⟩:∃ w5,w5=((((u.setCell ⟨w.heap.size,0,none⟩ (.int .i64 4)).setCell ⟨w.heap.size,1,none⟩ (.bool false)).setCell ⟨w.heap.size,2,none⟩ (.slice none 0 0)).setCell ⟨w.heap.size,3,none⟩ (.int .i64 0)):=⟨_,rfl⟩;rw [←hw5];have q:Bl w5 w.heap.size 71 [.int .i64 4,.bool false,.slice none 0 0,.int .i64 0]:=by rw [hw5];exact put4 H4.out.1
     have qb:Below w.heap.size w w5:=by rw [hw5];exact put4_below H4.out.2.2.2.1 H4.out.2.2.2.1.size (Nat.le_refl _)
     skip
     clear hw5;obtain ⟨q0,q1,q2,q3⟩:=q.four;refine bodyPost_ret (v:=.agg #[.int .i64 4,.bool false,.slice none 0 0,.int .i64 0]) (by simp [results,Tryz.results65,go_sem,q0,q1,q2,q3]) rfl ?_
     rw [←HG.out.1,←HG.out.2.1,←HG.out.2.2];have hk:pk hi 0 true=4:=by unfold pk;rw [if_neg (by omega),if_neg (by omega),if_pos rfl];rfl
     rw [pv7_no (by rw [hk];decide),hk]
     exact ⟨_,rfl,Th.plain _ _ _,qb⟩
 have hz':(lo==0)=false:=by simpa using hz
 have hk0:pk hi lo ng=0:=by unfold pk;rw [if_neg (by omega),if_neg (by omega),if_neg (by omega)]
 have HK:=qsd hk0;clear hk0;have kS:Aside (w4.drew.cell? ⟨w2.heap.size,3,none⟩=some (.int .u64 (f1:Nat))∧w4.drew.cell? ⟨w2.heap.size+1,3,none⟩=some (.int .u64 (f2:Nat))):=⟨H4.out.2.1.drew.four.2.2.2,H4.out.2.2.1.drew.four.2.2.2⟩;have BB:Aside (Below w4.heap.size w4 w4.drew):=(Below.refl _ _).drew;have O1:=hid (fun u:World=>of_any f1 u (by omega))
 have O2:=hid (fun u:World=>of_any f2 u (by omega))
 have MS:=qsd (mulS_small f1 f2 hf1 hf2)
 have hpw2:Aside ((ws f1).length≤1000∧(ws f2).length≤1000):=by
  have e:pw 2=18446744073709551616:=by decide
  exact ⟨Nat.le_trans ((ws_len_le f1 2).2 (by omega)) (by decide),Nat.le_trans ((ws_len_le f2 2).2 (by omega)) (by decide)⟩
 clear hodd hinf hz z0 z1 z2 z3 g0 g1 g2 g3;go_wp2
 go_region_held (fun w'=>w'.cell? ⟨w2.heap.size,3,none⟩=some (.int .u64 (f1:Nat))∧w'.cell? ⟨w2.heap.size+1,3,none⟩=some (.int .u64 (f2:Nat))) (with_reducible exact kS.out) (first
  | (go_at_call 87
     with_reducible refine (O1.out _).mono ?_
     rintro r u ⟨v1,rfl,N1,hb⟩
     try have N2:=qsd (N2.out.below hb)
     have BB:=qsd (BB.out.trans (hb.mono BB.out.size));have kS:=qsd (ai (H4.out.2.1.below BB.out (by have:=H4.out.2.2.2.2.2;omega)).four.2.2.2 (H4.out.2.2.1.below BB.out (by have:=H4.out.2.2.2.2.2;omega)).four.2.2.2)
     have N1:=qsd N1;clear hb)
  | (go_at_call 87
     with_reducible refine (O2.out _).mono ?_
     rintro r u ⟨v2,rfl,N2,hb⟩
     try have N1:=qsd (N1.out.below hb)
     have BB:=qsd (BB.out.trans (hb.mono BB.out.size));have kS:=qsd (ai (H4.out.2.1.below BB.out (by have:=H4.out.2.2.2.2.2;omega)).four.2.2.2 (H4.out.2.2.1.below BB.out (by have:=H4.out.2.2.2.2.2;omega)).four.2.2.2)
     have N2:=qsd N2;clear hb)
  | (go_at_call 86
     with_reducible refine (mul_nt N1.out N2.out hpw2.out.1 hpw2.out.2 MS.out.1).mono ?_
     rintro r u ⟨v,rfl,NV,hb⟩;have NV:=qsd (ai NV BB.out.size);have BB:=qsd (BB.out.trans (hb.mono BB.out.size));have kS:=qsd (ai (H4.out.2.1.below BB.out (by have:=H4.out.2.2.2.2.2;omega)).four.2.2.2 (H4.out.2.2.1.below BB.out (by have:=H4.out.2.2.2.2.2;omega)).four.2.2.2)
     clear hb))
 all_goals (
  obtain ⟨a,c,rfl,_⟩:=NV.out.1.arg (Nat.le_trans MS.out.2 (by decide))
  have Z:=qsd (H4.out.1.below BB.out (by have:=H4.out.2.2.2.2.1;have:=H4.out.2.2.2.2.2;omega))
  obtain ⟨z0,z1,z2,z3⟩:=Z.out.four;have g0:=Z.out.frozen 0;have g1:=Z.out.frozen 1;have g2:=Z.out.frozen 2;have g3:=Z.out.frozen 3;have p2:=(H4.out.2.1.below BB.out (by have:=H4.out.2.2.2.2.2;omega)).four.2.2.1
  have r2:=(H4.out.2.2.1.below BB.out (by have:=H4.out.2.2.2.2.2;omega)).four.2.2.1
  have BW:=qsd (H4.out.2.2.2.1.trans (BB.out.mono H4.out.2.2.2.1.size));clear kS BB N1 N2;go_wp2;obtain ⟨w5,hw5⟩:∃ w5,w5=((((u.setCell ⟨w.heap.size,0,none⟩ (.int .i64 0)).setCell ⟨w.heap.size,1,none⟩ (.bool ng)).setCell ⟨w.heap.size,2,none⟩ (.slice a (ws (f1*f2)).length c)).setCell ⟨w.heap.size,3,none⟩ (.int .i64 (x1+x2+2148))):=⟨_,rfl⟩;rw [←hw5];have q:Bl w5 w.heap.size 71 [.int .i64 0,.bool ng,.slice a (ws (f1*f2)).length c,.int .i64 (x1+x2+2148)]:=by rw [hw5];exact put4 Z.out
  have qb:Below w.heap.size w w5:=by rw [hw5];exact put4_below BW.out BW.out.size (Nat.le_refl _)
  have qn:=NV.out.1.but7 (w':=w5) (g:=w.heap.size) (by rw [hw5];exact ((((But.refl _ u).set 0 _).set 1 _).set 2 _).set 3 _) (by have:=NV.out.2;have:=H4.out.2.2.2.2.1;have:=H4.out.2.2.2.2.2;omega)
  clear hw5;obtain ⟨q0,q1,q2,q3⟩:=q.four;refine bodyPost_ret (v:=.agg #[.int .i64 0,.bool ng,.slice a (ws (f1*f2)).length c,.int .i64 (x1+x2+2148)]) (by simp [results,Tryz.results65,go_sem,q0,q1,q2,q3]) rfl ?_
  rw [←HG.out.1,←HG.out.2.1,←HG.out.2.2,pv7_yes HK.out,HK.out];obtain ⟨a',c',e,AV⟩:=qn.arg (Nat.le_trans MS.out.2 (by decide))
  cases e
  refine ⟨_,rfl,⟨ng,a,_,c,(x1+x2+2148).toNat,ws (f1*f2),fun ad e=>?_,?_,AV,?_,?_⟩,qb⟩
  · subst e
    have h1:=(qn.lt ad.block rfl).1;have:=NV.out.2;have:=H4.out.2.2.2.2.1;have:=H4.out.2.2.2.2.2;omega
  · rw [Int.toNat_of_nonneg (by omega)];rfl
  · have:=MS.out.2
    omega
  · rw [val_ws])
theorem splitIs (s:Bool) (e f:Nat) (he:e<2048) (hf:f<4503599627370496):SplitIs (B.bw s e f) (B.ng s e f) (B.cls e f) (B.xp e) (B.fr e f).toNat:=fun w =>
 (B.Split_any s e f he hf w).mono fun r w' ⟨h1,h2⟩=>⟨by rw [h1,Int.toNat_of_nonneg];unfold B.fr;split <;> (try split) <;> omega,h2⟩
theorem xp_bound (e:Nat) (he:e<2048):-1074≤B.xp e∧B.xp e≤971:=by unfold B.xp;split <;> (try split) <;> omega
theorem fr_bound (e f:Nat) (hf:f<4503599627370496):(B.fr e f).toNat<9007199254740992:=by unfold B.fr;split <;> (try split) <;> omega
end
section
open Go.RowKit
def Acc7 (w:World) (g:Nat) (V:Int) (s:Sp):Prop:=∃ L:List Nat,L.length=133∧Wf L∧(val L:Int)=V%(PB:Int)∧-(HB:Int)<V∧V<(HB:Int)∧Ac w g L s
theorem Acc7.lt {w:World}{g:Nat}{V:Int}{s:Sp}(h:Acc7 w g V s):g<w.heap.size:=by obtain ⟨L,_,_,_,_,_,h⟩:=h;exact h.lt
theorem Acc7.below {w w':World}{g B:Nat}{V:Int}{s:Sp}(h:Acc7 w g V s) (hb:Below B w w') (hg:g<B):Acc7 w' g V s:=by
 obtain ⟨L,h1,h2,h3,h4,h5,h6⟩:=h;exact ⟨L,h1,h2,h3,h4,h5,h6.below hb hg⟩
theorem Acc7.bel {w w':World}{g:Nat}{V:Int}{s:Sp}(h:Acc7 w g V s) (hb:Below w.heap.size w w'):Acc7 w' g V s:=h.below hb h.lt
theorem PB_HB:PB=262144*HB:=by rw [PB_top,HB_eq];omega
theorem bey_val (N:Nat) (V:Int) (h:(N:Int)=V%(PB:Int)) (h0:-(2*HB:Int)<V) (h1:V<2*(HB:Int)):bey N=!(decide (-(HB:Int)<V∧V<(HB:Int))):=by
 have e:=PB_HB;have hp:=HB_pos;unfold bey
 by_cases hv:0≤V
 · rw [Int.emod_eq_of_lt hv (by omega)] at h
   by_cases hc:V<(HB:Int)
   · rw [decide_eq_false (by omega),decide_eq_true (by omega)];rfl
   · rw [decide_eq_true (by omega),decide_eq_false (by omega)];rfl
 · have h2:V%(PB:Int)=V+PB:=by
    rw [←Int.add_emod_right,Int.emod_eq_of_lt (by omega) (by omega)]
   rw [h2] at h
   by_cases hc:-(HB:Int)<V
   · rw [decide_eq_false (by omega),decide_eq_true (by omega)];rfl
   · rw [decide_eq_true (by omega),decide_eq_false (by omega)];rfl
def Did (g:Nat) (w:World) (X:Int×Int×Sp) (r:Ending) (w':World):Prop:=r=.returned (.int .i64 X.1)∧Acc7 w' g X.2.1 X.2.2∧But g w w'
def step7 (V:Int) (s:Sp) (T:Int) (t:Sp):Int×Int×Sp:=if -(HB:Int)<V+T∧V+T<(HB:Int) then (0,V+T,t) else (2,V,s)
def putS (V:Int) (s:Sp) (k:Nat) (T:Int):Int×Int×Sp:=if s.a=1099511627776 then (2,V,s) else step7 V s T (s.cnt k 1)
theorem become_any (g:Nat) (L M:List Nat) (V T:Int) (s t:Sp) (w:World) (hA:Ac w g L s) (hl:L.length=133) (hL:Wf L) (hv:(val L:Int)=V%(PB:Int)) (h0:-(HB:Int)<V) (h1:V<(HB:Int)) (hM:Wf M) (hm:M.length=133)
 (hvM:(val M:Int)=(V+T)%(PB:Int)) (hT0:-(HB:Int)<T) (hT1:T<(HB:Int)) :
 Calls Tryz.prog 62 #[.pointer (some ⟨g,0,none⟩),.agg (M.map U).toArray,t.agg] w (Did g w (step7 V s T t)):=by
 have hb:=bey_val (val M) (V+T) hvM (by omega) (by omega)
 by_cases hc:-(HB:Int)<V+T∧V+T<(HB:Int)
 · rw [decide_eq_true hc] at hb
   refine (become_yes g L M s t w hA hl hM hm hb).mono fun r w' ⟨a,b,c⟩=>?_
   unfold step7;rw [if_pos hc];exact ⟨a,⟨M,hm,hM,hvM,hc.1,hc.2,b⟩,c⟩
 · rw [decide_eq_false hc] at hb
   refine (become_no g L M s t w hA hM hm hb).mono fun r w' ⟨a,b⟩=>?_
   unfold step7;rw [if_neg hc];exact ⟨a,⟨L,hl,hL,hv,h0,h1,hA.below b hA.lt⟩,(But.refl g w).of_bel b⟩
end
section
open Go Go.RowKit
section
variable {P : Program} {ops : Array Oper} {Q : Exit → Act → World → Prop} {md : Region.Mode} {S : World → Prop} {stop : Nat}
def wpUntil (P:Program) (md:Region.Mode) (ops:Array Oper) (Q:Exit→Act→World→Prop) (S:World→Prop) (stop:Nat):Nat→Array Bool→Act→World→Prop
 | 0,listed,a,w=>Region.ready md ops listed=[]∧Q .normal a w
 | fuel+1,listed,a,w=>(Region.ready md ops listed=[]→Q .normal a w) ∧
  ∀ i ∈ Region.ready md ops listed,wpOp P ops Q i (fun b u=>(i<stop→S u)∧wpUntil P md ops Q S stop fuel (listed.setIfInBounds i true) b u) a w
theorem wpAny_until:∀ (fuel:Nat) (listed:Array Bool) (a:Act) (w:World),wpUntil P md ops Q S stop fuel listed a w→wpAny P md ops Q fuel listed a w
 | 0,_,_,_,h=>h
 | fuel+1,_,_,_,h=>⟨h.1,fun i hi=>wpOp_mono (fun b u k=>wpAny_until fuel _ b u k.2) (h.2 i hi)⟩
theorem until_region {id:Nat}{a:Act}{w:World}(S:World→Prop) (stop:Nat) (hm:P.follows .mixedOrders=true) (h:wpUntil P .any ops Q S stop ops.size (Array.replicate ops.size false) a w.drew):(Code.region id ops true).wp P Q a w :=
 wp_region_any hm (wpAny_until _ _ _ _ h)
def waits (md:Region.Mode) (ops:Array Oper) (i stop:Nat) (C:List Nat):Bool :=
 (List.range ops.size).all fun j=>!(C.contains j || decide (stop≤j)) || (match ops[j]? with | some o=>o.after.any (fun e=>Region.binds md e&&(e.on==i || C.contains e.on)) | none=>true)
def unlisted (listed:Array Bool) (C:List Nat):Bool:=C.all fun k=>listed.getD k true==false
theorem waits_spec {i:Nat}{C:List Nat}(h:waits md ops i stop C=true) {j:Nat}{oj:Oper}(hj:ops[j]?=some oj) (hc:j ∈ C∨stop≤j):∃ e ∈ oj.after,Region.binds md e=true∧(e.on=i∨e.on ∈ C):=by
 have h1:=(List.all_eq_true.1 h) j (by simp;exact (Array.getElem?_eq_some_iff.1 hj).1)
 rw [hj] at h1
 have h2:(C.contains j || decide (stop≤j))=true:=by
  rcases hc with hc|hc
  · simp [hc]
  · simp [hc]
 rw [h2] at h1;simp only [Bool.not_true,Bool.false_or] at h1;rw [←Array.any_toList] at h1;obtain ⟨e,he,hb⟩:=List.any_eq_true.1 h1;have he:=Array.mem_toList_iff.1 he;simp only [Bool.and_eq_true,Bool.or_eq_true,beq_iff_eq,List.contains_iff_mem] at hb;exact ⟨e,he,hb.1,hb.2⟩
theorem until_first {i:Nat}{C:List Nat}{oi:Oper}{v:Value}(hi:ops[i]?=some oi) (hsel:∀ (j:Nat) (o:Oper) cs b,ops[j]?=some o→o.op≠.select cs b)
 (hQ:∀ x a w,Q (.panic x) (a.put oi.dst v) w→Q (.panic x) a w) (hlate:waits md ops i stop C=true) :
 ∀ (fuel:Nat) (listed:Array Bool) (a:Act) (w:World),
   (∀ j oj,ops[j]?=some oj→j≠i→listed.getD j true=false→(∀ e ∈ oj.after,Region.binds md e=true→e.on≠i)→oi.apart ops oj=true) →
   i ∈ Region.ready md ops listed→(∀ k ∈ C,listed.getD k true=false)→YieldsIf P ops S oi v a→S w →
   wpUntil P md ops Q S stop fuel (listed.setIfInBounds i true) (a.put oi.dst v) w→wpUntil P md ops Q S stop (fuel+1) listed a w:=by
 intro fuel
 induction fuel with
 | zero =>
   intro listed a w _ hr _ hy hS H;refine ⟨fun h=>(by rw [h] at hr;cases hr),fun j hj=>?_⟩
   by_cases hji:j=i
   · subst hji;exact hy.wpOp hi hS ⟨fun _=>hS,H⟩
   · have:=ready_mono hj hji
     rw [H.1] at this
     cases this
 | succ fuel ih =>
   intro listed a w hfree hr hcl hy hS H;refine ⟨fun h=>(by rw [h] at hr;cases hr),fun j hj=>?_⟩
   by_cases hji:j=i
   · subst hji;exact hy.wpOp hi hS ⟨fun _=>hS,H⟩
   · have h1:=H.2 j (ready_mono hj hji)
     obtain ⟨hjun,oj,hoj,hall⟩:=mem_ready.1 hj;have h0:=(mem_ready.1 hr).1
     have un:∀ k,listed.getD k true=false→listed.getD k false=true→False:=fun k a1 a2=>by
      rcases Nat.lt_or_ge k listed.size with h'|h'
      · simp [h'] at a1 a2;rw [a1] at a2;cases a2
      · simp [Array.getElem?_eq_none h'] at a2
     have hnot:∀ e ∈ oj.after,Region.binds md e=true→e.on≠i:=fun e he hb heq=>un i h0 (heq ▸ hall e he hb)
     have hnw:¬(j ∈ C∨stop≤j):=fun hc=>by
      obtain ⟨e,he,hb,heq⟩:=waits_spec hlate hoj hc
      rcases heq with heq|heq
      · exact hnot e he hb heq
      · exact un _ (hcl _ heq) (hall e he hb)
     have hjs:j<stop:=by
      rcases Nat.lt_or_ge j stop with h|h
      · exact h
      · exact (hnw (Or.inr h)).elim
     have h2:=wpOp_putIf hoj (hfree j oj hoj hji hjun hnot) (fun cs b=>hsel i oi cs b hi) (fun cs b=>hsel j oj cs b hoj) hQ hy h1
     have hfree':∀ k ok,ops[k]?=some ok→k≠i→(listed.setIfInBounds j true).getD k true=false →
      (∀ e ∈ ok.after,Region.binds md e=true→e.on≠i)→oi.apart ops ok=true:=fun k ok hk hki hun hno=>by
      refine hfree k ok hk hki ?_ hno
      by_cases hjk:j=k
      · subst hjk;exact hjun
      · rw [Go.getD_set_ne true hjk] at hun;exact hun
     refine wpOp_mono (fun b u h3=>⟨h3.2.1,ih (listed.setIfInBounds j true) b u hfree' (ready_mono hr (Ne.symm hji)) (fun k hk=>by rw [Go.getD_set_ne true (show j≠k from fun e=>hnw (Or.inl (by rw [e];exact hk)))];exact hcl k hk) h3.1 (h3.2.1 hjs) ?_⟩) h2
     rw [Array.setIfInBounds_comm _ _ hji];exact h3.2.2
theorem until_take {i:Nat}(C:List Nat) {oi:Oper}{v:Value}{fuel:Nat}{listed:Array Bool}{a:Act}{w:World}(hi:ops[i]?=some oi)
 (hs:Region.noSelect ops=true) (hf:Region.free md ops listed i=true) (hr:(Region.ready md ops listed).contains i=true) (hw:waits md ops i stop C=true) (hun:unlisted listed C=true)
 (hQ:∀ c a w,Q (.panic c) (a.put oi.dst v) w→Q (.panic c) a w) (hy:YieldsIf P ops S oi v a) (hS:S w)
 (h:wpUntil P md ops Q S stop fuel (listed.setIfInBounds i true) (a.put oi.dst v) w):wpUntil P md ops Q S stop (fuel+1) listed a w :=
 until_first hi (Region.noSelect_spec hs) hQ hw fuel listed a w (Region.free_spec hi hf) (by simpa using hr) (fun k hk=>by have:=(List.all_eq_true.1 hun) k hk;simpa using this) hy hS h
theorem until_one {i:Nat}{o:Oper}{fuel:Nat}{listed:Array Bool}{a:Act}{w:World}(hr:Region.ready md ops listed=[i]) (ho:ops[i]?=some o)
 (h:∀ K':Act→World→Prop,Shut (∀ b u,(i<stop→S u)→wpUntil P md ops Q S stop fuel (listed.setIfInBounds i true) b u→K' b u)→if Region.wanted o (yielded ops a.tmps)=true then Oper.wp P o a w K' Q else K' (a.put o.dst undef) w):wpUntil P md ops Q S stop (fuel+1) listed a w :=
 ⟨fun h0=>(by rw [hr] at h0;cases h0),fun j hj=>by
  rw [hr] at hj;obtain rfl:=List.mem_singleton.1 hj;exact wpOp_step ho (fun K' hK=>h K' (fun b u h1 h2=>hK b u ⟨h1,h2⟩))⟩
theorem until_done {listed:Array Bool}{a:Act}{w:World}(hr:Region.ready md ops listed=[]) (h:Q .normal a w):∀ fuel,wpUntil P md ops Q S stop fuel listed a w
 | 0=>⟨hr,h⟩
 | _+1=>⟨fun _=>h,by rw [hr];simp⟩
end
end
section
open Go.RowKit
def Rf (lo:Nat) (w:World) (v:Value) (R:List Nat):Prop:=w.ownsRow lo 28 1 v R.length (R.map Fw10)
theorem Rf.nil (lo:Nat) (w:World):Rf lo w (.slice none 0 0) []:=World.ownsRow_nil w lo 28 1
theorem Rf.drew {lo:Nat}{w:World}{v:Value}{R:List Nat}(h:Rf lo w v R):Rf lo w.drew v R:=h
theorem Rf.alloc {lo:Nat}{w:World}{v:Value}{R:List Nat}(h:Rf lo w v R) (o:Obj):Rf lo (w.alloc o) v R:=World.ownsRow.alloc h o
theorem Rf.grown {lo:Nat}{w w':World}{v:Value}{R:List Nat}{row:Option Nat}(h:Rf lo w v R) (hg:w.grownBy w' row) (hne:∀ b,v.ownBlock=some b→row≠some b):Rf lo w' v R:=by
 refine ⟨h.1,?_⟩
 rcases h.2 with hn|⟨g,cap,cur,rfl,hlo,hgc,rest⟩
 · exact .inl hn
 · exact .inr ⟨g,cap,cur,rfl,hlo,(hg.block g (Array.getElem?_eq_some_iff.1 hgc).1 (fun e=>hne g rfl e.symm)).trans hgc,rest⟩
theorem Rf.lt {lo:Nat}{w:World}{v:Value}{R:List Nat}(h:Rf lo w v R) (b:Nat) (hb:v.ownBlock=some b):lo≤b∧b<w.heap.size:=by
 rcases h.2 with ⟨rfl,_⟩|⟨g,cap,cur,rfl,hlo,hg,_⟩
 · simp [Value.ownBlock] at hb
 · simp [Value.ownBlock] at hb
   subst hb;exact ⟨hlo,(Array.getElem?_eq_some_iff.1 hg).1⟩
theorem Rf.shape {lo:Nat}{w:World}{v:Value}{R:List Nat}(h:Rf lo w v R) (hR:0<R.length):∃ g cap,v=.slice (some ⟨g,0,none⟩) R.length cap∧lo≤g∧g<w.heap.size∧R.length≤cap∧cap≤maxLen∧∀ i,i<R.length→w.cell? ⟨g,i,none⟩=some (.float .f64 (R.getD i 0)):=by
 have h':=h
 rcases h.2 with ⟨_,h0⟩|⟨g,cap,cur,rfl,hlo,hg,hn,hm,hs,ht⟩
 · omega
 · refine ⟨g,cap,rfl,hlo,(Array.getElem?_eq_some_iff.1 hg).1,hn,hm,fun i hi=>?_⟩
   have:=World.ownsRow.cellAt h' i (by omega)
   rw [this,List.getElem?_map,List.getElem?_eq_getElem hi,List.getD_eq_getElem?_getD,List.getElem?_eq_getElem hi]
   rfl
theorem Rf.shape0 {lo:Nat}{w:World}{v:Value}{R:List Nat}(h:Rf lo w v R):∃ ao cap,v=.slice ao R.length cap∧R.length≤cap:=by
 rcases h.2 with ⟨rfl,h0⟩|⟨g,cap,cur,rfl,_,_,hn,_⟩
 · exact ⟨none,0,by rw [h0],by omega⟩
 · exact ⟨_,cap,rfl,hn⟩
theorem Rf.fs {lo:Nat}{w:World}{ao:Option Addr}{n c:Nat}{R:List Nat}(h:Rf lo w (.slice ao n c) R):Fs w.heap.size w ao R:=by
 intro hne;obtain ⟨g,cap,e,h1,h2,h3,h4,h5⟩:=h.shape (List.length_pos_iff.2 hne)
 cases e
 exact ⟨g,0,h2,rfl,fun i hi=>by rw [Nat.zero_add];exact h5 i hi⟩
theorem append_flts (w:World) (lo:Nat) (v:Value) (xs src:List Nat) (ao:Option Addr) (m c:Nat) (ty:TypeId) (hown:Rf lo w v xs) (hm:m=src.length)
 (hR:src≠[]→∃ b off,ao=some ⟨b,off,none⟩∧∀ i,i<src.length→w.cell? ⟨b,off+i,none⟩=some (.float .f64 (src.getD i 0)))
 (hnn:ao≠none) (hbig:xs.length+m≤100000) (hlo:lo≤w.heap.size) :
 ∃ v' w',(Builtin.append_ #[22,22] ty #[v,.slice ao m c]).run Tryz.prog w=.ok v' w'∧Rf lo w' v' (xs++src)∧w.grownBy w' v.ownBlock∧(v'.ownBlock=v.ownBlock∨v'.ownBlock=some w.heap.size):=by
 obtain ⟨i0,hi,hz0,hz1,hz2⟩:=info_parts Tryz.info_f64;subst hm;obtain ⟨a,rfl⟩:∃ a,ao=some a:=by cases ao;exact absurd rfl hnn;exact ⟨_,rfl⟩
 obtain ⟨v',w',h1,h2,h3,_,h5⟩:=run_append_own_at (P:=Tryz.prog) w lo 22 ty 28 i0 (.float .f64 0) 1 8 Tryz.und_floats hi hz0 hz1 hz2 rfl (by decide) v xs.length (xs.map Fw10) hown a src.length c (src.map Fw10) (by simp) (by
  intro j u hj;have hj2:j<src.length:=by have:=(List.getElem?_eq_some_iff.1 hj).1;simpa using this
  obtain ⟨b,off,e,hc⟩:=hR (by intro e;subst e;simp at hj2)
  cases e
  have hadd:(⟨b,off,none⟩:Addr).add j=⟨b,off+j,none⟩:=by unfold Addr.add;split <;> simp_all
  rw [hadd,hc j hj2];rw [List.getElem?_map,List.getElem?_eq_getElem hj2] at hj
  rw [List.getD_eq_getElem?_getD,List.getElem?_eq_getElem hj2]
  exact hj) (by
  intro u hu;obtain ⟨x,_,rfl⟩:=List.mem_map.1 hu
  rfl) (by unfold maxLen;omega) (by omega) hlo
 exact ⟨v',w',h1,by unfold Rf;rw [List.map_append,List.length_append];exact h2,h3,h5⟩
theorem wpList_append_flt {w:World}{ops:Array Oper}{rest:List Oper}{o:Oper}{a:Act}{Q:Exit→Act→World→Prop}(hgd:o.guard=none) (s x:Operand)
 (ho:o.op=.call { callee:=.builtin .append,args:=#[s,x],argTypes:=#[22,22] }) (v u:Value) (hs:a.eval s=v) (hx:a.eval x=u) (v':Value) (w':World)
 (hrun:(Builtin.append_ #[22,22] o.type #[v,u]).run Tryz.prog w=.ok v' w') (h:wpList Tryz.prog ops Q rest (a.put o.dst v') w'):wpList Tryz.prog ops Q (o::rest) a w:=by
 refine wpList_plain hgd fun K hK=>?_
 unfold Oper.wp;simp [execOp,ho,resolve,invoke,builtin,hs,hx,hrun,Result.andThen];exact hK _ _ h
theorem wp_append_flt {w:World}{o:Oper}{a:Act}{K:Act→World→Prop}{Q:Exit→Act→World→Prop}(s x:Operand)
 (ho:o.op=.call { callee:=.builtin .append,args:=#[s,x],argTypes:=#[22,22] }) (v u:Value) (hs:a.eval s=v) (hx:a.eval x=u) (v':Value) (w':World)
 (hrun:(Builtin.append_ #[22,22] o.type #[v,u]).run Tryz.prog w=.ok v' w') (h:K (a.put o.dst v') w'):Oper.wp Tryz.prog o a w K Q:=by
 unfold Oper.wp;simp [execOp,ho,resolve,invoke,builtin,hs,hx,hrun,Result.andThen];exact h
theorem pick10 (c:Int) (m:Nat) (w:World) (h0:-9223372036854775808≤c) (h1:c≤9223372036854775807) (hm:0<m) (hm2:m≤1000000) :
 Calls Tryz.prog 16 #[.int .i64 c,.int .i64 (m:Nat)] w fun r w'=>∃ p:Nat,r=.returned (.int .i64 (p:Nat))∧p<m∧w'=w:=by
 by_cases h:c<0
 · go_enter Tryz.func16,Tryz.ntmps16
   go_wp2;have e1:(-(c+1)).tmod (m:Int)=-(c+1)%(m:Int):=Int.tmod_eq_emod_of_nonneg (by omega)
   rw [Int.neg_tmod] at e1;have e2:=Int.emod_nonneg (-(c+1)) (b:=(m:Int)) (by omega)
   have e3:=Int.emod_lt_of_pos (-(c+1)) (b:=(m:Int)) (by omega)
   obtain ⟨p,hp⟩:∃ p:Nat,(p:Int)=-(c+1)%(m:Int):=⟨(-(c+1)%(m:Int)).toNat,by omega⟩
   rw [e1,←hp];exact bodyPost_ret (v:=.int .i64 (p:Nat)) (by simp [results,Tryz.results16,go_sem]) rfl ⟨p,rfl,by omega,rfl⟩
 · go_enter Tryz.func16,Tryz.ntmps16
   go_wp2;have e2:=Int.emod_nonneg c (b:=(m:Int)) (by omega)
   have e3:=Int.emod_lt_of_pos c (b:=(m:Int)) (by omega)
   obtain ⟨p,hp⟩:∃ p:Nat,(p:Int)=c%(m:Int):=⟨(c%(m:Int)).toNat,by omega⟩
   rw [←hp];exact bodyPost_ret (v:=.int .i64 (p:Nat)) (by simp [results,Tryz.results16,go_sem]) rfl ⟨p,rfl,by omega,rfl⟩
section
attribute [local go_sem] B.f64bits B.f64frombits
theorem exact10 (x y:Nat) (w:World):Calls Tryz.prog 9 #[.float .f64 x,.float .f64 y] w fun r w'=>r=.returned (.bool (x==y))∧w'=w:=by
 have e2:((x:Int)==(y:Int))=(x==y):=by rw [Bool.eq_iff_iff,beq_iff_eq,beq_iff_eq];omega
 go_enter Tryz.func9,Tryz.ntmps9;go_wp2;exact bodyPost_ret (v:=.bool (x==y)) (by simp [results,Tryz.results9,go_sem,e2]) rfl ⟨rfl,rfl⟩
end
end
section
open Go.RowKit

theorem turn_perm (O R:List Nat) (p:Nat) (hp:p<R.length):((O++[R.getD p 0])++(R.take p++R.drop (p+1))).Perm (O++R):=by
 have e:R=R.take p++R.getD p 0::R.drop (p+1):=by
  have h1:R.drop p=R.getD p 0::R.drop (p+1):=by rw [List.drop_eq_getElem_cons hp,List.getD_eq_getElem?_getD,List.getElem?_eq_getElem hp];rfl
  rw [←h1,List.take_append_drop]
 have h2:(R.getD p 0::(R.take p++R.drop (p+1))).Perm R:=by
  have:=(List.perm_middle (a:=R.getD p 0) (l₁:=R.take p) (l₂:=R.drop (p+1))).symm;rw [←e] at this;exact this
 rw [List.append_assoc,List.singleton_append];exact h2.append_left O
theorem turned10 (xs:List Nat) (os:List Int) (a1 a2:Option Addr) (n1 c1 n2 c2:Nat) (w:World) (hn:n1=xs.length) (hnil:a1=none→c1=0) (hF:Fs w.heap.size w a1 xs) (hl:n1≤300) (ho:n2=os.length) (hI:Is7 w.heap.size w a2 os) (hI6:I64 os) (hm2:n2≤17592186043904) :
 Calls Tryz.prog 6 #[.slice a1 n1 c1,.slice a2 n2 c2] w fun r w'=>(∃ ys ao co,r=.returned (.slice ao ys.length co)∧ys.length≤co∧ys.Perm xs∧Fs w'.heap.size w' ao ys)∧Below w.heap.size w w':=by
 obtain ⟨v1,W1,hrun,hR1,hbl1⟩:∃ v1 W1,(Builtin.append_ #[22,22] 22 #[.slice (some ⟨w.heap.size,0,none⟩) 0 0,.slice a1 n1 c1]).run Tryz.prog (w.alloc (Obj.cells #[] 28))=.ok v1 W1∧Rf w.heap.size W1 v1 xs∧Below w.heap.size w W1:=by
  obtain ⟨i0,hi,hz0,hz1,hz2⟩:=info_parts Tryz.info_f64;have hm0:(w.alloc (Obj.cells #[] 28)).ownsRow w.heap.size 28 1 (.slice (some ⟨w.heap.size,0,none⟩) 0 0) 0 []:=World.ownsRow_made w #[] 0 (Nat.le_refl _) (Nat.zero_le _) (by simp)
  have hal:Below w.heap.size w (w.alloc (Obj.cells #[] 28)):=(Below.refl _ _).alloc (Nat.le_refl _) _
  cases a1 with
  | none =>
    have hx:xs=[]:=by
     by_cases h:xs=[]
     · exact h
     · obtain ⟨_,_,_,e,_⟩:=hF h;cases e
    subst hx;obtain rfl:=hnil rfl;simp only [List.length_nil] at hn;subst hn;exact ⟨_,_,run_append_owned_none (w.alloc (Obj.cells #[] 28)) w.heap.size 22 22 28 i0 1 Tryz.und_floats hi _ 0 [] hm0,hm0,hal⟩
  | some ad =>
    obtain ⟨v1,W1,h1,h2,h3,_⟩:=append_flts (w.alloc (Obj.cells #[] 28)) w.heap.size (.slice (some ⟨w.heap.size,0,none⟩) 0 0) [] xs (some ad) n1 c1 22 hm0 hn
     (fun hne=>by
      obtain ⟨b,off,hb,e,hc⟩:=hF hne;exact ⟨b,off,e,fun i hi=>Lib.cell?_alloc_some _ (hc i hi)⟩) (by simp) (by simp;omega) (by simp)
    exact ⟨v1,W1,h1,h2,hal.grown h3 (by simp) (fun k e=>by simp [Value.ownBlock] at e;omega)⟩
 have HXS:=(qsd (ai hn (ai hF (ai hl (ai ho (ai hI hI6))))));have H1:=(qsd (ai hR1 hbl1));have HR:=qsd hrun;have hn2b:n2<4611686018427387904:=by omega
 clear hn hF hl ho hI hI6 hrun hR1 hbl1 hm2 hnil;go_enter Tryz.func6,Tryz.ntmps6
 go_wp2_with (at_builtin;refine wpList_append_flt rfl _ _ rfl _ _ rfl rfl v1 W1 HR.out ?_)
 go_loopg [5,6,7] xs.length (fun gk vr vo i wr=>∃ (q:Nat) (O R:List Nat),gk=R.length∧q+R.length=xs.length∧i=.int .i64 (q:Nat)∧Aside (Rf w.heap.size wr vo O∧Rf w.heap.size wr vr R∧(O++R).Perm xs∧(∀ b,vr.ownBlock=some b→vo.ownBlock≠some b)∧Below w.heap.size w wr))
 case atStart=>exact ⟨0,[],xs,rfl,by omega,by simp,Rf.nil _ _,H1.out.1,List.Perm.refl _,fun b _=>by simp [Value.ownBlock],H1.out.2⟩
 case round =>
  clear H1;obtain ⟨q,O,R,hgR,hqR,rfl,HL⟩:=hrel;obtain ⟨ao,co,rfl,hco⟩:=HL.out.1.shape0
  by_cases hR:0<R.length
  · obtain ⟨gR,cap,rfl,hgl,hgh,hcap,hmx,hcells⟩:=HL.out.2.1.shape hR
    have hl300:R.length≤300:=by have:=HXS.out.2.2.1;have:=HXS.out.1;omega
    have hcmax:cap≤9223372036854775807:=by unfold maxLen at hmx;omega
    have HCE:=qsd hcells;clear hcells hgl hgh hmx
    by_cases ho:q<n2
    · obtain ⟨b4,off4,rfl,hc4⟩:=HXS.out.2.2.2.2.1.at HL.out.2.2.2.2 q (by rw [←HXS.out.2.2.2.1];exact ho)
      have hob:=HXS.out.2.2.2.2.2 q;obtain ⟨oq,hoq⟩:∃ z,z=os.getD q 0:=⟨_,rfl⟩;rw [←hoq] at hc4 hob;clear hoq;have hd:decide ((q:Int)<n2)=true:=by simp;omega
      go_wp2_with fail
      refine (pick10 oq R.length wr hob.1 hob.2 hR (by omega)).mono ?_
      rintro r u ⟨p,rfl,hp,rfl⟩;clear hc4 hob ho hd;obtain ⟨x,hx⟩:∃ x,x=R.getD p 0:=⟨_,rfl⟩;have hcx:u.cell? ⟨gR,p,none⟩=some (.float .f64 x):=by rw [hx];exact HCE.out p hp
      obtain ⟨v2,W2,hrun0,hO2,hg2,hb2⟩:=append_flts (u.alloc (Obj.cells #[.float .f64 x] 28)) w.heap.size (.slice ao O.length co) O [x] (some ⟨u.heap.size,0,none⟩) 1 1 22 (HL.out.1.alloc _) rfl
       (fun _=>⟨u.heap.size,0,rfl,fun i hi=>by
        obtain rfl:i=0:=by simp at hi;omega
        unfold World.cell?;simp only [heap_alloc_new];rfl⟩) (by simp) (by have:=HL.out.2.2.1.length_eq;have:=HXS.out.2.2.1;have:=HXS.out.1;simp at *;omega) (by have:=HL.out.2.2.2.2.size;simp;omega)
      have hgs:gR<u.heap.size:=(HL.out.2.1.lt gR rfl).2;have hR2:Rf w.heap.size W2 (.slice (some ⟨gR,0,none⟩) R.length cap) R:=(HL.out.2.1.alloc _).grown hg2 (fun b hb e=>HL.out.2.2.2.1 b hb e)
      have hs2:u.heap.size<W2.heap.size:=by have:=hg2.size;simp at this;omega
      have hdj:v2.ownBlock≠some gR:=by
       rcases hb2 with e|e
       · rw [e];exact HL.out.2.2.2.1 gR rfl
       · rw [e];simp;omega
      have hbl2:Below w.heap.size w W2:=(HL.out.2.2.2.2.alloc HL.out.2.2.2.2.size _).grown hg2 (by have:=HL.out.2.2.2.2.size;simp;omega) (fun k e=>(HL.out.1.lt k e).1)
      have hc2:∀ i,i<R.length→W2.cell? ⟨gR,i,none⟩=some (.float .f64 (R.getD i 0)):=fun i hi=>by
       obtain ⟨g',cap',e,_,_,_,_,h⟩:=hR2.shape hR
       cases e
       exact h i hi
      obtain ⟨v3,W3,hrun1,hR3,hgr3,hb3⟩:=append_flts (W2.drew.alloc (Obj.cells #[] 28)) w.heap.size (.slice (some ⟨W2.heap.size,0,none⟩) 0 0) [] (R.take p) (some ⟨gR,0,none⟩) p cap 22 (World.ownsRow_made W2.drew #[] 0 hbl2.size (Nat.zero_le _) (by simp)) (by simp;omega)
       (fun _=>⟨gR,0,rfl,fun i hi=>by
        have hi2:i<p:=by simp at hi;omega
        rw [Nat.zero_add,show (R.take p).getD i 0=R.getD i 0 by rw [List.getD_eq_getElem?_getD,List.getD_eq_getElem?_getD,List.getElem?_take,if_pos hi2]]
        exact Lib.cell?_alloc_some _ (hc2 i (by omega))⟩) (by simp) (by simp;omega) (by have:=hbl2.size;simp;omega)
      have hWc:∀ i,i<R.length→W3.cell? ⟨gR,i,none⟩=some (.float .f64 (R.getD i 0)):=fun i hi=>hgr3.cell (Lib.cell?_alloc_some _ (hc2 i hi)) (by simp [Value.ownBlock];omega)
      obtain ⟨ao2,hao2⟩:∃ a:Option Addr,a=if cap=p+1 then some ⟨gR,0,none⟩ else some ⟨gR,p+1,none⟩:=⟨_,rfl⟩
      have hs3:W2.heap.size<W3.heap.size:=by have:=hgr3.size;simp at this;omega
      obtain ⟨v4,W4,hrun2,hR4,hgr4,hb4⟩:=append_flts W3 w.heap.size v3 ([]++R.take p) (R.drop (p+1)) ao2 (R.length-(p+1)) (cap-(p+1)) 22 hR3 (by simp)
       (fun hne=>⟨gR,p+1,by rw [hao2,if_neg (fun e=>hne (List.drop_eq_nil_of_le (by omega)))],fun i hi=>by
        have hi2:p+1+i<R.length:=by simp at hi;omega
        rw [show (R.drop (p+1)).getD i 0=R.getD (p+1+i) 0 by rw [List.getD_eq_getElem?_getD,List.getD_eq_getElem?_getD,List.getElem?_drop]]
        exact hWc _ hi2⟩) (by rw [hao2];split <;> simp) (by simp;omega) (by have:=hbl2.size;omega)
      have b3:∀ b,v3.ownBlock=some b→W2.heap.size≤b:=fun b e=>by
       rcases hb3 with q|q
       · rw [q] at e;simp [Value.ownBlock] at e;omega
       · rw [q] at e;simp at e;omega
      have b4:∀ b,v4.ownBlock=some b→W2.heap.size≤b:=fun b e=>by
       rcases hb4 with q|q
       · exact b3 b (by rw [←q];exact e)
       · rw [q] at e;simp at e;omega
      have HN:Aside (Rf w.heap.size W4 v2 (O++[x])∧Rf w.heap.size W4 v4 (R.take p++R.drop (p+1))∧((O++[x])++(R.take p++R.drop (p+1))).Perm xs∧(∀ b,v4.ownBlock=some b→v2.ownBlock≠some b)∧Below w.heap.size w W4):=by
       have o3:Rf w.heap.size W3 v2 (O++[x]):=(hO2.drew.alloc _).grown hgr3 (fun b hb e=>by have:=(hO2.lt b hb).2;simp [Value.ownBlock] at e;omega)
       have o4:Rf w.heap.size W4 v2 (O++[x]):=o3.grown hgr4 (fun b hb e=>by have:=(hO2.lt b hb).2;have:=b3 b e;omega)
       refine ⟨o4,?_,?_,fun b hb e=>?_,?_⟩
       · rw [List.nil_append] at hR4;exact hR4
       · refine List.Perm.trans ?_ HL.out.2.2.1
         rw [hx];exact turn_perm O R p hp
       · have h1:=b4 b hb
         have h2:=(hO2.lt b e).2;omega
       · have q1:Below w.heap.size w (W2.drew.alloc (Obj.cells #[] 28)):=hbl2.drew.alloc hbl2.size _
         have q2:=q1.grown hgr3 q1.size (fun k e=>by simp [Value.ownBlock] at e;have:=hbl2.size;omega)
         exact q2.grown hgr4 q2.size (fun k e=>by have:=b3 k e;have:=hbl2.size;omega)
      have HJ:=qsd (ai hrun0 (ai hrun1 hrun2));have hu:IntKind.i64.wrap ((p:Int)+1)=((p+1:Nat):Int):=by rw [IntKind.wrap_i64];omega
      have hif:(if cap=p+1 then (some ⟨gR,0,none⟩:Option Addr) else some ⟨gR,p+1,none⟩)=ao2:=hao2.symm
      have hpc:p≤cap:=by omega
      have hp1:p+1≤R.length:=by omega
      have hb0:(0:Int)≤(p:Int)+1:=by omega
      have hb1:(p:Int)+1≤(R.length:Int):=by omega
      have hqb:q<4611686018427387904:=by have:=HXS.out.2.2.1;have:=HXS.out.1;omega
      have hlt:(R.take p++R.drop (p+1)).length+1=R.length:=by simp;omega
      clear hx hrun0 hrun1 hrun2 hO2 hg2 hb2 hR2 hs2 hdj hbl2 hc2 hR3 hgr3 hb3 hWc hao2 hs3 hR4 hgr4 hb4 b3 b4 hgs HL HCE
      go_wp2_with (at_builtin;refine wpList_append_flt rfl _ _ rfl _ _ rfl rfl v2 W2 HJ.out.1 ?_)
      refine until_region (fun _=>True) 11 (by kernel_rfl) ?_
      refine until_take (i:=1) [] (v:=?_) rfl (by kernel_rfl) (by kernel_rfl) (by kernel_rfl) (by kernel_rfl) (by kernel_rfl) (fun _ _ _ h=>h) (Or.inl ⟨by rfl,?_⟩) trivial ?_
      rotate_left
      · intro u hSu
        first | (go_simp;done) | (go_simp;with_reducible rfl)
      try simp only [Act.put,List.setIfInBounds_toArray,List.set_cons_zero,List.set_cons_succ]
      refine until_take (i:=2) [] (v:=?_) rfl (by kernel_rfl) (by kernel_rfl) (by kernel_rfl) (by kernel_rfl) (by kernel_rfl) (fun _ _ _ h=>h) (Or.inl ⟨by rfl,?_⟩) trivial ?_
      rotate_left
      · intro u hSu
        first | (go_simp;done) | (go_simp;with_reducible rfl)
      try simp only [Act.put,List.setIfInBounds_toArray,List.set_cons_zero,List.set_cons_succ]
      refine until_take (i:=3) [] (v:=?_) rfl (by kernel_rfl) (by kernel_rfl) (by kernel_rfl) (by kernel_rfl) (by kernel_rfl) (fun _ _ _ h=>h) (Or.inl ⟨by rfl,?_⟩) trivial ?_
      rotate_left
      · intro u hSu
        first | (go_simp;done) | (go_simp;with_reducible rfl)
      try simp only [Act.put,List.setIfInBounds_toArray,List.set_cons_zero,List.set_cons_succ]
      refine until_take (i:=5) [] (v:=?_) rfl (by kernel_rfl) (by kernel_rfl) (by kernel_rfl) (by kernel_rfl) (by kernel_rfl) (fun _ _ _ h=>h) (Or.inl ⟨by rfl,?_⟩) trivial ?_
      rotate_left
      · intro u hSu
        first | (go_simp;done) | (go_simp;with_reducible rfl)
      try simp only [Act.put,List.setIfInBounds_toArray,List.set_cons_zero,List.set_cons_succ]
      refine until_take (i:=6) [] (v:=?_) rfl (by kernel_rfl) (by kernel_rfl) (by kernel_rfl) (by kernel_rfl) (by kernel_rfl) (fun _ _ _ h=>h) (Or.inl ⟨by rfl,?_⟩) trivial ?_
      rotate_left
      · intro u hSu
        first | (go_simp;done) | (go_simp;with_reducible rfl)
      try simp only [Act.put,List.setIfInBounds_toArray,List.set_cons_zero,List.set_cons_succ]
      refine until_take (i:=7) [] (v:=?_) rfl (by kernel_rfl) (by kernel_rfl) (by kernel_rfl) (by kernel_rfl) (by kernel_rfl) (fun _ _ _ h=>h) (Or.inl ⟨by rfl,?_⟩) trivial ?_
      rotate_left
      · intro u hSu
        first | (go_simp;done) | (go_simp;with_reducible rfl)
      try simp only [Act.put,List.setIfInBounds_toArray,List.set_cons_zero,List.set_cons_succ]
      refine until_take (i:=8) [] (v:=?_) rfl (by kernel_rfl) (by kernel_rfl) (by kernel_rfl) (by kernel_rfl) (by kernel_rfl) (fun _ _ _ h=>h) (Or.inl ⟨by rfl,?_⟩) trivial ?_
      rotate_left
      · intro u hSu
        first | (go_simp;done) | (go_simp;with_reducible rfl)
      try simp only [Act.put,List.setIfInBounds_toArray,List.set_cons_zero,List.set_cons_succ]
      refine until_one (i:=0) (by kernel_rfl) rfl (fun K' hK=>?_)
      go_simp
      refine hK.out _ _ (fun _=>trivial) ?_
      clear hK K'
      try simp only [Act.put,List.setIfInBounds_toArray,List.set_cons_zero,List.set_cons_succ]
      refine until_one (i:=4) (by kernel_rfl) rfl (fun K' hK=>?_)
      rw [if_pos (by rfl)]
      refine wp_append_flt _ _ rfl _ _ rfl rfl v3 W3 HJ.out.2.1 ?_;refine hK.out _ _ (fun _=>trivial) ?_
      clear hK K'
      try simp only [Act.put,List.setIfInBounds_toArray,List.set_cons_zero,List.set_cons_succ]
      refine until_one (i:=9) (by kernel_rfl) rfl (fun K' hK=>?_)
      rw [if_pos (by rfl)]
      refine wp_append_flt _ _ rfl _ _ rfl rfl v4 W4 HJ.out.2.2 ?_;refine hK.out _ _ (fun _=>trivial) ?_
      clear hK K'
      try simp only [Act.put,List.setIfInBounds_toArray,List.set_cons_zero,List.set_cons_succ]
      refine until_one (i:=10) (by kernel_rfl) rfl (fun K' hK=>?_)
      go_simp
      refine hK.out _ _ (fun _=>trivial) ?_
      clear hK K';refine until_done (by kernel_rfl) ?_ _
      go_wp2
      go_roundg (R.take p++R.drop (p+1)).length
      case measure=>omega
      case rel=>exact ⟨q+1,O++[x],R.take p++R.drop (p+1),rfl,by omega,by first | rfl | simp,HN.out⟩
    · have hd:decide ((q:Int)<n2)=false:=by simp;omega
      obtain ⟨u,hu⟩:∃ u,u=wr:=⟨_,rfl⟩;subst hu;obtain ⟨p,hp0⟩:∃ p:Nat,p=0:=⟨_,rfl⟩;have hp:p<R.length:=by omega
      go_upto_region 9 with fail
      rw [show (0:Int)=((p:Nat):Int) by rw [hp0];rfl]
      clear hp0 ho hd;obtain ⟨x,hx⟩:∃ x,x=R.getD p 0:=⟨_,rfl⟩;have hcx:u.cell? ⟨gR,p,none⟩=some (.float .f64 x):=by rw [hx];exact HCE.out p hp
      obtain ⟨v2,W2,hrun0,hO2,hg2,hb2⟩:=append_flts (u.alloc (Obj.cells #[.float .f64 x] 28)) w.heap.size (.slice ao O.length co) O [x] (some ⟨u.heap.size,0,none⟩) 1 1 22 (HL.out.1.alloc _) rfl
       (fun _=>⟨u.heap.size,0,rfl,fun i hi=>by
        obtain rfl:i=0:=by simp at hi;omega
        unfold World.cell?;simp only [heap_alloc_new];rfl⟩) (by simp) (by have:=HL.out.2.2.1.length_eq;have:=HXS.out.2.2.1;have:=HXS.out.1;simp at *;omega) (by have:=HL.out.2.2.2.2.size;simp;omega)
      have hgs:gR<u.heap.size:=(HL.out.2.1.lt gR rfl).2;have hR2:Rf w.heap.size W2 (.slice (some ⟨gR,0,none⟩) R.length cap) R:=(HL.out.2.1.alloc _).grown hg2 (fun b hb e=>HL.out.2.2.2.1 b hb e)
      have hs2:u.heap.size<W2.heap.size:=by have:=hg2.size;simp at this;omega
      have hdj:v2.ownBlock≠some gR:=by
       rcases hb2 with e|e
       · rw [e];exact HL.out.2.2.2.1 gR rfl
       · rw [e];simp;omega
      have hbl2:Below w.heap.size w W2:=(HL.out.2.2.2.2.alloc HL.out.2.2.2.2.size _).grown hg2 (by have:=HL.out.2.2.2.2.size;simp;omega) (fun k e=>(HL.out.1.lt k e).1)
      have hc2:∀ i,i<R.length→W2.cell? ⟨gR,i,none⟩=some (.float .f64 (R.getD i 0)):=fun i hi=>by
       obtain ⟨g',cap',e,_,_,_,_,h⟩:=hR2.shape hR
       cases e
       exact h i hi
      obtain ⟨v3,W3,hrun1,hR3,hgr3,hb3⟩:=append_flts (W2.drew.alloc (Obj.cells #[] 28)) w.heap.size (.slice (some ⟨W2.heap.size,0,none⟩) 0 0) [] (R.take p) (some ⟨gR,0,none⟩) p cap 22 (World.ownsRow_made W2.drew #[] 0 hbl2.size (Nat.zero_le _) (by simp)) (by simp;omega)
       (fun _=>⟨gR,0,rfl,fun i hi=>by
        have hi2:i<p:=by simp at hi;omega
        rw [Nat.zero_add,show (R.take p).getD i 0=R.getD i 0 by rw [List.getD_eq_getElem?_getD,List.getD_eq_getElem?_getD,List.getElem?_take,if_pos hi2]]
        exact Lib.cell?_alloc_some _ (hc2 i (by omega))⟩) (by simp) (by simp;omega) (by have:=hbl2.size;simp;omega)
      have hWc:∀ i,i<R.length→W3.cell? ⟨gR,i,none⟩=some (.float .f64 (R.getD i 0)):=fun i hi=>hgr3.cell (Lib.cell?_alloc_some _ (hc2 i hi)) (by simp [Value.ownBlock];omega)
      obtain ⟨ao2,hao2⟩:∃ a:Option Addr,a=if cap=p+1 then some ⟨gR,0,none⟩ else some ⟨gR,p+1,none⟩:=⟨_,rfl⟩
      have hs3:W2.heap.size<W3.heap.size:=by have:=hgr3.size;simp at this;omega
      obtain ⟨v4,W4,hrun2,hR4,hgr4,hb4⟩:=append_flts W3 w.heap.size v3 ([]++R.take p) (R.drop (p+1)) ao2 (R.length-(p+1)) (cap-(p+1)) 22 hR3 (by simp)
       (fun hne=>⟨gR,p+1,by rw [hao2,if_neg (fun e=>hne (List.drop_eq_nil_of_le (by omega)))],fun i hi=>by
        have hi2:p+1+i<R.length:=by simp at hi;omega
        rw [show (R.drop (p+1)).getD i 0=R.getD (p+1+i) 0 by rw [List.getD_eq_getElem?_getD,List.getD_eq_getElem?_getD,List.getElem?_drop]]
        exact hWc _ hi2⟩) (by rw [hao2];split <;> simp) (by simp;omega) (by have:=hbl2.size;omega)
      have b3:∀ b,v3.ownBlock=some b→W2.heap.size≤b:=fun b e=>by
       rcases hb3 with q|q
       · rw [q] at e;simp [Value.ownBlock] at e;omega
       · rw [q] at e;simp at e;omega
      have b4:∀ b,v4.ownBlock=some b→W2.heap.size≤b:=fun b e=>by
       rcases hb4 with q|q
       · exact b3 b (by rw [←q];exact e)
       · rw [q] at e;simp at e;omega
      have HN:Aside (Rf w.heap.size W4 v2 (O++[x])∧Rf w.heap.size W4 v4 (R.take p++R.drop (p+1))∧((O++[x])++(R.take p++R.drop (p+1))).Perm xs∧(∀ b,v4.ownBlock=some b→v2.ownBlock≠some b)∧Below w.heap.size w W4):=by
       have o3:Rf w.heap.size W3 v2 (O++[x]):=(hO2.drew.alloc _).grown hgr3 (fun b hb e=>by have:=(hO2.lt b hb).2;simp [Value.ownBlock] at e;omega)
       have o4:Rf w.heap.size W4 v2 (O++[x]):=o3.grown hgr4 (fun b hb e=>by have:=(hO2.lt b hb).2;have:=b3 b e;omega)
       refine ⟨o4,?_,?_,fun b hb e=>?_,?_⟩
       · rw [List.nil_append] at hR4;exact hR4
       · refine List.Perm.trans ?_ HL.out.2.2.1
         rw [hx];exact turn_perm O R p hp
       · have h1:=b4 b hb
         have h2:=(hO2.lt b e).2;omega
       · have q1:Below w.heap.size w (W2.drew.alloc (Obj.cells #[] 28)):=hbl2.drew.alloc hbl2.size _
         have q2:=q1.grown hgr3 q1.size (fun k e=>by simp [Value.ownBlock] at e;have:=hbl2.size;omega)
         exact q2.grown hgr4 q2.size (fun k e=>by have:=b3 k e;have:=hbl2.size;omega)
      have HJ:=qsd (ai hrun0 (ai hrun1 hrun2));have hu:IntKind.i64.wrap ((p:Int)+1)=((p+1:Nat):Int):=by rw [IntKind.wrap_i64];omega
      have hif:(if cap=p+1 then (some ⟨gR,0,none⟩:Option Addr) else some ⟨gR,p+1,none⟩)=ao2:=hao2.symm
      have hpc:p≤cap:=by omega
      have hp1:p+1≤R.length:=by omega
      have hb0:(0:Int)≤(p:Int)+1:=by omega
      have hb1:(p:Int)+1≤(R.length:Int):=by omega
      have hqb:q<4611686018427387904:=by have:=HXS.out.2.2.1;have:=HXS.out.1;omega
      have hlt:(R.take p++R.drop (p+1)).length+1=R.length:=by simp;omega
      clear hx hrun0 hrun1 hrun2 hO2 hg2 hb2 hR2 hs2 hdj hbl2 hc2 hR3 hgr3 hb3 hWc hao2 hs3 hR4 hgr4 hb4 b3 b4 hgs HL HCE
      go_wp2_with (at_builtin;refine wpList_append_flt rfl _ _ rfl _ _ rfl rfl v2 W2 HJ.out.1 ?_)
      refine until_region (fun _=>True) 11 (by kernel_rfl) ?_
      refine until_take (i:=1) [] (v:=?_) rfl (by kernel_rfl) (by kernel_rfl) (by kernel_rfl) (by kernel_rfl) (by kernel_rfl) (fun _ _ _ h=>h) (Or.inl ⟨by rfl,?_⟩) trivial ?_
      rotate_left
      · intro u hSu
        first | (go_simp;done) | (go_simp;with_reducible rfl)
      try simp only [Act.put,List.setIfInBounds_toArray,List.set_cons_zero,List.set_cons_succ]
      refine until_take (i:=2) [] (v:=?_) rfl (by kernel_rfl) (by kernel_rfl) (by kernel_rfl) (by kernel_rfl) (by kernel_rfl) (fun _ _ _ h=>h) (Or.inl ⟨by rfl,?_⟩) trivial ?_
      rotate_left
      · intro u hSu
        first | (go_simp;done) | (go_simp;with_reducible rfl)
      try simp only [Act.put,List.setIfInBounds_toArray,List.set_cons_zero,List.set_cons_succ]
      refine until_take (i:=3) [] (v:=?_) rfl (by kernel_rfl) (by kernel_rfl) (by kernel_rfl) (by kernel_rfl) (by kernel_rfl) (fun _ _ _ h=>h) (Or.inl ⟨by rfl,?_⟩) trivial ?_
      rotate_left
      · intro u hSu
        first | (go_simp;done) | (go_simp;with_reducible rfl)
      try simp only [Act.put,List.setIfInBounds_toArray,List.set_cons_zero,List.set_cons_succ]
      refine until_take (i:=5) [] (v:=?_) rfl (by kernel_rfl) (by kernel_rfl) (by kernel_rfl) (by kernel_rfl) (by kernel_rfl) (fun _ _ _ h=>h) (Or.inl ⟨by rfl,?_⟩) trivial ?_
      rotate_left
      · intro u hSu
        first | (go_simp;done) | (go_simp;with_reducible rfl)
      try simp only [Act.put,List.setIfInBounds_toArray,List.set_cons_zero,List.set_cons_succ]
      refine until_take (i:=6) [] (v:=?_) rfl (by kernel_rfl) (by kernel_rfl) (by kernel_rfl) (by kernel_rfl) (by kernel_rfl) (fun _ _ _ h=>h) (Or.inl ⟨by rfl,?_⟩) trivial ?_
      rotate_left
      · intro u hSu
        first | (go_simp;done) | (go_simp;with_reducible rfl)
      try simp only [Act.put,List.setIfInBounds_toArray,List.set_cons_zero,List.set_cons_succ]
      refine until_take (i:=7) [] (v:=?_) rfl (by kernel_rfl) (by kernel_rfl) (by kernel_rfl) (by kernel_rfl) (by kernel_rfl) (fun _ _ _ h=>h) (Or.inl ⟨by rfl,?_⟩) trivial ?_
      rotate_left
      · intro u hSu
        first | (go_simp;done) | (go_simp;with_reducible rfl)
      try simp only [Act.put,List.setIfInBounds_toArray,List.set_cons_zero,List.set_cons_succ]
      refine until_take (i:=8) [] (v:=?_) rfl (by kernel_rfl) (by kernel_rfl) (by kernel_rfl) (by kernel_rfl) (by kernel_rfl) (fun _ _ _ h=>h) (Or.inl ⟨by rfl,?_⟩) trivial ?_
      rotate_left
      · intro u hSu
        first | (go_simp;done) | (go_simp;with_reducible rfl)
      try simp only [Act.put,List.setIfInBounds_toArray,List.set_cons_zero,List.set_cons_succ]
      refine until_one (i:=0) (by kernel_rfl) rfl (fun K' hK=>?_)
      go_simp
      refine hK.out _ _ (fun _=>trivial) ?_
      clear hK K'
      try simp only [Act.put,List.setIfInBounds_toArray,List.set_cons_zero,List.set_cons_succ]
      refine until_one (i:=4) (by kernel_rfl) rfl (fun K' hK=>?_)
      rw [if_pos (by rfl)]
      refine wp_append_flt _ _ rfl _ _ rfl rfl v3 W3 HJ.out.2.1 ?_;refine hK.out _ _ (fun _=>trivial) ?_
      clear hK K'
      try simp only [Act.put,List.setIfInBounds_toArray,List.set_cons_zero,List.set_cons_succ]
      refine until_one (i:=9) (by kernel_rfl) rfl (fun K' hK=>?_)
      rw [if_pos (by rfl)]
      refine wp_append_flt _ _ rfl _ _ rfl rfl v4 W4 HJ.out.2.2 ?_;refine hK.out _ _ (fun _=>trivial) ?_
      clear hK K'
      try simp only [Act.put,List.setIfInBounds_toArray,List.set_cons_zero,List.set_cons_succ]
      refine until_one (i:=10) (by kernel_rfl) rfl (fun K' hK=>?_)
      go_simp
      refine hK.out _ _ (fun _=>trivial) ?_
      clear hK K';refine until_done (by kernel_rfl) ?_ _
      go_wp2
      go_roundg (R.take p++R.drop (p+1)).length
      case measure=>omega
      case rel=>exact ⟨q+1,O++[x],R.take p++R.drop (p+1),rfl,by omega,by first | rfl | simp,HN.out⟩
  · have hR0:R=[]:=List.eq_nil_of_length_eq_zero (by omega)
    subst hR0;obtain ⟨ar,cr,rfl,_⟩:=HL.out.2.1.shape0;have HF:=(qsd (ai HL.out.1.fs (ai HL.out.2.2.1 (ai HL.out.2.2.2.2 hco))));clear HL hR;go_wp2;go_ret;have hp:=HF.out.2.1;rw [List.append_nil] at hp;exact ⟨⟨O,ao,co,rfl,HF.out.2.2.2,hp,HF.out.1⟩,HF.out.2.2.1⟩
end
section
open Go.RowKit
theorem put_core (g:Nat) (L xs:List Nat) (V T:Int) (s:Sp) (k:Nat) (ng:Bool) (ao:Option Addr) (n cap p:Nat) (w:World) (hs:s.ok) (hk:k≤5) (hA:Ac w g L s) (hl:L.length=133) (hL:Wf L) (hv:(val L:Int)=V%(PB:Int)) (h0:-(HB:Int)<V) (h1:V<(HB:Int))
 (hx:Arg w ao n cap xs) (hp:p+32*n≤4256) (hT:sgn7 ng (val xs*2^p)=T) (hT0:-(HB:Int)<T) (hT1:T<(HB:Int)) :
 Calls Tryz.prog 37 #[.pointer (some ⟨g,0,none⟩),.agg #[.int .i64 (k:Nat),.bool ng,.slice ao n cap,.int .i64 (p:Nat)]] w (Did g w (putS V s k T)):=by
 obtain ⟨t,ht⟩:∃ t,t=s.cnt k 1:=⟨_,rfl⟩;obtain ⟨X,hX⟩:∃ X,X=putS V s k T:=⟨_,rfl⟩;rw [←hX];have HC:=hid (fun u:World=>counted_any s k 1 u hk hs (by decide) (by decide))
 rw [←ht] at HC;obtain ⟨sn,su,sd,sm,sp,sa⟩:=s;obtain ⟨tn,tu,td,tm,tp,ta⟩:=t;have HR:Aside (Ac w g L ⟨sn,su,sd,sm,sp,sa⟩∧L.length=133∧Wf L∧(val L:Int)=V%(PB:Int)∧-(HB:Int)<V∧V<(HB:Int)∧Arg w ao n cap xs∧p+32*n≤4256∧sgn7 ng (val xs*2^p)=T∧-(HB:Int)<T∧T<(HB:Int)):=⟨hA,hl,hL,hv,h0,h1,hx,hp,hT,hT0,hT1⟩;have HX:Aside (X=putS V ⟨sn,su,sd,sm,sp,sa⟩ k T∧⟨tn,tu,td,tm,tp,ta⟩=Sp.cnt ⟨sn,su,sd,sm,sp,sa⟩ k 1):=⟨hX,ht⟩;simp only [Sp.agg] at HC;clear hA hl hL hv h0 h1 hx hp hT hT0 hT1 hX ht hs;go_enter Tryz.func37,Tryz.ntmps37;have a5:=HR.out.1.cell HR.out.2.1 5 _ rfl;have alt:=HR.out.1.lt
 by_cases hmax:sa=1099511627776
 · subst hmax
   go_wp2;go_ret;rw [HX.out.1];unfold putS;rw [if_pos rfl];obtain ⟨hA,hl,hL,hv,h0,h1,_⟩:=HR.out;exact ⟨rfl,⟨L,hl,hL,hv,h0,h1,hA.alloc _⟩,(But.refl g w).of_bel (bel_alloc _ _)⟩
 have hmax':(sa==1099511627776)=false:=by simpa using hmax
 go_wp2
 have HP:Aside (X=step7 V ⟨sn,su,sd,sm,sp,sa⟩ T ⟨tn,tu,td,tm,tp,ta⟩):=by
  refine qsd ?_;rw [HX.out.1,HX.out.2];unfold putS;rw [if_neg hmax]
 obtain ⟨w1,hw1⟩:∃ w1,w1=w.alloc (Obj.cells #[.int .i64 (k:Nat),.bool ng,.slice ao n cap,.int .i64 (p:Nat)] 71):=⟨_,rfl⟩;rw [←hw1]
 have H1:Aside (Bl w1 w.heap.size 71 [.int .i64 (k:Nat),.bool ng,.slice ao n cap,.int .i64 (p:Nat)]∧Below w.heap.size w w1∧w1.heap.size=w.heap.size+1):=by
  subst hw1;exact ⟨Bl.new w 71 [_,_,_,_],bel_alloc _ _,by simp⟩
 clear hw1 hmax hmax' a5 alt;have hu:=Tryz.desc_words;have hsz:(Tryz.prog.info? 62).map (·.size)=some (L.map U).length:=by rw [Tryz.size_words,List.length_map,HR.out.2.1]
 have A0:=qsd (HR.out.1.below H1.out.2.1 HR.out.1.lt);have BB:Aside (Below w1.heap.size w1 w1.drew):=(Below.refl _ _).drew;have kS:=qsd (ai (A0.out.drew.range) (ai (A0.out.drew.cell HR.out.2.1 0 _ rfl) (ai (A0.out.drew.cell HR.out.2.1 1 _ rfl) (ai (A0.out.drew.cell HR.out.2.1 2 _ rfl) (ai (A0.out.drew.cell HR.out.2.1 3 _ rfl) (ai (A0.out.drew.cell HR.out.2.1 4 _ rfl) (ai (A0.out.drew.cell HR.out.2.1 5 _ rfl) (H1.out.1.drew.four))))))));have HW:=hid (fun (u:World) (hb:Below w1.heap.size w1 u)=>with_any L xs ao n cap p (k:Nat) ng u HR.out.2.1 HR.out.2.2.1 ((HR.out.2.2.2.2.2.2.1.below H1.out.2.1).below hb) HR.out.2.2.2.2.2.2.2.1)
 have hTT:Aside (sgn7 ng (val xs*2^p)=T∧-(HB:Int)<T∧T<(HB:Int)):=by
  have h:=HR.out.2.2.2.2.2.2.2.2;refine ⟨?_,by omega,by omega⟩
  first | exact h.1 | (rw [←h.1];cases ng <;> simp [sgn7])
 refine until_region (fun w'=>w'.rangeAt g 0 (L.map U)∧w'.cell? ⟨g,133,none⟩=some (.int .i64 sn)∧w'.cell? ⟨g,134,none⟩=some (.int .i64 su)∧w'.cell? ⟨g,135,none⟩=some (.int .i64 sd)∧w'.cell? ⟨g,136,none⟩=some (.int .i64 sm)∧w'.cell? ⟨g,137,none⟩=some (.int .i64 sp)∧w'.cell? ⟨g,138,none⟩=some (.int .i64 sa)∧w'.cell? ⟨w.heap.size,0,none⟩=some (.int .i64 (k:Nat))∧w'.cell? ⟨w.heap.size,1,none⟩=some (.bool ng)∧w'.cell? ⟨w.heap.size,2,none⟩=some (.slice ao n cap)∧w'.cell? ⟨w.heap.size,3,none⟩=some (.int .i64 (p:Nat))) 14 (by kernel_rfl) ?_
 refine until_take (i:=0) [] (v:=?_) rfl (by kernel_rfl) (by kernel_rfl) (by kernel_rfl) (by kernel_rfl) (by kernel_rfl) (fun _ _ _ h=>h) (Or.inl ⟨by rfl,?_⟩) kS.out ?_
 rotate_left
 · intro u hSu
   try dsimp only at hSu
   first | (go_simp;done) | (go_simp;with_reducible rfl)
 try simp only [Act.put,List.setIfInBounds_toArray,List.set_cons_zero,List.set_cons_succ]
 refine until_take (i:=1) [2,3,4,6] (v:=?_) rfl (by kernel_rfl) (by kernel_rfl) (by kernel_rfl) (by kernel_rfl) (by kernel_rfl) (fun _ _ _ h=>h) (Or.inl ⟨by rfl,?_⟩) kS.out ?_
 rotate_left
 · intro u hSu
   try dsimp only at hSu
   first | (go_simp;done) | (go_simp;with_reducible rfl)
 try simp only [Act.put,List.setIfInBounds_toArray,List.set_cons_zero,List.set_cons_succ]
 refine until_take (i:=2) [3,4,6] (v:=?_) rfl (by kernel_rfl) (by kernel_rfl) (by kernel_rfl) (by kernel_rfl) (by kernel_rfl) (fun _ _ _ h=>h) (Or.inl ⟨by rfl,?_⟩) kS.out ?_
 rotate_left
 · intro u hSu
   try dsimp only at hSu
   first | (go_simp;done) | (go_simp;with_reducible rfl)
 try simp only [Act.put,List.setIfInBounds_toArray,List.set_cons_zero,List.set_cons_succ]
 refine until_take (i:=3) [4,6] (v:=?_) rfl (by kernel_rfl) (by kernel_rfl) (by kernel_rfl) (by kernel_rfl) (by kernel_rfl) (fun _ _ _ h=>h) (Or.inl ⟨by rfl,?_⟩) kS.out ?_
 rotate_left
 · intro u hSu
   try dsimp only at hSu
   first | (go_simp;done) | (go_simp;with_reducible rfl)
 try simp only [Act.put,List.setIfInBounds_toArray,List.set_cons_zero,List.set_cons_succ]
 refine until_take (i:=4) [6] rfl (by kernel_rfl) (by kernel_rfl) (by kernel_rfl) (by kernel_rfl) (by kernel_rfl) (fun _ _ _ h=>h) (yieldsIf_load_mid (by rfl) _ _ rfl g 0 rfl (L.map U) _ (fun u h=>h.1) hu rfl hsz) kS.out ?_
 try simp only [Act.put,List.setIfInBounds_toArray,List.set_cons_zero,List.set_cons_succ]
 refine until_take (i:=5) [6] (v:=?_) rfl (by kernel_rfl) (by kernel_rfl) (by kernel_rfl) (by kernel_rfl) (by kernel_rfl) (fun _ _ _ h=>h) (Or.inl ⟨by rfl,?_⟩) kS.out ?_
 rotate_left
 · intro u hSu
   try dsimp only at hSu
   first | (go_simp;done) | (go_simp;with_reducible rfl)
 try simp only [Act.put,List.setIfInBounds_toArray,List.set_cons_zero,List.set_cons_succ]
 refine until_take (i:=7) [8,9,10,13] (v:=?_) rfl (by kernel_rfl) (by kernel_rfl) (by kernel_rfl) (by kernel_rfl) (by kernel_rfl) (fun _ _ _ h=>h) (Or.inl ⟨by rfl,?_⟩) kS.out ?_
 rotate_left
 · intro u hSu
   try dsimp only at hSu
   first | (go_simp;done) | (go_simp;with_reducible rfl)
 try simp only [Act.put,List.setIfInBounds_toArray,List.set_cons_zero,List.set_cons_succ]
 refine until_take (i:=8) [9,10,13] (v:=?_) rfl (by kernel_rfl) (by kernel_rfl) (by kernel_rfl) (by kernel_rfl) (by kernel_rfl) (fun _ _ _ h=>h) (Or.inl ⟨by rfl,?_⟩) kS.out ?_
 rotate_left
 · intro u hSu
   try dsimp only at hSu
   first | (go_simp;done) | (go_simp;with_reducible rfl)
 try simp only [Act.put,List.setIfInBounds_toArray,List.set_cons_zero,List.set_cons_succ]
 refine until_take (i:=9) [10,13] (v:=?_) rfl (by kernel_rfl) (by kernel_rfl) (by kernel_rfl) (by kernel_rfl) (by kernel_rfl) (fun _ _ _ h=>h) (Or.inl ⟨by rfl,?_⟩) kS.out ?_
 rotate_left
 · intro u hSu
   try dsimp only at hSu
   first | (go_simp;done) | (go_simp;with_reducible rfl)
 try simp only [Act.put,List.setIfInBounds_toArray,List.set_cons_zero,List.set_cons_succ]
 refine until_take (i:=10) [13] (v:=?_) rfl (by kernel_rfl) (by kernel_rfl) (by kernel_rfl) (by kernel_rfl) (by kernel_rfl) (fun _ _ _ h=>h) (Or.inl ⟨by rfl,?_⟩) kS.out ?_
 rotate_left
 · intro u hSu
   try dsimp only at hSu
   first | (go_simp;done) | (go_simp;with_reducible rfl)
 try simp only [Act.put,List.setIfInBounds_toArray,List.set_cons_zero,List.set_cons_succ]
 refine until_take (i:=11) [12,13] (v:=?_) rfl (by kernel_rfl) (by kernel_rfl) (by kernel_rfl) (by kernel_rfl) (by kernel_rfl) (fun _ _ _ h=>h) (Or.inl ⟨by rfl,?_⟩) kS.out ?_
 rotate_left
 · intro u hSu
   try dsimp only at hSu
   first | (go_simp;done) | (go_simp;with_reducible rfl)
 try simp only [Act.put,List.setIfInBounds_toArray,List.set_cons_zero,List.set_cons_succ]
 refine until_take (i:=12) [13] (v:=?_) rfl (by kernel_rfl) (by kernel_rfl) (by kernel_rfl) (by kernel_rfl) (by kernel_rfl) (fun _ _ _ h=>h) (Or.inl ⟨by rfl,?_⟩) kS.out ?_
 rotate_left
 · intro u hSu
   try dsimp only at hSu
   first | (go_simp;done) | (go_simp;with_reducible rfl)
 try simp only [Act.put,List.setIfInBounds_toArray,List.set_cons_zero,List.set_cons_succ]
 refine until_one (i:=6) (by kernel_rfl) rfl (fun K' hK=>?_)
 go_simp
 refine (HW.out _ BB.out).mono ?_;rintro r u1 ⟨M,rfl,hMl,hMw,hMv,hb⟩;have HM:=qsd (ai hMl (ai hMw hMv));have BB:=qsd (BB.out.trans (hb.mono BB.out.size));have A1:=A0.out.below BB.out A0.out.lt;have Z1:=H1.out.1.below BB.out H1.out.1.lt;have kS:=qsd (ai (A1.range) (ai (A1.cell HR.out.2.1 0 _ rfl) (ai (A1.cell HR.out.2.1 1 _ rfl) (ai (A1.cell HR.out.2.1 2 _ rfl) (ai (A1.cell HR.out.2.1 3 _ rfl) (ai (A1.cell HR.out.2.1 4 _ rfl) (ai (A1.cell HR.out.2.1 5 _ rfl) (Z1.four))))))));clear hb A1 Z1 hMl hMw hMv
 dsimp only
 refine hK.out _ _ (fun _=>kS.out) ?_
 clear hK K'
 try simp only [Act.put,List.setIfInBounds_toArray,List.set_cons_zero,List.set_cons_succ]
 refine until_one (i:=13) (by kernel_rfl) rfl (fun K' hK=>?_)
 go_simp
 refine (HC.out _).mono ?_;rintro r u2 ⟨rfl,hb⟩;have BB:=qsd (BB.out.trans (hb.mono BB.out.size));have A1:=A0.out.below BB.out A0.out.lt;have Z1:=H1.out.1.below BB.out H1.out.1.lt;have kS:=qsd (ai (A1.range) (ai (A1.cell HR.out.2.1 0 _ rfl) (ai (A1.cell HR.out.2.1 1 _ rfl) (ai (A1.cell HR.out.2.1 2 _ rfl) (ai (A1.cell HR.out.2.1 3 _ rfl) (ai (A1.cell HR.out.2.1 4 _ rfl) (ai (A1.cell HR.out.2.1 5 _ rfl) (Z1.four))))))));clear hb A1 Z1
 dsimp only
 refine hK.out _ _ (fun _=>kS.out) ?_
 clear hK K'
 try simp only [Act.put,List.setIfInBounds_toArray,List.set_cons_zero,List.set_cons_succ]
 refine until_one (i:=14) (by kernel_rfl) rfl (fun K' hK=>?_)
 go_simp
 have CB:=become_any g L M V T ⟨sn,su,sd,sm,sp,sa⟩ ⟨tn,tu,td,tm,tp,ta⟩ u2 (A0.out.below BB.out A0.out.lt) HR.out.2.1 HR.out.2.2.1 HR.out.2.2.2.1 HR.out.2.2.2.2.1 HR.out.2.2.2.2.2.1 HM.out.2.1 HM.out.1 (by rw [HM.out.2.2,hTT.out.1,HR.out.2.2.2.1,emod_add']) hTT.out.2.1 hTT.out.2.2
 rw [←HP.out] at CB;simp only [Sp.agg] at CB;refine CB.mono ?_;rintro r u3 hD;have HD3:=qsd hD;obtain ⟨rfl,_,_⟩:=hD;clear CB
 dsimp only
 refine hK.out _ _ (fun h=>absurd h (by decide)) ?_
 clear hK K'
 try simp only [Act.put,List.setIfInBounds_toArray,List.set_cons_zero,List.set_cons_succ]
 refine until_one (i:=15) (by kernel_rfl) rfl (fun K' hK=>?_)
 go_simp
 refine hK.out _ _ (fun h=>absurd h (by decide)) ?_
 clear hK K';refine until_done (by kernel_rfl) ?_ _
 clear kS;go_wp2;go_ret;obtain ⟨h1,h2,h3⟩:=HD3.out;exact ⟨rfl,h2,((But.refl g w).of_bel H1.out.2.1).trans (((But.refl g w1).of_bel BB.out).trans h3)⟩
end
section
open Go.RowKit
def sW (x:Nat):Bool:=decide (9223372036854775808≤x)
def eW (x:Nat):Nat:=x%9223372036854775808/4503599627370496
def fW (x:Nat):Nat:=x%4503599627370496
theorem bw_parts (x:Nat) (hx:x<18446744073709551616):x=B.bw (sW x) (eW x) (fW x)∧eW x<2048∧fW x<4503599627370496:=by
 unfold B.bw sW eW fW;refine ⟨?_,by omega,by omega⟩
 by_cases h:9223372036854775808≤x
 · simp only [h,decide_true,Bool.toNat_true];omega
 · simp only [h,decide_false,Bool.toNat_false];omega
def clW (x:Nat):Int:=B.cls (eW x) (fW x)
def xpW (x:Nat):Int:=B.xp (eW x)
def frW (x:Nat):Nat:=(B.fr (eW x) (fW x)).toNat
def ngW (x:Nat):Bool:=B.ng (sW x) (eW x) (fW x)
def pK (x y:Nat):Nat:=pk (max (clW x) (clW y)) (min (clW x) (clW y)) (!ngW x==ngW y)
def pT (x y:Nat):Int:=pv7 (max (clW x) (clW y)) (min (clW x) (clW y)) (!ngW x==ngW y) (frW x) (frW y) (xpW x+xpW y)
theorem pk_le (hi lo:Int) (ng:Bool):pk hi lo ng≤5:=by
 unfold pk
 split
 · omega
 · split
   · split <;> omega
   · split
     · split <;> omega
     · omega
theorem HB_two (k:Nat) (hk:k=4238):HB=2^k:=by
 obtain ⟨j,hj⟩:∃ j,j=32*132:=⟨_,rfl⟩;rw [HB_eq,pw_pow,←hj,show k=14+j by omega,Nat.pow_add]
theorem sgn_bound (ng:Bool) (X B:Nat) (h:X<B):-(B:Int)<sgn7 ng X∧sgn7 ng X<(B:Int):=by cases ng <;> simp only [sgn7,if_true,if_false] <;> constructor <;> (try simp) <;> omega
theorem pT_bound (x y:Nat) (hx:x<18446744073709551616) (hy:y<18446744073709551616):-(HB:Int)<pT x y∧pT x y<(HB:Int):=by
 unfold pT pv7;have hp:=HB_pos
 split
 · refine sgn_bound _ _ _ ?_
   have f1:=fr_bound (eW x) (fW x) (bw_parts x hx).2.2;have f2:=fr_bound (eW y) (fW y) (bw_parts y hy).2.2;have x1:=xp_bound (eW x) (bw_parts x hx).2.1;have x2:=xp_bound (eW y) (bw_parts y hy).2.1
   have h1:frW x*frW y<2^106:=by
    have:frW x*frW y≤9007199254740991*9007199254740991:=Nat.mul_le_mul (by unfold frW;omega) (by unfold frW;omega)
    exact Nat.lt_of_le_of_lt this (by decide)
   obtain ⟨k,hk⟩:∃ k,k=4238:=⟨_,rfl⟩;rw [HB_two k hk];refine Nat.lt_of_lt_of_le (Nat.mul_lt_mul_of_pos_right h1 (Nat.two_pow_pos _)) ?_;rw [←Nat.pow_add];exact Nat.pow_le_pow_right (by decide) (by unfold xpW;omega)
 · constructor <;> omega
theorem product7 (x y:Nat) (hx:x<18446744073709551616) (hy:y<18446744073709551616) (w:World) :
 Calls Tryz.prog 65 #[.float .f64 x,.float .f64 y] w fun r w'=>∃ v,r=.returned v∧Th w.heap.size w' v (pK x y) (pT x y)∧Below w.heap.size w w':=by
 obtain ⟨a1,a2,a3⟩:=bw_parts x hx;obtain ⟨b1,b2,b3⟩:=bw_parts y hy;have h1:=splitIs (sW x) (eW x) (fW x) a2 a3;have h2:=splitIs (sW y) (eW y) (fW y) b2 b3;rw [←a1] at h1;rw [←b1] at h2;exact product_any x y _ _ _ _ _ _ _ _ w h1 h2 (xp_bound _ a2) (xp_bound _ b2) (fr_bound _ _ a3) (fr_bound _ _ b3)
theorem number7 (x:Nat) (hx:x<18446744073709551616) (w:World) :
 Calls Tryz.prog 38 #[.float .f64 x] w fun r w'=>∃ v,r=.returned v∧Th w.heap.size w' v (pK x 4607182418800017408) (pT x 4607182418800017408)∧Below w.heap.size w w':=by
 have HP:=hid (fun u:World=>product7 x 4607182418800017408 hx (by decide) u)
 clear hx;go_enter Tryz.func38,Tryz.ntmps38
 go_wp2_with fail
 refine (HP.out _).mono ?_;rintro r w1 ⟨v,rfl,hT,hb⟩;obtain ⟨ng,a,n,c,p,xs,hlo,rfl,hA,hp,hv⟩:=hT;have HL:=qsd hlo;have Z:=qsd ((Bl.new w 71 [Value.int .i64 0,Value.bool false,Value.slice none 0 0,Value.int .i64 0]).below hb (by simp))
 have HA:=qsd (ai hA (ai hp (ai hv hb)));obtain ⟨z0,z1,z2,z3⟩:=Z.out.four;have g0:=Z.out.frozen 0;have g1:=Z.out.frozen 1;have g2:=Z.out.frozen 2;have g3:=Z.out.frozen 3;clear hA hp hv hb hlo;go_wp2;obtain ⟨w5,hw5⟩:∃ w5,w5=((((w1.setCell ⟨w.heap.size,0,none⟩ (.int .i64 (pK x 4607182418800017408:Nat))).setCell ⟨w.heap.size,1,none⟩ (.bool ng)).setCell ⟨w.heap.size,2,none⟩ (.slice a n c)).setCell ⟨w.heap.size,3,none⟩ (.int .i64 (p:Nat))):=⟨_,rfl⟩;rw [←hw5];have q:Bl w5 w.heap.size 71 [.int .i64 (pK x 4607182418800017408:Nat),.bool ng,.slice a n c,.int .i64 (p:Nat)]:=by rw [hw5];exact put4 Z.out
 have hbut:But w.heap.size w1 w5:=by rw [hw5];exact ((((But.refl _ w1).set 0 _).set 1 _).set 2 _).set 3 _
 have hBw:Below w.heap.size w w1:=(bel_alloc w _).trans (HA.out.2.2.2.mono (by simp))
 have qb:Below w.heap.size w w5:=But.below hBw hbut hBw.size (Nat.le_refl _);clear hw5;obtain ⟨q0,q1,q2,q3⟩:=q.four;refine bodyPost_ret (v:=.agg #[.int .i64 (pK x 4607182418800017408:Nat),.bool ng,.slice a n c,.int .i64 (p:Nat)]) (by simp [results,Tryz.results38,go_sem,q0,q1,q2,q3]) rfl ?_
 refine ⟨_,rfl,⟨ng,a,n,c,p,xs,fun ad e=>?_,rfl,?_,HA.out.2.1,HA.out.2.2.1⟩,qb⟩
 · have:=HL.out ad e;simp at this;omega
 · obtain ⟨r1,r2,r3,r4,r5,r6⟩:=HA.out.1
   refine ⟨r1,r2,r3,r4,fun hne=>?_,r6⟩
   obtain ⟨b,off,hlt,rfl,hc⟩:=r5 hne;have hbb:=HL.out _ rfl;simp at hbb;refine ⟨b,off,Nat.lt_of_lt_of_le hlt hbut.size,rfl,fun i hi=>?_⟩
   rw [←hc i hi];exact World.cell?_of_block (a:=⟨b,off+i,none⟩) (hbut.block b hlt (by omega))
theorem put7 (g:Nat) (V T:Int) (s:Sp) (k lo:Nat) (v:Value) (w:World) (hA:Acc7 w g V s) (hs:s.ok) (hk:k≤5) (ht:Th lo w v k T) (h0:-(HB:Int)<T) (h1:T<(HB:Int)) :
 Calls Tryz.prog 37 #[.pointer (some ⟨g,0,none⟩),v] w (Did g w (putS V s k T)):=by
 obtain ⟨L,a1,a2,a3,a4,a5,a6⟩:=hA;obtain ⟨ng,a,n,c,p,xs,_,rfl,hx,hp,hv⟩:=ht;exact put_core g L xs V T s k ng a n c p w hs hk a6 a1 a2 a3 a4 a5 hx hp hv h0 h1
theorem Add7 (g:Nat) (V:Int) (s:Sp) (x:Nat) (w:World) (hA:Acc7 w g V s) (hs:s.ok) (hx:x<18446744073709551616) :
 Calls Tryz.prog 19 #[.pointer (some ⟨g,0,none⟩),.float .f64 x] w (Did g w (putS V s (pK x 4607182418800017408) (pT x 4607182418800017408))):=by
 obtain ⟨X,hX⟩:∃ X,X=putS V s (pK x 4607182418800017408) (pT x 4607182418800017408):=⟨_,rfl⟩;rw [←hX];have HP:=hid (fun u:World=>number7 x hx u)
 have HB:=qsd (pT_bound x 4607182418800017408 hx (by decide))
 have HA:=qsd (ai hA (ai hs hX));clear hA hs hX hx;go_enter Tryz.func19,Tryz.ntmps19
 go_wp2_with fail
 refine (HP.out _).mono ?_;rintro r w1 ⟨v,rfl,hT,hb⟩;have HT:=qsd (ai hT hb);clear hT hb
 go_wp2_with fail
 have CP:=put7 g V (pT x 4607182418800017408) s (pK x 4607182418800017408) w.heap.size v w1 (HA.out.1.bel HT.out.2) HA.out.2.1 (pk_le _ _ _) HT.out.1 HB.out.1 HB.out.2;rw [←HA.out.2.2] at CP;refine CP.mono ?_;rintro r w2 hD;have HD:=qsd hD;obtain ⟨rfl,_,_⟩:=hD;clear CP;go_wp2;go_ret;exact ⟨rfl,HD.out.2.1,((But.refl g w).of_bel HT.out.2).trans HD.out.2.2⟩
end
end Go.Proofs.YtnpchhjhoadehaaGreatDoor
