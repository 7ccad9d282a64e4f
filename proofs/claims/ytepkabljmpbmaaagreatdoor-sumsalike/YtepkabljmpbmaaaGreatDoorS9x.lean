import Derived.Test.YtepkabljmpbmaaaGreatDoorJ13x
import Derived.Test.YtepkabljmpbmaaaGreatDoorW13x
import Derived.Test.YtepkabljmpbmaaaGreatDoorW33x
import Derived.Test.YtepkabljmpbmaaaGreatDoorBIeeex
import Derived.Test.YtepkabljmpbmaaaGreatDoorW53x
import Derived.Deep.RegionHeld
import Derived.Laws.BitsLemmas
import Derived.Deep.RegionHeld3
import Derived.LoopN
set_option linter.unusedVariables false
set_option linter.unusedSimpArgs false
set_option maxHeartbeats 16000000
set_option maxRecDepth 20000
namespace Go.Proofs.YtepkabljmpbmaaaGreatDoor
section
open Go.RowKit
def SplitIs (x:Nat) (n:Bool) (c e:Int) (f:Nat):Prop:=∀ w:World,Calls Tryz.prog 34 #[.float .f64 x] w fun r w'=>r=.returned (.agg #[.bool n,.int .i64 c,.int .i64 e,.int .u64 (f:Nat)])∧Below w.heap.size w w'
def Th (lo:Nat) (w:World) (v:Value) (k:Nat) (T:Int):Prop :=
 ∃ ng a n c p xs,(∀ ad:Addr,a=some ad→lo≤ad.block)∧v=.agg #[.int .i64 (k:Nat),.bool ng,.slice a n c,.int .i64 ((p:Nat):Int)]∧Arg w a n c xs∧p+32*n≤4256∧sgn7 ng (val xs*2^p)=T
theorem Th.plain (lo:Nat) (w:World) (k:Nat):Th lo w (.agg #[.int .i64 (k:Nat),.bool false,.slice none 0 0,.int .i64 0]) k 0 :=
 ⟨false,none,0,0,0,[],fun _ e=>(by cases e),rfl,⟨rfl,Nat.le_refl _,by decide,Wf.nil,Rd.nil _ _ _,fun _=>rfl⟩,by decide,by simp [sgn7,val]⟩
theorem put4 {w:World}{g T:Nat}{a b c d v0 v1 v2 v3:Value}(h:Bl w g T [a,b,c,d]):Bl ((((w.setCell ⟨g,0,none⟩ v0).setCell ⟨g,1,none⟩ v1).setCell ⟨g,2,none⟩ v2).setCell ⟨g,3,none⟩ v3) g T [v0,v1,v2,v3] :=
 (((h.set 0 v0).set 1 v1).set 2 v2).set 3 v3
theorem Nt.but7 {lo g:Nat}{w w':World}{v:Value}{X:Nat}(h:Nt lo w v X) (hb:But g w w') (hg:g<lo):Nt lo w' v X:=by
 refine ⟨h.1,?_⟩;rcases h.2 with hn|⟨g',cap,cur,rfl,hlo,hgc,rest⟩
 · exact .inl hn
 · exact .inr ⟨g',cap,cur,rfl,hlo,(hb.block g' (Array.getElem?_eq_some_iff.1 hgc).1 (by omega)).trans hgc,rest⟩
theorem mul_nt {w:World}{v1 v2:Value}{X Y V lo1 lo2:Nat}(N1:Nt lo1 w v1 X) (N2:Nt lo2 w v2 Y) (s1:(ws X).length≤1000) (s2:(ws Y).length≤1000) (e:mulS X Y=(V,0)) :
 Calls Tryz.prog 101 #[v1,v2] w fun r w'=>∃ v,r=.returned (.tuple #[v,.int .i64 0])∧Nt w.heap.size w' v V∧Below w.heap.size w w':=by
 obtain ⟨a,c,rfl,A1⟩:=N1.arg (by omega);obtain ⟨b,d,rfl,A2⟩:=N2.arg (by omega);exact Mul_arg A1 A2 (by rw [val_ws,val_ws];exact e)
theorem Bl.four {w:World}{g T:Nat}{a b c d:Value}(h:Bl w g T [a,b,c,d]):w.cell? ⟨g,0,none⟩=some a∧w.cell? ⟨g,1,none⟩=some b∧w.cell? ⟨g,2,none⟩=some c∧w.cell? ⟨g,3,none⟩=some d :=
 ⟨h.cell 0 _ rfl,h.cell 1 _ rfl,h.cell 2 _ rfl,h.cell 3 _ rfl⟩
theorem put4_below {B:Nat}{a w:World}{g:Nat}{v0 v1 v2 v3:Value}(h:Below B a w) (hB:B≤w.heap.size) (hg:B≤g):Below B a ((((w.setCell ⟨g,0,none⟩ v0).setCell ⟨g,1,none⟩ v1).setCell ⟨g,2,none⟩ v2).setCell ⟨g,3,none⟩ v3) :=
 But.below h (((((But.refl g w).set 0 v0).set 1 v1).set 2 v2).set 3 v3) hB hg
theorem mulS_small (f1 f2:Nat) (hf1:f1<9007199254740992) (hf2:f2<9007199254740992):mulS f1 f2=(f1*f2,0)∧(ws (f1*f2)).length≤4:=by
 have h1:f1*f2<pw 4:=by
  have:f1*f2≤9007199254740992*9007199254740992:=Nat.mul_le_mul (by omega) (by omega);have e:pw 4=340282366920938463463374607431768211456:=by decide
  omega
 have e4:pw 2=18446744073709551616:=by decide
 have g1:=bl_le_words f1 2 (by omega);have g2:=bl_le_words f2 2 (by omega);have g3:=bl_le_words (f1*f2) 4 h1;refine ⟨?_,(ws_len_le _ _).2 h1⟩;unfold mulS;rw [if_neg (by rw [LG_bl,LG_bl];omega),if_neg (by rw [LG_bl];omega)]
def pk (hi lo:Int) (ng:Bool):Nat:=if hi=4∨hi=3∧lo=0 then 1 else if hi=3 then (if ng then 3 else 2) else if lo=0 then (if ng then 4 else 5) else 0
def pv7 (hi lo:Int) (ng:Bool) (f1 f2:Nat) (e:Int):Int:=if pk hi lo ng=0 then sgn7 ng (f1*f2*2^(e+2148).toNat) else 0
theorem pv7_no {hi lo:Int}{ng:Bool}{f1 f2:Nat}{e:Int}(h:pk hi lo ng≠0):pv7 hi lo ng f1 f2 e=0:=by unfold pv7;rw [if_neg h]
theorem pv7_yes {hi lo:Int}{ng:Bool}{f1 f2:Nat}{e:Int}(h:pk hi lo ng=0):pv7 hi lo ng f1 f2 e=sgn7 ng (f1*f2*2^(e+2148).toNat):=by unfold pv7;rw [if_pos h]
theorem product_any (x y:Nat) (n1 n2:Bool) (c1 c2 x1 x2:Int) (f1 f2:Nat) (w:World) (H1:SplitIs x n1 c1 x1 f1) (H2:SplitIs y n2 c2 x2 f2)
 (hx1:-1074≤x1∧x1≤971) (hx2:-1074≤x2∧x2≤971) (hf1:f1<9007199254740992) (hf2:f2<9007199254740992) :
 Calls Tryz.prog 73 #[.float .f64 x,.float .f64 y] w fun r w'=>∃ v,r=.returned v ∧
  Th w.heap.size w' v (pk (max c1 c2) (min c1 c2) (!n1==n2)) (pv7 (max c1 c2) (min c1 c2) (!n1==n2) f1 f2 (x1+x2))∧Below w.heap.size w w':=by
 have H1:=hid H1;have H2:=hid H2;go_enter Tryz.func73,Tryz.ntmps73;go_wp2_with fail;refine Calls.mono (H1.out _) ?_;rintro r w1 ⟨rfl,hb1⟩;have B1:=qsd hb1;clear hb1;go_wp2_with fail;refine Calls.mono (H2.out _) ?_;rintro r w2 ⟨rfl,hb2⟩;have B2:=qsd hb2;clear hb2;go_wp2
 go_region
 obtain ⟨w4,hw4⟩:∃ w4,w4=((w2.alloc (Obj.cells #[Value.bool n1,Value.int IntKind.i64 c1,Value.int IntKind.i64 x1,Value.int IntKind.u64 (f1:Nat)] 61)).alloc (Obj.cells #[Value.bool n2,Value.int IntKind.i64 c2,Value.int IntKind.i64 x2,Value.int IntKind.u64 (f2:Nat)] 61)).drew:=⟨_,rfl⟩;rw [←hw4]
 have H4:Aside (Bl w4 w.heap.size 90 [Value.int .i64 0,Value.bool false,Value.slice none 0 0,Value.int .i64 0]∧Bl w4 w2.heap.size 61 [Value.bool n1,Value.int IntKind.i64 c1,Value.int IntKind.i64 x1,Value.int IntKind.u64 (f1:Nat)]∧Bl w4 (w2.heap.size+1) 61 [Value.bool n2,Value.int IntKind.i64 c2,Value.int IntKind.i64 x2,Value.int IntKind.u64 (f2:Nat)]∧Below w.heap.size w w4∧w.heap.size<w2.heap.size∧w4.heap.size=w2.heap.size+2):=by
  subst hw4;have z0:=Bl.new w 90 [Value.int .i64 0,Value.bool false,Value.slice none 0 0,Value.int .i64 0];have s0:w.heap.size<w1.heap.size:=by have:=B1.out.size;simp at this;omega
  have z1:=z0.below B1.out (by simp);have z2:=z1.below B2.out s0;have s2:=B2.out.size;refine ⟨((z2.alloc _).alloc _).drew,((Bl.new w2 61 [_,_,_,_]).alloc _).drew,(Bl.new' _ 61 _ [_,_,_,_] (by simp)).drew,?_,by omega,by simp⟩;refine Below.drew ?_;refine ((((bel_alloc w _).trans (B1.out.mono (by simp))).trans (B2.out.mono (by omega))).trans ((bel_alloc _ _).mono (by omega))).trans ((bel_alloc _ _).mono (by simp;omega))
 clear hw4;obtain ⟨ng,hng⟩:∃ ng,ng=(!n1==n2):=⟨_,rfl⟩;obtain ⟨hi,hhi⟩:∃ hi,hi=max c1 c2:=⟨_,rfl⟩;obtain ⟨lo,hlo⟩:∃ lo,lo=min c1 c2:=⟨_,rfl⟩;rw [←hng,←hhi,←hlo];have HG:Aside (ng=(!n1==n2)∧hi=max c1 c2∧lo=min c1 c2):=⟨hng,hhi,hlo⟩;clear hng hhi hlo;have hne:w.heap.size≠w2.heap.size:=Nat.ne_of_lt H4.out.2.2.2.2.1;have hne2:w.heap.size≠w2.heap.size+1:=by have:=H4.out.2.2.2.2.1;omega
 have z0:=H4.out.1.cell 0 _ rfl;have z1:=H4.out.1.cell 1 _ rfl;have z2:=H4.out.1.cell 2 _ rfl;have z3:=H4.out.1.cell 3 _ rfl;have g0:=H4.out.1.frozen 0;have g1:=H4.out.1.frozen 1;have g2:=H4.out.1.frozen 2;have g3:=H4.out.1.frozen 3
 by_cases hodd:hi=4
 · subst hodd;go_wp2;obtain ⟨w5,hw5⟩:∃ w5,w5=((((w4.setCell ⟨w.heap.size,0,none⟩ (.int .i64 1)).setCell ⟨w.heap.size,1,none⟩ (.bool false)).setCell ⟨w.heap.size,2,none⟩ (.slice none 0 0)).setCell ⟨w.heap.size,3,none⟩ (.int .i64 0)):=⟨_,rfl⟩;rw [←hw5];have q:Bl w5 w.heap.size 90 [.int .i64 1,.bool false,.slice none 0 0,.int .i64 0]:=by rw [hw5];exact put4 H4.out.1
   have qb:Below w.heap.size w w5:=by rw [hw5];exact put4_below H4.out.2.2.2.1 H4.out.2.2.2.1.size (Nat.le_refl _)
   skip;clear hw5;obtain ⟨q0,q1,q2,q3⟩:=q.four;refine bodyPost_ret (v:=.agg #[.int .i64 1,.bool false,.slice none 0 0,.int .i64 0]) (by simp [results,Tryz.results73,go_sem,q0,q1,q2,q3]) rfl ?_;rw [←HG.out.1,←HG.out.2.1,←HG.out.2.2];have hk:pk 4 lo ng=1:=by unfold pk;rw [if_pos (Or.inl rfl)]
   rw [pv7_no (by rw [hk];decide),hk];exact ⟨_,rfl,Th.plain _ _ _,qb⟩
 by_cases hinf:hi=3
 · subst hinf
   by_cases hz:lo=0
   · subst hz;go_wp2;obtain ⟨w5,hw5⟩:∃ w5,w5=((((w4.setCell ⟨w.heap.size,0,none⟩ (.int .i64 1)).setCell ⟨w.heap.size,1,none⟩ (.bool false)).setCell ⟨w.heap.size,2,none⟩ (.slice none 0 0)).setCell ⟨w.heap.size,3,none⟩ (.int .i64 0)):=⟨_,rfl⟩;rw [←hw5];have q:Bl w5 w.heap.size 90 [.int .i64 1,.bool false,.slice none 0 0,.int .i64 0]:=by rw [hw5];exact put4 H4.out.1
     have qb:Below w.heap.size w w5:=by rw [hw5];exact put4_below H4.out.2.2.2.1 H4.out.2.2.2.1.size (Nat.le_refl _)
     skip;clear hw5;obtain ⟨q0,q1,q2,q3⟩:=q.four;refine bodyPost_ret (v:=.agg #[.int .i64 1,.bool false,.slice none 0 0,.int .i64 0]) (by simp [results,Tryz.results73,go_sem,q0,q1,q2,q3]) rfl ?_;rw [←HG.out.1,←HG.out.2.1,←HG.out.2.2];have hk:pk 3 0 ng=1:=by unfold pk;rw [if_pos (Or.inr ⟨rfl,rfl⟩)]
     rw [pv7_no (by rw [hk];decide),hk];exact ⟨_,rfl,Th.plain _ _ _,qb⟩
   · have hz':(lo==0)=false:=by simpa using hz
     cases ng
     · go_wp2_with (go_at_call 100;refine (signed_any _ _ _ _).mono ?_;rintro r u ⟨rfl,rfl⟩)
       obtain ⟨w5,hw5⟩:∃ w5,w5=((((u.setCell ⟨w.heap.size,0,none⟩ (.int .i64 2)).setCell ⟨w.heap.size,1,none⟩ (.bool false)).setCell ⟨w.heap.size,2,none⟩ (.slice none 0 0)).setCell ⟨w.heap.size,3,none⟩ (.int .i64 0)):=⟨_,rfl⟩;rw [←hw5];have q:Bl w5 w.heap.size 90 [.int .i64 2,.bool false,.slice none 0 0,.int .i64 0]:=by rw [hw5];exact put4 H4.out.1
       have qb:Below w.heap.size w w5:=by rw [hw5];exact put4_below H4.out.2.2.2.1 H4.out.2.2.2.1.size (Nat.le_refl _)
       skip;clear hw5;obtain ⟨q0,q1,q2,q3⟩:=q.four;refine bodyPost_ret (v:=.agg #[.int .i64 2,.bool false,.slice none 0 0,.int .i64 0]) (by simp [results,Tryz.results73,go_sem,q0,q1,q2,q3]) rfl ?_;rw [←HG.out.1,←HG.out.2.1,←HG.out.2.2];have hk:pk 3 lo false=2:=by unfold pk;rw [if_neg (by omega),if_pos rfl];rfl
       rw [pv7_no (by rw [hk];decide),hk];exact ⟨_,rfl,Th.plain _ _ _,qb⟩
     · go_wp2_with (go_at_call 100;refine (signed_any _ _ _ _).mono ?_;rintro r u ⟨rfl,rfl⟩)
       obtain ⟨w5,hw5⟩:∃ w5,w5=((((u.setCell ⟨w.heap.size,0,none⟩ (.int .i64 3)).setCell ⟨w.heap.size,1,none⟩ (.bool false)).setCell ⟨w.heap.size,2,none⟩ (.slice none 0 0)).setCell ⟨w.heap.size,3,none⟩ (.int .i64 0)):=⟨_,rfl⟩;rw [←hw5];have q:Bl w5 w.heap.size 90 [.int .i64 3,.bool false,.slice none 0 0,.int .i64 0]:=by rw [hw5];exact put4 H4.out.1
       have qb:Below w.heap.size w w5:=by rw [hw5];exact put4_below H4.out.2.2.2.1 H4.out.2.2.2.1.size (Nat.le_refl _)
       skip;clear hw5;obtain ⟨q0,q1,q2,q3⟩:=q.four;refine bodyPost_ret (v:=.agg #[.int .i64 3,.bool false,.slice none 0 0,.int .i64 0]) (by simp [results,Tryz.results73,go_sem,q0,q1,q2,q3]) rfl ?_;rw [←HG.out.1,←HG.out.2.1,←HG.out.2.2];have hk:pk 3 lo true=3:=by unfold pk;rw [if_neg (by omega),if_pos rfl];rfl
       rw [pv7_no (by rw [hk];decide),hk];exact ⟨_,rfl,Th.plain _ _ _,qb⟩
 have ho':(hi==4)=false:=by simpa using hodd
 have hi':(hi==3)=false:=by simpa using hinf
 by_cases hz:lo=0
 · subst hz
   cases ng
   · go_wp2_with (go_at_call 100;refine (signed_any _ _ _ _).mono ?_;rintro r u ⟨rfl,rfl⟩)
     obtain ⟨w5,hw5⟩:∃ w5,w5=((((u.setCell ⟨w.heap.size,0,none⟩ (.int .i64 5)).setCell ⟨w.heap.size,1,none⟩ (.bool false)).setCell ⟨w.heap.size,2,none⟩ (.slice none 0 0)).setCell ⟨w.heap.size,3,none⟩ (.int .i64 0)):=⟨_,rfl⟩;rw [←hw5];have q:Bl w5 w.heap.size 90 [.int .i64 5,.bool false,.slice none 0 0,.int .i64 0]:=by rw [hw5];exact put4 H4.out.1
     have qb:Below w.heap.size w w5:=by rw [hw5];exact put4_below H4.out.2.2.2.1 H4.out.2.2.2.1.size (Nat.le_refl _)
     skip;clear hw5;obtain ⟨q0,q1,q2,q3⟩:=q.four;refine bodyPost_ret (v:=.agg #[.int .i64 5,.bool false,.slice none 0 0,.int .i64 0]) (by simp [results,Tryz.results73,go_sem,q0,q1,q2,q3]) rfl ?_;rw [←HG.out.1,←HG.out.2.1,←HG.out.2.2];have hk:pk hi 0 false=5:=by unfold pk;rw [if_neg (by omega),if_neg (by omega),if_pos rfl];rfl
     rw [pv7_no (by rw [hk];decide),hk];exact ⟨_,rfl,Th.plain _ _ _,qb⟩
   · go_wp2_with (go_at_call 100;refine (signed_any _ _ _ _).mono ?_;rintro r u ⟨rfl,rfl⟩)
     obtain ⟨w5,hw5⟩:∃ w5,w5=((((u.setCell ⟨w.heap.size,0,none⟩ (.int .i64 4)).setCell ⟨w.heap.size,1,none⟩ (.bool false)).setCell ⟨w.heap.size,2,none⟩ (.slice none 0 0)).setCell ⟨w.heap.size,3,none⟩ (.int .i64 0)):=⟨_,rfl⟩;rw [←hw5];have q:Bl w5 w.heap.size 90 [.int .i64 4,.bool false,.slice none 0 0,.int .i64 0]:=by rw [hw5];exact put4 H4.out.1
     have qb:Below w.heap.size w w5:=by rw [hw5];exact put4_below H4.out.2.2.2.1 H4.out.2.2.2.1.size (Nat.le_refl _)
     skip;clear hw5;obtain ⟨q0,q1,q2,q3⟩:=q.four;refine bodyPost_ret (v:=.agg #[.int .i64 4,.bool false,.slice none 0 0,.int .i64 0]) (by simp [results,Tryz.results73,go_sem,q0,q1,q2,q3]) rfl ?_;rw [←HG.out.1,←HG.out.2.1,←HG.out.2.2];have hk:pk hi 0 true=4:=by unfold pk;rw [if_neg (by omega),if_neg (by omega),if_pos rfl];rfl
     rw [pv7_no (by rw [hk];decide),hk];exact ⟨_,rfl,Th.plain _ _ _,qb⟩
 have hz':(lo==0)=false:=by simpa using hz
 have hk0:pk hi lo ng=0:=by unfold pk;rw [if_neg (by omega),if_neg (by omega),if_neg (by omega)]
 have HK:=qsd hk0;clear hk0;have kS:Aside (w4.drew.cell? ⟨w2.heap.size,3,none⟩=some (.int .u64 (f1:Nat))∧w4.drew.cell? ⟨w2.heap.size+1,3,none⟩=some (.int .u64 (f2:Nat))):=⟨H4.out.2.1.drew.four.2.2.2,H4.out.2.2.1.drew.four.2.2.2⟩;have BB:Aside (Below w4.heap.size w4 w4.drew):=(Below.refl _ _).drew;have O1:=hid (fun u:World=>of_any f1 u (by omega));have O2:=hid (fun u:World=>of_any f2 u (by omega));have MS:=qsd (mulS_small f1 f2 hf1 hf2)
 have hpw2:Aside ((ws f1).length≤1000∧(ws f2).length≤1000):=by
  have e:pw 2=18446744073709551616:=by decide
  exact ⟨Nat.le_trans ((ws_len_le f1 2).2 (by omega)) (by decide),Nat.le_trans ((ws_len_le f2 2).2 (by omega)) (by decide)⟩
 clear hodd hinf hz z0 z1 z2 z3 g0 g1 g2 g3;go_wp2
 go_region_held (fun w'=>w'.cell? ⟨w2.heap.size,3,none⟩=some (.int .u64 (f1:Nat))∧w'.cell? ⟨w2.heap.size+1,3,none⟩=some (.int .u64 (f2:Nat))) (with_reducible exact kS.out) (first
  | (go_at_call 102
     with_reducible refine (O1.out _).mono ?_
     rintro r u ⟨v1,rfl,N1,hb⟩
     try have N2:=qsd (N2.out.below hb)
     have BB:=qsd (BB.out.trans (hb.mono BB.out.size));have kS:=qsd (ai (H4.out.2.1.below BB.out (by have:=H4.out.2.2.2.2.2;omega)).four.2.2.2 (H4.out.2.2.1.below BB.out (by have:=H4.out.2.2.2.2.2;omega)).four.2.2.2);have N1:=qsd N1
     clear hb)
  | (go_at_call 102
     with_reducible refine (O2.out _).mono ?_
     rintro r u ⟨v2,rfl,N2,hb⟩
     try have N1:=qsd (N1.out.below hb)
     have BB:=qsd (BB.out.trans (hb.mono BB.out.size));have kS:=qsd (ai (H4.out.2.1.below BB.out (by have:=H4.out.2.2.2.2.2;omega)).four.2.2.2 (H4.out.2.2.1.below BB.out (by have:=H4.out.2.2.2.2.2;omega)).four.2.2.2);have N2:=qsd N2
     clear hb)
  | (go_at_call 101
     with_reducible refine (mul_nt N1.out N2.out hpw2.out.1 hpw2.out.2 MS.out.1).mono ?_
     rintro r u ⟨v,rfl,NV,hb⟩;have NV:=qsd (ai NV BB.out.size);have BB:=qsd (BB.out.trans (hb.mono BB.out.size));have kS:=qsd (ai (H4.out.2.1.below BB.out (by have:=H4.out.2.2.2.2.2;omega)).four.2.2.2 (H4.out.2.2.1.below BB.out (by have:=H4.out.2.2.2.2.2;omega)).four.2.2.2)
     clear hb))
 all_goals (
  obtain ⟨a,c,rfl,_⟩:=NV.out.1.arg (Nat.le_trans MS.out.2 (by decide));have Z:=qsd (H4.out.1.below BB.out (by have:=H4.out.2.2.2.2.1;have:=H4.out.2.2.2.2.2;omega));obtain ⟨z0,z1,z2,z3⟩:=Z.out.four;have g0:=Z.out.frozen 0;have g1:=Z.out.frozen 1;have g2:=Z.out.frozen 2;have g3:=Z.out.frozen 3;have p2:=(H4.out.2.1.below BB.out (by have:=H4.out.2.2.2.2.2;omega)).four.2.2.1;have r2:=(H4.out.2.2.1.below BB.out (by have:=H4.out.2.2.2.2.2;omega)).four.2.2.1;have BW:=qsd (H4.out.2.2.2.1.trans (BB.out.mono H4.out.2.2.2.1.size));clear kS BB N1 N2;go_wp2;obtain ⟨w5,hw5⟩:∃ w5,w5=((((u.setCell ⟨w.heap.size,0,none⟩ (.int .i64 0)).setCell ⟨w.heap.size,1,none⟩ (.bool ng)).setCell ⟨w.heap.size,2,none⟩ (.slice a (ws (f1*f2)).length c)).setCell ⟨w.heap.size,3,none⟩ (.int .i64 (x1+x2+2148))):=⟨_,rfl⟩;rw [←hw5];have q:Bl w5 w.heap.size 90 [.int .i64 0,.bool ng,.slice a (ws (f1*f2)).length c,.int .i64 (x1+x2+2148)]:=by rw [hw5];exact put4 Z.out
  have qb:Below w.heap.size w w5:=by rw [hw5];exact put4_below BW.out BW.out.size (Nat.le_refl _)
  have qn:=NV.out.1.but7 (w':=w5) (g:=w.heap.size) (by rw [hw5];exact ((((But.refl _ u).set 0 _).set 1 _).set 2 _).set 3 _) (by have:=NV.out.2;have:=H4.out.2.2.2.2.1;have:=H4.out.2.2.2.2.2;omega);clear hw5;obtain ⟨q0,q1,q2,q3⟩:=q.four;refine bodyPost_ret (v:=.agg #[.int .i64 0,.bool ng,.slice a (ws (f1*f2)).length c,.int .i64 (x1+x2+2148)]) (by simp [results,Tryz.results73,go_sem,q0,q1,q2,q3]) rfl ?_;rw [←HG.out.1,←HG.out.2.1,←HG.out.2.2,pv7_yes HK.out,HK.out];obtain ⟨a',c',e,AV⟩:=qn.arg (Nat.le_trans MS.out.2 (by decide))
  cases e
  refine ⟨_,rfl,⟨ng,a,_,c,(x1+x2+2148).toNat,ws (f1*f2),fun ad e=>?_,?_,AV,?_,?_⟩,qb⟩
  · subst e;have h1:=(qn.lt ad.block rfl).1;have:=NV.out.2;have:=H4.out.2.2.2.2.1;have:=H4.out.2.2.2.2.2;omega
  · rw [Int.toNat_of_nonneg (by omega)];rfl
  · have:=MS.out.2;omega
  · rw [val_ws])
theorem splitIs (s:Bool) (e f:Nat) (he:e<2048) (hf:f<4503599627370496):SplitIs (B.bw s e f) (B.ng s e f) (B.cls e f) (B.xp e) (B.fr e f).toNat:=fun w =>
 (B.Split_any s e f he hf w).mono fun r w' ⟨h1,h2⟩=>⟨by rw [h1,Int.toNat_of_nonneg];unfold B.fr;split <;> (try split) <;> omega,h2⟩
theorem xp_bound (e:Nat) (he:e<2048):-1074≤B.xp e∧B.xp e≤971:=by unfold B.xp;split <;> (try split) <;> omega
theorem fr_bound (e f:Nat) (hf:f<4503599627370496):(B.fr e f).toNat<9007199254740992:=by unfold B.fr;split <;> (try split) <;> omega
end
section
open Go.RowKit
def Acc7 (w:World) (g:Nat) (V:Int) (s:Sp):Prop:=∃ L:List Nat,L.length=133∧Wf L∧(val L:Int)=V%(PB:Int)∧-(HB:Int)<V∧V<(HB:Int)∧Ac w g L s
theorem Acc7.lt {w:World}{g:Nat}{V:Int}{s:Sp}(h:Acc7 w g V s):g<w.heap.size:=by obtain ⟨L,_,_,_,_,_,h⟩:=h;exact h.lt
theorem Acc7.below {w w':World}{g B:Nat}{V:Int}{s:Sp}(h:Acc7 w g V s) (hb:Below B w w') (hg:g<B):Acc7 w' g V s:=by
 obtain ⟨L,h1,h2,h3,h4,h5,h6⟩:=h;exact ⟨L,h1,h2,h3,h4,h5,h6.below hb hg⟩
theorem Acc7.bel {w w':World}{g:Nat}{V:Int}{s:Sp}(h:Acc7 w g V s) (hb:Below w.heap.size w w'):Acc7 w' g V s:=h.below hb h.lt
theorem PB_HB:PB=262144*HB:=by rw [PB_top,HB_eq];omega
theorem bey_val (N:Nat) (V:Int) (h:(N:Int)=V%(PB:Int)) (h0:-(2*HB:Int)<V) (h1:V<2*(HB:Int)):bey N=!(decide (-(HB:Int)<V∧V<(HB:Int))):=by
 have e:=PB_HB;have hp:=HB_pos;unfold bey
 by_cases hv:0≤V
 · rw [Int.emod_eq_of_lt hv (by omega)] at h
   by_cases hc:V<(HB:Int)
   · rw [decide_eq_false (by omega),decide_eq_true (by omega)];rfl
   · rw [decide_eq_true (by omega),decide_eq_false (by omega)];rfl
 · have h2:V%(PB:Int)=V+PB:=by
    rw [←Int.add_emod_right,Int.emod_eq_of_lt (by omega) (by omega)]
   rw [h2] at h
   by_cases hc:-(HB:Int)<V
   · rw [decide_eq_false (by omega),decide_eq_true (by omega)];rfl
   · rw [decide_eq_true (by omega),decide_eq_false (by omega)];rfl
def Did (g:Nat) (w:World) (X:Int×Int×Sp) (r:Ending) (w':World):Prop:=r=.returned (.int .i64 X.1)∧Acc7 w' g X.2.1 X.2.2∧But g w w'
def step7 (V:Int) (s:Sp) (T:Int) (t:Sp):Int×Int×Sp:=if -(HB:Int)<V+T∧V+T<(HB:Int) then (0,V+T,t) else (2,V,s)
def putS (V:Int) (s:Sp) (k:Nat) (T:Int):Int×Int×Sp:=if s.a=1099511627776 then (2,V,s) else step7 V s T (s.cnt k 1)
theorem become_any (g:Nat) (L M:List Nat) (V T:Int) (s t:Sp) (w:World) (hA:Ac w g L s) (hl:L.length=133) (hL:Wf L) (hv:(val L:Int)=V%(PB:Int)) (h0:-(HB:Int)<V) (h1:V<(HB:Int)) (hM:Wf M) (hm:M.length=133)
 (hvM:(val M:Int)=(V+T)%(PB:Int)) (hT0:-(HB:Int)<T) (hT1:T<(HB:Int)) :
 Calls Tryz.prog 70 #[.pointer (some ⟨g,0,none⟩),.agg (M.map U).toArray,t.agg] w (Did g w (step7 V s T t)):=by
 have hb:=bey_val (val M) (V+T) hvM (by omega) (by omega)
 by_cases hc:-(HB:Int)<V+T∧V+T<(HB:Int)
 · rw [decide_eq_true hc] at hb;refine (become_yes g L M s t w hA hl hM hm hb).mono fun r w' ⟨a,b,c⟩=>?_;unfold step7;rw [if_pos hc];exact ⟨a,⟨M,hm,hM,hvM,hc.1,hc.2,b⟩,c⟩
 · rw [decide_eq_false hc] at hb;refine (become_no g L M s t w hA hM hm hb).mono fun r w' ⟨a,b⟩=>?_;unfold step7;rw [if_neg hc];exact ⟨a,⟨L,hl,hL,hv,h0,h1,hA.below b hA.lt⟩,(But.refl g w).of_bel b⟩
end
section
open Go Go.RowKit
section
variable {P : Program} {ops : Array Oper} {Q : Exit → Act → World → Prop} {md : Region.Mode} {S : World → Prop} {stop : Nat}
def wpUntil (P:Program) (md:Region.Mode) (ops:Array Oper) (Q:Exit→Act→World→Prop) (S:World→Prop) (stop:Nat):Nat→Array Bool→Act→World→Prop
 | 0,listed,a,w=>Region.ready md ops listed=[]∧Q .normal a w
 | fuel+1,listed,a,w=>(Region.ready md ops listed=[]→Q .normal a w) ∧
  ∀ i ∈ Region.ready md ops listed,wpOp P ops Q i (fun b u=>(i<stop→S u)∧wpUntil P md ops Q S stop fuel (listed.setIfInBounds i true) b u) a w
theorem wpAny_until:∀ (fuel:Nat) (listed:Array Bool) (a:Act) (w:World),wpUntil P md ops Q S stop fuel listed a w→wpAny P md ops Q fuel listed a w
 | 0,_,_,_,h=>h
 | fuel+1,_,_,_,h=>⟨h.1,fun i hi=>wpOp_mono (fun b u k=>wpAny_until fuel _ b u k.2) (h.2 i hi)⟩
theorem until_region {id:Nat}{a:Act}{w:World}(S:World→Prop) (stop:Nat) (hm:P.follows .mixedOrders=true) (h:wpUntil P .any ops Q S stop ops.size (Array.replicate ops.size false) a w.drew):(Code.region id ops true).wp P Q a w :=
 wp_region_any hm (wpAny_until _ _ _ _ h)
def waits (md:Region.Mode) (ops:Array Oper) (i stop:Nat) (C:List Nat):Bool :=
 (List.range ops.size).all fun j=>!(C.contains j || decide (stop≤j)) || (match ops[j]? with | some o=>o.after.any (fun e=>Region.binds md e&&(e.on==i || C.contains e.on)) | none=>true)
def unlisted (listed:Array Bool) (C:List Nat):Bool:=C.all fun k=>listed.getD k true==false
theorem waits_spec {i:Nat}{C:List Nat}(h:waits md ops i stop C=true) {j:Nat}{oj:Oper}(hj:ops[j]?=some oj) (hc:j ∈ C∨stop≤j):∃ e ∈ oj.after,Region.binds md e=true∧(e.on=i∨e.on ∈ C):=by
 have h1:=(List.all_eq_true.1 h) j (by simp;exact (Array.getElem?_eq_some_iff.1 hj).1);rw [hj] at h1
 have h2:(C.contains j || decide (stop≤j))=true:=by
  rcases hc with hc|hc
  · simp [hc]
  · simp [hc]
 rw [h2] at h1;simp only [Bool.not_true,Bool.false_or] at h1;rw [←Array.any_toList] at h1;obtain ⟨e,he,hb⟩:=List.any_eq_true.1 h1;have he:=Array.mem_toList_iff.1 he;simp only [Bool.and_eq_true,Bool.or_eq_true,beq_iff_eq,List.contains_iff_mem] at hb;exact ⟨e,he,hb.1,hb.2⟩
theorem until_first {i:Nat}{C:List Nat}{oi:Oper}{v:Value}(hi:ops[i]?=some oi) (hsel:∀ (j:Nat) (o:Oper) cs b,ops[j]?=some o→o.op≠.select cs b)
 (hQ:∀ x a w,Q (.panic x) (a.put oi.dst v) w→Q (.panic x) a w) (hlate:waits md ops i stop C=true) :
 ∀ (fuel:Nat) (listed:Array Bool) (a:Act) (w:World),
   (∀ j oj,ops[j]?=some oj→j≠i→listed.getD j true=false→(∀ e ∈ oj.after,Region.binds md e=true→e.on≠i)→oi.apart ops oj=true) →
   i ∈ Region.ready md ops listed→(∀ k ∈ C,listed.getD k true=false)→YieldsIf P ops S oi v a→S w →
   wpUntil P md ops Q S stop fuel (listed.setIfInBounds i true) (a.put oi.dst v) w→wpUntil P md ops Q S stop (fuel+1) listed a w:=by
 intro fuel
 induction fuel with
 | zero =>
   intro listed a w _ hr _ hy hS H;refine ⟨fun h=>(by rw [h] at hr;cases hr),fun j hj=>?_⟩
   by_cases hji:j=i
   · subst hji;exact hy.wpOp hi hS ⟨fun _=>hS,H⟩
   · have:=ready_mono hj hji;rw [H.1] at this
     cases this
 | succ fuel ih =>
   intro listed a w hfree hr hcl hy hS H;refine ⟨fun h=>(by rw [h] at hr;cases hr),fun j hj=>?_⟩
   by_cases hji:j=i
   · subst hji;exact hy.wpOp hi hS ⟨fun _=>hS,H⟩
   · have h1:=H.2 j (ready_mono hj hji);obtain ⟨hjun,oj,hoj,hall⟩:=mem_ready.1 hj;have h0:=(mem_ready.1 hr).1
     have un:∀ k,listed.getD k true=false→listed.getD k false=true→False:=fun k a1 a2=>by
      rcases Nat.lt_or_ge k listed.size with h'|h'
      · simp [h'] at a1 a2;rw [a1] at a2;cases a2
      · simp [Array.getElem?_eq_none h'] at a2
     have hnot:∀ e ∈ oj.after,Region.binds md e=true→e.on≠i:=fun e he hb heq=>un i h0 (heq ▸ hall e he hb)
     have hnw:¬(j ∈ C∨stop≤j):=fun hc=>by
      obtain ⟨e,he,hb,heq⟩:=waits_spec hlate hoj hc;rcases heq with heq|heq
      · exact hnot e he hb heq
      · exact un _ (hcl _ heq) (hall e he hb)
     have hjs:j<stop:=by
      rcases Nat.lt_or_ge j stop with h|h
      · exact h
      · exact (hnw (Or.inr h)).elim
     have h2:=wpOp_putIf hoj (hfree j oj hoj hji hjun hnot) (fun cs b=>hsel i oi cs b hi) (fun cs b=>hsel j oj cs b hoj) hQ hy h1
     have hfree':∀ k ok,ops[k]?=some ok→k≠i→(listed.setIfInBounds j true).getD k true=false →
      (∀ e ∈ ok.after,Region.binds md e=true→e.on≠i)→oi.apart ops ok=true:=fun k ok hk hki hun hno=>by
      refine hfree k ok hk hki ?_ hno
      by_cases hjk:j=k
      · subst hjk;exact hjun
      · rw [Go.getD_set_ne true hjk] at hun;exact hun
     refine wpOp_mono (fun b u h3=>⟨h3.2.1,ih (listed.setIfInBounds j true) b u hfree' (ready_mono hr (Ne.symm hji)) (fun k hk=>by rw [Go.getD_set_ne true (show j≠k from fun e=>hnw (Or.inl (by rw [e];exact hk)))];exact hcl k hk) h3.1 (h3.2.1 hjs) ?_⟩) h2;rw [Array.setIfInBounds_comm _ _ hji];exact h3.2.2
theorem until_take {i:Nat}(C:List Nat) {oi:Oper}{v:Value}{fuel:Nat}{listed:Array Bool}{a:Act}{w:World}(hi:ops[i]?=some oi)
 (hs:Region.noSelect ops=true) (hf:Region.free md ops listed i=true) (hr:(Region.ready md ops listed).contains i=true) (hw:waits md ops i stop C=true) (hun:unlisted listed C=true)
 (hQ:∀ c a w,Q (.panic c) (a.put oi.dst v) w→Q (.panic c) a w) (hy:YieldsIf P ops S oi v a) (hS:S w)
 (h:wpUntil P md ops Q S stop fuel (listed.setIfInBounds i true) (a.put oi.dst v) w):wpUntil P md ops Q S stop (fuel+1) listed a w :=
 until_first hi (Region.noSelect_spec hs) hQ hw fuel listed a w (Region.free_spec hi hf) (by simpa using hr) (fun k hk=>by have:=(List.all_eq_true.1 hun) k hk;simpa using this) hy hS h
theorem until_one {i:Nat}{o:Oper}{fuel:Nat}{listed:Array Bool}{a:Act}{w:World}(hr:Region.ready md ops listed=[i]) (ho:ops[i]?=some o)
 (h:∀ K':Act→World→Prop,Shut (∀ b u,(i<stop→S u)→wpUntil P md ops Q S stop fuel (listed.setIfInBounds i true) b u→K' b u)→if Region.wanted o (yielded ops a.tmps)=true then Oper.wp P o a w K' Q else K' (a.put o.dst undef) w):wpUntil P md ops Q S stop (fuel+1) listed a w :=
 ⟨fun h0=>(by rw [hr] at h0;cases h0),fun j hj=>by
  rw [hr] at hj;obtain rfl:=List.mem_singleton.1 hj
  exact wpOp_step ho (fun K' hK=>h K' (fun b u h1 h2=>hK b u ⟨h1,h2⟩))⟩
theorem until_done {listed:Array Bool}{a:Act}{w:World}(hr:Region.ready md ops listed=[]) (h:Q .normal a w):∀ fuel,wpUntil P md ops Q S stop fuel listed a w
 | 0=>⟨hr,h⟩
 | _+1=>⟨fun _=>h,by rw [hr];simp⟩
end
end
section
open Go Go.RowKit
theorem and_mask9 (n:Int):bits .and .i64 n 4294967295=n%4294967296:=by
 simp only [bits];have e:(BitVec.ofInt IntKind.i64.bits (4294967295:Int)).toNat=2^32-1:=by decide
 rw [BitVec.toNat_and,e,Nat.and_two_pow_sub_one_eq_mod,BitVec.toNat_ofInt];rw [IntKind.wrap_i64];show (((n%((2^64:Nat):Int)).toNat%2^32:Nat)+9223372036854775808:Int)%18446744073709551616-9223372036854775808=_;have:(2:Nat)^64=18446744073709551616:=rfl;omega
def Bv (v:Int):Value:=.agg #[.int .i64 (v/4294967296),.int .i64 (v%4294967296)]
def Bc (f c T:Int) (K:Nat→Int):List Value:=[.int .i64 f,.int .i64 c,.int .i64 T,.int .i64 (K 0/4294967296),.int .i64 (K 0%4294967296),.int .i64 (K 1/4294967296),.int .i64 (K 1%4294967296),.int .i64 (K 2/4294967296),.int .i64 (K 2%4294967296),.int .i64 (K 3/4294967296),.int .i64 (K 3%4294967296),.int .i64 (K 4/4294967296),.int .i64 (K 4%4294967296),.int .i64 (K 5/4294967296),.int .i64 (K 5%4294967296),.int .i64 (K 6/4294967296),.int .i64 (K 6%4294967296),.int .i64 (K 7/4294967296),.int .i64 (K 7%4294967296)]
def Bn (w:World) (g:Nat) (f c T:Int) (K:Nat→Int):Prop:=Bl w g 59 (Bc f c T K)
theorem Bn.lt {w:World}{g:Nat}{f c T:Int}{K:Nat→Int}(h:Bn w g f c T K):g<w.heap.size:=Bl.lt h
theorem Bn.alloc {w:World}{g:Nat}{f c T:Int}{K:Nat→Int}(h:Bn w g f c T K) (o:Obj):Bn (w.alloc o) g f c T K:=Bl.alloc h o
theorem Bn.below {w w':World}{g B:Nat}{f c T:Int}{K:Nat→Int}(h:Bn w g f c T K) (hb:Below B w w') (hg:g<B):Bn w' g f c T K:=Bl.below h hb hg
theorem Bc_hi (f c T:Int) (K:Nat→Int) (i:Nat) (h:i<8):(Bc f c T K)[3+i*2]?=some (.int .i64 (K i/4294967296)):=by
 obtain rfl|rfl|rfl|rfl|rfl|rfl|rfl|rfl:i=0∨i=1∨i=2∨i=3∨i=4∨i=5∨i=6∨i=7:=by omega
 all_goals rfl
theorem Bc_lo (f c T:Int) (K:Nat→Int) (i:Nat) (h:i<8):(Bc f c T K)[3+i*2+1]?=some (.int .i64 (K i%4294967296)):=by
 obtain rfl|rfl|rfl|rfl|rfl|rfl|rfl|rfl:i=0∨i=1∨i=2∨i=3∨i=4∨i=5∨i=6∨i=7:=by omega
 all_goals rfl
theorem Bc_set (f c T:Int) (K:Nat→Int) (i:Nat) (v:Int) (h:i<8):((Bc f c T K).set (3+i*2) (.int .i64 (v/4294967296))).set (3+i*2+1) (.int .i64 (v%4294967296))=Bc f c T (fun k=>if k=i then v else K k):=by
 obtain rfl|rfl|rfl|rfl|rfl|rfl|rfl|rfl:i=0∨i=1∨i=2∨i=3∨i=4∨i=5∨i=6∨i=7:=by omega
 all_goals rfl
theorem Tryz.row_bin9:∃ d:TypeDesc,Tryz.prog.underlying 56=some d∧d.isRow=true:=by
 have h:(Tryz.prog.underlying 56).any (·.isRow)=true:=by kernel_rfl
 obtain ⟨d,h1,h2⟩:=(Option.any_eq_true _ _).1 h;exact ⟨d,h1,h2⟩
theorem Tryz.size_bin9:(Tryz.prog.info? 56).map (·.size)=some 2:=by kernel_rfl
theorem close9 {fn:Func}{p:Tmp}(h:fn.results=#[.cell p 56]) {tmps:Array Value}{W:World}{g:Nat}{x y:Value}{Q:Ending→World→Prop}
 (hp:tmps.getD p undef=.pointer (some ⟨g,0,none⟩)) (hD:Bl W g 56 [x,y]) (hQ:Q (.returned (.agg #[x,y])) W):bodyPost Tryz.prog fn Q .ret ⟨tmps,[]⟩ W:=by
 refine bodyPost_ret (v:=.agg #[x,y]) ?_ rfl hQ;obtain ⟨d,h1,h2⟩:=Tryz.row_bin9
 cases d <;> first
  | exact results_cell_row (P:=Tryz.prog) h tmps W g 56 _ _ _ hp hD h1 rfl (by rw [Tryz.size_bin9];rfl)
  | exact absurd h2 (by simp [TypeDesc.isRow])
theorem binOf_any (n:Int) (w:World):Calls Tryz.prog 60 #[.int .i64 n] w fun r w'=>r=.returned (Bv n)∧Below w.heap.size w w':=by
 have hm:=and_mask9 n;go_enter Tryz.func60,Tryz.ntmps60;go_wp2;exact close9 Tryz.results60 rfl (Bl.new w 56 [_,_]) ⟨rfl,bel_alloc _ _⟩
theorem plus9_core (x p y q:Int) (w:World) (h1:x≤8796093022208∧-8796093022208≤x) (h2:y≤8796093022208∧-8796093022208≤y) (h3:0≤p∧p<4294967296) (h4:0≤q∧q<4294967296) :
 Calls Tryz.prog 61 #[.agg #[.int .i64 x,.int .i64 p],.agg #[.int .i64 y,.int .i64 q]] w fun r w'=>r=.returned (.agg #[.int .i64 (x+y+(p+q)/4294967296),.int .i64 ((p+q)%4294967296)])∧Below w.heap.size w w':=by
 have H:=hid (binOf_any (p+q));have h5:(p+q)/4294967296≤1∧0≤(p+q)/4294967296:=by omega
 obtain ⟨W,hW⟩:∃ W,W=((w.alloc (.cells #[.int .i64 x,.int .i64 p] 56)).alloc (.cells #[.int .i64 y,.int .i64 q] 56)).alloc (.cells #[.int .i64 0,.int .i64 0] 56):=⟨_,rfl⟩
 have HW:Aside (Bl W w.heap.size 56 [.int .i64 x,.int .i64 p]∧Bl W (w.heap.size+1) 56 [.int .i64 y,.int .i64 q]∧Bl W (w.heap.size+1+1) 56 [.int .i64 0,.int .i64 0]∧Below w.heap.size w W):=by
  subst hW;refine ⟨((Bl.new w 56 [_,_]).alloc _).alloc _,(Bl.new' _ 56 _ [_,_] (by simp)).alloc _,Bl.new' _ 56 _ [_,_] (by simp),?_⟩;exact (bel_alloc _ _).trans (((bel_alloc _ _).trans ((bel_alloc _ _).mono (by simp))).mono (by simp))
 go_enter Tryz.func61,Tryz.ntmps61;go_wp2_with fail;rw [←hW];clear hW
 with_reducible refine (H.out _).mono ?_
 rintro r w1 ⟨rfl,hb⟩;have b0:=HW.out.1.below hb HW.out.1.lt;have b1:=HW.out.2.1.below hb HW.out.2.1.lt;have b2:=HW.out.2.2.1.below hb HW.out.2.2.1.lt;unfold Bv;have hs1:=b2.lt;have k0:=(b0.alloc (.cells #[.int .i64 ((p+q)/4294967296),.int .i64 ((p+q)%4294967296)] 56)).cell 0 _ rfl;have k1:=(b1.alloc (.cells #[.int .i64 ((p+q)/4294967296),.int .i64 ((p+q)%4294967296)] 56)).cell 0 _ rfl;have k2':=(b2.alloc (.cells #[.int .i64 ((p+q)/4294967296),.int .i64 ((p+q)%4294967296)] 56)).cell 0 _ rfl;have f2':=(b2.alloc (.cells #[.int .i64 ((p+q)/4294967296),.int .i64 ((p+q)%4294967296)] 56)).frozen 0;have k2:=b2.cell 0 _ rfl;have k3:=b2.cell 1 _ rfl;have f0:=b2.frozen 0;have f1:=b2.frozen 1;have HC:=qsd (ai b2 (HW.out.2.2.2.trans (hb.mono (HW.out.2.2.2.size))));clear b0 b1 b2;go_wp2;refine close9 Tryz.results61 rfl (((HC.out.1.set 0 _).set 1 _).alloc _) ⟨rfl,?_⟩;exact ((HC.out.2.setCell (by show w.heap.size≤w.heap.size+1+1;omega) _).setCell (by show w.heap.size≤w.heap.size+1+1;omega) _).alloc (by simp;omega) _
theorem plus9_any (a b:Int) (w:World) (ha:a.natAbs≤2^75) (hb:b.natAbs≤2^75):Calls Tryz.prog 61 #[Bv a,Bv b] w fun r w'=>r=.returned (Bv (a+b))∧Below w.heap.size w w':=by
 have:=plus9_core (a/4294967296) (a%4294967296) (b/4294967296) (b%4294967296) w (by omega) (by omega) (by omega) (by omega);unfold Bv;rw [show a/4294967296+b/4294967296+(a%4294967296+b%4294967296)/4294967296=(a+b)/4294967296 by omega,show (a%4294967296+b%4294967296)%4294967296=(a+b)%4294967296 by omega] at this;exact this
def putK (K:Nat→Int) (f i v:Int):Nat→Int:=fun k=>if (k:Int)=i∧i<f then K k+v else K k
theorem put_no (g:Nat) (f c T j x y:Int) (K:Nat→Int) (w:World) (hB:Bl w g 59 (Bc f c T K)) (h:f≤T-j) (h1:-1000≤T∧T≤1000) (h2:-1000≤j∧j≤1000) :
 Calls Tryz.prog 38 #[.pointer (some ⟨g,0,none⟩),.int .i64 j,.agg #[.int .i64 x,.int .i64 y]] w fun r w'=>r=.returned (.tuple #[])∧Below w.heap.size w w':=by
 have k0:=hB.cell 0 _ rfl;have k2:=hB.cell 2 _ rfl;have hl:=hB.lt;have hd:decide (T-j<f)=false:=by simp;omega
 clear hB;go_enter Tryz.func38,Tryz.ntmps38;go_wp2
 go_end0
 exact ⟨rfl,bel_alloc _ _⟩
theorem put_yes (g:Nat) (f c T j a b p q:Int) (i:Nat) (K:Nat→Int) (w:World) (hB:Bl w g 59 (Bc f c T K)) (h:T-j<f) (hi:T-j=i) (hi8:i<8) (h1:-1000≤T∧T≤1000) (h2:-1000≤j∧j≤1000)
 (HP:Hid (∀ u,Calls Tryz.prog 61 #[.agg #[.int .i64 (K i/4294967296),.int .i64 (K i%4294967296)],.agg #[.int .i64 a,.int .i64 b]] u fun r w'=>r=.returned (.agg #[.int .i64 p,.int .i64 q])∧Below u.heap.size u w')) :
 Calls Tryz.prog 38 #[.pointer (some ⟨g,0,none⟩),.int .i64 j,.agg #[.int .i64 a,.int .i64 b]] w fun r w'=>r=.returned (.tuple #[])∧Bl w' g 59 (((Bc f c T K).set (3+i*2) (.int .i64 p)).set (3+i*2+1) (.int .i64 q))∧But g w w':=by
 have hl:=hB.lt;have k0:=hB.cell 0 _ rfl;have k2:=hB.cell 2 _ rfl;have hd:decide (T-j<f)=true:=by simp;omega
 obtain ⟨W,hW⟩:∃ W,W=w.alloc (.cells #[.int .i64 a,.int .i64 b] 56):=⟨_,rfl⟩
 have HZ:Aside (Bl W.drew g 59 (Bc f c T K)∧Bl W.drew w.heap.size 56 [.int .i64 a,.int .i64 b]∧Below w.heap.size w W.drew):=by
  subst hW;exact ⟨(hB.alloc _).drew,(Bl.new w 56 [_,_]).drew,(bel_alloc _ _).drew⟩
 have mk:Hid (∀ u,Bl u g 59 (Bc f c T K)→Bl u w.heap.size 56 [.int .i64 a,.int .i64 b]→u.cell? ⟨g,3+i*2,none⟩=some (.int .i64 (K i/4294967296))∧u.cell? ⟨g,3+i*2+1,none⟩=some (.int .i64 (K i%4294967296))∧u.frozen? ⟨g,3+i*2,none⟩=false∧u.frozen? ⟨g,3+i*2+1,none⟩=false∧u.cell? ⟨w.heap.size,0,none⟩=some (.int .i64 a)∧u.cell? ⟨w.heap.size,1,none⟩=some (.int .i64 b)) :=
  hid (fun u p1 p2=>⟨p1.cell _ _ (Bc_hi f c T K i hi8),p1.cell _ _ (Bc_lo f c T K i hi8),p1.frozen _,p1.frozen _,p2.cell 0 _ rfl,p2.cell 1 _ rfl⟩)
 have kS:=qsd (mk.out _ HZ.out.1 HZ.out.2.1);have hi9:(i:Int)<8:=by omega
 clear hB;go_enter Tryz.func38,Tryz.ntmps38;go_wp2_with fail;rw [←hW];clear hW k0 k2 hd h hi h1 h2;refine until_region (fun u=>u.cell? ⟨g,3+i*2,none⟩=some (.int .i64 (K i/4294967296))∧u.cell? ⟨g,3+i*2+1,none⟩=some (.int .i64 (K i%4294967296))∧u.frozen? ⟨g,3+i*2,none⟩=false∧u.frozen? ⟨g,3+i*2+1,none⟩=false∧u.cell? ⟨w.heap.size,0,none⟩=some (.int .i64 a)∧u.cell? ⟨w.heap.size,1,none⟩=some (.int .i64 b)) 13 (by kernel_rfl) ?_;refine until_take (i:=0) [] (v:=?_) rfl (by kernel_rfl) (by kernel_rfl) (by kernel_rfl) (by kernel_rfl) (by kernel_rfl) (fun _ _ _ h=>h) (Or.inl ⟨by rfl,?_⟩) kS.out ?_
 rotate_left
 · intro u hSu
   try dsimp only at hSu
   first | (go_simp;done) | (go_simp;with_reducible rfl)
 try simp only [Act.put,List.setIfInBounds_toArray,List.set_cons_zero,List.set_cons_succ]
 refine until_take (i:=1) [] (v:=?_) rfl (by kernel_rfl) (by kernel_rfl) (by kernel_rfl) (by kernel_rfl) (by kernel_rfl) (fun _ _ _ h=>h) (Or.inl ⟨by rfl,?_⟩) kS.out ?_
 rotate_left
 · intro u hSu
   try dsimp only at hSu
   first | (go_simp;done) | (go_simp;with_reducible rfl)
 try simp only [Act.put,List.setIfInBounds_toArray,List.set_cons_zero,List.set_cons_succ]
 refine until_take (i:=2) [] (v:=?_) rfl (by kernel_rfl) (by kernel_rfl) (by kernel_rfl) (by kernel_rfl) (by kernel_rfl) (fun _ _ _ h=>h) (Or.inl ⟨by rfl,?_⟩) kS.out ?_
 rotate_left
 · intro u hSu
   try dsimp only at hSu
   first | (go_simp;done) | (go_simp;with_reducible rfl)
 try simp only [Act.put,List.setIfInBounds_toArray,List.set_cons_zero,List.set_cons_succ]
 refine until_take (i:=3) [] (v:=?_) rfl (by kernel_rfl) (by kernel_rfl) (by kernel_rfl) (by kernel_rfl) (by kernel_rfl) (fun _ _ _ h=>h) (Or.inl ⟨by rfl,?_⟩) kS.out ?_
 rotate_left
 · intro u hSu
   try dsimp only at hSu
   first | (go_simp;done) | (go_simp;with_reducible rfl)
 try simp only [Act.put,List.setIfInBounds_toArray,List.set_cons_zero,List.set_cons_succ]
 refine until_take (i:=4) [] (v:=?_) rfl (by kernel_rfl) (by kernel_rfl) (by kernel_rfl) (by kernel_rfl) (by kernel_rfl) (fun _ _ _ h=>h) (Or.inl ⟨by rfl,?_⟩) kS.out ?_
 rotate_left
 · intro u hSu
   try dsimp only at hSu
   first | (go_simp;done) | (go_simp;with_reducible rfl)
 try simp only [Act.put,List.setIfInBounds_toArray,List.set_cons_zero,List.set_cons_succ]
 refine until_take (i:=5) [] (v:=?_) rfl (by kernel_rfl) (by kernel_rfl) (by kernel_rfl) (by kernel_rfl) (by kernel_rfl) (fun _ _ _ h=>h) (Or.inl ⟨by rfl,?_⟩) kS.out ?_
 rotate_left
 · intro u hSu
   try dsimp only at hSu
   first | (go_simp;done) | (go_simp;with_reducible rfl)
 try simp only [Act.put,List.setIfInBounds_toArray,List.set_cons_zero,List.set_cons_succ]
 refine until_take (i:=6) [] (v:=?_) rfl (by kernel_rfl) (by kernel_rfl) (by kernel_rfl) (by kernel_rfl) (by kernel_rfl) (fun _ _ _ h=>h) (Or.inl ⟨by rfl,?_⟩) kS.out ?_
 rotate_left
 · intro u hSu
   try dsimp only at hSu
   first | (go_simp;done) | (go_simp;with_reducible rfl)
 try simp only [Act.put,List.setIfInBounds_toArray,List.set_cons_zero,List.set_cons_succ]
 refine until_take (i:=7) [] (v:=?_) rfl (by kernel_rfl) (by kernel_rfl) (by kernel_rfl) (by kernel_rfl) (by kernel_rfl) (fun _ _ _ h=>h) (Or.inl ⟨by rfl,?_⟩) kS.out ?_
 rotate_left
 · intro u hSu
   try dsimp only at hSu
   first | (go_simp;done) | (go_simp;with_reducible rfl)
 try simp only [Act.put,List.setIfInBounds_toArray,List.set_cons_zero,List.set_cons_succ]
 refine until_take (i:=8) [] (v:=?_) rfl (by kernel_rfl) (by kernel_rfl) (by kernel_rfl) (by kernel_rfl) (by kernel_rfl) (fun _ _ _ h=>h) (Or.inl ⟨by rfl,?_⟩) kS.out ?_
 rotate_left
 · intro u hSu
   try dsimp only at hSu
   first | (go_simp;done) | (go_simp;with_reducible rfl)
 try simp only [Act.put,List.setIfInBounds_toArray,List.set_cons_zero,List.set_cons_succ]
 refine until_take (i:=10) [11,12] (v:=?_) rfl (by kernel_rfl) (by kernel_rfl) (by kernel_rfl) (by kernel_rfl) (by kernel_rfl) (fun _ _ _ h=>h) (Or.inl ⟨by rfl,?_⟩) kS.out ?_
 rotate_left
 · intro u hSu
   try dsimp only at hSu
   first | (go_simp;done) | (go_simp;with_reducible rfl)
 try simp only [Act.put,List.setIfInBounds_toArray,List.set_cons_zero,List.set_cons_succ]
 refine until_take (i:=11) [12] (v:=?_) rfl (by kernel_rfl) (by kernel_rfl) (by kernel_rfl) (by kernel_rfl) (by kernel_rfl) (fun _ _ _ h=>h) (Or.inl ⟨by rfl,?_⟩) kS.out ?_
 rotate_left
 · intro u hSu
   try dsimp only at hSu
   first | (go_simp;done) | (go_simp;with_reducible rfl)
 try simp only [Act.put,List.setIfInBounds_toArray,List.set_cons_zero,List.set_cons_succ]
 refine until_one (i:=9) (by kernel_rfl) rfl (fun K' hK=>?_);go_simp;refine (HP.out _).mono ?_;rintro r u ⟨rfl,hb⟩;have HZ:=qsd (ai (HZ.out.1.below hb HZ.out.1.lt) (ai (HZ.out.2.1.below hb HZ.out.2.1.lt) (HZ.out.2.2.trans (hb.mono HZ.out.2.2.size))));have kS:=qsd (mk.out _ HZ.out.1 HZ.out.2.1);clear hb;dsimp only;refine hK.out _ _ (fun _=>kS.out) ?_;clear hK K'
 try simp only [Act.put,List.setIfInBounds_toArray,List.set_cons_zero,List.set_cons_succ]
 refine until_take (i:=12) [] (v:=?_) rfl (by kernel_rfl) (by kernel_rfl) (by kernel_rfl) (by kernel_rfl) (by kernel_rfl) (fun _ _ _ h=>h) (Or.inl ⟨by rfl,?_⟩) kS.out ?_
 rotate_left
 · intro u hSu
   try dsimp only at hSu
   first | (go_simp;done) | (go_simp;with_reducible rfl)
 try simp only [Act.put,List.setIfInBounds_toArray,List.set_cons_zero,List.set_cons_succ]
 obtain ⟨s1,s2,s3,s4,s5,s6⟩:=kS.out;refine until_one (i:=13) (by kernel_rfl) rfl (fun K' hK=>?_);go_simp;refine hK.out _ _ (fun h=>absurd h (by decide)) ?_;clear hK K';refine until_done (by kernel_rfl) ?_ _;clear kS s1 s2 s3 s4 s5 s6;go_wp2
 go_end0
 exact ⟨rfl,(HZ.out.1.set _ _).set _ _,(((But.refl g w).of_bel9 HZ.out.2.2).set _ _).set _ _⟩
theorem put_any (g:Nat) (f c T j v:Int) (K:Nat→Int) (w:World) (hB:Bn w g f c T K) (hf:f≤8) (hj:j≤T) (h1:-1000≤T∧T≤1000) (h2:-1000≤j∧j≤1000) (hK:∀ i,(K i).natAbs≤2^75) (hv:v.natAbs≤2^75) :
 Calls Tryz.prog 38 #[.pointer (some ⟨g,0,none⟩),.int .i64 j,Bv v] w fun r w'=>r=.returned (.tuple #[])∧Bn w' g f c T (putK K f (T-j) v)∧But g w w':=by
 by_cases h:f≤T-j
 · refine (put_no g f c T j _ _ K w hB h h1 h2).mono ?_;rintro r w' ⟨rfl,hb⟩;have e:putK K f (T-j) v=K:=by funext k;unfold putK;rw [if_neg (by omega)]
   rw [e];exact ⟨rfl,hB.below hb hB.lt,(But.refl g w).of_bel9 hb⟩
 · obtain ⟨i,hi⟩:∃ i:Nat,T-j=i:=⟨(T-j).toNat,by omega⟩;refine (put_yes g f c T j _ _ _ _ i K w hB (by omega) hi (by omega) h1 h2 (hid (fun u=>plus9_any (K i) v u (hK i) hv))).mono ?_;rintro r w' ⟨rfl,h3,h4⟩;refine ⟨rfl,?_,h4⟩;rw [Bc_set f c T K i (K i+v) (by omega)] at h3
   have e:putK K f (T-j) v=fun k=>if k=i then K i+v else K k:=by
    funext k
    unfold putK
    by_cases q:k=i
    · rw [if_pos (by omega),if_pos q,q]
    · rw [if_neg (by omega),if_neg q]
   rw [e];exact h3
end
section
open Go Go.RowKit
theorem Tryz.und_arr9:Tryz.prog.underlying 57=some (.array 8 56):=by kernel_rfl
theorem idx9_0 (x0 x1 x2 x3 x4 x5 x6 x7 x8 x9 x10 x11 x12 x13 x14 x15:Value) (w:World):(Instr.index 57 (.agg #[x0,x1,x2,x3,x4,x5,x6,x7,x8,x9,x10,x11,x12,x13,x14,x15]) (.int .i64 0)).run Tryz.prog w=.ok (.agg #[x0,x1]) w:=by
 simp [Instr.index,run_underlying Tryz.und_arr9,asIntOf,go_sem]
theorem idx9_1 (x0 x1 x2 x3 x4 x5 x6 x7 x8 x9 x10 x11 x12 x13 x14 x15:Value) (w:World):(Instr.index 57 (.agg #[x0,x1,x2,x3,x4,x5,x6,x7,x8,x9,x10,x11,x12,x13,x14,x15]) (.int .i64 1)).run Tryz.prog w=.ok (.agg #[x2,x3]) w:=by
 simp [Instr.index,run_underlying Tryz.und_arr9,asIntOf,go_sem]
theorem idx9_2 (x0 x1 x2 x3 x4 x5 x6 x7 x8 x9 x10 x11 x12 x13 x14 x15:Value) (w:World):(Instr.index 57 (.agg #[x0,x1,x2,x3,x4,x5,x6,x7,x8,x9,x10,x11,x12,x13,x14,x15]) (.int .i64 2)).run Tryz.prog w=.ok (.agg #[x4,x5]) w:=by
 simp [Instr.index,run_underlying Tryz.und_arr9,asIntOf,go_sem]
theorem idx9_3 (x0 x1 x2 x3 x4 x5 x6 x7 x8 x9 x10 x11 x12 x13 x14 x15:Value) (w:World):(Instr.index 57 (.agg #[x0,x1,x2,x3,x4,x5,x6,x7,x8,x9,x10,x11,x12,x13,x14,x15]) (.int .i64 3)).run Tryz.prog w=.ok (.agg #[x6,x7]) w:=by
 simp [Instr.index,run_underlying Tryz.und_arr9,asIntOf,go_sem]
theorem idx9_4 (x0 x1 x2 x3 x4 x5 x6 x7 x8 x9 x10 x11 x12 x13 x14 x15:Value) (w:World):(Instr.index 57 (.agg #[x0,x1,x2,x3,x4,x5,x6,x7,x8,x9,x10,x11,x12,x13,x14,x15]) (.int .i64 4)).run Tryz.prog w=.ok (.agg #[x8,x9]) w:=by
 simp [Instr.index,run_underlying Tryz.und_arr9,asIntOf,go_sem]
theorem idx9_5 (x0 x1 x2 x3 x4 x5 x6 x7 x8 x9 x10 x11 x12 x13 x14 x15:Value) (w:World):(Instr.index 57 (.agg #[x0,x1,x2,x3,x4,x5,x6,x7,x8,x9,x10,x11,x12,x13,x14,x15]) (.int .i64 5)).run Tryz.prog w=.ok (.agg #[x10,x11]) w:=by
 simp [Instr.index,run_underlying Tryz.und_arr9,asIntOf,go_sem]
theorem idx9_6 (x0 x1 x2 x3 x4 x5 x6 x7 x8 x9 x10 x11 x12 x13 x14 x15:Value) (w:World):(Instr.index 57 (.agg #[x0,x1,x2,x3,x4,x5,x6,x7,x8,x9,x10,x11,x12,x13,x14,x15]) (.int .i64 6)).run Tryz.prog w=.ok (.agg #[x12,x13]) w:=by
 simp [Instr.index,run_underlying Tryz.und_arr9,asIntOf,go_sem]
theorem idx9_7 (x0 x1 x2 x3 x4 x5 x6 x7 x8 x9 x10 x11 x12 x13 x14 x15:Value) (w:World):(Instr.index 57 (.agg #[x0,x1,x2,x3,x4,x5,x6,x7,x8,x9,x10,x11,x12,x13,x14,x15]) (.int .i64 7)).run Tryz.prog w=.ok (.agg #[x14,x15]) w:=by
 simp [Instr.index,run_underlying Tryz.und_arr9,asIntOf,go_sem]
end
section
open Go Go.RowKit
def rsK (K:Nat→Int) (f:Int) (d n:Nat):Nat→Int:=fun k=>if (k:Int)<f∧d≤k∧k-d<n then K (k-d) else 0
theorem rsK_step (K:Nat→Int) (f:Int) (d n:Nat):putK (rsK K f d n) f ((d+n:Nat):Int) (K n)=rsK K f d (n+1):=by
 funext k
 unfold putK rsK
 by_cases q:k=d+n
 · subst q
   by_cases h:((d+n:Nat):Int)<f
   · rw [if_pos ⟨rfl,h⟩,if_neg (by omega),if_pos (by omega),show d+n-d=n by omega,Int.zero_add]
   · rw [if_neg (by omega),if_neg (by omega),if_neg (by omega)]
 · rw [if_neg (by omega)]
   by_cases h:(k:Int)<f∧d≤k∧k-d<n
   · rw [if_pos h,if_pos (by omega)]
   · rw [if_neg h,if_neg (by omega)]
theorem rsK_zero (K:Nat→Int) (f:Int) (d:Nat):rsK K f d 0=fun _=>0:=by
 funext k;unfold rsK;rw [if_neg (by omega)]
theorem rsK_abs (K:Nat→Int) (f:Int) (d n:Nat) (hK:∀ i,(K i).natAbs≤2^75) (k:Nat):(rsK K f d n k).natAbs≤2^75:=by
 unfold rsK
 split
 · exact hK _
 · simp
theorem Bc_one (f c T:Int) (K:Nat→Int):(Bc f c T K).toArray.all (·.oneCell')=true:=by
 unfold Bc;simp [Value.oneCell']
theorem Tryz.row_bins9:∃ d:TypeDesc,Tryz.prog.underlying 59=some d∧d.isRow=true:=by
 have h:(Tryz.prog.underlying 59).any (·.isRow)=true:=by kernel_rfl
 obtain ⟨d,h1,h2⟩:=(Option.any_eq_true _ _).1 h;exact ⟨d,h1,h2⟩
theorem Tryz.row_arr9:∃ d:TypeDesc,Tryz.prog.underlying 57=some d∧d.isRow=true:=by
 have h:(Tryz.prog.underlying 57).any (·.isRow)=true:=by kernel_rfl
 obtain ⟨d,h1,h2⟩:=(Option.any_eq_true _ _).1 h;exact ⟨d,h1,h2⟩
theorem Tryz.size_bins9:(Tryz.prog.info? 59).map (·.size)=some 19:=by kernel_rfl
theorem Tryz.size_arr9:(Tryz.prog.info? 57).map (·.size)=some 16:=by kernel_rfl
theorem rise_no (g:Nat) (f c T J:Int) (K:Nat→Int) (w:World) (hB:Bn w g f c T K) (h:J≤T) :
 Calls Tryz.prog 37 #[.pointer (some ⟨g,0,none⟩),.int .i64 J] w fun r w'=>r=.returned (.tuple #[])∧w'=w:=by
 have k2:=Bl.cell hB 2 _ rfl;have hd:decide (J≤T)=true:=by simp;omega
 clear hB;go_enter Tryz.func37,Tryz.ntmps37;go_wp2
 first
 | (go_end0;exact ⟨rfl,rfl⟩)
 | exact bodyPost_ret (v:=.tuple #[]) (by simp [results,Tryz.results37,go_sem]) rfl ⟨rfl,rfl⟩
attribute [local go_sem] idx9_0 idx9_1 idx9_2 idx9_3 idx9_4 idx9_5 idx9_6 idx9_7 in
theorem rise_yes (g d:Nat) (f c T J:Int) (K:Nat→Int) (w:World) (hB:Bn w g f c T K) (hd:J=T+d) (hd0:0<d) (hf:f≤8) (h1:-100≤T∧T≤1000) (h2:-100≤J∧J≤1000) (hK:∀ i,(K i).natAbs≤2^75) :
 Calls Tryz.prog 37 #[.pointer (some ⟨g,0,none⟩),.int .i64 J] w fun r w'=>r=.returned (.tuple #[])∧Bn w' g f c J (rsK K f d 8)∧But g w w':=by
 have HP:∀ n:Nat,n<8→Hid (∀ u,Bn u g f c J (rsK K f d n)→Calls Tryz.prog 38 #[.pointer (some ⟨g,0,none⟩),.int .i64 (T-n),.agg #[.int .i64 (K n/4294967296),.int .i64 (K n%4294967296)]] u fun r w'=>r=.returned (.tuple #[])∧Bn w' g f c J (rsK K f d (n+1))∧But g u w'):=by
  intro n hn;refine hid (fun u hu=>?_);have:=put_any g f c J (T-n) (K n) (rsK K f d n) u hu hf (by omega) (by omega) (by omega) (rsK_abs K f d n hK) (hK n);rw [show J-(T-n)=((d+n:Nat):Int) by omega,rsK_step] at this;exact this
 have P0:Hid (∀ u,Bn u g f c J (rsK K f d 0)→Calls Tryz.prog 38 #[.pointer (some ⟨g,0,none⟩),.int .i64 T,.agg #[.int .i64 (K 0/4294967296),.int .i64 (K 0%4294967296)]] u fun r w'=>r=.returned (.tuple #[])∧Bn w' g f c J (rsK K f d 1)∧But g u w'):=by
  have:=HP 0 (by omega);rw [show T-((0:Nat):Int)=T by omega] at this;exact this
 have P1:Hid (∀ u,Bn u g f c J (rsK K f d 1)→Calls Tryz.prog 38 #[.pointer (some ⟨g,0,none⟩),.int .i64 (T-1),.agg #[.int .i64 (K 1/4294967296),.int .i64 (K 1%4294967296)]] u fun r w'=>r=.returned (.tuple #[])∧Bn w' g f c J (rsK K f d 2)∧But g u w'):=HP 1 (by omega);have P2:Hid (∀ u,Bn u g f c J (rsK K f d 2)→Calls Tryz.prog 38 #[.pointer (some ⟨g,0,none⟩),.int .i64 (T-2),.agg #[.int .i64 (K 2/4294967296),.int .i64 (K 2%4294967296)]] u fun r w'=>r=.returned (.tuple #[])∧Bn w' g f c J (rsK K f d 3)∧But g u w'):=HP 2 (by omega);have P3:Hid (∀ u,Bn u g f c J (rsK K f d 3)→Calls Tryz.prog 38 #[.pointer (some ⟨g,0,none⟩),.int .i64 (T-3),.agg #[.int .i64 (K 3/4294967296),.int .i64 (K 3%4294967296)]] u fun r w'=>r=.returned (.tuple #[])∧Bn w' g f c J (rsK K f d 4)∧But g u w'):=HP 3 (by omega);have P4:Hid (∀ u,Bn u g f c J (rsK K f d 4)→Calls Tryz.prog 38 #[.pointer (some ⟨g,0,none⟩),.int .i64 (T-4),.agg #[.int .i64 (K 4/4294967296),.int .i64 (K 4%4294967296)]] u fun r w'=>r=.returned (.tuple #[])∧Bn w' g f c J (rsK K f d 5)∧But g u w'):=HP 4 (by omega);have P5:Hid (∀ u,Bn u g f c J (rsK K f d 5)→Calls Tryz.prog 38 #[.pointer (some ⟨g,0,none⟩),.int .i64 (T-5),.agg #[.int .i64 (K 5/4294967296),.int .i64 (K 5%4294967296)]] u fun r w'=>r=.returned (.tuple #[])∧Bn w' g f c J (rsK K f d 6)∧But g u w'):=HP 5 (by omega);have P6:Hid (∀ u,Bn u g f c J (rsK K f d 6)→Calls Tryz.prog 38 #[.pointer (some ⟨g,0,none⟩),.int .i64 (T-6),.agg #[.int .i64 (K 6/4294967296),.int .i64 (K 6%4294967296)]] u fun r w'=>r=.returned (.tuple #[])∧Bn w' g f c J (rsK K f d 7)∧But g u w'):=HP 6 (by omega);have P7:Hid (∀ u,Bn u g f c J (rsK K f d 7)→Calls Tryz.prog 38 #[.pointer (some ⟨g,0,none⟩),.int .i64 (T-7),.agg #[.int .i64 (K 7/4294967296),.int .i64 (K 7%4294967296)]] u fun r w'=>r=.returned (.tuple #[])∧Bn w' g f c J (rsK K f d 8)∧But g u w'):=HP 7 (by omega);clear HP;have hdn:decide (J≤T)=false:=by simp;omega
 have hl:=Bl.lt hB;obtain ⟨db,hdb⟩:=Tryz.row_bins9;have HD:=qsd hdb;obtain ⟨da,hda⟩:=Tryz.row_arr9;have HE:=qsd hda;clear hdb hda;have k2:=Bl.cell hB 2 _ rfl;have HR:Aside (w.rangeAt g 0 (Bc f c T K)):=Bl.range hB 0 _ (fun j v hv=>by rw [Nat.zero_add];exact hv);have HS:Aside ((Tryz.prog.info? 59).map (·.size)=some (Bc f c T K).length):=Tryz.size_bins9;have HZ:Aside (Bl (w.alloc (Obj.cells #[.int .i64 0,.int .i64 0,.int .i64 0,.int .i64 0,.int .i64 0,.int .i64 0,.int .i64 0,.int .i64 0,.int .i64 0,.int .i64 0,.int .i64 0,.int .i64 0,.int .i64 0,.int .i64 0,.int .i64 0,.int .i64 0,.int .i64 0,.int .i64 0,.int .i64 0] 59)) w.heap.size 59 [.int .i64 0,.int .i64 0,.int .i64 0,.int .i64 0,.int .i64 0,.int .i64 0,.int .i64 0,.int .i64 0,.int .i64 0,.int .i64 0,.int .i64 0,.int .i64 0,.int .i64 0,.int .i64 0,.int .i64 0,.int .i64 0,.int .i64 0,.int .i64 0,.int .i64 0]):=Bl.new w 59 [.int .i64 0,.int .i64 0,.int .i64 0,.int .i64 0,.int .i64 0,.int .i64 0,.int .i64 0,.int .i64 0,.int .i64 0,.int .i64 0,.int .i64 0,.int .i64 0,.int .i64 0,.int .i64 0,.int .i64 0,.int .i64 0,.int .i64 0,.int .i64 0,.int .i64 0];have HT:Aside ((w.alloc (Obj.cells #[.int .i64 0,.int .i64 0,.int .i64 0,.int .i64 0,.int .i64 0,.int .i64 0,.int .i64 0,.int .i64 0,.int .i64 0,.int .i64 0,.int .i64 0,.int .i64 0,.int .i64 0,.int .i64 0,.int .i64 0,.int .i64 0,.int .i64 0,.int .i64 0,.int .i64 0] 59)).there w.heap.size 0 (Bc f c T K).toArray.size):=qsd (HZ.out.there 0 19 (Nat.le_refl 19));have HO:=qsd (Bc_one f c T K);have HS2:Aside ((Tryz.prog.info? 59).map (·.size)=some (Bc f c T K).toArray.size):=Tryz.size_bins9;obtain ⟨W1,hW1⟩:∃ W1,W1=(w.alloc (Obj.cells #[.int .i64 0,.int .i64 0,.int .i64 0,.int .i64 0,.int .i64 0,.int .i64 0,.int .i64 0,.int .i64 0,.int .i64 0,.int .i64 0,.int .i64 0,.int .i64 0,.int .i64 0,.int .i64 0,.int .i64 0,.int .i64 0,.int .i64 0,.int .i64 0,.int .i64 0] 59)).setCells w.heap.size 0 (Bc f c T K).toArray.toList:=⟨_,rfl⟩;have HW1:=qsd hW1
 have HA1:Aside (Bl W1 w.heap.size 59 (Bc f c T K)∧Bl W1 g 59 (Bc f c T K)∧Below w.heap.size w W1):=by
  subst hW1;have hbut:But w.heap.size (w.alloc (Obj.cells #[.int .i64 0,.int .i64 0,.int .i64 0,.int .i64 0,.int .i64 0,.int .i64 0,.int .i64 0,.int .i64 0,.int .i64 0,.int .i64 0,.int .i64 0,.int .i64 0,.int .i64 0,.int .i64 0,.int .i64 0,.int .i64 0,.int .i64 0,.int .i64 0,.int .i64 0] 59)) ((w.alloc (Obj.cells #[.int .i64 0,.int .i64 0,.int .i64 0,.int .i64 0,.int .i64 0,.int .i64 0,.int .i64 0,.int .i64 0,.int .i64 0,.int .i64 0,.int .i64 0,.int .i64 0,.int .i64 0,.int .i64 0,.int .i64 0,.int .i64 0,.int .i64 0,.int .i64 0,.int .i64 0] 59)).setCells w.heap.size 0 (Bc f c T K).toArray.toList):=But.setCells _ _ (But.refl _ _);refine ⟨HZ.out.setAll (vs:=Bc f c T K) rfl,(Bl.alloc hB _).but hbut (by omega),But.below (bel_alloc w _) hbut (by simp) (Nat.le_refl _)⟩
 have o0:=HA1.out.1.cell 0 _ rfl;have o1:=HA1.out.1.cell 1 _ rfl;have HT2:Aside (W1.there g 0 (#[.int .i64 f,.int .i64 c,.int .i64 J,.int .i64 0,.int .i64 0,.int .i64 0,.int .i64 0,.int .i64 0,.int .i64 0,.int .i64 0,.int .i64 0,.int .i64 0,.int .i64 0,.int .i64 0,.int .i64 0,.int .i64 0,.int .i64 0,.int .i64 0,.int .i64 0]:Array Value).size):=qsd (HA1.out.2.1.there 0 19 (Nat.le_refl 19));have HO2:Aside ((#[.int .i64 f,.int .i64 c,.int .i64 J,.int .i64 0,.int .i64 0,.int .i64 0,.int .i64 0,.int .i64 0,.int .i64 0,.int .i64 0,.int .i64 0,.int .i64 0,.int .i64 0,.int .i64 0,.int .i64 0,.int .i64 0,.int .i64 0,.int .i64 0,.int .i64 0]:Array Value).all (·.oneCell')=true):=qsd (by simp [Value.oneCell']);have HS3:Aside ((Tryz.prog.info? 59).map (·.size)=some (#[.int .i64 f,.int .i64 c,.int .i64 J,.int .i64 0,.int .i64 0,.int .i64 0,.int .i64 0,.int .i64 0,.int .i64 0,.int .i64 0,.int .i64 0,.int .i64 0,.int .i64 0,.int .i64 0,.int .i64 0,.int .i64 0,.int .i64 0,.int .i64 0,.int .i64 0]:Array Value).size):=Tryz.size_bins9;obtain ⟨W2,hW2⟩:∃ W2,W2=W1.setCells g 0 (#[.int .i64 f,.int .i64 c,.int .i64 J,.int .i64 0,.int .i64 0,.int .i64 0,.int .i64 0,.int .i64 0,.int .i64 0,.int .i64 0,.int .i64 0,.int .i64 0,.int .i64 0,.int .i64 0,.int .i64 0,.int .i64 0,.int .i64 0,.int .i64 0,.int .i64 0]:Array Value).toList:=⟨_,rfl⟩;have HW2:=qsd hW2
 have HA2:Aside (Bl W2 w.heap.size 59 (Bc f c T K)∧Bn W2 g f c J (rsK K f d 0)∧But g w W2):=by
  have hbut:But g W1 W2:=by rw [hW2];exact But.setCells _ _ (But.refl _ _)
  refine ⟨HA1.out.1.but hbut (by omega),?_,((But.refl g w).of_bel9 HA1.out.2.2).trans hbut⟩
  · rw [rsK_zero,hW2];exact HA1.out.2.1.setAll (vs:=[.int .i64 f,.int .i64 c,.int .i64 J,.int .i64 0,.int .i64 0,.int .i64 0,.int .i64 0,.int .i64 0,.int .i64 0,.int .i64 0,.int .i64 0,.int .i64 0,.int .i64 0,.int .i64 0,.int .i64 0,.int .i64 0,.int .i64 0,.int .i64 0,.int .i64 0]) rfl
 have HR2:Aside (W2.rangeAt w.heap.size 3 [.int .i64 (K 0/4294967296),.int .i64 (K 0%4294967296),.int .i64 (K 1/4294967296),.int .i64 (K 1%4294967296),.int .i64 (K 2/4294967296),.int .i64 (K 2%4294967296),.int .i64 (K 3/4294967296),.int .i64 (K 3%4294967296),.int .i64 (K 4/4294967296),.int .i64 (K 4%4294967296),.int .i64 (K 5/4294967296),.int .i64 (K 5%4294967296),.int .i64 (K 6/4294967296),.int .i64 (K 6%4294967296),.int .i64 (K 7/4294967296),.int .i64 (K 7%4294967296)]):=qsd (HA2.out.1.range 3 _ (fun j v hv=>by
  have e:(Bc f c T K)[3+j]?=([.int .i64 (K 0/4294967296),.int .i64 (K 0%4294967296),.int .i64 (K 1/4294967296),.int .i64 (K 1%4294967296),.int .i64 (K 2/4294967296),.int .i64 (K 2%4294967296),.int .i64 (K 3/4294967296),.int .i64 (K 3%4294967296),.int .i64 (K 4/4294967296),.int .i64 (K 4%4294967296),.int .i64 (K 5/4294967296),.int .i64 (K 5%4294967296),.int .i64 (K 6/4294967296),.int .i64 (K 6%4294967296),.int .i64 (K 7/4294967296),.int .i64 (K 7%4294967296)]:List Value)[j]?:=by rw [Nat.add_comm];rfl
  rw [e];exact hv))
 have HS4:Aside ((Tryz.prog.info? 57).map (·.size)=some ([.int .i64 (K 0/4294967296),.int .i64 (K 0%4294967296),.int .i64 (K 1/4294967296),.int .i64 (K 1%4294967296),.int .i64 (K 2/4294967296),.int .i64 (K 2%4294967296),.int .i64 (K 3/4294967296),.int .i64 (K 3%4294967296),.int .i64 (K 4/4294967296),.int .i64 (K 4%4294967296),.int .i64 (K 5/4294967296),.int .i64 (K 5%4294967296),.int .i64 (K 6/4294967296),.int .i64 (K 6%4294967296),.int .i64 (K 7/4294967296),.int .i64 (K 7%4294967296)]:List Value).length):=Tryz.size_arr9;have HJ:=qsd hd;have HBw:=qsd hB;clear hB hd hW1 hW2;go_enter Tryz.func37,Tryz.ntmps37
 go_wp2_with (first
  | ((with_reducible refine wpList_load_mid (P:=Tryz.prog) rfl 59 (.tmp 14) rfl g 0 rfl (Bc f c T K) db HR.out HD.out.1 HD.out.2 HS.out ?_))
  | ((with_reducible refine wpList_store_mid (P:=Tryz.prog) rfl 59 (.tmp 4) (.tmp 15) rfl w.heap.size 0 (Bc f c T K).toArray rfl rfl HT.out HS2.out HO.out ?_);rw [←HW1.out])
  | ((with_reducible refine wpList_store_mid (P:=Tryz.prog) rfl 59 (.tmp 23) (.tmp 22) rfl g 0 (#[.int .i64 f,.int .i64 c,.int .i64 J,.int .i64 0,.int .i64 0,.int .i64 0,.int .i64 0,.int .i64 0,.int .i64 0,.int .i64 0,.int .i64 0,.int .i64 0,.int .i64 0,.int .i64 0,.int .i64 0,.int .i64 0,.int .i64 0,.int .i64 0,.int .i64 0]:Array Value) rfl rfl HT2.out HS3.out HO2.out ?_);rw [←HW2.out])
  | ((with_reducible refine wpList_load_mid (P:=Tryz.prog) rfl 57 (.tmp 24) rfl w.heap.size 3 rfl [.int .i64 (K 0/4294967296),.int .i64 (K 0%4294967296),.int .i64 (K 1/4294967296),.int .i64 (K 1%4294967296),.int .i64 (K 2/4294967296),.int .i64 (K 2%4294967296),.int .i64 (K 3/4294967296),.int .i64 (K 3%4294967296),.int .i64 (K 4/4294967296),.int .i64 (K 4%4294967296),.int .i64 (K 5/4294967296),.int .i64 (K 5%4294967296),.int .i64 (K 6/4294967296),.int .i64 (K 6%4294967296),.int .i64 (K 7/4294967296),.int .i64 (K 7%4294967296)] da HR2.out HE.out.1 HE.out.2 HS4.out ?_)))
 clear HR HS HZ HT HO HS2 HW1 HA1 o0 o1 HT2 HO2 HS3 HW2 HR2 HS4 HBw HD HE k2 hdn W1;refine wp_loop_rounds 9 ?_;obtain ⟨u0,hu0⟩:∃ u0,u0=W2:=⟨_,rfl⟩;rw [←hu0] at HA2 ⊢;clear hu0 W2;have hlt:w.heap.size<u0.heap.size:=HA2.out.1.lt;have kT:=HA2.out.1.cell 2 _ rfl;have kA:=(HA2.out.1.alloc (.cells #[.int .i64 (K 0/4294967296),.int .i64 (K 0%4294967296)] 56)).cell 2 _ rfl;rw [rounds_succ];go_wp2_with fail
 with_reducible refine (P0.out _ (HA2.out.2.1.alloc _)).mono ?_
 rintro r u1 ⟨rfl,hB,hbut⟩;have HAz1:Aside (Bl u1 w.heap.size 59 (Bc f c T K)∧Bn u1 g f c J (rsK K f d 1)∧But g w u1):=⟨(HA2.out.1.alloc _).but hbut (by omega),hB,(HA2.out.2.2.alloc _).trans hbut⟩;clear hB hbut hlt kT kA HA2 P0;go_wp2_with fail;have hlt:w.heap.size<u1.heap.size:=HAz1.out.1.lt;have kT:=HAz1.out.1.cell 2 _ rfl;have kA:=(HAz1.out.1.alloc (.cells #[.int .i64 (K 1/4294967296),.int .i64 (K 1%4294967296)] 56)).cell 2 _ rfl;rw [rounds_succ];go_wp2_with fail
 with_reducible refine (P1.out _ (HAz1.out.2.1.alloc _)).mono ?_
 rintro r u2 ⟨rfl,hB,hbut⟩;have HAz2:Aside (Bl u2 w.heap.size 59 (Bc f c T K)∧Bn u2 g f c J (rsK K f d 2)∧But g w u2):=⟨(HAz1.out.1.alloc _).but hbut (by omega),hB,(HAz1.out.2.2.alloc _).trans hbut⟩;clear hB hbut hlt kT kA HAz1 P1;go_wp2_with fail;have hlt:w.heap.size<u2.heap.size:=HAz2.out.1.lt;have kT:=HAz2.out.1.cell 2 _ rfl;have kA:=(HAz2.out.1.alloc (.cells #[.int .i64 (K 2/4294967296),.int .i64 (K 2%4294967296)] 56)).cell 2 _ rfl;rw [rounds_succ];go_wp2_with fail
 with_reducible refine (P2.out _ (HAz2.out.2.1.alloc _)).mono ?_
 rintro r u3 ⟨rfl,hB,hbut⟩;have HAz3:Aside (Bl u3 w.heap.size 59 (Bc f c T K)∧Bn u3 g f c J (rsK K f d 3)∧But g w u3):=⟨(HAz2.out.1.alloc _).but hbut (by omega),hB,(HAz2.out.2.2.alloc _).trans hbut⟩;clear hB hbut hlt kT kA HAz2 P2;go_wp2_with fail;have hlt:w.heap.size<u3.heap.size:=HAz3.out.1.lt;have kT:=HAz3.out.1.cell 2 _ rfl;have kA:=(HAz3.out.1.alloc (.cells #[.int .i64 (K 3/4294967296),.int .i64 (K 3%4294967296)] 56)).cell 2 _ rfl;rw [rounds_succ];go_wp2_with fail
 with_reducible refine (P3.out _ (HAz3.out.2.1.alloc _)).mono ?_
 rintro r u4 ⟨rfl,hB,hbut⟩;have HAz4:Aside (Bl u4 w.heap.size 59 (Bc f c T K)∧Bn u4 g f c J (rsK K f d 4)∧But g w u4):=⟨(HAz3.out.1.alloc _).but hbut (by omega),hB,(HAz3.out.2.2.alloc _).trans hbut⟩;clear hB hbut hlt kT kA HAz3 P3;go_wp2_with fail;have hlt:w.heap.size<u4.heap.size:=HAz4.out.1.lt;have kT:=HAz4.out.1.cell 2 _ rfl;have kA:=(HAz4.out.1.alloc (.cells #[.int .i64 (K 4/4294967296),.int .i64 (K 4%4294967296)] 56)).cell 2 _ rfl;rw [rounds_succ];go_wp2_with fail
 with_reducible refine (P4.out _ (HAz4.out.2.1.alloc _)).mono ?_
 rintro r u5 ⟨rfl,hB,hbut⟩;have HAz5:Aside (Bl u5 w.heap.size 59 (Bc f c T K)∧Bn u5 g f c J (rsK K f d 5)∧But g w u5):=⟨(HAz4.out.1.alloc _).but hbut (by omega),hB,(HAz4.out.2.2.alloc _).trans hbut⟩;clear hB hbut hlt kT kA HAz4 P4;go_wp2_with fail;have hlt:w.heap.size<u5.heap.size:=HAz5.out.1.lt;have kT:=HAz5.out.1.cell 2 _ rfl;have kA:=(HAz5.out.1.alloc (.cells #[.int .i64 (K 5/4294967296),.int .i64 (K 5%4294967296)] 56)).cell 2 _ rfl;rw [rounds_succ];go_wp2_with fail
 with_reducible refine (P5.out _ (HAz5.out.2.1.alloc _)).mono ?_
 rintro r u6 ⟨rfl,hB,hbut⟩;have HAz6:Aside (Bl u6 w.heap.size 59 (Bc f c T K)∧Bn u6 g f c J (rsK K f d 6)∧But g w u6):=⟨(HAz5.out.1.alloc _).but hbut (by omega),hB,(HAz5.out.2.2.alloc _).trans hbut⟩;clear hB hbut hlt kT kA HAz5 P5;go_wp2_with fail;have hlt:w.heap.size<u6.heap.size:=HAz6.out.1.lt;have kT:=HAz6.out.1.cell 2 _ rfl;have kA:=(HAz6.out.1.alloc (.cells #[.int .i64 (K 6/4294967296),.int .i64 (K 6%4294967296)] 56)).cell 2 _ rfl;rw [rounds_succ];go_wp2_with fail
 with_reducible refine (P6.out _ (HAz6.out.2.1.alloc _)).mono ?_
 rintro r u7 ⟨rfl,hB,hbut⟩;have HAz7:Aside (Bl u7 w.heap.size 59 (Bc f c T K)∧Bn u7 g f c J (rsK K f d 7)∧But g w u7):=⟨(HAz6.out.1.alloc _).but hbut (by omega),hB,(HAz6.out.2.2.alloc _).trans hbut⟩;clear hB hbut hlt kT kA HAz6 P6;go_wp2_with fail;have hlt:w.heap.size<u7.heap.size:=HAz7.out.1.lt;have kT:=HAz7.out.1.cell 2 _ rfl;have kA:=(HAz7.out.1.alloc (.cells #[.int .i64 (K 7/4294967296),.int .i64 (K 7%4294967296)] 56)).cell 2 _ rfl;rw [rounds_succ];go_wp2_with fail
 with_reducible refine (P7.out _ (HAz7.out.2.1.alloc _)).mono ?_
 rintro r u8 ⟨rfl,hB,hbut⟩;have HAz8:Aside (Bl u8 w.heap.size 59 (Bc f c T K)∧Bn u8 g f c J (rsK K f d 8)∧But g w u8):=⟨(HAz7.out.1.alloc _).but hbut (by omega),hB,(HAz7.out.2.2.alloc _).trans hbut⟩;clear hB hbut hlt kT kA HAz7 P7;go_wp2_with fail;rw [rounds_succ];go_wp2
 go_end0
 exact ⟨rfl,HAz8.out.2.1,HAz8.out.2.2⟩
theorem rise_any (g:Nat) (f c T J:Int) (K:Nat→Int) (w:World) (hB:Bn w g f c T K) (hf:f≤8) (h1:-100≤T∧T≤1000) (h2:-100≤J∧J≤1000) (hK:∀ i,(K i).natAbs≤2^75) :
 Calls Tryz.prog 37 #[.pointer (some ⟨g,0,none⟩),.int .i64 J] w fun r w'=>r=.returned (.tuple #[])∧((J≤T∧w'=w)∨(T<J∧Bn w' g f c J (rsK K f (J-T).toNat 8)))∧But g w w':=by
 by_cases h:J≤T
 · refine (rise_no g f c T J K w hB h).mono ?_;rintro r w' ⟨rfl,rfl⟩;exact ⟨rfl,.inl ⟨h,rfl⟩,But.refl _ _⟩
 · refine (rise_yes g (J-T).toNat f c T J K w hB (by omega) (by omega) hf h1 h2 hK).mono ?_;rintro r w' ⟨rfl,h3,h4⟩;exact ⟨rfl,.inr ⟨by omega,h3⟩,h4⟩
end
section
open Go Go.RowKit
def Bs (w:World) (g f:Nat) (c T:Int) (D:Int→Int):Prop:=Bn w g f c (T-34) (kf f T D)
theorem Bs.lt {w:World}{g f:Nat}{c T:Int}{D:Int→Int}(h:Bs w g f c T D):g<w.heap.size:=Bl.lt h
theorem Bs.alloc {w:World}{g f:Nat}{c T:Int}{D:Int→Int}(h:Bs w g f c T D) (o:Obj):Bs (w.alloc o) g f c T D:=Bl.alloc h o
theorem Bs.drew {w:World}{g f:Nat}{c T:Int}{D:Int→Int}(h:Bs w g f c T D):Bs w.drew g f c T D:=h
theorem Bs.below {w w':World}{g B f:Nat}{c T:Int}{D:Int→Int}(h:Bs w g f c T D) (hb:Below B w w') (hg:g<B):Bs w' g f c T D:=Bl.below h hb hg
structure Dq (T:Int) (D:Int→Int):Prop where
 top:∀ t,T<t→D t=0
 abs:∀ t,(D t).natAbs≤2^74
 lo:-1≤T
 hi:T≤70
theorem kf_abs {T:Int}{D:Int→Int}(h:Dq T D) (f:Nat) (i:Nat):(kf f T D i).natAbs≤2^75:=by
 unfold kf
 split
 · have:=h.abs (T-i);omega
 · simp
theorem kf_rise {T J:Int}{D:Int→Int}(h:Dq T D) (f:Nat) (hf:f≤8) (hJ:T<J):rsK (kf f T D) f (J-T).toNat 8=kf f J D:=by
 funext k
 unfold rsK kf
 by_cases h1:k<f
 · rw [if_pos h1]
   by_cases h2:(J-T).toNat≤k
   · rw [if_pos (by omega),if_pos (by omega)];congr 1;omega
   · rw [if_neg (by omega),h.top _ (by omega)]
 · rw [if_neg (by omega),if_neg h1]
theorem kf_put (f:Nat) (T j v:Int) (D:Int→Int) (hj:j≤T):putK (kf f T D) f (T-j) v=kf f T (upd D j v):=by
 funext k
 unfold putK kf upd
 by_cases h1:k<f
 · rw [if_pos h1,if_pos h1]
   by_cases h2:(k:Int)=T-j
   · rw [if_pos (by omega),if_pos (by omega)]
   · rw [if_neg (by omega),if_neg (by omega)]
 · rw [if_neg h1,if_neg h1,if_neg (by omega)]
theorem rise_abs (g f:Nat) (c T J:Int) (D:Int→Int) (w:World) (hB:Bs w g f c T D) (hD:Dq T D) (hf:f≤8) (h2:-60≤J∧J≤1000) :
 Calls Tryz.prog 37 #[.pointer (some ⟨g,0,none⟩),.int .i64 (J-34)] w fun r w'=>r=.returned (.tuple #[])∧Bs w' g f c (max T J) D∧But g w w':=by
 refine (rise_any g f c (T-34) (J-34) (kf f T D) w hB (by omega) (by have:=hD.lo;have:=hD.hi;omega) (by omega) (kf_abs hD f)).mono ?_;rintro r w' ⟨rfl,h,hb⟩;refine ⟨rfl,?_,hb⟩;rcases h with ⟨h,rfl⟩|⟨h,h3⟩
 · rw [show max T J=T by omega];exact hB
 · rw [show J-34-(T-34)=J-T by omega,kf_rise hD f hf (by omega)] at h3;rw [show max T J=J by omega];exact h3
theorem put_abs (g f:Nat) (c T j v:Int) (D:Int→Int) (w:World) (hB:Bs w g f c T D) (hD:∀ t,(D t).natAbs≤2^74) (hT:-1≤T∧T≤70) (hf:f≤8) (hj:j≤T) (h2:-60≤j) (hv:v.natAbs≤2^74) :
 Calls Tryz.prog 38 #[.pointer (some ⟨g,0,none⟩),.int .i64 (j-34),.agg #[.int .i64 (v/4294967296),.int .i64 (v%4294967296)]] w fun r w'=>r=.returned (.tuple #[])∧Bs w' g f c T (upd D j v)∧But g w w':=by
 have:=put_any g f c (T-34) (j-34) v (kf f T D) w hB (by omega) (by omega) (by omega) (by omega) (fun i=>by unfold kf;split;(have:=hD (T-i);omega);simp) (by omega);rw [show T-34-(j-34)=T-j by omega,kf_put f T j v D hj] at this;exact this
theorem hand_core (g h:Nat) (j x y:Int) (w:World) (hh:h<w.heap.size) (hg:g<w.heap.size) (hne:h≠g) (hc:w.cell? ⟨h,0,none⟩=some (.pointer (some ⟨g,0,none⟩))) (Q:World→Prop)
 (HR:Hid (∃ R:World→Prop,Calls Tryz.prog 37 #[.pointer (some ⟨g,0,none⟩),.int .i64 j] (w.alloc (.cells #[.int .i64 x,.int .i64 y] 56)) (fun r w'=>r=.returned (.tuple #[])∧R w'∧But g (w.alloc (.cells #[.int .i64 x,.int .i64 y] 56)) w') ∧
  ∀ u,R u→But g (w.alloc (.cells #[.int .i64 x,.int .i64 y] 56)) u→Calls Tryz.prog 38 #[.pointer (some ⟨g,0,none⟩),.int .i64 j,.agg #[.int .i64 x,.int .i64 y]] u fun r w'=>r=.returned (.tuple #[])∧Q w')) :
 Calls Tryz.prog 36 #[.int .i64 j,.agg #[.int .i64 x,.int .i64 y],.pointer (some ⟨h,0,none⟩)] w fun r w'=>r=.returned (.tuple #[])∧Q w':=by
 obtain ⟨R,h1,h2⟩:=HR.out;have H1:=hid h1;have H2:=hid h2;have hB0:Aside (Bl (w.alloc (.cells #[.int .i64 x,.int .i64 y] 56)) w.heap.size 56 [.int .i64 x,.int .i64 y]):=Bl.new w 56 [_,_];have HG:=qsd (ai hh (ai hg (ai hne hc)));clear h1 h2 HR;go_enter Tryz.func36,Tryz.ntmps36;go_wp2_with fail
 with_reducible refine H1.out.mono ?_
 rintro r u ⟨rfl,hR,hbut⟩;have HU:=qsd (ai hR hbut)
 have c0:u.cell? ⟨h,0,none⟩=some (.pointer (some ⟨g,0,none⟩)):=by
  have e1:u.heap[h]?=(w.alloc (.cells #[.int .i64 x,.int .i64 y] 56)).heap[h]?:=hbut.block h (by simp;omega) hne;have e2:(w.alloc (.cells #[.int .i64 x,.int .i64 y] 56)).heap[h]?=w.heap[h]?:=(bel_alloc w _).block h hh;have e3:u.cell? ⟨h,0,none⟩=w.cell? ⟨h,0,none⟩:=by unfold World.cell?;simp only;rw [e1,e2]
  rw [e3];exact hc
 have b1:=hB0.out.but hbut (by omega);have c1:=b1.cell 0 _ rfl;have c2:=b1.cell 1 _ rfl;clear b1 hR hbut hc;go_wp2_with fail
 with_reducible refine (H2.out _ HU.out.1 HU.out.2).mono ?_
 rintro r u2 ⟨rfl,hQ⟩;go_wp2
 go_end0
 exact ⟨rfl,hQ⟩
theorem hand_any (g h f:Nat) (c T j v:Int) (D:Int→Int) (w:World) (hB:Bs w g f c T D) (hD:Dq T D) (hf:f≤8) (hj:-34≤j∧j≤36) (hv:v.natAbs≤2^74) (hh:h<w.heap.size) (hne:h≠g) (hc:w.cell? ⟨h,0,none⟩=some (.pointer (some ⟨g,0,none⟩))) :
 Calls Tryz.prog 36 #[.int .i64 j,.agg #[.int .i64 (v/4294967296),.int .i64 (v%4294967296)],.pointer (some ⟨h,0,none⟩)] w fun r w'=>r=.returned (.tuple #[])∧Bs w' g f c (max T (j+34)) (upd D (j+34) v)∧But g w w':=by
 refine hand_core g h j _ _ w hh hB.lt hne hc (fun w'=>Bs w' g f c (max T (j+34)) (upd D (j+34) v)∧But g w w') (hid ⟨fun u=>Bs u g f c (max T (j+34)) D,?_,?_⟩)
 · have:=rise_abs g f c T (j+34) D _ (hB.alloc (.cells #[.int .i64 (v/4294967296),.int .i64 (v%4294967296)] 56)) hD hf (by omega);rw [show j+34-34=j by omega] at this;exact this
 · intro u hu hb;have:=put_abs g f c (max T (j+34)) (j+34) v D u hu hD.abs (by have:=hD.lo;have:=hD.hi;omega) hf (by omega) (by omega) hv;rw [show j+34-34=j by omega] at this;refine this.mono ?_;rintro r w' ⟨rfl,h1,h2⟩;exact ⟨rfl,h1,(((But.refl g w).alloc _).trans hb).trans h2⟩
def hnd (s:Int×(Int→Int)) (t v:Int):Int×(Int→Int):=if v=0 then s else (max s.1 t,upd s.2 t v)
theorem ss_ne (z:Int) (t:Nat):ss z t≠0↔sl z.natAbs t≠0:=by
 unfold ss;rw [if_neg (by omega),Int.toNat_natCast]
 split <;> omega
theorem hnd_three (T:Int) (D:Int→Int) (z:Int) (t0:Nat) (hT:-1≤T) (hz:∀ t:Int,t<t0∨(t0:Int)+2<t→ss z t=0) :
 hnd (hnd (hnd (T,D) ((t0:Int)+2) (ss z ((t0:Int)+2))) ((t0:Int)+1) (ss z ((t0:Int)+1))) t0 (ss z t0)=(max T (tp z.natAbs),fun t=>D t+ss z t):=by
 have hs:∀ u:Nat,t0+2<u→sl z.natAbs u=0:=fun u hu=>by
  have:=hz u (.inr (by omega));rcases Nat.eq_zero_or_pos (sl z.natAbs u) with q|q
  · exact q
  · exact absurd this ((ss_ne z u).2 (by omega))
 have hs0:∀ u:Nat,u<t0→sl z.natAbs u=0:=fun u hu=>by
  have:=hz u (.inl (by omega));rcases Nat.eq_zero_or_pos (sl z.natAbs u) with q|q
  · exact q
  · exact absurd this ((ss_ne z u).2 (by omega))
 have e2:((t0:Int)+2)=((t0+2:Nat):Int):=by omega
 have e1:((t0:Int)+1)=((t0+1:Nat):Int):=by omega
 have hno:∀ u:Nat,¬ sl z.natAbs u≠0→sl z.natAbs u=0:=fun u q=>by omega
 have key:tp z.natAbs=if ss z ((t0:Int)+2)≠0 then ((t0:Int)+2) else if ss z ((t0:Int)+1)≠0 then ((t0:Int)+1) else if ss z (t0:Int)≠0 then (t0:Int) else -1:=by
  by_cases q2:ss z ((t0:Int)+2)≠0
  · rw [if_pos q2,e2];rw [e2] at q2;exact tp_iff _ _ ((ss_ne z _).1 q2) (fun u hu=>hs u hu)
  · rw [if_neg q2];have z2:sl z.natAbs (t0+2)=0:=hno _ (fun q=>q2 (by rw [e2];exact (ss_ne z _).2 q))
    by_cases q1:ss z ((t0:Int)+1)≠0
    · rw [if_pos q1,e1];rw [e1] at q1;refine tp_iff _ _ ((ss_ne z _).1 q1) (fun u hu=>?_)
      by_cases q:u=t0+2
      · rw [q];exact z2
      · exact hs u (by omega)
    · rw [if_neg q1];have z1:sl z.natAbs (t0+1)=0:=hno _ (fun q=>q1 (by rw [e1];exact (ss_ne z _).2 q))
      by_cases q0:ss z (t0:Int)≠0
      · rw [if_pos q0];refine tp_iff _ _ ((ss_ne z _).1 q0) (fun u hu=>?_)
        by_cases q:u=t0+2
        · rw [q];exact z2
        · by_cases q':u=t0+1
          · rw [q'];exact z1
          · exact hs u (by omega)
      · rw [if_neg q0];have z0:sl z.natAbs t0=0:=hno _ (fun q=>q0 ((ss_ne z _).2 q))
        have hall:∀ u,sl z.natAbs u=0:=fun u=>by
         by_cases q:u=t0+2
         · rw [q];exact z2
         · by_cases q':u=t0+1
           · rw [q'];exact z1
           · by_cases q'':u=t0
             · rw [q''];exact z0
             · rcases Nat.lt_or_ge u t0 with q3 | q3
               · exact hs0 u q3
               · exact hs u (by omega)
        have:=tp_ge z.natAbs
        by_cases q3:tp z.natAbs=-1
        · exact q3
        · obtain ⟨u,hu⟩:∃ u:Nat,tp z.natAbs=u:=⟨(tp z.natAbs).toNat,by omega⟩;exact absurd (hall u) (sl_top _ u hu)
 refine Prod.ext ?_ ?_
 · rw [key];unfold hnd
   by_cases q2:ss z ((t0:Int)+2)=0
   · by_cases q1:ss z ((t0:Int)+1)=0
     · by_cases q0:ss z (t0:Int)=0
       · simp only [q2,q1,q0,if_true,ne_eq,not_true_eq_false,if_false];omega
       · simp only [q2,q1,q0,if_true,ne_eq,not_true_eq_false,if_false,not_false_eq_true]
     · by_cases q0:ss z (t0:Int)=0
       · simp only [q2,q1,q0,if_true,ne_eq,not_true_eq_false,if_false,not_false_eq_true]
       · simp only [q2,q1,q0,if_true,ne_eq,not_true_eq_false,if_false,not_false_eq_true];omega
   · by_cases q1:ss z ((t0:Int)+1)=0
     · by_cases q0:ss z (t0:Int)=0
       · simp only [q2,q1,q0,if_true,ne_eq,not_true_eq_false,if_false,not_false_eq_true]
       · simp only [q2,q1,q0,if_true,ne_eq,not_true_eq_false,if_false,not_false_eq_true];omega
     · by_cases q0:ss z (t0:Int)=0
       · simp only [q2,q1,q0,if_true,ne_eq,not_true_eq_false,if_false,not_false_eq_true];omega
       · simp only [q2,q1,q0,if_true,ne_eq,not_true_eq_false,if_false,not_false_eq_true];omega
 · have hu:∀ (s:Int×(Int→Int)) (t v:Int),(hnd s t v).2=fun u=>if u=t then s.2 u+v else s.2 u:=by
    intro s t v;unfold hnd
    split
    · rename_i q;rw [q];funext u;split <;> simp
    · rfl
   rw [hu,hu,hu]
   funext t
   dsimp only
   by_cases a0:t=t0
   · subst a0;rw [if_pos rfl,if_neg (by omega),if_neg (by omega)]
   · rw [if_neg a0]
     by_cases a1:t=(t0:Int)+1
     · subst a1;rw [if_pos rfl,if_neg (by omega)]
     · rw [if_neg a1]
       by_cases a2:t=(t0:Int)+2
       · subst a2;rw [if_pos rfl]
       · rw [if_neg a2,hz t (by omega),Int.add_zero]
end
end Go.Proofs.YtepkabljmpbmaaaGreatDoor
