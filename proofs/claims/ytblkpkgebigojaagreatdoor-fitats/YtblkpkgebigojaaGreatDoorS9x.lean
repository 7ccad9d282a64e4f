import Derived.Test.YtblkpkgebigojaaGreatDoorS7x
import Derived.Test.YtblkpkgebigojaaGreatDoorW13x
import Derived.Test.YtblkpkgebigojaaGreatDoorW17x
import Derived.Test.YtblkpkgebigojaaGreatDoorW45x
import Derived.Deep.RegionHeld
import Derived.Laws.BitsAllLaws
import Derived.WalkLawsBesides
import Derived.Deep.RegionWith
import Derived.Laws.StructEq
set_option linter.unusedVariables false
set_option linter.unusedSimpArgs false
set_option maxHeartbeats 16000000
set_option maxRecDepth 20000
namespace Go.Proofs.YtblkpkgebigojaaGreatDoor
section
open Go.RowKit
def SplitIs (x:Nat) (n:Bool) (c e:Int) (f:Nat):Prop:=∀ w:World,Calls Tryz.prog 84 #[.float .f64 x] w fun r w'=>r=.returned (.agg #[.bool n,.int .i64 c,.int .i64 e,.int .u64 (f:Nat)])∧Below w.heap.size w w'
def Th (lo:Nat) (w:World) (v:Value) (k:Nat) (T:Int):Prop :=
 ∃ ng a n c p xs,(∀ ad:Addr,a=some ad→lo≤ad.block)∧v=.agg #[.int .i64 (k:Nat),.bool ng,.slice a n c,.int .i64 ((p:Nat):Int)]∧Arg w a n c xs∧p+32*n≤4256∧Ym ng (val xs*2^p)=T
theorem Th.plain (lo:Nat) (w:World) (k:Nat):Th lo w (.agg #[.int .i64 (k:Nat),.bool false,.slice none 0 0,.int .i64 0]) k 0 :=
 ⟨false,none,0,0,0,[],fun _ e=>(by cases e),rfl,⟨rfl,Nat.le_refl _,by decide,Wf.nil,Rd.nil _ _ _,fun _=>rfl⟩,by decide,by simp [Ym,val]⟩
theorem Zhb {w:World}{g T:Nat}{a b c d v0 v1 v2 v3:Value}(h:Bl w g T [a,b,c,d]):Bl ((((w.setCell ⟨g,0,none⟩ v0).setCell ⟨g,1,none⟩ v1).setCell ⟨g,2,none⟩ v2).setCell ⟨g,3,none⟩ v3) g T [v0,v1,v2,v3] :=
 (((h.set 0 v0).set 1 v1).set 2 v2).set 3 v3
theorem Nt.but7 {lo g:Nat}{w w':World}{v:Value}{X:Nat}(h:Nt lo w v X) (hb:But g w w') (hg:g<lo):Nt lo w' v X:=by
 refine ⟨h.1,?_⟩
 rcases h.2 with hn|⟨g',cap,cur,rfl,hlo,hgc,rest⟩
 · exact .inl hn
 · exact .inr ⟨g',cap,cur,rfl,hlo,(hb.block g' (Array.getElem?_eq_some_iff.1 hgc).1 (by omega)).trans hgc,rest⟩
theorem Zs7 {w:World}{v1 v2:Value}{X Y V lo1 lo2:Nat}(N1:Nt lo1 w v1 X) (N2:Nt lo2 w v2 Y) (s1:(ws X).length≤1000) (s2:(ws Y).length≤1000) (e:mulS X Y=(V,0)) :
 Calls Tryz.prog 132 #[v1,v2] w fun r w'=>∃ v,r=.returned (.tuple #[v,.int .i64 0])∧Nt w.heap.size w' v V∧Below w.heap.size w w':=by
 obtain ⟨a,c,rfl,A1⟩:=N1.arg (by omega)
 obtain ⟨b,d,rfl,A2⟩:=N2.arg (by omega)
 exact Zjt A1 A2 (by rw [Zc,Zc];exact e)
theorem Bl.four {w:World}{g T:Nat}{a b c d:Value}(h:Bl w g T [a,b,c,d]):w.cell? ⟨g,0,none⟩=some a∧w.cell? ⟨g,1,none⟩=some b∧w.cell? ⟨g,2,none⟩=some c∧w.cell? ⟨g,3,none⟩=some d :=
 ⟨h.cell 0 _ rfl,h.cell 1 _ rfl,h.cell 2 _ rfl,h.cell 3 _ rfl⟩
theorem Qs {B:Nat}{a w:World}{g:Nat}{v0 v1 v2 v3:Value}(h:Below B a w) (hB:B≤w.heap.size) (hg:B≤g):Below B a ((((w.setCell ⟨g,0,none⟩ v0).setCell ⟨g,1,none⟩ v1).setCell ⟨g,2,none⟩ v2).setCell ⟨g,3,none⟩ v3) :=
 But.below h (((((But.refl g w).set 0 v0).set 1 v1).set 2 v2).set 3 v3) hB hg
theorem Zh7 (f1 f2:Nat) (hf1:f1<9007199254740992) (hf2:f2<9007199254740992):mulS f1 f2=(f1*f2,0)∧(ws (f1*f2)).length≤4:=by
 have h1:f1*f2<pw 4:=by
  have:f1*f2≤9007199254740992*9007199254740992:=Nat.mul_le_mul (by omega) (by omega)
  have e:pw 4=340282366920938463463374607431768211456:=by decide
  omega
 have e4:pw 2=18446744073709551616:=by decide
 have g1:=Yp f1 2 (by omega)
 have g2:=Yp f2 2 (by omega)
 have g3:=Yp (f1*f2) 4 h1;refine ⟨?_,(Zf _ _).2 h1⟩;unfold mulS;rw [if_neg (by rw [Js,Js];omega),if_neg (by rw [Js];omega)]
def pk (hi lo:Int) (ng:Bool):Nat:=if hi=4∨hi=3∧lo=0 then 1 else if hi=3 then (if ng then 3 else 2) else if lo=0 then (if ng then 4 else 5) else 0
def pv7 (hi lo:Int) (ng:Bool) (f1 f2:Nat) (e:Int):Int:=if pk hi lo ng=0 then Ym ng (f1*f2*2^(e+2148).toNat) else 0
theorem Zai {hi lo:Int}{ng:Bool}{f1 f2:Nat}{e:Int}(h:pk hi lo ng≠0):pv7 hi lo ng f1 f2 e=0:=by unfold pv7;rw [if_neg h]
theorem Zjg {hi lo:Int}{ng:Bool}{f1 f2:Nat}{e:Int}(h:pk hi lo ng=0):pv7 hi lo ng f1 f2 e=Ym ng (f1*f2*2^(e+2148).toNat):=by unfold pv7;rw [if_pos h]
theorem Zfx (x y:Nat) (n1 n2:Bool) (c1 c2 x1 x2:Int) (f1 f2:Nat) (w:World) (H1:SplitIs x n1 c1 x1 f1) (H2:SplitIs y n2 c2 x2 f2)
 (hx1:-1074≤x1∧x1≤971) (hx2:-1074≤x2∧x2≤971) (hf1:f1<9007199254740992) (hf2:f2<9007199254740992) :
 Calls Tryz.prog 140 #[.float .f64 x,.float .f64 y] w fun r w'=>∃ v,r=.returned v ∧
  Th w.heap.size w' v (pk (max c1 c2) (min c1 c2) (!n1==n2)) (pv7 (max c1 c2) (min c1 c2) (!n1==n2) f1 f2 (x1+x2))∧Below w.heap.size w w':=by
 have H1:=hid H1;have H2:=hid H2;go_enter Tryz.func140,Tryz.ntmps140
 go_wp2_with fail
 refine Calls.mono (H1.out _) ?_;rintro r w1 ⟨rfl,hb1⟩;have B1:=qsd hb1;clear hb1
 go_wp2_with fail
 refine Calls.mono (H2.out _) ?_;rintro r w2 ⟨rfl,hb2⟩;have B2:=qsd hb2;clear hb2;go_wp2
 go_region
 obtain ⟨w4,hw4⟩:∃ w4,w4=((w2.alloc (Obj.cells #[Value.bool n1,Value.int IntKind.i64 c1,Value.int IntKind.i64 x1,Value.int IntKind.u64 (f1:Nat)] 104)).alloc (Obj.cells #[Value.bool n2,Value.int IntKind.i64 c2,Value.int IntKind.i64 x2,Value.int IntKind.u64 (f2:Nat)] 104)).drew:=⟨_,rfl⟩;rw [←hw4]
 have H4:Aside (Bl w4 w.heap.size 166 [Value.int .i64 0,Value.bool false,Value.slice none 0 0,Value.int .i64 0]∧Bl w4 w2.heap.size 104 [Value.bool n1,Value.int IntKind.i64 c1,Value.int IntKind.i64 x1,Value.int IntKind.u64 (f1:Nat)]∧Bl w4 (w2.heap.size+1) 104 [Value.bool n2,Value.int IntKind.i64 c2,Value.int IntKind.i64 x2,Value.int IntKind.u64 (f2:Nat)]∧Below w.heap.size w w4∧w.heap.size<w2.heap.size∧w4.heap.size=w2.heap.size+2):=by
  subst hw4;have z0:=Bl.new w 166 [Value.int .i64 0,Value.bool false,Value.slice none 0 0,Value.int .i64 0];have s0:w.heap.size<w1.heap.size:=by have:=B1.out.size;simp at this;omega
  have z1:=z0.below B1.out (by simp)
  have z2:=z1.below B2.out s0;have s2:=B2.out.size;refine ⟨((z2.alloc _).alloc _).drew,((Bl.new w2 104 [_,_,_,_]).alloc _).drew,(Bl.new' _ 104 _ [_,_,_,_] (by simp)).drew,?_,by omega,by simp⟩
  refine Below.drew ?_;refine ((((Zd w _).trans (B1.out.mono (by simp))).trans (B2.out.mono (by omega))).trans ((Zd _ _).mono (by omega))).trans ((Zd _ _).mono (by simp;omega))
 clear hw4;obtain ⟨ng,hng⟩:∃ ng,ng=(!n1==n2):=⟨_,rfl⟩;obtain ⟨hi,hhi⟩:∃ hi,hi=max c1 c2:=⟨_,rfl⟩;obtain ⟨lo,hlo⟩:∃ lo,lo=min c1 c2:=⟨_,rfl⟩;rw [←hng,←hhi,←hlo];have HG:Aside (ng=(!n1==n2)∧hi=max c1 c2∧lo=min c1 c2):=⟨hng,hhi,hlo⟩;clear hng hhi hlo;have hne:w.heap.size≠w2.heap.size:=Nat.ne_of_lt H4.out.2.2.2.2.1;have hne2:w.heap.size≠w2.heap.size+1:=by have:=H4.out.2.2.2.2.1;omega
 have z0:=H4.out.1.cell 0 _ rfl;have z1:=H4.out.1.cell 1 _ rfl;have z2:=H4.out.1.cell 2 _ rfl;have z3:=H4.out.1.cell 3 _ rfl;have g0:=H4.out.1.frozen 0;have g1:=H4.out.1.frozen 1;have g2:=H4.out.1.frozen 2;have g3:=H4.out.1.frozen 3
 by_cases hodd:hi=4
 · subst hodd
   go_wp2;obtain ⟨w5,hw5⟩:∃ w5,w5=((((w4.setCell ⟨w.heap.size,0,none⟩ (.int .i64 1)).setCell ⟨w.heap.size,1,none⟩ (.bool false)).setCell ⟨w.heap.size,2,none⟩ (.slice none 0 0)).setCell ⟨w.heap.size,3,none⟩ (.int .i64 0)):=⟨_,rfl⟩;rw [←hw5];have q:Bl w5 w.heap.size 166 [.int .i64 1,.bool false,.slice none 0 0,.int .i64 0]:=by rw [hw5];exact Zhb H4.out.1
   have qb:Below w.heap.size w w5:=by rw [hw5];exact Qs H4.out.2.2.2.1 H4.out.2.2.2.1.size (Nat.le_refl _)
   skip
   clear hw5;obtain ⟨q0,q1,q2,q3⟩:=q.four;refine bodyPost_ret (v:=.agg #[.int .i64 1,.bool false,.slice none 0 0,.int .i64 0]) (by simp [results,Tryz.results140,go_sem,q0,q1,q2,q3]) rfl ?_
   rw [←HG.out.1,←HG.out.2.1,←HG.out.2.2];have hk:pk 4 lo ng=1:=by unfold pk;rw [if_pos (Or.inl rfl)]
   rw [Zai (by rw [hk];decide),hk]
   exact ⟨_,rfl,Th.plain _ _ _,qb⟩
 by_cases hinf:hi=3
 · subst hinf
   by_cases hz:lo=0
   · subst hz
     go_wp2;obtain ⟨w5,hw5⟩:∃ w5,w5=((((w4.setCell ⟨w.heap.size,0,none⟩ (.int .i64 1)).setCell ⟨w.heap.size,1,none⟩ (.bool false)).setCell ⟨w.heap.size,2,none⟩ (.slice none 0 0)).setCell ⟨w.heap.size,3,none⟩ (.int .i64 0)):=⟨_,rfl⟩;rw [←hw5];have q:Bl w5 w.heap.size 166 [.int .i64 1,.bool false,.slice none 0 0,.int .i64 0]:=by rw [hw5];exact Zhb H4.out.1
     have qb:Below w.heap.size w w5:=by rw [hw5];exact Qs H4.out.2.2.2.1 H4.out.2.2.2.1.size (Nat.le_refl _)
     skip
     clear hw5;obtain ⟨q0,q1,q2,q3⟩:=q.four;refine bodyPost_ret (v:=.agg #[.int .i64 1,.bool false,.slice none 0 0,.int .i64 0]) (by simp [results,Tryz.results140,go_sem,q0,q1,q2,q3]) rfl ?_
     rw [←HG.out.1,←HG.out.2.1,←HG.out.2.2];have hk:pk 3 0 ng=1:=by unfold pk;rw [if_pos (Or.inr ⟨rfl,rfl⟩)]
     rw [Zai (by rw [hk];decide),hk]
     exact ⟨_,rfl,Th.plain _ _ _,qb⟩
   · have hz':(lo==0)=false:=by simpa using hz
     cases ng
     · go_wp2_with (go_at_call 186;refine (Y9 _ _ _ _).mono ?_;rintro r u ⟨rfl,rfl⟩)
       obtain ⟨w5,hw5⟩:∃ w5,w5=((((u.setCell ⟨w.heap.size,0,none⟩ (.int .i64 2)).setCell ⟨w.heap.size,1,none⟩ (.bool false)).setCell ⟨w.heap.size,2,none⟩ (.slice none 0 0)).setCell ⟨w.heap.size,3,none⟩ (.int .i64 0)):=⟨_,rfl⟩;rw [←hw5];have q:Bl w5 w.heap.size 166 [.int .i64 2,.bool false,.slice none 0 0,.int .i64 0]:=by rw [hw5];exact Zhb H4.out.1
       have qb:Below w.heap.size w w5:=by rw [hw5];exact Qs H4.out.2.2.2.1 H4.out.2.2.2.1.size (Nat.le_refl _)
       skip
       clear hw5;obtain ⟨q0,q1,q2,q3⟩:=q.four;refine bodyPost_ret (v:=.agg #[.int .i64 2,.bool false,.slice none 0 0,.int .i64 0]) (by simp [results,Tryz.results140,go_sem,q0,q1,q2,q3]) rfl ?_
       rw [←HG.out.1,←HG.out.2.1,←HG.out.2.2];have hk:pk 3 lo false=2:=by unfold pk;rw [if_neg (by omega),if_pos rfl];rfl
       rw [Zai (by rw [hk];decide),hk]
       exact ⟨_,rfl,Th.plain _ _ _,qb⟩
     · go_wp2_with (go_at_call 186;refine (Y9 _ _ _ _).mono ?_;rintro r u ⟨rfl,rfl⟩)
       obtain ⟨w5,hw5⟩:∃ w5,w5=((((u.setCell ⟨w.heap.size,0,none⟩ (.int .i64 3)).setCell ⟨w.heap.size,1,none⟩ (.bool false)).setCell ⟨w.heap.size,2,none⟩ (.slice none 0 0)).setCell ⟨w.heap.size,3,none⟩ (.int .i64 0)):=⟨_,rfl⟩;rw [←hw5];have q:Bl w5 w.heap.size 166 [.int .i64 3,.bool false,.slice none 0 0,.int .i64 0]:=by rw [hw5];exact Zhb H4.out.1
       have qb:Below w.heap.size w w5:=by rw [hw5];exact Qs H4.out.2.2.2.1 H4.out.2.2.2.1.size (Nat.le_refl _)
       skip
       clear hw5;obtain ⟨q0,q1,q2,q3⟩:=q.four;refine bodyPost_ret (v:=.agg #[.int .i64 3,.bool false,.slice none 0 0,.int .i64 0]) (by simp [results,Tryz.results140,go_sem,q0,q1,q2,q3]) rfl ?_
       rw [←HG.out.1,←HG.out.2.1,←HG.out.2.2];have hk:pk 3 lo true=3:=by unfold pk;rw [if_neg (by omega),if_pos rfl];rfl
       rw [Zai (by rw [hk];decide),hk]
       exact ⟨_,rfl,Th.plain _ _ _,qb⟩
 have ho':(hi==4)=false:=by simpa using hodd
 have hi':(hi==3)=false:=by simpa using hinf
 by_cases hz:lo=0
 · subst hz
   cases ng
   · go_wp2_with (go_at_call 186;refine (Y9 _ _ _ _).mono ?_;rintro r u ⟨rfl,rfl⟩)
     obtain ⟨w5,hw5⟩:∃ w5,w5=((((u.setCell ⟨w.heap.size,0,none⟩ (.int .i64 5)).setCell ⟨w.heap.size,1,none⟩ (.bool false)).setCell ⟨w.heap.size,2,none⟩ (.slice none 0 0)).setCell ⟨w.heap.size,3,none⟩ (.int .i64 0)):=⟨_,rfl⟩;rw [←hw5];have q:Bl w5 w.heap.size 166 [.int .i64 5,.bool false,.slice none 0 0,.int .i64 0]:=by rw [hw5];exact Zhb H4.out.1
     have qb:Below w.heap.size w w5:=by rw [hw5];exact Qs H4.out.2.2.2.1 H4.out.2.2.2.1.size (Nat.le_refl _)
     skip
     clear hw5;obtain ⟨q0,q1,q2,q3⟩:=q.four;refine bodyPost_ret (v:=.agg #[.int .i64 5,.bool false,.slice none 0 0,.int .i64 0]) (by simp [results,Tryz.results140,go_sem,q0,q1,q2,q3]) rfl ?_
     rw [←HG.out.1,←HG.out.2.1,←HG.out.2.2];have hk:pk hi 0 false=5:=by unfold pk;rw [if_neg (by omega),if_neg (by omega),if_pos rfl];rfl
     rw [Zai (by rw [hk];decide),hk]
     exact ⟨_,rfl,Th.plain _ _ _,qb⟩
   · go_wp2_with (go_at_call 186;refine (Y9 _ _ _ _).mono ?_;rintro r u ⟨rfl,rfl⟩)
     obtain ⟨w5,hw5⟩:∃ w5,w5=((((u.setCell ⟨w.heap.size,0,none⟩ (.int .i64 4)).setCell ⟨w.heap.size,1,none⟩ (.bool false)).setCell ⟨w.heap.size,2,none⟩ (.slice none 0 0)).setCell ⟨w.heap.size,3,none⟩ (.int .i64 0)):=⟨_,rfl⟩;rw [←hw5];have q:Bl w5 w.heap.size 166 [.int .i64 4,.bool false,.slice none 0 0,.int .i64 0]:=by rw [hw5];exact Zhb H4.out.1
     have qb:Below w.heap.size w w5:=by rw [hw5];exact Qs H4.out.2.2.2.1 H4.out.2.2.2.1.size (Nat.le_refl _)
     skip
     clear hw5;obtain ⟨q0,q1,q2,q3⟩:=q.four;refine bodyPost_ret (v:=.agg #[.int .i64 4,.bool false,.slice none 0 0,.int .i64 0]) (by simp [results,Tryz.results140,go_sem,q0,q1,q2,q3]) rfl ?_
     rw [←HG.out.1,←HG.out.2.1,←HG.out.2.2];have hk:pk hi 0 true=4:=by unfold pk;rw [if_neg (by omega),if_neg (by omega),if_pos rfl];rfl
     rw [Zai (by rw [hk];decide),hk]
     exact ⟨_,rfl,Th.plain _ _ _,qb⟩
 have hz':(lo==0)=false:=by simpa using hz
 have hk0:pk hi lo ng=0:=by unfold pk;rw [if_neg (by omega),if_neg (by omega),if_neg (by omega)]
 have HK:=qsd hk0;clear hk0;have kS:Aside (w4.drew.cell? ⟨w2.heap.size,3,none⟩=some (.int .u64 (f1:Nat))∧w4.drew.cell? ⟨w2.heap.size+1,3,none⟩=some (.int .u64 (f2:Nat))):=⟨H4.out.2.1.drew.four.2.2.2,H4.out.2.2.1.drew.four.2.2.2⟩;have BB:Aside (Below w4.heap.size w4 w4.drew):=(Below.refl _ _).drew;have O1:=hid (fun u:World=>Jd f1 u (by omega))
 have O2:=hid (fun u:World=>Jd f2 u (by omega))
 have MS:=qsd (Zh7 f1 f2 hf1 hf2)
 have hpw2:Aside ((ws f1).length≤1000∧(ws f2).length≤1000):=by
  have e:pw 2=18446744073709551616:=by decide
  exact ⟨Nat.le_trans ((Zf f1 2).2 (by omega)) (by decide),Nat.le_trans ((Zf f2 2).2 (by omega)) (by decide)⟩
 clear hodd hinf hz z0 z1 z2 z3 g0 g1 g2 g3;go_wp2
 go_region_held (fun w'=>w'.cell? ⟨w2.heap.size,3,none⟩=some (.int .u64 (f1:Nat))∧w'.cell? ⟨w2.heap.size+1,3,none⟩=some (.int .u64 (f2:Nat))) (with_reducible exact kS.out) (first
  | (go_at_call 87
     with_reducible refine (O1.out _).mono ?_
     rintro r u ⟨v1,rfl,N1,hb⟩
     try have N2:=qsd (N2.out.below hb)
     have BB:=qsd (BB.out.trans (hb.mono BB.out.size));have kS:=qsd (ai (H4.out.2.1.below BB.out (by have:=H4.out.2.2.2.2.2;omega)).four.2.2.2 (H4.out.2.2.1.below BB.out (by have:=H4.out.2.2.2.2.2;omega)).four.2.2.2)
     have N1:=qsd N1;clear hb)
  | (go_at_call 87
     with_reducible refine (O2.out _).mono ?_
     rintro r u ⟨v2,rfl,N2,hb⟩
     try have N1:=qsd (N1.out.below hb)
     have BB:=qsd (BB.out.trans (hb.mono BB.out.size));have kS:=qsd (ai (H4.out.2.1.below BB.out (by have:=H4.out.2.2.2.2.2;omega)).four.2.2.2 (H4.out.2.2.1.below BB.out (by have:=H4.out.2.2.2.2.2;omega)).four.2.2.2)
     have N2:=qsd N2;clear hb)
  | (go_at_call 132
     with_reducible refine (Zs7 N1.out N2.out hpw2.out.1 hpw2.out.2 MS.out.1).mono ?_
     rintro r u ⟨v,rfl,NV,hb⟩;have NV:=qsd (ai NV BB.out.size);have BB:=qsd (BB.out.trans (hb.mono BB.out.size));have kS:=qsd (ai (H4.out.2.1.below BB.out (by have:=H4.out.2.2.2.2.2;omega)).four.2.2.2 (H4.out.2.2.1.below BB.out (by have:=H4.out.2.2.2.2.2;omega)).four.2.2.2)
     clear hb))
 all_goals (
  obtain ⟨a,c,rfl,_⟩:=NV.out.1.arg (Nat.le_trans MS.out.2 (by decide))
  have Z:=qsd (H4.out.1.below BB.out (by have:=H4.out.2.2.2.2.1;have:=H4.out.2.2.2.2.2;omega))
  obtain ⟨z0,z1,z2,z3⟩:=Z.out.four;have g0:=Z.out.frozen 0;have g1:=Z.out.frozen 1;have g2:=Z.out.frozen 2;have g3:=Z.out.frozen 3;have p2:=(H4.out.2.1.below BB.out (by have:=H4.out.2.2.2.2.2;omega)).four.2.2.1
  have r2:=(H4.out.2.2.1.below BB.out (by have:=H4.out.2.2.2.2.2;omega)).four.2.2.1
  have BW:=qsd (H4.out.2.2.2.1.trans (BB.out.mono H4.out.2.2.2.1.size));clear kS BB N1 N2;go_wp2;obtain ⟨w5,hw5⟩:∃ w5,w5=((((u.setCell ⟨w.heap.size,0,none⟩ (.int .i64 0)).setCell ⟨w.heap.size,1,none⟩ (.bool ng)).setCell ⟨w.heap.size,2,none⟩ (.slice a (ws (f1*f2)).length c)).setCell ⟨w.heap.size,3,none⟩ (.int .i64 (x1+x2+2148))):=⟨_,rfl⟩;rw [←hw5];have q:Bl w5 w.heap.size 166 [.int .i64 0,.bool ng,.slice a (ws (f1*f2)).length c,.int .i64 (x1+x2+2148)]:=by rw [hw5];exact Zhb Z.out
  have qb:Below w.heap.size w w5:=by rw [hw5];exact Qs BW.out BW.out.size (Nat.le_refl _)
  have qn:=NV.out.1.but7 (w':=w5) (g:=w.heap.size) (by rw [hw5];exact ((((But.refl _ u).set 0 _).set 1 _).set 2 _).set 3 _) (by have:=NV.out.2;have:=H4.out.2.2.2.2.1;have:=H4.out.2.2.2.2.2;omega)
  clear hw5;obtain ⟨q0,q1,q2,q3⟩:=q.four;refine bodyPost_ret (v:=.agg #[.int .i64 0,.bool ng,.slice a (ws (f1*f2)).length c,.int .i64 (x1+x2+2148)]) (by simp [results,Tryz.results140,go_sem,q0,q1,q2,q3]) rfl ?_
  rw [←HG.out.1,←HG.out.2.1,←HG.out.2.2,Zjg HK.out,HK.out];obtain ⟨a',c',e,AV⟩:=qn.arg (Nat.le_trans MS.out.2 (by decide))
  cases e
  refine ⟨_,rfl,⟨ng,a,_,c,(x1+x2+2148).toNat,ws (f1*f2),fun ad e=>?_,?_,AV,?_,?_⟩,qb⟩
  · subst e
    have h1:=(qn.lt ad.block rfl).1;have:=NV.out.2;have:=H4.out.2.2.2.2.1;have:=H4.out.2.2.2.2.2;omega
  · rw [Int.toNat_of_nonneg (by omega)];rfl
  · have:=MS.out.2
    omega
  · rw [Zc])
theorem splitIs (s:Bool) (e f:Nat) (he:e<2048) (hf:f<4503599627370496):SplitIs (B.bw s e f) (B.ng s e f) (B.cls e f) (B.xp e) (B.fr e f).toNat:=fun w =>
 (B.Split_any s e f he hf w).mono fun r w' ⟨h1,h2⟩=>⟨by rw [h1,Int.toNat_of_nonneg];unfold B.fr;split <;> (try split) <;> omega,h2⟩
theorem Yx (e:Nat) (he:e<2048):-1074≤B.xp e∧B.xp e≤971:=by unfold B.xp;split <;> (try split) <;> omega
theorem Yy (e f:Nat) (hf:f<4503599627370496):(B.fr e f).toNat<9007199254740992:=by unfold B.fr;split <;> (try split) <;> omega
def Acc7 (w:World) (g:Nat) (V:Int) (s:Sp):Prop:=∃ L:List Nat,L.length=133∧Wf L∧(val L:Int)=V%(PB:Int)∧-(HB:Int)<V∧V<(HB:Int)∧Ac w g L s
theorem Acc7.lt {w:World}{g:Nat}{V:Int}{s:Sp}(h:Acc7 w g V s):g<w.heap.size:=by obtain ⟨L,_,_,_,_,_,h⟩:=h;exact h.lt
theorem Acc7.below {w w':World}{g B:Nat}{V:Int}{s:Sp}(h:Acc7 w g V s) (hb:Below B w w') (hg:g<B):Acc7 w' g V s:=by
 obtain ⟨L,h1,h2,h3,h4,h5,h6⟩:=h;exact ⟨L,h1,h2,h3,h4,h5,h6.below hb hg⟩
theorem Acc7.bel {w w':World}{g:Nat}{V:Int}{s:Sp}(h:Acc7 w g V s) (hb:Below w.heap.size w w'):Acc7 w' g V s:=h.below hb h.lt
theorem Zsc:PB=262144*HB:=by rw [Zfb,Zpe];omega
theorem Zqp (N:Nat) (V:Int) (h:(N:Int)=V%(PB:Int)) (h0:-(2*HB:Int)<V) (h1:V<2*(HB:Int)):bey N=!(decide (-(HB:Int)<V∧V<(HB:Int))):=by
 have e:=Zsc;have hp:=Zbi;unfold bey
 by_cases hv:0≤V
 · rw [Int.emod_eq_of_lt hv (by omega)] at h
   by_cases hc:V<(HB:Int)
   · rw [decide_eq_false (by omega),decide_eq_true (by omega)];rfl
   · rw [decide_eq_true (by omega),decide_eq_false (by omega)];rfl
 · have h2:V%(PB:Int)=V+PB:=by
    rw [←Int.add_emod_right,Int.emod_eq_of_lt (by omega) (by omega)]
   rw [h2] at h
   by_cases hc:-(HB:Int)<V
   · rw [decide_eq_false (by omega),decide_eq_true (by omega)];rfl
   · rw [decide_eq_true (by omega),decide_eq_false (by omega)];rfl
def Did (g:Nat) (w:World) (X:Int×Int×Sp) (r:Ending) (w':World):Prop:=r=.returned (.int .i64 X.1)∧Acc7 w' g X.2.1 X.2.2∧But g w w'
def Zeb (V:Int) (s:Sp) (T:Int) (t:Sp):Int×Int×Sp:=if -(HB:Int)<V+T∧V+T<(HB:Int) then (0,V+T,t) else (2,V,s)
def putS (V:Int) (s:Sp) (k:Nat) (T:Int):Int×Int×Sp:=if s.a=1099511627776 then (2,V,s) else Zeb V s T (s.cnt k 1)
theorem Zh8 (g:Nat) (L M:List Nat) (V T:Int) (s t:Sp) (w:World) (hA:Ac w g L s) (hl:L.length=133) (hL:Wf L) (hv:(val L:Int)=V%(PB:Int)) (h0:-(HB:Int)<V) (h1:V<(HB:Int)) (hM:Wf M) (hm:M.length=133)
 (hvM:(val M:Int)=(V+T)%(PB:Int)) (hT0:-(HB:Int)<T) (hT1:T<(HB:Int)) :
 Calls Tryz.prog 183 #[.pointer (some ⟨g,0,none⟩),.agg (M.map U).toArray,t.agg] w (Did g w (Zeb V s T t)):=by
 have hb:=Zqp (val M) (V+T) hvM (by omega) (by omega)
 by_cases hc:-(HB:Int)<V+T∧V+T<(HB:Int)
 · rw [decide_eq_true hc] at hb
   refine (Zh4 g L M s t w hA hl hM hm hb).mono fun r w' ⟨a,b,c⟩=>?_
   unfold Zeb;rw [if_pos hc];exact ⟨a,⟨M,hm,hM,hvM,hc.1,hc.2,b⟩,c⟩
 · rw [decide_eq_false hc] at hb
   refine (Zlu g L M s t w hA hM hm hb).mono fun r w' ⟨a,b⟩=>?_
   unfold Zeb;rw [if_neg hc];exact ⟨a,⟨L,hl,hL,hv,h0,h1,hA.below b hA.lt⟩,(But.refl g w).of_bel b⟩
end
section
open Go Go.RowKit
section
variable {P : Program} {ops : Array Oper} {Q : Exit → Act → World → Prop} {md : Region.Mode} {S : World → Prop} {stop : Nat}
def wpUntil (P:Program) (md:Region.Mode) (ops:Array Oper) (Q:Exit→Act→World→Prop) (S:World→Prop) (stop:Nat):Nat→Array Bool→Act→World→Prop
 | 0,listed,a,w=>Region.ready md ops listed=[]∧Q .normal a w
 | fuel+1,listed,a,w=>(Region.ready md ops listed=[]→Q .normal a w) ∧
  ∀ i ∈ Region.ready md ops listed,wpOp P ops Q i (fun b u=>(i<stop→S u)∧wpUntil P md ops Q S stop fuel (listed.setIfInBounds i true) b u) a w
theorem Zbu:∀ (fuel:Nat) (listed:Array Bool) (a:Act) (w:World),wpUntil P md ops Q S stop fuel listed a w→wpAny P md ops Q fuel listed a w
 | 0,_,_,_,h=>h
 | fuel+1,_,_,_,h=>⟨h.1,fun i hi=>wpOp_mono (fun b u k=>Zbu fuel _ b u k.2) (h.2 i hi)⟩
theorem Zn {id:Nat}{a:Act}{w:World}(S:World→Prop) (stop:Nat) (hm:P.follows .mixedOrders=true) (h:wpUntil P .any ops Q S stop ops.size (Array.replicate ops.size false) a w.drew):(Code.region id ops true).wp P Q a w :=
 wp_region_any hm (Zbu _ _ _ _ h)
def waits (md:Region.Mode) (ops:Array Oper) (i stop:Nat) (C:List Nat):Bool :=
 (List.range ops.size).all fun j=>!(C.contains j || decide (stop≤j)) || (match ops[j]? with | some o=>o.after.any (fun e=>Region.binds md e&&(e.on==i || C.contains e.on)) | none=>true)
def unlisted (listed:Array Bool) (C:List Nat):Bool:=C.all fun k=>listed.getD k true==false
theorem Zh9 {i:Nat}{C:List Nat}(h:waits md ops i stop C=true) {j:Nat}{oj:Oper}(hj:ops[j]?=some oj) (hc:j ∈ C∨stop≤j):∃ e ∈ oj.after,Region.binds md e=true∧(e.on=i∨e.on ∈ C):=by
 have h1:=(List.all_eq_true.1 h) j (by simp;exact (Array.getElem?_eq_some_iff.1 hj).1)
 rw [hj] at h1
 have h2:(C.contains j || decide (stop≤j))=true:=by
  rcases hc with hc|hc
  · simp [hc]
  · simp [hc]
 rw [h2] at h1;simp only [Bool.not_true,Bool.false_or] at h1;rw [←Array.any_toList] at h1;obtain ⟨e,he,hb⟩:=List.any_eq_true.1 h1;have he:=Array.mem_toList_iff.1 he;simp only [Bool.and_eq_true,Bool.or_eq_true,beq_iff_eq,List.contains_iff_mem] at hb;exact ⟨e,he,hb.1,hb.2⟩
theorem Zfy {i:Nat}{C:List Nat}{oi:Oper}{v:Value}(hi:ops[i]?=some oi) (hsel:∀ (j:Nat) (o:Oper) cs b,ops[j]?=some o→o.op≠.select cs b)
 (hQ:∀ x a w,Q (.panic x) (a.put oi.dst v) w→Q (.panic x) a w) (hlate:waits md ops i stop C=true) :
 ∀ (fuel:Nat) (listed:Array Bool) (a:Act) (w:World),
   (∀ j oj,ops[j]?=some oj→j≠i→listed.getD j true=false→(∀ e ∈ oj.after,Region.binds md e=true→e.on≠i)→oi.apart ops oj=true) →
   i ∈ Region.ready md ops listed→(∀ k ∈ C,listed.getD k true=false)→YieldsIf P ops S oi v a→S w →
   wpUntil P md ops Q S stop fuel (listed.setIfInBounds i true) (a.put oi.dst v) w→wpUntil P md ops Q S stop (fuel+1) listed a w:=by
 intro fuel
 induction fuel with
 | zero =>
   intro listed a w _ hr _ hy hS H;refine ⟨fun h=>(by rw [h] at hr;cases hr),fun j hj=>?_⟩
   by_cases hji:j=i
   · subst hji;exact hy.wpOp hi hS ⟨fun _=>hS,H⟩
   · have:=ready_mono hj hji
     rw [H.1] at this
     cases this
 | succ fuel ih =>
   intro listed a w hfree hr hcl hy hS H;refine ⟨fun h=>(by rw [h] at hr;cases hr),fun j hj=>?_⟩
   by_cases hji:j=i
   · subst hji;exact hy.wpOp hi hS ⟨fun _=>hS,H⟩
   · have h1:=H.2 j (ready_mono hj hji)
     obtain ⟨hjun,oj,hoj,hall⟩:=mem_ready.1 hj;have h0:=(mem_ready.1 hr).1
     have un:∀ k,listed.getD k true=false→listed.getD k false=true→False:=fun k a1 a2=>by
      rcases Nat.lt_or_ge k listed.size with h'|h'
      · simp [h'] at a1 a2;rw [a1] at a2;cases a2
      · simp [Array.getElem?_eq_none h'] at a2
     have hnot:∀ e ∈ oj.after,Region.binds md e=true→e.on≠i:=fun e he hb heq=>un i h0 (heq ▸ hall e he hb)
     have hnw:¬(j ∈ C∨stop≤j):=fun hc=>by
      obtain ⟨e,he,hb,heq⟩:=Zh9 hlate hoj hc
      rcases heq with heq|heq
      · exact hnot e he hb heq
      · exact un _ (hcl _ heq) (hall e he hb)
     have hjs:j<stop:=by
      rcases Nat.lt_or_ge j stop with h|h
      · exact h
      · exact (hnw (Or.inr h)).elim
     have h2:=wpOp_putIf hoj (hfree j oj hoj hji hjun hnot) (fun cs b=>hsel i oi cs b hi) (fun cs b=>hsel j oj cs b hoj) hQ hy h1
     have hfree':∀ k ok,ops[k]?=some ok→k≠i→(listed.setIfInBounds j true).getD k true=false →
      (∀ e ∈ ok.after,Region.binds md e=true→e.on≠i)→oi.apart ops ok=true:=fun k ok hk hki hun hno=>by
      refine hfree k ok hk hki ?_ hno
      by_cases hjk:j=k
      · subst hjk;exact hjun
      · rw [Go.getD_set_ne true hjk] at hun;exact hun
     refine wpOp_mono (fun b u h3=>⟨h3.2.1,ih (listed.setIfInBounds j true) b u hfree' (ready_mono hr (Ne.symm hji)) (fun k hk=>by rw [Go.getD_set_ne true (show j≠k from fun e=>hnw (Or.inl (by rw [e];exact hk)))];exact hcl k hk) h3.1 (h3.2.1 hjs) ?_⟩) h2
     rw [Array.setIfInBounds_comm _ _ hji];exact h3.2.2
theorem Zw {i:Nat}(C:List Nat) {oi:Oper}{v:Value}{fuel:Nat}{listed:Array Bool}{a:Act}{w:World}(hi:ops[i]?=some oi)
 (hs:Region.noSelect ops=true) (hf:Region.free md ops listed i=true) (hr:(Region.ready md ops listed).contains i=true) (hw:waits md ops i stop C=true) (hun:unlisted listed C=true)
 (hQ:∀ c a w,Q (.panic c) (a.put oi.dst v) w→Q (.panic c) a w) (hy:YieldsIf P ops S oi v a) (hS:S w)
 (h:wpUntil P md ops Q S stop fuel (listed.setIfInBounds i true) (a.put oi.dst v) w):wpUntil P md ops Q S stop (fuel+1) listed a w :=
 Zfy hi (Region.noSelect_spec hs) hQ hw fuel listed a w (Region.free_spec hi hf) (by simpa using hr) (fun k hk=>by have:=(List.all_eq_true.1 hun) k hk;simpa using this) hy hS h
theorem tk (i:Nat)(C:List Nat){oi:Oper}{v:Value}{fuel:Nat}{listed:Array Bool}{a:Act}{w:World}(hi:ops[i]?=some oi)(hS:S w)(h:wpUntil P md ops Q S stop fuel (listed.setIfInBounds i true) (a.put oi.dst v) w)(hy:∀ w,S w→(execOp a.eval oi).run P w=.ok (.value v) w:=by intro u hSu;(try dsimp only at hSu);first|(go_simp;done)|(go_simp;with_reducible rfl))(hs:Region.noSelect ops=true:=by kernel_rfl)(hf:Region.free md ops listed i=true:=by kernel_rfl)(hr:(Region.ready md ops listed).contains i=true:=by kernel_rfl)(hw:waits md ops i stop C=true:=by kernel_rfl)(hun:unlisted listed C=true:=by kernel_rfl)(hQ:∀ c a w,Q (.panic c) (a.put oi.dst v) w→Q (.panic c) a w:=by exact fun _ _ _ h=>h)(h1:Region.wanted oi (yielded ops a.tmps)=true:=by rfl):wpUntil P md ops Q S stop (fuel+1) listed a w:=Zw C hi hs hf hr hw hun hQ (Or.inl ⟨h1,hy⟩) hS h
theorem sa {α:Type _}{l:List α}{i:Nat}{a:α}:l.toArray.setIfInBounds i a=(l.set i a).toArray:=List.setIfInBounds_toArray _ _ _
theorem sb {α:Type _}{x a:α}{l:List α}:(x::l).set 0 a=a::l:=rfl
theorem sc {α:Type _}{x a:α}{l:List α}{n:Nat}:(x::l).set (n+1) a=x::l.set n a:=rfl
theorem Zb {i:Nat}{o:Oper}{fuel:Nat}{listed:Array Bool}{a:Act}{w:World}(hr:Region.ready md ops listed=[i]) (ho:ops[i]?=some o)
 (h:∀ K':Act→World→Prop,Shut (∀ b u,(i<stop→S u)→wpUntil P md ops Q S stop fuel (listed.setIfInBounds i true) b u→K' b u)→if Region.wanted o (yielded ops a.tmps)=true then Oper.wp P o a w K' Q else K' (a.put o.dst undef) w):wpUntil P md ops Q S stop (fuel+1) listed a w :=
 ⟨fun h0=>(by rw [hr] at h0;cases h0),fun j hj=>by
  rw [hr] at hj;obtain rfl:=List.mem_singleton.1 hj;exact wpOp_step ho (fun K' hK=>h K' (fun b u h1 h2=>hK b u ⟨h1,h2⟩))⟩
theorem Zs {listed:Array Bool}{a:Act}{w:World}(hr:Region.ready md ops listed=[]) (h:Q .normal a w):∀ fuel,wpUntil P md ops Q S stop fuel listed a w
 | 0=>⟨hr,h⟩
 | _+1=>⟨fun _=>h,by rw [hr];simp⟩
end
end
section
open Go.RowKit
theorem Zny (g:Nat) (L xs:List Nat) (V T:Int) (s:Sp) (k:Nat) (ng:Bool) (ao:Option Addr) (n cap p:Nat) (w:World) (hs:s.ok) (hk:k≤5) (hA:Ac w g L s) (hl:L.length=133) (hL:Wf L) (hv:(val L:Int)=V%(PB:Int)) (h0:-(HB:Int)<V) (h1:V<(HB:Int))
 (hx:Arg w ao n cap xs) (hp:p+32*n≤4256) (hT:Ym ng (val xs*2^p)=T) (hT0:-(HB:Int)<T) (hT1:T<(HB:Int)) :
 Calls Tryz.prog 139 #[.pointer (some ⟨g,0,none⟩),.agg #[.int .i64 (k:Nat),.bool ng,.slice ao n cap,.int .i64 (p:Nat)]] w (Did g w (putS V s k T)):=by
 obtain ⟨t,ht⟩:∃ t,t=s.cnt k 1:=⟨_,rfl⟩;obtain ⟨X,hX⟩:∃ X,X=putS V s k T:=⟨_,rfl⟩;rw [←hX];have HC:=hid (fun u:World=>Zfw s k 1 u hk hs (by decide) (by decide))
 rw [←ht] at HC;obtain ⟨sn,su,sd,sm,sp,sa⟩:=s;obtain ⟨tn,tu,td,tm,tp,ta⟩:=t;have HR:Aside (Ac w g L ⟨sn,su,sd,sm,sp,sa⟩∧L.length=133∧Wf L∧(val L:Int)=V%(PB:Int)∧-(HB:Int)<V∧V<(HB:Int)∧Arg w ao n cap xs∧p+32*n≤4256∧Ym ng (val xs*2^p)=T∧-(HB:Int)<T∧T<(HB:Int)):=⟨hA,hl,hL,hv,h0,h1,hx,hp,hT,hT0,hT1⟩;have HX:Aside (X=putS V ⟨sn,su,sd,sm,sp,sa⟩ k T∧⟨tn,tu,td,tm,tp,ta⟩=Sp.cnt ⟨sn,su,sd,sm,sp,sa⟩ k 1):=⟨hX,ht⟩;simp only [Sp.agg] at HC;clear hA hl hL hv h0 h1 hx hp hT hT0 hT1 hX ht hs;go_enter Tryz.func139,Tryz.ntmps139;have a5:=HR.out.1.cell HR.out.2.1 5 _ rfl;have alt:=HR.out.1.lt
 by_cases hmax:sa=1099511627776
 · subst hmax
   go_wp2;go_ret;rw [HX.out.1];unfold putS;rw [if_pos rfl];obtain ⟨hA,hl,hL,hv,h0,h1,_⟩:=HR.out;exact ⟨rfl,⟨L,hl,hL,hv,h0,h1,hA.alloc _⟩,(But.refl g w).of_bel (Zd _ _)⟩
 have hmax':(sa==1099511627776)=false:=by simpa using hmax
 go_wp2
 have HP:Aside (X=Zeb V ⟨sn,su,sd,sm,sp,sa⟩ T ⟨tn,tu,td,tm,tp,ta⟩):=by
  refine qsd ?_;rw [HX.out.1,HX.out.2];unfold putS;rw [if_neg hmax]
 obtain ⟨w1,hw1⟩:∃ w1,w1=w.alloc (Obj.cells #[.int .i64 (k:Nat),.bool ng,.slice ao n cap,.int .i64 (p:Nat)] 166):=⟨_,rfl⟩;rw [←hw1]
 have H1:Aside (Bl w1 w.heap.size 166 [.int .i64 (k:Nat),.bool ng,.slice ao n cap,.int .i64 (p:Nat)]∧Below w.heap.size w w1∧w1.heap.size=w.heap.size+1):=by
  subst hw1;exact ⟨Bl.new w 166 [_,_,_,_],Zd _ _,by simp⟩
 clear hw1 hmax hmax' a5 alt;have hu:=Tryz.desc_words;have hsz:(Tryz.prog.info? 161).map (·.size)=some (L.map U).length:=by rw [Tryz.size_words,List.length_map,HR.out.2.1]
 have A0:=qsd (HR.out.1.below H1.out.2.1 HR.out.1.lt);have BB:Aside (Below w1.heap.size w1 w1.drew):=(Below.refl _ _).drew;have kS:=qsd (ai (A0.out.drew.range) (ai (A0.out.drew.cell HR.out.2.1 0 _ rfl) (ai (A0.out.drew.cell HR.out.2.1 1 _ rfl) (ai (A0.out.drew.cell HR.out.2.1 2 _ rfl) (ai (A0.out.drew.cell HR.out.2.1 3 _ rfl) (ai (A0.out.drew.cell HR.out.2.1 4 _ rfl) (ai (A0.out.drew.cell HR.out.2.1 5 _ rfl) (H1.out.1.drew.four))))))));have HW:=hid (fun (u:World) (hb:Below w1.heap.size w1 u)=>Zob L xs ao n cap p (k:Nat) ng u HR.out.2.1 HR.out.2.2.1 ((HR.out.2.2.2.2.2.2.1.below H1.out.2.1).below hb) HR.out.2.2.2.2.2.2.2.1)
 have hTT:Aside (Ym ng (val xs*2^p)=T∧-(HB:Int)<T∧T<(HB:Int)):=by
  have h:=HR.out.2.2.2.2.2.2.2.2;refine ⟨?_,by omega,by omega⟩
  first | exact h.1 | (rw [←h.1];cases ng <;> simp [Ym])
 refine Zn (fun w'=>w'.rangeAt g 0 (L.map U)∧w'.cell? ⟨g,133,none⟩=some (.int .i64 sn)∧w'.cell? ⟨g,134,none⟩=some (.int .i64 su)∧w'.cell? ⟨g,135,none⟩=some (.int .i64 sd)∧w'.cell? ⟨g,136,none⟩=some (.int .i64 sm)∧w'.cell? ⟨g,137,none⟩=some (.int .i64 sp)∧w'.cell? ⟨g,138,none⟩=some (.int .i64 sa)∧w'.cell? ⟨w.heap.size,0,none⟩=some (.int .i64 (k:Nat))∧w'.cell? ⟨w.heap.size,1,none⟩=some (.bool ng)∧w'.cell? ⟨w.heap.size,2,none⟩=some (.slice ao n cap)∧w'.cell? ⟨w.heap.size,3,none⟩=some (.int .i64 (p:Nat))) 14 (by kernel_rfl) ?_
 refine Zw (i:=0) [] (v:=?_) rfl (by kernel_rfl) (by kernel_rfl) (by kernel_rfl) (by kernel_rfl) (by kernel_rfl) (fun _ _ _ h=>h) (Or.inl ⟨by rfl,?_⟩) kS.out ?_
 rotate_left
 · intro u hSu
   try dsimp only at hSu
   first | (go_simp;done) | (go_simp;with_reducible rfl)
 try simp only [Act.put,List.setIfInBounds_toArray,List.set_cons_zero,List.set_cons_succ]
 refine Zw (i:=1) [2,3,4,6] (v:=?_) rfl (by kernel_rfl) (by kernel_rfl) (by kernel_rfl) (by kernel_rfl) (by kernel_rfl) (fun _ _ _ h=>h) (Or.inl ⟨by rfl,?_⟩) kS.out ?_
 rotate_left
 · intro u hSu
   try dsimp only at hSu
   first | (go_simp;done) | (go_simp;with_reducible rfl)
 try simp only [Act.put,List.setIfInBounds_toArray,List.set_cons_zero,List.set_cons_succ]
 refine Zw (i:=2) [3,4,6] (v:=?_) rfl (by kernel_rfl) (by kernel_rfl) (by kernel_rfl) (by kernel_rfl) (by kernel_rfl) (fun _ _ _ h=>h) (Or.inl ⟨by rfl,?_⟩) kS.out ?_
 rotate_left
 · intro u hSu
   try dsimp only at hSu
   first | (go_simp;done) | (go_simp;with_reducible rfl)
 try simp only [Act.put,List.setIfInBounds_toArray,List.set_cons_zero,List.set_cons_succ]
 refine Zw (i:=3) [4,6] (v:=?_) rfl (by kernel_rfl) (by kernel_rfl) (by kernel_rfl) (by kernel_rfl) (by kernel_rfl) (fun _ _ _ h=>h) (Or.inl ⟨by rfl,?_⟩) kS.out ?_
 rotate_left
 · intro u hSu
   try dsimp only at hSu
   first | (go_simp;done) | (go_simp;with_reducible rfl)
 try simp only [Act.put,List.setIfInBounds_toArray,List.set_cons_zero,List.set_cons_succ]
 refine Zw (i:=4) [6] rfl (by kernel_rfl) (by kernel_rfl) (by kernel_rfl) (by kernel_rfl) (by kernel_rfl) (fun _ _ _ h=>h) (yieldsIf_load_mid (by rfl) _ _ rfl g 0 rfl (L.map U) _ (fun u h=>h.1) hu rfl hsz) kS.out ?_
 try simp only [Act.put,List.setIfInBounds_toArray,List.set_cons_zero,List.set_cons_succ]
 refine Zw (i:=5) [6] (v:=?_) rfl (by kernel_rfl) (by kernel_rfl) (by kernel_rfl) (by kernel_rfl) (by kernel_rfl) (fun _ _ _ h=>h) (Or.inl ⟨by rfl,?_⟩) kS.out ?_
 rotate_left
 · intro u hSu
   try dsimp only at hSu
   first | (go_simp;done) | (go_simp;with_reducible rfl)
 try simp only [Act.put,List.setIfInBounds_toArray,List.set_cons_zero,List.set_cons_succ]
 refine Zw (i:=7) [8,9,10,13] (v:=?_) rfl (by kernel_rfl) (by kernel_rfl) (by kernel_rfl) (by kernel_rfl) (by kernel_rfl) (fun _ _ _ h=>h) (Or.inl ⟨by rfl,?_⟩) kS.out ?_
 rotate_left
 · intro u hSu
   try dsimp only at hSu
   first | (go_simp;done) | (go_simp;with_reducible rfl)
 try simp only [Act.put,List.setIfInBounds_toArray,List.set_cons_zero,List.set_cons_succ]
 refine Zw (i:=8) [9,10,13] (v:=?_) rfl (by kernel_rfl) (by kernel_rfl) (by kernel_rfl) (by kernel_rfl) (by kernel_rfl) (fun _ _ _ h=>h) (Or.inl ⟨by rfl,?_⟩) kS.out ?_
 rotate_left
 · intro u hSu
   try dsimp only at hSu
   first | (go_simp;done) | (go_simp;with_reducible rfl)
 try simp only [Act.put,List.setIfInBounds_toArray,List.set_cons_zero,List.set_cons_succ]
 refine Zw (i:=9) [10,13] (v:=?_) rfl (by kernel_rfl) (by kernel_rfl) (by kernel_rfl) (by kernel_rfl) (by kernel_rfl) (fun _ _ _ h=>h) (Or.inl ⟨by rfl,?_⟩) kS.out ?_
 rotate_left
 · intro u hSu
   try dsimp only at hSu
   first | (go_simp;done) | (go_simp;with_reducible rfl)
 try simp only [Act.put,List.setIfInBounds_toArray,List.set_cons_zero,List.set_cons_succ]
 refine Zw (i:=10) [13] (v:=?_) rfl (by kernel_rfl) (by kernel_rfl) (by kernel_rfl) (by kernel_rfl) (by kernel_rfl) (fun _ _ _ h=>h) (Or.inl ⟨by rfl,?_⟩) kS.out ?_
 rotate_left
 · intro u hSu
   try dsimp only at hSu
   first | (go_simp;done) | (go_simp;with_reducible rfl)
 try simp only [Act.put,List.setIfInBounds_toArray,List.set_cons_zero,List.set_cons_succ]
 refine Zw (i:=11) [12,13] (v:=?_) rfl (by kernel_rfl) (by kernel_rfl) (by kernel_rfl) (by kernel_rfl) (by kernel_rfl) (fun _ _ _ h=>h) (Or.inl ⟨by rfl,?_⟩) kS.out ?_
 rotate_left
 · intro u hSu
   try dsimp only at hSu
   first | (go_simp;done) | (go_simp;with_reducible rfl)
 try simp only [Act.put,List.setIfInBounds_toArray,List.set_cons_zero,List.set_cons_succ]
 refine Zw (i:=12) [13] (v:=?_) rfl (by kernel_rfl) (by kernel_rfl) (by kernel_rfl) (by kernel_rfl) (by kernel_rfl) (fun _ _ _ h=>h) (Or.inl ⟨by rfl,?_⟩) kS.out ?_
 rotate_left
 · intro u hSu
   try dsimp only at hSu
   first | (go_simp;done) | (go_simp;with_reducible rfl)
 try simp only [Act.put,List.setIfInBounds_toArray,List.set_cons_zero,List.set_cons_succ]
 refine Zb (i:=6) (by kernel_rfl) rfl (fun K' hK=>?_)
 go_simp
 refine (HW.out _ BB.out).mono ?_;rintro r u1 ⟨M,rfl,hMl,hMw,hMv,hb⟩;have HM:=qsd (ai hMl (ai hMw hMv));have BB:=qsd (BB.out.trans (hb.mono BB.out.size));have A1:=A0.out.below BB.out A0.out.lt;have Z1:=H1.out.1.below BB.out H1.out.1.lt;have kS:=qsd (ai (A1.range) (ai (A1.cell HR.out.2.1 0 _ rfl) (ai (A1.cell HR.out.2.1 1 _ rfl) (ai (A1.cell HR.out.2.1 2 _ rfl) (ai (A1.cell HR.out.2.1 3 _ rfl) (ai (A1.cell HR.out.2.1 4 _ rfl) (ai (A1.cell HR.out.2.1 5 _ rfl) (Z1.four))))))));clear hb A1 Z1 hMl hMw hMv
 dsimp only
 refine hK.out _ _ (fun _=>kS.out) ?_
 clear hK K'
 try simp only [Act.put,List.setIfInBounds_toArray,List.set_cons_zero,List.set_cons_succ]
 refine Zb (i:=13) (by kernel_rfl) rfl (fun K' hK=>?_)
 go_simp
 refine (HC.out _).mono ?_;rintro r u2 ⟨rfl,hb⟩;have BB:=qsd (BB.out.trans (hb.mono BB.out.size));have A1:=A0.out.below BB.out A0.out.lt;have Z1:=H1.out.1.below BB.out H1.out.1.lt;have kS:=qsd (ai (A1.range) (ai (A1.cell HR.out.2.1 0 _ rfl) (ai (A1.cell HR.out.2.1 1 _ rfl) (ai (A1.cell HR.out.2.1 2 _ rfl) (ai (A1.cell HR.out.2.1 3 _ rfl) (ai (A1.cell HR.out.2.1 4 _ rfl) (ai (A1.cell HR.out.2.1 5 _ rfl) (Z1.four))))))));clear hb A1 Z1
 dsimp only
 refine hK.out _ _ (fun _=>kS.out) ?_
 clear hK K'
 try simp only [Act.put,List.setIfInBounds_toArray,List.set_cons_zero,List.set_cons_succ]
 refine Zb (i:=14) (by kernel_rfl) rfl (fun K' hK=>?_)
 go_simp
 have CB:=Zh8 g L M V T ⟨sn,su,sd,sm,sp,sa⟩ ⟨tn,tu,td,tm,tp,ta⟩ u2 (A0.out.below BB.out A0.out.lt) HR.out.2.1 HR.out.2.2.1 HR.out.2.2.2.1 HR.out.2.2.2.2.1 HR.out.2.2.2.2.2.1 HM.out.2.1 HM.out.1 (by rw [HM.out.2.2,hTT.out.1,HR.out.2.2.2.1,Zbc]) hTT.out.2.1 hTT.out.2.2
 rw [←HP.out] at CB;simp only [Sp.agg] at CB;refine CB.mono ?_;rintro r u3 hD;have HD3:=qsd hD;obtain ⟨rfl,_,_⟩:=hD;clear CB
 dsimp only
 refine hK.out _ _ (fun h=>absurd h (by decide)) ?_
 clear hK K'
 try simp only [Act.put,List.setIfInBounds_toArray,List.set_cons_zero,List.set_cons_succ]
 refine Zb (i:=15) (by kernel_rfl) rfl (fun K' hK=>?_)
 go_simp
 refine hK.out _ _ (fun h=>absurd h (by decide)) ?_
 clear hK K';refine Zs (by kernel_rfl) ?_ _
 clear kS;go_wp2;go_ret;obtain ⟨h1,h2,h3⟩:=HD3.out;exact ⟨rfl,h2,((But.refl g w).of_bel H1.out.2.1).trans (((But.refl g w1).of_bel BB.out).trans h3)⟩
def sW (x:Nat):Bool:=decide (9223372036854775808≤x)
def eW (x:Nat):Nat:=x%9223372036854775808/4503599627370496
def fW (x:Nat):Nat:=x%4503599627370496
theorem Ql (x:Nat) (hx:x<18446744073709551616):x=B.bw (sW x) (eW x) (fW x)∧eW x<2048∧fW x<4503599627370496:=by
 unfold B.bw sW eW fW;refine ⟨?_,by omega,by omega⟩
 by_cases h:9223372036854775808≤x
 · simp only [h,decide_true,Bool.toNat_true];omega
 · simp only [h,decide_false,Bool.toNat_false];omega
def clW (x:Nat):Int:=B.cls (eW x) (fW x)
def xpW (x:Nat):Int:=B.xp (eW x)
def frW (x:Nat):Nat:=(B.fr (eW x) (fW x)).toNat
def ngW (x:Nat):Bool:=B.ng (sW x) (eW x) (fW x)
def pK (x y:Nat):Nat:=pk (max (clW x) (clW y)) (min (clW x) (clW y)) (!ngW x==ngW y)
def pT (x y:Nat):Int:=pv7 (max (clW x) (clW y)) (min (clW x) (clW y)) (!ngW x==ngW y) (frW x) (frW y) (xpW x+xpW y)
theorem Zj6 (hi lo:Int) (ng:Bool):pk hi lo ng≤5:=by
 unfold pk
 split
 · omega
 · split
   · split <;> omega
   · split
     · split <;> omega
     · omega
theorem Ze7 (k:Nat) (hk:k=4238):HB=2^k:=by
 obtain ⟨j,hj⟩:∃ j,j=32*132:=⟨_,rfl⟩;rw [Zpe,Ziv,←hj,show k=14+j by omega,Nat.pow_add]
theorem Zdw (ng:Bool) (X B:Nat) (h:X<B):-(B:Int)<Ym ng X∧Ym ng X<(B:Int):=by cases ng <;> simp only [Ym,if_true,if_false] <;> constructor <;> (try simp) <;> omega
theorem Zgq (x y:Nat) (hx:x<18446744073709551616) (hy:y<18446744073709551616):-(HB:Int)<pT x y∧pT x y<(HB:Int):=by
 unfold pT pv7;have hp:=Zbi
 split
 · refine Zdw _ _ _ ?_
   have f1:=Yy (eW x) (fW x) (Ql x hx).2.2;have f2:=Yy (eW y) (fW y) (Ql y hy).2.2;have x1:=Yx (eW x) (Ql x hx).2.1;have x2:=Yx (eW y) (Ql y hy).2.1
   have h1:frW x*frW y<2^106:=by
    have:frW x*frW y≤9007199254740991*9007199254740991:=Nat.mul_le_mul (by unfold frW;omega) (by unfold frW;omega)
    exact Nat.lt_of_le_of_lt this (by decide)
   obtain ⟨k,hk⟩:∃ k,k=4238:=⟨_,rfl⟩;rw [Ze7 k hk];refine Nat.lt_of_lt_of_le (Nat.mul_lt_mul_of_pos_right h1 (Nat.two_pow_pos _)) ?_;rw [←Nat.pow_add];exact Nat.pow_le_pow_right (by decide) (by unfold xpW;omega)
 · constructor <;> omega
theorem Zgr (x y:Nat) (hx:x<18446744073709551616) (hy:y<18446744073709551616) (w:World) :
 Calls Tryz.prog 140 #[.float .f64 x,.float .f64 y] w fun r w'=>∃ v,r=.returned v∧Th w.heap.size w' v (pK x y) (pT x y)∧Below w.heap.size w w':=by
 obtain ⟨a1,a2,a3⟩:=Ql x hx;obtain ⟨b1,b2,b3⟩:=Ql y hy;have h1:=splitIs (sW x) (eW x) (fW x) a2 a3;have h2:=splitIs (sW y) (eW y) (fW y) b2 b3;rw [←a1] at h1;rw [←b1] at h2;exact Zfx x y _ _ _ _ _ _ _ _ w h1 h2 (Yx _ a2) (Yx _ b2) (Yy _ _ a3) (Yy _ _ b3)
theorem Zqq (x:Nat) (hx:x<18446744073709551616) (w:World) :
 Calls Tryz.prog 160 #[.float .f64 x] w fun r w'=>∃ v,r=.returned v∧Th w.heap.size w' v (pK x 4607182418800017408) (pT x 4607182418800017408)∧Below w.heap.size w w':=by
 have HP:=hid (fun u:World=>Zgr x 4607182418800017408 hx (by decide) u)
 clear hx;go_enter Tryz.func160,Tryz.ntmps160
 go_wp2_with fail
 refine (HP.out _).mono ?_;rintro r w1 ⟨v,rfl,hT,hb⟩;obtain ⟨ng,a,n,c,p,xs,hlo,rfl,hA,hp,hv⟩:=hT;have HL:=qsd hlo;have Z:=qsd ((Bl.new w 166 [Value.int .i64 0,Value.bool false,Value.slice none 0 0,Value.int .i64 0]).below hb (by simp))
 have HA:=qsd (ai hA (ai hp (ai hv hb)));obtain ⟨z0,z1,z2,z3⟩:=Z.out.four;have g0:=Z.out.frozen 0;have g1:=Z.out.frozen 1;have g2:=Z.out.frozen 2;have g3:=Z.out.frozen 3;clear hA hp hv hb hlo;go_wp2;obtain ⟨w5,hw5⟩:∃ w5,w5=((((w1.setCell ⟨w.heap.size,0,none⟩ (.int .i64 (pK x 4607182418800017408:Nat))).setCell ⟨w.heap.size,1,none⟩ (.bool ng)).setCell ⟨w.heap.size,2,none⟩ (.slice a n c)).setCell ⟨w.heap.size,3,none⟩ (.int .i64 (p:Nat))):=⟨_,rfl⟩;rw [←hw5];have q:Bl w5 w.heap.size 166 [.int .i64 (pK x 4607182418800017408:Nat),.bool ng,.slice a n c,.int .i64 (p:Nat)]:=by rw [hw5];exact Zhb Z.out
 have hbut:But w.heap.size w1 w5:=by rw [hw5];exact ((((But.refl _ w1).set 0 _).set 1 _).set 2 _).set 3 _
 have hBw:Below w.heap.size w w1:=(Zd w _).trans (HA.out.2.2.2.mono (by simp))
 have qb:Below w.heap.size w w5:=But.below hBw hbut hBw.size (Nat.le_refl _);clear hw5;obtain ⟨q0,q1,q2,q3⟩:=q.four;refine bodyPost_ret (v:=.agg #[.int .i64 (pK x 4607182418800017408:Nat),.bool ng,.slice a n c,.int .i64 (p:Nat)]) (by simp [results,Tryz.results160,go_sem,q0,q1,q2,q3]) rfl ?_
 refine ⟨_,rfl,⟨ng,a,n,c,p,xs,fun ad e=>?_,rfl,?_,HA.out.2.1,HA.out.2.2.1⟩,qb⟩
 · have:=HL.out ad e;simp at this;omega
 · obtain ⟨r1,r2,r3,r4,r5,r6⟩:=HA.out.1
   refine ⟨r1,r2,r3,r4,fun hne=>?_,r6⟩
   obtain ⟨b,off,hlt,rfl,hc⟩:=r5 hne;have hbb:=HL.out _ rfl;simp at hbb;refine ⟨b,off,Nat.lt_of_lt_of_le hlt hbut.size,rfl,fun i hi=>?_⟩
   rw [←hc i hi];exact World.cell?_of_block (a:=⟨b,off+i,none⟩) (hbut.block b hlt (by omega))
theorem Zuz (g:Nat) (V T:Int) (s:Sp) (k lo:Nat) (v:Value) (w:World) (hA:Acc7 w g V s) (hs:s.ok) (hk:k≤5) (ht:Th lo w v k T) (h0:-(HB:Int)<T) (h1:T<(HB:Int)) :
 Calls Tryz.prog 139 #[.pointer (some ⟨g,0,none⟩),v] w (Did g w (putS V s k T)):=by
 obtain ⟨L,a1,a2,a3,a4,a5,a6⟩:=hA;obtain ⟨ng,a,n,c,p,xs,_,rfl,hx,hp,hv⟩:=ht;exact Zny g L xs V T s k ng a n c p w hs hk a6 a1 a2 a3 a4 a5 hx hp hv h0 h1
theorem Zu7 (g:Nat) (V:Int) (s:Sp) (x:Nat) (w:World) (hA:Acc7 w g V s) (hs:s.ok) (hx:x<18446744073709551616) :
 Calls Tryz.prog 111 #[.pointer (some ⟨g,0,none⟩),.float .f64 x] w (Did g w (putS V s (pK x 4607182418800017408) (pT x 4607182418800017408))):=by
 obtain ⟨X,hX⟩:∃ X,X=putS V s (pK x 4607182418800017408) (pT x 4607182418800017408):=⟨_,rfl⟩;rw [←hX];have HP:=hid (fun u:World=>Zqq x hx u)
 have HB:=qsd (Zgq x 4607182418800017408 hx (by decide))
 have HA:=qsd (ai hA (ai hs hX));clear hA hs hX hx;go_enter Tryz.func111,Tryz.ntmps111
 go_wp2_with fail
 refine (HP.out _).mono ?_;rintro r w1 ⟨v,rfl,hT,hb⟩;have HT:=qsd (ai hT hb);clear hT hb
 go_wp2_with fail
 have CP:=Zuz g V (pT x 4607182418800017408) s (pK x 4607182418800017408) w.heap.size v w1 (HA.out.1.bel HT.out.2) HA.out.2.1 (Zj6 _ _ _) HT.out.1 HB.out.1 HB.out.2;rw [←HA.out.2.2] at CP;refine CP.mono ?_;rintro r w2 hD;have HD:=qsd hD;obtain ⟨rfl,_,_⟩:=hD;clear CP;go_wp2;go_ret;exact ⟨rfl,HD.out.2.1,((But.refl g w).of_bel HT.out.2).trans HD.out.2.2⟩
theorem Zfz (g:Nat) (V:Int) (s:Sp) (x y:Nat) (w:World) (hA:Acc7 w g V s) (hs:s.ok) (hx:x<18446744073709551616) (hy:y<18446744073709551616) :
 Calls Tryz.prog 95 #[.pointer (some ⟨g,0,none⟩),.float .f64 x,.float .f64 y] w (Did g w (putS V s (pK x y) (pT x y))):=by
 obtain ⟨X,hX⟩:∃ X,X=putS V s (pK x y) (pT x y):=⟨_,rfl⟩;rw [←hX];have HP:=hid (fun u:World=>Zgr x y hx hy u)
 have HB:=qsd (Zgq x y hx hy);have HA:=qsd (ai hA (ai hs hX));clear hA hs hX hx hy;go_enter Tryz.func95,Tryz.ntmps95
 go_wp2_with fail
 refine (HP.out _).mono ?_;rintro r w1 ⟨v,rfl,hT,hb⟩;have HT:=qsd (ai hT hb);clear hT hb
 go_wp2_with fail
 have CP:=Zuz g V (pT x y) s (pK x y) w.heap.size v w1 (HA.out.1.bel HT.out.2) HA.out.2.1 (Zj6 _ _ _) HT.out.1 HB.out.1 HB.out.2;rw [←HA.out.2.2] at CP;refine CP.mono ?_;rintro r w2 hD;have HD:=qsd hD;obtain ⟨rfl,_,_⟩:=hD;clear CP;go_wp2;go_ret;exact ⟨rfl,HD.out.2.1,((But.refl g w).of_bel HT.out.2).trans HD.out.2.2⟩
theorem Znz (N:Nat) (V:Int) (h:(N:Int)=V%(PB:Int)) (h0:-(HB:Int)<V) (h1:V<(HB:Int)):Zbm N=decide (V<0)∧Zpi N=V.natAbs:=by
 have e:=Zsc;have hp:=Zbi;unfold Zpi Zbm
 by_cases hv:0≤V
 · rw [Int.emod_eq_of_lt hv (by omega)] at h
   rw [decide_eq_false (by omega),decide_eq_false (by omega)]
   refine ⟨rfl,?_⟩;rw [if_neg (by decide)]
   omega
 · have h2:V%(PB:Int)=V+PB:=by
    rw [←Int.add_emod_right,Int.emod_eq_of_lt (by omega) (by omega)]
   rw [h2] at h;rw [decide_eq_true (by omega),decide_eq_true (by omega)]
   refine ⟨rfl,?_⟩;rw [if_pos rfl];omega
def exV (V:Int):Option (Bool×Nat×Int):=mkS (decide (V<0)) V.natAbs (-2148)
theorem _root_.Nat.le.ne7 {a b c:Nat}(h:a≤b) (e:a=c+1):b≠c:=by omega
theorem Nt.lo7 {lo k:Nat}{w:World}{v:Value}{X:Nat}(h:Nt lo w v X) (hk:k≤lo):k≤lo:=hk
theorem Tryz.row_dyad:∃ d:TypeDesc,Tryz.prog.underlying 62=some d∧d.isRow=true:=by
 have h:(Tryz.prog.underlying 62).any (·.isRow)=true:=by kernel_rfl
 obtain ⟨d,h1,h2⟩:=(Option.any_eq_true _ _).1 h;exact ⟨d,h1,h2⟩
theorem Tryz.size_dyad:(Tryz.prog.info? 62).map (·.size)=some 3:=by kernel_rfl
theorem Qw {fn:Func}{p:Tmp}{ty:TypeId}(h:fn.results=#[.cell p ty]) (tmps:Array Value) (w:World) (g:Nat) (cs:List Value)
 (hp:tmps.getD p undef=.pointer (some ⟨g,0,none⟩)) (hg:Bl w g ty cs) (hdr:∃ d:TypeDesc,Tryz.prog.underlying ty=some d∧d.isRow=true) (hi:(Tryz.prog.info? ty).map (·.size)=some cs.toArray.size) :
 (results fn tmps).run Tryz.prog w=.ok (.agg cs.toArray) w:=by
 obtain ⟨d,h1,h2⟩:=hdr
 cases d <;> first
  | exact results_cell_row (P:=Tryz.prog) h tmps w g ty _ _ _ hp hg h1 rfl hi
  | exact absurd h2 (by simp [TypeDesc.isRow])
theorem Zf0 {w base:World}{tmps:Array Value}{o:Option (Bool×Nat×Int)}{v x y z:Value}{lo:Nat}(h2:tmps.getD 2 undef=.pointer (some ⟨w.heap.size,0,none⟩))
 (hZ:Bl base w.heap.size 62 [x,y,z]) (hbw:Below w.heap.size w base) (hN:Nt lo base v (dX o)) (hlo:w.heap.size<lo) :
 bodyPost Tryz.prog Tryz.f96 (fun r w'=>∃ v,r=.returned (.agg #[.bool (dN o),v,.int .i64 (dE o)])∧Nt w.heap.size w' v (dX o)∧Below w.heap.size w w') .ret ⟨tmps,[]⟩
  (((base.setCell ⟨w.heap.size,0,none⟩ (.bool (dN o))).setCell ⟨w.heap.size,1,none⟩ v).setCell ⟨w.heap.size,2,none⟩ (.int .i64 (dE o))):=by
 have q:Bl (((base.setCell ⟨w.heap.size,0,none⟩ (.bool (dN o))).setCell ⟨w.heap.size,1,none⟩ v).setCell ⟨w.heap.size,2,none⟩ (.int .i64 (dE o))) w.heap.size 62 [.bool (dN o),v,.int .i64 (dE o)]:=((hZ.set 0 _).set 1 _).set 2 _;have hbut:But w.heap.size base (((base.setCell ⟨w.heap.size,0,none⟩ (.bool (dN o))).setCell ⟨w.heap.size,1,none⟩ v).setCell ⟨w.heap.size,2,none⟩ (.int .i64 (dE o))):=(((But.refl _ _).set 0 _).set 1 _).set 2 _;refine bodyPost_ret (v:=.agg #[.bool (dN o),v,.int .i64 (dE o)]) (Qw Tryz.results96 _ _ w.heap.size [.bool (dN o),v,.int .i64 (dE o)] h2 q Tryz.row_dyad (by rw [Tryz.size_dyad];rfl)) rfl ?_
 exact ⟨v,rfl,(hN.but7 hbut hlo).mono (by omega),But.below hbw hbut hbw.size (Nat.le_refl _)⟩
theorem Zek {w base:World}{tmps:Array Value}{o:Option (Bool×Nat×Int)}{v x y z:Value}{lo:Nat}{ob:Obj}(h2:tmps.getD 2 undef=.pointer (some ⟨w.heap.size,0,none⟩))
 (hZ:Bl base w.heap.size 62 [x,y,z]) (hbw:Below w.heap.size w base) (hN:Nt lo base v (dX o)) (hlo:w.heap.size<lo) :
 bodyPost Tryz.prog Tryz.f96 (fun r w'=>∃ v,r=.returned (.agg #[.bool (dN o),v,.int .i64 (dE o)])∧Nt w.heap.size w' v (dX o)∧Below w.heap.size w w') .ret ⟨tmps,[]⟩
  ((((base.setCell ⟨w.heap.size,0,none⟩ (.bool (dN o))).setCell ⟨w.heap.size,1,none⟩ v).setCell ⟨w.heap.size,2,none⟩ (.int .i64 (dE o))).alloc ob):=by
 have q:Bl (((base.setCell ⟨w.heap.size,0,none⟩ (.bool (dN o))).setCell ⟨w.heap.size,1,none⟩ v).setCell ⟨w.heap.size,2,none⟩ (.int .i64 (dE o))) w.heap.size 62 [.bool (dN o),v,.int .i64 (dE o)]:=((hZ.set 0 _).set 1 _).set 2 _;have hbut:But w.heap.size base (((base.setCell ⟨w.heap.size,0,none⟩ (.bool (dN o))).setCell ⟨w.heap.size,1,none⟩ v).setCell ⟨w.heap.size,2,none⟩ (.int .i64 (dE o))):=(((But.refl _ _).set 0 _).set 1 _).set 2 _;have hW:=But.below hbw hbut hbw.size (Nat.le_refl _);refine bodyPost_ret (v:=.agg #[.bool (dN o),v,.int .i64 (dE o)]) (Qw Tryz.results96 _ _ w.heap.size [.bool (dN o),v,.int .i64 (dE o)] h2 (q.alloc ob) Tryz.row_dyad (by rw [Tryz.size_dyad];rfl)) rfl ?_
 exact ⟨v,rfl,((hN.but7 hbut hlo).mono (by omega)).below (Zd _ _),hW.trans ((Zd _ _).mono hW.size)⟩
theorem Zo1 (g:Nat) (V:Int) (s:Sp) (w:World) (hA:Acc7 w g V s) (hT:Tab w):Calls Tryz.prog 96 #[.pointer (some ⟨g,0,none⟩)] w fun r w' =>
 ∃ v,r=.returned (.agg #[.bool (dN (exV V)),v,.int .i64 (dE (exV V))])∧Nt w.heap.size w' v (dX (exV V))∧Below w.heap.size w w':=by
 obtain ⟨o,ho⟩:∃ o,o=exV V:=⟨_,rfl⟩;rw [←ho];obtain ⟨L,a1,a2,a3,a4,a5,a6⟩:=hA;have hnm:=Znz (val L) V a3 a4 a5;have HA:=qsd (ai a1 (ai a2 (ai a6.hd (ai hT (ai ho hnm)))));have hlt:=a6.lt;clear a1 a2 a3 a4 a5 a6 hT ho hnm;have HLT:=qsd hlt;clear hlt;obtain ⟨W1,hW1⟩:∃ W,W=w.alloc (.cells #[.bool false,.slice none 0 0,.int .i64 0] 62):=⟨_,rfl⟩
 have H1:Aside (Below w.heap.size w W1∧Bl W1 w.heap.size 62 [.bool false,.slice none 0 0,.int .i64 0]∧W1.heap.size=w.heap.size+1):=by
  subst hW1;exact ⟨Zd _ _,Bl.new _ 62 [_,_,_],by simp⟩
 go_enter Tryz.func96,Tryz.ntmps96;go_wp2;rw [←hW1];clear hW1;have BB:Aside (Below W1.heap.size W1 W1.drew):=(Below.refl _ _).drew;have HH:Aside (∀ W:World,Below W1.heap.size W1 W→Hd W g L):=fun W h=>(HA.out.2.2.1.below H1.out.1 HLT.out (Nat.le_refl _)).below h (Nat.lt_of_lt_of_le HLT.out H1.out.1.size) (Nat.le_refl _)
 have HTT:Aside (∀ W:World,Below W1.heap.size W1 W→Tab W):=fun W h=>(HA.out.2.2.2.1.belows H1.out.1).belows h
 go_region_with (first
  | (go_at_call 141
     with_reducible refine (Zd2 g L _ HA.out.1 HA.out.2.1 (HH.out _ (by first | exact BB.out | exact BB.out.trans ((Zd _ _).mono BB.out.size) | exact (Zd _ _).drew))).mono ?_
     rintro r u ⟨rfl,rfl⟩)
  | (go_at_call 142
     with_reducible refine (Zma L g _ HA.out.1 HA.out.2.1 (HH.out _ (by first | exact BB.out | exact BB.out.trans ((Zd _ _).mono BB.out.size) | exact (Zd _ _).drew))).mono ?_
     rintro r u ⟨b,cap,M,rfl,hM,hMv,hb⟩;have hu:Below W1.heap.size W1 u:=by first | exact BB.out.trans (hb.mono BB.out.size) | exact (BB.out.trans ((Zd _ _).mono BB.out.size)).trans (hb.mono (by have:=BB.out.size;simp;omega)) | exact ((Zd _ _).drew).trans (hb.mono (by simp))
     try have DZ:=qsd (ai (DZ.out.1.below hb DZ.out.1.lt) DZ.out.2)
     try have DZ:=qsd (ai ((Bl.new _ 62 [Value.bool false,Value.slice none 0 0,Value.int .i64 0]).below hb (by simp)) BB.out.size)
     try have DZ:=qsd (ai ((Bl.new W1 62 [Value.bool false,Value.slice none 0 0,Value.int .i64 0]).drew.below hb (by simp)) (Nat.le_refl W1.heap.size))
     have BB:=qsd hu;have HM:=qsd (ai hM (show mkS (Zbm (val L)) (val M) (-2148)=o by rw [HA.out.2.2.2.2.1,hMv,HA.out.2.2.2.2.2.1,HA.out.2.2.2.2.2.2];rfl))
     clear hM hMv hb hu)
  | (go_at_call 86
     with_reducible refine (Z6 (by first | exact HM.out.1 | exact HM.out.1.below (Zd _ _)) (HTT.out _ (by first | exact BB.out | exact BB.out.trans ((Zd _ _).mono BB.out.size) | exact (Zd _ _).drew)) (Zbm (val L)) (-2148) (by decide) (by decide)).mono ?_
     rintro r u ⟨hD,hb⟩;rw [HM.out.2] at hD;obtain ⟨v,rfl,hN⟩:=hD
     try have DL:=qsd DZ.out.1.lt
     have hu:Below W1.heap.size W1 u:=by first | exact BB.out.trans (hb.mono BB.out.size) | exact (BB.out.trans ((Zd _ _).mono BB.out.size)).trans (hb.mono (by have:=BB.out.size;simp;omega)) | exact ((Zd _ _).drew).trans (hb.mono (by simp))
     try have DZ:=qsd (ai (DZ.out.1.below hb DZ.out.1.lt) DZ.out.2)
     try have DZ:=qsd (ai ((Bl.new _ 62 [Value.bool false,Value.slice none 0 0,Value.int .i64 0]).below hb (by simp)) BB.out.size)
     try have DZ:=qsd (ai ((Bl.new W1 62 [Value.bool false,Value.slice none 0 0,Value.int .i64 0]).drew.below hb (by simp)) (Nat.le_refl W1.heap.size))
     have hN2:=ai hN (hN.lo7 (k:=W1.heap.size) (by first | exact BB.out.size | (have:=BB.out.size;simp;omega)))
     obtain ⟨a,c,rfl,_⟩:=hN.arg (by
      refine Nat.le_trans ((Zf _ 133).2 ?_) (by decide)
      have e:=HM.out.2;have hm:=val_lt M HM.out.1.wf;rw [←HM.out.1.len] at hm;rw [←e];refine Nat.lt_of_le_of_lt ?_ hm;unfold mkS dX
      split
      · exact Nat.zero_le _
      · split
        · exact Nat.zero_le _
        · exact Nat.div_le_self _ _)
     have HN:=qsd (ai hN2 hu);have Z:=qsd (H1.out.2.1.below hu (by have:=H1.out.2.2;omega))
     have z0:=Z.out.cell 0 _ rfl;have z1:=Z.out.cell 1 _ rfl;have z2:=Z.out.cell 2 _ rfl;have g0:=Z.out.frozen 0;have g1:=Z.out.frozen 1;have g2:=Z.out.frozen 2
     try have d0:=DZ.out.1.cell 0 _ rfl
     try have d1:=DZ.out.1.cell 1 _ rfl
     try have d2:=DZ.out.1.cell 2 _ rfl
     try have e0:=DZ.out.1.frozen 0
     try have e1:=DZ.out.1.frozen 1
     try have e2:=DZ.out.1.frozen 2
     have hlu:w.heap.size<u.heap.size:=Z.out.lt
     try have nx:=DZ.out.2.ne7 H1.out.2.2
     try have ny:=nx.symm
     clear hN hN2 hb hu))
 all_goals (
  clear HM HA HH HTT BB;go_wp2;have hW:Below w.heap.size w u:=H1.out.1.trans (HN.out.2.mono H1.out.1.size);have hlo:=HN.out.1.2;have hl1:=H1.out.2.2
  first
   | (with_reducible refine Zek (x:=.bool false) (y:=.slice none 0 0) (z:=.int .i64 0) ?_ Z.out hW HN.out.1.1 (by omega)
      rfl)
   | (with_reducible refine Zf0 (x:=.bool false) (y:=.slice none 0 0) (z:=.int .i64 0) ?_ (Bl.but Z.out ((((But.refl _ _).set 0 _).set 1 _).set 2 _) ny) (But.below hW ((((But.refl _ _).set 0 _).set 1 _).set 2 _) hW.size (by have:=DZ.out.2;omega)) (HN.out.1.1.but7 ((((But.refl _ _).set 0 _).set 1 _).set 2 _) (by first | exact DL.out | (simp;done) | (simp;omega))) (by omega)
      rfl))
end
namespace B
theorem lt_f64 (s t:Bool) (e f u v:Nat) (he:e<2048) (hf:f<4503599627370496) (hu:u<2048) (hv:v<4503599627370496) :
 (FloatKind.f64.format.order (bw s e f) (bw t u v)==some .lt)=(!odd e f&&(!odd u v&&decide (pl s e f<pl t u v))):=by
 rw [ord s t e f u v he hf hu hv]
 cases odd e f <;> cases odd u v <;> simp
 by_cases h:pl s e f<pl t u v
 · rw [Int.compare_eq_lt.2 h];simp [h]
 · rw [decide_eq_false h]
   by_cases h2:pl t u v<pl s e f
   · rw [Int.compare_eq_gt.2 h2];rfl
   · rw [Int.compare_eq_eq.2 (by omega)];rfl
theorem gt_f64 (s t:Bool) (e f u v:Nat) (he:e<2048) (hf:f<4503599627370496) (hu:u<2048) (hv:v<4503599627370496) :
 (FloatKind.f64.format.order (bw s e f) (bw t u v)==some .gt)=(!odd e f&&(!odd u v&&decide (pl t u v<pl s e f))):=by
 rw [ord s t e f u v he hf hu hv]
 cases odd e f <;> cases odd u v <;> simp
 by_cases h:pl t u v<pl s e f
 · rw [Int.compare_eq_gt.2 h];simp [h]
 · rw [decide_eq_false h]
   by_cases h2:pl s e f<pl t u v
   · rw [Int.compare_eq_lt.2 h2];rfl
   · rw [Int.compare_eq_eq.2 (by omega)];rfl
theorem eq_f64 (s t:Bool) (e f u v:Nat) (he:e<2048) (hf:f<4503599627370496) (hu:u<2048) (hv:v<4503599627370496) :
 (FloatKind.f64.format.order (bw s e f) (bw t u v)==some .eq)=(!odd e f&&(!odd u v&&decide (pl s e f=pl t u v))):=by
 rw [ord s t e f u v he hf hu hv]
 cases odd e f <;> cases odd u v <;> simp
 by_cases h:pl s e f<pl t u v
 · rw [Int.compare_eq_lt.2 h,decide_eq_false (by omega)];rfl
 · by_cases h2:pl t u v<pl s e f
   · rw [Int.compare_eq_gt.2 h2,decide_eq_false (by omega)];rfl
   · rw [Int.compare_eq_eq.2 (by omega),decide_eq_true (by omega)];rfl
theorem odd_lt (e f:Nat) (h:e<2047):odd e f=false:=by
 have:(e==2047)=false:=by simp;omega
 simp [odd,this]
theorem odd_zero (e:Nat):odd e 0=false:=by simp [odd]
theorem zero_bw:bw false 0 0=0:=rfl
theorem max_bw:bw false 2046 4503599627370495=9218868437227405311:=rfl
theorem gt_max (s:Bool) (e f:Nat) (he:e<2048) (hf:f<4503599627370496) :
 (FloatKind.f64.format.order (bw s e f) 9218868437227405311==some .gt)=(!s&&(e==2047&&f==0)):=by
 have h:=gt_f64 s false e f 2046 4503599627370495 he hf (by omega) (by omega)
 rw [max_bw] at h;rw [h,odd_lt 2046 _ (by omega)]
 cases ho:odd e f
 · have:=not_odd e f ho
   rw [Bool.eq_iff_iff]
   cases s <;> simp [pl,sg] <;> omega
 · obtain ⟨h1,h2⟩:=is_odd e f ho
   have h3:(f==0)=false:=by simp [h2]
   simp [h1,h3]
theorem eq_zero (s:Bool) (e f:Nat) (he:e<2048) (hf:f<4503599627370496) :
 (FloatKind.f64.format.order (bw s e f) 0==some .eq)=(e==0&&f==0):=by
 have h:=eq_f64 s false e f 0 0 he hf (by omega) (by omega)
 rw [zero_bw] at h;rw [h,odd_lt 0 _ (by omega)]
 cases ho:odd e f
 · rw [Bool.eq_iff_iff]
   cases s <;> simp [pl,sg] <;> omega
 · obtain ⟨h1,h2⟩:=is_odd e f ho
   have h3:(e==0)=false:=by simp [h1]
   simp [h3]
theorem lt_zero (s:Bool) (e f:Nat) (he:e<2048) (hf:f<4503599627370496) (ho:odd e f=false) (hz:(e==0&&f==0)=false) :
 (FloatKind.f64.format.order (bw s e f) 0==some .lt)=s:=by
 have h:=lt_f64 s false e f 0 0 he hf (by omega) (by omega)
 rw [zero_bw] at h;rw [h,odd_lt 0 _ (by omega),ho]
 have hz':¬ (e=0∧f=0):=by rintro ⟨rfl,rfl⟩;simp at hz
 rw [Bool.eq_iff_iff]
 cases s <;> simp [pl,sg] <;> omega
theorem abs_bw (s:Bool) (e f:Nat) (he:e<2048) (hf:f<4503599627370496):bits .andNot .u64 ((bw s e f:Nat):Int) 9223372036854775808=(bw false e f:Int):=by
 have h:=u64_andNot_nat (bw s e f) 9223372036854775808 (bw_lt s e f he hf) (by omega)
 rw [show (((9223372036854775808:Nat)):Int)=9223372036854775808 from rfl] at h
 rw [h,show 18446744073709551615-9223372036854775808=2^63-1 from rfl,Nat.and_two_pow_sub_one_eq_mod]
 congr 1
 unfold bw;cases s <;> simp only [Bool.toNat_true,Bool.toNat_false] <;> omega
end B
section
open Go.RowKit
open Go.Proofs.YtblkpkgebigojaaGreatDoor.B (f64bits f64frombits bw)
attribute [local go_sem] f64bits f64frombits
def kn (a:Int):Bool:=decide (0≤a)&&decide (a≤2)
def may (a b:Int):Bool:=kn a&&kn b
theorem Zbb (a:Int) (w:World):Calls Tryz.prog 189 #[.int .i64 a] w fun r w'=>r=.returned (.bool (kn a))∧w'=w:=by
 unfold kn
 by_cases h:0≤a
 · have hd:decide (0≤a)=true:=decide_eq_true h
   rw [hd];go_enter Tryz.func189,Tryz.ntmps189;go_wp2;go_ret;exact ⟨by first | rfl | simp,rfl⟩
 · have hd:decide (0≤a)=false:=decide_eq_false h
   rw [hd];go_enter Tryz.func189,Tryz.ntmps189;go_wp2;go_ret;exact ⟨by first | rfl | simp,rfl⟩
theorem Zew (a b:Int) (w:World):Calls Tryz.prog 145 #[.agg #[.int .i64 a,.int .i64 b]] w fun r w'=>r=.returned (.bool (may a b))∧Below w.heap.size w w':=by
 unfold may
 rcases ha:kn a with _|_
 · have H:=hid (fun w=>ha ▸ Zbb a w)
   clear ha;go_enter Tryz.func145,Tryz.ntmps145
   go_wp2_with fail
   refine (H.out _).mono ?_;rintro r w1 ⟨rfl,rfl⟩;go_wp2;go_ret;exact ⟨rfl,(Below.refl _ _).alloc (Nat.le_refl _) _⟩
 · have H:=hid (fun w=>ha ▸ Zbb a w)
   have H2:=hid (fun w=>Zbb b w)
   obtain ⟨kb,hkb⟩:∃ k,kn b=k:=⟨_,rfl⟩;rw [hkb] at H2 ⊢;clear ha hkb;go_enter Tryz.func145,Tryz.ntmps145
   go_wp2_with fail
   refine (H.out _).mono ?_;rintro r w1 ⟨rfl,rfl⟩
   go_wp2_with fail
   refine (H2.out _).mono ?_;rintro r w1 ⟨rfl,rfl⟩;go_wp2;go_ret;exact ⟨by first | rfl | simp,(Below.refl _ _).alloc (Nat.le_refl _) _⟩
open Go.RowKit
open Go.Proofs.YtblkpkgebigojaaGreatDoor.B (f64bits f64frombits bw bcell)
attribute [local go_sem] f64bits f64frombits
end
section
open Go.RowKit
theorem Yw {w:World}{a:Option Addr}{n c:Nat}{xs:List Nat}(h1:Arg w a n c xs) (hn:n≤2000000) (neg:Bool) (e:Int) (he0:-9223372036854775808≤e) (he1:e≤9223372036854775807) :
 Calls Tryz.prog 117 #[.agg #[.bool neg,.slice a n c,.int .i64 e]] w fun r w'=>FAns w.heap.size w' r (mkS neg (val xs) e)∧Below w.heap.size w w':=by
 have HB:=qsd (show Below w.heap.size w ((w.alloc (.cells #[.bool neg,.slice a n c,.int .i64 e] 62)).alloc (.cells #[.bool false,.slice none 0 0,.int .i64 0] 62)) from (((Below.refl _ _).alloc (Nat.le_refl _) _).alloc (by simp) _))
 have H1:=hid (J4 (h1.below HB.out) hn neg e he0 he1);have hl:=Ze neg (val xs) e;obtain ⟨o,ho⟩:∃ o,mkS neg (val xs) e=o:=⟨_,rfl⟩;rw [ho] at H1 hl ⊢;unfold FAns at H1 ⊢;obtain ⟨dn,hdn⟩:∃ d,dN o=d:=⟨_,rfl⟩;obtain ⟨X,hdx⟩:∃ d,dX o=d:=⟨_,rfl⟩;obtain ⟨de,hde⟩:∃ d,dE o=d:=⟨_,rfl⟩;obtain ⟨er,her⟩:∃ d,o.isSome=d:=⟨_,rfl⟩;rw [hdn,hdx,hde,her] at H1 ⊢;rw [hdx] at hl;clear h1 ho hdn hdx hde her hn he0 he1;go_enter Tryz.func117,Tryz.ntmps117
 go_wp2_with fail
 refine H1.out.mono ?_;rintro r w2 ⟨⟨v,rfl,hN⟩,hb⟩;obtain ⟨a2,c2,rfl,_⟩:=hN.arg (by omega)
 obtain ⟨hc,hf⟩:=bcell hb;have HF:=qsd (Fin.of 2 HB.out (by simp) hN hb)
 have hz:w.heap.size+1<w2.heap.size:=by have:=hb.size;simp at this;omega
 clear hN hb;go_wp2;exact bodyPost_ret (v:=.tuple #[.agg #[.bool dn,.slice a2 (ws X).length c2,.int .i64 de],.bool er]) (by simp [results,Tryz.results117,go_sem,hc]) rfl (Fin.dans (m:=w.heap.size+2) (by repeat (first | exact HF.out | refine Fin.alloc ?_ _ | refine Fin.set ?_ _ _ _ (by omega) (by omega))) (by omega))
theorem Yz {w:World}{a:Option Addr}{n c:Nat}{xs:List Nat}(h1:Arg w a n c xs) (hT:Tab w) (neg:Bool) (e:Int) (he0:-9223372036854775808≤e) (he1:e≤9223372036854775807) :
 Calls Tryz.prog 156 #[.agg #[.bool neg,.slice a n c,.int .i64 e]] w fun r w'=>DAns w.heap.size w' r (mkS neg (val xs) e)∧Below w.heap.size w w':=by
 have HB:=qsd (show Below w.heap.size w ((w.alloc (.cells #[.bool neg,.slice a n c,.int .i64 e] 62)).alloc (.cells #[.bool false,.slice none 0 0,.int .i64 0] 62)) from (((Below.refl _ _).alloc (Nat.le_refl _) _).alloc (by simp) _))
 have H1:=hid (Z6 (h1.below HB.out) (hT.belows HB.out) neg e he0 he1);have hl:=Ze neg (val xs) e;obtain ⟨o,ho⟩:∃ o,mkS neg (val xs) e=o:=⟨_,rfl⟩;rw [ho] at H1 hl ⊢;unfold DAns at H1 ⊢;obtain ⟨dn,hdn⟩:∃ d,dN o=d:=⟨_,rfl⟩;obtain ⟨X,hdx⟩:∃ d,dX o=d:=⟨_,rfl⟩;obtain ⟨de,hde⟩:∃ d,dE o=d:=⟨_,rfl⟩;obtain ⟨er,her⟩:∃ d,erS o=d:=⟨_,rfl⟩;rw [hdn,hdx,hde,her] at H1 ⊢;rw [hdx] at hl;clear h1 ho hdn hdx hde her hT he0 he1;go_enter Tryz.func156,Tryz.ntmps156
 go_wp2_with fail
 refine H1.out.mono ?_;rintro r w2 ⟨⟨v,rfl,hN⟩,hb⟩;obtain ⟨a2,c2,rfl,_⟩:=hN.arg (by omega)
 obtain ⟨hc,hf⟩:=bcell hb;have HF:=qsd (Fin.of 2 HB.out (by simp) hN hb)
 have hz:w.heap.size+1<w2.heap.size:=by have:=hb.size;simp at this;omega
 clear hN hb;go_wp2;exact bodyPost_ret (v:=.tuple #[.agg #[.bool dn,.slice a2 (ws X).length c2,.int .i64 de],.int .i64 er]) (by simp [results,Tryz.results156,go_sem,hc]) rfl (Fin.dans (m:=w.heap.size+2) (by repeat (first | exact HF.out | refine Fin.alloc ?_ _ | refine Fin.set ?_ _ _ _ (by omega) (by omega))) (by omega))
def DVal (lo:Nat) (w:World) (r:Ending) (o:Option (Bool×Nat×Int)):Prop :=
 ∃ v,r=.returned (.agg #[.bool (dN o),v,.int .i64 (dE o)])∧Nt lo w v (dX o)
theorem Fin.dval {lo m:Nat}{w0 w:World}{n:Bool}{v:Value}{X:Nat}{e:Int}(H:Fin lo m w0 w v X) (h:lo≤m) :
 (∃ v',Ending.returned (.agg #[.bool n,v,.int .i64 e])=.returned (.agg #[.bool n,v',.int .i64 e])∧Nt lo w v' X)∧Below lo w0 w:=⟨⟨v,rfl,H.nt.mono h⟩,H.bel⟩
theorem Zia (a:Option Addr) (n c:Nat) (neg:Bool) (e:Int) (w:World) :
 Calls Tryz.prog 161 #[.agg #[.bool neg,.slice a n c,.int .i64 e]] w fun r w'=>r=.returned (.agg #[.bool (!neg),.slice a n c,.int .i64 e])∧Below w.heap.size w w':=by
 go_enter Tryz.func161,Tryz.ntmps161;go_wp2;exact bodyPost_ret (v:=.agg #[.bool (!neg),.slice a n c,.int .i64 e]) (by simp [results,Tryz.results161,go_sem]) rfl ⟨rfl,by repeat (first | exact Below.refl _ _ | refine Below.alloc ?_ (by first | omega | simp) _ | refine Below.setC ?_ _ _ _ (by omega) (by simp))⟩
theorem Zf1 (a:Option Addr) (n c:Nat) (neg:Bool) (e:Int) (w:World) :
 Calls Tryz.prog 120 #[.agg #[.bool neg,.slice a n c,.int .i64 e]] w fun r w'=>r=.returned (.agg #[.bool (!neg),.slice a n c,.int .i64 e])∧Below w.heap.size w w':=by
 go_enter Tryz.func120,Tryz.ntmps120;go_wp2;exact bodyPost_ret (v:=.agg #[.bool (!neg),.slice a n c,.int .i64 e]) (by simp [results,Tryz.results120,go_sem]) rfl ⟨rfl,by repeat (first | exact Below.refl _ _ | refine Below.alloc ?_ (by first | omega | simp) _ | refine Below.setC ?_ _ _ _ (by omega) (by simp))⟩
end
namespace B
open Go.RowKit
attribute [local go_sem] f64bits f64frombits
theorem eqParts (a c:Bool) (k l x y f g:Int) (w:World):(Op.equalIn 10000 104 (.agg #[.bool a,.int .i64 k,.int .i64 x,.int .u64 f]) (.agg #[.bool c,.int .i64 l,.int .i64 y,.int .u64 g])).run Tryz.prog w=.ok (a==c&&(k==l&&(x==y&&f==g))) w:=by
 have u3:=Tryz.underlying3;have u4:=Tryz.underlying4;have u23:=Tryz.underlying52;have hS:Tryz.prog.underlying 104=some (.struct (Tryz.prog.fieldsOf 104)):=by kernel_rfl
 have hp:Tryz.prog.stoodInHeld 104=false:=by kernel_rfl
 rw [show (10000:Nat)=9999+1 from rfl,run_equalIn_agg w 9999 104 _ _ hS hp]
 simp only [Program.fieldsOf,Tryz.underlying104]
 go_simp
 by_cases h1:a=c <;> by_cases h2:k=l <;> by_cases h3:x=y <;> by_cases h4:f=g <;> simp [h1,h2,h3,h4]
attribute [local go_sem] eqParts
theorem fld0 (a:Bool) (k x f:Int) (w:World):(Instr.field 104 (.agg #[.bool a,.int .i64 k,.int .i64 x,.int .u64 f]) 0).run Tryz.prog w=.ok (.bool a) w:=by kernel_rfl
theorem fld1 (a:Bool) (k x f:Int) (w:World):(Instr.field 104 (.agg #[.bool a,.int .i64 k,.int .i64 x,.int .u64 f]) 1).run Tryz.prog w=.ok (.int .i64 k) w:=by kernel_rfl
theorem fld2 (a:Bool) (k x f:Int) (w:World):(Instr.field 104 (.agg #[.bool a,.int .i64 k,.int .i64 x,.int .u64 f]) 2).run Tryz.prog w=.ok (.int .i64 x) w:=by kernel_rfl
theorem fld3 (a:Bool) (k x f:Int) (w:World):(Instr.field 104 (.agg #[.bool a,.int .i64 k,.int .i64 x,.int .u64 f]) 3).run Tryz.prog w=.ok (.int .u64 f) w:=by kernel_rfl
attribute [local go_sem] fld0 fld1 fld2 fld3
theorem parts_lit (s:Bool) (e f:Nat) (he:e<2048) (hf:f<4503599627370496) (w:World) :
 Calls Tryz.prog 133 #[.int .u64 (bw s e f),.int .i64 11,.int .i64 52] w fun r w'=>r=.returned (.agg #[.bool (ng s e f),.int .i64 (cls e f),.int .i64 (xp e),.int .u64 (fr e f)])∧Below w.heap.size w w' :=
 parts_any s e f he hf w
theorem cb_bw (s:Bool) (e f:Nat) (he:e<2048) (hf:f<4503599627370496):∃ t u v,u<2048∧v<4503599627370496∧cb s e f=bw t u v∧(Value.agg #[.bool (ng t u v),.int .i64 (cls u v),.int .i64 (xp u),.int .u64 (fr u v)])=(.agg #[.bool (ng s e f),.int .i64 (cls e f),.int .i64 (xp e),.int .u64 (fr e f)]):=by
 by_cases h:e=2047∧f≠0
 · refine ⟨false,2047,2251799813685248,by omega,by omega,?_,?_⟩
   · rw [cb_odd s e f h];rfl
   · obtain ⟨rfl,h2⟩:=h
     simp [ng,cls,xp,fr,h2]
 · exact ⟨s,e,f,he,hf,cb_else s e f h,rfl⟩
theorem rSplit_any (s:Bool) (e f:Nat) (he:e<2048) (hf:f<4503599627370496) (w:World) :
 Calls Tryz.prog 90 #[.float .f64 (bw s e f)] w fun r w'=>r=.returned (.agg #[.bool (ng s e f),.int .i64 (cls e f),.int .i64 (xp e),.int .u64 (fr e f)])∧Below w.heap.size w w':=by
 obtain ⟨t,u,v,hu,hv,hE,hV⟩:=cb_bw s e f he hf;have HE:Hid (cb s e f=bw t u v):=hE;rw [←hV];clear hE hV;go_enter Tryz.func90,Tryz.ntmps90
 go_wp2_with (first
  | (go_at_call 134;refine (rBits_any s e f he hf _).mono ?_;rintro r w1 ⟨rfl,rfl⟩;rw [HE.out])
  | (go_at_call 133;refine (parts_lit t u v hu hv _).mono ?_;rintro r w1 ⟨rfl,hb⟩;(obtain ⟨hc,hfz⟩:=bcell hb;have hz:w.heap.size<w1.heap.size:=by (have:=hb.size;simp at this;omega))))
 exact bodyPost_ret (v:=.agg #[.bool (ng t u v),.int .i64 (cls u v),.int .i64 (xp u),.int .u64 (fr u v)]) (by simp [results,Tryz.results90,go_sem,hc]) rfl ⟨rfl,(by repeat (first | exact Below.refl _ _ | exact ((Below.refl _ _).alloc (Nat.le_refl _) _).trans (hb.mono (by simp)) | exact Nat.le_refl _ | (simp;done) | (simp;omega) | refine Below.alloc ?_ ?_ _ | refine Below.setCell ?_ ?_ _ | refine Below.drew ?_))⟩
theorem rClass_any (s:Bool) (e f:Nat) (he:e<2048) (hf:f<4503599627370496) (w:World) :
 Calls Tryz.prog 54 #[.float .f64 (bw s e f)] w fun r w'=>r=.returned (.int .i64 (cls e f))∧Below w.heap.size w w':=by
 go_enter Tryz.func54,Tryz.ntmps54
 go_wp2_with (go_at_call 90;refine (rSplit_any s e f he hf _).mono ?_;rintro r w1 ⟨rfl,hb⟩)
 go_ret;exact ⟨rfl,hb⟩
end B
namespace B
open Go.RowKit
attribute [local go_sem] f64bits f64frombits
theorem abs_any (s:Bool) (e f:Nat) (he:e<2048) (hf:f<4503599627370496) (w:World) :
 Calls Tryz.prog 85 #[.float .f64 (bw s e f)] w fun r w'=>r=.returned (.float .f64 (bw false e f))∧w'=w:=by
 have h1:=abs_bw s e f he hf;go_enter Tryz.func85,Tryz.ntmps85;go_wp2;go_ret;exact ⟨rfl,rfl⟩
end B
end Go.Proofs.YtblkpkgebigojaaGreatDoor
