import Derived.Test.YthejkolknalpaaaGreatDoorF5x
import Derived.Test.YthejkolknalpaaaGreatDoorE6x
import Derived.Test.YthejkolknalpaaaGreatDoorM1x
import Derived.Deep.LoopGhost
import Derived.Deep.RegionHeld3
import Derived.RangeFuncNested
import Derived.RangeFuncBound
import Derived.RangeFuncCalls
import Derived.RangeFuncLeaves
import Derived.RangeFuncBox
import Derived.Shelf.Abstract
import Derived.Shelf.RegionOpen
import Derived.WalkKit
import Derived.OwnWalkIn
import Derived.TacticsInMore
import Derived.LoopNIn
import Derived.LoopIn
import Derived.Test.YthejkolknalpaaaGreatDoorZ9x
import Derived.Test.YthejkolknalpaaaGreatDoorD21x
import Derived.Test.YthejkolknalpaaaGreatDoorD16x
import Derived.Test.YthejkolknalpaaaGreatDoorSL6x
import Derived.Test.YthejkolknalpaaaGreatDoorD30x
import Derived.Test.YthejkolknalpaaaGreatDoorW24x
import Derived.Deep.CutRange
import Derived.Deep.Cut
set_option linter.unusedVariables false
set_option linter.unusedSimpArgs false
set_option maxHeartbeats 16000000
set_option maxRecDepth 20000
namespace Go.Proofs.YthejkolknalpaaaGreatDoor
namespace J
end J
section
open Go Go.RowKit J
def Dr (w:World) (g n k:Nat) (A:Nat→Option (Bool×Nat×Int)):Prop:=∃ cur:Array Value,w.heap[g]?=some (.cells cur 67 (0,0))∧cur.size=n*3∧∀ i,i<k→∃ a c,cur[i*3]?=some (.bool (dN (A i)))∧cur[i*3+1]?=some (.slice a (ws (dX (A i))).length c)∧cur[i*3+2]?=some (.int .i64 (dE (A i)))∧Nt 0 w (.slice a (ws (dX (A i))).length c) (dX (A i))
theorem Dr.lt {w:World}{g n k:Nat}{A:Nat→Option (Bool×Nat×Int)}(h:Dr w g n k A):g<w.heap.size:=by obtain ⟨c,h,_⟩:=h;exact (Array.getElem?_eq_some_iff.1 h).1
theorem Dr.below {w w':World}{g n k:Nat}{A:Nat→Option (Bool×Nat×Int)}(h:Dr w g n k A) (hb:Below w.heap.size w w'):Dr w' g n k A:=by
 have hl:=h.lt;obtain ⟨c,h,hs,r⟩:=h;refine ⟨c,by rw [hb.block g hl];exact h,hs,fun i hi=>?_⟩
 obtain ⟨a,d,r1,r2,r3,r4⟩:=r i hi;exact ⟨a,d,r1,r2,r3,r4.below hb⟩
theorem Dr.facts {w:World}{g n k:Nat}{A:Nat→Option (Bool×Nat×Int)}(h:Dr w g n k A) (i:Nat) (hi:i<k) :
 ∃ a c,w.cell? ⟨g,i*3,none⟩=some (.bool (dN (A i)))∧w.cell? ⟨g,i*3+1,none⟩=some (.slice a (ws (dX (A i))).length c)∧w.cell? ⟨g,i*3+2,none⟩=some (.int .i64 (dE (A i)))∧Nt 0 w (.slice a (ws (dX (A i))).length c) (dX (A i)):=by
 obtain ⟨c,h,hs,r⟩:=h;obtain ⟨a,d,r1,r2,r3,r4⟩:=r i hi;refine ⟨a,d,?_,?_,?_,r4⟩ <;> simp [World.cell?,h,r1,r2,r3]
theorem Dr.room {w:World}{g n k:Nat}{A:Nat→Option (Bool×Nat×Int)}(h:Dr w g n k A) (j:Nat) (hj:j<n*3):(∃ v,w.cell? ⟨g,j,none⟩=some v)∧w.frozen? ⟨g,j,none⟩=false:=by
 obtain ⟨c,h,hs,r⟩:=h;refine ⟨⟨c[j]'(by omega),?_⟩,?_⟩
 · simp [World.cell?,h]
 · simp [World.frozen?,h]
abbrev st3o (w:World) (g o:Nat) (a b c:Value):World:=((w.setCell ⟨g,o,none⟩ a).setCell ⟨g,o+1,none⟩ b).setCell ⟨g,o+2,none⟩ c
theorem st3o_but (g o:Nat) (w:World) (a b c:Value):But g w (st3o w g o a b c):=(((But.refl g w).set _ _).set _ _).set _ _
theorem Dr.step {w:World}{g n i:Nat}{A:Nat→Option (Bool×Nat×Int)}(h:Dr w g n i A) (hi:i<n) {a:Option Addr}{c:Nat}(hN:Nt 0 w (.slice a (ws (dX (A i))).length c) (dX (A i))) :
 Dr (st3o w g (i*3) (.bool (dN (A i))) (.slice a (ws (dX (A i))).length c) (.int .i64 (dE (A i)))) g n (i+1) A:=by
 obtain ⟨cur,h1,hs,r⟩:=h;refine ⟨_,setc (setc (setc h1 (i*3) _) (i*3+1) _) (i*3+2) _,by simp;exact hs,fun j hj=>?_⟩
 by_cases e:j=i
 · subst e
   refine ⟨a,c,?_,?_,?_,hN.off (st3o_but _ _ _ _ _ _) (hN.notin (by decide) h1)⟩ <;> (simp [Array.getElem?_setIfInBounds];omega)
 · obtain ⟨b,d,r1,r2,r3,r4⟩:=r j (by omega)
   refine ⟨b,d,?_,?_,?_,r4.off (st3o_but _ _ _ _ _ _) (r4.notin (by decide) h1)⟩
   · rw [←r1];simp [Array.getElem?_setIfInBounds,show i*3≠j*3 by omega,show i*3+1≠j*3 by omega,show i*3+2≠j*3 by omega]
   · rw [←r2];simp [Array.getElem?_setIfInBounds,show i*3≠j*3 by omega,show i*3≠j*3+1 by omega,show i*3≠j*3+2 by omega,show i*3+1≠j*3 by omega,show i*3+1≠j*3+1 by omega,show i*3+1≠j*3+2 by omega,show i*3+2≠j*3 by omega,show i*3+2≠j*3+1 by omega,show i*3+2≠j*3+2 by omega,show i≠j by omega]
   · rw [←r3];simp [Array.getElem?_setIfInBounds,show i*3≠j*3 by omega,show i*3≠j*3+1 by omega,show i*3≠j*3+2 by omega,show i*3+1≠j*3 by omega,show i*3+1≠j*3+1 by omega,show i*3+1≠j*3+2 by omega,show i*3+2≠j*3 by omega,show i*3+2≠j*3+1 by omega,show i*3+2≠j*3+2 by omega,show i≠j by omega]
theorem Tryz.und_dyads14:Tryz.prog.underlying 123=some (.slice 67):=by kernel_rfl
theorem Tryz.info_dyad14:(Tryz.prog.info? 67).map (fun i=>(i.zero,i.size,i.bytes))=some (some (.agg #[.bool false,.slice none 0 0,.int .i64 0]),3,40):=by kernel_rfl
theorem make_dyads14 (n:Nat) (hn:n≤65536) (w:World) :
 (Instr.makeSlice 123 (.int .i64 (n:Nat)) (.int .i64 (n:Nat))).run Tryz.prog w=.ok (.slice (some ⟨w.heap.size,0,none⟩) n n) (w.alloc (.cells (madeCells #[.bool false,.slice none 0 0,.int .i64 0] (n*3)) 67)):=by
 have h:=Tryz.info_dyad14
 cases hq:Tryz.prog.info? 67 with
 | none=>rw [hq] at h;cases h
 | some i =>
   rw [hq] at h;simp only [Option.map_some,Option.some.injEq,Prod.mk.injEq] at h;obtain ⟨hz,hs,hb⟩:=h;have:=run_make (P:=Tryz.prog) w 123 67 i _ Tryz.und_dyads14 hq hz .i64 .i64 (n:Nat) (n:Nat) (by omega) (by omega) (by rw [hb];omega) (by omega)
   rw [hs,Int.toNat_natCast] at this;exact this
theorem Dr.made (w:World) (n:Nat) (A:Nat→Option (Bool×Nat×Int)):Dr (w.alloc (.cells (madeCells #[.bool false,.slice none 0 0,.int .i64 0] (n*3)) 67)) w.heap.size n 0 A :=
 ⟨_,heap_alloc_new _ _,size_madeCells _ _,fun i hi=>absurd hi (by omega)⟩
theorem of_odd14 (x:Nat) (hx:x<18446744073709551616) (fx:¬ finW x) (w:World) (hT:Tab w) :
 Calls Tryz.prog 112 #[.float .f64 x] w fun r w'=>(∃ a c,r=.returned (.tuple #[.agg #[.bool false,.slice a 0 c,.int .i64 0],.int .i64 30])∧Nt w.heap.size w' (.slice a 0 c) 0)∧Below w.heap.size w w':=by
 have e:B.bw (negW x) (magW x/4503599627370496) (magW x%4503599627370496)=x:=by
  have h1:magW x=x%9223372036854775808:=rfl;unfold B.bw
  by_cases h:9223372036854775808≤x
  · rw [show negW x=true from decide_eq_true h];simp only [Bool.toNat_true];omega
  · rw [show negW x=false from decide_eq_false h];simp only [Bool.toNat_false];omega
 have hm:magW x<9223372036854775808:=Nat.mod_lt _ (by decide)
 have hm2:¬ magW x<9218868437227405312:=fx;have:=Of_any (negW x) (magW x/4503599627370496) (magW x%4503599627370496) (by omega) (by omega) w hT
 rw [e] at this;refine this.mono ?_;rintro r w' ⟨⟨v,rfl,hN⟩,hb⟩;have e1:ofR (negW x) (magW x/4503599627370496) (magW x%4503599627370496)=none:=by unfold ofR;rw [if_pos (by omega)]
 have e2:ofE (magW x/4503599627370496)=30:=by unfold ofE;rw [if_pos (by omega)]
 rw [e1] at hN ⊢;rw [e2];obtain ⟨a,c,rfl,_⟩:=hN.arg (by show (ws 0).length≤_;rw [ws_zero];decide)
 rw [show (ws (dX (none:Option (Bool×Nat×Int)))).length=0 by simp [dX,ws_zero]] at hN ⊢
 exact ⟨⟨a,c,rfl,hN⟩,hb⟩
theorem of14 (x:Nat) (hx:x<18446744073709551616) (fx:finW x) (w:World) (hT:Tab w) :
 Calls Tryz.prog 112 #[.float .f64 x] w fun r w'=>(∃ v,r=.returned (.tuple #[.agg #[.bool (dN (gV 1074 (fvW x))),v,.int .i64 (dE (gV 1074 (fvW x)))],.int .i64 0])∧Nt w.heap.size w' v (dX (gV 1074 (fvW x))))∧Below w.heap.size w w':=of_any8 x ⟨hx,fx⟩ w hT
theorem exactC14 (i n g4 gA:Nat) (A:Nat→Option (Bool×Nat×Int)) (u:World) (hi:i<n) (hn:n≤65536) (hB:Bl u g4 123 [.slice (some ⟨gA,0,none⟩) n n]) (hD:Dr u gA n n A) :
 Calls Tryz.prog 114 #[.int .i64 (i:Nat),.pointer (some ⟨g4,0,none⟩)] u fun r w'=>DVal 0 w' r (A i)∧Below u.heap.size u w':=by
 obtain ⟨W,hW⟩:∃ W,W=u.alloc (Obj.cells #[.bool false,.slice none 0 0,.int .i64 0] 67):=⟨_,rfl⟩
 have H0:Aside (Lo W u.heap.size o00∧Dr W gA n n A∧Bl W g4 123 [.slice (some ⟨gA,0,none⟩) n n]∧Below u.heap.size u W):=by
  rw [hW];exact ⟨Lo.zero _,hD.below (below_alloc _ _),hB.below (below_alloc _ _) hB.lt,below_alloc _ _⟩
 have HW:=qsd hW;clear hW hB hD;go_enter Tryz.func114,Tryz.ntmps114
 go_upto_region 1 with fail
 rw [←HW.out];clear HW;have s0:=H0.out.2.2.1.cell 0 _ rfl;obtain ⟨a,c,x0,x1,x2,M⟩:=H0.out.2.1.facts i hi;have MM1:=qsd M;obtain ⟨p2,q2,D2,M2⟩:=H0.out.1;obtain ⟨y0,y1,y2,yf0,yf1,yf2⟩:=D2.facts;clear D2 M2 M;go_wp2;exact end14 Tryz.results114 rfl H0.out.1 H0.out.2.2.2 (by omega) MM1.out
theorem Dr.but {w w':World}{g g' n k T:Nat}{A:Nat→Option (Bool×Nat×Int)}{L:List Value}(h:Dr w g n k A) (hb:But g' w w') (hB:Bl w g' T L) (hg:g≠g') (hT:T≠89):Dr w' g n k A:=by
 have hl:=h.lt;obtain ⟨c,h,hs,r⟩:=h;refine ⟨c,by rw [hb.block g hl hg];exact h,hs,fun i hi=>?_⟩
 obtain ⟨a,d,r1,r2,r3,r4⟩:=r i hi;exact ⟨a,d,r1,r2,r3,r4.off hb (r4.notin hT hB)⟩
def fiB (xs:List Nat):Bool:=xs.all (fun x=>decide (magW x<9218868437227405312))
theorem fiB_iff (xs:List Nat):fiB xs=true↔∀ x ∈ xs,finW x:=by
 unfold fiB;rw [List.all_eq_true]
 constructor
 · intro h x hx;exact of_decide_eq_true (h x hx)
 · intro h x hx;exact decide_eq_true (h x hx)
def exE (xs:List Nat):Int:=if 65536<xs.length then 2 else if fiB xs then 0 else 30
def fX (xs:List Nat) (i:Nat):Int:=fvW (xs.getD i 0)
def sX (xs:List Nat):Int:=tS (fX xs) xs.length
theorem fX_bd {xs:List Nat}(hW:W64 xs) (hf:∀ x ∈ xs,finW x) (i:Nat) (hi:i<xs.length):Bd 2098 (fX xs i):=by
 unfold fX;rw [List.getD_eq_getElem?_getD,List.getElem?_eq_getElem hi]
 exact fv_bd (hW _ (List.getElem_mem hi)) (hf _ (List.getElem_mem hi))
theorem sX_bd {xs:List Nat}(hW:W64 xs) (hf:∀ x ∈ xs,finW x) (hl:xs.length≤65536) (k:Nat) (hk:k≤xs.length):Bd 2114 (tS (fX xs) k):=tS_bd (fun i hi=>fX_bd hW hf i hi) hl k hk
def Rr (w:World) (v:Value) (n:Nat) (A:Nat→Option (Bool×Nat×Int)) (S:Option (Bool×Nat×Int)):Prop:=∃ gA a c,v=.agg #[.slice (some ⟨gA,0,none⟩) n n,.bool (dN S),.slice a (ws (dX S)).length c,.int .i64 (dE S)]∧Dr w gA n n A∧Nt 0 w (.slice a (ws (dX S)).length c) (dX S)
theorem exact14 (xs:List Nat) (a:Option Addr) (n c:Nat) (w:World) (hn:n=xs.length) (hF:Fs w.heap.size w a xs) (hW:W64 xs) (hT:Tab w) (hl:n≤35184372088832) :
 Calls Tryz.prog 82 #[.slice a n c] w fun r w' =>
  ((exE xs≠0∧r=.returned (.tuple #[.agg #[.slice none 0 0,.bool false,.slice none 0 0,.int .i64 0],.int .i64 (exE xs)])) ∨
   (exE xs=0∧∃ v,r=.returned (.tuple #[v,.int .i64 0])∧Rr w' v n (fun i=>gV 1074 (fX xs i)) (gV 1074 (sX xs))))∧Below w.heap.size w w':=by
 obtain ⟨W,hWW⟩:∃ W,W=w.alloc (Obj.cells #[.slice none 0 0,.bool false,.slice none 0 0,.int .i64 0] 125):=⟨_,rfl⟩
 have H0:Aside (Bl W w.heap.size 125 [.slice none 0 0,.bool false,.slice none 0 0,.int .i64 0]∧Below w.heap.size w W):=by
  rw [hWW];exact ⟨Bl.new _ 125 [_,_,_,_],bel_alloc _ _⟩
 have HWW:=qsd hWW;clear hWW
 by_cases hL:65536<n
 · have e:exE xs=2:=by unfold exE;rw [if_pos (by omega)]
   rw [e];have d5:decide ((65536:Int)<(n:Nat))=true:=by simp;omega
   clear hn hF hW hT e;go_enter Tryz.func82,Tryz.ntmps82
   go_upto_region 1 with fail
   rw [←HWW.out];clear HWW;have c0:=H0.out.1.cell 0 _ rfl;have c1:=H0.out.1.cell 1 _ rfl;have c2:=H0.out.1.cell 2 _ rfl;have c3:=H0.out.1.cell 3 _ rfl;have f0:=H0.out.1.frozen 0;have f1:=H0.out.1.frozen 1;have f2:=H0.out.1.frozen 2;have f3:=H0.out.1.frozen 3;go_wp2;have q:=(((H0.out.1.set 0 (.slice none 0 0)).set 1 (.bool false)).set 2 (.slice none 0 0)).set 3 (.int .i64 0);have g0:=q.cell 0 _ rfl;have g1:=q.cell 1 _ rfl;have g2:=q.cell 2 _ rfl;have g3:=q.cell 3 _ rfl;refine bodyPost_ret (v:=.tuple #[.agg #[.slice none 0 0,.bool false,.slice none 0 0,.int .i64 0],.int .i64 2]) (by simp [results,Tryz.results82,go_sem,g0,g1,g2,g3]) rfl ⟨.inl ⟨by decide,rfl⟩,?_⟩
   exact But.below H0.out.2 (((((But.refl _ _).set 0 _).set 1 _).set 2 _).set 3 _) H0.out.2.size (Nat.le_refl _)
 · have d5:decide ((65536:Int)<(n:Nat))=false:=by simp;omega
   have hmk:=make_dyads14 n (by omega)
   obtain ⟨A,hA⟩:∃ A:Nat→Option (Bool×Nat×Int),A=fun i=>gV 1074 (fX xs i):=⟨_,rfl⟩
   obtain ⟨W1,hW1⟩:∃ W1,W1=(W.alloc (.cells (madeCells #[.bool false,.slice none 0 0,.int .i64 0] (n*3)) 67)).alloc (Obj.cells #[.slice (some ⟨w.heap.size+1,0,none⟩) n n] 123):=⟨_,rfl⟩;have hws:W.heap.size=w.heap.size+1:=by rw [HWW.out];simp
   have H1:Aside (Dr W1 (w.heap.size+1) n 0 A∧Bl W1 (w.heap.size+2) 123 [.slice (some ⟨w.heap.size+1,0,none⟩) n n]∧Bl W1 w.heap.size 125 [.slice none 0 0,.bool false,.slice none 0 0,.int .i64 0]∧Below w.heap.size w W1):=by
    rw [hW1];have z1:=Dr.made W n A;rw [hws] at z1;have z2:=Bl.new (W.alloc (.cells (madeCells #[.bool false,.slice none 0 0,.int .i64 0] (n*3)) 67)) 123 [.slice (some ⟨w.heap.size+1,0,none⟩) n n];rw [World.size_alloc,hws] at z2;have b0:=H0.out;exact ⟨z1.below (below_alloc _ _),z2,(b0.1.alloc _).alloc _,(b0.2.trans ((below_alloc _ _).mono b0.2.size)).trans ((below_alloc _ _).mono (by simp;have:=b0.2.size;omega))⟩
   have HW1:=qsd hW1;have HX:=qsd (ai hn (ai hF (ai hW (ai hT hA))));have HL:=qsd hL
   have HE:Aside (∀ x ∈ xs,¬ finW x→exE xs=30):=by
    intro x hx hf;unfold exE;rw [if_neg (by omega),if_neg (by intro q;exact hf ((fiB_iff xs).1 q x hx))]
   clear hW1 hn hF hW hT hA hws hL;go_enter Tryz.func82,Tryz.ntmps82
   go_upto_region 1 with fail
   rw [←HWW.out]
   go_upto_region 4 with fail
   have hgs:W.heap.size=w.heap.size+1:=by rw [HWW.out];simp
   try rw [hgs]
   rw [←HW1.out];clear HW1 HWW hgs;go_wp2
   go_loopg [17] n (fun gk i wr=>∃ j:Nat,gk+j=n∧i=.int .i64 (j:Nat)∧Aside (Dr wr (w.heap.size+1) n j A∧Bl wr (w.heap.size+2) 123 [.slice (some ⟨w.heap.size+1,0,none⟩) n n]∧Bl wr w.heap.size 125 [.slice none 0 0,.bool false,.slice none 0 0,.int .i64 0]∧Below w.heap.size w wr∧∀ i,i<j→finW (xs.getD i 0)))
   case atStart=>exact ⟨0,by omega,by simp,H1.out.1,H1.out.2.1,H1.out.2.2.1,H1.out.2.2.2,fun i hi=>absurd hi (by omega)⟩
   case round =>
    obtain ⟨j,hgj,rfl,HA⟩:=hrel
    by_cases hj:j<n
    · obtain ⟨b,off,rfl,hc⟩:=HX.out.2.1.at HA.out.2.2.2.1 j (by rw [←HX.out.1];exact hj)
      obtain ⟨x,hx⟩:∃ x,x=xs.getD j 0:=⟨_,rfl⟩;rw [←hx] at hc;have hx64:x<18446744073709551616:=by rw [hx];exact HX.out.2.2.1.get j
      by_cases hfx:finW x
      · have C:=hid (of14 x hx64 hfx wr (HX.out.2.2.2.1.belows HA.out.2.2.2.1))
        have eA:gV 1074 (fvW x)=A j:=by rw [HX.out.2.2.2.2,hx];rfl
        rw [eA] at C;have FA:Fm (A j):=by rw [←eA];exact g_fm (by decide) (by decide) (fv_bd hx64 hfx)
        have PA:=(qsd (ai FA (ai hfx hx)));clear eA FA hfx hx hx64
        go_wp2_with fail
        refine C.out.mono ?_;rintro r u ⟨⟨v,rfl,hN⟩,hb⟩;obtain ⟨a1,c1,rfl,hN0⟩:=Lo.shape PA.out.1 hN;obtain ⟨U,hU⟩:∃ U,U=u.alloc (Obj.cells #[.bool (dN (A j)),.slice a1 (ws (dX (A j))).length c1,.int .i64 (dE (A j))] 67):=⟨_,rfl⟩
        have H2:Aside (Dk U u.heap.size (dN (A j)) (.slice a1 (ws (dX (A j))).length c1) (dE (A j))∧Nt 0 U (.slice a1 (ws (dX (A j))).length c1) (dX (A j))∧Dr U (w.heap.size+1) n j A∧Bl U (w.heap.size+2) 123 [.slice (some ⟨w.heap.size+1,0,none⟩) n n]∧Bl U w.heap.size 125 [.slice none 0 0,.bool false,.slice none 0 0,.int .i64 0]∧Below w.heap.size w U):=by
         rw [hU];have b0:=HA.out.2.2.2.1;exact ⟨Dk.new _ _ _ _,hN0.below (below_alloc _ _),(HA.out.1.below hb).below (below_alloc _ _),(HA.out.2.1.below hb HA.out.2.1.lt).alloc _,(HA.out.2.2.1.below hb HA.out.2.2.1.lt).alloc _,(b0.trans (hb.mono b0.size)).trans ((below_alloc _ _).mono (Nat.le_trans b0.size hb.size))⟩
        obtain ⟨gq,hgq⟩:∃ g,g=u.heap.size:=⟨_,rfl⟩;rw [←hgq] at H2;have HU:=(qsd (ai hU hgq));clear hU hN hN0 hb C hgq hc
        go_upto_region 10 with fail
        rw [←HU.out.1,←HU.out.2];clear HU;obtain ⟨x0,x1,x2,xf0,xf1,xf2⟩:=H2.out.1.facts;have s0:=H2.out.2.2.2.1.cell 0 _ rfl;obtain ⟨⟨v0,k0⟩,kf0⟩:=H2.out.2.2.1.room (j*3) (by omega)
        obtain ⟨⟨v1,k1⟩,kf1⟩:=H2.out.2.2.1.room (j*3+1) (by omega)
        obtain ⟨⟨v2,k2⟩,kf2⟩:=H2.out.2.2.1.room (j*3+2) (by omega)
        go_wp2
        go_roundg (gk-1)
        case measure=>omega
        case rel =>
         have hbt:=st3o_but (w.heap.size+1) (j*3) U (.bool (dN (A j))) (.slice a1 (ws (dX (A j))).length c1) (.int .i64 (dE (A j)));refine ⟨j+1,by omega,by first | rfl | simp,H2.out.2.2.1.step hj H2.out.2.1,H2.out.2.2.2.1.but hbt (by omega),H2.out.2.2.2.2.1.but hbt (by omega),But.below H2.out.2.2.2.2.2 hbt H2.out.2.2.2.2.2.size (by omega),fun i hi=>?_⟩
         by_cases e:i=j
         · subst e;rw [←PA.out.2.2];exact PA.out.2.1
         · exact HA.out.2.2.2.2 i (by omega)
      · have C:=hid (of_odd14 x hx64 hfx wr (HX.out.2.2.2.1.belows HA.out.2.2.2.1))
        have e30:exE xs=30:=HE.out x (by rw [hx,List.getD_eq_getElem?_getD,List.getElem?_eq_getElem (by rw [←HX.out.1];exact hj)];exact List.getElem_mem _) hfx
        have E30:=qsd e30;clear hfx hx hx64 e30
        go_wp2_with fail
        refine C.out.mono ?_;rintro r u ⟨⟨a1,c1,rfl,hN⟩,hb⟩;obtain ⟨U,hU⟩:∃ U,U=u.alloc (Obj.cells #[.bool false,.slice a1 0 c1,.int .i64 0] 67):=⟨_,rfl⟩
        have H2:Aside (Bl U w.heap.size 125 [.slice none 0 0,.bool false,.slice none 0 0,.int .i64 0]∧Below w.heap.size w U):=by
         rw [hU];have b0:=HA.out.2.2.2.1;exact ⟨(HA.out.2.2.1.below hb HA.out.2.2.1.lt).alloc _,(b0.trans (hb.mono b0.size)).trans ((below_alloc _ _).mono (Nat.le_trans b0.size hb.size))⟩
        have HU:=qsd hU;clear hU hN hb C hc
        go_upto_region 9 with fail
        rw [←HU.out];clear HU;have c0:=H2.out.1.cell 0 _ rfl;have c1:=H2.out.1.cell 1 _ rfl;have c2:=H2.out.1.cell 2 _ rfl;have c3:=H2.out.1.cell 3 _ rfl;have f0:=H2.out.1.frozen 0;have f1:=H2.out.1.frozen 1;have f2:=H2.out.1.frozen 2;have f3:=H2.out.1.frozen 3;go_wp2;have q:=(((H2.out.1.set 0 (.slice none 0 0)).set 1 (.bool false)).set 2 (.slice none 0 0)).set 3 (.int .i64 0);have g0:=q.cell 0 _ rfl;have g1:=q.cell 1 _ rfl;have g2:=q.cell 2 _ rfl;have g3:=q.cell 3 _ rfl;refine bodyPost_ret (v:=.tuple #[.agg #[.slice none 0 0,.bool false,.slice none 0 0,.int .i64 0],.int .i64 30]) (by simp [results,Tryz.results82,go_sem,g0,g1,g2,g3]) rfl ⟨.inl ⟨by rw [E30.out];decide,by rw [E30.out]⟩,?_⟩
        exact But.below H2.out.2 (((((But.refl _ _).set 0 _).set 1 _).set 2 _).set 3 _) H2.out.2.size (Nat.le_refl _)
    · obtain rfl:n=j:=by omega
      have hd:decide ((n:Int)<n)=false:=by simp
      have hall:∀ x ∈ xs,finW x:=by
       intro x hx;obtain ⟨i,hi,e⟩:=List.getElem_of_mem hx;have:=HA.out.2.2.2.2 i (by rw [HX.out.1];exact hi)
       rw [List.getD_eq_getElem?_getD,List.getElem?_eq_getElem hi] at this
       rw [←e];exact this
      have e0:exE xs=0:=by unfold exE;rw [if_neg (by have:=HL.out;have:=HX.out.1;omega),if_pos ((fiB_iff xs).2 hall)]
      have E0:=qsd e0;obtain ⟨S,hS⟩:∃ S,S=gV 1074 (sX xs):=⟨_,rfl⟩;have FS:Fm S:=by rw [hS];exact g_fm (by decide) (by decide) (sX_bd HX.out.2.2.1 hall (by have:=HL.out;have:=HX.out.1;omega) _ (Nat.le_refl _))
      have HS:=qsd hS
      have HC:Hid (∀ u:World,Below wr.heap.size wr u→Tab u→Calls Tryz.prog 113 #[.int .i64 (n:Nat),.func (.func 114) #[] #[.pointer (some ⟨w.heap.size+2,0,none⟩)]] u fun r w'=>DVal 0 w' r S∧Below u.heap.size u w'):=fun u hu hTu=>by
       have hl:=HL.out
       have:=total14_e u n (w.heap.size+2) A (fun i=>gV 1074 (tS (fX xs) i)) (by omega) hTu (fun i hi=>by rw [HX.out.2.2.2.2];exact g_fm (by decide) (by decide) (fX_bd HX.out.2.2.1 hall i (by rw [←HX.out.1];exact hi)))
        (fun i hi=>g_fm (by decide) (by decide) (sX_bd HX.out.2.2.1 hall (by have:=HX.out.1;omega) i (by rw [←HX.out.1];exact hi)))
        (fun i hi=>by rw [HX.out.2.2.2.2];exact g_add (by decide) (by decide) (sX_bd HX.out.2.2.1 hall (by have:=HX.out.1;omega) i (by rw [←HX.out.1];omega)) ((fX_bd HX.out.2.2.1 hall i (by rw [←HX.out.1];exact hi)).mono (by decide)))
        (g_zero 1074).symm (hid fun i v hi hv=>exactC14 i n (w.heap.size+2) (w.heap.size+1) A v hi (by omega) ((HA.out.2.1.below hu HA.out.2.1.lt).below hv (HA.out.2.1.below hu HA.out.2.1.lt).lt) ((HA.out.1.below hu).below hv))
       rw [hS];unfold sX;rw [←HX.out.1];exact this
      have hdr:=(Below.refl wr.heap.size wr).drew;have HT:=qsd (HX.out.2.2.2.1.belows HA.out.2.2.2.1);have BD:=(qsd (ai (HA.out.1.below hdr) (ai (HA.out.2.1.below hdr HA.out.2.1.lt) (ai (HA.out.2.2.1.below hdr HA.out.2.2.1.lt) (HA.out.2.2.2.1.trans (hdr.mono HA.out.2.2.2.1.size))))));have kS:=qsd (BD.out.2.1.cell 0 _ rfl);have hmf:∀ (fn:Fn) (first cap:Array Value) (w:World),(Instr.makeFunc fn first cap).run Tryz.prog w=.ok (.func fn first cap) w:=fun _ _ _ _=>rfl
      have FFS:=qsd FS;have C:=hid (HC.out wr.drew hdr (HT.out.belows hdr));have r0:=BD.out.2.2.1.frozen 0;have r1:=BD.out.2.2.1.frozen 1;have r2:=BD.out.2.2.1.frozen 2;have r3:=BD.out.2.2.1.frozen 3;have q0:=BD.out.2.2.1.cell 0 _ rfl;have q1:=BD.out.2.2.1.cell 1 _ rfl;have q2:=BD.out.2.2.1.cell 2 _ rfl;have q3:=BD.out.2.2.1.cell 3 _ rfl;clear hS hdr hall HC FS e0
      go_upto_region 12 with fail
      go_region_held3 (fun w'=>w'.cell? ⟨w.heap.size+2,0,none⟩=some (.slice (some ⟨w.heap.size+1,0,none⟩) n n)) (first | with_reducible exact kS.out | exact (BD.out.2.1.but (((((But.refl _ _).set 0 _).set 1 _).set 2 _).set 3 _) (by omega)).cell 0 _ rfl) (first
       | (go_at_call 113
          with_reducible refine C.out.mono ?_
          rintro r u3 ⟨hd2,hb⟩;obtain ⟨a3,c3,rfl,hN3⟩:=hd2.shape14 FFS.out;have BD:=qsd (ai (BD.out.1.below hb) (ai (BD.out.2.1.below hb BD.out.2.1.lt) (ai (BD.out.2.2.1.below hb BD.out.2.2.1.lt) (ai (BD.out.2.2.2.trans (hb.mono BD.out.2.2.2.size)) hN3))));have kS:=qsd (BD.out.2.1.cell 0 _ rfl);have r0:=BD.out.2.2.1.frozen 0;have r1:=BD.out.2.2.1.frozen 1;have r2:=BD.out.2.2.1.frozen 2;have r3:=BD.out.2.2.1.frozen 3;have q0:=BD.out.2.2.1.cell 0 _ rfl;have q1:=BD.out.2.2.1.cell 1 _ rfl;have q2:=BD.out.2.2.1.cell 2 _ rfl;have q3:=BD.out.2.2.1.cell 3 _ rfl;clear hb hd2 hN3))
      go_wp2;have qq:=(((BD.out.2.2.1.set 0 (.slice (some ⟨w.heap.size+1,0,none⟩) n n)).set 1 (.bool (dN S))).set 2 (.slice a3 (ws (dX S)).length c3)).set 3 (.int .i64 (dE S));have g0:=qq.cell 0 _ rfl;have g1:=qq.cell 1 _ rfl;have g2:=qq.cell 2 _ rfl;have g3:=qq.cell 3 _ rfl;have hbut:But w.heap.size u3 ((((u3.setCell ⟨w.heap.size,0,none⟩ (.slice (some ⟨w.heap.size+1,0,none⟩) n n)).setCell ⟨w.heap.size,1,none⟩ (.bool (dN S))).setCell ⟨w.heap.size,2,none⟩ (.slice a3 (ws (dX S)).length c3)).setCell ⟨w.heap.size,3,none⟩ (.int .i64 (dE S))):=((((But.refl _ _).set 0 _).set 1 _).set 2 _).set 3 _;refine bodyPost_ret (v:=.tuple #[.agg #[.slice (some ⟨w.heap.size+1,0,none⟩) n n,.bool (dN S),.slice a3 (ws (dX S)).length c3,.int .i64 (dE S)],.int .i64 0]) (by simp [results,Tryz.results82,go_sem,g0,g1,g2,g3]) rfl ⟨.inr ⟨E0.out,_,rfl,?_⟩,?_⟩
      rw [←HS.out,←HX.out.2.2.2.2];refine ⟨w.heap.size+1,a3,c3,rfl,?_,?_⟩
      · exact BD.out.1.but hbut BD.out.2.2.1 (by omega) (by decide)
      · exact BD.out.2.2.2.2.off hbut (BD.out.2.2.2.2.notin (by decide) BD.out.2.2.1)
      · exact But.below BD.out.2.2.2.1 hbut BD.out.2.2.2.1.size (Nat.le_refl _)
def difO (o1 o2:Option (Bool×Nat×Int)):Option (Bool×Nat×Int):=if o1.isSome&&o2.isSome then addD o1 (mkS (!dN o2) (dX o2) (dE o2)) else none
def DA14 (w:World) (r:Ending) (o:Option (Bool×Nat×Int)) (e:Int):Prop:=∃ v,r=.returned (.tuple #[.agg #[.bool (dN o),v,.int .i64 (dE o)],.int .i64 e])∧Nt 0 w v (dX o)
theorem DAns.da14 {lo:Nat}{w:World}{r:Ending}{o:Option (Bool×Nat×Int)}(h:DAns lo w r o):DA14 w r o (erS o):=by
 obtain ⟨v,rfl,hN⟩:=h;exact ⟨v,rfl,hN.mono (Nat.zero_le _)⟩
theorem Nt.shp14 {w:World}{v:Value}{X:Nat}(h:Nt 0 w v X):∃ a c,v=.slice a (ws X).length c∧Nt 0 w (.slice a (ws X).length c) X:=by
 obtain ⟨a,c,rfl,-⟩:=h.shape;exact ⟨a,c,rfl,h⟩
theorem DA14.shp14 {w:World}{r:Ending}{o:Option (Bool×Nat×Int)}{e:Int}(h:DA14 w r o e):∃ a c,r=.returned (.tuple #[.agg #[.bool (dN o),.slice a (ws (dX o)).length c,.int .i64 (dE o)],.int .i64 e])∧Nt 0 w (.slice a (ws (dX o)).length c) (dX o):=by
 obtain ⟨v,rfl,hN⟩:=h;obtain ⟨a,c,rfl,hN⟩:=hN.shp14;exact ⟨a,c,rfl,hN⟩
theorem DVal.shp14 {lo:Nat}{w:World}{r:Ending}{o:Option (Bool×Nat×Int)}(h:DVal lo w r o):∃ a c,r=.returned (.agg #[.bool (dN o),.slice a (ws (dX o)).length c,.int .i64 (dE o)])∧Nt 0 w (.slice a (ws (dX o)).length c) (dX o):=by
 obtain ⟨v,rfl,hN⟩:=h.mono14;obtain ⟨a,c,rfl,hN⟩:=hN.shp14;exact ⟨a,c,rfl,hN⟩
theorem addW14 (W:World):Below W.heap.size W (W.alloc (Obj.cells #[.bool false,.slice none 0 0,.int .i64 0] 67)).drew:=(below_alloc W (Obj.cells #[.bool false,.slice none 0 0,.int .i64 0] 67)).trans (((Below.refl (W.alloc (Obj.cells #[.bool false,.slice none 0 0,.int .i64 0] 67)).heap.size (W.alloc (Obj.cells #[.bool false,.slice none 0 0,.int .i64 0] 67))).drew).mono (by simp))
theorem zerW14 (W:World):Lo (W.alloc (Obj.cells #[.bool false,.slice none 0 0,.int .i64 0] 67)).drew W.heap.size o00:=(Lo.zero W).below (Below.refl _ _).drew
theorem erS_some {o:Option (Bool×Nat×Int)}(h:o.isSome=true):erS o=0:=by unfold erS;rw [h];rfl
theorem erS_none {o:Option (Bool×Nat×Int)}(h:o.isSome=false):erS o=2:=by unfold erS;rw [h];rfl
structure Bx14 (w u:World) (np ns nt:Bool) (ap az at':Option Addr) (lp cp ls cs lt ct:Nat) (ep es et:Int):Prop where
 p:Dk u w.heap.size np (.slice ap lp cp) ep
 s:Dk u (w.heap.size+1) ns (.slice az ls cs) es
 t:Dk u (w.heap.size+2) nt (.slice at' lt ct) et
 z:Lo u (w.heap.size+3) o00
 b:Below w.heap.size w u
theorem Bx14.below {w u v:World}{np ns nt:Bool}{ap az at':Option Addr}{lp cp ls cs lt ct:Nat}{ep es et:Int}(h:Bx14 w u np ns nt ap az at' lp cp ls cs lt ct ep es et) (hb:Below u.heap.size u v):Bx14 w v np ns nt ap az at' lp cp ls cs lt ct ep es et :=
 ⟨h.p.below hb,h.s.below hb,h.t.below hb,h.z.below hb,h.b.trans (hb.mono h.b.size)⟩
theorem Bx14.other {w u:World}{np ns nt:Bool}{ap az at':Option Addr}{lp cp ls cs lt ct g:Nat}{ep es et:Int}{q:Option (Bool×Nat×Int)}(h:Bx14 w u np ns nt ap az at' lp cp ls cs lt ct ep es et) (hL:Lo u g q) (hg:w.heap.size+3<g) (x y z:Value):Bx14 w (st3 u g x y z) np ns nt ap az at' lp cp ls cs lt ct ep es et :=
 ⟨h.p.other g (by omega) _ _ _,h.s.other g (by omega) _ _ _,h.t.other g (by omega) _ _ _,h.z.other hL (by omega) _ _ _,st3_bel12 h.b h.b.size (by omega) _ _ _⟩
theorem dif_no1 (w:World) (n:Int) (np ns nt:Bool) (ap az at':Option Addr) (lp cp ls cs lt ct:Nat) (ep es et:Int) (oI o1 o2:Option (Bool×Nat×Int)) (e1 e2:Int)
 (HI:Hid (∀ u:World,Below w.heap.size w u→Calls Tryz.prog 69 #[.int .i64 n] u fun r w'=>DVal 0 w' r oI∧Below u.heap.size u w'))
 (HM1:Hid (∀ (u:World) (a:Option Addr) (c:Nat),Below w.heap.size w u→Nt 0 u (.slice a (ws (dX oI)).length c) (dX oI)→Calls Tryz.prog 104 #[.agg #[.bool (dN oI),.slice a (ws (dX oI)).length c,.int .i64 (dE oI)],.agg #[.bool np,.slice ap lp cp,.int .i64 ep]] u fun r w'=>DA14 w' r o1 e1∧Below u.heap.size u w')) (x1:(e1==0)=false) :
 Calls Tryz.prog 73 #[.int .i64 n,.agg #[.bool np,.slice ap lp cp,.int .i64 ep],.agg #[.bool ns,.slice az ls cs,.int .i64 es],.agg #[.bool nt,.slice at' lt ct,.int .i64 et]] w fun r w'=>DA14 w' r (none:Option (Bool×Nat×Int)) e1∧Below w.heap.size w w':=by
 obtain ⟨W,hW⟩:∃ W,W=(((w.alloc (Obj.cells #[.bool np,.slice ap lp cp,.int .i64 ep] 67)).alloc (Obj.cells #[.bool ns,.slice az ls cs,.int .i64 es] 67)).alloc (Obj.cells #[.bool nt,.slice at' lt ct,.int .i64 et] 67)).alloc (Obj.cells #[.bool false,.slice none 0 0,.int .i64 0] 67):=⟨_,rfl⟩
 have H0:Aside (Bx14 w W np ns nt ap az at' lp cp ls cs lt ct ep es et):=by
  subst hW;have z1:=Dk.new (w.alloc (Obj.cells #[.bool np,.slice ap lp cp,.int .i64 ep] 67)) ns (.slice az ls cs) es;have z2:=Dk.new ((w.alloc (Obj.cells #[.bool np,.slice ap lp cp,.int .i64 ep] 67)).alloc (Obj.cells #[.bool ns,.slice az ls cs,.int .i64 es] 67)) nt (.slice at' lt ct) et;have z3:=Lo.zero (((w.alloc (Obj.cells #[.bool np,.slice ap lp cp,.int .i64 ep] 67)).alloc (Obj.cells #[.bool ns,.slice az ls cs,.int .i64 es] 67)).alloc (Obj.cells #[.bool nt,.slice at' lt ct,.int .i64 et] 67));rw [World.size_alloc] at z1;rw [World.size_alloc,World.size_alloc] at z2;rw [World.size_alloc,World.size_alloc,World.size_alloc] at z3;exact ⟨(((Dk.new _ _ _ _).below (below_alloc _ _)).below (below_alloc _ _)).below (below_alloc _ _),(z1.below (below_alloc _ _)).below (below_alloc _ _),z2.below (below_alloc _ _),z3,(((below_alloc _ _).trans ((below_alloc _ _).mono (by simp))).trans ((below_alloc _ _).mono (by simp;omega))).trans ((below_alloc _ _).mono (by simp;omega))⟩
 have HW:=qsd hW;clear hW;go_enter Tryz.func73,Tryz.ntmps73
 go_upto_region 1 with fail
 rw [←HW.out];clear HW
 go_cut [10,11] from 13 to 19 (fun q e wx=>∃ gq:Nat,q=.pointer (some ⟨gq,0,none⟩)∧e=.int .i64 e1∧Aside (Lo wx gq o1∧Bx14 w wx np ns nt ap az at' lp cp ls cs lt ct ep es et∧w.heap.size+3<gq))
 case first =>
  have hdr:=(Below.refl W.heap.size W).drew;have BB:=qsd (H0.out.below hdr);have BZ:=qsd (ai (H0.out.below (addW14 W)) (zerW14 W));have k0:=BB.out.p.facts;have kS:=qsd (ai k0.1 (ai k0.2.1 k0.2.2.1));have h3l:=H0.out.z.lt;clear hdr k0
  go_region_held3 (fun w'=>w'.cell? ⟨w.heap.size,0,none⟩=some (.bool np)∧w'.cell? ⟨w.heap.size,1,none⟩=some (.slice ap lp cp)∧w'.cell? ⟨w.heap.size,2,none⟩=some (.int .i64 ep)) (first | with_reducible exact kS.out | with_reducible exact ⟨BZ.out.1.p.facts.1,BZ.out.1.p.facts.2.1,BZ.out.1.p.facts.2.2.1⟩ | with_reducible exact ⟨kZ.out.facts.1,kZ.out.facts.2.1,kZ.out.facts.2.2.1⟩ | with_reducible exact kT.out | with_reducible exact ⟨kM.out.facts.1,kM.out.facts.2.1,kM.out.facts.2.2.1⟩ | with_reducible exact ⟨kN.out.facts.1,kN.out.facts.2.1,kN.out.facts.2.2.1⟩) (first
   | (go_at_call 69
      with_reducible refine (HI.out _ BB.out.b).mono ?_
      rintro r u1 ⟨hd,hb⟩;obtain ⟨a3,c3,rfl,hN3⟩:=hd.shp14;have BC:=qsd (ai (BB.out.below hb) hN3);have kS:=qsd (ai BC.out.1.p.facts.1 (ai BC.out.1.p.facts.2.1 BC.out.1.p.facts.2.2.1));have kZ:=qsd (BC.out.1.p.below (below_alloc u1 (Obj.cells #[.bool false,.slice none 0 0,.int .i64 0] 67)));have h4l:=BC.out.1.z.lt;clear hb hd hN3)
   | (go_at_call 69
      with_reducible refine (HI.out _ BZ.out.1.b).mono ?_
      rintro r u1 ⟨hd,hb⟩;obtain ⟨a3,c3,rfl,hN3⟩:=hd.shp14;have BC:=qsd (ai (BZ.out.1.below hb) hN3);have ZB:=qsd (BZ.out.2.below hb);have kS:=qsd (ai BC.out.1.p.facts.1 (ai BC.out.1.p.facts.2.1 BC.out.1.p.facts.2.2.1));clear hb hd hN3)
   | (go_at_call 104
      with_reducible refine (HM1.out _ a3 c3 BC.out.1.b BC.out.2).mono ?_
      rintro r u2 ⟨hd,hb⟩;obtain ⟨a4,c4,rfl,hN4⟩:=hd.shp14;have BE:=qsd (ai (BC.out.1.below hb) hN4);have kS:=qsd (ai BE.out.1.p.facts.1 (ai BE.out.1.p.facts.2.1 BE.out.1.p.facts.2.2.1));have kZ:=qsd (BE.out.1.p.below (below_alloc u2 (Obj.cells #[.bool false,.slice none 0 0,.int .i64 0] 67)));have kM:=qsd (BE.out.1.p.below (below_alloc u2 (Obj.cells #[.bool (dN o1),.slice a4 (ws (dX o1)).length c4,.int .i64 (dE o1)] 67)));have kN:=qsd ((BE.out.1.p.below (below_alloc u2 (Obj.cells #[.bool false,.slice none 0 0,.int .i64 0] 67))).other u2.heap.size (by have:=BE.out.1.z.lt;omega) (.bool (dN o1)) (.slice a4 (ws (dX o1)).length c4) (.int .i64 (dE o1)))
      try have ZB:=qsd (ZB.out.below hb)
      try have kT:=qsd (show _ from (ai (BE.out.1.p.other _ (show w.heap.size≠W.heap.size by omega) (.bool (dN o1)) (.slice a4 (ws (dX o1)).length c4) (.int .i64 (dE o1))).facts.1 (ai (BE.out.1.p.other _ (show w.heap.size≠W.heap.size by omega) (.bool (dN o1)) (.slice a4 (ws (dX o1)).length c4) (.int .i64 (dE o1))).facts.2.1 (BE.out.1.p.other _ (show w.heap.size≠W.heap.size by omega) (.bool (dN o1)) (.slice a4 (ws (dX o1)).length c4) (.int .i64 (dE o1))).facts.2.2.1)))
      try (obtain ⟨zp,zq,DZ,MZ⟩:=ZB.out;obtain ⟨z0,z1,z2,zf0,zf1,zf2⟩:=DZ.facts;clear DZ MZ)
      clear hb hd hN4)
   | (go_at_call 104
      with_reducible refine (HM1.out _ a3 c3 (BC.out.1.below (below_alloc u1 (Obj.cells #[.bool false,.slice none 0 0,.int .i64 0] 67))).b (BC.out.2.below (below_alloc u1 (Obj.cells #[.bool false,.slice none 0 0,.int .i64 0] 67)))).mono ?_
      rintro r u2 ⟨hd,hb⟩;obtain ⟨a4,c4,rfl,hN4⟩:=hd.shp14;have BE:=qsd (ai ((BC.out.1.below (below_alloc u1 (Obj.cells #[.bool false,.slice none 0 0,.int .i64 0] 67))).below hb) hN4);have ZC:=qsd ((Lo.zero u1).below hb);have kS:=qsd (ai BE.out.1.p.facts.1 (ai BE.out.1.p.facts.2.1 BE.out.1.p.facts.2.2.1));have kT:=qsd (ai (BE.out.1.p.other _ (show w.heap.size≠u1.heap.size by omega) (.bool (dN o1)) (.slice a4 (ws (dX o1)).length c4) (.int .i64 (dE o1))).facts.1 (ai (BE.out.1.p.other _ (show w.heap.size≠u1.heap.size by omega) (.bool (dN o1)) (.slice a4 (ws (dX o1)).length c4) (.int .i64 (dE o1))).facts.2.1 (BE.out.1.p.other _ (show w.heap.size≠u1.heap.size by omega) (.bool (dN o1)) (.slice a4 (ws (dX o1)).length c4) (.int .i64 (dE o1))).facts.2.2.1))
      obtain ⟨zp,zq,DZ,MZ⟩:=ZC.out;obtain ⟨z0,z1,z2,zf0,zf1,zf2⟩:=DZ.facts;clear hb hd hN4 DZ MZ))
  all_goals
   go_wp2_with fail
   go_meet
   case rel =>
    first
     | exact ⟨u2.heap.size,rfl,rfl,Lo.new BE.out.2,BE.out.1.below (below_alloc _ _),BE.out.1.z.lt⟩
     | exact ⟨u2.heap.size,rfl,rfl,(Lo.zero u2).set (BE.out.2.below (below_alloc _ _)),(BE.out.1.below (below_alloc _ _)).other (Lo.zero u2) BE.out.1.z.lt _ _ _,BE.out.1.z.lt⟩
     | exact ⟨W.heap.size,rfl,rfl,ZB.out.set BE.out.2,BE.out.1.other ZB.out h3l _ _ _,h3l⟩
     | exact ⟨u1.heap.size,rfl,rfl,ZC.out.set BE.out.2,BE.out.1.other ZC.out h4l _ _ _,h4l⟩
 obtain ⟨gq,rfl,rfl,K1⟩:=hcut;obtain ⟨U,hU⟩:∃ U,U=wc:=⟨_,rfl⟩;rw [←hU] at K1 ⊢;clear hU H0;obtain ⟨p4,q4,D4,M4⟩:=K1.out.2.1.z;obtain ⟨y0,y1,y2,yf0,yf1,yf2⟩:=D4.facts;have HE:=qsd (ai (D4.set false (.slice none 0 0) 0) (st3_bel12 K1.out.2.1.b K1.out.2.1.b.size (show w.heap.size≤w.heap.size+3 by omega) (.bool false) (.slice none 0 0) (.int .i64 0)))
 unfold st3 at HE;clear D4 M4;go_wp2;obtain ⟨f0,f1,f2,_,_,_⟩:=HE.out.1.facts;exact bodyPost_ret (v:=.tuple #[.agg #[.bool false,.slice none 0 0,.int .i64 0],.int .i64 e1]) (by simp [results,Tryz.results73,go_sem,f0,f1,f2]) rfl ⟨⟨_,rfl,Nt.nil _ _⟩,HE.out.2⟩
theorem dif_no2 (w:World) (n:Int) (np ns nt:Bool) (ap az at':Option Addr) (lp cp ls cs lt ct:Nat) (ep es et:Int) (oI o1 o2:Option (Bool×Nat×Int)) (e1 e2:Int)
 (HI:Hid (∀ u:World,Below w.heap.size w u→Calls Tryz.prog 69 #[.int .i64 n] u fun r w'=>DVal 0 w' r oI∧Below u.heap.size u w'))
 (HM1:Hid (∀ (u:World) (a:Option Addr) (c:Nat),Below w.heap.size w u→Nt 0 u (.slice a (ws (dX oI)).length c) (dX oI)→Calls Tryz.prog 104 #[.agg #[.bool (dN oI),.slice a (ws (dX oI)).length c,.int .i64 (dE oI)],.agg #[.bool np,.slice ap lp cp,.int .i64 ep]] u fun r w'=>DA14 w' r o1 e1∧Below u.heap.size u w'))
 (HM2:Hid (∀ u:World,Below w.heap.size w u→Calls Tryz.prog 104 #[.agg #[.bool ns,.slice az ls cs,.int .i64 es],.agg #[.bool nt,.slice at' lt ct,.int .i64 et]] u fun r w'=>DA14 w' r o2 e2∧Below u.heap.size u w')) (x1:e1=0) (x2:(e2==0)=false) :
 Calls Tryz.prog 73 #[.int .i64 n,.agg #[.bool np,.slice ap lp cp,.int .i64 ep],.agg #[.bool ns,.slice az ls cs,.int .i64 es],.agg #[.bool nt,.slice at' lt ct,.int .i64 et]] w fun r w'=>DA14 w' r (none:Option (Bool×Nat×Int)) e2∧Below w.heap.size w w':=by
 obtain ⟨W,hW⟩:∃ W,W=(((w.alloc (Obj.cells #[.bool np,.slice ap lp cp,.int .i64 ep] 67)).alloc (Obj.cells #[.bool ns,.slice az ls cs,.int .i64 es] 67)).alloc (Obj.cells #[.bool nt,.slice at' lt ct,.int .i64 et] 67)).alloc (Obj.cells #[.bool false,.slice none 0 0,.int .i64 0] 67):=⟨_,rfl⟩
 have H0:Aside (Bx14 w W np ns nt ap az at' lp cp ls cs lt ct ep es et):=by
  subst hW;have z1:=Dk.new (w.alloc (Obj.cells #[.bool np,.slice ap lp cp,.int .i64 ep] 67)) ns (.slice az ls cs) es;have z2:=Dk.new ((w.alloc (Obj.cells #[.bool np,.slice ap lp cp,.int .i64 ep] 67)).alloc (Obj.cells #[.bool ns,.slice az ls cs,.int .i64 es] 67)) nt (.slice at' lt ct) et;have z3:=Lo.zero (((w.alloc (Obj.cells #[.bool np,.slice ap lp cp,.int .i64 ep] 67)).alloc (Obj.cells #[.bool ns,.slice az ls cs,.int .i64 es] 67)).alloc (Obj.cells #[.bool nt,.slice at' lt ct,.int .i64 et] 67));rw [World.size_alloc] at z1;rw [World.size_alloc,World.size_alloc] at z2;rw [World.size_alloc,World.size_alloc,World.size_alloc] at z3;exact ⟨(((Dk.new _ _ _ _).below (below_alloc _ _)).below (below_alloc _ _)).below (below_alloc _ _),(z1.below (below_alloc _ _)).below (below_alloc _ _),z2.below (below_alloc _ _),z3,(((below_alloc _ _).trans ((below_alloc _ _).mono (by simp))).trans ((below_alloc _ _).mono (by simp;omega))).trans ((below_alloc _ _).mono (by simp;omega))⟩
 have HW:=qsd hW;clear hW;subst x1;go_enter Tryz.func73,Tryz.ntmps73
 go_upto_region 1 with fail
 rw [←HW.out];clear HW
 go_cut [10,11] from 13 to 19 (fun q e wx=>∃ gq:Nat,q=.pointer (some ⟨gq,0,none⟩)∧e=.int .i64 0∧Aside (Lo wx gq o1∧Bx14 w wx np ns nt ap az at' lp cp ls cs lt ct ep es et∧w.heap.size+3<gq))
 case first =>
  have hdr:=(Below.refl W.heap.size W).drew;have BB:=qsd (H0.out.below hdr);have BZ:=qsd (ai (H0.out.below (addW14 W)) (zerW14 W));have k0:=BB.out.p.facts;have kS:=qsd (ai k0.1 (ai k0.2.1 k0.2.2.1));have h3l:=H0.out.z.lt;clear hdr k0
  go_region_held3 (fun w'=>w'.cell? ⟨w.heap.size,0,none⟩=some (.bool np)∧w'.cell? ⟨w.heap.size,1,none⟩=some (.slice ap lp cp)∧w'.cell? ⟨w.heap.size,2,none⟩=some (.int .i64 ep)) (first | with_reducible exact kS.out | with_reducible exact ⟨BZ.out.1.p.facts.1,BZ.out.1.p.facts.2.1,BZ.out.1.p.facts.2.2.1⟩ | with_reducible exact ⟨kZ.out.facts.1,kZ.out.facts.2.1,kZ.out.facts.2.2.1⟩ | with_reducible exact kT.out | with_reducible exact ⟨kM.out.facts.1,kM.out.facts.2.1,kM.out.facts.2.2.1⟩ | with_reducible exact ⟨kN.out.facts.1,kN.out.facts.2.1,kN.out.facts.2.2.1⟩) (first
   | (go_at_call 69
      with_reducible refine (HI.out _ BB.out.b).mono ?_
      rintro r u1 ⟨hd,hb⟩;obtain ⟨a3,c3,rfl,hN3⟩:=hd.shp14;have BC:=qsd (ai (BB.out.below hb) hN3);have kS:=qsd (ai BC.out.1.p.facts.1 (ai BC.out.1.p.facts.2.1 BC.out.1.p.facts.2.2.1));have kZ:=qsd (BC.out.1.p.below (below_alloc u1 (Obj.cells #[.bool false,.slice none 0 0,.int .i64 0] 67)));have h4l:=BC.out.1.z.lt;clear hb hd hN3)
   | (go_at_call 69
      with_reducible refine (HI.out _ BZ.out.1.b).mono ?_
      rintro r u1 ⟨hd,hb⟩;obtain ⟨a3,c3,rfl,hN3⟩:=hd.shp14;have BC:=qsd (ai (BZ.out.1.below hb) hN3);have ZB:=qsd (BZ.out.2.below hb);have kS:=qsd (ai BC.out.1.p.facts.1 (ai BC.out.1.p.facts.2.1 BC.out.1.p.facts.2.2.1));clear hb hd hN3)
   | (go_at_call 104
      with_reducible refine (HM1.out _ a3 c3 BC.out.1.b BC.out.2).mono ?_
      rintro r u2 ⟨hd,hb⟩;obtain ⟨a4,c4,rfl,hN4⟩:=hd.shp14;have BE:=qsd (ai (BC.out.1.below hb) hN4);have kS:=qsd (ai BE.out.1.p.facts.1 (ai BE.out.1.p.facts.2.1 BE.out.1.p.facts.2.2.1));have kZ:=qsd (BE.out.1.p.below (below_alloc u2 (Obj.cells #[.bool false,.slice none 0 0,.int .i64 0] 67)));have kM:=qsd (BE.out.1.p.below (below_alloc u2 (Obj.cells #[.bool (dN o1),.slice a4 (ws (dX o1)).length c4,.int .i64 (dE o1)] 67)));have kN:=qsd ((BE.out.1.p.below (below_alloc u2 (Obj.cells #[.bool false,.slice none 0 0,.int .i64 0] 67))).other u2.heap.size (by have:=BE.out.1.z.lt;omega) (.bool (dN o1)) (.slice a4 (ws (dX o1)).length c4) (.int .i64 (dE o1)))
      try have ZB:=qsd (ZB.out.below hb)
      try have kT:=qsd (show _ from (ai (BE.out.1.p.other _ (show w.heap.size≠W.heap.size by omega) (.bool (dN o1)) (.slice a4 (ws (dX o1)).length c4) (.int .i64 (dE o1))).facts.1 (ai (BE.out.1.p.other _ (show w.heap.size≠W.heap.size by omega) (.bool (dN o1)) (.slice a4 (ws (dX o1)).length c4) (.int .i64 (dE o1))).facts.2.1 (BE.out.1.p.other _ (show w.heap.size≠W.heap.size by omega) (.bool (dN o1)) (.slice a4 (ws (dX o1)).length c4) (.int .i64 (dE o1))).facts.2.2.1)))
      try (obtain ⟨zp,zq,DZ,MZ⟩:=ZB.out;obtain ⟨z0,z1,z2,zf0,zf1,zf2⟩:=DZ.facts;clear DZ MZ)
      clear hb hd hN4)
   | (go_at_call 104
      with_reducible refine (HM1.out _ a3 c3 (BC.out.1.below (below_alloc u1 (Obj.cells #[.bool false,.slice none 0 0,.int .i64 0] 67))).b (BC.out.2.below (below_alloc u1 (Obj.cells #[.bool false,.slice none 0 0,.int .i64 0] 67)))).mono ?_
      rintro r u2 ⟨hd,hb⟩;obtain ⟨a4,c4,rfl,hN4⟩:=hd.shp14;have BE:=qsd (ai ((BC.out.1.below (below_alloc u1 (Obj.cells #[.bool false,.slice none 0 0,.int .i64 0] 67))).below hb) hN4);have ZC:=qsd ((Lo.zero u1).below hb);have kS:=qsd (ai BE.out.1.p.facts.1 (ai BE.out.1.p.facts.2.1 BE.out.1.p.facts.2.2.1));have kT:=qsd (ai (BE.out.1.p.other _ (show w.heap.size≠u1.heap.size by omega) (.bool (dN o1)) (.slice a4 (ws (dX o1)).length c4) (.int .i64 (dE o1))).facts.1 (ai (BE.out.1.p.other _ (show w.heap.size≠u1.heap.size by omega) (.bool (dN o1)) (.slice a4 (ws (dX o1)).length c4) (.int .i64 (dE o1))).facts.2.1 (BE.out.1.p.other _ (show w.heap.size≠u1.heap.size by omega) (.bool (dN o1)) (.slice a4 (ws (dX o1)).length c4) (.int .i64 (dE o1))).facts.2.2.1))
      obtain ⟨zp,zq,DZ,MZ⟩:=ZC.out;obtain ⟨z0,z1,z2,zf0,zf1,zf2⟩:=DZ.facts;clear hb hd hN4 DZ MZ))
  all_goals
   go_wp2_with fail
   go_meet
   case rel =>
    first
     | exact ⟨u2.heap.size,rfl,rfl,Lo.new BE.out.2,BE.out.1.below (below_alloc _ _),BE.out.1.z.lt⟩
     | exact ⟨u2.heap.size,rfl,rfl,(Lo.zero u2).set (BE.out.2.below (below_alloc _ _)),(BE.out.1.below (below_alloc _ _)).other (Lo.zero u2) BE.out.1.z.lt _ _ _,BE.out.1.z.lt⟩
     | exact ⟨W.heap.size,rfl,rfl,ZB.out.set BE.out.2,BE.out.1.other ZB.out h3l _ _ _,h3l⟩
     | exact ⟨u1.heap.size,rfl,rfl,ZC.out.set BE.out.2,BE.out.1.other ZC.out h4l _ _ _,h4l⟩
 obtain ⟨gq,rfl,rfl,K1⟩:=hcut;obtain ⟨U,hU⟩:∃ U,U=wc:=⟨_,rfl⟩;rw [←hU] at K1 ⊢;clear hU H0
 go_upto_region 4 with fail
 obtain ⟨x0,x1,x2,xf0,xf1,xf2⟩:=K1.out.2.1.s.facts;obtain ⟨y0,y1,y2,yf0,yf1,yf2⟩:=K1.out.2.1.t.facts;have C:=hid (HM2.out U K1.out.2.1.b)
 go_wp2_with fail
 refine C.out.mono ?_;rintro r u3 ⟨hd,hb⟩;obtain ⟨a5,c5,rfl,hN5⟩:=hd.shp14;obtain ⟨V,hV⟩:∃ V,V=u3.alloc (Obj.cells #[.bool (dN o2),.slice a5 (ws (dX o2)).length c5,.int .i64 (dE o2)] 67):=⟨_,rfl⟩;obtain ⟨gr,hgr⟩:∃ g,g=u3.heap.size:=⟨_,rfl⟩
 have K2:Aside (Lo V gq o1∧Bx14 w V np ns nt ap az at' lp cp ls cs lt ct ep es et∧Lo V gr o2):=by
  rw [hV,hgr];exact ⟨(K1.out.1.below hb).below (below_alloc _ _),(K1.out.2.1.below hb).below (below_alloc _ _),Lo.new hN5⟩
 have HV:=(qsd (ai hV hgr));clear hV hgr hb hd hN5 C x0 x1 x2 xf0 xf1 xf2 y0 y1 y2 yf0 yf1 yf2 K1
 go_upto_region 5 with fail
 rw [←HV.out.1,←HV.out.2];clear HV;obtain ⟨p4,q4,D4,M4⟩:=K2.out.2.1.z;obtain ⟨y0,y1,y2,yf0,yf1,yf2⟩:=D4.facts;have HE:=qsd (ai (D4.set false (.slice none 0 0) 0) (st3_bel12 K2.out.2.1.b K2.out.2.1.b.size (show w.heap.size≤w.heap.size+3 by omega) (.bool false) (.slice none 0 0) (.int .i64 0)))
 unfold st3 at HE;clear D4 M4;go_wp2;obtain ⟨f0,f1,f2,_,_,_⟩:=HE.out.1.facts;exact bodyPost_ret (v:=.tuple #[.agg #[.bool false,.slice none 0 0,.int .i64 0],.int .i64 e2]) (by simp [results,Tryz.results73,go_sem,f0,f1,f2]) rfl ⟨⟨_,rfl,Nt.nil _ _⟩,HE.out.2⟩
theorem dif_ok (w:World) (n:Int) (np ns nt:Bool) (ap az at':Option Addr) (lp cp ls cs lt ct:Nat) (ep es et:Int) (oI o1 o2 o3:Option (Bool×Nat×Int)) (e1 e2 e3:Int)
 (HI:Hid (∀ u:World,Below w.heap.size w u→Calls Tryz.prog 69 #[.int .i64 n] u fun r w'=>DVal 0 w' r oI∧Below u.heap.size u w'))
 (HM1:Hid (∀ (u:World) (a:Option Addr) (c:Nat),Below w.heap.size w u→Nt 0 u (.slice a (ws (dX oI)).length c) (dX oI)→Calls Tryz.prog 104 #[.agg #[.bool (dN oI),.slice a (ws (dX oI)).length c,.int .i64 (dE oI)],.agg #[.bool np,.slice ap lp cp,.int .i64 ep]] u fun r w'=>DA14 w' r o1 e1∧Below u.heap.size u w'))
 (HM2:Hid (∀ u:World,Below w.heap.size w u→Calls Tryz.prog 104 #[.agg #[.bool ns,.slice az ls cs,.int .i64 es],.agg #[.bool nt,.slice at' lt ct,.int .i64 et]] u fun r w'=>DA14 w' r o2 e2∧Below u.heap.size u w'))
 (HS:Hid (∀ (u:World) (a b:Option Addr) (c d:Nat),Below w.heap.size w u→Nt 0 u (.slice a (ws (dX o1)).length c) (dX o1)→Nt 0 u (.slice b (ws (dX o2)).length d) (dX o2)→Calls Tryz.prog 105 #[.agg #[.bool (dN o1),.slice a (ws (dX o1)).length c,.int .i64 (dE o1)],.agg #[.bool (dN o2),.slice b (ws (dX o2)).length d,.int .i64 (dE o2)]] u fun r w'=>DA14 w' r o3 e3∧Below u.heap.size u w')) (x1:e1=0) (x2:e2=0) :
 Calls Tryz.prog 73 #[.int .i64 n,.agg #[.bool np,.slice ap lp cp,.int .i64 ep],.agg #[.bool ns,.slice az ls cs,.int .i64 es],.agg #[.bool nt,.slice at' lt ct,.int .i64 et]] w fun r w'=>DA14 w' r o3 e3∧Below w.heap.size w w':=by
 obtain ⟨W,hW⟩:∃ W,W=(((w.alloc (Obj.cells #[.bool np,.slice ap lp cp,.int .i64 ep] 67)).alloc (Obj.cells #[.bool ns,.slice az ls cs,.int .i64 es] 67)).alloc (Obj.cells #[.bool nt,.slice at' lt ct,.int .i64 et] 67)).alloc (Obj.cells #[.bool false,.slice none 0 0,.int .i64 0] 67):=⟨_,rfl⟩
 have H0:Aside (Bx14 w W np ns nt ap az at' lp cp ls cs lt ct ep es et):=by
  subst hW;have z1:=Dk.new (w.alloc (Obj.cells #[.bool np,.slice ap lp cp,.int .i64 ep] 67)) ns (.slice az ls cs) es;have z2:=Dk.new ((w.alloc (Obj.cells #[.bool np,.slice ap lp cp,.int .i64 ep] 67)).alloc (Obj.cells #[.bool ns,.slice az ls cs,.int .i64 es] 67)) nt (.slice at' lt ct) et;have z3:=Lo.zero (((w.alloc (Obj.cells #[.bool np,.slice ap lp cp,.int .i64 ep] 67)).alloc (Obj.cells #[.bool ns,.slice az ls cs,.int .i64 es] 67)).alloc (Obj.cells #[.bool nt,.slice at' lt ct,.int .i64 et] 67));rw [World.size_alloc] at z1;rw [World.size_alloc,World.size_alloc] at z2;rw [World.size_alloc,World.size_alloc,World.size_alloc] at z3;exact ⟨(((Dk.new _ _ _ _).below (below_alloc _ _)).below (below_alloc _ _)).below (below_alloc _ _),(z1.below (below_alloc _ _)).below (below_alloc _ _),z2.below (below_alloc _ _),z3,(((below_alloc _ _).trans ((below_alloc _ _).mono (by simp))).trans ((below_alloc _ _).mono (by simp;omega))).trans ((below_alloc _ _).mono (by simp;omega))⟩
 have HW:=qsd hW;clear hW;subst x1;subst x2;go_enter Tryz.func73,Tryz.ntmps73
 go_upto_region 1 with fail
 rw [←HW.out];clear HW
 go_cut [10,11] from 13 to 19 (fun q e wx=>∃ gq:Nat,q=.pointer (some ⟨gq,0,none⟩)∧e=.int .i64 0∧Aside (Lo wx gq o1∧Bx14 w wx np ns nt ap az at' lp cp ls cs lt ct ep es et∧w.heap.size+3<gq))
 case first =>
  have hdr:=(Below.refl W.heap.size W).drew;have BB:=qsd (H0.out.below hdr);have BZ:=qsd (ai (H0.out.below (addW14 W)) (zerW14 W));have k0:=BB.out.p.facts;have kS:=qsd (ai k0.1 (ai k0.2.1 k0.2.2.1));have h3l:=H0.out.z.lt;clear hdr k0
  go_region_held3 (fun w'=>w'.cell? ⟨w.heap.size,0,none⟩=some (.bool np)∧w'.cell? ⟨w.heap.size,1,none⟩=some (.slice ap lp cp)∧w'.cell? ⟨w.heap.size,2,none⟩=some (.int .i64 ep)) (first | with_reducible exact kS.out | with_reducible exact ⟨BZ.out.1.p.facts.1,BZ.out.1.p.facts.2.1,BZ.out.1.p.facts.2.2.1⟩ | with_reducible exact ⟨kZ.out.facts.1,kZ.out.facts.2.1,kZ.out.facts.2.2.1⟩ | with_reducible exact kT.out | with_reducible exact ⟨kM.out.facts.1,kM.out.facts.2.1,kM.out.facts.2.2.1⟩ | with_reducible exact ⟨kN.out.facts.1,kN.out.facts.2.1,kN.out.facts.2.2.1⟩) (first
   | (go_at_call 69
      with_reducible refine (HI.out _ BB.out.b).mono ?_
      rintro r u1 ⟨hd,hb⟩;obtain ⟨a3,c3,rfl,hN3⟩:=hd.shp14;have BC:=qsd (ai (BB.out.below hb) hN3);have kS:=qsd (ai BC.out.1.p.facts.1 (ai BC.out.1.p.facts.2.1 BC.out.1.p.facts.2.2.1));have kZ:=qsd (BC.out.1.p.below (below_alloc u1 (Obj.cells #[.bool false,.slice none 0 0,.int .i64 0] 67)));have h4l:=BC.out.1.z.lt;clear hb hd hN3)
   | (go_at_call 69
      with_reducible refine (HI.out _ BZ.out.1.b).mono ?_
      rintro r u1 ⟨hd,hb⟩;obtain ⟨a3,c3,rfl,hN3⟩:=hd.shp14;have BC:=qsd (ai (BZ.out.1.below hb) hN3);have ZB:=qsd (BZ.out.2.below hb);have kS:=qsd (ai BC.out.1.p.facts.1 (ai BC.out.1.p.facts.2.1 BC.out.1.p.facts.2.2.1));clear hb hd hN3)
   | (go_at_call 104
      with_reducible refine (HM1.out _ a3 c3 BC.out.1.b BC.out.2).mono ?_
      rintro r u2 ⟨hd,hb⟩;obtain ⟨a4,c4,rfl,hN4⟩:=hd.shp14;have BE:=qsd (ai (BC.out.1.below hb) hN4);have kS:=qsd (ai BE.out.1.p.facts.1 (ai BE.out.1.p.facts.2.1 BE.out.1.p.facts.2.2.1));have kZ:=qsd (BE.out.1.p.below (below_alloc u2 (Obj.cells #[.bool false,.slice none 0 0,.int .i64 0] 67)));have kM:=qsd (BE.out.1.p.below (below_alloc u2 (Obj.cells #[.bool (dN o1),.slice a4 (ws (dX o1)).length c4,.int .i64 (dE o1)] 67)));have kN:=qsd ((BE.out.1.p.below (below_alloc u2 (Obj.cells #[.bool false,.slice none 0 0,.int .i64 0] 67))).other u2.heap.size (by have:=BE.out.1.z.lt;omega) (.bool (dN o1)) (.slice a4 (ws (dX o1)).length c4) (.int .i64 (dE o1)))
      try have ZB:=qsd (ZB.out.below hb)
      try have kT:=qsd (show _ from (ai (BE.out.1.p.other _ (show w.heap.size≠W.heap.size by omega) (.bool (dN o1)) (.slice a4 (ws (dX o1)).length c4) (.int .i64 (dE o1))).facts.1 (ai (BE.out.1.p.other _ (show w.heap.size≠W.heap.size by omega) (.bool (dN o1)) (.slice a4 (ws (dX o1)).length c4) (.int .i64 (dE o1))).facts.2.1 (BE.out.1.p.other _ (show w.heap.size≠W.heap.size by omega) (.bool (dN o1)) (.slice a4 (ws (dX o1)).length c4) (.int .i64 (dE o1))).facts.2.2.1)))
      try (obtain ⟨zp,zq,DZ,MZ⟩:=ZB.out;obtain ⟨z0,z1,z2,zf0,zf1,zf2⟩:=DZ.facts;clear DZ MZ)
      clear hb hd hN4)
   | (go_at_call 104
      with_reducible refine (HM1.out _ a3 c3 (BC.out.1.below (below_alloc u1 (Obj.cells #[.bool false,.slice none 0 0,.int .i64 0] 67))).b (BC.out.2.below (below_alloc u1 (Obj.cells #[.bool false,.slice none 0 0,.int .i64 0] 67)))).mono ?_
      rintro r u2 ⟨hd,hb⟩;obtain ⟨a4,c4,rfl,hN4⟩:=hd.shp14;have BE:=qsd (ai ((BC.out.1.below (below_alloc u1 (Obj.cells #[.bool false,.slice none 0 0,.int .i64 0] 67))).below hb) hN4);have ZC:=qsd ((Lo.zero u1).below hb);have kS:=qsd (ai BE.out.1.p.facts.1 (ai BE.out.1.p.facts.2.1 BE.out.1.p.facts.2.2.1));have kT:=qsd (ai (BE.out.1.p.other _ (show w.heap.size≠u1.heap.size by omega) (.bool (dN o1)) (.slice a4 (ws (dX o1)).length c4) (.int .i64 (dE o1))).facts.1 (ai (BE.out.1.p.other _ (show w.heap.size≠u1.heap.size by omega) (.bool (dN o1)) (.slice a4 (ws (dX o1)).length c4) (.int .i64 (dE o1))).facts.2.1 (BE.out.1.p.other _ (show w.heap.size≠u1.heap.size by omega) (.bool (dN o1)) (.slice a4 (ws (dX o1)).length c4) (.int .i64 (dE o1))).facts.2.2.1))
      obtain ⟨zp,zq,DZ,MZ⟩:=ZC.out;obtain ⟨z0,z1,z2,zf0,zf1,zf2⟩:=DZ.facts;clear hb hd hN4 DZ MZ))
  all_goals
   go_wp2_with fail
   go_meet
   case rel =>
    first
     | exact ⟨u2.heap.size,rfl,rfl,Lo.new BE.out.2,BE.out.1.below (below_alloc _ _),BE.out.1.z.lt⟩
     | exact ⟨u2.heap.size,rfl,rfl,(Lo.zero u2).set (BE.out.2.below (below_alloc _ _)),(BE.out.1.below (below_alloc _ _)).other (Lo.zero u2) BE.out.1.z.lt _ _ _,BE.out.1.z.lt⟩
     | exact ⟨W.heap.size,rfl,rfl,ZB.out.set BE.out.2,BE.out.1.other ZB.out h3l _ _ _,h3l⟩
     | exact ⟨u1.heap.size,rfl,rfl,ZC.out.set BE.out.2,BE.out.1.other ZC.out h4l _ _ _,h4l⟩
 obtain ⟨gq,rfl,rfl,K1⟩:=hcut;obtain ⟨U,hU⟩:∃ U,U=wc:=⟨_,rfl⟩;rw [←hU] at K1 ⊢;clear hU H0
 go_upto_region 4 with fail
 obtain ⟨x0,x1,x2,xf0,xf1,xf2⟩:=K1.out.2.1.s.facts;obtain ⟨y0,y1,y2,yf0,yf1,yf2⟩:=K1.out.2.1.t.facts;have C:=hid (HM2.out U K1.out.2.1.b)
 go_wp2_with fail
 refine C.out.mono ?_;rintro r u3 ⟨hd,hb⟩;obtain ⟨a5,c5,rfl,hN5⟩:=hd.shp14;obtain ⟨V,hV⟩:∃ V,V=u3.alloc (Obj.cells #[.bool (dN o2),.slice a5 (ws (dX o2)).length c5,.int .i64 (dE o2)] 67):=⟨_,rfl⟩;obtain ⟨gr,hgr⟩:∃ g,g=u3.heap.size:=⟨_,rfl⟩
 have K2:Aside (Lo V gq o1∧Bx14 w V np ns nt ap az at' lp cp ls cs lt ct ep es et∧Lo V gr o2):=by
  rw [hV,hgr];exact ⟨(K1.out.1.below hb).below (below_alloc _ _),(K1.out.2.1.below hb).below (below_alloc _ _),Lo.new hN5⟩
 have HV:=(qsd (ai hV hgr));clear hV hgr hb hd hN5 C x0 x1 x2 xf0 xf1 xf2 y0 y1 y2 yf0 yf1 yf2 K1
 go_upto_region 5 with fail
 rw [←HV.out.1,←HV.out.2];clear HV
 go_upto_region 7 with fail
 obtain ⟨p1,q1,D1,M1⟩:=K2.out.1;obtain ⟨p2,q2,D2,M2⟩:=K2.out.2.2;obtain ⟨x0,x1,x2,xf0,xf1,xf2⟩:=D1.facts;obtain ⟨y0,y1,y2,yf0,yf1,yf2⟩:=D2.facts;have C:=hid (HS.out V p1 p2 q1 q2 K2.out.2.1.b M1 M2);clear D1 D2 M1 M2
 go_wp2_with fail
 refine C.out.mono ?_;rintro r u4 ⟨hd,hb⟩;obtain ⟨a6,c6,rfl,hN6⟩:=hd.shp14;have K3:=qsd (ai (K2.out.2.1.below hb) hN6);clear hb hd hN6 C x0 x1 x2 xf0 xf1 xf2 y0 y1 y2 yf0 yf1 yf2 K2;obtain ⟨p4,q4,D4,M4⟩:=K3.out.1.z;obtain ⟨y0,y1,y2,yf0,yf1,yf2⟩:=D4.facts;have HE:=qsd (ai (D4.set (dN o3) (.slice a6 (ws (dX o3)).length c6) (dE o3)) (ai (K3.out.2.off12 D4 (.bool (dN o3)) (.slice a6 (ws (dX o3)).length c6) (.int .i64 (dE o3))) (st3_bel12 K3.out.1.b K3.out.1.b.size (show w.heap.size≤w.heap.size+3 by omega) (.bool (dN o3)) (.slice a6 (ws (dX o3)).length c6) (.int .i64 (dE o3)))))
 unfold st3 at HE;clear D4 M4;go_wp2;obtain ⟨f0,f1,f2,_,_,_⟩:=HE.out.1.facts;exact bodyPost_ret (v:=.tuple #[.agg #[.bool (dN o3),.slice a6 (ws (dX o3)).length c6,.int .i64 (dE o3)],.int .i64 e3]) (by simp [results,Tryz.results73,go_sem,f0,f1,f2]) rfl ⟨⟨_,rfl,HE.out.2.1⟩,HE.out.2.2⟩
theorem mulD_re {o p:Option (Bool×Nat×Int)}(h:(mulD o p).isSome=true):mkS (dN (mulD o p)) (dX (mulD o p)) (dE (mulD o p))=mulD o p:=by
 cases o with
 | none=>cases h
 | some x =>
   cases p with
   | none=>cases h
   | some y=>exact reform (o:=mulD (some x) (some y)) rfl h
theorem cb14 {w w':World}{p:Addr}{v:Value}(h:w.cell? p=some v) (hb:Below w.heap.size w w'):w'.cell? p=some v:=(hb.cell (p:=p) (World.block_lt_of_cell? w p h)).trans h
theorem cs14 {w:World}{g:Nat}{x y z:Value}{p:Addr}{v:Value}(h:w.cell? p=some v) (hg:p.block≠g):(st3 w g x y z).cell? p=some v:=by
 rw [World.cell?_of_block (a:=p) ((st3_but12 g w x y z).block p.block (World.block_lt_of_cell? w p h) hg)];exact h
theorem len_rng14 {o:Option (Bool×Nat×Int)}(h:o.isSome=true) (hr:mkS (dN o) (dX o) (dE o)=o):(ws (dX o)).length≤8192∧-9223372036854775808≤dE o∧dE o≤9223372036854775807:=by
 have F:=frm_of (n:=dN o) (X:=dX o) (e:=dE o) (by rw [hr];exact h)
 rw [hr] at F;have:=frm_len F;have:=F.up;have:=F.down;refine ⟨by omega,by omega,by omega⟩
theorem difference14 {w:World}{ap az at':Option Addr}{lp cp ls cs lt ct:Nat}{xs ys zs:List Nat}(n:Int) (np ns nt:Bool) (ep es et:Int) (h1:Arg w ap lp cp xs) (h2:Arg w az ls cs ys) (h3:Arg w at' lt ct zs) (hT:Tab w)
 (hn:-9223372036854775808≤n∧n≤9223372036854775807) (b1:-9223372036854775808≤ep∧ep≤9223372036854775807) (b2:-9223372036854775808≤es∧es≤9223372036854775807) (b3:-9223372036854775808≤et∧et≤9223372036854775807) :
 Calls Tryz.prog 73 #[.int .i64 n,.agg #[.bool np,.slice ap lp cp,.int .i64 ep],.agg #[.bool ns,.slice az ls cs,.int .i64 es],.agg #[.bool nt,.slice at' lt ct,.int .i64 et]] w fun r w' =>
  DA14 w' r (difO (mulD (gV 0 n) (mkS np (val xs) ep)) (mulD (mkS ns (val ys) es) (mkS nt (val zs) et))) (erS (difO (mulD (gV 0 n) (mkS np (val xs) ep)) (mulD (mkS ns (val ys) es) (mkS nt (val zs) et))))∧Below w.heap.size w w':=by
 have Fi:Fm (gV 0 n):=g_fm (m:=63) (by decide) (by decide) (show Bd 63 n by unfold Bd;omega)
 have HI:=hid (fun (u:World) (hu:Below w.heap.size w u)=>Int14 n u (hT.belows hu) hn.1 hn.2)
 have HM1:∀ (u:World) (a:Option Addr) (c:Nat),Below w.heap.size w u→Nt 0 u (.slice a (ws (dX (gV 0 n))).length c) (dX (gV 0 n))→Calls Tryz.prog 104 #[.agg #[.bool (dN (gV 0 n)),.slice a (ws (dX (gV 0 n))).length c,.int .i64 (dE (gV 0 n))],.agg #[.bool np,.slice ap lp cp,.int .i64 ep]] u fun r w'=>DA14 w' r (mulD (gV 0 n) (mkS np (val xs) ep)) (erS (mulD (gV 0 n) (mkS np (val xs) ep)))∧Below u.heap.size u w':=fun u a c hu hN=>by
  have:=Mul_any3 (Fi.a12 hN) (h1.below hu) (hT.belows hu) (dN (gV 0 n)) np (dE (gV 0 n)) ep Fi.rng.1 Fi.rng.2 b1.1 b1.2;rw [val_ws,Fi.re] at this;exact this.mono fun r w' h=>⟨h.1.da14,h.2⟩
 have HM2:∀ u:World,Below w.heap.size w u→Calls Tryz.prog 104 #[.agg #[.bool ns,.slice az ls cs,.int .i64 es],.agg #[.bool nt,.slice at' lt ct,.int .i64 et]] u fun r w'=>DA14 w' r (mulD (mkS ns (val ys) es) (mkS nt (val zs) et)) (erS (mulD (mkS ns (val ys) es) (mkS nt (val zs) et)))∧Below u.heap.size u w':=fun u hu =>
  (Mul_any3 (h2.below hu) (h3.below hu) (hT.belows hu) ns nt es et b2.1 b2.2 b3.1 b3.2).mono fun r w' h=>⟨h.1.da14,h.2⟩
 have R1:=mulD_re (o:=gV 0 n) (p:=mkS np (val xs) ep);have R2:=mulD_re (o:=mkS ns (val ys) es) (p:=mkS nt (val zs) et);generalize mulD (gV 0 n) (mkS np (val xs) ep)=o1 at *;generalize mulD (mkS ns (val ys) es) (mkS nt (val zs) et)=o2 at *
 have HS:o1.isSome=true→o2.isSome=true→∀ (u:World) (a b:Option Addr) (c d:Nat),Below w.heap.size w u→Nt 0 u (.slice a (ws (dX o1)).length c) (dX o1)→Nt 0 u (.slice b (ws (dX o2)).length d) (dX o2)→Calls Tryz.prog 105 #[.agg #[.bool (dN o1),.slice a (ws (dX o1)).length c,.int .i64 (dE o1)],.agg #[.bool (dN o2),.slice b (ws (dX o2)).length d,.int .i64 (dE o2)]] u fun r w'=>DA14 w' r (addD o1 (mkS (!dN o2) (dX o2) (dE o2))) (erS (addD o1 (mkS (!dN o2) (dX o2) (dE o2))))∧Below u.heap.size u w':=fun q1 q2 u a b c d hu n1 n2=>by
  obtain ⟨l1,r1,r1'⟩:=len_rng14 q1 (R1 q1);obtain ⟨l2,r2,r2'⟩:=len_rng14 q2 (R2 q2);have:=Sub_any3 (n1.arg' (by omega)).2 (n2.arg' (by omega)).2 (hT.belows hu) (dN o1) (dN o2) (dE o1) (dE o2) r1 r1' r2 r2'
  rw [val_ws,val_ws,R1 q1] at this;exact this.mono fun r w' h=>⟨h.1.da14,h.2⟩
 unfold difO;have none14:∀ (u:World) (a b:Option Addr) (c d:Nat),Below w.heap.size w u→Nt 0 u (.slice a (ws (dX o1)).length c) (dX o1)→Nt 0 u (.slice b (ws (dX o2)).length d) (dX o2)→True:=fun _ _ _ _ _ _ _ _=>trivial
 cases q1:o1.isSome with
 | false =>
   have e1:=erS_none q1;rw [e1] at HM1;exact dif_no1 w n np ns nt ap az at' lp cp ls cs lt ct ep es et (gV 0 n) o1 o2 2 (erS o2) HI (hid HM1) (by decide)
 | true =>
   have e1:=erS_some q1;rw [e1] at HM1
   cases q2:o2.isSome with
   | false =>
     have e2:=erS_none q2;rw [e2] at HM2;exact dif_no2 w n np ns nt ap az at' lp cp ls cs lt ct ep es et (gV 0 n) o1 o2 0 2 HI (hid HM1) (hid HM2) rfl (by decide)
   | true =>
     have e2:=erS_some q2;rw [e2] at HM2;exact dif_ok w n np ns nt ap az at' lp cp ls cs lt ct ep es et (gV 0 n) o1 o2 _ 0 0 _ HI (hid HM1) (hid HM2) (hid (HS q1 q2)) rfl rfl
theorem difg14 {w:World}{ap az at':Option Addr}{cp cs ct:Nat}{n:Nat}{P S T:Int}(hn:n≤65536) (bP:Bd 4212 P) (bS:Bd 2114 S) (bT:Bd 2114 T) (hT:Tab w)
 (N1:Nt 0 w (.slice ap (ws (dX (gV 2148 P))).length cp) (dX (gV 2148 P))) (N2:Nt 0 w (.slice az (ws (dX (gV 1074 S))).length cs) (dX (gV 1074 S))) (N3:Nt 0 w (.slice at' (ws (dX (gV 1074 T))).length ct) (dX (gV 1074 T))) :
 Calls Tryz.prog 73 #[.int .i64 (n:Nat),.agg #[.bool (dN (gV 2148 P)),.slice ap (ws (dX (gV 2148 P))).length cp,.int .i64 (dE (gV 2148 P))],.agg #[.bool (dN (gV 1074 S)),.slice az (ws (dX (gV 1074 S))).length cs,.int .i64 (dE (gV 1074 S))],.agg #[.bool (dN (gV 1074 T)),.slice at' (ws (dX (gV 1074 T))).length ct,.int .i64 (dE (gV 1074 T))]] w fun r w' =>
  DA14 w' r (gV 2148 ((n:Int)*P-S*T)) 0∧Below w.heap.size w w':=by
 have F1:Fm (gV 2148 P):=g_fm (by decide) (by decide) bP
 have F2:Fm (gV 1074 S):=g_fm (by decide) (by decide) bS
 have F3:Fm (gV 1074 T):=g_fm (by decide) (by decide) bT
 have bn:Bd 16 (n:Int):=Bd.nat (by omega)
 have b1:Bd 4228 ((n:Int)*P):=(bn.mul bP).mono (by decide)
 have b2:Bd 4228 (S*T):=(bS.mul bT).mono (by decide)
 have F4:Fm (gV 2148 ((n:Int)*P)):=g_fm (by decide) (by decide) b1
 have F5:Fm (gV 2148 (S*T)):=g_fm (by decide) (by decide) b2
 have F6:Fm (gV 2148 ((n:Int)*P-S*T)):=g_fm (by decide) (by decide) (b1.sub b2)
 have:=difference14 (n:Int) (dN (gV 2148 P)) (dN (gV 1074 S)) (dN (gV 1074 T)) (dE (gV 2148 P)) (dE (gV 1074 S)) (dE (gV 1074 T)) (F1.a12 N1) (F2.a12 N2) (F3.a12 N3) hT (by omega) F1.rng F2.rng F3.rng
 rw [val_ws,val_ws,val_ws,F1.re,F2.re,F3.re,g_mul (by decide) (by decide) (by decide) (by decide) bn bP,g_mul (by decide) (by decide) (by decide) (by decide) bS bT,Nat.zero_add] at this
 have e:difO (gV 2148 ((n:Int)*P)) (gV 2148 (S*T))=gV 2148 ((n:Int)*P-S*T):=by
  unfold difO;rw [F4.sm,F5.sm];exact g_sub (by decide) (by decide) b1 b2
 rw [e,F6.er] at this;exact this
theorem total14_s (w:World) (n h0 h1:Nat) (A T:Nat→Option (Bool×Nat×Int)) (hn:n≤65536) (hT:Tab w) (FA:∀ i,i<n→Fm (A i)) (FT:∀ i,i≤n→Fm (T i)) (ET:∀ i,i<n→addD (T i) (A i)=T (i+1)) (E0:o00=T 0)
 (HC:Hid (∀ (i:Nat) (u:World),i<n→Below w.heap.size w u→Calls Tryz.prog 115 #[.int .i64 (i:Nat),.pointer (some ⟨h0,0,none⟩),.pointer (some ⟨h1,0,none⟩)] u fun r w'=>DVal 0 w' r (A i)∧Below u.heap.size u w')) :
 Calls Tryz.prog 113 #[.int .i64 (n:Nat),.func (.func 115) #[] #[.pointer (some ⟨h0,0,none⟩),.pointer (some ⟨h1,0,none⟩)]] w fun r w'=>DVal 0 w' r (T n)∧Below w.heap.size w w':=by
 obtain ⟨W,hW⟩:∃ W,W=(w.alloc (Obj.cells #[.bool false,.slice none 0 0,.int .i64 0] 67)).alloc (Obj.cells #[.bool false,.slice none 0 0,.int .i64 0] 67):=⟨_,rfl⟩
 have H0:Aside (Lo W (w.heap.size+1) (T 0)∧Lo W w.heap.size o00∧Below w.heap.size w W):=by
  subst hW;rw [←E0];have z2:=Lo.zero (w.alloc (Obj.cells #[.bool false,.slice none 0 0,.int .i64 0] 67));rw [World.size_alloc] at z2;exact ⟨z2,(Lo.zero w).below (below_alloc _ _),(below_alloc _ _).trans ((below_alloc _ _).mono (by simp))⟩
 have HP:Hid (∀ (i:Nat) (u:World) (p q:Option Addr) (cp cq:Nat),i<n→Tab u→Nt 0 u (.slice p (ws (dX (T i))).length cp) (dX (T i))→Nt 0 u (.slice q (ws (dX (A i))).length cq) (dX (A i))→Calls Tryz.prog 137 #[.agg #[.bool (dN (T i)),.slice p (ws (dX (T i))).length cp,.int .i64 (dE (T i))],.agg #[.bool (dN (A i)),.slice q (ws (dX (A i))).length cq,.int .i64 (dE (A i))]] u fun r w'=>DVal 0 w' r (T (i+1))∧Below u.heap.size u w') :=
  fun i u p q cp cq hi hT n1 n2=>plus14 (FT i (by omega)) (FA i hi) (FT (i+1) (by omega)) n1 n2 hT (ET i hi)
 have HW:=qsd hW;have PF:=qsd (ai FT FA);have HT:=qsd hT;clear hW FT FA ET E0 hT;go_enter Tryz.func113,Tryz.ntmps113
 go_upto_region 2 with fail
 rw [←HW.out];clear HW;go_wp2
 go_loopg [8] n (fun gk i wr=>∃ j:Nat,gk+j=n∧i=.int .i64 (j:Nat)∧Aside (Lo wr (w.heap.size+1) (T j)∧Lo wr w.heap.size o00∧Below w.heap.size w wr))
 case atStart=>exact ⟨0,by omega,by simp,H0.out⟩
 case round =>
  obtain ⟨j,hgj,rfl,HA⟩:=hrel
  by_cases hj:j<n
  · obtain ⟨p1,q1,D1,M1⟩:=HA.out.1
    have hdr:=(Below.refl wr.heap.size wr).drew;have kS:=qsd (ai (D1.below hdr).facts.1 (ai (D1.below hdr).facts.2.1 (D1.below hdr).facts.2.2.1));have B1:=qsd (ai (D1.below hdr) (ai (M1.below hdr) (ai (HA.out.2.1.below hdr) (HA.out.2.2.trans (hdr.mono HA.out.2.2.size)))));have C:=hid (HC.out j wr.drew hj B1.out.2.2.2);clear D1 M1 hdr
    go_upto_region 5 with fail
    refine until_region (fun u=>u.cell? ⟨w.heap.size+1,0,none⟩=some (.bool (dN (T j)))∧u.cell? ⟨w.heap.size+1,1,none⟩=some (.slice p1 (ws (dX (T j))).length q1)∧u.cell? ⟨w.heap.size+1,2,none⟩=some (.int .i64 (dE (T j)))) 5 (by kernel_rfl) ?_
    refine until_take (i:=0) [4] (v:=?_) rfl (by kernel_rfl) (by kernel_rfl) (by kernel_rfl) (by kernel_rfl) (by kernel_rfl) (fun _ _ _ h=>h) (Or.inl ⟨by rfl,?_⟩) kS.out ?_
    rotate_left
    · intro u hSu
      try dsimp only at hSu
      first | (go_simp;done) | (go_simp;with_reducible rfl)
    try simp only [Act.put,List.setIfInBounds_toArray,List.set_cons_zero,List.set_cons_succ]
    refine until_take (i:=1) [3,4] (v:=?_) rfl (by kernel_rfl) (by kernel_rfl) (by kernel_rfl) (by kernel_rfl) (by kernel_rfl) (fun _ _ _ h=>h) (Or.inl ⟨by rfl,?_⟩) kS.out ?_
    rotate_left
    · intro u hSu
      try dsimp only at hSu
      first | (go_simp;done) | (go_simp;with_reducible rfl)
    try simp only [Act.put,List.setIfInBounds_toArray,List.set_cons_zero,List.set_cons_succ]
    refine until_take (i:=2) [3,4] (v:=?_) rfl (by kernel_rfl) (by kernel_rfl) (by kernel_rfl) (by kernel_rfl) (by kernel_rfl) (fun _ _ _ h=>h) (Or.inl ⟨by rfl,?_⟩) kS.out ?_
    rotate_left
    · intro u hSu
      try dsimp only at hSu
      first | (go_simp;done) | (go_simp;with_reducible rfl)
    try simp only [Act.put,List.setIfInBounds_toArray,List.set_cons_zero,List.set_cons_succ]
    refine until_one (i:=3) (by kernel_rfl) rfl (fun K' hK=>?_)
    go_simp
    refine C.out.mono ?_;rintro r u3 ⟨hd,hb⟩;obtain ⟨a3,c3,rfl,hN3⟩:=hd.shape14 (PF.out.2 j hj);have B2:=qsd (ai (B1.out.1.below hb) (ai (B1.out.2.1.below hb) (ai (B1.out.2.2.1.below hb) (ai (B1.out.2.2.2.trans (hb.mono B1.out.2.2.2.size)) hN3))));have kS:=qsd (ai B2.out.1.facts.1 (ai B2.out.1.facts.2.1 B2.out.1.facts.2.2.1));clear hb hd C B1 hN3
    dsimp only
    refine hK.out _ _ (fun _=>kS.out) ?_
    clear hK K'
    try simp only [Act.put,List.setIfInBounds_toArray,List.set_cons_zero,List.set_cons_succ]
    have C:=hid (HP.out j u3 p1 a3 q1 c3 hj (HT.out.belows B2.out.2.2.2.1) B2.out.2.1 B2.out.2.2.2.2);refine until_one (i:=4) (by kernel_rfl) rfl (fun K' hK=>?_)
    go_simp
    refine C.out.mono ?_;rintro r u4 ⟨hd,hb⟩;obtain ⟨a4,c4,rfl,hN4⟩:=hd.shape14 (PF.out.1 (j+1) (by omega))
    have B3:=qsd (ai (B2.out.1.below hb) (ai (B2.out.2.1.below hb) (ai (B2.out.2.2.1.below hb) (ai (B2.out.2.2.2.1.trans (hb.mono B2.out.2.2.2.1.size)) hN4))));have kS:=qsd (ai B3.out.1.facts.1 (ai B3.out.1.facts.2.1 B3.out.1.facts.2.2.1));clear hb hd C B2 hN4
    dsimp only
    refine hK.out _ _ (fun _=>kS.out) ?_
    clear hK K'
    try simp only [Act.put,List.setIfInBounds_toArray,List.set_cons_zero,List.set_cons_succ]
    obtain ⟨z0,z1,z2,zf0,zf1,zf2⟩:=B3.out.1.facts;refine until_one (i:=5) (by kernel_rfl) rfl (fun K' hK=>?_)
    go_simp
    refine hK.out _ _ (fun h=>absurd h (by decide)) ?_
    clear hK K' kS z0 z1 z2 zf0 zf1 zf2;refine until_done (by kernel_rfl) ?_ _
    have LB:Lo u4 (w.heap.size+1) (T j):=⟨_,_,B3.out.1,B3.out.2.1⟩;have b3:=B3.out.2.2.2.1;have H3:=qsd (ai (LB.set B3.out.2.2.2.2) (ai (B3.out.2.2.1.other LB (by omega) (.bool (dN (T (j+1)))) (.slice a4 (ws (dX (T (j+1)))).length c4) (.int .i64 (dE (T (j+1))))) (st3_bel12 b3 b3.size (show w.heap.size≤w.heap.size+1 by omega) (.bool (dN (T (j+1)))) (.slice a4 (ws (dX (T (j+1)))).length c4) (.int .i64 (dE (T (j+1)))))))
    clear LB b3;go_wp2
    go_roundg (gk-1)
    case measure=>omega
    case rel=>exact ⟨j+1,by omega,by first | rfl | simp,H3.out⟩
  · obtain rfl:n=j:=by omega
    have hd:decide ((n:Int)<n)=false:=by simp
    obtain ⟨p1,q1,D1,M1⟩:=HA.out.1;obtain ⟨p2,q2,D2,M2⟩:=HA.out.2.1;obtain ⟨x0,x1,x2,xf0,xf1,xf2⟩:=D1.facts;obtain ⟨y0,y1,y2,yf0,yf1,yf2⟩:=D2.facts;have MM1:=qsd M1;clear D1 D2 M1 M2;go_wp2;exact end14 Tryz.results113 rfl HA.out.2.1 HA.out.2.2 (by omega) MM1.out
theorem spreadC14 (i n h0 h1 gx gy:Nat) (A B:Nat→Option (Bool×Nat×Int)) (c:Option (Bool×Nat×Int)) (u:World) (hi:i<n) (hn:n≤65536) (hT:Tab u) (FA:Fm (A i)) (FB:Fm (B i)) (Fc:Fm c) (E:mulD (A i) (B i)=c)
 (k0:u.cell? ⟨h0,0,none⟩=some (.slice (some ⟨gx,0,none⟩) n n)) (k1:u.cell? ⟨h1,0,none⟩=some (.slice (some ⟨gy,0,none⟩) n n)) (hx:Dr u gx n n A) (hy:Dr u gy n n B) :
 Calls Tryz.prog 115 #[.int .i64 (i:Nat),.pointer (some ⟨h0,0,none⟩),.pointer (some ⟨h1,0,none⟩)] u fun r w'=>DVal 0 w' r c∧Below u.heap.size u w':=by
 obtain ⟨W,hW⟩:∃ W,W=u.alloc (Obj.cells #[.bool false,.slice none 0 0,.int .i64 0] 67):=⟨_,rfl⟩;have LT:Aside (h0<u.heap.size∧h1<u.heap.size∧gx<u.heap.size∧gy<u.heap.size):=⟨World.block_lt_of_cell? u _ k0,World.block_lt_of_cell? u _ k1,hx.lt,hy.lt⟩;have hb:Below u.heap.size u W.drew:=by rw [hW];exact addW14 u
 have L0:Lo W.drew u.heap.size o00:=by rw [hW];exact zerW14 u
 obtain ⟨p1,q1,x0,x1,x2,M1⟩:=(hx.below hb).facts i hi;obtain ⟨p2,q2,y0,y1,y2,M2⟩:=(hy.below hb).facts i hi;have kS:Aside (W.drew.cell? ⟨h0,0,none⟩=some (.slice (some ⟨gx,0,none⟩) n n)∧W.drew.cell? ⟨h1,0,none⟩=some (.slice (some ⟨gy,0,none⟩) n n)∧W.drew.cell? ⟨gx,i*3,none⟩=some (.bool (dN (A i)))∧W.drew.cell? ⟨gx,i*3+1,none⟩=some (.slice p1 (ws (dX (A i))).length q1)∧W.drew.cell? ⟨gx,i*3+2,none⟩=some (.int .i64 (dE (A i)))∧W.drew.cell? ⟨gy,i*3,none⟩=some (.bool (dN (B i)))∧W.drew.cell? ⟨gy,i*3+1,none⟩=some (.slice p2 (ws (dX (B i))).length q2)∧W.drew.cell? ⟨gy,i*3+2,none⟩=some (.int .i64 (dE (B i)))):=⟨cb14 k0 hb,cb14 k1 hb,x0,x1,x2,y0,y1,y2⟩;have C:=hid (times14 FA FB Fc M1 M2 (hT.belows hb) E);have BD:=(qsd (ai hb L0));have FF:=qsd Fc;have HW:=qsd hW;have HI:=qsd hi;clear hW hb L0 x0 x1 x2 y0 y1 y2 M1 M2 k0 k1 hx hy FA FB Fc E hT;go_enter Tryz.func115,Tryz.ntmps115
 go_upto_region 1 with fail
 rw [←HW.out];clear HW
 go_region_held3 (fun w'=>w'.cell? ⟨h0,0,none⟩=some (.slice (some ⟨gx,0,none⟩) n n)∧w'.cell? ⟨h1,0,none⟩=some (.slice (some ⟨gy,0,none⟩) n n)∧w'.cell? ⟨gx,i*3,none⟩=some (.bool (dN (A i)))∧w'.cell? ⟨gx,i*3+1,none⟩=some (.slice p1 (ws (dX (A i))).length q1)∧w'.cell? ⟨gx,i*3+2,none⟩=some (.int .i64 (dE (A i)))∧w'.cell? ⟨gy,i*3,none⟩=some (.bool (dN (B i)))∧w'.cell? ⟨gy,i*3+1,none⟩=some (.slice p2 (ws (dX (B i))).length q2)∧w'.cell? ⟨gy,i*3+2,none⟩=some (.int .i64 (dE (B i)))) (first | with_reducible exact kS.out | with_reducible exact kT.out) (first
  | (go_at_call 106
     with_reducible refine C.out.mono ?_
     rintro r u3 ⟨hd,hb⟩;obtain ⟨a3,c3,rfl,hN3⟩:=hd.shp14;have BD:=qsd (ai (BD.out.1.trans (hb.mono BD.out.1.size)) (ai (BD.out.2.below hb) hN3));have kS:=qsd (ai (cb14 kS.out.1 hb) (ai (cb14 kS.out.2.1 hb) (ai (cb14 kS.out.2.2.1 hb) (ai (cb14 kS.out.2.2.2.1 hb) (ai (cb14 kS.out.2.2.2.2.1 hb) (ai (cb14 kS.out.2.2.2.2.2.1 hb) (ai (cb14 kS.out.2.2.2.2.2.2.1 hb) (cb14 kS.out.2.2.2.2.2.2.2 hb))))))));have kT:=qsd (ai (cs14 (x:=.bool (dN c)) (y:=.slice a3 (ws (dX c)).length c3) (z:=.int .i64 (dE c)) kS.out.1 (Nat.ne_of_lt LT.out.1)) (ai (cs14 (x:=.bool (dN c)) (y:=.slice a3 (ws (dX c)).length c3) (z:=.int .i64 (dE c)) kS.out.2.1 (Nat.ne_of_lt LT.out.2.1)) (ai (cs14 (x:=.bool (dN c)) (y:=.slice a3 (ws (dX c)).length c3) (z:=.int .i64 (dE c)) kS.out.2.2.1 (Nat.ne_of_lt LT.out.2.2.1)) (ai (cs14 (x:=.bool (dN c)) (y:=.slice a3 (ws (dX c)).length c3) (z:=.int .i64 (dE c)) kS.out.2.2.2.1 (Nat.ne_of_lt LT.out.2.2.1)) (ai (cs14 (x:=.bool (dN c)) (y:=.slice a3 (ws (dX c)).length c3) (z:=.int .i64 (dE c)) kS.out.2.2.2.2.1 (Nat.ne_of_lt LT.out.2.2.1)) (ai (cs14 (x:=.bool (dN c)) (y:=.slice a3 (ws (dX c)).length c3) (z:=.int .i64 (dE c)) kS.out.2.2.2.2.2.1 (Nat.ne_of_lt LT.out.2.2.2)) (ai (cs14 (x:=.bool (dN c)) (y:=.slice a3 (ws (dX c)).length c3) (z:=.int .i64 (dE c)) kS.out.2.2.2.2.2.2.1 (Nat.ne_of_lt LT.out.2.2.2)) (cs14 (x:=.bool (dN c)) (y:=.slice a3 (ws (dX c)).length c3) (z:=.int .i64 (dE c)) kS.out.2.2.2.2.2.2.2 (Nat.ne_of_lt LT.out.2.2.2)))))))));obtain ⟨zp,zq,DZ,MZ⟩:=BD.out.2.1;obtain ⟨z0,z1,z2,zf0,zf1,zf2⟩:=DZ.facts;clear hb hd hN3 DZ MZ C))
 go_wp2;exact end14 Tryz.results115 rfl BD.out.2.1 BD.out.1 (Nat.le_refl _) BD.out.2.2
theorem prod_bd14 {f g:Nat→Int}{n:Nat}(bf:∀ i,i<n→Bd 2098 (f i)) (bg:∀ i,i<n→Bd 2098 (g i)) (hn:n≤65536) (k:Nat) (hk:k≤n):Bd 4212 (tS (fun i=>f i*g i) k) :=
 (tS_bd (m:=4196) (fun i hi=>((bf i hi).mul (bg i hi)).mono (by decide)) hn k hk).mono (by decide)
theorem spread_core (w:World) (n gx gy:Nat) (ax ay:Option Addr) (cx cy:Nat) (oS oT oP oD:Option (Bool×Nat×Int)) (hP:Fm oP) (hD:Fm oD)
 (N1:Nt 0 w (.slice ax (ws (dX oS)).length cx) (dX oS)) (N2:Nt 0 w (.slice ay (ws (dX oT)).length cy) (dX oT))
 (HC:Hid (∀ u:World,Below w.heap.size w u→u.cell? ⟨w.heap.size,0,none⟩=some (.slice (some ⟨gx,0,none⟩) n n)→u.cell? ⟨w.heap.size+1,0,none⟩=some (.slice (some ⟨gy,0,none⟩) n n)→Calls Tryz.prog 113 #[.int .i64 (n:Nat),.func (.func 115) #[] #[.pointer (some ⟨w.heap.size,0,none⟩),.pointer (some ⟨w.heap.size+1,0,none⟩)]] u fun r w'=>DVal 0 w' r oP∧Below u.heap.size u w'))
 (HD:Hid (∀ (u:World) (a b d:Option Addr) (ca cb cd:Nat),Below w.heap.size w u→Nt 0 u (.slice a (ws (dX oP)).length ca) (dX oP)→Nt 0 u (.slice b (ws (dX oS)).length cb) (dX oS)→Nt 0 u (.slice d (ws (dX oT)).length cd) (dX oT)→Calls Tryz.prog 73 #[.int .i64 (n:Nat),.agg #[.bool (dN oP),.slice a (ws (dX oP)).length ca,.int .i64 (dE oP)],.agg #[.bool (dN oS),.slice b (ws (dX oS)).length cb,.int .i64 (dE oS)],.agg #[.bool (dN oT),.slice d (ws (dX oT)).length cd,.int .i64 (dE oT)]] u fun r w'=>DA14 w' r oD 0∧Below u.heap.size u w')) :
 Calls Tryz.prog 83 #[.agg #[.slice (some ⟨gx,0,none⟩) n n,.bool (dN oS),.slice ax (ws (dX oS)).length cx,.int .i64 (dE oS)],.agg #[.slice (some ⟨gy,0,none⟩) n n,.bool (dN oT),.slice ay (ws (dX oT)).length cy,.int .i64 (dE oT)]] w fun r w'=>DVal 0 w' r oD∧Below w.heap.size w w':=by
 obtain ⟨W,hW⟩:∃ W,W=((w.alloc (Obj.cells #[.slice (some ⟨gx,0,none⟩) n n,.bool (dN oS),.slice ax (ws (dX oS)).length cx,.int .i64 (dE oS)] 125)).alloc (Obj.cells #[.slice (some ⟨gy,0,none⟩) n n,.bool (dN oT),.slice ay (ws (dX oT)).length cy,.int .i64 (dE oT)] 125)).alloc (Obj.cells #[.bool false,.slice none 0 0,.int .i64 0] 67):=⟨_,rfl⟩
 have H0:Aside (Bl W w.heap.size 125 [.slice (some ⟨gx,0,none⟩) n n,.bool (dN oS),.slice ax (ws (dX oS)).length cx,.int .i64 (dE oS)]∧Bl W (w.heap.size+1) 125 [.slice (some ⟨gy,0,none⟩) n n,.bool (dN oT),.slice ay (ws (dX oT)).length cy,.int .i64 (dE oT)]∧Lo W (w.heap.size+2) o00∧Below w.heap.size w W∧Nt 0 W (.slice ax (ws (dX oS)).length cx) (dX oS)∧Nt 0 W (.slice ay (ws (dX oT)).length cy) (dX oT)):=by
  have hbW:Below w.heap.size w W:=by rw [hW];exact ((below_alloc _ _).trans ((below_alloc _ _).mono (by simp))).trans ((below_alloc _ _).mono (by simp;omega))
  refine ⟨?_,?_,?_,hbW,N1.below hbW,N2.below hbW⟩
  · rw [hW];exact ((Bl.new w 125 [.slice (some ⟨gx,0,none⟩) n n,.bool (dN oS),.slice ax (ws (dX oS)).length cx,.int .i64 (dE oS)]).alloc _).alloc _
  · have z1:=Bl.new (w.alloc (Obj.cells #[.slice (some ⟨gx,0,none⟩) n n,.bool (dN oS),.slice ax (ws (dX oS)).length cx,.int .i64 (dE oS)] 125)) 125 [.slice (some ⟨gy,0,none⟩) n n,.bool (dN oT),.slice ay (ws (dX oT)).length cy,.int .i64 (dE oT)]
    rw [World.size_alloc] at z1;rw [hW];exact z1.alloc _
  · have z2:=Lo.zero ((w.alloc (Obj.cells #[.slice (some ⟨gx,0,none⟩) n n,.bool (dN oS),.slice ax (ws (dX oS)).length cx,.int .i64 (dE oS)] 125)).alloc (Obj.cells #[.slice (some ⟨gy,0,none⟩) n n,.bool (dN oT),.slice ay (ws (dX oT)).length cy,.int .i64 (dE oT)] 125))
    rw [World.size_alloc,World.size_alloc] at z2;rw [hW];exact z2
 have HW:=qsd hW;have FF:=(qsd (ai hP hD));clear hW N1 N2 hP hD;go_enter Tryz.func83,Tryz.ntmps83
 go_upto_region 1 with fail
 rw [←HW.out];clear HW;have s0:=H0.out.1.cell 0 _ rfl;have hmf:∀ (fn:Fn) (first cap:Array Value) (w:World),(Instr.makeFunc fn first cap).run Tryz.prog w=.ok (.func fn first cap) w:=fun _ _ _ _=>rfl
 have C:=hid (HC.out W H0.out.2.2.2.1 (H0.out.1.cell 0 _ rfl) (H0.out.2.1.cell 0 _ rfl))
 go_wp2_with fail
 refine C.out.mono ?_;rintro r u1 ⟨hd,hb⟩;obtain ⟨a1,c1,rfl,hN1⟩:=hd.shp14;obtain ⟨U,hU⟩:∃ U,U=u1.alloc (Obj.cells #[.bool (dN oP),.slice a1 (ws (dX oP)).length c1,.int .i64 (dE oP)] 67):=⟨_,rfl⟩;obtain ⟨g6,hg6⟩:∃ g,g=u1.heap.size:=⟨_,rfl⟩
 have H1:Aside (Lo U g6 oP∧Bl U w.heap.size 125 [.slice (some ⟨gx,0,none⟩) n n,.bool (dN oS),.slice ax (ws (dX oS)).length cx,.int .i64 (dE oS)]∧Bl U (w.heap.size+1) 125 [.slice (some ⟨gy,0,none⟩) n n,.bool (dN oT),.slice ay (ws (dX oT)).length cy,.int .i64 (dE oT)]∧Lo U (w.heap.size+2) o00∧Below w.heap.size w U∧Nt 0 U (.slice ax (ws (dX oS)).length cx) (dX oS)∧Nt 0 U (.slice ay (ws (dX oT)).length cy) (dX oT)):=by
  have hbU:Below W.heap.size W U:=by rw [hU];exact hb.trans ((below_alloc _ _).mono hb.size)
  refine ⟨?_,H0.out.1.below hbU H0.out.1.lt,H0.out.2.1.below hbU H0.out.2.1.lt,H0.out.2.2.1.below hbU,H0.out.2.2.2.1.trans (hbU.mono H0.out.2.2.2.1.size),H0.out.2.2.2.2.1.below hbU,H0.out.2.2.2.2.2.below hbU⟩;rw [hU,hg6];exact Lo.new hN1
 have HU:=(qsd (ai hU hg6));clear hU hg6 hb hd hN1 C H0 s0
 go_upto_region 3 with fail
 rw [←HU.out.1,←HU.out.2];clear HU;obtain ⟨pp,qp,DP,MP⟩:=H1.out.1;obtain ⟨x0,x1,x2,xf0,xf1,xf2⟩:=DP.facts;have s1:=H1.out.2.1.cell 1 _ rfl;have s2:=H1.out.2.1.cell 2 _ rfl;have s3:=H1.out.2.1.cell 3 _ rfl;have t1:=H1.out.2.2.1.cell 1 _ rfl;have t2:=H1.out.2.2.1.cell 2 _ rfl;have t3:=H1.out.2.2.1.cell 3 _ rfl;have C:=hid (HD.out U pp ax ay qp cx cy H1.out.2.2.2.2.1 MP H1.out.2.2.2.2.2.1 H1.out.2.2.2.2.2.2);clear DP MP
 go_wp2_with fail
 refine C.out.mono ?_;rintro r u2 ⟨hd,hb⟩;obtain ⟨a2,c2,rfl,hN2⟩:=hd.shp14;obtain ⟨V,hV⟩:∃ V,V=u2.alloc (Obj.cells #[.bool (dN oD),.slice a2 (ws (dX oD)).length c2,.int .i64 (dE oD)] 67):=⟨_,rfl⟩;obtain ⟨g7,hg7⟩:∃ g,g=u2.heap.size:=⟨_,rfl⟩
 have H2:Aside (Lo V g7 oD∧Lo V (w.heap.size+2) o00∧Below w.heap.size w V):=by
  have hbV:Below U.heap.size U V:=by rw [hV];exact hb.trans ((below_alloc _ _).mono hb.size)
  refine ⟨?_,H1.out.2.2.2.1.below hbV,H1.out.2.2.2.2.1.trans (hbV.mono H1.out.2.2.2.2.1.size)⟩;rw [hV,hg7];exact Lo.new hN2
 have HV:=(qsd (ai hV hg7));clear hV hg7 hb hd hN2 C H1 x0 x1 x2 xf0 xf1 xf2 s1 s2 s3 t1 t2 t3
 go_upto_region 4 with fail
 rw [←HV.out.1,←HV.out.2];clear HV;obtain ⟨p1,q1,D1,M1⟩:=H2.out.1;obtain ⟨p2,q2,D2,M2⟩:=H2.out.2.1;obtain ⟨x0,x1,x2,xf0,xf1,xf2⟩:=D1.facts;obtain ⟨y0,y1,y2,yf0,yf1,yf2⟩:=D2.facts;have MM1:=qsd M1;clear D1 D2 M1 M2;go_wp2;exact end14 Tryz.results83 rfl H2.out.2.1 H2.out.2.2 (by omega) MM1.out
theorem spread14 {w:World}{v1 v2:Value}{n:Nat}{f g:Nat→Int}{S T:Int}(hn:n≤65536) (hT:Tab w) (bf:∀ i,i<n→Bd 2098 (f i)) (bg:∀ i,i<n→Bd 2098 (g i)) (bS:Bd 2114 S) (bT:Bd 2114 T)
 (h1:Rr w v1 n (fun i=>gV 1074 (f i)) (gV 1074 S)) (h2:Rr w v2 n (fun i=>gV 1074 (g i)) (gV 1074 T)) :
 Calls Tryz.prog 83 #[v1,v2] w fun r w'=>DVal 0 w' r (gV 2148 ((n:Int)*tS (fun i=>f i*g i) n-S*T))∧Below w.heap.size w w':=by
 obtain ⟨gx,ax,cx,rfl,hx,n1⟩:=h1;obtain ⟨gy,ay,cy,rfl,hy,n2⟩:=h2;have bP:=fun k hk=>prod_bd14 bf bg hn k hk
 have bn:Bd 16 (n:Int):=Bd.nat (by omega)
 refine spread_core w n gx gy ax ay cx cy (gV 1074 S) (gV 1074 T) (gV 2148 (tS (fun i=>f i*g i) n)) _ (g_fm (by decide) (by decide) (bP n (Nat.le_refl _))) (g_fm (m:=4229) (by decide) (by decide) (Bd.sub (m:=4228) ((bn.mul (bP n (Nat.le_refl _))).mono (by decide)) ((bS.mul bT).mono (by decide)))) n1 n2 (hid fun u hu k0 k1=>?_) (hid fun u a b d ca cb cd hu m1 m2 m3=>difg14 hn (bP n (Nat.le_refl _)) bS bT (hT.belows hu) m1 m2 m3)
 refine total14_s u n w.heap.size (w.heap.size+1) (fun i=>gV 2148 (f i*g i)) (fun i=>gV 2148 (tS (fun i=>f i*g i) i)) hn (hT.belows hu) (fun i hi=>g_fm (by decide) (by decide) ((bf i hi).mul (bg i hi))) (fun i hi=>g_fm (by decide) (by decide) (bP i hi)) (fun i hi=>g_add (by decide) (by decide) (bP i (by omega)) (((bf i hi).mul (bg i hi)).mono (by decide))) (g_zero 2148).symm (hid fun i v hi hv=>?_)
 have hv2:Below w.heap.size w v:=hu.trans (hv.mono hu.size);exact spreadC14 i n w.heap.size (w.heap.size+1) gx gy (fun i=>gV 1074 (f i)) (fun i=>gV 1074 (g i)) (gV 2148 (f i*g i)) v hi hn (hT.belows hv2) (g_fm (by decide) (by decide) (bf i hi)) (g_fm (by decide) (by decide) (bg i hi)) (g_fm (by decide) (by decide) ((bf i hi).mul (bg i hi))) (g_mul (by decide) (by decide) (by decide) (by decide) (bf i hi) (bg i hi)) (cb14 k0 hv) (cb14 k1 hv) (hx.below hv2) (hy.below hv2)
end
end Go.Proofs.YthejkolknalpaaaGreatDoor
