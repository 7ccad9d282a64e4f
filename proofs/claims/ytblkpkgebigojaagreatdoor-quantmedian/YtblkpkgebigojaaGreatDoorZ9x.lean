import Derived.Test.YtblkpkgebigojaaGreatDoorZ2x
import Derived.Test.YtblkpkgebigojaaGreatDoorD30x
import Derived.Deep.OwnRows
import Derived.Deep.LoopGhost
import Derived.Deep.Cut
import Derived.Deep.RegionHeld3
import Derived.Test.YtblkpkgebigojaaGreatDoorD21x
import Derived.Deep.RegionWith
import Derived.Deep.CutRange
import Derived.Test.YtblkpkgebigojaaGreatDoorW24x
import Derived.BigQuiet
import Derived.Test.YtblkpkgebigojaaGreatDoorD16x
import Derived.Test.YtblkpkgebigojaaGreatDoorS11ax
import Derived.Test.YtblkpkgebigojaaGreatDoorBIeeex
import Derived.Laws.FloatArith
import Derived.Test.YtblkpkgebigojaaGreatDoorD8x
import Derived.Test.YtblkpkgebigojaaGreatDoorW14x
import Derived.ProofKit
import Derived.OpenShut
import Derived.ChangeOld
import Derived.SizedLaws
import Derived.ChangeArms
import Derived.KernelRfl
import Derived.ArgAppend
import Derived.Maps.AppendAt
import Derived.WalkMore
import Derived.OwnWalk
import Derived.RangeFuncNested
import Derived.RangeFuncBound
import Derived.RangeFuncCalls
import Derived.RangeFuncLeaves
import Derived.RangeFuncBox
import Derived.Shelf.Abstract
import Derived.Shelf.RegionOpen
import Derived.WalkKit
import Derived.OwnWalkIn
import Derived.TacticsInMore
import Derived.LoopNIn
import Derived.LoopIn
set_option linter.unusedVariables false
set_option linter.unusedSimpArgs false
set_option maxHeartbeats 16000000
set_option maxRecDepth 20000
namespace Go.Proofs.YtblkpkgebigojaaGreatDoor
namespace J
end J
section
open Go.RowKit
theorem infoR:(Tryz.prog.info? 98).map (fun i=>(i.zero,i.size,i.bytes))=some (some (.agg #[.bool false,.slice none 0 0,.int .i64 0,.bool false,.slice none 0 0,.int .i64 0]),6,80):=by kernel_rfl
theorem make_ratios1 (w:World) :
 (Instr.makeSlice 187 (.int .i64 1) (.int .i64 1)).run Tryz.prog w=.ok (.slice (some ⟨w.heap.size,0,none⟩) 1 1) (w.alloc (.cells #[.bool false,.slice none 0 0,.int .i64 0,.bool false,.slice none 0 0,.int .i64 0] 98)):=by
 have h:=infoR;have e:IntKind.i64.wrap 1=1:=by decide
 cases hq:Tryz.prog.info? 98 with
 | none=>rw [hq] at h;simp at h
 | some i =>
   rw [hq] at h;simp at h;simp [Instr.makeSlice,go_sem,Tryz.underlying187,hq,h,typeInfo,e]
structure Ri where
 n:Bool
 v:Value
 X:Nat
 e:Int
 m:Bool
 u:Value
 Y:Nat
 f:Int
def Av (w:World) (v:Value) (X:Nat):Prop:=∃ a l c xs,v=.slice a l c∧Arg w a l c xs∧val xs=X
theorem Av.below {w w':World}{v:Value}{X:Nat}(h:Av w v X) (hb:Below w.heap.size w w'):Av w' v X:=by
 obtain ⟨a,l,c,xs,rfl,hA,hv⟩:=h;exact ⟨a,l,c,xs,rfl,hA.below hb,hv⟩
theorem Nt.av {lo:Nat}{w:World}{v:Value}{X:Nat}(h:Nt lo w v X) (hs:(ws X).length≤35184372088832):Av w v X:=by
 obtain ⟨a,c,rfl,hA⟩:=h.arg hs;exact ⟨a,_,c,_,rfl,hA,val_ws X⟩
def Row6 (w:World) (g k:Nat) (I:Nat→Ri):Prop:=∃ cur:Array Value,w.heap[g]?=some (.cells cur 98 (0,0))∧∀ i,i<k→cur[i*6]?=some (.bool (I i).n)∧cur[i*6+1]?=some (I i).v∧cur[i*6+2]?=some (.int .i64 (I i).e)∧cur[i*6+3]?=some (.bool (I i).m)∧cur[i*6+4]?=some (I i).u∧cur[i*6+5]?=some (.int .i64 (I i).f)
theorem Row6.lt {w:World}{g k:Nat}{I:Nat→Ri}(h:Row6 w g k I):g<w.heap.size:=by obtain ⟨c,h,_⟩:=h;exact (Array.getElem?_eq_some_iff.1 h).1
theorem Row6.below {w w':World}{g k:Nat}{I:Nat→Ri}(h:Row6 w g k I) (hb:Below w.heap.size w w'):Row6 w' g k I:=by
 have hl:=h.lt;obtain ⟨c,h,r⟩:=h;exact ⟨c,by rw [hb.block g hl];exact h,r⟩
theorem Row6.facts {w:World}{g k:Nat}{I:Nat→Ri}(h:Row6 w g k I) (i:Nat) (hi:i<k) :
 w.cell? ⟨g,i*6,none⟩=some (.bool (I i).n)∧w.cell? ⟨g,i*6+1,none⟩=some (I i).v∧w.cell? ⟨g,i*6+2,none⟩=some (.int .i64 (I i).e)∧w.cell? ⟨g,i*6+3,none⟩=some (.bool (I i).m)∧w.cell? ⟨g,i*6+4,none⟩=some (I i).u∧w.cell? ⟨g,i*6+5,none⟩=some (.int .i64 (I i).f):=by
 obtain ⟨c,h,r⟩:=h;obtain ⟨r0,r1,r2,r3,r4,r5⟩:=r i hi;simp [World.cell?,h,r0,r1,r2,r3,r4,r5]
def errL (I:Nat→Ri) (k:Nat):Int :=
 if (List.range k).any (fun i=>decide (sgn (I i).m (I i).Y<0)) then 1
 else if (List.range k).any (fun i=>!((mkS (I i).n (I i).X (I i).e).isSome&&(mkS (I i).m (I i).Y (I i).f).isSome)) then 2
 else if (List.range k).any (fun i=>decide (dX (mkS (I i).m (I i).Y (I i).f)=0)) then 21 else 0
theorem any_of {k i:Nat}{p:Nat→Bool}(hi:i<k) (h:p i=true):(List.range k).any p=true:=List.any_eq_true.2 ⟨i,List.mem_range.2 hi,h⟩
theorem any_no {k:Nat}{p:Nat→Bool}(h:∀ i,i<k→p i=false):(List.range k).any p=false:=by
 rw [List.any_eq_false];intro i hi;rw [h i (List.mem_range.1 hi)];simp
structure RIn (w:World) (g k:Nat) (I:Nat→Ri):Prop where
 row:Row6 w g k I
 one:∀ i,i<k→Av w (I i).v (I i).X∧Av w (I i).u (I i).Y
 rng:∀ i,i<k→-9223372036854775808≤(I i).e∧(I i).e≤9223372036854775807∧-9223372036854775808≤(I i).f∧(I i).f≤9223372036854775807
 tab:Tab w
theorem RIn.below {w w':World}{g k:Nat}{I:Nat→Ri}(h:RIn w g k I) (hb:Below w.heap.size w w'):RIn w' g k I :=
 ⟨h.row.below hb,fun i hi=>⟨(h.one i hi).1.below hb,(h.one i hi).2.below hb⟩,h.rng,h.tab.belows hb⟩
def frmI (I:Nat→Ri) (V:Nat→Value×Value) (i:Nat):Ri :=
 ⟨dN (mkS (I i).n (I i).X (I i).e),(V i).1,dX (mkS (I i).n (I i).X (I i).e),dE (mkS (I i).n (I i).X (I i).e),dN (mkS (I i).m (I i).Y (I i).f),(V i).2,dX (mkS (I i).m (I i).Y (I i).f),dE (mkS (I i).m (I i).Y (I i).f)⟩
structure ROut (lo:Nat) (w:World) (g k:Nat) (I:Nat→Ri) (V:Nat→Value×Value):Prop where
 row:Row6 w g k (frmI I V)
 own:lo≤g
 nts:∀ i,i<k→Nt lo w (V i).1 (dX (mkS (I i).n (I i).X (I i).e))∧Nt lo w (V i).2 (dX (mkS (I i).m (I i).Y (I i).f))
theorem ROut.below {lo:Nat}{w w':World}{g k:Nat}{I:Nat→Ri}{V:Nat→Value×Value}(h:ROut lo w g k I V) (hb:Below w.heap.size w w'):ROut lo w' g k I V :=
 ⟨h.row.below hb,h.own,fun i hi=>⟨(h.nts i hi).1.below hb,(h.nts i hi).2.below hb⟩⟩
abbrev st6o (w:World) (g o:Nat) (a b c d e f:Value):World:=(((((w.setCell ⟨g,o,none⟩ a).setCell ⟨g,o+1,none⟩ b).setCell ⟨g,o+2,none⟩ c).setCell ⟨g,o+3,none⟩ d).setCell ⟨g,o+4,none⟩ e).setCell ⟨g,o+5,none⟩ f
theorem st6o_but (g o:Nat) (w:World) (a b c d e f:Value):But g w (st6o w g o a b c d e f):=((((((But.refl g w).set _ _).set _ _).set _ _).set _ _).set _ _).set _ _
theorem setc {w:World}{g T:Nat}{cur:Array Value}{fz:Nat×Nat}(h:w.heap[g]?=some (.cells cur T fz)) (o:Nat) (v:Value):(w.setCell ⟨g,o,none⟩ v).heap[g]?=some (.cells (cur.setIfInBounds o v) T fz):=by
 simp [World.setCell,Array.getElem?_modify,h]
theorem st6o_cells {w:World}{g T:Nat}{cur:Array Value}{fz:Nat×Nat}(h:w.heap[g]?=some (.cells cur T fz)) (o:Nat) (a b c d e f:Value) (ho:o+5<cur.size) :
 ∃ cur',(st6o w g o a b c d e f).heap[g]?=some (.cells cur' T fz)∧cur'.size=cur.size∧(cur'[o]?=some a∧cur'[o+1]?=some b∧cur'[o+2]?=some c∧cur'[o+3]?=some d∧cur'[o+4]?=some e∧cur'[o+5]?=some f)∧∀ j,(j<o∨o+5<j)→cur'[j]?=cur[j]?:=by
 refine ⟨_,setc (setc (setc (setc (setc (setc h o a) (o+1) b) (o+2) c) (o+3) d) (o+4) e) (o+5) f,by simp,?_,?_⟩
 · simp [Array.getElem?_setIfInBounds]
   omega
 · intro j hj
   have n0:o≠j:=by omega
   have n1:o+1≠j:=by omega
   have n2:o+2≠j:=by omega
   have n3:o+3≠j:=by omega
   have n4:o+4≠j:=by omega
   have n5:o+5≠j:=by omega
   simp [Array.getElem?_setIfInBounds,n0,n1,n2,n3,n4,n5]
structure RPart (lo:Nat) (w:World) (g k i:Nat) (I:Nat→Ri) (V:Nat→Value×Value):Prop where
 row:∃ cur:Array Value,w.heap[g]?=some (.cells cur 98 (0,0))∧cur.size=6*k∧∀ j,j<i→cur[j*6]?=some (.bool (frmI I V j).n)∧cur[j*6+1]?=some (frmI I V j).v∧cur[j*6+2]?=some (.int .i64 (frmI I V j).e)∧cur[j*6+3]?=some (.bool (frmI I V j).m)∧cur[j*6+4]?=some (frmI I V j).u∧cur[j*6+5]?=some (.int .i64 (frmI I V j).f)
 own:lo≤g
 nts:∀ j,j<i→Nt lo w (V j).1 (dX (mkS (I j).n (I j).X (I j).e))∧Nt lo w (V j).2 (dX (mkS (I j).m (I j).Y (I j).f))
theorem RPart.lt {lo:Nat}{w:World}{g k i:Nat}{I:Nat→Ri}{V:Nat→Value×Value}(h:RPart lo w g k i I V):g<w.heap.size:=by obtain ⟨c,h,_⟩:=h.row;exact (Array.getElem?_eq_some_iff.1 h).1
theorem RPart.below {lo:Nat}{w w':World}{g k i:Nat}{I:Nat→Ri}{V:Nat→Value×Value}(h:RPart lo w g k i I V) (hb:Below w.heap.size w w'):RPart lo w' g k i I V:=by
 have hl:=h.lt;obtain ⟨⟨c,h1,r⟩,h2,h3⟩:=h;exact ⟨⟨c,by rw [hb.block g hl];exact h1,r⟩,h2,fun j hj=>⟨(h3 j hj).1.below hb,(h3 j hj).2.below hb⟩⟩
theorem RPart.room {lo:Nat}{w:World}{g k i:Nat}{I:Nat→Ri}{V:Nat→Value×Value}(h:RPart lo w g k i I V) (j:Nat) (hj:j<6*k):(∃ v,w.cell? ⟨g,j,none⟩=some v)∧w.frozen? ⟨g,j,none⟩=false:=by
 obtain ⟨⟨c,h1,hs,r⟩,h2,h3⟩:=h;refine ⟨⟨c[j]'(by omega),?_⟩,?_⟩
 · simp [World.cell?,h1]
 · simp [World.frozen?,h1]
theorem RPart.out {lo:Nat}{w:World}{g k:Nat}{I:Nat→Ri}{V:Nat→Value×Value}(h:RPart lo w g k k I V):ROut lo w g k I V:=by
 obtain ⟨⟨c,h1,hs,r⟩,h2,h3⟩:=h;exact ⟨⟨c,h1,r⟩,h2,h3⟩
theorem RPart.step {lo:Nat}{w:World}{g k i:Nat}{I:Nat→Ri}{V:Nat→Value×Value}(h:RPart lo w g k i I V) (hi:i<k) (v u:Value)
 (hv:Nt lo w v (dX (mkS (I i).n (I i).X (I i).e))) (hu:Nt lo w u (dX (mkS (I i).m (I i).Y (I i).f))) :
 ∃ V',RPart lo (st6o w g (i*6) (.bool (dN (mkS (I i).n (I i).X (I i).e))) v (.int .i64 (dE (mkS (I i).n (I i).X (I i).e))) (.bool (dN (mkS (I i).m (I i).Y (I i).f))) u (.int .i64 (dE (mkS (I i).m (I i).Y (I i).f)))) g k (i+1) I V':=by
 obtain ⟨⟨c,h1,hs,r⟩,h2,h3⟩:=h;obtain ⟨c',k1,k2,k3,k4⟩:=st6o_cells h1 (i*6) (.bool (dN (mkS (I i).n (I i).X (I i).e))) v (.int .i64 (dE (mkS (I i).n (I i).X (I i).e))) (.bool (dN (mkS (I i).m (I i).Y (I i).f))) u (.int .i64 (dE (mkS (I i).m (I i).Y (I i).f))) (by omega)
 refine ⟨fun j=>if j=i then (v,u) else V j,⟨c',k1,by omega,fun j hj=>?_⟩,h2,fun j hj=>?_⟩
 · by_cases e:j=i
   · subst e
     simp only [frmI,if_true];exact k3
   · have:=r j (by omega)
     rw [k4 _ (by omega),k4 _ (by omega),k4 _ (by omega),k4 _ (by omega),k4 _ (by omega),k4 _ (by omega)]
     simp only [frmI,if_neg e] at this ⊢;exact this
 · by_cases e:j=i
   · subst e
     simp only [if_true];exact ⟨hv.off (st6o_but _ _ _ _ _ _ _ _ _) (hv.notin (by decide) h1),hu.off (st6o_but _ _ _ _ _ _ _ _ _) (hu.notin (by decide) h1)⟩
   · simp only [if_neg e]
     obtain ⟨q1,q2⟩:=h3 j (by omega)
     exact ⟨q1.off (st6o_but _ _ _ _ _ _ _ _ _) (q1.notin (by decide) h1),q2.off (st6o_but _ _ _ _ _ _ _ _ _) (q2.notin (by decide) h1)⟩
theorem sgnD {w:World}{n:Bool}{v:Value}{X:Nat}{e:Int}(h:Av w v X):Calls Tryz.prog 58 #[.agg #[.bool n,v,.int .i64 e]] w fun r w'=>r=.returned (.int .i64 (sgn n X))∧Below w.heap.size w w':=by
 obtain ⟨a,l,c,xs,rfl,hA,rfl⟩:=h;exact Sign_any3 hA n e
theorem formD {w:World}{r:Ri}(h1:Av w r.v r.X) (h2:Av w r.u r.Y) (hT:Tab w) (b0:-9223372036854775808≤r.e) (b1:r.e≤9223372036854775807) (b2:-9223372036854775808≤r.f) (b3:r.f≤9223372036854775807) :
 Calls Tryz.prog 206 #[.agg #[.bool r.n,r.v,.int .i64 r.e,.bool r.m,r.u,.int .i64 r.f]] w fun q w' =>
  (((mkS r.n r.X r.e).isSome&&(mkS r.m r.Y r.f).isSome)=true→∃ v u,q=.returned (.tuple #[.agg #[.bool (dN (mkS r.n r.X r.e)),v,.int .i64 (dE (mkS r.n r.X r.e)),.bool (dN (mkS r.m r.Y r.f)),u,.int .i64 (dE (mkS r.m r.Y r.f))],.int .i64 0])∧Nt w.heap.size w' v (dX (mkS r.n r.X r.e))∧Nt w.heap.size w' u (dX (mkS r.m r.Y r.f))∧Ap v u) ∧
  (((mkS r.n r.X r.e).isSome&&(mkS r.m r.Y r.f).isSome)=false→q=.returned (.tuple #[.agg #[.bool false,.slice none 0 0,.int .i64 0,.bool false,.slice none 0 0,.int .i64 0],.int .i64 2]))∧Below w.heap.size w w':=by
 obtain ⟨n,v,X,e,m,u,Y,f⟩:=r;simp only at *;obtain ⟨a,l,c,xs,rfl,hA,rfl⟩:=h1;obtain ⟨b,k,d,ys,rfl,hB,rfl⟩:=h2;have l1:=mkS_len n (val xs) e;have l2:=mkS_len m (val ys) f;have H1:∀ u,Below w.heap.size w u→Calls Tryz.prog 86 #[.bool n,.slice a l c,.int .i64 e] u fun r w'=>DAns u.heap.size w' r (mkS n (val xs) e)∧Below u.heap.size u w':=fun u hu=>Make_any (hA.below hu) (hT.belows hu) n e b0 b1
 have H2:∀ u,Below w.heap.size w u→Calls Tryz.prog 86 #[.bool m,.slice b k d,.int .i64 f] u fun r w'=>DAns u.heap.size w' r (mkS m (val ys) f)∧Below u.heap.size u w':=fun u hu=>Make_any (hB.below hu) (hT.belows hu) m f b2 b3
 simp only [DAns] at H1 H2;generalize mkS n (val xs) e=o at *;generalize mkS m (val ys) f=p at *
 cases ho:o.isSome with
 | false =>
   have he:erS o=2:=by unfold erS;rw [ho];rfl
   rw [he] at H1;refine (form_bad1 n m e f (dN o) false (dX o) 0 (dE o) 0 l1 (by rw [ws0];omega) H1).mono ?_
   rintro r w' ⟨⟨v,u,h,rfl,rfl⟩,hb⟩;exact ⟨fun hh=>(by cases hh),fun _=>h,hb⟩
 | true =>
   have he:erS o=0:=by unfold erS;rw [ho];rfl
   rw [he] at H1
   cases hp:p.isSome with
   | false =>
     have he:erS p=2:=by unfold erS;rw [hp];rfl
     rw [he] at H2;refine (form_bad2 n m e f (dN o) (dN p) (dX o) (dX p) (dE o) (dE p) l1 l2 H1 H2).mono ?_;rintro r w' ⟨⟨v,u,h,rfl,rfl⟩,hb⟩;exact ⟨fun hh=>(by cases hh),fun _=>h,hb⟩
   | true =>
     have he:erS p=0:=by unfold erS;rw [hp];rfl
     rw [he] at H2;refine (form_ok n m e f (dN o) (dN p) (dX o) (dX p) (dE o) (dE p) l1 l2 H1 H2).mono ?_;rintro r w' ⟨⟨v,u,h,hN,hM,hap⟩,hb⟩;exact ⟨fun _=>⟨v,u,h,hN,hM,hap⟩,fun hh=>(by cases hh),hb⟩
theorem forms1 (w:World) (g:Nat) (I:Nat→Ri) (h:RIn w g 1 I) :
 Calls Tryz.prog 162 #[.slice (some ⟨g,0,none⟩) 1 1] w fun r w' =>
  ((errL I 1≠0∧r=.returned (.tuple #[.slice none 0 0,.int .i64 (errL I 1)])) ∨
   (errL I 1=0∧∃ g' V,r=.returned (.tuple #[.slice (some ⟨g',0,none⟩) 1 1,.int .i64 0])∧ROut w.heap.size w' g' 1 I V))∧Below w.heap.size w w':=by
 have MK:=make_ratios1;have hH:=qsd h;clear h;go_enter Tryz.func162,Tryz.ntmps162
 go_wp2_with fail
 go_loopg [15] 1 (fun gk iv wr=>∃ i:Nat,gk+i=1∧iv=.int .i64 (i:Nat)∧Aside (Below w.heap.size w wr∧∀ j,j<i→decide (sgn (I j).m (I j).Y<0)=false))
 case atStart=>exact ⟨0,by omega,rfl,Below.refl _ _,fun j hj=>by omega⟩
 case round =>
  obtain ⟨i,hgi,rfl,HR⟩:=hrel
  by_cases hi:i<1
  · have hin:=hH.out.below HR.out.1
    obtain ⟨g0,g1,g2,g3,g4,g5⟩:=hin.row.facts i hi;obtain ⟨A1,A2⟩:=hin.one i hi;obtain ⟨n,v,X,e,m,u,Y,f,hI⟩:∃ n v X e m u Y f,I i=⟨n,v,X,e,m,u,Y,f⟩:=⟨_,_,_,_,_,_,_,_,rfl⟩;rw [hI] at g0 g1 g2 g3 g4 g5 A1 A2;simp only at g0 g1 g2 g3 g4 g5 A1 A2;obtain ⟨a1,l1,c1,xs,rfl,-,-⟩:=id A1;obtain ⟨a2,l2,c2,ys,rfl,-,-⟩:=id A2;obtain ⟨U,hU⟩:∃ U,U=wr.alloc (.cells #[.bool n,.slice a1 l1 c1,.int .i64 e,.bool m,.slice a2 l2 c2,.int .i64 f] 98):=⟨_,rfl⟩;have hbU:Below wr.heap.size wr U:=by rw [hU];exact below_alloc _ _
    have RQ:Rq U wr.heap.size n (.slice a1 l1 c1) e m (.slice a2 l2 c2) f:=by rw [hU];exact Rq.new _ _ _ _ _ _ _
    obtain ⟨x0,x1,x2,x3,x4,x5⟩:=RQ.facts;have HC:=hid (sgnD (n:=m) (e:=f) (A2.below hbU));obtain ⟨s,hs⟩:∃ s,sgn m Y=s:=⟨_,rfl⟩;rw [hs] at HC;have SI:=(qsd (ai (HR.out.1.trans (hbU.mono HR.out.1.size)) (ai HR.out.2 (ai hI (ai hs hi)))));clear hbU RQ A1 A2 hin HR hI hs;have hli:(i:Int)<1:=by omega
    have hl0:(0:Int)≤(i:Int):=by omega
    go_upto_region 4 with fail
    rw [←hU];clear hU g0 g1 g2 g3 g4 g5
    go_wp2_with fail
    clear x0 x1 x2 x3 x4 x5;refine HC.out.mono ?_;rintro r u1 ⟨rfl,hb⟩;have S2:=qsd (SI.out.1.trans (hb.mono SI.out.1.size));clear hb HC
    by_cases hneg:s<0
    · have hn:=decide_eq_true hneg
      go_wp2_with fail
      go_ret2
      obtain ⟨_,hbef,hI,hs,hi⟩:=SI.out
      have hE:errL I 1=1:=by
       unfold errL;rw [if_pos (any_of hi (by rw [hI];simp only;rw [hs];exact decide_eq_true hneg))]
      rw [hE];exact ⟨.inl ⟨by decide,rfl⟩,S2.out⟩
    · have hn:decide (s<0)=false:=decide_eq_false (by omega)
      go_wp2_with fail
      go_roundg (1-(i+1))
      case measure=>omega
      case rel =>
       obtain ⟨_,hbef,hI,hs,hi⟩:=SI.out;refine ⟨i+1,by omega,by go_num,S2.out,fun j hj=>?_⟩
       by_cases hji:j=i
       · subst hji;rw [hI];simp only;rw [hs];exact decide_eq_false (by omega)
       · exact hbef j (by omega)
  · obtain rfl:i=1:=by omega
    obtain ⟨M,hM⟩:∃ M,M=wr.alloc (.cells #[.bool false,.slice none 0 0,.int .i64 0,.bool false,.slice none 0 0,.int .i64 0] 98):=⟨_,rfl⟩;have hbM:Below wr.heap.size wr M:=by rw [hM];exact below_alloc _ _
    have hpM:RPart w.heap.size M wr.heap.size 1 0 I (fun _=>(.slice none 0 0,.slice none 0 0)):=by
     rw [hM];exact ⟨⟨_,heap_alloc_new _ _,rfl,fun j hj=>by omega⟩,HR.out.1.size,fun j hj=>by omega⟩
    have S1:=(qsd (ai HR.out.2 (ai hpM (HR.out.1.trans (hbM.mono HR.out.1.size)))));obtain ⟨gO,hgO⟩:∃ gO,gO=wr.heap.size:=⟨_,rfl⟩;clear HR hbM hpM hi hgi
    go_upto_region 9 with fail
    rw [←hM];rw [←hgO] at S1 ⊢;clear hM hgO
    go_loopg [29] 1 (fun gk iv wr=>∃ i:Nat,gk+i=1∧iv=.int .i64 (i:Nat)∧Aside (Below w.heap.size w wr∧(∀ j,j<i→((mkS (I j).n (I j).X (I j).e).isSome&&(mkS (I j).m (I j).Y (I j).f).isSome)=true)∧∃ V,RPart w.heap.size wr gO 1 i I V))
    case atStart=>exact ⟨0,by omega,rfl,S1.out.2.2,fun j hj=>by omega,_,S1.out.2.1⟩
    case round =>
     obtain ⟨i,hgi,rfl,HR⟩:=hrel;have SS:=qsd S1.out.1;clear S1
     by_cases hi:i<1
     · obtain ⟨bel,hbef,V,hP⟩:=HR.out
       have hin:=hH.out.below bel;obtain ⟨g0,g1,g2,g3,g4,g5⟩:=hin.row.facts i hi;obtain ⟨A1,A2⟩:=hin.one i hi;obtain ⟨b0,b1,b2,b3⟩:=hin.rng i hi;have hFD:=fun (u:World) (hb:Below wr.heap.size wr u)=>formD (r:=I i) (A1.below hb) (A2.below hb) ((hin.below hb).tab) b0 b1 b2 b3
       obtain ⟨n,v,X,e,m,u,Y,f,hI⟩:∃ n v X e m u Y f,I i=⟨n,v,X,e,m,u,Y,f⟩:=⟨_,_,_,_,_,_,_,_,rfl⟩;rw [hI] at g0 g1 g2 g3 g4 g5 A1 A2 hFD;simp only at g0 g1 g2 g3 g4 g5 A1 A2 hFD;obtain ⟨a1,l1,c1,xs,rfl,-,-⟩:=id A1;obtain ⟨a2,l2,c2,ys,rfl,-,-⟩:=id A2;obtain ⟨U,hU⟩:∃ U,U=wr.alloc (.cells #[.bool n,.slice a1 l1 c1,.int .i64 e,.bool m,.slice a2 l2 c2,.int .i64 f] 98):=⟨_,rfl⟩;have hbU:Below wr.heap.size wr U:=by rw [hU];exact below_alloc _ _
       have RQ:Rq U wr.heap.size n (.slice a1 l1 c1) e m (.slice a2 l2 c2) f:=by rw [hU];exact Rq.new _ _ _ _ _ _ _
       obtain ⟨x0,x1,x2,x3,x4,x5⟩:=RQ.facts;have HC:=hid (hFD U hbU);have lo1:=mkS_len n X e;have lo2:=mkS_len m Y f;obtain ⟨o,ho⟩:∃ o,mkS n X e=o:=⟨_,rfl⟩;obtain ⟨p,hp⟩:∃ p,mkS m Y f=p:=⟨_,rfl⟩;rw [ho,hp] at HC;rw [ho] at lo1;rw [hp] at lo2;have SI:=(qsd (ai (bel.trans (hbU.mono bel.size)) (ai hbef (ai hI (ai ho (ai hp (ai hi (hP.below hbU))))))));clear hbU RQ A1 A2 hin HR hI ho hp bel hbef hP hFD b0 b1 b2 b3;have hli:(i:Int)<1:=by omega
       have hl0:(0:Int)≤(i:Int):=by omega
       go_upto_region 11 with fail
       rw [←hU];clear hU g0 g1 g2 g3 g4 g5
       go_wp2_with fail
       clear x0 x1 x2 x3 x4 x5;refine HC.out.mono ?_;rintro r u1 ⟨h1,h2,hb⟩;clear HC
       cases hok:(o.isSome&&p.isSome) with
       | false =>
         obtain rfl:=h2 hok;have S2:=qsd (SI.out.1.trans (hb.mono SI.out.1.size));clear h1 h2 hb
         go_wp2_with fail
         go_ret2
         obtain ⟨_,hbef,hI,ho,hp,hi,_⟩:=SI.out
         have hE:errL I 1=2:=by
          unfold errL;rw [any_no (p:=fun i=>decide (sgn (I i).m (I i).Y<0)) SS.out,if_neg Bool.false_ne_true,if_pos (any_of hi (by rw [hI];simp only;rw [ho,hp,hok];rfl))]
         rw [hE];exact ⟨.inl ⟨by decide,rfl⟩,S2.out.alloc S2.out.size _⟩
       | true =>
         obtain ⟨v1,v2,rfl,hN,hM2,-⟩:=h1 hok;obtain ⟨p1,q1,rfl,_⟩:=hN.arg (by omega)
         obtain ⟨p2,q2,rfl,_⟩:=hM2.arg (by omega)
         obtain ⟨U2,hU2⟩:∃ U,U=u1.alloc (.cells #[.bool (dN o),.slice p1 (ws (dX o)).length q1,.int .i64 (dE o),.bool (dN p),.slice p2 (ws (dX p)).length q2,.int .i64 (dE p)] 98):=⟨_,rfl⟩;have hbU:Below u1.heap.size u1 U2:=by rw [hU2];exact below_alloc _ _
         have RQ:Rq U2 u1.heap.size (dN o) (.slice p1 (ws (dX o)).length q1) (dE o) (dN p) (.slice p2 (ws (dX p)).length q2) (dE p):=by rw [hU2];exact Rq.new _ _ _ _ _ _ _
         obtain ⟨x0,x1,x2,x3,x4,x5⟩:=RQ.facts;have hP2:=(SI.out.2.2.2.2.2.2.below hb).below hbU;have hb2:=(SI.out.1.trans (hb.mono SI.out.1.size)).trans (hbU.mono (Nat.le_trans SI.out.1.size hb.size));obtain ⟨⟨y0,r0⟩,f0⟩:=hP2.room (i*6) (by omega)
         obtain ⟨⟨y1,r1⟩,f1⟩:=hP2.room (i*6+1) (by omega)
         obtain ⟨⟨y2,r2⟩,f2⟩:=hP2.room (i*6+2) (by omega)
         obtain ⟨⟨y3,r3⟩,f3⟩:=hP2.room (i*6+3) (by omega)
         obtain ⟨⟨y4,r4⟩,f4⟩:=hP2.room (i*6+4) (by omega)
         obtain ⟨⟨y5,r5⟩,f5⟩:=hP2.room (i*6+5) (by omega)
         obtain ⟨W',hW'⟩:∃ W',W'=st6o U2 gO (i*6) (.bool (dN o)) (.slice p1 (ws (dX o)).length q1) (.int .i64 (dE o)) (.bool (dN p)) (.slice p2 (ws (dX p)).length q2) (.int .i64 (dE p)):=⟨_,rfl⟩
         have S3:Aside (Below w.heap.size w W'∧(∀ j,j<i+1→((mkS (I j).n (I j).X (I j).e).isSome&&(mkS (I j).m (I j).Y (I j).f).isSome)=true)∧∃ V,RPart w.heap.size W' gO 1 (i+1) I V):=by
          obtain ⟨_,hbef,hI,ho,hp,hi,_⟩:=SI.out;refine ⟨?_,?_,?_⟩
          · rw [hW'];exact But.below hb2 (st6o_but _ _ _ _ _ _ _ _ _) hb2.size hP2.own
          · intro j hj
            by_cases e:j=i
            · subst e;rw [hI];simp only;rw [ho,hp,hok]
            · exact hbef j (by omega)
          · have hsz:=SI.out.1.size
            have:=hP2.step hi (.slice p1 (ws (dX o)).length q1) (.slice p2 (ws (dX p)).length q2) (by rw [hI];simp only;rw [ho];exact (hN.below hbU).mono hsz) (by rw [hI];simp only;rw [hp];exact (hM2.below hbU).mono hsz)
            rw [hI] at this;simp only at this;rw [ho,hp,←hW'] at this;exact this
         have neq:u1.heap.size≠gO:=by have:=(SI.out.2.2.2.2.2.2.below hb).lt;omega
         clear h1 h2 hb hN hM2 hbU RQ hP2 hb2 SI
         go_upto_region 12 with fail
         rw [←hU2];clear hU2
         go_wp2_with fail
         unfold st6o at hW'
         go_roundg (1-(i+1))
         case measure=>omega
         case rel =>
          refine ⟨i+1,by omega,by go_num,?_⟩
          first | rw [←hW'] | (rw [hW'] at S3)
          exact S3
     · obtain rfl:i=1:=by omega
       obtain ⟨bel,hbef,V,hP⟩:=HR.out;have hO:=hP.out;have S2:=(qsd (ai bel (ai hbef hO)));have hi0:wr=wr:=rfl;clear HR bel hbef hP hO hi hgi
       go_upto_region 17 with fail
       go_loopg [49] 1 (fun gk iv wr=>∃ i:Nat,gk+i=1∧iv=.int .i64 (i:Nat)∧Aside (Below w.heap.size w wr∧(∀ j,j<i→decide (dX (mkS (I j).m (I j).Y (I j).f)=0)=false)∧ROut w.heap.size wr gO 1 I V))
       case atStart=>exact ⟨0,by omega,rfl,S2.out.1,fun j hj=>by omega,S2.out.2.2⟩
       case round =>
        obtain ⟨i,hgi,rfl,HR⟩:=hrel;have SS2:=qsd S2.out.2.1;clear S2
        by_cases hi:i<1
        · obtain ⟨bel,hbef,hO⟩:=HR.out
          obtain ⟨g0,g1,g2,g3,g4,g5⟩:=hO.row.facts i hi;obtain ⟨A1,A2⟩:=hO.nts i hi;have lo1:=mkS_len (I i).n (I i).X (I i).e;have lo2:=mkS_len (I i).m (I i).Y (I i).f;unfold frmI at g0 g1 g2 g3 g4 g5;simp only at g0 g1 g2 g3 g4 g5;obtain ⟨o,ho⟩:∃ o,mkS (I i).n (I i).X (I i).e=o:=⟨_,rfl⟩;obtain ⟨p,hp⟩:∃ p,mkS (I i).m (I i).Y (I i).f=p:=⟨_,rfl⟩;rw [ho] at g0 g2 A1 lo1;rw [hp] at g3 g5 A2 lo2;obtain ⟨v1,hv1⟩:∃ v1,(V i).1=v1:=⟨_,rfl⟩;obtain ⟨v2,hv2⟩:∃ v2,(V i).2=v2:=⟨_,rfl⟩;rw [hv1] at g1 A1;rw [hv2] at g4 A2;obtain ⟨p1,q1,rfl,_⟩:=A1.arg (by omega)
          obtain ⟨p2,q2,rfl,_⟩:=A2.arg (by omega)
          obtain ⟨U,hU⟩:∃ U,U=wr.alloc (.cells #[.bool (dN o),.slice p1 (ws (dX o)).length q1,.int .i64 (dE o),.bool (dN p),.slice p2 (ws (dX p)).length q2,.int .i64 (dE p)] 98):=⟨_,rfl⟩;have hbU:Below wr.heap.size wr U:=by rw [hU];exact below_alloc _ _
          have RQ:Rq U wr.heap.size (dN o) (.slice p1 (ws (dX o)).length q1) (dE o) (dN p) (.slice p2 (ws (dX p)).length q2) (dE p):=by rw [hU];exact Rq.new _ _ _ _ _ _ _
          obtain ⟨x0,x1,x2,x3,x4,x5⟩:=RQ.facts;have HC:=hid (sgnD (n:=dN p) (e:=dE p) ((A2.below hbU).av (by omega)))
          obtain ⟨s,hs⟩:∃ s,sgn (dN p) (dX p)=s:=⟨_,rfl⟩;rw [hs] at HC;have SI:=(qsd (ai (bel.trans (hbU.mono bel.size)) (ai hbef (ai hp (ai hs (ai hi (hO.below hbU)))))));clear hbU RQ A1 A2 HR ho hp hv1 hv2 hs bel hbef hO;have hli:(i:Int)<1:=by omega
          have hl0:(0:Int)≤(i:Int):=by omega
          go_upto_region 19 with fail
          rw [←hU];clear hU g0 g1 g2 g3 g4 g5
          go_wp2_with fail
          clear x0 x1 x2 x3 x4 x5;refine HC.out.mono ?_;rintro r u1 ⟨rfl,hb⟩;have S2:=(qsd (ai (SI.out.1.trans (hb.mono SI.out.1.size)) (SI.out.2.2.2.2.2.below hb)));clear hb HC
          by_cases hz:s=0
          · have hn:(s==0)=true:=by simp [hz]
            have hsz:=SI;clear SI
            go_wp2_with fail
            go_ret2
            obtain ⟨_,hbef,hp,hs,hi,_⟩:=hsz.out
            have hE:errL I 1=21:=by
             unfold errL;rw [any_no (p:=fun i=>decide (sgn (I i).m (I i).Y<0)) SS.out,if_neg Bool.false_ne_true,any_no (p:=fun i=>!((mkS (I i).n (I i).X (I i).e).isSome&&(mkS (I i).m (I i).Y (I i).f).isSome)) (fun j hj=>by rw [SS2.out j hj];rfl),if_neg Bool.false_ne_true,if_pos (any_of hi (by simp only [hp];exact decide_eq_true (sgn_zero3.1 (hs.trans hz))))]
            rw [hE];exact ⟨.inl ⟨by decide,rfl⟩,S2.out.1⟩
          · have hn:(s==0)=false:=by simp [hz]
            go_wp2_with fail
            go_roundg (1-(i+1))
            case measure=>omega
            case rel =>
             obtain ⟨_,hbef,hp,hs,hi,_⟩:=SI.out;refine ⟨i+1,by omega,by go_num,S2.out.1,fun j hj=>?_,S2.out.2⟩
             by_cases hji:j=i
             · subst hji;rw [hp];exact decide_eq_false (fun h0=>hz (hs.symm.trans (sgn_zero3.2 h0)))
             · exact hbef j (by omega)
        · obtain rfl:i=1:=by omega
          have S3:=HR;clear HR hi hgi
          go_wp2_with fail
          go_ret2
          have hE:errL I 1=0:=by
           unfold errL;rw [any_no (p:=fun i=>decide (sgn (I i).m (I i).Y<0)) SS.out,if_neg Bool.false_ne_true,any_no (p:=fun i=>!((mkS (I i).n (I i).X (I i).e).isSome&&(mkS (I i).m (I i).Y (I i).f).isSome)) (fun j hj=>by rw [SS2.out j hj];rfl),if_neg Bool.false_ne_true,any_no (p:=fun i=>decide (dX (mkS (I i).m (I i).Y (I i).f)=0)) S3.out.2.1,if_neg Bool.false_ne_true]
          exact ⟨.inr ⟨hE,gO,V,rfl,S3.out.2.2⟩,S3.out.1⟩
end
section
open Go.RowKit
theorem errL0 {I:Nat→Ri}{k:Nat}(h:errL I k=0) (i:Nat) (hi:i<k):¬ sgn (I i).m (I i).Y<0∧(mkS (I i).n (I i).X (I i).e).isSome=true∧(mkS (I i).m (I i).Y (I i).f).isSome=true∧dX (mkS (I i).m (I i).Y (I i).f)≠0:=by
 unfold errL at h
 split at h
 · omega
 · rename_i h1
   split at h
   · omega
   · rename_i h2
     split at h
     · omega
     · rename_i h3
       simp only [Bool.not_eq_true,List.any_eq_false,List.mem_range] at h1 h2 h3;have k1:=h1 i hi;have k2:=h2 i hi;have k3:=h3 i hi;simp at k1 k2 k3;exact ⟨by omega,k2.1,k2.2,k3⟩
theorem reform {n:Bool}{X:Nat}{e:Int}{o:Option (Bool×Nat×Int)}(h:mkS n X e=o) (hs:o.isSome=true):mkS (dN o) (dX o) (dE o)=o:=by
 cases o with
 | none=>cases hs
 | some d =>
   obtain ⟨n1,X1,e1⟩:=d;exact (mkS_frm h).self
theorem frm_rng {n:Bool}{X:Nat}{e:Int}{o:Option (Bool×Nat×Int)}(h:mkS n X e=o):-1048576≤dE o∧dE o≤1048576:=by
 cases o with
 | none=>exact ⟨by decide,by decide⟩
 | some d =>
   obtain ⟨n1,X1,e1⟩:=d;have:=mkS_frm h;exact ⟨this.down,this.up⟩
structure Rv (w:World) (r:Ri):Prop where
 num:Av w r.v r.X
 den:Av w r.u r.Y
 be:-9223372036854775808≤r.e∧r.e≤9223372036854775807
 bf:-9223372036854775808≤r.f∧r.f≤9223372036854775807
theorem Rv.below {w w':World}{r:Ri}(h:Rv w r) (hb:Below w.heap.size w w'):Rv w' r:=⟨h.num.below hb,h.den.below hb,h.be,h.bf⟩
theorem rin1 (W:World) (r:Ri) (hr:Rv W r) (hT:Tab W) (R:World) (hR:R=W.alloc (.cells #[.bool r.n,r.v,.int .i64 r.e,.bool r.m,r.u,.int .i64 r.f] 98)):RIn R W.heap.size 1 (fun _=>r):=by
 have hb:Below W.heap.size W R:=by rw [hR];exact below_alloc _ _
 refine ⟨⟨_,by rw [hR];exact heap_alloc_new _ _,?_⟩,fun i hi=>⟨hr.num.below hb,hr.den.below hb⟩,fun i hi=>⟨hr.be.1,hr.be.2,hr.bf.1,hr.bf.2⟩,hT.belows hb⟩
 intro i hi;obtain rfl:i=0:=by omega
 simp
end
section
open Go.RowKit
theorem one_begin (w:World) (n:Bool) (v:Value) (e:Int) (m:Bool) (u:Value) (f:Int) (W:World) (hW:W=w.alloc (.cells #[.bool n,v,.int .i64 e,.bool m,u,.int .i64 f] 98)) :
 Below w.heap.size w W∧W.heap.size=w.heap.size+1∧Rq W w.heap.size n v e m u f:=by
 rw [hW];exact ⟨below_alloc w _,by simp,Rq.new _ _ _ _ _ _ _⟩
theorem rounded_quotient64 {w:World}{n m:Bool}{a b:Option Addr}{la ca lb cb:Nat}{X Y:Nat}{e f:Int}(mode:Int) (hr:Rv w ⟨n,.slice a la ca,X,e,m,.slice b lb cb,Y,f⟩) (hT:Tab w)
 (o1 o2 z:Option (Bool×Nat×Int)) (ew:Int) (rw':Nat×Int) (ho1:mkS n X e=o1) (ho2:mkS m Y f=o2) (lz:(ws (dX z)).length≤8192) (hew:ew≠0→rw'.1=0∧rw'.2=ew)
 (ANS:Nat×Int) (hANS:ANS=if mode<0∨4<mode then (0,1) else if errL (fun _=>(⟨n,.slice a la ca,X,e,m,.slice b lb cb,Y,f⟩:Ri)) 1=0 then rw' else (0,errL (fun _=>(⟨n,.slice a la ca,X,e,m,.slice b lb cb,Y,f⟩:Ri)) 1))
 (HW:Hid (∀ (u:World) (p q:Value),Below w.heap.size w u→Nt w.heap.size u p (dX o1)→Nt w.heap.size u q (dX o2)→errL (fun _=>(⟨n,.slice a la ca,X,e,m,.slice b lb cb,Y,f⟩:Ri)) 1=0→Calls Tryz.prog 114 #[.agg #[.bool (dN o1),p,.int .i64 (dE o1),.bool (dN o2),q,.int .i64 (dE o2)]] u fun r w'=>(∃ v,r=.returned (.tuple #[.agg #[.bool (dN z),v,.int .i64 (dE z)],.int .i64 ew])∧Nt u.heap.size w' v (dX z))∧Below u.heap.size u w'))
 (HR:Hid (∀ (u:World) (p:Option Addr) (q:Nat),ew=0→¬ (mode<0∨4<mode)→errL (fun _=>(⟨n,.slice a la ca,X,e,m,.slice b lb cb,Y,f⟩:Ri)) 1=0→Below w.heap.size w u→Arg u p (ws (dX z)).length q (ws (dX z))→Calls Tryz.prog 70 #[.agg #[.bool (dN z),.slice p (ws (dX z)).length q,.int .i64 (dE z)],.int .i64 mode] u fun r w'=>r=.returned (.tuple #[.float .f64 rw'.1,.int .i64 rw'.2])∧Below u.heap.size u w')) :
 Calls Tryz.prog 113 #[.agg #[.bool n,.slice a la ca,.int .i64 e,.bool m,.slice b lb cb,.int .i64 f],.int .i64 mode,.func (.func 114) #[] #[],.func (.func 70) #[] #[]] w fun r w'=>r=.returned (.tuple #[.float .f64 ANS.1,.int .i64 ANS.2])∧Below w.heap.size w w':=by
 obtain ⟨W1,hW1⟩:∃ W,W=w.alloc (.cells #[.bool n,.slice a la ca,.int .i64 e,.bool m,.slice b lb cb,.int .i64 f] 98):=⟨_,rfl⟩;obtain ⟨hB,hz1,Q1⟩:=one_begin w n _ e m _ f W1 hW1
 by_cases hm:mode<0∨4<mode
 · rw [if_pos hm] at hANS
   subst hANS;have S0:=qsd hB;clear hB hz1 Q1 HW HR hr hT
   by_cases hm0:mode<0
   · have d1:=decide_eq_true hm0
     go_enter Tryz.func113,Tryz.ntmps113
     go_upto_region 1 with fail
     rw [←hW1];clear hW1;go_wp2
     go_ret2
     exact ⟨rfl,S0.out⟩
   · have d1:=decide_eq_false hm0
     have hm4:4<mode:=by omega
     have d2:=decide_eq_true hm4;clear hm;go_enter Tryz.func113,Tryz.ntmps113
     go_upto_region 1 with fail
     rw [←hW1];clear hW1;go_wp2
     go_ret2
     exact ⟨rfl,S0.out⟩
 · rw [if_neg hm] at hANS
   obtain ⟨R,hR⟩:∃ R,R=W1.alloc (.cells #[.bool n,.slice a la ca,.int .i64 e,.bool m,.slice b lb cb,.int .i64 f] 98):=⟨_,rfl⟩;have hin:=rin1 W1 _ (hr.below hB) (hT.belows hB) R hR;have hbR:Below W1.heap.size W1 R:=by rw [hR];exact below_alloc _ _
   have HF:=hid (forms1 R W1.heap.size _ hin);obtain ⟨I,hI⟩:∃ I:Nat→Ri,(fun _=>(⟨n,.slice a la ca,X,e,m,.slice b lb cb,Y,f⟩:Ri))=I:=⟨_,rfl⟩
   rw [hI] at HF hANS HW HR;obtain ⟨x0,x1,x2,x3,x4,x5⟩:=Q1.facts;have HAn:=qsd hANS;have S0:=(qsd (ai (hB.trans (hbR.mono hB.size)) (ai hI (ai ho1 ho2))));have d1:decide (mode<0)=false:=decide_eq_false (fun h=>hm (.inl h))
   have d2:decide (4<mode)=false:=decide_eq_false (fun h=>hm (.inr h))
   have HM:=qsd hm;obtain ⟨g12,hg12⟩:∃ g,W1.heap.size=g:=⟨_,rfl⟩;rw [hg12] at HF;clear hB hz1 Q1 hin hbR hr hT hANS hI ho1 ho2 hm;go_enter Tryz.func113,Tryz.ntmps113
   go_upto_region 1 with fail
   rw [←hW1];clear hW1
   go_wp2_with fail
   rw [←hR];clear hR hg12 x0 x1 x2 x3 x4 x5;refine HF.out.mono ?_;rintro r u1 ⟨hor,hb⟩;clear HF;obtain ⟨bel,hI,ho1,ho2⟩:=S0.out;have S1:=qsd (bel.trans (hb.mono bel.size))
   rcases hor with ⟨hne,rfl⟩|⟨h0,g',V,rfl,hO⟩
   · have HA2:=HAn.out
     rw [if_neg hne] at HA2;obtain ⟨er,her⟩:∃ er,errL I 1=er:=⟨_,rfl⟩;rw [her] at hne HA2 ⊢;have HA3:=qsd HA2;have hnb:(er==0)=false:=by simp [hne]
     clear HAn HA2 her hne bel hb hI ho1 ho2 S0 HW HR;go_wp2
     go_ret2
     rw [HA3.out];exact ⟨rfl,S1.out⟩
   · have HA2:=HAn.out
     rw [if_pos h0] at HA2;obtain ⟨q0,q1,q2,q3,q4,q5⟩:=hO.row.facts 0 (by omega)
     obtain ⟨N1,N2⟩:=hO.nts 0 (by omega)
     simp only [Nat.zero_mul,Nat.zero_add] at q0 q1 q2 q3 q4 q5;unfold frmI at q0 q1 q2 q3 q4 q5;have e0:I 0=⟨n,.slice a la ca,X,e,m,.slice b lb cb,Y,f⟩:=by rw [←hI]
     rw [e0] at N1 N2;simp only [e0] at q0 q1 q2 q3 q4 q5 N1 N2;have m1:=mkS_len n X e;have m2:=mkS_len m Y f;rw [ho1] at q0 q2 N1 m1;rw [ho2] at q3 q5 N2 m2;obtain ⟨v1,hv1⟩:∃ v1,(V 0).1=v1:=⟨_,rfl⟩;obtain ⟨v2,hv2⟩:∃ v1,(V 0).2=v1:=⟨_,rfl⟩;rw [hv1] at q1 N1;rw [hv2] at q4 N2;obtain ⟨a1,c1,rfl,_⟩:=N1.arg (by omega)
     obtain ⟨a2,c2,rfl,_⟩:=N2.arg (by omega)
     have HC:=hid (HW.out u1 _ _ (bel.trans (hb.mono bel.size)) (N1.mono (by have:=bel.size;omega)) (N2.mono (by have:=bel.size;omega)) h0)
     have S2:=(qsd (ai h0 HA2));clear HAn HA2 bel hb hI ho1 ho2 S0 hO N1 N2 HW h0 hv1 hv2 e0
     go_wp2_with fail
     clear q0 q1 q2 q3 q4 q5;refine HC.out.mono ?_;rintro r u2 ⟨⟨v,rfl,NZ⟩,hb⟩;obtain ⟨az,cz,rfl,_⟩:=NZ.arg (by omega)
     clear HC;obtain ⟨U3,hU3⟩:∃ U,U=u2.alloc (.cells #[.bool (dN z),.slice az (ws (dX z)).length cz,.int .i64 (dE z)] 62):=⟨_,rfl⟩;have hbA:Below u2.heap.size u2 U3:=by rw [hU3];exact below_alloc _ _
     have bb:=S1.out.trans (hb.mono S1.out.size);have bc:=bb.trans (hbA.mono bb.size)
     by_cases hew0:ew=0
     · have TZ:Tk U3 u2.heap.size 62 (.bool (dN z)) (.slice az (ws (dX z)).length cz) (.int .i64 (dE z)):=by rw [hU3];exact Tk.new _ _ _ _ _
       have HD:=hid (HR.out U3 az cz hew0 HM.out S2.out.1 bc ((NZ.below hbA).arg' (by omega)).2)
       obtain ⟨x0,x1,x2,_,_,_⟩:=TZ.facts;have S3:=(qsd (ai bc S2.out.2));clear bb bc hb hbA NZ TZ S1 S2 HR HM hew;subst hew0
       go_upto_region 7 with fail
       rw [←hU3];clear hU3
       go_wp2_with fail
       refine HD.out.mono ?_;rintro r u3 ⟨rfl,hb⟩;have S4:=qsd (S3.out.1.trans (hb.mono S3.out.1.size));clear hb HD x0 x1 x2;go_wp2
       go_ret2
       rw [S3.out.2];exact ⟨rfl,S4.out⟩
     · have hnb:(ew==0)=false:=by simp [hew0]
       have hA:ANS=(0,ew):=by
        rw [S2.out.2];have:=hew hew0;rw [←this.1,←this.2]
       have S3:=(qsd (ai bc hA));clear bb bc hb hbA NZ S1 S2 HR HM hew hA hew0
       go_upto_region 7 with fail
       rw [←hU3];clear hU3;go_wp2
       go_ret2
       rw [S3.out.2];exact ⟨rfl,S3.out.1⟩
theorem Quot_box {w:World}{a b:Option Addr}{la ca lb cb:Nat}(n m:Bool) (e f mode:Int) (ANS:Nat×Int)
 (HR:Hid (∀ u:World,Below w.heap.size w u→Calls Tryz.prog 113 #[.agg #[.bool n,.slice a la ca,.int .i64 e,.bool m,.slice b lb cb,.int .i64 f],.int .i64 mode,.func (.func 114) #[] #[],.func (.func 70) #[] #[]] u fun r w'=>r=.returned (.tuple #[.float .f64 ANS.1,.int .i64 ANS.2])∧Below u.heap.size u w')) :
 Calls Tryz.prog 77 #[.agg #[.bool n,.slice a la ca,.int .i64 e,.bool m,.slice b lb cb,.int .i64 f],.int .i64 mode] w fun r w'=>r=.returned (.tuple #[.float .f64 ANS.1,.int .i64 ANS.2])∧Below w.heap.size w w':=by
 obtain ⟨W1,hW1⟩:∃ W,W=w.alloc (.cells #[.bool n,.slice a la ca,.int .i64 e,.bool m,.slice b lb cb,.int .i64 f] 98):=⟨_,rfl⟩;obtain ⟨hB,hz1,Q1⟩:=one_begin w n _ e m _ f W1 hW1;have HC:=hid (HR.out W1 hB);obtain ⟨x0,x1,x2,x3,x4,x5⟩:=Q1.facts;have S0:=qsd hB;clear hB hz1 Q1 HR;go_enter Tryz.func77,Tryz.ntmps77
 go_upto_region 1 with fail
 rw [←hW1];clear hW1
 go_wp2_with fail
 refine HC.out.mono ?_;rintro r u1 ⟨rfl,hb⟩;have S1:=qsd (S0.out.trans (hb.mono S0.out.size));clear hb HC x0 x1 x2 x3 x4 x5;go_wp2
 go_ret2
 exact ⟨rfl,S1.out⟩
end
section
open Go.RowKit
theorem mkS_small (n:Bool) (M:Nat) (E:Int) (hM:M≠0) (hb:bl M≤1001) (h0:-4096≤E) (h1:E≤4096):mkS n M E=some (n,M/2^lo M,E+lo M)∧(M/2^lo M)%2=1∧M=M/2^lo M*2^lo M∧lo M≤1001:=by
 obtain ⟨q,h2,h3,h4⟩:=odd_part M hM;refine ⟨?_,by omega,by rw [h3,Nat.mul_comm];exact h2,by omega⟩
 unfold mkS;rw [if_neg hM,if_neg (by omega)]
def quoZ (n:Bool) (X:Nat) (e:Int) (Y:Nat) (f:Int):Option (Bool×Nat×Int):=mkS n (2*whoS X Y 64+(if atS X Y 64 then 0 else 1)) (clampE (e-f-byS X Y 64-cutS Y 64))
theorem clamp_rng (x:Int):-4096≤clampE x∧clampE x≤4096:=by unfold clampE;omega
theorem bl_two {W d k:Nat}(h:W<2^k) (hd:d≤1):bl (2*W+d)≤k+1:=bl_lt_pow (by rw [Nat.pow_succ];omega)
theorem grid64:Grid vK 9218868437227405312:=by
 refine ⟨by decide,?_,fun {k l} h=>vK_lt.2 h,fun k hk=>?_⟩
 · have:=vK_word 0 0 (.inl rfl) (by omega)
   simpa using this
 · by_cases h:k<4503599627370496
   · refine ⟨k,0,?_,?_,by omega,by omega⟩
     · have:=vK_word 0 k (.inl rfl) (by omega);rw [Nat.zero_mul,Nat.zero_add] at this;exact this
     · have:=vK_word 0 (k+1) (.inl rfl) (by omega);rw [Nat.zero_mul,Nat.zero_add] at this;exact this
   · obtain ⟨q,hq⟩:∃ q,k/4503599627370496=q:=⟨_,rfl⟩
     obtain ⟨g,hg⟩:∃ g,k%4503599627370496=g:=⟨_,rfl⟩;refine ⟨4503599627370496+g,q-1,?_,?_,by omega,by omega⟩
     · have:=vK_word (q-1) (4503599627370496+g) (.inr (by omega)) (by omega)
       rw [show (q-1)*4503599627370496+(4503599627370496+g)=k by omega] at this
       exact this
     · have:=vK_word (q-1) (4503599627370496+g+1) (.inr (by omega)) (by omega)
       rw [show (q-1)*4503599627370496+(4503599627370496+g+1)=k+1 by omega] at this
       exact this
theorem liesG64 {K:Nat}{t:Bool}{m:Int}{V S':Nat}(h:Lies K t m V S'):LiesG vK 9218868437227405312 1 K t m V S':=by
 refine ⟨h.fin,h.pos,fun ht=>?_,fun ht=>?_,fun ht hl=>?_,fun ht=>?_⟩
 · rw [Nat.pow_one];exact h.one ht
 · rw [Nat.pow_one];exact h.low ht
 · rw [Nat.pow_one] at hl
   have:=h.mids ht hl;rw [Nat.pow_one,Nat.pow_one,Nat.add_mul];exact this
 · rw [Nat.pow_one]
   rcases h.high ht with q|⟨q,r⟩
   · exact .inl q
   · exact .inr ⟨by omega,r⟩
theorem stand64 (n:Bool) (M:Nat) (E:Int) (hM:M≠0) (hb:bl M≤1001) (h0:-4096≤E) (h1:E≤4096) :
 ∃ K t m,LiesG vK 9218868437227405312 1 K t m (M*2^(E+(1074:Nat)).toNat) (2^(-(E+(1074:Nat))).toNat)∧∀ mode:Int,0≤mode→mode≤4→rndS (mkS n M E) mode=(rK mode n K t m+(if n then 9223372036854775808 else 0),0):=by
 obtain ⟨e1,e2,e3,e4⟩:=mkS_small n M E hM hb h0 h1;obtain ⟨M',hM'⟩:∃ M',M/2^lo M=M':=⟨_,rfl⟩;obtain ⟨l,hl⟩:∃ l,lo M=l:=⟨_,rfl⟩;rw [hM',hl] at e1 e3;rw [hM'] at e2;rw [hl] at e4;have hL:=lies M' (E+l) e2 (by omega) (by omega) (min E (-1074)) (by omega) (by omega)
 refine ⟨flK M' (E+l),(plc 53 (-1074) 1024 M' (E+l)).2.2.1,(plc 53 (-1074) 1024 M' (E+l)).2.2.2,?_,?_⟩
 · have:=liesG64 hL
   rw [e3]
   have w1:M'*2^(E+(l:Int)-min E (-1074)).toNat=M'*2^l*2^(E+(1074:Nat)).toNat:=by
    rw [Nat.mul_assoc,←Nat.pow_add];congr 2;omega
   have w2:(-1074-min E (-1074)).toNat=(-(E+(1074:Nat))).toNat:=by omega
   rw [w1,w2] at this;exact this
 · intro mode hm0 hm4
   rw [e1];unfold rndS;rw [if_neg (by omega)]
   simp only;rw [if_neg (by omega),rndK_eq]
theorem quo64 (n:Bool) (X:Nat) (e:Int) (Y:Nat) (f:Int) (hX:X%2=1) (hY:Y≠0) (bX:bl X≤262144) (bY:bl Y≤262144) :
 ∃ K t m,LiesG vK 9218868437227405312 1 K t m (rV11 X e f 1074 1) (rS11 Y e f 1074 1)∧∀ mode:Int,0≤mode→mode≤4→rndS (quoZ n X e Y f) mode=(rK mode n K t m+(if n then 9223372036854775808 else 0),0):=by
 have D:=divS_facts X Y 64 (.inr hX) hY (by omega) (by omega) bX bY
 have hX0:X≠0:=by omega
 have hW1:=D.least hX0;have hW2:=D.most;have c63:(2:Nat)^(64-1)=9223372036854775808:=by decide
 have sp:=quo_span X Y e f 1074 hY D;have hd:(if atS X Y 64 then 0 else 1)≤1:=by split <;> omega
 obtain ⟨K,t,m,hL,hR⟩:=stand64 n (2*whoS X Y 64+(if atS X Y 64 then 0 else 1)) (clampE (e-f-byS X Y 64-cutS Y 64)) (by omega) (by have:=bl_two hW2 hd;omega) (clamp_rng _).1 (clamp_rng _).2
 refine ⟨K,t,m,hL.of_alike grid64 (by omega) sp.pos ?_,hR⟩
 exact alike_clamp 1 (whoS X Y 64) _ _ _ 1074 _ (by omega) (by omega) (Nat.lt_trans hW2 (by decide)) hd (by omega) (by omega) sp
theorem quoZ_some (n:Bool) (X:Nat) (e:Int) (Y:Nat) (f:Int) (hX:X=0∨X%2=1) (hY:Y≠0) (bX:bl X≤262144) (bY:bl Y≤262144):(quoZ n X e Y f).isSome=true:=by
 have D:=divS_facts X Y 64 hX hY (by omega) (by omega) bX bY
 have hW2:=D.most;have hd:(if atS X Y 64 then 0 else 1)≤1:=by split <;> omega
 have hb:=bl_two hW2 hd;unfold quoZ
 by_cases hM:2*whoS X Y 64+(if atS X Y 64 then 0 else 1)=0
 · rw [hM,mkS_zero];rfl
 · rw [(mkS_small n _ _ hM (by omega) (clamp_rng _).1 (clamp_rng _).2).1];rfl
end
section
open Go.RowKit
def oneI (r:Ri):Nat→Ri:=fun _=>r
noncomputable def quoR (rnd:Option (Bool×Nat×Int)→Int→Nat×Int) (r:Ri) (mode:Int):Nat×Int :=
 if mode<0∨4<mode then (0,1) else if errL (oneI r) 1=0 then rnd (quoZ (dN (mkS r.n r.X r.e)) (dX (mkS r.n r.X r.e)) (dE (mkS r.n r.X r.e)) (dX (mkS r.m r.Y r.f)) (dE (mkS r.m r.Y r.f))) mode else (0,errL (oneI r) 1)
theorem frm_of {n:Bool}{X:Nat}{e:Int}(h:(mkS n X e).isSome=true):Frm (dN (mkS n X e)) (dX (mkS n X e)) (dE (mkS n X e)):=by
 cases ho:mkS n X e with
 | none=>rw [ho] at h;cases h
 | some d =>
   obtain ⟨n1,X1,e1⟩:=d;exact mkS_frm ho
theorem Frm.par {n:Bool}{X:Nat}{e:Int}(h:Frm n X e):X=0∨X%2=1:=by rcases h.odd with q | q;exact .inr q;exact .inl q.1
theorem quo_reform (n:Bool) (X:Nat) (e:Int) (Y:Nat) (f:Int) (hs:(quoZ n X e Y f).isSome=true):mkS (dN (quoZ n X e Y f)) (dX (quoZ n X e Y f)) (dE (quoZ n X e Y f))=quoZ n X e Y f:=reform (o:=quoZ n X e Y f) rfl hs
theorem Quot11 {w:World}{n m:Bool}{a b:Option Addr}{la ca lb cb:Nat}{X Y:Nat}{e f:Int}(mode:Int) (hr:Rv w ⟨n,.slice a la ca,X,e,m,.slice b lb cb,Y,f⟩) (hT:Tab w) :
 Calls Tryz.prog 77 #[.agg #[.bool n,.slice a la ca,.int .i64 e,.bool m,.slice b lb cb,.int .i64 f],.int .i64 mode] w fun r w' =>
  r=.returned (.tuple #[.float .f64 (quoR rndS ⟨n,.slice a la ca,X,e,m,.slice b lb cb,Y,f⟩ mode).1,.int .i64 (quoR rndS ⟨n,.slice a la ca,X,e,m,.slice b lb cb,Y,f⟩ mode).2])∧Below w.heap.size w w':=by
 refine Quot_box n m e f mode (quoR rndS ⟨n,.slice a la ca,X,e,m,.slice b lb cb,Y,f⟩ mode) ?_;intro u hu;have hrT:=hr.below hu;have hTu:=hT.belows hu;refine rounded_quotient64 mode hrT hTu (mkS n X e) (mkS m Y f) (quoZ (dN (mkS n X e)) (dX (mkS n X e)) (dE (mkS n X e)) (dX (mkS m Y f)) (dE (mkS m Y f))) 0 (rndS (quoZ (dN (mkS n X e)) (dX (mkS n X e)) (dE (mkS n X e)) (dX (mkS m Y f)) (dE (mkS m Y f))) mode) rfl rfl (mkS_len _ _ _) (fun h=>absurd rfl h) _ rfl ?_ ?_
 · intro v p q hv N1 N2 h0
   obtain ⟨k1,k2,k3,k4⟩:=errL0 h0 0 (by omega)
   simp only at k1 k2 k3 k4;have F1:=frm_of k2;have F2:=frm_of k3;obtain ⟨a1,c1,rfl,A1⟩:=N1.arg (by have:=frm_len F1;omega)
   obtain ⟨a2,c2,rfl,A2⟩:=N2.arg (by have:=frm_len F2;omega)
   have hq:=quotient_any (dN (mkS n X e)) (dN (mkS m Y f)) (dX (mkS n X e)) (dX (mkS m Y f)) (dE (mkS n X e)) (dE (mkS m Y f)) A1 A2 (hTu.belows hv) F1.par k4 F1.down F1.up F2.down F2.up F1.size F2.size;have hs:=quoZ_some (dN (mkS n X e)) (dX (mkS n X e)) (dE (mkS n X e)) (dX (mkS m Y f)) (dE (mkS m Y f)) F1.par k4 F1.size F2.size;have he:erS (quoZ (dN (mkS n X e)) (dX (mkS n X e)) (dE (mkS n X e)) (dX (mkS m Y f)) (dE (mkS m Y f)))=0:=by unfold erS;rw [hs];rfl
   unfold DAns at hq;rw [show mkS (dN (mkS n X e)) (2*whoS (dX (mkS n X e)) (dX (mkS m Y f)) 64+(if atS (dX (mkS n X e)) (dX (mkS m Y f)) 64 then 0 else 1)) (clampE (dE (mkS n X e)-dE (mkS m Y f)-byS (dX (mkS n X e)) (dX (mkS m Y f)) 64-cutS (dX (mkS m Y f)) 64))=quoZ (dN (mkS n X e)) (dX (mkS n X e)) (dE (mkS n X e)) (dX (mkS m Y f)) (dE (mkS m Y f)) from rfl,he] at hq
   exact hq
 · intro v p q _ hm h0 hv hA
   obtain ⟨k1,k2,k3,k4⟩:=errL0 h0 0 (by omega)
   simp only at k1 k2 k3 k4;have F1:=frm_of k2;have F2:=frm_of k3;have hs:=quoZ_some (dN (mkS n X e)) (dX (mkS n X e)) (dE (mkS n X e)) (dX (mkS m Y f)) (dE (mkS m Y f)) F1.par k4 F1.size F2.size;have rg:=frm_rng (o:=quoZ (dN (mkS n X e)) (dX (mkS n X e)) (dE (mkS n X e)) (dX (mkS m Y f)) (dE (mkS m Y f))) rfl;have hR:=Round_any hA (hTu.belows hv) (dN (quoZ (dN (mkS n X e)) (dX (mkS n X e)) (dE (mkS n X e)) (dX (mkS m Y f)) (dE (mkS m Y f)))) (dE (quoZ (dN (mkS n X e)) (dX (mkS n X e)) (dE (mkS n X e)) (dX (mkS m Y f)) (dE (mkS m Y f)))) mode (by omega) (by omega)
   rw [val_ws,quo_reform _ _ _ _ _ hs] at hR;exact hR
end
section
open Go.RowKit
def errN (X:Nat) (n:Bool) (e:Int) (Y:Nat) (m:Bool) (f:Int):Int:=if sgn m Y<0 then 1 else if (mkS n X e).isSome&&(mkS m Y f).isSome then (if dX (mkS m Y f)=0 then 21 else 0) else 2
theorem errL_one (r:Ri):errL (oneI r) 1=errN r.X r.n r.e r.Y r.m r.f:=by
 unfold errL errN oneI;simp only [show List.range 1=[0] from rfl,List.any_cons,List.any_nil,Bool.or_false,decide_eq_true_eq]
 cases (mkS r.n r.X r.e).isSome <;> cases (mkS r.m r.Y r.f).isSome <;> simp
theorem mkS_pow11 (n:Bool) (k Y:Nat) (e:Int):mkS n (2^k*Y) e=mkS n Y (e+k):=by
 induction k generalizing e with
 | zero=>simp
 | succ k ih=>rw [Nat.pow_succ,Nat.mul_comm (2^k) 2,Nat.mul_assoc,mkS_double,ih];congr 1;omega
end
section
open Go.RowKit
def Iv (o:Option (Bool×Nat×Int)) (lo hi:Int):Prop:=∃ n X e,o=some (n,X,e)∧Frm n X e∧(X=0∨(lo≤e∧e+(bl X:Int)≤hi))
theorem Iv.mono {o:Option (Bool×Nat×Int)}{a b c d:Int}(h:Iv o a b) (h1:c≤a) (h2:b≤d):Iv o c d:=by
 obtain ⟨n,X,e,h,F,hb⟩:=h;exact ⟨n,X,e,h,F,by omega⟩
theorem mkS_iv (n:Bool) (X:Nat) (e a b:Int) (h:X=0∨(a≤e∧e+(bl X:Int)≤b)) (hw:b-a≤262144) (ha:-1048576≤a) (hb:b≤1048576):Iv (mkS n X e) a b:=by
 by_cases h0:X=0
 · subst h0
   rw [mkS_zero];exact ⟨false,0,0,rfl,⟨.inr ⟨rfl,rfl,rfl⟩,by rw [bl_zero];omega,by omega,by omega⟩,.inl rfl⟩
 · obtain ⟨h1,h2⟩:=h.resolve_left h0
   obtain ⟨k,o1,o2,o3⟩:=odd_part X h0;have hp:=bl_pos (X/2^lo X) (by omega)
   have e1:mkS n X e=some (n,X/2^lo X,e+lo X):=by
    unfold mkS;rw [if_neg h0,if_neg (by omega)]
   exact ⟨n,_,_,e1,mkS_frm e1,.inr (by omega)⟩
theorem bl_mul_le (X Y:Nat):bl (X*Y)≤bl X+bl Y:=bl_lt_pow (by rw [Nat.pow_add];exact Nat.mul_lt_mul'' (bl_lt X) (bl_lt Y))
theorem Iv.mul {o p:Option (Bool×Nat×Int)}{a b c d:Int}(h1:Iv o a b) (h2:Iv p c d) (hw:(b+d)-(a+c)≤262144) (hl:-1048576≤a+c) (hh:b+d≤1048576):Iv (mulD o p) (a+c) (b+d):=by
 obtain ⟨n,X,e,rfl,F,hx⟩:=h1;obtain ⟨m,Y,f,rfl,G,hy⟩:=h2
 show Iv (mkS (n != m) (X*Y) (e+f)) _ _
 refine mkS_iv _ _ _ _ _ ?_ hw hl hh
 rcases hx with rfl|hx
 · left;rw [Nat.zero_mul]
 · rcases hy with rfl | hy
   · left;rw [Nat.mul_zero]
   · right
     have:=bl_mul_le X Y;omega
theorem pow_bound {X k:Nat}{j:Nat}(h:bl X+k≤j):X*2^k<2^j:=by
 have h1:=bl_lt X;have h2:X*2^k<2^bl X*2^k:=Nat.mul_lt_mul_of_pos_right h1 (Nat.two_pow_pos k);rw [←Nat.pow_add] at h2;exact Nat.lt_of_lt_of_le h2 (Nat.pow_le_pow_right (by decide) h)
theorem addUp_iv (n m:Bool) (X Y:Nat) (e f a b:Int) (hfe:f≤e) (ha:a≤f) (h1:e+(bl X:Int)≤b) (h2:f+(bl Y:Int)≤b) (hw:b+1-a≤262144) (hl:-1048576≤a) (hh:b+1≤1048576) (hX:X≠0):Iv (addUp n X e m Y f) a (b+1):=by
 have hp:=bl_pos X hX;unfold addUp;rw [if_neg (by omega)]
 obtain ⟨j,hj⟩:∃ j:Nat,(j:Int)=b-f:=⟨(b-f).toNat,by omega⟩
 have b1:X*2^(e-f).toNat<2^j:=pow_bound (by omega)
 have b2:Y<2^j:=Nat.lt_of_lt_of_le (bl_lt Y) (Nat.pow_le_pow_right (by decide) (by omega))
 have fin:∀ (s:Bool) (Z:Nat),Z<2^(j+1)→Iv (mkS s Z f) a (b+1):=by
  intro s Z hZ;refine mkS_iv s Z f a (b+1) ?_ hw hl hh
  by_cases h0:Z=0
  · exact .inl h0
  · right
    have:=bl_lt_pow hZ;omega
 have b3:(2:Nat)^(j+1)=2*2^j:=by rw [Nat.pow_succ,Nat.mul_comm]
 split
 · exact fin _ _ (by omega)
 · split
   · exact fin _ _ (by omega)
   · exact fin _ _ (by omega)
theorem Iv.add {o p:Option (Bool×Nat×Int)}{a b:Int}(h1:Iv o a b) (h2:Iv p a b) (hw:b+1-a≤262144) (hl:-1048576≤a) (hh:b+1≤1048576):Iv (addD o p) a (b+1):=by
 have h1':=h1;have h2':=h2;obtain ⟨n,X,e,rfl,F,hx⟩:=h1;obtain ⟨m,Y,f,rfl,G,hy⟩:=h2
 show Iv (addF (n,X,e) (m,Y,f)) a (b+1)
 unfold addF;simp only
 by_cases hX:X=0
 · rw [if_pos hX];exact h2'.mono (by omega) (by omega)
 · rw [if_neg hX]
   by_cases hY:Y=0
   · rw [if_pos hY];exact h1'.mono (by omega) (by omega)
   · rw [if_neg hY]
     have ex:=hx.resolve_left hX;have ey:=hy.resolve_left hY
     split
     · exact addUp_iv m n Y X f e a b (by omega) ex.1 ey.2 ex.2 hw hl hh hY
     · exact addUp_iv n m X Y e f a b (by omega) ey.1 ex.2 ey.2 hw hl hh hX
def valO (o:Option (Bool×Nat×Int)):Int:=zv (-1048576) (dN o,dX o,dE o)
theorem fvO {o:Option (Bool×Nat×Int)}{n:Bool}{X:Nat}{e:Int}(h:mkS n X e=o) (hs:o.isSome=true):Fv (-1048576) o (valO o):=by
 cases o with
 | none=>cases hs
 | some d=>obtain ⟨n1,X1,e1⟩:=d;exact ⟨n1,X1,e1,rfl,mkS_frm h,rfl⟩
theorem Fv.zero_iff {o:Option (Bool×Nat×Int)}{B z:Int}(h:Fv B o z):dX o=0↔z=0:=by
 obtain ⟨n,X,e,rfl,F,rfl⟩:=h.ex
 constructor
 · intro h0;exact zv_zero B h0
 · intro h0
   show X=0
   rcases Nat.eq_zero_or_pos X with q|q
   · exact q
   · exfalso
     have:=Nat.mul_pos q (Nat.two_pow_pos (e-B).toNat);unfold zv sg1 at h0
     cases n <;> simp only [Bool.false_eq_true,if_false,if_true] at h0 <;> omega
theorem Fv.neg_iff {o:Option (Bool×Nat×Int)}{B z:Int}(h:Fv B o z):dN o=true↔z<0:=by
 obtain ⟨n,X,e,rfl,F,rfl⟩:=h.ex
 show n=true↔_
 rcases F.odd with q|⟨rfl,rfl,rfl⟩
 · have:=Nat.mul_pos (show 0<X by omega) (Nat.two_pow_pos (e-B).toNat)
   unfold zv sg1
   cases n <;> simp only [Bool.false_eq_true,if_false,if_true,false_iff,true_iff] <;> omega
 · simp [zv]
theorem Fv.reform {o:Option (Bool×Nat×Int)}{B z:Int}(h:Fv B o z):mkS (dN o) (dX o) (dE o)=o:=by
 obtain ⟨n,X,e,rfl,F,rfl⟩:=h.ex;exact F.self
end
section
open Go.RowKit
theorem Fv.len {o:Option (Bool×Nat×Int)}{B z:Int}(h:Fv B o z):(ws (dX o)).length≤8192:=by
 obtain ⟨n,X,e,rfl,F,_⟩:=h.ex;exact frm_len F
end
section
open Go.RowKit
def Fm (o:Option (Bool×Nat×Int)):Prop:=∃ B x,Fv B o x
theorem Fm.len {o:Option (Bool×Nat×Int)}(h:Fm o):(ws (dX o)).length≤8192:=by obtain ⟨B,x,h⟩:=h;exact h.len
theorem Fm.re {o:Option (Bool×Nat×Int)}(h:Fm o):mkS (dN o) (dX o) (dE o)=o:=by obtain ⟨B,x,h⟩:=h;exact h.reform
theorem Fm.rng {o:Option (Bool×Nat×Int)}(h:Fm o):-9223372036854775808≤dE o∧dE o≤9223372036854775807:=by
 obtain ⟨B,x,h⟩:=h;obtain ⟨n,X,e,rfl,F,_⟩:=h.ex;have:=F.up;have:=F.down
 show -9223372036854775808≤e∧e≤9223372036854775807
 omega
end
section
open Go.RowKit
theorem vK_zero:vK 0=0:=by
 have:=vK_word 0 0 (.inl rfl) (by omega)
 simpa using this
end
section
open Go.RowKit
def fo8 (V:Int):Option (Bool×Nat×Int):=mkS (decide (V<0)) V.natAbs (-1074)
theorem sg1_abs (V:Int):sg1 (decide (V<0))*(V.natAbs:Int)=V:=by
 unfold sg1
 by_cases h:V<0
 · rw [decide_eq_true h,if_pos rfl];omega
 · rw [decide_eq_false h,if_neg (by decide)];omega
theorem fo8_fo (V:Int) (m:Nat) (hm:m≤200000) (hV:V.natAbs<2^m):Fo (fo8 V) (V*(UU:Int)) (-1074) ((m:Int)-1074):=by
 by_cases h0:V=0
 · subst h0
   refine ⟨⟨false,0,0,?_,?_,?_,.inl rfl⟩⟩
   · unfold fo8;exact mkS_zero _ _
   · exact mkS_frm (mkS_zero false 0)
   · rw [zv_zero _ rfl];simp
 · obtain ⟨X,e,h1,h2,h3,h4⟩:=mkS_sz (decide (V<0)) V.natAbs (-1074) (-1074) ((m:Int)-1074) (by omega) (by omega) (by have:=blLe hV;omega) (by omega) (by omega) (by omega)
   refine ⟨⟨_,X,e,h1,mkS_frm h1,?_,.inr ⟨h3,h4⟩⟩⟩;rw [zv_mkS h1 (-2097152) (.inr (by omega))]
   have e1:(2:Nat)^((-1074:Int) - -2097152).toNat=UU*SS:=US _ (by decide)
   rw [e1,Int.natCast_mul,Int.natCast_mul,←Int.mul_assoc,sg1_abs,Int.mul_assoc]
theorem fo8_one {o:Option (Bool×Nat×Int)}{V L H:Int}(h:Fo o (V*(UU:Int)) L H) (m:Nat) (hm:m≤200000) (hV:V.natAbs<2^m):o=fo8 V:=by
 obtain ⟨n,X,e,rfl,F1,z1,_⟩:=h.ex;obtain ⟨n',X',e',h2,F2,z2,_⟩:=(fo8_fo V m hm hV).ex;rw [h2];obtain ⟨rfl,rfl,rfl⟩:=zv_inj F1 F2 (-2097152) (by omega) (by rw [z1,z2])
 rfl
theorem top_fv {x:Nat}(hx:Wd x) (fx:finW x) (m:Nat) (hm:m=2098):(fvW x).natAbs<2^m:=by
 unfold fvW;rw [sg_abs];have:=top_v (magW x) fx 2045 rfl;obtain ⟨a,ha⟩:∃ a,a=2045:=⟨_,rfl⟩;have h2:=top_v (magW x) fx a ha;rw [show m=53+a by omega,Nat.pow_add]
 exact h2
theorem of_fo8 {x:Nat}(hx:Wd x) (fx:finW x):ofK (negW x) (magW x)=fo8 (fvW x):=by
 obtain ⟨n,X,e,h1,h2,_⟩:=of_fo (negW x) (magW x) fx;rw [h1];exact fo8_one h2 2098 (by omega) (top_fv hx fx 2098 rfl)
end
section
open Go.RowKit
theorem of_any8 (x:Nat) (hx:Wd x∧finW x) (w:World) (hT:Tab w) :
 Calls Tryz.prog 51 #[.float .f64 x] w fun r w'=>(∃ v,r=.returned (.tuple #[.agg #[.bool (dN (fo8 (fvW x))),v,.int .i64 (dE (fo8 (fvW x)))],.int .i64 0])∧Nt w.heap.size w' v (dX (fo8 (fvW x))))∧Below w.heap.size w w':=by
 obtain ⟨h1,h2,h3,_⟩:=wd64_bw (negW x) (magW x) (Nat.le_of_lt hx.2);have:=Of_any (negW x) (magW x/4503599627370496) (magW x%4503599627370496) h2 h3 w hT;rw [←h1,←wd_of x hx.1] at this;refine this.mono ?_;rintro r w' ⟨⟨v,rfl,hN⟩,hb⟩;have e:=of_fo8 hx.1 hx.2;unfold ofK at e;rw [e] at hN ⊢;have he:ofE (magW x/4503599627370496)=0:=by unfold ofE;rw [if_neg (by have:=hx.2;omega)]
 rw [he];exact ⟨⟨v,rfl,hN⟩,hb⟩
end
section
open Go.RowKit J
theorem st3_but12 (g:Nat) (w:World) (x y z:Value):But g w (st3 w g x y z):=(((But.refl g w).set _ _).set _ _).set _ _
def Lo (w:World) (g:Nat) (o:Option (Bool×Nat×Int)):Prop:=∃ a c,Dk w g (dN o) (.slice a (ws (dX o)).length c) (dE o)∧Nt 0 w (.slice a (ws (dX o)).length c) (dX o)
theorem Lo.below {w w':World}{g:Nat}{o:Option (Bool×Nat×Int)}(h:Lo w g o) (hb:Below w.heap.size w w'):Lo w' g o:=by
 obtain ⟨a,c,h1,h2⟩:=h;exact ⟨a,c,h1.below hb,h2.below hb⟩
theorem Lo.lt {w:World}{g:Nat}{o:Option (Bool×Nat×Int)}(h:Lo w g o):g<w.heap.size:=by
 obtain ⟨a,c,h1,h2⟩:=h;exact h1.lt
theorem Nt.off12 {lo g:Nat}{w:World}{v:Value}{X:Nat}{n:Bool}{a:Option Addr}{l c:Nat}{e:Int}(h:Nt lo w v X) (D:Dk w g n (.slice a l c) e) (x y z:Value):Nt lo (st3 w g x y z) v X:=by
 refine h.off (st3_but12 g w x y z) ?_
 rcases h.2 with ⟨rfl,_⟩|⟨g',cap,cur,rfl,_,hg,_⟩
 · simp [Value.ownBlock]
 · intro e'
   obtain rfl:g'=g:=by simpa [Value.ownBlock] using e'
   rw [show w.heap[g']?=_ from D] at hg
   simp at hg
theorem Lo.set {w:World}{g:Nat}{o p:Option (Bool×Nat×Int)}(h:Lo w g o) {a:Option Addr}{c:Nat}(hN:Nt 0 w (.slice a (ws (dX p)).length c) (dX p)) :
 Lo (st3 w g (.bool (dN p)) (.slice a (ws (dX p)).length c) (.int .i64 (dE p))) g p:=by
 obtain ⟨a0,c0,h1,h2⟩:=h;exact ⟨a,c,h1.set _ _ _,hN.off12 h1 _ _ _⟩
theorem Lo.other {w:World}{g g':Nat}{o p:Option (Bool×Nat×Int)}(h:Lo w g o) (h':Lo w g' p) (hg:g≠g') (x y z:Value):Lo (st3 w g' x y z) g o:=by
 obtain ⟨a,c,h1,h2⟩:=h;obtain ⟨a0,c0,k1,k2⟩:=h';exact ⟨a,c,h1.other _ hg _ _ _,h2.off12 k1 _ _ _⟩
theorem Lo.new {w:World}{o:Option (Bool×Nat×Int)}{a:Option Addr}{c:Nat}(hN:Nt 0 w (.slice a (ws (dX o)).length c) (dX o)):Lo (w.alloc (Obj.cells #[.bool (dN o),.slice a (ws (dX o)).length c,.int .i64 (dE o)] 62)) w.heap.size o :=
 ⟨a,c,Dk.new _ _ _ _,hN.below (below_alloc _ _)⟩
abbrev o00:Option (Bool×Nat×Int):=some (false,0,0)
theorem len00:(ws (dX o00)).length=0:=by simp [dX,ws_zero]
theorem Lo.zero (w:World):Lo (w.alloc (Obj.cells #[.bool false,.slice none 0 0,.int .i64 0] 62)) w.heap.size o00:=by
 refine ⟨none,0,?_,?_⟩
 · rw [len00];exact Dk.new _ _ _ _
 · rw [len00];exact Nt.nil _ _
theorem st3_bel12 {B g:Nat}{a w:World}(h:Below B a w) (hB:B≤w.heap.size) (hg:B≤g) (x y z:Value):Below B a (st3 w g x y z):=But.below h (st3_but12 g w x y z) hB hg
theorem Fm.er {o:Option (Bool×Nat×Int)}(h:Fm o):erS o=0:=by
 obtain ⟨B,x,h⟩:=h;obtain ⟨n,X,e,rfl,_⟩:=h.ex;rfl
theorem Fm.a12 {o:Option (Bool×Nat×Int)}{w:World}{a:Option Addr}{c:Nat}(F:Fm o) (N:Nt 0 w (.slice a (ws (dX o)).length c) (dX o)):Arg w a (ws (dX o)).length c (ws (dX o)):=(N.arg' (Nat.le_trans F.len (by decide))).2
theorem mulP12 {U:World}{a b:Option Addr}{c d:Nat}{o p q:Option (Bool×Nat×Int)}(F:Fm o) (G:Fm p) (N1:Nt 0 U (.slice a (ws (dX o)).length c) (dX o)) (N2:Nt 0 U (.slice b (ws (dX p)).length d) (dX p)) (hT:Tab U) (h:mulD o p=q) (H:Fm q) :
 Calls Tryz.prog 89 #[.agg #[.bool (dN o),.slice a (ws (dX o)).length c,.int .i64 (dE o)],.agg #[.bool (dN p),.slice b (ws (dX p)).length d,.int .i64 (dE p)]] U fun r w'=>(∃ v,r=.returned (.tuple #[.agg #[.bool (dN q),v,.int .i64 (dE q)],.int .i64 0])∧Nt U.heap.size w' v (dX q))∧Below U.heap.size U w':=by
 have:=Mul_any3 (F.a12 N1) (G.a12 N2) hT (dN o) (dN p) (dE o) (dE p) F.rng.1 F.rng.2 G.rng.1 G.rng.2;rw [val_ws,val_ws,F.re,G.re,h] at this;unfold DAns at this;rw [H.er] at this;exact this
theorem addP12' {U:World}{a b:Option Addr}{c d:Nat}{o p q:Option (Bool×Nat×Int)}(F:Fm o) (G:Fm p) (N1:Nt 0 U (.slice a (ws (dX o)).length c) (dX o)) (N2:Nt 0 U (.slice b (ws (dX p)).length d) (dX p)) (hT:Tab U) (h:addD o p=q) (H:Fm q) :
 Calls Tryz.prog 88 #[.agg #[.bool (dN o),.slice a (ws (dX o)).length c,.int .i64 (dE o)],.agg #[.bool (dN p),.slice b (ws (dX p)).length d,.int .i64 (dE p)]] U fun r w'=>(∃ v,r=.returned (.tuple #[.agg #[.bool (dN q),v,.int .i64 (dE q)],.int .i64 0])∧Nt U.heap.size w' v (dX q))∧Below U.heap.size U w':=by
 have:=Add_any3 (F.a12 N1) (G.a12 N2) hT (dN o) (dN p) (dE o) (dE p) F.rng.1 F.rng.2 G.rng.1 G.rng.2;rw [val_ws,val_ws,F.re,G.re,h] at this;unfold DAns at this;rw [H.er] at this;exact this
theorem Lo.shape {w:World}{lo:Nat}{v:Value}{q:Option (Bool×Nat×Int)}(H:Fm q) (h:Nt lo w v (dX q)):∃ a c,v=.slice a (ws (dX q)).length c∧Nt 0 w v (dX q):=by
 obtain ⟨a,c,rfl,_⟩:=h.arg (Nat.le_trans H.len (by decide))
 exact ⟨a,c,rfl,h.mono (Nat.zero_le _)⟩
end
section
open Go.RowKit
theorem frm_fv {n:Bool}{X:Nat}{e:Int}(F:Frm n X e) (B:Int):Fv B (some (n,X,e)) (zv B (n,X,e)):=⟨n,X,e,rfl,F,rfl⟩
end
section
open Go.RowKit Go.Shelf J
attribute [local go_sem] Oper.semAt_some
def oW (x:Nat):Option (Bool×Nat×Int):=fo8 (fvW x)
theorem of12 (x:Nat) (hx:x<18446744073709551616) (fx:finW x) (u:World) (hT:Tab u):Calls Tryz.prog 51 #[.float .f64 x] u fun r w'=>(∃ v,r=.returned (.tuple #[.agg #[.bool (dN (oW x)),v,.int .i64 (dE (oW x))],.int .i64 0])∧Nt u.heap.size w' v (dX (oW x)))∧Below u.heap.size u w':=of_any8 x ⟨hx,fx⟩ u hT
end
section
open Go.RowKit
theorem Iv.fm {o:Option (Bool×Nat×Int)}{a b:Int}(h:Iv o a b):Fm o:=by
 obtain ⟨n,X,e,rfl,F,_⟩:=h;exact ⟨0,_,frm_fv F 0⟩
end
section
open Go.RowKit Go.Shelf J
theorem roundP12 {U:World}{a:Option Addr}{c:Nat}{o:Option (Bool×Nat×Int)}(F:Fm o) (N:Nt 0 U (.slice a (ws (dX o)).length c) (dX o)) (hT:Tab U) (mode:Int) (z:Nat×Int) (hz:rndS o mode=z) :
 Calls Tryz.prog 70 #[.agg #[.bool (dN o),.slice a (ws (dX o)).length c,.int .i64 (dE o)],.int .i64 mode] U fun r w'=>r=.returned (.tuple #[.float .f64 z.1,.int .i64 z.2])∧Below U.heap.size U w':=by
 have:=Round_any (F.a12 N) hT (dN o) (dE o) mode F.rng.1 F.rng.2;rw [val_ws,F.re,hz] at this;exact this
attribute [local go_sem] Oper.semAt_some st_float
end
section
open Go.RowKit
theorem rebase {o:Option (Bool×Nat×Int)}{B x:Int}(h:Fv B o x) (hB:B≤-1048576) (D:Int) (hD:D≤0):Fv (B+D) o (x*((2^(0-D).toNat:Nat):Int)):=by
 obtain ⟨n',X',e',hx,F',hz⟩:=h.ex;refine ⟨n',X',e',hx,F',?_⟩;rw [←hz];unfold zv;simp only;rw [Int.mul_assoc,←Int.natCast_mul,Nat.mul_assoc,←Nat.pow_add];have:=F'.down;rw [show (e'-(B+D)).toNat=(e'-B).toNat+(0-D).toNat by omega]
end
section
open Go.RowKit J
def EK:Nat:=1048576
theorem exP (a:Nat):∃ u:Nat,u=2^a:=⟨_,rfl⟩
noncomputable def MM:Nat:=Classical.choose (exP EK)
theorem M_eq:MM=2^EK:=Classical.choose_spec (exP EK)
theorem M_pos:0<MM:=by rw [M_eq];exact Nat.two_pow_pos _
theorem Fm.sm {o:Option (Bool×Nat×Int)}(h:Fm o):o.isSome=true:=by
 obtain ⟨B,x,h⟩:=h;obtain ⟨n,X,e,rfl,_⟩:=h.ex;rfl
theorem Fm.val {o:Option (Bool×Nat×Int)}(h:Fm o):Fv (-1048576) o (valO o):=fvO h.re h.sm
theorem Fv.uniq {B x y:Int}{o:Option (Bool×Nat×Int)}(h1:Fv B o x) (h2:Fv B o y):x=y:=by
 obtain ⟨n,X,e,ho,_,hz⟩:=h1.ex;obtain ⟨n',X',e',ho',_,hz'⟩:=h2.ex;rw [ho] at ho'
 cases ho'
 exact hz.symm.trans hz'
theorem val_mul {o p:Option (Bool×Nat×Int)}(F:Fm o) (G:Fm p) (H:Fm (mulD o p)):valO (mulD o p)*(MM:Int)=valO o*valO p:=by
 have h1:=Fv.mul (by decide) (by decide) F.val G.val H.sm
 have h2:=rebase H.val (by decide) (-1048576) (by decide)
 rw [show ((0:Int) - -1048576).toNat=EK from rfl,←M_eq] at h2
 exact (h1.uniq h2).symm
theorem val_add {o p:Option (Bool×Nat×Int)}(F:Fm o) (G:Fm p) (H:Fm (addD o p)):valO (addD o p)=valO o+valO p :=
 H.val.uniq (Fv.add (by decide) F.val G.val H.sm)
theorem valO_inj {o p:Option (Bool×Nat×Int)}(F:Fm o) (G:Fm p) (h:valO o=valO p):o=p:=by
 obtain ⟨h1,h2,h3⟩:=Fv.same (by decide) F.val G.val h
 obtain ⟨n,X,e,rfl,_⟩:=F.val.ex;obtain ⟨m,Y,f,rfl,_⟩:=G.val.ex;have h1:n=m:=h1;have h2:X=Y:=h2;have h3:e=f:=h3;rw [h1,h2,h3]
theorem val_mk {n:Bool}{X:Nat}{e:Int}(h:Fm (mkS n X e)) (he:-1048576≤e) (k:Nat) (hk:(e+1048576).toNat=k):valO (mkS n X e)=sg1 n*((X*2^k:Nat):Int):=by
 obtain ⟨⟨n',Y,f⟩,ho⟩:=Option.isSome_iff_exists.1 h.sm;have:=zv_mkS ho (-1048576) (.inr he);rw [show (e - -1048576).toNat=k by rw [←hk];congr 1] at this
 rw [←this,ho];rfl
theorem sg1_natAbs (V:Int) (K:Nat):sg1 (decide (V<0))*((V.natAbs*K:Nat):Int)=V*(K:Int):=by
 rw [Int.natCast_mul,←Int.mul_assoc]
 congr 1
 unfold sg1
 by_cases h:V<0
 · rw [decide_eq_true h,if_pos rfl];omega
 · rw [decide_eq_false h,if_neg (by decide)];omega
theorem ex_iv (V:Int) (m:Nat) (hm:m≤100000) (hV:V.natAbs<2^m):Iv (exV V) (-2148) ((m:Int)-2148):=by
 unfold exV;refine mkS_iv _ _ _ _ _ (.inr ⟨by omega,?_⟩) (by omega) (by omega) (by omega)
 have:=bl_lt_pow hV;omega
theorem ex_fm (V:Int) (m:Nat) (hm:m≤100000) (hV:V.natAbs<2^m):Fm (exV V):=(ex_iv V m hm hV).fm
theorem ex_zero:exV 0=o00:=mkS_zero _ _
end
section
open Go.RowKit
open Go.Proofs.YtblkpkgebigojaaGreatDoor.B (f64bits f64frombits bw)
attribute [local go_sem] f64bits f64frombits
def kd (b:Nat):Nat :=
 if 9218868437227405312<b%9223372036854775808 then 5
 else if b%9223372036854775808=9218868437227405312 then (if b/9223372036854775808=1 then 4 else 3)
 else if b%9223372036854775808=0 then (if b/9223372036854775808=1 then 1 else 2)
 else 0
def kp (k:Nat):Nat:=if k=5 then 0 else if k=3 then 1 else if k=4 then 2 else if k=1 then 3 else if k=2 then 4 else 5
theorem kd_bw (s:Bool) (e f:Nat) (he:e<2048) (hf:f<4503599627370496):kd (bw s e f)=if e=2047 then (if f=0 then (if s then 4 else 3) else 5) else if e=0∧f=0 then (if s then 1 else 2) else 0:=by
 unfold kd bw;have h1:(s.toNat*9223372036854775808+e*4503599627370496+f)%9223372036854775808=e*4503599627370496+f:=by cases s <;> simp only [Bool.toNat_true,Bool.toNat_false] <;> omega
 have h2:(s.toNat*9223372036854775808+e*4503599627370496+f)/9223372036854775808=s.toNat:=by cases s <;> simp only [Bool.toNat_true,Bool.toNat_false] <;> omega
 rw [h1,h2]
 by_cases he2:e=2047
 · subst he2
   rw [if_pos rfl]
   by_cases hf0:f=0
   · subst hf0;cases s <;> simp
   · rw [if_pos (by omega),if_neg hf0]
 · rw [if_neg he2,if_neg (by omega),if_neg (by omega)]
   by_cases h0:e=0∧f=0
   · obtain ⟨rfl,rfl⟩:=h0;cases s <;> simp
   · rw [if_neg (by omega),if_neg h0]
theorem bySign_any (neg:Bool) (a b:Int) (w:World):Calls Tryz.prog 190 #[.bool neg,.int .i64 a,.int .i64 b] w fun r w'=>r=.returned (.int .i64 (if neg then a else b))∧w'=w:=by
 cases neg <;>
 · go_enter Tryz.func190,Tryz.ntmps190
   go_wp2;go_ret;exact ⟨rfl,rfl⟩
theorem kind_any (b:Nat) (hb:b<18446744073709551616) (w:World):Calls Tryz.prog 146 #[.float .f64 b] w fun r w'=>r=.returned (.int .i64 (kp (kd b):Nat))∧Below w.heap.size w w':=by
 obtain ⟨s,e,f,he,hf,rfl⟩:=B.bw_of b hb;rw [kd_bw s e f he hf];have H:=hid (B.Split_any s e f he hf);obtain ⟨x1,hx1⟩:∃ x,B.xp e=x:=⟨_,rfl⟩;obtain ⟨x2,hx2⟩:∃ x,B.fr e f=x:=⟨_,rfl⟩;rw [hx1,hx2] at H;clear hx1 hx2 hb
 by_cases he2:e=2047
 · subst he2
   by_cases hf0:f=0
   · subst hf0
     have hc:B.cls 2047 0=3:=by unfold B.cls;rw [if_pos rfl,if_pos rfl]
     have hg:B.ng s 2047 0=s:=by unfold B.ng;rw [if_neg (by simp)]
     rw [hc,hg] at H;rw [if_pos rfl,if_pos rfl];have HS:=hid (bySign_any s 2 1);obtain ⟨x,hx⟩:∃ x:Int,(if s then 2 else 1)=x:=⟨_,rfl⟩
     rw [hx] at HS;have hk:((kp (if s then 4 else 3):Nat):Int)=x:=by cases s <;> (subst hx;rfl)
     rw [hk];clear hc hg hx hk;go_enter Tryz.func146,Tryz.ntmps146
     go_wp2_with fail
     refine (H.out _).mono ?_;rintro r w1 ⟨rfl,hb1⟩;have HB:=qsd hb1;have hz:=hb1.size;clear hb1
     go_wp2_with fail
     refine (HS.out _).mono ?_;rintro r w2 ⟨rfl,rfl⟩;go_wp2;go_ret;exact ⟨rfl,(HB.out.alloc hz _)⟩
   · have hc:B.cls 2047 f=4:=by unfold B.cls;rw [if_pos rfl,if_neg hf0]
     rw [hc] at H;rw [if_pos rfl,if_neg hf0];obtain ⟨x3,hx3⟩:∃ x,B.ng s 2047 f=x:=⟨_,rfl⟩;rw [hx3] at H;clear hc hx3;go_enter Tryz.func146,Tryz.ntmps146
     go_wp2_with fail
     refine (H.out _).mono ?_;rintro r w1 ⟨rfl,hb1⟩;have HB:=qsd hb1;have hz:=hb1.size;clear hb1;go_wp2;go_ret;exact ⟨rfl,(HB.out.alloc hz _)⟩
 · rw [if_neg he2]
   have hg:B.ng s e f=s:=by unfold B.ng;rw [if_neg (fun h=>he2 h.1)]
   rw [hg] at H
   by_cases h0:e=0∧f=0
   · obtain ⟨rfl,rfl⟩:=h0
     have hc:B.cls 0 0=0:=by unfold B.cls;rw [if_neg (by omega),if_pos rfl,if_pos rfl]
     rw [hc] at H;rw [if_pos ⟨rfl,rfl⟩];have HS:=hid (bySign_any s 3 4);obtain ⟨x,hx⟩:∃ x:Int,(if s then 3 else 4)=x:=⟨_,rfl⟩
     rw [hx] at HS;have hk:((kp (if s then 1 else 2):Nat):Int)=x:=by cases s <;> (subst hx;rfl)
     rw [hk];clear hc hg hx hk;go_enter Tryz.func146,Tryz.ntmps146
     go_wp2_with fail
     refine (H.out _).mono ?_;rintro r w1 ⟨rfl,hb1⟩;have HB:=qsd hb1;have hz:=hb1.size;clear hb1
     go_wp2_with fail
     refine (HS.out _).mono ?_;rintro r w2 ⟨rfl,rfl⟩;go_wp2;go_ret;exact ⟨rfl,(HB.out.alloc hz _)⟩
   · rw [if_neg h0]
     obtain ⟨c,hc,h1,h2,h3⟩:∃ c:Int,B.cls e f=c∧(c==4)=false∧(c==3)=false∧(c==0)=false:=by
      unfold B.cls;rw [if_neg he2]
      by_cases he0:e=0
      · rw [if_pos he0,if_neg (fun h=>h0 ⟨he0,h⟩)];exact ⟨_,rfl,by decide,by decide,by decide⟩
      · rw [if_neg he0];exact ⟨_,rfl,by decide,by decide,by decide⟩
     rw [hc] at H;clear hc hg;go_enter Tryz.func146,Tryz.ntmps146
     go_wp2_with fail
     refine (H.out _).mono ?_;rintro r w1 ⟨rfl,hb1⟩;have HB:=qsd hb1;have hz:=hb1.size;clear hb1;go_wp2;go_ret;exact ⟨rfl,(HB.out.alloc hz _)⟩
end
section
open Go.RowKit J
theorem order_nanL (x y:Nat) (h:9218868437227405312<magW x) (o:Ordering):(FloatKind.f64.format.order x y==some o)=false:=by
 obtain ⟨s,t,hr⟩:=read_nanW x h
 show ((Ieee.double.read x).order (Ieee.double.read y)==some o)=false
 rw [hr];rfl
end
section
open Go.RowKit
theorem close13 {fn:Func}{p:Tmp}(hfn:fn.results=#[.cell p 62]) {w base:World}{tmps:Array Value}{o:Option (Bool×Nat×Int)}{v x y z:Value}{lo:Nat}(h2:tmps.getD p undef=.pointer (some ⟨w.heap.size,0,none⟩))
 (hZ:Bl base w.heap.size 62 [x,y,z]) (hbw:Below w.heap.size w base) (hN:Nt lo base v (dX o)) (hlo:w.heap.size<lo) :
 bodyPost Tryz.prog fn (fun r w'=>∃ v,r=.returned (.agg #[.bool (dN o),v,.int .i64 (dE o)])∧Nt w.heap.size w' v (dX o)∧Below w.heap.size w w') .ret ⟨tmps,[]⟩
  (((base.setCell ⟨w.heap.size,0,none⟩ (.bool (dN o))).setCell ⟨w.heap.size,1,none⟩ v).setCell ⟨w.heap.size,2,none⟩ (.int .i64 (dE o))):=by
 have q:Bl (((base.setCell ⟨w.heap.size,0,none⟩ (.bool (dN o))).setCell ⟨w.heap.size,1,none⟩ v).setCell ⟨w.heap.size,2,none⟩ (.int .i64 (dE o))) w.heap.size 62 [.bool (dN o),v,.int .i64 (dE o)]:=((hZ.set 0 _).set 1 _).set 2 _;have hbut:But w.heap.size base (((base.setCell ⟨w.heap.size,0,none⟩ (.bool (dN o))).setCell ⟨w.heap.size,1,none⟩ v).setCell ⟨w.heap.size,2,none⟩ (.int .i64 (dE o))):=(((But.refl _ _).set 0 _).set 1 _).set 2 _;refine bodyPost_ret (v:=.agg #[.bool (dN o),v,.int .i64 (dE o)]) (row_result hfn _ _ w.heap.size [.bool (dN o),v,.int .i64 (dE o)] h2 q Tryz.row_dyad (by rw [Tryz.size_dyad];rfl)) rfl ?_
 exact ⟨v,rfl,(hN.but7 hbut hlo).mono (by omega),But.below hbw hbut hbw.size (Nat.le_refl _)⟩
theorem HB13:∃ k:Nat,k=4238∧HB=2^k:=⟨4238,rfl,HB_two 4238 rfl⟩
theorem vS_bd {xs:List Nat}(hW:W64 xs) (hl:xs.length≤65536):∃ k:Nat,k=4238∧(vS xs).natAbs<2^k:=by
 obtain ⟨k,hk,e⟩:=HB13;refine ⟨k,hk,?_⟩;rw [←e];have h1:=vS_bound xs hW xs.length (Nat.le_refl _);rw [List.take_length] at h1;have h3:xs.length*QB≤65536*QB:=Nat.mul_le_mul_right _ hl;have h4:=QB_HB;have h5:=QB_pos;omega
theorem vS_fm {xs:List Nat}(hW:W64 xs) (hl:xs.length≤65536):Fm (exV (vS xs)):=by
 obtain ⟨k,hk,h⟩:=vS_bd hW hl;exact ex_fm _ k (by omega) h
theorem exact13 (xs:List Nat) (a:Option Addr) (n c:Nat) (w:World) (hn:n=xs.length) (hF:Fs w.heap.size w a xs) (hW:W64 xs) (hT:Tab w) (hl:n≤65536) :
 Calls Tryz.prog 144 #[.slice a n c] w fun r w'=>∃ v,r=.returned (.agg #[.bool (dN (exV (vS xs))),v,.int .i64 (dE (exV (vS xs)))])∧Nt w.heap.size w' v (dX (exV (vS xs)))∧Below w.heap.size w w':=by
 have HX:=qsd (ai hn (ai hF (ai hW (ai hT hl))));obtain ⟨o,ho⟩:∃ o,o=exV (vS xs):=⟨_,rfl⟩;rw [←ho];have HO:=qsd ho;clear hn hF hW hT ho;obtain ⟨W1,hW1⟩:∃ W,W=w.alloc (.cells #[.bool false,.slice none 0 0,.int .i64 0] 62):=⟨_,rfl⟩
 have H1:Aside (Below w.heap.size w W1∧Bl W1 w.heap.size 62 [.bool false,.slice none 0 0,.int .i64 0]∧W1.heap.size=w.heap.size+1):=by
  subst hW1;exact ⟨bel_alloc _ _,Bl.new _ 62 [_,_,_],by simp⟩
 go_enter Tryz.func144,Tryz.ntmps144
 go_wp2_with fail
 rw [←hW1];clear hW1;refine (New7 W1).mono ?_;rintro r w2 ⟨rfl,hA,hb2⟩;obtain ⟨g,hg⟩:∃ g,g=W1.heap.size:=⟨_,rfl⟩;rw [←hg] at hA ⊢
 have P2:Aside (Bl w2 w.heap.size 62 [.bool false,.slice none 0 0,.int .i64 0]∧Below w.heap.size w w2∧w.heap.size<g∧Acc7 w2 g 0 ⟨0,0,0,0,0,0⟩) :=
  ⟨H1.out.2.1.below hb2 (by have:=H1.out.2.2;omega),H1.out.1.trans (hb2.mono (by have:=H1.out.2.2;omega)),by have:=H1.out.2.2;omega,hA⟩
 clear hb2 hA hg H1;go_wp2
 go_loopg [9] n (fun gk i wr=>∃ k:Nat,gk+k=n∧i=.int .i64 (k:Nat)∧Aside (Acc7 wr g (vS (xs.take k)) (sS (xs.take k))∧Bl wr w.heap.size 62 [.bool false,.slice none 0 0,.int .i64 0]∧Below w.heap.size w wr))
 case atStart=>exact ⟨0,by omega,by simp,by simpa [vS,sS] using P2.out.2.2.2,P2.out.1,P2.out.2.1⟩
 case round =>
  obtain ⟨k,hgk,rfl,HA⟩:=hrel
  by_cases hk:k<n
  · obtain ⟨b,off,rfl,hc⟩:=HX.out.2.1.at HA.out.2.2 k (by rw [←HX.out.1];exact hk)
    obtain ⟨x,hx⟩:∃ x,x=xs.getD k 0:=⟨_,rfl⟩;rw [←hx] at hc
    have C:Hid (Calls Tryz.prog 111 #[.pointer (some ⟨g,0,none⟩),.float .f64 x] wr (Did g wr (0,vS (xs.take (k+1)),sS (xs.take (k+1))))):=by
     have hk2:k<xs.length:=by rw [←HX.out.1];exact hk
     obtain ⟨p1,p2⟩:=sS_pos xs k (by omega)
     obtain ⟨v1,v2⟩:=vS_bound xs HX.out.2.2.1 k (by omega)
     have hx64:x<18446744073709551616:=by rw [hx];exact HX.out.2.2.1.get k
     have hsm:=pT_small x 4607182418800017408 hx64 (by decide)
     have hl:=HX.out.2.2.2.2;have hkq:k*QB≤65536*QB:=Nat.mul_le_mul_right _ (by omega)
     have hQ:=QB_HB;have hqp:=QB_pos;have C:=Add7 g (vS (xs.take k)) (sS (xs.take k)) x wr HA.out.1 (p1.ok (by omega)) hx64
     rw [put_ok _ _ _ _ (by omega) (by omega) (by omega)] at C
     rw [vS_take xs k hk2,sS_take xs k hk2,←hx];exact C
    have hkb:k<4611686018427387904:=by have:=HX.out.2.2.2.2;omega
    clear hx
    go_wp2_with fail
    refine (C.out).mono ?_;rintro r w3 ⟨rfl,hA3,hbut⟩;have H3:=qsd (ai hA3 (ai (HA.out.2.1.but hbut (by have:=P2.out.2.2.1;omega)) (But.below HA.out.2.2 hbut HA.out.2.2.size (by have:=P2.out.2.2.1;omega))))
    clear hA3 hbut C;go_wp2
    go_roundg (gk-1)
    case measure=>omega
    case rel=>exact ⟨k+1,by omega,by first | rfl | simp,H3.out⟩
  · obtain rfl:n=k:=by omega
    have hd:decide ((n:Int)<n)=false:=by simp
    have C:Hid (Calls Tryz.prog 96 #[.pointer (some ⟨g,0,none⟩)] wr fun r w'=>∃ v,r=.returned (.agg #[.bool (dN o),v,.int .i64 (dE o)])∧Nt wr.heap.size w' v (dX o)∧Below wr.heap.size wr w'):=by
     have e:xs.take n=xs:=by rw [List.take_of_length_le];rw [←HX.out.1];omega
     have hA:=HA.out.1;rw [e] at hA;rw [HO.out];exact Exact7 g _ _ wr hA (HX.out.2.2.2.1.belows HA.out.2.2)
    have HL:=qsd (HA.out.2.1.lt)
    go_wp2_with fail
    refine (C.out).mono ?_;rintro r w3 ⟨v,rfl,hN,hb3⟩;obtain ⟨a9,c9,rfl,_⟩:=Lo.shape (q:=o) (by rw [HO.out];exact vS_fm HX.out.2.2.1 (by rw [←HX.out.1];exact HX.out.2.2.2.2)) hN
    have B3:=qsd (ai (HA.out.2.1.below hb3 HL.out) (ai (HA.out.2.2.trans (hb3.mono HA.out.2.2.size)) hN));have z0:=B3.out.1.cell 0 _ rfl;have z1:=B3.out.1.cell 1 _ rfl;have z2:=B3.out.1.cell 2 _ rfl;have f0:=B3.out.1.frozen 0;have f1:=B3.out.1.frozen 1;have f2:=B3.out.1.frozen 2;clear hb3 C hN;go_wp2;refine close13 Tryz.results144 ?_ B3.out.1 B3.out.2.1 B3.out.2.2 (HL.out);rfl
end
section
open Go.RowKit J
theorem LiesG.lies {K:Nat}{t:Bool}{m:Int}{V S:Nat}(h:LiesG vK 9218868437227405312 1 K t m V S):Lies K t m V S:=by
 obtain ⟨h1,h2,h3,h4,h5,h6⟩:=h;simp only [Nat.pow_one] at h3 h4 h5 h6;refine ⟨h1,h2,h3,h4,fun a b=>?_,fun a=>?_⟩
 · have:=h5 a b
   rw [Nat.add_mul] at this;exact this
 · rcases h6 a with q | ⟨q,r⟩
   · exact .inl q
   · exact .inr ⟨by omega,r⟩
theorem ex_parts13 {V:Int}(hV:V≠0) (k:Nat) (hk:k≤90000) (hb:V.natAbs<2^k):∃ X e,exV V=some (decide (V<0),X,e)∧X%2=1∧-2148≤e∧e≤100000∧X*2^(e+2148).toNat=V.natAbs∧bl X≤262144∧Frm (decide (V<0)) X e:=by
 obtain ⟨n,X,e,ho,F,hx⟩:=ex_iv V k (by omega) hb
 have hm:mkS (decide (V<0)) V.natAbs (-2148)=some (n,X,e):=ho;have hz:=zv_mkS hm (-2148) (.inr (by omega))
 unfold zv at hz;simp only at hz;rw [show ((-2148:Int) - -2148).toNat=0 by decide,Nat.pow_zero,Nat.mul_one] at hz
 have hX0:X≠0:=by
  rintro rfl;simp [sg1] at hz
  split at hz <;> omega
 have hp:0<X*2^(e - -2148).toNat:=Nat.mul_pos (by omega) (Nat.two_pow_pos _)
 rcases hx with h|⟨h1,h2⟩
 · exact absurd h hX0
 have hn:n=decide (V<0):=by
  by_cases hs:V<0
  · rw [decide_eq_true hs] at hz ⊢
    cases n with
    | true=>rfl
    | false=>simp only [sg1,if_true,Bool.false_eq_true,if_false] at hz;omega
  · rw [decide_eq_false hs] at hz ⊢
    cases n with
    | false=>rfl
    | true=>simp only [sg1,if_true,Bool.false_eq_true,if_false] at hz;omega
 rw [hn] at hz ho F
 have hv:X*2^(e - -2148).toNat=V.natAbs:=by
  by_cases hs:V<0
  · rw [decide_eq_true hs] at hz;simp only [sg1,if_true] at hz;omega
  · rw [decide_eq_false hs] at hz;simp only [sg1,Bool.false_eq_true,if_false] at hz;omega
 refine ⟨X,e,ho,?_,h1,by omega,?_,by omega,F⟩
 · rcases F.odd with q | q
   · exact q
   · exact absurd q.1 hX0
 · rw [show (e+2148).toNat=(e - -2148).toNat by congr 1]
   exact hv
theorem int_ex (N:Nat) (k:Nat) (hk:k=2148):exV ((N:Int)*((2^k:Nat):Int))=mkS false N 0:=by
 unfold exV;rw [←Int.natCast_mul,decide_eq_false (by omega),Int.natAbs_natCast,Nat.mul_comm,mkS_pow11]
 congr 1
 omega
end
end Go.Proofs.YtblkpkgebigojaaGreatDoor
