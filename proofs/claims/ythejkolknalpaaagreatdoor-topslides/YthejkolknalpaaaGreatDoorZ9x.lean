import Derived.Test.YthejkolknalpaaaGreatDoorW36x
import Derived.Test.YthejkolknalpaaaGreatDoorD30x
import Derived.Deep.OwnRows
import Derived.Deep.LoopGhost
import Derived.Deep.RegionHeld3
import Derived.Test.YthejkolknalpaaaGreatDoorD16x
import Derived.Test.YthejkolknalpaaaGreatDoorD21x
import Derived.Deep.Cut
import Derived.Test.YthejkolknalpaaaGreatDoorP2x
import Derived.Test.YthejkolknalpaaaGreatDoorS11ax
import Derived.Test.YthejkolknalpaaaGreatDoorBIeeex
import Derived.Laws.FloatArith
import Derived.Test.YthejkolknalpaaaGreatDoorD14x
import Derived.BigQuiet
import Derived.Deep.RegionWith
import Derived.Deep.CutRange
import Derived.Test.YthejkolknalpaaaGreatDoorSL6x
import Derived.Test.YthejkolknalpaaaGreatDoorM1x
import Derived.ProofKit
import Derived.OpenShut
import Derived.ChangeOld
import Derived.ChangeArms
import Derived.SizedLaws
import Derived.Laws.Cover2
import Derived.OwnWalk
import Derived.ArgAppend
import Derived.Maps.AppendAt
import Derived.WalkMore
import Derived.Laws.OwnMore
import Derived.Test.YthejkolknalpaaaGreatDoorW14x
import Derived.Test.YthejkolknalpaaaGreatDoorW24x
import Derived.KernelRfl
set_option linter.unusedVariables false
set_option linter.unusedSimpArgs false
set_option maxHeartbeats 16000000
set_option maxRecDepth 20000
namespace Go.Proofs.YthejkolknalpaaaGreatDoor
namespace J
end J
section
open Go.RowKit
theorem infoR:(Tryz.prog.info? 110).map (fun i=>(i.zero,i.size,i.bytes))=some (some (.agg #[.bool false,.slice none 0 0,.int .i64 0,.bool false,.slice none 0 0,.int .i64 0]),6,80):=by kernel_rfl
theorem make_ratios1 (w:World) :
 (Instr.makeSlice 156 (.int .i64 1) (.int .i64 1)).run Tryz.prog w=.ok (.slice (some ⟨w.heap.size,0,none⟩) 1 1) (w.alloc (.cells #[.bool false,.slice none 0 0,.int .i64 0,.bool false,.slice none 0 0,.int .i64 0] 110)):=by
 have h:=infoR;have e:IntKind.i64.wrap 1=1:=by decide
 cases hq:Tryz.prog.info? 110 with
 | none=>rw [hq] at h;simp at h
 | some i =>
   rw [hq] at h;simp at h;simp [Instr.makeSlice,go_sem,Tryz.underlying156,hq,h,typeInfo,e]
structure Ri where
 n:Bool
 v:Value
 X:Nat
 e:Int
 m:Bool
 u:Value
 Y:Nat
 f:Int
def Av (w:World) (v:Value) (X:Nat):Prop:=∃ a l c xs,v=.slice a l c∧Arg w a l c xs∧val xs=X
theorem Av.below {w w':World}{v:Value}{X:Nat}(h:Av w v X) (hb:Below w.heap.size w w'):Av w' v X:=by
 obtain ⟨a,l,c,xs,rfl,hA,hv⟩:=h;exact ⟨a,l,c,xs,rfl,hA.below hb,hv⟩
theorem Nt.av {lo:Nat}{w:World}{v:Value}{X:Nat}(h:Nt lo w v X) (hs:(ws X).length≤35184372088832):Av w v X:=by
 obtain ⟨a,c,rfl,hA⟩:=h.arg hs;exact ⟨a,_,c,_,rfl,hA,val_ws X⟩
def Row6 (w:World) (g k:Nat) (I:Nat→Ri):Prop:=∃ cur:Array Value,w.heap[g]?=some (.cells cur 110 (0,0))∧∀ i,i<k→cur[i*6]?=some (.bool (I i).n)∧cur[i*6+1]?=some (I i).v∧cur[i*6+2]?=some (.int .i64 (I i).e)∧cur[i*6+3]?=some (.bool (I i).m)∧cur[i*6+4]?=some (I i).u∧cur[i*6+5]?=some (.int .i64 (I i).f)
theorem Row6.lt {w:World}{g k:Nat}{I:Nat→Ri}(h:Row6 w g k I):g<w.heap.size:=by obtain ⟨c,h,_⟩:=h;exact (Array.getElem?_eq_some_iff.1 h).1
theorem Row6.below {w w':World}{g k:Nat}{I:Nat→Ri}(h:Row6 w g k I) (hb:Below w.heap.size w w'):Row6 w' g k I:=by
 have hl:=h.lt;obtain ⟨c,h,r⟩:=h;exact ⟨c,by rw [hb.block g hl];exact h,r⟩
theorem Row6.facts {w:World}{g k:Nat}{I:Nat→Ri}(h:Row6 w g k I) (i:Nat) (hi:i<k) :
 w.cell? ⟨g,i*6,none⟩=some (.bool (I i).n)∧w.cell? ⟨g,i*6+1,none⟩=some (I i).v∧w.cell? ⟨g,i*6+2,none⟩=some (.int .i64 (I i).e)∧w.cell? ⟨g,i*6+3,none⟩=some (.bool (I i).m)∧w.cell? ⟨g,i*6+4,none⟩=some (I i).u∧w.cell? ⟨g,i*6+5,none⟩=some (.int .i64 (I i).f):=by
 obtain ⟨c,h,r⟩:=h;obtain ⟨r0,r1,r2,r3,r4,r5⟩:=r i hi;simp [World.cell?,h,r0,r1,r2,r3,r4,r5]
def errL (I:Nat→Ri) (k:Nat):Int :=
 if (List.range k).any (fun i=>decide (sgn (I i).m (I i).Y<0)) then 1
 else if (List.range k).any (fun i=>!((mkS (I i).n (I i).X (I i).e).isSome&&(mkS (I i).m (I i).Y (I i).f).isSome)) then 2
 else if (List.range k).any (fun i=>decide (dX (mkS (I i).m (I i).Y (I i).f)=0)) then 21 else 0
theorem any_of {k i:Nat}{p:Nat→Bool}(hi:i<k) (h:p i=true):(List.range k).any p=true:=List.any_eq_true.2 ⟨i,List.mem_range.2 hi,h⟩
theorem any_no {k:Nat}{p:Nat→Bool}(h:∀ i,i<k→p i=false):(List.range k).any p=false:=by
 rw [List.any_eq_false];intro i hi;rw [h i (List.mem_range.1 hi)];simp
structure RIn (w:World) (g k:Nat) (I:Nat→Ri):Prop where
 row:Row6 w g k I
 one:∀ i,i<k→Av w (I i).v (I i).X∧Av w (I i).u (I i).Y
 rng:∀ i,i<k→-9223372036854775808≤(I i).e∧(I i).e≤9223372036854775807∧-9223372036854775808≤(I i).f∧(I i).f≤9223372036854775807
 tab:Tab w
theorem RIn.below {w w':World}{g k:Nat}{I:Nat→Ri}(h:RIn w g k I) (hb:Below w.heap.size w w'):RIn w' g k I :=
 ⟨h.row.below hb,fun i hi=>⟨(h.one i hi).1.below hb,(h.one i hi).2.below hb⟩,h.rng,h.tab.belows hb⟩
def frmI (I:Nat→Ri) (V:Nat→Value×Value) (i:Nat):Ri :=
 ⟨dN (mkS (I i).n (I i).X (I i).e),(V i).1,dX (mkS (I i).n (I i).X (I i).e),dE (mkS (I i).n (I i).X (I i).e),dN (mkS (I i).m (I i).Y (I i).f),(V i).2,dX (mkS (I i).m (I i).Y (I i).f),dE (mkS (I i).m (I i).Y (I i).f)⟩
structure ROut (lo:Nat) (w:World) (g k:Nat) (I:Nat→Ri) (V:Nat→Value×Value):Prop where
 row:Row6 w g k (frmI I V)
 own:lo≤g
 nts:∀ i,i<k→Nt lo w (V i).1 (dX (mkS (I i).n (I i).X (I i).e))∧Nt lo w (V i).2 (dX (mkS (I i).m (I i).Y (I i).f))
theorem ROut.below {lo:Nat}{w w':World}{g k:Nat}{I:Nat→Ri}{V:Nat→Value×Value}(h:ROut lo w g k I V) (hb:Below w.heap.size w w'):ROut lo w' g k I V :=
 ⟨h.row.below hb,h.own,fun i hi=>⟨(h.nts i hi).1.below hb,(h.nts i hi).2.below hb⟩⟩
abbrev st6o (w:World) (g o:Nat) (a b c d e f:Value):World:=(((((w.setCell ⟨g,o,none⟩ a).setCell ⟨g,o+1,none⟩ b).setCell ⟨g,o+2,none⟩ c).setCell ⟨g,o+3,none⟩ d).setCell ⟨g,o+4,none⟩ e).setCell ⟨g,o+5,none⟩ f
theorem st6o_but (g o:Nat) (w:World) (a b c d e f:Value):But g w (st6o w g o a b c d e f):=((((((But.refl g w).set _ _).set _ _).set _ _).set _ _).set _ _).set _ _
theorem setc {w:World}{g T:Nat}{cur:Array Value}{fz:Nat×Nat}(h:w.heap[g]?=some (.cells cur T fz)) (o:Nat) (v:Value):(w.setCell ⟨g,o,none⟩ v).heap[g]?=some (.cells (cur.setIfInBounds o v) T fz):=by
 simp [World.setCell,Array.getElem?_modify,h]
theorem st6o_cells {w:World}{g T:Nat}{cur:Array Value}{fz:Nat×Nat}(h:w.heap[g]?=some (.cells cur T fz)) (o:Nat) (a b c d e f:Value) (ho:o+5<cur.size) :
 ∃ cur',(st6o w g o a b c d e f).heap[g]?=some (.cells cur' T fz)∧cur'.size=cur.size∧(cur'[o]?=some a∧cur'[o+1]?=some b∧cur'[o+2]?=some c∧cur'[o+3]?=some d∧cur'[o+4]?=some e∧cur'[o+5]?=some f)∧∀ j,(j<o∨o+5<j)→cur'[j]?=cur[j]?:=by
 refine ⟨_,setc (setc (setc (setc (setc (setc h o a) (o+1) b) (o+2) c) (o+3) d) (o+4) e) (o+5) f,by simp,?_,?_⟩
 · simp [Array.getElem?_setIfInBounds]
   omega
 · intro j hj
   have n0:o≠j:=by omega
   have n1:o+1≠j:=by omega
   have n2:o+2≠j:=by omega
   have n3:o+3≠j:=by omega
   have n4:o+4≠j:=by omega
   have n5:o+5≠j:=by omega
   simp [Array.getElem?_setIfInBounds,n0,n1,n2,n3,n4,n5]
structure RPart (lo:Nat) (w:World) (g k i:Nat) (I:Nat→Ri) (V:Nat→Value×Value):Prop where
 row:∃ cur:Array Value,w.heap[g]?=some (.cells cur 110 (0,0))∧cur.size=6*k∧∀ j,j<i→cur[j*6]?=some (.bool (frmI I V j).n)∧cur[j*6+1]?=some (frmI I V j).v∧cur[j*6+2]?=some (.int .i64 (frmI I V j).e)∧cur[j*6+3]?=some (.bool (frmI I V j).m)∧cur[j*6+4]?=some (frmI I V j).u∧cur[j*6+5]?=some (.int .i64 (frmI I V j).f)
 own:lo≤g
 nts:∀ j,j<i→Nt lo w (V j).1 (dX (mkS (I j).n (I j).X (I j).e))∧Nt lo w (V j).2 (dX (mkS (I j).m (I j).Y (I j).f))
theorem RPart.lt {lo:Nat}{w:World}{g k i:Nat}{I:Nat→Ri}{V:Nat→Value×Value}(h:RPart lo w g k i I V):g<w.heap.size:=by obtain ⟨c,h,_⟩:=h.row;exact (Array.getElem?_eq_some_iff.1 h).1
theorem RPart.below {lo:Nat}{w w':World}{g k i:Nat}{I:Nat→Ri}{V:Nat→Value×Value}(h:RPart lo w g k i I V) (hb:Below w.heap.size w w'):RPart lo w' g k i I V:=by
 have hl:=h.lt;obtain ⟨⟨c,h1,r⟩,h2,h3⟩:=h;exact ⟨⟨c,by rw [hb.block g hl];exact h1,r⟩,h2,fun j hj=>⟨(h3 j hj).1.below hb,(h3 j hj).2.below hb⟩⟩
theorem RPart.room {lo:Nat}{w:World}{g k i:Nat}{I:Nat→Ri}{V:Nat→Value×Value}(h:RPart lo w g k i I V) (j:Nat) (hj:j<6*k):(∃ v,w.cell? ⟨g,j,none⟩=some v)∧w.frozen? ⟨g,j,none⟩=false:=by
 obtain ⟨⟨c,h1,hs,r⟩,h2,h3⟩:=h;refine ⟨⟨c[j]'(by omega),?_⟩,?_⟩
 · simp [World.cell?,h1]
 · simp [World.frozen?,h1]
theorem RPart.out {lo:Nat}{w:World}{g k:Nat}{I:Nat→Ri}{V:Nat→Value×Value}(h:RPart lo w g k k I V):ROut lo w g k I V:=by
 obtain ⟨⟨c,h1,hs,r⟩,h2,h3⟩:=h;exact ⟨⟨c,h1,r⟩,h2,h3⟩
theorem RPart.step {lo:Nat}{w:World}{g k i:Nat}{I:Nat→Ri}{V:Nat→Value×Value}(h:RPart lo w g k i I V) (hi:i<k) (v u:Value)
 (hv:Nt lo w v (dX (mkS (I i).n (I i).X (I i).e))) (hu:Nt lo w u (dX (mkS (I i).m (I i).Y (I i).f))) :
 ∃ V',RPart lo (st6o w g (i*6) (.bool (dN (mkS (I i).n (I i).X (I i).e))) v (.int .i64 (dE (mkS (I i).n (I i).X (I i).e))) (.bool (dN (mkS (I i).m (I i).Y (I i).f))) u (.int .i64 (dE (mkS (I i).m (I i).Y (I i).f)))) g k (i+1) I V':=by
 obtain ⟨⟨c,h1,hs,r⟩,h2,h3⟩:=h;obtain ⟨c',k1,k2,k3,k4⟩:=st6o_cells h1 (i*6) (.bool (dN (mkS (I i).n (I i).X (I i).e))) v (.int .i64 (dE (mkS (I i).n (I i).X (I i).e))) (.bool (dN (mkS (I i).m (I i).Y (I i).f))) u (.int .i64 (dE (mkS (I i).m (I i).Y (I i).f))) (by omega)
 refine ⟨fun j=>if j=i then (v,u) else V j,⟨c',k1,by omega,fun j hj=>?_⟩,h2,fun j hj=>?_⟩
 · by_cases e:j=i
   · subst e
     simp only [frmI,if_true];exact k3
   · have:=r j (by omega)
     rw [k4 _ (by omega),k4 _ (by omega),k4 _ (by omega),k4 _ (by omega),k4 _ (by omega),k4 _ (by omega)]
     simp only [frmI,if_neg e] at this ⊢;exact this
 · by_cases e:j=i
   · subst e
     simp only [if_true];exact ⟨hv.off (st6o_but _ _ _ _ _ _ _ _ _) (hv.notin (by decide) h1),hu.off (st6o_but _ _ _ _ _ _ _ _ _) (hu.notin (by decide) h1)⟩
   · simp only [if_neg e]
     obtain ⟨q1,q2⟩:=h3 j (by omega)
     exact ⟨q1.off (st6o_but _ _ _ _ _ _ _ _ _) (q1.notin (by decide) h1),q2.off (st6o_but _ _ _ _ _ _ _ _ _) (q2.notin (by decide) h1)⟩
theorem sgnD {w:World}{n:Bool}{v:Value}{X:Nat}{e:Int}(h:Av w v X):Calls Tryz.prog 34 #[.agg #[.bool n,v,.int .i64 e]] w fun r w'=>r=.returned (.int .i64 (sgn n X))∧Below w.heap.size w w':=by
 obtain ⟨a,l,c,xs,rfl,hA,rfl⟩:=h;exact Sign_any3 hA n e
theorem formD {w:World}{r:Ri}(h1:Av w r.v r.X) (h2:Av w r.u r.Y) (hT:Tab w) (b0:-9223372036854775808≤r.e) (b1:r.e≤9223372036854775807) (b2:-9223372036854775808≤r.f) (b3:r.f≤9223372036854775807) :
 Calls Tryz.prog 138 #[.agg #[.bool r.n,r.v,.int .i64 r.e,.bool r.m,r.u,.int .i64 r.f]] w fun q w' =>
  (((mkS r.n r.X r.e).isSome&&(mkS r.m r.Y r.f).isSome)=true→∃ v u,q=.returned (.tuple #[.agg #[.bool (dN (mkS r.n r.X r.e)),v,.int .i64 (dE (mkS r.n r.X r.e)),.bool (dN (mkS r.m r.Y r.f)),u,.int .i64 (dE (mkS r.m r.Y r.f))],.int .i64 0])∧Nt w.heap.size w' v (dX (mkS r.n r.X r.e))∧Nt w.heap.size w' u (dX (mkS r.m r.Y r.f))∧Ap v u) ∧
  (((mkS r.n r.X r.e).isSome&&(mkS r.m r.Y r.f).isSome)=false→q=.returned (.tuple #[.agg #[.bool false,.slice none 0 0,.int .i64 0,.bool false,.slice none 0 0,.int .i64 0],.int .i64 2]))∧Below w.heap.size w w':=by
 obtain ⟨n,v,X,e,m,u,Y,f⟩:=r;simp only at *;obtain ⟨a,l,c,xs,rfl,hA,rfl⟩:=h1;obtain ⟨b,k,d,ys,rfl,hB,rfl⟩:=h2;have l1:=mkS_len n (val xs) e;have l2:=mkS_len m (val ys) f;have H1:∀ u,Below w.heap.size w u→Calls Tryz.prog 63 #[.bool n,.slice a l c,.int .i64 e] u fun r w'=>DAns u.heap.size w' r (mkS n (val xs) e)∧Below u.heap.size u w':=fun u hu=>Make_any (hA.below hu) (hT.belows hu) n e b0 b1
 have H2:∀ u,Below w.heap.size w u→Calls Tryz.prog 63 #[.bool m,.slice b k d,.int .i64 f] u fun r w'=>DAns u.heap.size w' r (mkS m (val ys) f)∧Below u.heap.size u w':=fun u hu=>Make_any (hB.below hu) (hT.belows hu) m f b2 b3
 simp only [DAns] at H1 H2;generalize mkS n (val xs) e=o at *;generalize mkS m (val ys) f=p at *
 cases ho:o.isSome with
 | false =>
   have he:erS o=2:=by unfold erS;rw [ho];rfl
   rw [he] at H1;refine (form_bad1 n m e f (dN o) false (dX o) 0 (dE o) 0 l1 (by rw [ws0];omega) H1).mono ?_
   rintro r w' ⟨⟨v,u,h,rfl,rfl⟩,hb⟩;exact ⟨fun hh=>(by cases hh),fun _=>h,hb⟩
 | true =>
   have he:erS o=0:=by unfold erS;rw [ho];rfl
   rw [he] at H1
   cases hp:p.isSome with
   | false =>
     have he:erS p=2:=by unfold erS;rw [hp];rfl
     rw [he] at H2;refine (form_bad2 n m e f (dN o) (dN p) (dX o) (dX p) (dE o) (dE p) l1 l2 H1 H2).mono ?_;rintro r w' ⟨⟨v,u,h,rfl,rfl⟩,hb⟩;exact ⟨fun hh=>(by cases hh),fun _=>h,hb⟩
   | true =>
     have he:erS p=0:=by unfold erS;rw [hp];rfl
     rw [he] at H2;refine (form_ok n m e f (dN o) (dN p) (dX o) (dX p) (dE o) (dE p) l1 l2 H1 H2).mono ?_;rintro r w' ⟨⟨v,u,h,hN,hM,hap⟩,hb⟩;exact ⟨fun _=>⟨v,u,h,hN,hM,hap⟩,fun hh=>(by cases hh),hb⟩
theorem forms1 (w:World) (g:Nat) (I:Nat→Ri) (h:RIn w g 1 I) :
 Calls Tryz.prog 116 #[.slice (some ⟨g,0,none⟩) 1 1] w fun r w' =>
  ((errL I 1≠0∧r=.returned (.tuple #[.slice none 0 0,.int .i64 (errL I 1)])) ∨
   (errL I 1=0∧∃ g' V,r=.returned (.tuple #[.slice (some ⟨g',0,none⟩) 1 1,.int .i64 0])∧ROut w.heap.size w' g' 1 I V))∧Below w.heap.size w w':=by
 have MK:=make_ratios1;have hH:=qsd h;clear h;go_enter Tryz.func116,Tryz.ntmps116
 go_wp2_with fail
 go_loopg [15] 1 (fun gk iv wr=>∃ i:Nat,gk+i=1∧iv=.int .i64 (i:Nat)∧Aside (Below w.heap.size w wr∧∀ j,j<i→decide (sgn (I j).m (I j).Y<0)=false))
 case atStart=>exact ⟨0,by omega,rfl,Below.refl _ _,fun j hj=>by omega⟩
 case round =>
  obtain ⟨i,hgi,rfl,HR⟩:=hrel
  by_cases hi:i<1
  · have hin:=hH.out.below HR.out.1
    obtain ⟨g0,g1,g2,g3,g4,g5⟩:=hin.row.facts i hi;obtain ⟨A1,A2⟩:=hin.one i hi;obtain ⟨n,v,X,e,m,u,Y,f,hI⟩:∃ n v X e m u Y f,I i=⟨n,v,X,e,m,u,Y,f⟩:=⟨_,_,_,_,_,_,_,_,rfl⟩;rw [hI] at g0 g1 g2 g3 g4 g5 A1 A2;simp only at g0 g1 g2 g3 g4 g5 A1 A2;obtain ⟨a1,l1,c1,xs,rfl,-,-⟩:=id A1;obtain ⟨a2,l2,c2,ys,rfl,-,-⟩:=id A2;obtain ⟨U,hU⟩:∃ U,U=wr.alloc (.cells #[.bool n,.slice a1 l1 c1,.int .i64 e,.bool m,.slice a2 l2 c2,.int .i64 f] 110):=⟨_,rfl⟩;have hbU:Below wr.heap.size wr U:=by rw [hU];exact below_alloc _ _
    have RQ:Rq U wr.heap.size n (.slice a1 l1 c1) e m (.slice a2 l2 c2) f:=by rw [hU];exact Rq.new _ _ _ _ _ _ _
    obtain ⟨x0,x1,x2,x3,x4,x5⟩:=RQ.facts;have HC:=hid (sgnD (n:=m) (e:=f) (A2.below hbU));obtain ⟨s,hs⟩:∃ s,sgn m Y=s:=⟨_,rfl⟩;rw [hs] at HC;have SI:=(qsd (ai (HR.out.1.trans (hbU.mono HR.out.1.size)) (ai HR.out.2 (ai hI (ai hs hi)))));clear hbU RQ A1 A2 hin HR hI hs;have hli:(i:Int)<1:=by omega
    have hl0:(0:Int)≤(i:Int):=by omega
    go_upto_region 4 with fail
    rw [←hU];clear hU g0 g1 g2 g3 g4 g5
    go_wp2_with fail
    clear x0 x1 x2 x3 x4 x5;refine HC.out.mono ?_;rintro r u1 ⟨rfl,hb⟩;have S2:=qsd (SI.out.1.trans (hb.mono SI.out.1.size));clear hb HC
    by_cases hneg:s<0
    · have hn:=decide_eq_true hneg
      go_wp2_with fail
      go_ret2
      obtain ⟨_,hbef,hI,hs,hi⟩:=SI.out
      have hE:errL I 1=1:=by
       unfold errL;rw [if_pos (any_of hi (by rw [hI];simp only;rw [hs];exact decide_eq_true hneg))]
      rw [hE];exact ⟨.inl ⟨by decide,rfl⟩,S2.out⟩
    · have hn:decide (s<0)=false:=decide_eq_false (by omega)
      go_wp2_with fail
      go_roundg (1-(i+1))
      case measure=>omega
      case rel =>
       obtain ⟨_,hbef,hI,hs,hi⟩:=SI.out;refine ⟨i+1,by omega,by go_num,S2.out,fun j hj=>?_⟩
       by_cases hji:j=i
       · subst hji;rw [hI];simp only;rw [hs];exact decide_eq_false (by omega)
       · exact hbef j (by omega)
  · obtain rfl:i=1:=by omega
    obtain ⟨M,hM⟩:∃ M,M=wr.alloc (.cells #[.bool false,.slice none 0 0,.int .i64 0,.bool false,.slice none 0 0,.int .i64 0] 110):=⟨_,rfl⟩;have hbM:Below wr.heap.size wr M:=by rw [hM];exact below_alloc _ _
    have hpM:RPart w.heap.size M wr.heap.size 1 0 I (fun _=>(.slice none 0 0,.slice none 0 0)):=by
     rw [hM];exact ⟨⟨_,heap_alloc_new _ _,rfl,fun j hj=>by omega⟩,HR.out.1.size,fun j hj=>by omega⟩
    have S1:=(qsd (ai HR.out.2 (ai hpM (HR.out.1.trans (hbM.mono HR.out.1.size)))));obtain ⟨gO,hgO⟩:∃ gO,gO=wr.heap.size:=⟨_,rfl⟩;clear HR hbM hpM hi hgi
    go_upto_region 9 with fail
    rw [←hM];rw [←hgO] at S1 ⊢;clear hM hgO
    go_loopg [29] 1 (fun gk iv wr=>∃ i:Nat,gk+i=1∧iv=.int .i64 (i:Nat)∧Aside (Below w.heap.size w wr∧(∀ j,j<i→((mkS (I j).n (I j).X (I j).e).isSome&&(mkS (I j).m (I j).Y (I j).f).isSome)=true)∧∃ V,RPart w.heap.size wr gO 1 i I V))
    case atStart=>exact ⟨0,by omega,rfl,S1.out.2.2,fun j hj=>by omega,_,S1.out.2.1⟩
    case round =>
     obtain ⟨i,hgi,rfl,HR⟩:=hrel;have SS:=qsd S1.out.1;clear S1
     by_cases hi:i<1
     · obtain ⟨bel,hbef,V,hP⟩:=HR.out
       have hin:=hH.out.below bel;obtain ⟨g0,g1,g2,g3,g4,g5⟩:=hin.row.facts i hi;obtain ⟨A1,A2⟩:=hin.one i hi;obtain ⟨b0,b1,b2,b3⟩:=hin.rng i hi;have hFD:=fun (u:World) (hb:Below wr.heap.size wr u)=>formD (r:=I i) (A1.below hb) (A2.below hb) ((hin.below hb).tab) b0 b1 b2 b3
       obtain ⟨n,v,X,e,m,u,Y,f,hI⟩:∃ n v X e m u Y f,I i=⟨n,v,X,e,m,u,Y,f⟩:=⟨_,_,_,_,_,_,_,_,rfl⟩;rw [hI] at g0 g1 g2 g3 g4 g5 A1 A2 hFD;simp only at g0 g1 g2 g3 g4 g5 A1 A2 hFD;obtain ⟨a1,l1,c1,xs,rfl,-,-⟩:=id A1;obtain ⟨a2,l2,c2,ys,rfl,-,-⟩:=id A2;obtain ⟨U,hU⟩:∃ U,U=wr.alloc (.cells #[.bool n,.slice a1 l1 c1,.int .i64 e,.bool m,.slice a2 l2 c2,.int .i64 f] 110):=⟨_,rfl⟩;have hbU:Below wr.heap.size wr U:=by rw [hU];exact below_alloc _ _
       have RQ:Rq U wr.heap.size n (.slice a1 l1 c1) e m (.slice a2 l2 c2) f:=by rw [hU];exact Rq.new _ _ _ _ _ _ _
       obtain ⟨x0,x1,x2,x3,x4,x5⟩:=RQ.facts;have HC:=hid (hFD U hbU);have lo1:=mkS_len n X e;have lo2:=mkS_len m Y f;obtain ⟨o,ho⟩:∃ o,mkS n X e=o:=⟨_,rfl⟩;obtain ⟨p,hp⟩:∃ p,mkS m Y f=p:=⟨_,rfl⟩;rw [ho,hp] at HC;rw [ho] at lo1;rw [hp] at lo2;have SI:=(qsd (ai (bel.trans (hbU.mono bel.size)) (ai hbef (ai hI (ai ho (ai hp (ai hi (hP.below hbU))))))));clear hbU RQ A1 A2 hin HR hI ho hp bel hbef hP hFD b0 b1 b2 b3;have hli:(i:Int)<1:=by omega
       have hl0:(0:Int)≤(i:Int):=by omega
       go_upto_region 11 with fail
       rw [←hU];clear hU g0 g1 g2 g3 g4 g5
       go_wp2_with fail
       clear x0 x1 x2 x3 x4 x5;refine HC.out.mono ?_;rintro r u1 ⟨h1,h2,hb⟩;clear HC
       cases hok:(o.isSome&&p.isSome) with
       | false =>
         obtain rfl:=h2 hok;have S2:=qsd (SI.out.1.trans (hb.mono SI.out.1.size));clear h1 h2 hb
         go_wp2_with fail
         go_ret2
         obtain ⟨_,hbef,hI,ho,hp,hi,_⟩:=SI.out
         have hE:errL I 1=2:=by
          unfold errL;rw [any_no (p:=fun i=>decide (sgn (I i).m (I i).Y<0)) SS.out,if_neg Bool.false_ne_true,if_pos (any_of hi (by rw [hI];simp only;rw [ho,hp,hok];rfl))]
         rw [hE];exact ⟨.inl ⟨by decide,rfl⟩,S2.out.alloc S2.out.size _⟩
       | true =>
         obtain ⟨v1,v2,rfl,hN,hM2,-⟩:=h1 hok;obtain ⟨p1,q1,rfl,_⟩:=hN.arg (by omega)
         obtain ⟨p2,q2,rfl,_⟩:=hM2.arg (by omega)
         obtain ⟨U2,hU2⟩:∃ U,U=u1.alloc (.cells #[.bool (dN o),.slice p1 (ws (dX o)).length q1,.int .i64 (dE o),.bool (dN p),.slice p2 (ws (dX p)).length q2,.int .i64 (dE p)] 110):=⟨_,rfl⟩;have hbU:Below u1.heap.size u1 U2:=by rw [hU2];exact below_alloc _ _
         have RQ:Rq U2 u1.heap.size (dN o) (.slice p1 (ws (dX o)).length q1) (dE o) (dN p) (.slice p2 (ws (dX p)).length q2) (dE p):=by rw [hU2];exact Rq.new _ _ _ _ _ _ _
         obtain ⟨x0,x1,x2,x3,x4,x5⟩:=RQ.facts;have hP2:=(SI.out.2.2.2.2.2.2.below hb).below hbU;have hb2:=(SI.out.1.trans (hb.mono SI.out.1.size)).trans (hbU.mono (Nat.le_trans SI.out.1.size hb.size));obtain ⟨⟨y0,r0⟩,f0⟩:=hP2.room (i*6) (by omega)
         obtain ⟨⟨y1,r1⟩,f1⟩:=hP2.room (i*6+1) (by omega)
         obtain ⟨⟨y2,r2⟩,f2⟩:=hP2.room (i*6+2) (by omega)
         obtain ⟨⟨y3,r3⟩,f3⟩:=hP2.room (i*6+3) (by omega)
         obtain ⟨⟨y4,r4⟩,f4⟩:=hP2.room (i*6+4) (by omega)
         obtain ⟨⟨y5,r5⟩,f5⟩:=hP2.room (i*6+5) (by omega)
         obtain ⟨W',hW'⟩:∃ W',W'=st6o U2 gO (i*6) (.bool (dN o)) (.slice p1 (ws (dX o)).length q1) (.int .i64 (dE o)) (.bool (dN p)) (.slice p2 (ws (dX p)).length q2) (.int .i64 (dE p)):=⟨_,rfl⟩
         have S3:Aside (Below w.heap.size w W'∧(∀ j,j<i+1→((mkS (I j).n (I j).X (I j).e).isSome&&(mkS (I j).m (I j).Y (I j).f).isSome)=true)∧∃ V,RPart w.heap.size W' gO 1 (i+1) I V):=by
          obtain ⟨_,hbef,hI,ho,hp,hi,_⟩:=SI.out;refine ⟨?_,?_,?_⟩
          · rw [hW'];exact But.below hb2 (st6o_but _ _ _ _ _ _ _ _ _) hb2.size hP2.own
          · intro j hj
            by_cases e:j=i
            · subst e;rw [hI];simp only;rw [ho,hp,hok]
            · exact hbef j (by omega)
          · have hsz:=SI.out.1.size
            have:=hP2.step hi (.slice p1 (ws (dX o)).length q1) (.slice p2 (ws (dX p)).length q2) (by rw [hI];simp only;rw [ho];exact (hN.below hbU).mono hsz) (by rw [hI];simp only;rw [hp];exact (hM2.below hbU).mono hsz)
            rw [hI] at this;simp only at this;rw [ho,hp,←hW'] at this;exact this
         have neq:u1.heap.size≠gO:=by have:=(SI.out.2.2.2.2.2.2.below hb).lt;omega
         clear h1 h2 hb hN hM2 hbU RQ hP2 hb2 SI
         go_upto_region 12 with fail
         rw [←hU2];clear hU2
         go_wp2_with fail
         unfold st6o at hW'
         go_roundg (1-(i+1))
         case measure=>omega
         case rel =>
          refine ⟨i+1,by omega,by go_num,?_⟩
          first | rw [←hW'] | (rw [hW'] at S3)
          exact S3
     · obtain rfl:i=1:=by omega
       obtain ⟨bel,hbef,V,hP⟩:=HR.out;have hO:=hP.out;have S2:=(qsd (ai bel (ai hbef hO)));have hi0:wr=wr:=rfl;clear HR bel hbef hP hO hi hgi
       go_upto_region 17 with fail
       go_loopg [49] 1 (fun gk iv wr=>∃ i:Nat,gk+i=1∧iv=.int .i64 (i:Nat)∧Aside (Below w.heap.size w wr∧(∀ j,j<i→decide (dX (mkS (I j).m (I j).Y (I j).f)=0)=false)∧ROut w.heap.size wr gO 1 I V))
       case atStart=>exact ⟨0,by omega,rfl,S2.out.1,fun j hj=>by omega,S2.out.2.2⟩
       case round =>
        obtain ⟨i,hgi,rfl,HR⟩:=hrel;have SS2:=qsd S2.out.2.1;clear S2
        by_cases hi:i<1
        · obtain ⟨bel,hbef,hO⟩:=HR.out
          obtain ⟨g0,g1,g2,g3,g4,g5⟩:=hO.row.facts i hi;obtain ⟨A1,A2⟩:=hO.nts i hi;have lo1:=mkS_len (I i).n (I i).X (I i).e;have lo2:=mkS_len (I i).m (I i).Y (I i).f;unfold frmI at g0 g1 g2 g3 g4 g5;simp only at g0 g1 g2 g3 g4 g5;obtain ⟨o,ho⟩:∃ o,mkS (I i).n (I i).X (I i).e=o:=⟨_,rfl⟩;obtain ⟨p,hp⟩:∃ p,mkS (I i).m (I i).Y (I i).f=p:=⟨_,rfl⟩;rw [ho] at g0 g2 A1 lo1;rw [hp] at g3 g5 A2 lo2;obtain ⟨v1,hv1⟩:∃ v1,(V i).1=v1:=⟨_,rfl⟩;obtain ⟨v2,hv2⟩:∃ v2,(V i).2=v2:=⟨_,rfl⟩;rw [hv1] at g1 A1;rw [hv2] at g4 A2;obtain ⟨p1,q1,rfl,_⟩:=A1.arg (by omega)
          obtain ⟨p2,q2,rfl,_⟩:=A2.arg (by omega)
          obtain ⟨U,hU⟩:∃ U,U=wr.alloc (.cells #[.bool (dN o),.slice p1 (ws (dX o)).length q1,.int .i64 (dE o),.bool (dN p),.slice p2 (ws (dX p)).length q2,.int .i64 (dE p)] 110):=⟨_,rfl⟩;have hbU:Below wr.heap.size wr U:=by rw [hU];exact below_alloc _ _
          have RQ:Rq U wr.heap.size (dN o) (.slice p1 (ws (dX o)).length q1) (dE o) (dN p) (.slice p2 (ws (dX p)).length q2) (dE p):=by rw [hU];exact Rq.new _ _ _ _ _ _ _
          obtain ⟨x0,x1,x2,x3,x4,x5⟩:=RQ.facts;have HC:=hid (sgnD (n:=dN p) (e:=dE p) ((A2.below hbU).av (by omega)))
          obtain ⟨s,hs⟩:∃ s,sgn (dN p) (dX p)=s:=⟨_,rfl⟩;rw [hs] at HC;have SI:=(qsd (ai (bel.trans (hbU.mono bel.size)) (ai hbef (ai hp (ai hs (ai hi (hO.below hbU)))))));clear hbU RQ A1 A2 HR ho hp hv1 hv2 hs bel hbef hO;have hli:(i:Int)<1:=by omega
          have hl0:(0:Int)≤(i:Int):=by omega
          go_upto_region 19 with fail
          rw [←hU];clear hU g0 g1 g2 g3 g4 g5
          go_wp2_with fail
          clear x0 x1 x2 x3 x4 x5;refine HC.out.mono ?_;rintro r u1 ⟨rfl,hb⟩;have S2:=(qsd (ai (SI.out.1.trans (hb.mono SI.out.1.size)) (SI.out.2.2.2.2.2.below hb)));clear hb HC
          by_cases hz:s=0
          · have hn:(s==0)=true:=by simp [hz]
            have hsz:=SI;clear SI
            go_wp2_with fail
            go_ret2
            obtain ⟨_,hbef,hp,hs,hi,_⟩:=hsz.out
            have hE:errL I 1=21:=by
             unfold errL;rw [any_no (p:=fun i=>decide (sgn (I i).m (I i).Y<0)) SS.out,if_neg Bool.false_ne_true,any_no (p:=fun i=>!((mkS (I i).n (I i).X (I i).e).isSome&&(mkS (I i).m (I i).Y (I i).f).isSome)) (fun j hj=>by rw [SS2.out j hj];rfl),if_neg Bool.false_ne_true,if_pos (any_of hi (by simp only [hp];exact decide_eq_true (sgn_zero3.1 (hs.trans hz))))]
            rw [hE];exact ⟨.inl ⟨by decide,rfl⟩,S2.out.1⟩
          · have hn:(s==0)=false:=by simp [hz]
            go_wp2_with fail
            go_roundg (1-(i+1))
            case measure=>omega
            case rel =>
             obtain ⟨_,hbef,hp,hs,hi,_⟩:=SI.out;refine ⟨i+1,by omega,by go_num,S2.out.1,fun j hj=>?_,S2.out.2⟩
             by_cases hji:j=i
             · subst hji;rw [hp];exact decide_eq_false (fun h0=>hz (hs.symm.trans (sgn_zero3.2 h0)))
             · exact hbef j (by omega)
        · obtain rfl:i=1:=by omega
          have S3:=HR;clear HR hi hgi
          go_wp2_with fail
          go_ret2
          have hE:errL I 1=0:=by
           unfold errL;rw [any_no (p:=fun i=>decide (sgn (I i).m (I i).Y<0)) SS.out,if_neg Bool.false_ne_true,any_no (p:=fun i=>!((mkS (I i).n (I i).X (I i).e).isSome&&(mkS (I i).m (I i).Y (I i).f).isSome)) (fun j hj=>by rw [SS2.out j hj];rfl),if_neg Bool.false_ne_true,any_no (p:=fun i=>decide (dX (mkS (I i).m (I i).Y (I i).f)=0)) S3.out.2.1,if_neg Bool.false_ne_true]
          exact ⟨.inr ⟨hE,gO,V,rfl,S3.out.2.2⟩,S3.out.1⟩
theorem errL0 {I:Nat→Ri}{k:Nat}(h:errL I k=0) (i:Nat) (hi:i<k):¬ sgn (I i).m (I i).Y<0∧(mkS (I i).n (I i).X (I i).e).isSome=true∧(mkS (I i).m (I i).Y (I i).f).isSome=true∧dX (mkS (I i).m (I i).Y (I i).f)≠0:=by
 unfold errL at h
 split at h
 · omega
 · rename_i h1
   split at h
   · omega
   · rename_i h2
     split at h
     · omega
     · rename_i h3
       simp only [Bool.not_eq_true,List.any_eq_false,List.mem_range] at h1 h2 h3;have k1:=h1 i hi;have k2:=h2 i hi;have k3:=h3 i hi;simp at k1 k2 k3;exact ⟨by omega,k2.1,k2.2,k3⟩
theorem reform {n:Bool}{X:Nat}{e:Int}{o:Option (Bool×Nat×Int)}(h:mkS n X e=o) (hs:o.isSome=true):mkS (dN o) (dX o) (dE o)=o:=by
 cases o with
 | none=>cases hs
 | some d =>
   obtain ⟨n1,X1,e1⟩:=d;exact (mkS_frm h).self
theorem frm_rng {n:Bool}{X:Nat}{e:Int}{o:Option (Bool×Nat×Int)}(h:mkS n X e=o):-1048576≤dE o∧dE o≤1048576:=by
 cases o with
 | none=>exact ⟨by decide,by decide⟩
 | some d =>
   obtain ⟨n1,X1,e1⟩:=d;have:=mkS_frm h;exact ⟨this.down,this.up⟩
structure Rv (w:World) (r:Ri):Prop where
 num:Av w r.v r.X
 den:Av w r.u r.Y
 be:-9223372036854775808≤r.e∧r.e≤9223372036854775807
 bf:-9223372036854775808≤r.f∧r.f≤9223372036854775807
theorem Rv.below {w w':World}{r:Ri}(h:Rv w r) (hb:Below w.heap.size w w'):Rv w' r:=⟨h.num.below hb,h.den.below hb,h.be,h.bf⟩
theorem rin1 (W:World) (r:Ri) (hr:Rv W r) (hT:Tab W) (R:World) (hR:R=W.alloc (.cells #[.bool r.n,r.v,.int .i64 r.e,.bool r.m,r.u,.int .i64 r.f] 110)):RIn R W.heap.size 1 (fun _=>r):=by
 have hb:Below W.heap.size W R:=by rw [hR];exact below_alloc _ _
 refine ⟨⟨_,by rw [hR];exact heap_alloc_new _ _,?_⟩,fun i hi=>⟨hr.num.below hb,hr.den.below hb⟩,fun i hi=>⟨hr.be.1,hr.be.2,hr.bf.1,hr.bf.2⟩,hT.belows hb⟩
 intro i hi;obtain rfl:i=0:=by omega
 simp
theorem one_begin (w:World) (n:Bool) (v:Value) (e:Int) (m:Bool) (u:Value) (f:Int) (W:World) (hW:W=w.alloc (.cells #[.bool n,v,.int .i64 e,.bool m,u,.int .i64 f] 110)) :
 Below w.heap.size w W∧W.heap.size=w.heap.size+1∧Rq W w.heap.size n v e m u f:=by
 rw [hW];exact ⟨below_alloc w _,by simp,Rq.new _ _ _ _ _ _ _⟩
theorem rounded_quotient64 {w:World}{n m:Bool}{a b:Option Addr}{la ca lb cb:Nat}{X Y:Nat}{e f:Int}(mode:Int) (hr:Rv w ⟨n,.slice a la ca,X,e,m,.slice b lb cb,Y,f⟩) (hT:Tab w)
 (o1 o2 z:Option (Bool×Nat×Int)) (ew:Int) (rw':Nat×Int) (ho1:mkS n X e=o1) (ho2:mkS m Y f=o2) (lz:(ws (dX z)).length≤8192) (hew:ew≠0→rw'.1=0∧rw'.2=ew)
 (ANS:Nat×Int) (hANS:ANS=if mode<0∨4<mode then (0,1) else if errL (fun _=>(⟨n,.slice a la ca,X,e,m,.slice b lb cb,Y,f⟩:Ri)) 1=0 then rw' else (0,errL (fun _=>(⟨n,.slice a la ca,X,e,m,.slice b lb cb,Y,f⟩:Ri)) 1))
 (HW:Hid (∀ (u:World) (p q:Value),Below w.heap.size w u→Nt w.heap.size u p (dX o1)→Nt w.heap.size u q (dX o2)→errL (fun _=>(⟨n,.slice a la ca,X,e,m,.slice b lb cb,Y,f⟩:Ri)) 1=0→Calls Tryz.prog 85 #[.agg #[.bool (dN o1),p,.int .i64 (dE o1),.bool (dN o2),q,.int .i64 (dE o2)]] u fun r w'=>(∃ v,r=.returned (.tuple #[.agg #[.bool (dN z),v,.int .i64 (dE z)],.int .i64 ew])∧Nt u.heap.size w' v (dX z))∧Below u.heap.size u w'))
 (HR:Hid (∀ (u:World) (p:Option Addr) (q:Nat),ew=0→¬ (mode<0∨4<mode)→errL (fun _=>(⟨n,.slice a la ca,X,e,m,.slice b lb cb,Y,f⟩:Ri)) 1=0→Below w.heap.size w u→Arg u p (ws (dX z)).length q (ws (dX z))→Calls Tryz.prog 60 #[.agg #[.bool (dN z),.slice p (ws (dX z)).length q,.int .i64 (dE z)],.int .i64 mode] u fun r w'=>r=.returned (.tuple #[.float .f64 rw'.1,.int .i64 rw'.2])∧Below u.heap.size u w')) :
 Calls Tryz.prog 84 #[.agg #[.bool n,.slice a la ca,.int .i64 e,.bool m,.slice b lb cb,.int .i64 f],.int .i64 mode,.func (.func 85) #[] #[],.func (.func 60) #[] #[]] w fun r w'=>r=.returned (.tuple #[.float .f64 ANS.1,.int .i64 ANS.2])∧Below w.heap.size w w':=by
 obtain ⟨W1,hW1⟩:∃ W,W=w.alloc (.cells #[.bool n,.slice a la ca,.int .i64 e,.bool m,.slice b lb cb,.int .i64 f] 110):=⟨_,rfl⟩;obtain ⟨hB,hz1,Q1⟩:=one_begin w n _ e m _ f W1 hW1
 by_cases hm:mode<0∨4<mode
 · rw [if_pos hm] at hANS
   subst hANS;have S0:=qsd hB;clear hB hz1 Q1 HW HR hr hT
   by_cases hm0:mode<0
   · have d1:=decide_eq_true hm0
     go_enter Tryz.func84,Tryz.ntmps84
     go_upto_region 1 with fail
     rw [←hW1];clear hW1;go_wp2
     go_ret2
     exact ⟨rfl,S0.out⟩
   · have d1:=decide_eq_false hm0
     have hm4:4<mode:=by omega
     have d2:=decide_eq_true hm4;clear hm;go_enter Tryz.func84,Tryz.ntmps84
     go_upto_region 1 with fail
     rw [←hW1];clear hW1;go_wp2
     go_ret2
     exact ⟨rfl,S0.out⟩
 · rw [if_neg hm] at hANS
   obtain ⟨R,hR⟩:∃ R,R=W1.alloc (.cells #[.bool n,.slice a la ca,.int .i64 e,.bool m,.slice b lb cb,.int .i64 f] 110):=⟨_,rfl⟩;have hin:=rin1 W1 _ (hr.below hB) (hT.belows hB) R hR;have hbR:Below W1.heap.size W1 R:=by rw [hR];exact below_alloc _ _
   have HF:=hid (forms1 R W1.heap.size _ hin);obtain ⟨I,hI⟩:∃ I:Nat→Ri,(fun _=>(⟨n,.slice a la ca,X,e,m,.slice b lb cb,Y,f⟩:Ri))=I:=⟨_,rfl⟩
   rw [hI] at HF hANS HW HR;obtain ⟨x0,x1,x2,x3,x4,x5⟩:=Q1.facts;have HAn:=qsd hANS;have S0:=(qsd (ai (hB.trans (hbR.mono hB.size)) (ai hI (ai ho1 ho2))));have d1:decide (mode<0)=false:=decide_eq_false (fun h=>hm (.inl h))
   have d2:decide (4<mode)=false:=decide_eq_false (fun h=>hm (.inr h))
   have HM:=qsd hm;obtain ⟨g12,hg12⟩:∃ g,W1.heap.size=g:=⟨_,rfl⟩;rw [hg12] at HF;clear hB hz1 Q1 hin hbR hr hT hANS hI ho1 ho2 hm;go_enter Tryz.func84,Tryz.ntmps84
   go_upto_region 1 with fail
   rw [←hW1];clear hW1
   go_wp2_with fail
   rw [←hR];clear hR hg12 x0 x1 x2 x3 x4 x5;refine HF.out.mono ?_;rintro r u1 ⟨hor,hb⟩;clear HF;obtain ⟨bel,hI,ho1,ho2⟩:=S0.out;have S1:=qsd (bel.trans (hb.mono bel.size))
   rcases hor with ⟨hne,rfl⟩|⟨h0,g',V,rfl,hO⟩
   · have HA2:=HAn.out
     rw [if_neg hne] at HA2;obtain ⟨er,her⟩:∃ er,errL I 1=er:=⟨_,rfl⟩;rw [her] at hne HA2 ⊢;have HA3:=qsd HA2;have hnb:(er==0)=false:=by simp [hne]
     clear HAn HA2 her hne bel hb hI ho1 ho2 S0 HW HR;go_wp2
     go_ret2
     rw [HA3.out];exact ⟨rfl,S1.out⟩
   · have HA2:=HAn.out
     rw [if_pos h0] at HA2;obtain ⟨q0,q1,q2,q3,q4,q5⟩:=hO.row.facts 0 (by omega)
     obtain ⟨N1,N2⟩:=hO.nts 0 (by omega)
     simp only [Nat.zero_mul,Nat.zero_add] at q0 q1 q2 q3 q4 q5;unfold frmI at q0 q1 q2 q3 q4 q5;have e0:I 0=⟨n,.slice a la ca,X,e,m,.slice b lb cb,Y,f⟩:=by rw [←hI]
     rw [e0] at N1 N2;simp only [e0] at q0 q1 q2 q3 q4 q5 N1 N2;have m1:=mkS_len n X e;have m2:=mkS_len m Y f;rw [ho1] at q0 q2 N1 m1;rw [ho2] at q3 q5 N2 m2;obtain ⟨v1,hv1⟩:∃ v1,(V 0).1=v1:=⟨_,rfl⟩;obtain ⟨v2,hv2⟩:∃ v1,(V 0).2=v1:=⟨_,rfl⟩;rw [hv1] at q1 N1;rw [hv2] at q4 N2;obtain ⟨a1,c1,rfl,_⟩:=N1.arg (by omega)
     obtain ⟨a2,c2,rfl,_⟩:=N2.arg (by omega)
     have HC:=hid (HW.out u1 _ _ (bel.trans (hb.mono bel.size)) (N1.mono (by have:=bel.size;omega)) (N2.mono (by have:=bel.size;omega)) h0)
     have S2:=(qsd (ai h0 HA2));clear HAn HA2 bel hb hI ho1 ho2 S0 hO N1 N2 HW h0 hv1 hv2 e0
     go_wp2_with fail
     clear q0 q1 q2 q3 q4 q5;refine HC.out.mono ?_;rintro r u2 ⟨⟨v,rfl,NZ⟩,hb⟩;obtain ⟨az,cz,rfl,_⟩:=NZ.arg (by omega)
     clear HC;obtain ⟨U3,hU3⟩:∃ U,U=u2.alloc (.cells #[.bool (dN z),.slice az (ws (dX z)).length cz,.int .i64 (dE z)] 67):=⟨_,rfl⟩;have hbA:Below u2.heap.size u2 U3:=by rw [hU3];exact below_alloc _ _
     have bb:=S1.out.trans (hb.mono S1.out.size);have bc:=bb.trans (hbA.mono bb.size)
     by_cases hew0:ew=0
     · have TZ:Tk U3 u2.heap.size 67 (.bool (dN z)) (.slice az (ws (dX z)).length cz) (.int .i64 (dE z)):=by rw [hU3];exact Tk.new _ _ _ _ _
       have HD:=hid (HR.out U3 az cz hew0 HM.out S2.out.1 bc ((NZ.below hbA).arg' (by omega)).2)
       obtain ⟨x0,x1,x2,_,_,_⟩:=TZ.facts;have S3:=(qsd (ai bc S2.out.2));clear bb bc hb hbA NZ TZ S1 S2 HR HM hew;subst hew0
       go_upto_region 7 with fail
       rw [←hU3];clear hU3
       go_wp2_with fail
       refine HD.out.mono ?_;rintro r u3 ⟨rfl,hb⟩;have S4:=qsd (S3.out.1.trans (hb.mono S3.out.1.size));clear hb HD x0 x1 x2;go_wp2
       go_ret2
       rw [S3.out.2];exact ⟨rfl,S4.out⟩
     · have hnb:(ew==0)=false:=by simp [hew0]
       have hA:ANS=(0,ew):=by
        rw [S2.out.2];have:=hew hew0;rw [←this.1,←this.2]
       have S3:=(qsd (ai bc hA));clear bb bc hb hbA NZ S1 S2 HR HM hew hA hew0
       go_upto_region 7 with fail
       rw [←hU3];clear hU3;go_wp2
       go_ret2
       rw [S3.out.2];exact ⟨rfl,S3.out.1⟩
theorem Quot_box {w:World}{a b:Option Addr}{la ca lb cb:Nat}(n m:Bool) (e f mode:Int) (ANS:Nat×Int)
 (HR:Hid (∀ u:World,Below w.heap.size w u→Calls Tryz.prog 84 #[.agg #[.bool n,.slice a la ca,.int .i64 e,.bool m,.slice b lb cb,.int .i64 f],.int .i64 mode,.func (.func 85) #[] #[],.func (.func 60) #[] #[]] u fun r w'=>r=.returned (.tuple #[.float .f64 ANS.1,.int .i64 ANS.2])∧Below u.heap.size u w')) :
 Calls Tryz.prog 47 #[.agg #[.bool n,.slice a la ca,.int .i64 e,.bool m,.slice b lb cb,.int .i64 f],.int .i64 mode] w fun r w'=>r=.returned (.tuple #[.float .f64 ANS.1,.int .i64 ANS.2])∧Below w.heap.size w w':=by
 obtain ⟨W1,hW1⟩:∃ W,W=w.alloc (.cells #[.bool n,.slice a la ca,.int .i64 e,.bool m,.slice b lb cb,.int .i64 f] 110):=⟨_,rfl⟩;obtain ⟨hB,hz1,Q1⟩:=one_begin w n _ e m _ f W1 hW1;have HC:=hid (HR.out W1 hB);obtain ⟨x0,x1,x2,x3,x4,x5⟩:=Q1.facts;have S0:=qsd hB;clear hB hz1 Q1 HR;go_enter Tryz.func47,Tryz.ntmps47
 go_upto_region 1 with fail
 rw [←hW1];clear hW1
 go_wp2_with fail
 refine HC.out.mono ?_;rintro r u1 ⟨rfl,hb⟩;have S1:=qsd (S0.out.trans (hb.mono S0.out.size));clear hb HC x0 x1 x2 x3 x4 x5;go_wp2
 go_ret2
 exact ⟨rfl,S1.out⟩
theorem mkS_small (n:Bool) (M:Nat) (E:Int) (hM:M≠0) (hb:bl M≤1001) (h0:-4096≤E) (h1:E≤4096):mkS n M E=some (n,M/2^lo M,E+lo M)∧(M/2^lo M)%2=1∧M=M/2^lo M*2^lo M∧lo M≤1001:=by
 obtain ⟨q,h2,h3,h4⟩:=odd_part M hM;refine ⟨?_,by omega,by rw [h3,Nat.mul_comm];exact h2,by omega⟩
 unfold mkS;rw [if_neg hM,if_neg (by omega)]
def quoZ (n:Bool) (X:Nat) (e:Int) (Y:Nat) (f:Int):Option (Bool×Nat×Int):=mkS n (2*whoS X Y 64+(if atS X Y 64 then 0 else 1)) (clampE (e-f-byS X Y 64-cutS Y 64))
theorem clamp_rng (x:Int):-4096≤clampE x∧clampE x≤4096:=by unfold clampE;omega
theorem bl_two {W d k:Nat}(h:W<2^k) (hd:d≤1):bl (2*W+d)≤k+1:=bl_lt_pow (by rw [Nat.pow_succ];omega)
theorem grid64:Grid vK 9218868437227405312:=by
 refine ⟨by decide,?_,fun {k l} h=>vK_lt.2 h,fun k hk=>?_⟩
 · have:=vK_word 0 0 (.inl rfl) (by omega)
   simpa using this
 · by_cases h:k<4503599627370496
   · refine ⟨k,0,?_,?_,by omega,by omega⟩
     · have:=vK_word 0 k (.inl rfl) (by omega);rw [Nat.zero_mul,Nat.zero_add] at this;exact this
     · have:=vK_word 0 (k+1) (.inl rfl) (by omega);rw [Nat.zero_mul,Nat.zero_add] at this;exact this
   · obtain ⟨q,hq⟩:∃ q,k/4503599627370496=q:=⟨_,rfl⟩
     obtain ⟨g,hg⟩:∃ g,k%4503599627370496=g:=⟨_,rfl⟩;refine ⟨4503599627370496+g,q-1,?_,?_,by omega,by omega⟩
     · have:=vK_word (q-1) (4503599627370496+g) (.inr (by omega)) (by omega)
       rw [show (q-1)*4503599627370496+(4503599627370496+g)=k by omega] at this
       exact this
     · have:=vK_word (q-1) (4503599627370496+g+1) (.inr (by omega)) (by omega)
       rw [show (q-1)*4503599627370496+(4503599627370496+g+1)=k+1 by omega] at this
       exact this
theorem quoZ_some (n:Bool) (X:Nat) (e:Int) (Y:Nat) (f:Int) (hX:X=0∨X%2=1) (hY:Y≠0) (bX:bl X≤262144) (bY:bl Y≤262144):(quoZ n X e Y f).isSome=true:=by
 have D:=divS_facts X Y 64 hX hY (by omega) (by omega) bX bY
 have hW2:=D.most;have hd:(if atS X Y 64 then 0 else 1)≤1:=by split <;> omega
 have hb:=bl_two hW2 hd;unfold quoZ
 by_cases hM:2*whoS X Y 64+(if atS X Y 64 then 0 else 1)=0
 · rw [hM,mkS_zero];rfl
 · rw [(mkS_small n _ _ hM (by omega) (clamp_rng _).1 (clamp_rng _).2).1];rfl
def oneI (r:Ri):Nat→Ri:=fun _=>r
noncomputable def quoR (rnd:Option (Bool×Nat×Int)→Int→Nat×Int) (r:Ri) (mode:Int):Nat×Int :=
 if mode<0∨4<mode then (0,1) else if errL (oneI r) 1=0 then rnd (quoZ (dN (mkS r.n r.X r.e)) (dX (mkS r.n r.X r.e)) (dE (mkS r.n r.X r.e)) (dX (mkS r.m r.Y r.f)) (dE (mkS r.m r.Y r.f))) mode else (0,errL (oneI r) 1)
theorem frm_of {n:Bool}{X:Nat}{e:Int}(h:(mkS n X e).isSome=true):Frm (dN (mkS n X e)) (dX (mkS n X e)) (dE (mkS n X e)):=by
 cases ho:mkS n X e with
 | none=>rw [ho] at h;cases h
 | some d =>
   obtain ⟨n1,X1,e1⟩:=d;exact mkS_frm ho
theorem Frm.par {n:Bool}{X:Nat}{e:Int}(h:Frm n X e):X=0∨X%2=1:=by rcases h.odd with q | q;exact .inr q;exact .inl q.1
theorem quo_reform (n:Bool) (X:Nat) (e:Int) (Y:Nat) (f:Int) (hs:(quoZ n X e Y f).isSome=true):mkS (dN (quoZ n X e Y f)) (dX (quoZ n X e Y f)) (dE (quoZ n X e Y f))=quoZ n X e Y f:=reform (o:=quoZ n X e Y f) rfl hs
theorem Quot11 {w:World}{n m:Bool}{a b:Option Addr}{la ca lb cb:Nat}{X Y:Nat}{e f:Int}(mode:Int) (hr:Rv w ⟨n,.slice a la ca,X,e,m,.slice b lb cb,Y,f⟩) (hT:Tab w) :
 Calls Tryz.prog 47 #[.agg #[.bool n,.slice a la ca,.int .i64 e,.bool m,.slice b lb cb,.int .i64 f],.int .i64 mode] w fun r w' =>
  r=.returned (.tuple #[.float .f64 (quoR rndS ⟨n,.slice a la ca,X,e,m,.slice b lb cb,Y,f⟩ mode).1,.int .i64 (quoR rndS ⟨n,.slice a la ca,X,e,m,.slice b lb cb,Y,f⟩ mode).2])∧Below w.heap.size w w':=by
 refine Quot_box n m e f mode (quoR rndS ⟨n,.slice a la ca,X,e,m,.slice b lb cb,Y,f⟩ mode) ?_;intro u hu;have hrT:=hr.below hu;have hTu:=hT.belows hu;refine rounded_quotient64 mode hrT hTu (mkS n X e) (mkS m Y f) (quoZ (dN (mkS n X e)) (dX (mkS n X e)) (dE (mkS n X e)) (dX (mkS m Y f)) (dE (mkS m Y f))) 0 (rndS (quoZ (dN (mkS n X e)) (dX (mkS n X e)) (dE (mkS n X e)) (dX (mkS m Y f)) (dE (mkS m Y f))) mode) rfl rfl (mkS_len _ _ _) (fun h=>absurd rfl h) _ rfl ?_ ?_
 · intro v p q hv N1 N2 h0
   obtain ⟨k1,k2,k3,k4⟩:=errL0 h0 0 (by omega)
   simp only at k1 k2 k3 k4;have F1:=frm_of k2;have F2:=frm_of k3;obtain ⟨a1,c1,rfl,A1⟩:=N1.arg (by have:=frm_len F1;omega)
   obtain ⟨a2,c2,rfl,A2⟩:=N2.arg (by have:=frm_len F2;omega)
   have hq:=quotient_any (dN (mkS n X e)) (dN (mkS m Y f)) (dX (mkS n X e)) (dX (mkS m Y f)) (dE (mkS n X e)) (dE (mkS m Y f)) A1 A2 (hTu.belows hv) F1.par k4 F1.down F1.up F2.down F2.up F1.size F2.size;have hs:=quoZ_some (dN (mkS n X e)) (dX (mkS n X e)) (dE (mkS n X e)) (dX (mkS m Y f)) (dE (mkS m Y f)) F1.par k4 F1.size F2.size;have he:erS (quoZ (dN (mkS n X e)) (dX (mkS n X e)) (dE (mkS n X e)) (dX (mkS m Y f)) (dE (mkS m Y f)))=0:=by unfold erS;rw [hs];rfl
   unfold DAns at hq;rw [show mkS (dN (mkS n X e)) (2*whoS (dX (mkS n X e)) (dX (mkS m Y f)) 64+(if atS (dX (mkS n X e)) (dX (mkS m Y f)) 64 then 0 else 1)) (clampE (dE (mkS n X e)-dE (mkS m Y f)-byS (dX (mkS n X e)) (dX (mkS m Y f)) 64-cutS (dX (mkS m Y f)) 64))=quoZ (dN (mkS n X e)) (dX (mkS n X e)) (dE (mkS n X e)) (dX (mkS m Y f)) (dE (mkS m Y f)) from rfl,he] at hq
   exact hq
 · intro v p q _ hm h0 hv hA
   obtain ⟨k1,k2,k3,k4⟩:=errL0 h0 0 (by omega)
   simp only at k1 k2 k3 k4;have F1:=frm_of k2;have F2:=frm_of k3;have hs:=quoZ_some (dN (mkS n X e)) (dX (mkS n X e)) (dE (mkS n X e)) (dX (mkS m Y f)) (dE (mkS m Y f)) F1.par k4 F1.size F2.size;have rg:=frm_rng (o:=quoZ (dN (mkS n X e)) (dX (mkS n X e)) (dE (mkS n X e)) (dX (mkS m Y f)) (dE (mkS m Y f))) rfl;have hR:=Round_any hA (hTu.belows hv) (dN (quoZ (dN (mkS n X e)) (dX (mkS n X e)) (dE (mkS n X e)) (dX (mkS m Y f)) (dE (mkS m Y f)))) (dE (quoZ (dN (mkS n X e)) (dX (mkS n X e)) (dE (mkS n X e)) (dX (mkS m Y f)) (dE (mkS m Y f)))) mode (by omega) (by omega)
   rw [val_ws,quo_reform _ _ _ _ _ hs] at hR;exact hR
end
section
open Go.RowKit J
def exR (xs:List Nat) (mode a b:Int):Nat×Int:=if mode<0∨4<mode∨may a b=false then (0,1) else if 65536<xs.length then (0,2) else rd10 (vS xs) (sS xs) mode a b
theorem ahead20_bad (g:Nat) (V:Int) (s:Sp) (mode a b:Int) (w:World) (hA:Acc7 w g V s) (hx:mode<0∨4<mode∨may a b=false) :
 Calls Tryz.prog 59 #[.pointer (some ⟨g,0,none⟩),.int .i64 mode,.agg #[.int .i64 a,.int .i64 b]] w fun r w'=>r=.returned (.tuple #[.float .f64 0,.bool false,.int .i64 1])∧Below w.heap.size w w':=by
 obtain ⟨L,a1,a2,a3,a4,a5,a6⟩:=hA;obtain ⟨n,u,d,m,p,l⟩:=s;have HM:=hid (fun u:World=>May_any a b u)
 have hlt:=a6.lt;have hne:g≠w.heap.size:=Nat.ne_of_lt hlt;have hne1:g≠w.heap.size+1:=by omega
 have c0:=a6.cell a1 0 _ rfl;have c1:=a6.cell a1 1 _ rfl;have c2:=a6.cell a1 2 _ rfl;have c3:=a6.cell a1 3 _ rfl;have c4:=a6.cell a1 4 _ rfl;have c5:=a6.cell a1 5 _ rfl;have E0:=qsd ((bel_alloc w (Obj.cells #[.int .i64 a,.int .i64 b] 24)).trans ((bel_alloc (w.alloc (Obj.cells #[.int .i64 a,.int .i64 b] 24)) (Obj.cells #[.int .i64 n,.int .i64 u,.int .i64 d,.int .i64 m,.int .i64 p,.int .i64 l] 59)).mono (by simp)))
 clear a1 a2 a3 a4 a5 a6
 by_cases h0:mode<0
 · have b0:decide (mode<0)=true:=decide_eq_true h0
   clear hx HM;go_enter Tryz.func59,Tryz.ntmps59;go_wp2;refine bodyPost_ret (v:=.tuple #[.float .f64 0,.bool false,.int .i64 1]) (by simp [results,Tryz.results59,go_sem]) rfl ?_
   exact ⟨rfl,E0.out⟩
 · have b0:decide (mode<0)=false:=decide_eq_false h0
   by_cases h4:4<mode
   · have b1:decide (4<mode)=true:=decide_eq_true h4
     clear hx HM;go_enter Tryz.func59,Tryz.ntmps59;go_wp2;refine bodyPost_ret (v:=.tuple #[.float .f64 0,.bool false,.int .i64 1]) (by simp [results,Tryz.results59,go_sem]) rfl ?_
     exact ⟨rfl,E0.out⟩
   · have b1:decide (4<mode)=false:=decide_eq_false h4
     have hm:may a b=false:=by rcases hx with h | h | h;exact absurd h h0;exact absurd h h4;exact h
     rw [hm] at HM;clear hx hm;go_enter Tryz.func59,Tryz.ntmps59
     go_wp2_with fail
     refine (HM.out _).mono ?_;rintro r w1 ⟨rfl,hb1⟩;have E1:=qsd (E0.out.trans (hb1.mono E0.out.size));clear hb1;go_wp2;refine bodyPost_ret (v:=.tuple #[.float .f64 0,.bool false,.int .i64 1]) (by simp [results,Tryz.results59,go_sem]) rfl ?_
     exact ⟨rfl,E1.out⟩
theorem round20_bad (g:Nat) (V:Int) (s:Sp) (mode a b:Int) (w:World) (hA:Acc7 w g V s) (hx:mode<0∨4<mode∨may a b=false) :
 Calls Tryz.prog 28 #[.pointer (some ⟨g,0,none⟩),.int .i64 mode,.agg #[.int .i64 a,.int .i64 b]] w fun r w'=>r=.returned (.tuple #[.float .f64 0,.int .i64 1])∧Below w.heap.size w w':=by
 have hb0:=qsd (bel_alloc w (Obj.cells #[.int .i64 a,.int .i64 b] 24));have HH:=hid (ahead20_bad g V s mode a b _ (hA.bel hb0.out) hx);clear hx hA;go_enter Tryz.func28,Tryz.ntmps28
 go_wp2_with fail
 refine HH.out.mono ?_;rintro r w1 ⟨rfl,hb1⟩;have B1:=qsd (hb0.out.trans (hb1.mono hb0.out.size));clear hb1 HH;go_wp2;refine bodyPost_ret (v:=.tuple #[.float .f64 0,.int .i64 1]) (by simp [results,Tryz.results28,go_sem]) rfl ?_
 exact ⟨rfl,B1.out⟩
theorem aI_vS (xs:List Nat):vI (aI20 xs)=vS xs∧sI (aI20 xs)=sS xs:=by
 unfold vI sI vS sS aI20;rw [List.foldl_map,List.foldl_map];exact ⟨rfl,rfl⟩
theorem Sum20 {w:World}{lo hi g n:Nat}{xs:List Nat}(mode a b:Int) (h:Sl w lo hi g n xs) (hT:Tab w) (z:Nat×Int) (hz:exR xs mode a b=z) :
 Calls Tryz.prog 8 #[.pointer (some ⟨g,0,none⟩),.int .i64 mode,.agg #[.int .i64 a,.int .i64 b]] w fun r w'=>r=.returned (.tuple #[.float .f64 z.1,.int .i64 z.2])∧Below w.heap.size w w':=by
 obtain ⟨gl,b1,b2,gs,gq,s,s1,c1,s2,c2,L,R1,R2,hv⟩:=h;obtain ⟨X,E⟩:=z;simp only;obtain ⟨W,hWW⟩:∃ W,W=w.alloc (Obj.cells #[.int .i64 a,.int .i64 b] 24):=⟨_,rfl⟩;have hb0:Below w.heap.size w W:=by rw [hWW];exact bel_alloc _ _
 have hP:Bl W w.heap.size 24 [.int .i64 a,.int .i64 b]:=by rw [hWW];exact Bl.new _ _ [_,_]
 have hA:=hv.hS.1;rw [(aI_vS xs).1,(aI_vS xs).2] at hA;have hk:(sS xs).ok:=by rw [←(aI_vS xs).2];exact hv.hS.ok (by have:=hv.hc;have:=hv.hn;simp;omega)
 have HR:Hid (∀ u:World,Below w.heap.size w u→Calls Tryz.prog 28 #[.pointer (some ⟨gs,0,none⟩),.int .i64 mode,.agg #[.int .i64 a,.int .i64 b]] u fun r w'=>r=.returned (.tuple #[.float .f64 X,.int .i64 E])∧Below u.heap.size u w'):=by
  intro u hu;unfold exR at hz
  by_cases hm:mode<0∨4<mode∨may a b=false
  · rw [if_pos hm] at hz
    obtain ⟨rfl,rfl⟩:=Prod.mk.inj hz;exact round20_bad gs _ _ mode a b u (hA.bel hu) hm
  · rw [if_neg hm,if_neg (by have:=hv.hc;have:=hv.hn;omega)] at hz
    have hz1:=congrArg Prod.fst hz;have hz2:=congrArg Prod.snd hz;simp only at hz1 hz2;have:=Round10 gs (vS xs) (sS xs) mode a b u (hA.bel hu) hk (hT.belows hu) (by omega) (by omega) (by cases q:may a b with | true=>rfl | false=>exact absurd (.inr (.inr q)) hm)
    rw [hz1,hz2] at this;exact this
 have d:W.cell? ⟨g,11,none⟩=some (.pointer (some ⟨gs,0,none⟩)):=(hv.bl.below hb0 hv.bl.lt).cell 11 _ rfl;have p0:=hP.cell 0 _ rfl;have p1:=hP.cell 1 _ rfl;have HW:=(qsd (ai hWW hb0));have HB:Aside (Below w.heap.size w W.drew):=hb0.drew;clear hv hA hk hz hb0 hWW hP;go_enter Tryz.func8,Tryz.ntmps8
 go_upto_region 1 with fail
 rw [←HW.out.1]
 go_region_with (go_at_call 28;refine (HR.out _ HB.out).mono ?_;rintro r v ⟨rfl,hb⟩)
 all_goals
  have B1:=qsd (HB.out.trans (hb.mono HB.out.size));clear hb HR;go_wp2;refine bodyPost_ret (v:=.tuple #[.float .f64 X,.int .i64 E]) (by simp [results,Tryz.results8,go_sem]) rfl ?_
  exact ⟨rfl,B1.out⟩
theorem Least20 {w:World}{lo hi g n:Nat}{xs:List Nat}(h:Sl w lo hi g n xs) (z:Nat×Int) (hz:endR tk20 xs=z) :
 Calls Tryz.prog 17 #[.pointer (some ⟨g,0,none⟩)] w fun r w'=>r=.returned (.tuple #[.float .f64 z.1,.int .i64 z.2])∧Below w.heap.size w w':=by
 obtain ⟨gl,b1,b2,gs,gq,s,s1,c1,s2,c2,L,R1,R2,hv⟩:=h;obtain ⟨X,E⟩:=z;have l1:c1≤n:=by have:=congrArg List.length hv.e1;rw [rg_len,List.length_map] at this;have:=stL_len tk20 xs;have:=hv.hc;omega
 have hA:IsAt L s n xs:=by
  intro i hi;have h2:=rg_get (R:=L) (s:=s) hi;rw [hv.hx,hv.nL] at h2;exact h2.symm
 have HT:=hid (fun j:Nat=>told20 tk20 g gl n s1 c1 b1 55 3 s xs.length L R1 xs _ (w.drewN j) hv.bl rfl rfl rfl rfl rfl hv.hL hv.h1 hv.nL hv.n1 hv.hs hv.hs1 hv.hn rfl hv.hc l1 hA hv.e1 (X,E) hz)
 simp only at HT ⊢;clear hv l1 hA hz;go_enter Tryz.func17,Tryz.ntmps17
 go_wp2_with fail
 go_quiet (first | (go_at_call 49;exact Calls.quiet_of (HT.out _)))
 go_wp2;refine bodyPost_ret (v:=.tuple #[.float .f64 X,.int .i64 E]) (by simp [results,Tryz.results17,go_sem]) rfl ?_
 exact ⟨rfl,below_drewN20 (Below.refl _ _) _⟩
theorem Most20 {w:World}{lo hi g n:Nat}{xs:List Nat}(h:Sl w lo hi g n xs) (z:Nat×Int) (hz:endR hk20 xs=z) :
 Calls Tryz.prog 18 #[.pointer (some ⟨g,0,none⟩)] w fun r w'=>r=.returned (.tuple #[.float .f64 z.1,.int .i64 z.2])∧Below w.heap.size w w':=by
 obtain ⟨gl,b1,b2,gs,gq,s,s1,c1,s2,c2,L,R1,R2,hv⟩:=h;obtain ⟨X,E⟩:=z;have l1:c2≤n:=by have:=congrArg List.length hv.e2;rw [rg_len,List.length_map] at this;have:=stL_len hk20 xs;have:=hv.hc;omega
 have hA:IsAt L s n xs:=by
  intro i hi;have h2:=rg_get (R:=L) (s:=s) hi;rw [hv.hx,hv.nL] at h2;exact h2.symm
 have HT:=hid (fun j:Nat=>told20 hk20 g gl n s2 c2 b2 55 7 s xs.length L R2 xs _ (w.drewN j) hv.bl rfl rfl rfl rfl rfl hv.hL hv.h2 hv.nL hv.n2 hv.hs hv.hs2 hv.hn rfl hv.hc l1 hA hv.e2 (X,E) hz)
 simp only at HT ⊢;clear hv l1 hA hz;go_enter Tryz.func18,Tryz.ntmps18
 go_wp2_with fail
 go_quiet (first | (go_at_call 49;exact Calls.quiet_of (HT.out _)))
 go_wp2;refine bodyPost_ret (v:=.tuple #[.float .f64 X,.int .i64 E]) (by simp [results,Tryz.results18,go_sem]) rfl ?_
 exact ⟨rfl,below_drewN20 (Below.refl _ _) _⟩
end
section
open Go.ChangeShapes Go.WideShapes Go.ChangeAt Go.RowKit
theorem trodF {H:Type}{enc:TypeId×Value→H}{P:Program}{w:World}{base:Nat}{spare:Nat→Bool}{held:Bool}{fuel:Nat}{t:TypeId}{cs:List Value}{x:DataW H×List MemPlace}{k:FloatKind}(ht:P.underlying t=some (.float k)) (h:DataW.trod enc P w base spare held fuel t cs=some x):∃ n,cs=[.float k n]∧x=(.lit (.float k n),[])∧(Lit.float k n).wf=true:=by
 cases fuel with
 | zero=>simp [DataW.trod] at h
 | succ m =>
   simp only [DataW.trod,ht] at h
   split at h <;> simp_all
structure CameF (w:World) (a:Option Addr) (n c:Nat) (xs:List Nat):Prop where
 len:n=xs.length
 cap:n≤c
 wf:W64 xs
 rd:Fs w.heap.size w a xs
 nil:a=none→c=0
theorem add_noneF (b off i:Nat):(⟨b,off,none⟩:Addr).add i=⟨b,off+i,none⟩:=by unfold Addr.add;split <;> simp_all
def numF {H:Type} (y:DataW H×List MemPlace):Nat:=match y.1 with | .lit (.float _ n)=>n | _=>0
theorem Tryz.cellsF:Tryz.prog.cellsOf 28=1:=by kernel_rfl
theorem Tryz.bytesF:Tryz.prog.bytesOf 28=8:=by kernel_rfl
theorem cameF_of {H:Type}{enc:TypeId×Value→H}{W:World}{a:Option Addr}{n c:Nat}{d:DataW H}{p:List MemPlace}(h:DataW.Trod enc Tryz.prog W 0 (fun _=>true) true 22 (.slice a n c) d p) :
 ∃ xs,CameF W a n c xs∧((d=.nil∧c=0)∨∃ elems spare:List (DataW H),d=.slice elems spare∧elems.length+spare.length=c):=by
 obtain ⟨fuel,hf⟩:=h
 rcases DataW.trod_slice Tryz.underlying22 hf with ⟨hcs,hx⟩|⟨x,l,cp,elems,rest,m,_,hcs,hx,hb,hl,hm,hlen,hel,hsp,hns⟩
 · simp [Value.cells] at hcs
   obtain ⟨rfl,rfl,rfl⟩:=hcs;exact ⟨[],⟨rfl,Nat.le_refl _,(fun x hx=>by cases hx),(fun h=>absurd rfl h),fun _=>rfl⟩,.inl ⟨(Prod.mk.inj hx).1,rfl⟩⟩
 · simp [Value.cells] at hcs
   obtain ⟨rfl,rfl,rfl⟩:=hcs
   have each:∀ i y,i<n→elems[i]?=some y→y=(.lit (.float .f64 (numF y)),[])∧(Lit.float .f64 (numF y)).wf=true∧W.cell? (x.add i)=some (.float .f64 (numF y)):=by
    intro i y hi hy;have hb':=hel i hi;rw [hy,Tryz.cellsF,Nat.mul_one,Option.bind_eq_some_iff] at hb';obtain ⟨cs',hcs,hy'⟩:=hb';obtain ⟨k,rfl,rfl,hw⟩:=trodF Tryz.underlying28 hy';exact ⟨rfl,hw,cell_of_cells?_one hcs⟩
   refine ⟨elems.map numF,⟨by simp [hlen],hl,?_,?_,fun e=>by cases e⟩,.inr ⟨_,_,(Prod.mk.inj hx).1,?_⟩⟩
   · intro y hy
     obtain ⟨z,hz,rfl⟩:=List.mem_map.1 hy;obtain ⟨i,hi⟩:=List.getElem?_of_mem hz;have hil:=(List.getElem?_eq_some_iff.1 hi).1;have:=(each i z (by omega) hi).2.1
     exact of_decide_eq_true this
   · intro hne
     obtain ⟨b,off,spot⟩:=x
     have hn0:0<n:=by
      rcases Nat.eq_zero_or_pos n with h0|h0
      · rw [h0] at hlen;have:=List.eq_nil_of_length_eq_zero hlen;subst this;simp at hne
      · exact h0
     have hc0:=(each 0 (elems[0]'(by omega)) hn0 (List.getElem?_eq_getElem _)).2.2
     have hspot:spot=none:=by simpa [Addr.add] using World.cell?_spot hc0
     subst hspot;refine ⟨b,off,World.block_lt_of_cell? W _ (by simpa [Addr.add] using hc0),rfl,fun i hi=>?_⟩
     rw [List.length_map] at hi;have hadd:=add_noneF b off i;have:=(each i (elems[i]'hi) (by omega) (List.getElem?_eq_getElem _)).2.2
     rw [hadd] at this;rw [this];simp [List.getD_eq_getElem?_getD,hi]
   · have hr:=(hsp rfl).1
     simp only [List.length_map];omega
theorem cameF_reach {H:Type}{ts:List TypeId}{ds:List (DataW H)}(h:(DataW.weightsEach Tryz.prog ts ds).all (·≤reachBytes)=true) {j:Nat}{d:DataW H}{c n:Nat}(ht:ts[j]?=some 22) (hd:ds[j]?=some d) (hn:n≤c)
 (hc:(d=.nil∧c=0)∨∃ elems spare:List (DataW H),d=.slice elems spare∧elems.length+spare.length=c):n≤17592186043904:=by
 rcases hc with ⟨_,rfl⟩|⟨elems,spare,rfl,hl⟩
 · omega
 · have:=sized_slice h ht hd Tryz.underlying22
   rw [Tryz.bytesF,hl] at this;simp only [reachBytes] at this;omega
end
section
open Go Go.RowKit J
abbrev lst20 (n k:Nat) (R:List Nat):List Nat:=(R.take k).drop (k-n)
theorem psh_lst {n k:Nat}{R:List Nat}(h1:1≤n) (hk:k<R.length):psh n (lst20 n k R) (R.getD k 0)=lst20 n (k+1) R:=by
 unfold psh lst20;have hl:(R.take k).length=k:=by rw [List.length_take];omega
 rw [List.length_drop,hl,take_snoc10 R k hk]
 by_cases h:n≤k
 · rw [if_pos (by omega),List.tail_drop,List.drop_append_of_le_length (by omega),show k-n+1=k+1-n by omega]
 · rw [if_neg (by omega),show k-n=0 by omega,show k+1-n=0 by omega];rfl
theorem int_hi20 {k:Int}(h:(Lit.int IntKind.i64 k).wf=true):k≤9223372036854775807:=by
 simp [Lit.wf,IntKind.min,IntKind.max,IntKind.signed,IntKind.bits] at h;omega
theorem int_lo20 {k:Int}(h:(Lit.int IntKind.i64 k).wf=true):-9223372036854775808≤k:=by
 simp [Lit.wf,IntKind.min,IntKind.max,IntKind.signed,IntKind.bits] at h;omega
theorem stL_none {K:Nat→Int}{xs:List Nat}(h:stL K xs=[]):∀ i,i<xs.length→nanW (xs.getD i 0)=true:=by
 intro i hi
 cases hn:nanW (xs.getD i 0)
 · exact absurd h (end_least (K:=K) (xs:=xs) _ i (Nat.le_refl _) hi hn).1
 · rfl
theorem nan_iff20 (x:Nat):nanW x=true↔9218868437227405312<magW x:=by
 show decide (9218868437227405312<magW x)=true↔_
 rw [decide_eq_true_eq]
theorem tk_inj20 {x y:Nat}(hx:x<18446744073709551616) (hy:y<18446744073709551616) (fx:nanW x=false) (fy:nanW y=false) (h:tk20 x=tk20 y):x=y:=by
 have f1:¬ 9218868437227405312<magW x:=Nat.not_lt.2 ((nn_iff20 x).1 fx);have f2:¬ 9218868437227405312<magW y:=Nat.not_lt.2 ((nn_iff20 y).1 fy);unfold tk20 at h;rw [if_neg f1,if_neg f2] at h;rw [←wd_own20 x hx,←wd_own20 y hy]
 cases a:negW x <;> cases b:negW y <;> simp [a,b] at h
 · rw [show magW x=magW y by omega]
 · exfalso;omega
 · exfalso;omega
 · rw [show magW x=magW y by omega]
structure Bst (K:Nat→Int) (L:List Nat) (k b:Nat):Prop where
 none:(∀ i,i<k→nanW (L.getD i 0)=true)→b=9221120237041090560
 some:∀ i,i<k→nanW (L.getD i 0)=false→(∃ j,j<k∧b=L.getD j 0)∧nanW b=false∧K b≤K (L.getD i 0)
theorem Bst.zero (K:Nat→Int) (L:List Nat):Bst K L 0 9221120237041090560:=⟨fun _=>rfl,fun i hi=>absurd hi (by omega)⟩
theorem Bst.nan {K:Nat→Int}{L:List Nat}{k b:Nat}(h:Bst K L k b) (hx:nanW (L.getD k 0)=true):Bst K L (k+1) b:=by
 refine ⟨fun q=>h.none fun i hi=>q i (by omega),fun i hi hn=>?_⟩
 have hik:i<k:=by
  rcases Nat.lt_or_ge i k with c|c
  · exact c
  · obtain rfl:i=k:=by omega
    rw [hx] at hn;cases hn
 obtain ⟨⟨j,hj,e⟩,a2,a3⟩:=h.some i hik hn;exact ⟨⟨j,by omega,e⟩,a2,a3⟩
theorem Bst.isnan {K:Nat→Int}{L:List Nat}{k b:Nat}(h:Bst K L k b):nanW b=true↔∀ i,i<k→nanW (L.getD i 0)=true:=by
 constructor
 · intro q i hi
   cases hn:nanW (L.getD i 0)
   · have:=(h.some i hi hn).2.1;rw [q] at this;cases this
   · rfl
 · intro q;rw [h.none q];decide
theorem Bst.put {K:Nat→Int}{L:List Nat}{k b:Nat}(h:Bst K L k b) (hx:nanW (L.getD k 0)=false) (hb:nanW b=true∨K (L.getD k 0)<K b):Bst K L (k+1) (L.getD k 0):=by
 refine ⟨fun q=>absurd (q k (by omega)) (by rw [hx];decide),fun i hi hn=>⟨⟨k,by omega,rfl⟩,hx,?_⟩⟩
 rcases Nat.lt_or_ge i k with c|c
 · rcases hb with q | q
   · rw [h.isnan.1 q i c] at hn;cases hn
   · have:=(h.some i c hn).2.2;omega
 · obtain rfl:i=k:=by omega
   exact Int.le_refl _
theorem Bst.stay {K:Nat→Int}{L:List Nat}{k b:Nat}(h:Bst K L k b) (hx:nanW (L.getD k 0)=false) (hn:nanW b=false) (hb:¬ K (L.getD k 0)<K b):Bst K L (k+1) b:=by
 have hex:∃ i,i<k∧nanW (L.getD i 0)=false:=by
  apply Classical.byContradiction
  intro q
  have:nanW b=true:=h.isnan.2 fun i hi=>by
   cases c:nanW (L.getD i 0)
   · exact absurd ⟨i,hi,c⟩ q
   · rfl
  rw [hn] at this;cases this
 obtain ⟨i0,hi0,hn0⟩:=hex;obtain ⟨⟨j,hj,e⟩,a2,a3⟩:=h.some i0 hi0 hn0;refine ⟨fun q=>absurd (q k (by omega)) (by rw [hx];decide),fun i hi hni=>⟨⟨j,by omega,e⟩,hn,?_⟩⟩
 rcases Nat.lt_or_ge i k with c|c
 · exact (h.some i c hni).2.2
 · obtain rfl:i=k:=by omega
   omega
theorem Bst.end {K:Nat→Int}{L:List Nat}{b:Nat}(hW:W64 L) (hne:L≠[]) (hK:∀ x y,x<18446744073709551616→y<18446744073709551616→nanW x=false→nanW y=false→K x=K y→x=y) (h:Bst K L L.length b):endR K L=(b,0):=by
 unfold endR;rw [if_neg hne]
 by_cases c:stL K L=[]
 · rw [if_pos c,h.none (stL_none c)]
 · rw [if_neg c]
   obtain ⟨a1,a2⟩:=end_nn c;obtain ⟨⟨j,hj,e⟩,b2,b3⟩:=h.some _ a1 a2;have l:=(end_least (K:=K) (xs:=L) _ j (Nat.le_refl _) hj (by rw [←e];exact b2)).2
   rw [←e] at l;have:L.getD ((stL K L).getD 0 0) 0=b:=hK _ _ (hW.get _) (by rw [e];exact hW.get j) a2 b2 (by omega)
   rw [this]
theorem hk_inj20 {x y:Nat}(hx:x<18446744073709551616) (hy:y<18446744073709551616) (fx:nanW x=false) (fy:nanW y=false) (h:hk20 x=hk20 y):x=y:=tk_inj20 hx hy fx fy (by unfold hk20 at h;omega)
section
attribute [local go_sem] B.f64bits B.f64frombits
theorem sameT (x y:Nat) (w:World):Calls Tryz.prog 15 #[.float .f64 x,.float .f64 y] w fun r w'=>r=.returned (.bool (x==y))∧w'=w:=by
 have e2:((x:Int)==(y:Int))=(x==y):=by rw [Bool.eq_iff_iff,beq_iff_eq,beq_iff_eq];omega
 go_enter Tryz.func15,Tryz.ntmps15;go_wp2;exact bodyPost_ret (v:=.bool (x==y)) (by simp [results,Tryz.results15,go_sem,e2]) rfl ⟨rfl,rfl⟩
end
theorem sameT1 (x:Nat) (w:World):Calls Tryz.prog 15 #[.float .f64 x,.float .f64 x] w fun r w'=>r=.returned (.bool true)∧w'=w:=by
 have:=sameT x x w;rw [show (x==x)=true by simp] at this
 exact this
theorem shortT (a:Option Addr) (n c N:Nat) (w:World) (hnc:n≤c) (hN:N=min n 4096) :
 Calls Tryz.prog 6 #[.slice a n c] w fun r w'=>r=.returned (.slice a N c)∧w'=w:=by
 by_cases h:4096<n
 · obtain rfl:N=4096:=by omega
   have d:decide ((4096:Int)<(n:Int))=true:=by simp;omega
   have h2:4096≤c:=by omega
   clear hN hnc;go_enter Tryz.func6,Tryz.ntmps6;go_wp2;go_ret;exact ⟨rfl,rfl⟩
 · obtain rfl:N=n:=by omega
   have d:decide ((4096:Int)<(N:Int))=false:=by simp;omega
   clear hN hnc;go_enter Tryz.func6,Tryz.ntmps6;go_wp2;go_ret;exact ⟨rfl,rfl⟩
theorem oc3 (a b:Int):B.oc a b=-1∨B.oc a b=0∨B.oc a b=1:=by
 unfold B.oc
 split
 · exact .inl rfl
 · split
   · exact .inr (.inr rfl)
   · exact .inr (.inl rfl)
theorem oc_lt (x y:Nat):decide (B.oc (tk20 x) (tk20 y)<0)=decide (tk20 x<tk20 y):=by
 have:=low_key x y
 by_cases h:tk20 x<tk20 y
 · rw [this.2 h,decide_eq_true h];rfl
 · have q:B.oc (tk20 x) (tk20 y)≠-1:=fun e=>h (this.1 e)
   rw [decide_eq_false h];exact decide_eq_false (by rcases oc3 (tk20 x) (tk20 y) with e | e | e <;> omega)
theorem oc_gt (x y:Nat):decide (0<B.oc (tk20 x) (tk20 y))=decide (hk20 x<hk20 y):=by
 have:=high_key x y
 by_cases h:hk20 x<hk20 y
 · rw [this.2 h,decide_eq_true h];rfl
 · have q:B.oc (tk20 x) (tk20 y)≠1:=fun e=>h (this.1 e)
   rw [decide_eq_false h];exact decide_eq_false (by rcases oc3 (tk20 x) (tk20 y) with e | e | e <;> omega)
theorem self_eq (x:Nat) (hx:x<18446744073709551616):(FloatKind.f64.format.order x x==some .eq)=!nanW x:=by
 cases h:nanW x
 · have f:=(nn_iff20 x).1 h
   rw [eq20 hx hx f f];simp
 · exact nanL20 x x ((nan_iff20 x).1 h) _
theorem self_ne (x:Nat) (hx:x<18446744073709551616):(FloatKind.f64.format.order x x != some .eq)=nanW x:=by
 show (!(FloatKind.f64.format.order x x==some .eq))=nanW x
 rw [self_eq x hx,Bool.not_not]
theorem Bst.w {K:Nat→Int}{L:List Nat}{k b:Nat}(h:Bst K L k b) (hW:W64 L):b<18446744073709551616:=by
 by_cases q:∀ i,i<k→nanW (L.getD i 0)=true
 · rw [h.none q];decide
 · apply Classical.byContradiction
   intro c
   apply q
   intro i hi
   cases hn:nanW (L.getD i 0)
   · obtain ⟨⟨j,hj,e⟩,_,_⟩:=h.some i hi hn
     exact absurd (by rw [e];exact hW.get j) c
   · rfl
theorem endsT (L:List Nat) (a:Option Addr) (n c:Nat) (w:World) (hF:Fs w.heap.size w a L) (hn:n=L.length) (hW:W64 L) (hb:n≤4096) :
 Calls Tryz.prog 16 #[.slice a n c] w fun r w'=>(∃ lo hi,r=.returned (.tuple #[.float .f64 lo,.float .f64 hi])∧Bst tk20 L n lo∧Bst hk20 L n hi)∧w'=w:=by
 have HN:=hid (fun u:World=>B.nan_any u)
 have HX:=(qsd (ai hF (ai hn hW)));clear hF hn hW;go_enter Tryz.func16,Tryz.ntmps16
 go_wp2_with fail
 refine (HN.out _).mono ?_;rintro r u ⟨rfl,hu⟩;rw [hu];clear hu u
 go_wp2_with fail
 refine (HN.out _).mono ?_;rintro r u ⟨rfl,hu⟩;rw [hu];clear hu u HN;go_wp2
 go_loopg [4,5,12] n (fun gk lv hv iv wr=>∃ k lo hi:Nat,gk+k=n∧iv=.int .i64 (k:Nat)∧lv=.float .f64 lo∧hv=.float .f64 hi∧wr=w∧Aside (Bst tk20 L k lo∧Bst hk20 L k hi))
 case atStart=>exact ⟨0,9221120237041090560,9221120237041090560,by omega,by simp,rfl,rfl,rfl,Bst.zero _ _,Bst.zero _ _⟩
 case round =>
  obtain ⟨k,lo,hi,hgk,rfl,rfl,rfl,hwr,HA⟩:=hrel;rw [hwr];clear hwr wr
  by_cases hk:k<n
  · obtain ⟨b,off,rfl,hc⟩:=HX.out.1.at (Below.refl _ _) k (by rw [←HX.out.2.1];exact hk)
    obtain ⟨x,hx⟩:∃ x,x=L.getD k 0:=⟨_,rfl⟩;rw [←hx] at hc;have hx6:x<18446744073709551616:=by rw [hx];exact HX.out.2.2.get k
    have hl6:=HA.out.1.w HX.out.2.2;have hh6:=HA.out.2.w HX.out.2.2;have hd:decide ((k:Int)<n)=true:=by simp;omega
    have hkb:k<4611686018427387904:=by omega
    have o1:=self_ne x hx6
    cases fx:nanW x
    · rw [fx] at o1
      have hxk:nanW (L.getD k 0)=false:=by rw [←hx];exact fx
      have o2:=self_ne lo hl6;have o3:=self_ne hi hh6
      cases fl:nanW lo
      · have fh:nanW hi=false:=by
         cases q:nanW hi
         · rfl
         · have:=HA.out.1.isnan.2 (HA.out.2.isnan.1 q);rw [fl] at this;cases this
        rw [fl] at o2;rw [fh] at o3;have C1:=hid (order20 hx6 hl6 w);have C2:=hid (order20 hx6 hh6 w);have e1:=oc_lt x lo;have e2:=oc_gt x hi;obtain ⟨p1,hp1⟩:∃ p,p=B.oc (tk20 x) (tk20 lo):=⟨_,rfl⟩;obtain ⟨p2,hp2⟩:∃ p,p=B.oc (tk20 x) (tk20 hi):=⟨_,rfl⟩;rw [←hp1] at C1 e1;rw [←hp2] at C2 e2
        have HK:Aside ((tk20 x<tk20 lo→Bst tk20 L (k+1) x)∧(¬ tk20 x<tk20 lo→Bst tk20 L (k+1) lo)∧(hk20 x<hk20 hi→Bst hk20 L (k+1) x)∧(¬ hk20 x<hk20 hi→Bst hk20 L (k+1) hi)):=by
         rw [hx];exact ⟨fun q=>HA.out.1.put hxk (.inr q),fun q=>HA.out.1.stay hxk fl q,fun q=>HA.out.2.put hxk (.inr q),fun q=>HA.out.2.stay hxk fh q⟩
        clear HA hx hx6 hl6 hh6 hp1 hp2 fl fh hxk fx
        by_cases t1:tk20 x<tk20 lo
        · rw [decide_eq_true t1] at e1
          by_cases t2:hk20 x<hk20 hi
          · rw [decide_eq_true t2] at e2
            have HR:=qsd (ai (HK.out.1 t1) (HK.out.2.2.1 t2));clear t1 t2 HK
            go_wp2_with fail
            refine C1.out.mono ?_;rintro r u ⟨rfl,hu⟩;rw [hu];clear hu u C1
            go_wp2_with fail
            refine C2.out.mono ?_;rintro r u ⟨rfl,hu⟩;rw [hu];clear hu u C2;go_wp2
            go_roundg (gk-1)
            case measure=>omega
            case rel=>exact ⟨k+1,x,x,by omega,by first | rfl | simp,rfl,rfl,rfl,HR.out⟩
          · rw [decide_eq_false t2] at e2
            have HR:=qsd (ai (HK.out.1 t1) (HK.out.2.2.2 t2));clear t1 t2 HK
            go_wp2_with fail
            refine C1.out.mono ?_;rintro r u ⟨rfl,hu⟩;rw [hu];clear hu u C1
            go_wp2_with fail
            refine C2.out.mono ?_;rintro r u ⟨rfl,hu⟩;rw [hu];clear hu u C2;go_wp2
            go_roundg (gk-1)
            case measure=>omega
            case rel=>exact ⟨k+1,x,hi,by omega,by first | rfl | simp,rfl,rfl,rfl,HR.out⟩
        · rw [decide_eq_false t1] at e1
          by_cases t2:hk20 x<hk20 hi
          · rw [decide_eq_true t2] at e2
            have HR:=qsd (ai (HK.out.2.1 t1) (HK.out.2.2.1 t2));clear t1 t2 HK
            go_wp2_with fail
            refine C1.out.mono ?_;rintro r u ⟨rfl,hu⟩;rw [hu];clear hu u C1
            go_wp2_with fail
            refine C2.out.mono ?_;rintro r u ⟨rfl,hu⟩;rw [hu];clear hu u C2;go_wp2
            go_roundg (gk-1)
            case measure=>omega
            case rel=>exact ⟨k+1,lo,x,by omega,by first | rfl | simp,rfl,rfl,rfl,HR.out⟩
          · rw [decide_eq_false t2] at e2
            have HR:=qsd (ai (HK.out.2.1 t1) (HK.out.2.2.2 t2));clear t1 t2 HK
            go_wp2_with fail
            refine C1.out.mono ?_;rintro r u ⟨rfl,hu⟩;rw [hu];clear hu u C1
            go_wp2_with fail
            refine C2.out.mono ?_;rintro r u ⟨rfl,hu⟩;rw [hu];clear hu u C2;go_wp2
            go_roundg (gk-1)
            case measure=>omega
            case rel=>exact ⟨k+1,lo,hi,by omega,by first | rfl | simp,rfl,rfl,rfl,HR.out⟩
      · have fh:nanW hi=true:=HA.out.2.isnan.2 (HA.out.1.isnan.1 fl)
        rw [fl] at o2;rw [fh] at o3
        have HR:Aside (Bst tk20 L (k+1) x∧Bst hk20 L (k+1) x):=by
         rw [hx];exact ⟨HA.out.1.put hxk (.inl fl),HA.out.2.put hxk (.inl fh)⟩
        clear HA hx hx6 hl6 hh6 fl fh hxk fx;go_wp2
        go_roundg (gk-1)
        case measure=>omega
        case rel=>exact ⟨k+1,x,x,by omega,by first | rfl | simp,rfl,rfl,rfl,HR.out⟩
    · rw [fx] at o1
      have HR:Aside (Bst tk20 L (k+1) lo∧Bst hk20 L (k+1) hi):=⟨HA.out.1.nan (by rw [←hx];exact fx),HA.out.2.nan (by rw [←hx];exact fx)⟩
      clear HA hx hx6 hl6 hh6 fx;go_wp2
      go_roundg (gk-1)
      case measure=>omega
      case rel=>exact ⟨k+1,lo,hi,by omega,by first | rfl | simp,rfl,rfl,rfl,HR.out⟩
  · obtain rfl:n=k:=by omega
    have hd:decide ((n:Int)<n)=false:=by simp
    clear hgk hk;go_wp2
    go_ret2
    exact ⟨⟨lo,hi,rfl,HA.out⟩,rfl⟩
end
section
open Go.RowKit J
def rfE20 (s:Sp) (mode a b:Int):Int:=if mode<0∨4<mode∨may a b=false then 1 else if 0<s.n∧a=2 then 60 else if 0<s.u+s.d∧b=2 then 61 else 0
theorem refused20 (s:Sp) (mode a b:Int) (w:World) (h0:0≤s.n∧s.n≤65536) (h1:0≤s.u∧s.u≤65536) (h2:0≤s.d∧s.d≤65536) :
 Calls Tryz.prog 30 #[s.agg,.int .i64 mode,.agg #[.int .i64 a,.int .i64 b]] w fun r w'=>r=.returned (.int .i64 (rfE20 s mode a b))∧Below w.heap.size w w':=by
 obtain ⟨n,u,d,m,p,l⟩:=s;simp only at h0 h1 h2;obtain ⟨z,hz⟩:∃ z,z=rfE20 ⟨n,u,d,m,p,l⟩ mode a b:=⟨_,rfl⟩;rw [←hz];unfold rfE20 at hz;simp only at hz;unfold Sp.agg;simp only;have HM:=hid (fun u:World=>May_any a b u)
 have E0:=qsd ((bel_alloc w (Obj.cells #[.int .i64 n,.int .i64 u,.int .i64 d,.int .i64 m,.int .i64 p,.int .i64 l] 59)).trans ((bel_alloc (w.alloc (Obj.cells #[.int .i64 n,.int .i64 u,.int .i64 d,.int .i64 m,.int .i64 p,.int .i64 l] 59)) (Obj.cells #[.int .i64 a,.int .i64 b] 24)).mono (by simp)))
 have wud:IntKind.i64.wrap (u+d)=u+d:=by simp [IntKind.wrap,IntKind.bits,IntKind.signed];omega
 by_cases hm0:mode<0
 · have b0:decide (mode<0)=true:=decide_eq_true hm0
   rw [if_pos (.inl hm0)] at hz;subst hz;clear HM;go_enter Tryz.func30,Tryz.ntmps30;go_wp2;go_ret;exact ⟨rfl,E0.out⟩
 · have b0:decide (mode<0)=false:=decide_eq_false hm0
   by_cases hm4:4<mode
   · have b1:decide (4<mode)=true:=decide_eq_true hm4
     rw [if_pos (.inr (.inl hm4))] at hz;subst hz;clear HM;go_enter Tryz.func30,Tryz.ntmps30;go_wp2;go_ret;exact ⟨rfl,E0.out⟩
   · have b1:decide (4<mode)=false:=decide_eq_false hm4
     cases hab:may a b with
     | false =>
       rw [if_pos (.inr (.inr hab))] at hz;subst hz;rw [hab] at HM;go_enter Tryz.func30,Tryz.ntmps30
       go_wp2_with fail
       refine (HM.out _).mono ?_;rintro r w1 ⟨rfl,hb1⟩;have E1:=qsd (E0.out.trans (hb1.mono E0.out.size));clear hb1;go_wp2;go_ret;exact ⟨rfl,E1.out⟩
     | true =>
       rw [if_neg (by rw [hab];simp;omega)] at hz
       rw [hab] at HM;have P:∀ w1:World,Below ((w.alloc (Obj.cells #[.int .i64 n,.int .i64 u,.int .i64 d,.int .i64 m,.int .i64 p,.int .i64 l] 59)).alloc (Obj.cells #[.int .i64 a,.int .i64 b] 24)).heap.size ((w.alloc (Obj.cells #[.int .i64 n,.int .i64 u,.int .i64 d,.int .i64 m,.int .i64 p,.int .i64 l] 59)).alloc (Obj.cells #[.int .i64 a,.int .i64 b] 24)) w1→Bl w1 w.heap.size 59 [.int .i64 n,.int .i64 u,.int .i64 d,.int .i64 m,.int .i64 p,.int .i64 l]∧Bl w1 (w.heap.size+1) 24 [.int .i64 a,.int .i64 b]:=fun w1 hb=>⟨((Bl.new w 59 [_,_,_,_,_,_]).alloc _).below hb (by simp;omega),(Bl.new' (w.alloc _) 24 _ [_,_] (by simp)).below hb (by simp)⟩
       have HP:=qsd P;clear P
       by_cases q1:0<n∧a=2
       · rw [if_pos q1] at hz
         subst hz;have t1:decide (0<n)=true:=decide_eq_true q1.1;have t2:(a==2)=true:=by simpa using q1.2
         clear hab q1;go_enter Tryz.func30,Tryz.ntmps30
         go_wp2_with fail
         refine (HM.out _).mono ?_;rintro r w1 ⟨rfl,hb1⟩;have E1:=qsd (E0.out.trans (hb1.mono E0.out.size));have c0:=(HP.out w1 hb1).1.cell 0 _ rfl;have c1:=(HP.out w1 hb1).2.cell 0 _ rfl;clear hb1;go_wp2;go_ret;exact ⟨rfl,E1.out⟩
       · rw [if_neg q1] at hz
         by_cases q2:0<u+d∧b=2
         · rw [if_pos q2] at hz
           subst hz;have t1:decide (0<u+d)=true:=decide_eq_true q2.1;have t2:(b==2)=true:=by simpa using q2.2
           clear hab
           by_cases q3:0<n
           · have t3:decide (0<n)=true:=decide_eq_true q3
             have t4:(a==2)=false:=by simpa using fun h=>q1 ⟨q3,h⟩
             clear q1 q2;go_enter Tryz.func30,Tryz.ntmps30
             go_wp2_with fail
             refine (HM.out _).mono ?_;rintro r w1 ⟨rfl,hb1⟩;have E1:=qsd (E0.out.trans (hb1.mono E0.out.size));have c0:=(HP.out w1 hb1).1.cell 0 _ rfl;have c1:=(HP.out w1 hb1).2.cell 0 _ rfl;have c2:=(HP.out w1 hb1).1.cell 1 _ rfl;have c3:=(HP.out w1 hb1).1.cell 2 _ rfl;have c4:=(HP.out w1 hb1).2.cell 1 _ rfl;clear hb1;go_wp2;go_ret;exact ⟨rfl,E1.out⟩
           · have t3:decide (0<n)=false:=decide_eq_false q3
             clear q1 q2;go_enter Tryz.func30,Tryz.ntmps30
             go_wp2_with fail
             refine (HM.out _).mono ?_;rintro r w1 ⟨rfl,hb1⟩;have E1:=qsd (E0.out.trans (hb1.mono E0.out.size));have c0:=(HP.out w1 hb1).1.cell 0 _ rfl;have c1:=(HP.out w1 hb1).2.cell 0 _ rfl;have c2:=(HP.out w1 hb1).1.cell 1 _ rfl;have c3:=(HP.out w1 hb1).1.cell 2 _ rfl;have c4:=(HP.out w1 hb1).2.cell 1 _ rfl;clear hb1;go_wp2;go_ret;exact ⟨rfl,E1.out⟩
         · rw [if_neg q2] at hz
           subst hz;clear hab;have k1:decide (0<n)=true→(a==2)=false:=fun h=>by simpa using fun e=>q1 ⟨of_decide_eq_true h,e⟩
           have k2:decide (0<u+d)=true→(b==2)=false:=fun h=>by simpa using fun e=>q2 ⟨of_decide_eq_true h,e⟩
           obtain ⟨t1,ht1⟩:∃ t,decide (0<n)=t:=⟨_,rfl⟩;obtain ⟨t2,ht2⟩:∃ t,decide (0<u+d)=t:=⟨_,rfl⟩;rw [ht1] at k1;rw [ht2] at k2;clear q1 q2
           cases t1 <;> cases t2 <;> (
            first | have a2:=k1 rfl | skip
            first | have b2:=k2 rfl | skip
            clear k1 k2;go_enter Tryz.func30,Tryz.ntmps30
            go_wp2_with fail
            refine (HM.out _).mono ?_;rintro r w1 ⟨rfl,hb1⟩;have E1:=qsd (E0.out.trans (hb1.mono E0.out.size));have c0:=(HP.out w1 hb1).1.cell 0 _ rfl;have c1:=(HP.out w1 hb1).2.cell 0 _ rfl;have c2:=(HP.out w1 hb1).1.cell 1 _ rfl;have c3:=(HP.out w1 hb1).1.cell 2 _ rfl;have c4:=(HP.out w1 hb1).2.cell 1 _ rfl;clear hb1;go_wp2;go_ret;exact ⟨rfl,E1.out⟩)
theorem finite20 (s:Sp) (w:World) (h0:0≤s.n∧s.n≤65536) (h1:0≤s.u∧s.u≤65536) (h2:0≤s.d∧s.d≤65536) (h3:0≤s.a∧s.a≤65536) :
 Calls Tryz.prog 33 #[s.agg] w fun r w'=>r=.returned (.int .i64 (s.a-s.n-s.u-s.d))∧Below w.heap.size w w':=by
 obtain ⟨n,u,d,m,p,l⟩:=s;simp only at h0 h1 h2 h3;unfold Sp.agg;simp only;have w1:IntKind.i64.wrap (l-n)=l-n:=by simp [IntKind.wrap,IntKind.bits,IntKind.signed];omega
 have w2:IntKind.i64.wrap (l-n-u)=l-n-u:=by simp [IntKind.wrap,IntKind.bits,IntKind.signed];omega
 have w3:IntKind.i64.wrap (l-n-u-d)=l-n-u-d:=by simp [IntKind.wrap,IntKind.bits,IntKind.signed];omega
 go_enter Tryz.func33,Tryz.ntmps33;go_wp2;go_ret;exact ⟨rfl,bel_alloc _ _⟩
end
section
open Go.RowKit
def negO (o:Option (Bool×Nat×Int)):Option (Bool×Nat×Int):=match o with
 | none=>none
 | some (n,X,e)=>mkS (!n) X e
theorem negO_mkS (n:Bool) (X:Nat) (e:Int):negO (mkS n X e)=mkS (!n) X e:=by
 by_cases h0:X=0
 · subst h0;rw [mkS_zero,mkS_zero];rfl
 · cases ho:mkS n X e with
   | none =>
     unfold mkS at ho ⊢;rw [if_neg h0] at ho ⊢
     split at ho
     · rename_i h;rw [if_pos h];rfl
     · cases ho
   | some d =>
     unfold mkS at ho ⊢;rw [if_neg h0] at ho ⊢
     split at ho
     · cases ho
     · rename_i h
       cases ho
       rw [if_neg h]
       show mkS (!n) (X/2^lo X) (e+lo X)=_
       have hF:Frm n (X/2^lo X) (e+lo X):=mkS_frm (n:=n) (X:=X) (e:=e) (by unfold mkS;rw [if_neg h0,if_neg h])
       have hF2:Frm (!n) (X/2^lo X) (e+lo X):=⟨by
        rcases hF.odd with q|⟨q,_,_⟩
        · exact .inl q
        · exfalso
          obtain ⟨k,h2,h3,h4⟩:=odd_part X h0
          omega,hF.size,hF.up,hF.down⟩
       exact hF2.self
theorem negO_reform {o:Option (Bool×Nat×Int)}(hs:o.isSome=true):mkS (!(dN o)) (dX o) (dE o)=negO o:=by
 cases o with
 | none=>cases hs
 | some d=>rfl
theorem mkS_pow11 (n:Bool) (k Y:Nat) (e:Int):mkS n (2^k*Y) e=mkS n Y (e+k):=by
 induction k generalizing e with
 | zero=>simp
 | succ k ih=>rw [Nat.pow_succ,Nat.mul_comm (2^k) 2,Nat.mul_assoc,mkS_double,ih];congr 1;omega
def Iv (o:Option (Bool×Nat×Int)) (lo hi:Int):Prop:=∃ n X e,o=some (n,X,e)∧Frm n X e∧(X=0∨(lo≤e∧e+(bl X:Int)≤hi))
theorem Iv.mono {o:Option (Bool×Nat×Int)}{a b c d:Int}(h:Iv o a b) (h1:c≤a) (h2:b≤d):Iv o c d:=by
 obtain ⟨n,X,e,h,F,hb⟩:=h;exact ⟨n,X,e,h,F,by omega⟩
theorem mkS_iv (n:Bool) (X:Nat) (e a b:Int) (h:X=0∨(a≤e∧e+(bl X:Int)≤b)) (hw:b-a≤262144) (ha:-1048576≤a) (hb:b≤1048576):Iv (mkS n X e) a b:=by
 by_cases h0:X=0
 · subst h0
   rw [mkS_zero];exact ⟨false,0,0,rfl,⟨.inr ⟨rfl,rfl,rfl⟩,by rw [bl_zero];omega,by omega,by omega⟩,.inl rfl⟩
 · obtain ⟨h1,h2⟩:=h.resolve_left h0
   obtain ⟨k,o1,o2,o3⟩:=odd_part X h0;have hp:=bl_pos (X/2^lo X) (by omega)
   have e1:mkS n X e=some (n,X/2^lo X,e+lo X):=by
    unfold mkS;rw [if_neg h0,if_neg (by omega)]
   exact ⟨n,_,_,e1,mkS_frm e1,.inr (by omega)⟩
theorem bl_mul_le (X Y:Nat):bl (X*Y)≤bl X+bl Y:=bl_lt_pow (by rw [Nat.pow_add];exact Nat.mul_lt_mul'' (bl_lt X) (bl_lt Y))
theorem Iv.mul {o p:Option (Bool×Nat×Int)}{a b c d:Int}(h1:Iv o a b) (h2:Iv p c d) (hw:(b+d)-(a+c)≤262144) (hl:-1048576≤a+c) (hh:b+d≤1048576):Iv (mulD o p) (a+c) (b+d):=by
 obtain ⟨n,X,e,rfl,F,hx⟩:=h1;obtain ⟨m,Y,f,rfl,G,hy⟩:=h2
 show Iv (mkS (n != m) (X*Y) (e+f)) _ _
 refine mkS_iv _ _ _ _ _ ?_ hw hl hh
 rcases hx with rfl|hx
 · left;rw [Nat.zero_mul]
 · rcases hy with rfl | hy
   · left;rw [Nat.mul_zero]
   · right
     have:=bl_mul_le X Y;omega
theorem pow_bound {X k:Nat}{j:Nat}(h:bl X+k≤j):X*2^k<2^j:=by
 have h1:=bl_lt X;have h2:X*2^k<2^bl X*2^k:=Nat.mul_lt_mul_of_pos_right h1 (Nat.two_pow_pos k);rw [←Nat.pow_add] at h2;exact Nat.lt_of_lt_of_le h2 (Nat.pow_le_pow_right (by decide) h)
theorem addUp_iv (n m:Bool) (X Y:Nat) (e f a b:Int) (hfe:f≤e) (ha:a≤f) (h1:e+(bl X:Int)≤b) (h2:f+(bl Y:Int)≤b) (hw:b+1-a≤262144) (hl:-1048576≤a) (hh:b+1≤1048576) (hX:X≠0):Iv (addUp n X e m Y f) a (b+1):=by
 have hp:=bl_pos X hX;unfold addUp;rw [if_neg (by omega)]
 obtain ⟨j,hj⟩:∃ j:Nat,(j:Int)=b-f:=⟨(b-f).toNat,by omega⟩
 have b1:X*2^(e-f).toNat<2^j:=pow_bound (by omega)
 have b2:Y<2^j:=Nat.lt_of_lt_of_le (bl_lt Y) (Nat.pow_le_pow_right (by decide) (by omega))
 have fin:∀ (s:Bool) (Z:Nat),Z<2^(j+1)→Iv (mkS s Z f) a (b+1):=by
  intro s Z hZ;refine mkS_iv s Z f a (b+1) ?_ hw hl hh
  by_cases h0:Z=0
  · exact .inl h0
  · right
    have:=bl_lt_pow hZ;omega
 have b3:(2:Nat)^(j+1)=2*2^j:=by rw [Nat.pow_succ,Nat.mul_comm]
 split
 · exact fin _ _ (by omega)
 · split
   · exact fin _ _ (by omega)
   · exact fin _ _ (by omega)
theorem Iv.add {o p:Option (Bool×Nat×Int)}{a b:Int}(h1:Iv o a b) (h2:Iv p a b) (hw:b+1-a≤262144) (hl:-1048576≤a) (hh:b+1≤1048576):Iv (addD o p) a (b+1):=by
 have h1':=h1;have h2':=h2;obtain ⟨n,X,e,rfl,F,hx⟩:=h1;obtain ⟨m,Y,f,rfl,G,hy⟩:=h2
 show Iv (addF (n,X,e) (m,Y,f)) a (b+1)
 unfold addF;simp only
 by_cases hX:X=0
 · rw [if_pos hX];exact h2'.mono (by omega) (by omega)
 · rw [if_neg hX]
   by_cases hY:Y=0
   · rw [if_pos hY];exact h1'.mono (by omega) (by omega)
   · rw [if_neg hY]
     have ex:=hx.resolve_left hX;have ey:=hy.resolve_left hY
     split
     · exact addUp_iv m n Y X f e a b (by omega) ex.1 ey.2 ex.2 hw hl hh hY
     · exact addUp_iv n m X Y e f a b (by omega) ey.1 ex.2 ey.2 hw hl hh hX
def valO (o:Option (Bool×Nat×Int)):Int:=zv (-1048576) (dN o,dX o,dE o)
theorem fvO {o:Option (Bool×Nat×Int)}{n:Bool}{X:Nat}{e:Int}(h:mkS n X e=o) (hs:o.isSome=true):Fv (-1048576) o (valO o):=by
 cases o with
 | none=>cases hs
 | some d=>obtain ⟨n1,X1,e1⟩:=d;exact ⟨n1,X1,e1,rfl,mkS_frm h,rfl⟩
theorem Fv.reform {o:Option (Bool×Nat×Int)}{B z:Int}(h:Fv B o z):mkS (dN o) (dX o) (dE o)=o:=by
 obtain ⟨n,X,e,rfl,F,rfl⟩:=h.ex;exact F.self
theorem Fv.len {o:Option (Bool×Nat×Int)}{B z:Int}(h:Fv B o z):(ws (dX o)).length≤8192:=by
 obtain ⟨n,X,e,rfl,F,_⟩:=h.ex;exact frm_len F
def Fm (o:Option (Bool×Nat×Int)):Prop:=∃ B x,Fv B o x
theorem Fm.len {o:Option (Bool×Nat×Int)}(h:Fm o):(ws (dX o)).length≤8192:=by obtain ⟨B,x,h⟩:=h;exact h.len
theorem Fm.re {o:Option (Bool×Nat×Int)}(h:Fm o):mkS (dN o) (dX o) (dE o)=o:=by obtain ⟨B,x,h⟩:=h;exact h.reform
theorem Fm.rng {o:Option (Bool×Nat×Int)}(h:Fm o):-9223372036854775808≤dE o∧dE o≤9223372036854775807:=by
 obtain ⟨B,x,h⟩:=h;obtain ⟨n,X,e,rfl,F,_⟩:=h.ex;have:=F.up;have:=F.down
 show -9223372036854775808≤e∧e≤9223372036854775807
 omega
theorem vK_zero:vK 0=0:=by
 have:=vK_word 0 0 (.inl rfl) (by omega)
 simpa using this
def fo8 (V:Int):Option (Bool×Nat×Int):=mkS (decide (V<0)) V.natAbs (-1074)
theorem sg1_abs (V:Int):sg1 (decide (V<0))*(V.natAbs:Int)=V:=by
 unfold sg1
 by_cases h:V<0
 · rw [decide_eq_true h,if_pos rfl];omega
 · rw [decide_eq_false h,if_neg (by decide)];omega
theorem fo8_fo (V:Int) (m:Nat) (hm:m≤200000) (hV:V.natAbs<2^m):Fo (fo8 V) (V*(UU:Int)) (-1074) ((m:Int)-1074):=by
 by_cases h0:V=0
 · subst h0
   refine ⟨⟨false,0,0,?_,?_,?_,.inl rfl⟩⟩
   · unfold fo8;exact mkS_zero _ _
   · exact mkS_frm (mkS_zero false 0)
   · rw [zv_zero _ rfl];simp
 · obtain ⟨X,e,h1,h2,h3,h4⟩:=mkS_sz (decide (V<0)) V.natAbs (-1074) (-1074) ((m:Int)-1074) (by omega) (by omega) (by have:=blLe hV;omega) (by omega) (by omega) (by omega)
   refine ⟨⟨_,X,e,h1,mkS_frm h1,?_,.inr ⟨h3,h4⟩⟩⟩;rw [zv_mkS h1 (-2097152) (.inr (by omega))]
   have e1:(2:Nat)^((-1074:Int) - -2097152).toNat=UU*SS:=US _ (by decide)
   rw [e1,Int.natCast_mul,Int.natCast_mul,←Int.mul_assoc,sg1_abs,Int.mul_assoc]
theorem fo8_one {o:Option (Bool×Nat×Int)}{V L H:Int}(h:Fo o (V*(UU:Int)) L H) (m:Nat) (hm:m≤200000) (hV:V.natAbs<2^m):o=fo8 V:=by
 obtain ⟨n,X,e,rfl,F1,z1,_⟩:=h.ex;obtain ⟨n',X',e',h2,F2,z2,_⟩:=(fo8_fo V m hm hV).ex;rw [h2];obtain ⟨rfl,rfl,rfl⟩:=zv_inj F1 F2 (-2097152) (by omega) (by rw [z1,z2])
 rfl
theorem top_fv {x:Nat}(hx:Wd x) (fx:finW x) (m:Nat) (hm:m=2098):(fvW x).natAbs<2^m:=by
 unfold fvW;rw [sg_abs];have:=top_v (magW x) fx 2045 rfl;obtain ⟨a,ha⟩:∃ a,a=2045:=⟨_,rfl⟩;have h2:=top_v (magW x) fx a ha;rw [show m=53+a by omega,Nat.pow_add]
 exact h2
theorem of_fo8 {x:Nat}(hx:Wd x) (fx:finW x):ofK (negW x) (magW x)=fo8 (fvW x):=by
 obtain ⟨n,X,e,h1,h2,_⟩:=of_fo (negW x) (magW x) fx;rw [h1];exact fo8_one h2 2098 (by omega) (top_fv hx fx 2098 rfl)
end
end Go.Proofs.YthejkolknalpaaaGreatDoor
