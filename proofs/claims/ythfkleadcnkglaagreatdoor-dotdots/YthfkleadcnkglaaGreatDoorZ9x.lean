import Derived.Test.YthfkleadcnkglaaGreatDoorZ5x
import Derived.Test.YthfkleadcnkglaaGreatDoorD32cx
import Derived.Deep.OwnRows
import Derived.Deep.LoopGhost
import Derived.Deep.RegionHeld3
import Derived.Test.YthfkleadcnkglaaGreatDoorD16x
import Derived.Test.YthfkleadcnkglaaGreatDoorD21x
import Derived.Deep.Cut
import Derived.Test.YthfkleadcnkglaaGreatDoorP2x
import Derived.Test.YthfkleadcnkglaaGreatDoorD5x
import Derived.Test.YthfkleadcnkglaaGreatDoorS5x
import Derived.Laws.FloatArith
import Derived.Test.YthfkleadcnkglaaGreatDoorO4x
import Derived.Test.YthfkleadcnkglaaGreatDoorX6x
import Derived.Test.YthfkleadcnkglaaGreatDoorW44x
import Derived.Deep.CutRange
import Derived.BigQuiet
import Derived.Test.YthfkleadcnkglaaGreatDoorW9x
import Derived.ProofKit
import Derived.OpenShut
import Derived.ChangeOld
import Derived.SizedLaws
import Derived.ChangeArms
import Derived.KernelRfl
import Derived.ArgAppend
import Derived.Maps.AppendAt
import Derived.WalkMore
import Derived.OwnWalk
import Derived.Deep.RegionWith
set_option linter.unusedVariables false
set_option linter.unusedSimpArgs false
set_option maxHeartbeats 16000000
set_option maxRecDepth 20000
namespace Go.Proofs.YthfkleadcnkglaaGreatDoor
namespace J
end J
section
open Go.RowKit
theorem infoR:(Tryz.prog.info? 119).map (fun i=>(i.zero,i.size,i.bytes))=some (some (.agg #[.bool false,.slice none 0 0,.int .i64 0,.bool false,.slice none 0 0,.int .i64 0]),6,80):=by kernel_rfl
theorem make_ratios1 (w:World) :
 (Instr.makeSlice 191 (.int .i64 1) (.int .i64 1)).run Tryz.prog w=.ok (.slice (some ⟨w.heap.size,0,none⟩) 1 1) (w.alloc (.cells #[.bool false,.slice none 0 0,.int .i64 0,.bool false,.slice none 0 0,.int .i64 0] 119)):=by
 have h:=infoR;have e:IntKind.i64.wrap 1=1:=by decide
 cases hq:Tryz.prog.info? 119 with
 | none=>rw [hq] at h;simp at h
 | some i =>
   rw [hq] at h;simp at h;simp [Instr.makeSlice,go_sem,Tryz.underlying191,hq,h,typeInfo,e]
structure Ri where
 n:Bool
 v:Value
 X:Nat
 e:Int
 m:Bool
 u:Value
 Y:Nat
 f:Int
def Av (w:World) (v:Value) (X:Nat):Prop:=∃ a l c xs,v=.slice a l c∧Arg w a l c xs∧val xs=X
theorem Av.below {w w':World}{v:Value}{X:Nat}(h:Av w v X) (hb:Below w.heap.size w w'):Av w' v X:=by
 obtain ⟨a,l,c,xs,rfl,hA,hv⟩:=h;exact ⟨a,l,c,xs,rfl,hA.below hb,hv⟩
theorem Nt.av {lo:Nat}{w:World}{v:Value}{X:Nat}(h:Nt lo w v X) (hs:(ws X).length≤35184372088832):Av w v X:=by
 obtain ⟨a,c,rfl,hA⟩:=h.arg hs;exact ⟨a,_,c,_,rfl,hA,val_ws X⟩
def Row6 (w:World) (g k:Nat) (I:Nat→Ri):Prop:=∃ cur:Array Value,w.heap[g]?=some (.cells cur 119 (0,0))∧∀ i,i<k→cur[i*6]?=some (.bool (I i).n)∧cur[i*6+1]?=some (I i).v∧cur[i*6+2]?=some (.int .i64 (I i).e)∧cur[i*6+3]?=some (.bool (I i).m)∧cur[i*6+4]?=some (I i).u∧cur[i*6+5]?=some (.int .i64 (I i).f)
theorem Row6.lt {w:World}{g k:Nat}{I:Nat→Ri}(h:Row6 w g k I):g<w.heap.size:=by obtain ⟨c,h,_⟩:=h;exact (Array.getElem?_eq_some_iff.1 h).1
theorem Row6.below {w w':World}{g k:Nat}{I:Nat→Ri}(h:Row6 w g k I) (hb:Below w.heap.size w w'):Row6 w' g k I:=by
 have hl:=h.lt;obtain ⟨c,h,r⟩:=h;exact ⟨c,by rw [hb.block g hl];exact h,r⟩
theorem Row6.facts {w:World}{g k:Nat}{I:Nat→Ri}(h:Row6 w g k I) (i:Nat) (hi:i<k) :
 w.cell? ⟨g,i*6,none⟩=some (.bool (I i).n)∧w.cell? ⟨g,i*6+1,none⟩=some (I i).v∧w.cell? ⟨g,i*6+2,none⟩=some (.int .i64 (I i).e)∧w.cell? ⟨g,i*6+3,none⟩=some (.bool (I i).m)∧w.cell? ⟨g,i*6+4,none⟩=some (I i).u∧w.cell? ⟨g,i*6+5,none⟩=some (.int .i64 (I i).f):=by
 obtain ⟨c,h,r⟩:=h;obtain ⟨r0,r1,r2,r3,r4,r5⟩:=r i hi;simp [World.cell?,h,r0,r1,r2,r3,r4,r5]
def errL (I:Nat→Ri) (k:Nat):Int :=
 if (List.range k).any (fun i=>decide (sgn (I i).m (I i).Y<0)) then 1
 else if (List.range k).any (fun i=>!((mkS (I i).n (I i).X (I i).e).isSome&&(mkS (I i).m (I i).Y (I i).f).isSome)) then 2
 else if (List.range k).any (fun i=>decide (dX (mkS (I i).m (I i).Y (I i).f)=0)) then 21 else 0
theorem any_of {k i:Nat}{p:Nat→Bool}(hi:i<k) (h:p i=true):(List.range k).any p=true:=List.any_eq_true.2 ⟨i,List.mem_range.2 hi,h⟩
theorem any_no {k:Nat}{p:Nat→Bool}(h:∀ i,i<k→p i=false):(List.range k).any p=false:=by
 rw [List.any_eq_false];intro i hi;rw [h i (List.mem_range.1 hi)];simp
structure RIn (w:World) (g k:Nat) (I:Nat→Ri):Prop where
 row:Row6 w g k I
 one:∀ i,i<k→Av w (I i).v (I i).X∧Av w (I i).u (I i).Y
 rng:∀ i,i<k→-9223372036854775808≤(I i).e∧(I i).e≤9223372036854775807∧-9223372036854775808≤(I i).f∧(I i).f≤9223372036854775807
 tab:Tab w
theorem RIn.below {w w':World}{g k:Nat}{I:Nat→Ri}(h:RIn w g k I) (hb:Below w.heap.size w w'):RIn w' g k I :=
 ⟨h.row.below hb,fun i hi=>⟨(h.one i hi).1.below hb,(h.one i hi).2.below hb⟩,h.rng,h.tab.belows hb⟩
def frmI (I:Nat→Ri) (V:Nat→Value×Value) (i:Nat):Ri :=
 ⟨dN (mkS (I i).n (I i).X (I i).e),(V i).1,dX (mkS (I i).n (I i).X (I i).e),dE (mkS (I i).n (I i).X (I i).e),dN (mkS (I i).m (I i).Y (I i).f),(V i).2,dX (mkS (I i).m (I i).Y (I i).f),dE (mkS (I i).m (I i).Y (I i).f)⟩
structure ROut (lo:Nat) (w:World) (g k:Nat) (I:Nat→Ri) (V:Nat→Value×Value):Prop where
 row:Row6 w g k (frmI I V)
 own:lo≤g
 nts:∀ i,i<k→Nt lo w (V i).1 (dX (mkS (I i).n (I i).X (I i).e))∧Nt lo w (V i).2 (dX (mkS (I i).m (I i).Y (I i).f))
theorem ROut.below {lo:Nat}{w w':World}{g k:Nat}{I:Nat→Ri}{V:Nat→Value×Value}(h:ROut lo w g k I V) (hb:Below w.heap.size w w'):ROut lo w' g k I V :=
 ⟨h.row.below hb,h.own,fun i hi=>⟨(h.nts i hi).1.below hb,(h.nts i hi).2.below hb⟩⟩
abbrev st6o (w:World) (g o:Nat) (a b c d e f:Value):World:=(((((w.setCell ⟨g,o,none⟩ a).setCell ⟨g,o+1,none⟩ b).setCell ⟨g,o+2,none⟩ c).setCell ⟨g,o+3,none⟩ d).setCell ⟨g,o+4,none⟩ e).setCell ⟨g,o+5,none⟩ f
theorem st6o_but (g o:Nat) (w:World) (a b c d e f:Value):But g w (st6o w g o a b c d e f):=((((((But.refl g w).set _ _).set _ _).set _ _).set _ _).set _ _).set _ _
theorem setc {w:World}{g T:Nat}{cur:Array Value}{fz:Nat×Nat}(h:w.heap[g]?=some (.cells cur T fz)) (o:Nat) (v:Value):(w.setCell ⟨g,o,none⟩ v).heap[g]?=some (.cells (cur.setIfInBounds o v) T fz):=by
 simp [World.setCell,Array.getElem?_modify,h]
theorem st6o_cells {w:World}{g T:Nat}{cur:Array Value}{fz:Nat×Nat}(h:w.heap[g]?=some (.cells cur T fz)) (o:Nat) (a b c d e f:Value) (ho:o+5<cur.size) :
 ∃ cur',(st6o w g o a b c d e f).heap[g]?=some (.cells cur' T fz)∧cur'.size=cur.size∧(cur'[o]?=some a∧cur'[o+1]?=some b∧cur'[o+2]?=some c∧cur'[o+3]?=some d∧cur'[o+4]?=some e∧cur'[o+5]?=some f)∧∀ j,(j<o∨o+5<j)→cur'[j]?=cur[j]?:=by
 refine ⟨_,setc (setc (setc (setc (setc (setc h o a) (o+1) b) (o+2) c) (o+3) d) (o+4) e) (o+5) f,by simp,?_,?_⟩
 · simp [Array.getElem?_setIfInBounds]
   omega
 · intro j hj
   have n0:o≠j:=by omega
   have n1:o+1≠j:=by omega
   have n2:o+2≠j:=by omega
   have n3:o+3≠j:=by omega
   have n4:o+4≠j:=by omega
   have n5:o+5≠j:=by omega
   simp [Array.getElem?_setIfInBounds,n0,n1,n2,n3,n4,n5]
structure RPart (lo:Nat) (w:World) (g k i:Nat) (I:Nat→Ri) (V:Nat→Value×Value):Prop where
 row:∃ cur:Array Value,w.heap[g]?=some (.cells cur 119 (0,0))∧cur.size=6*k∧∀ j,j<i→cur[j*6]?=some (.bool (frmI I V j).n)∧cur[j*6+1]?=some (frmI I V j).v∧cur[j*6+2]?=some (.int .i64 (frmI I V j).e)∧cur[j*6+3]?=some (.bool (frmI I V j).m)∧cur[j*6+4]?=some (frmI I V j).u∧cur[j*6+5]?=some (.int .i64 (frmI I V j).f)
 own:lo≤g
 nts:∀ j,j<i→Nt lo w (V j).1 (dX (mkS (I j).n (I j).X (I j).e))∧Nt lo w (V j).2 (dX (mkS (I j).m (I j).Y (I j).f))
theorem RPart.lt {lo:Nat}{w:World}{g k i:Nat}{I:Nat→Ri}{V:Nat→Value×Value}(h:RPart lo w g k i I V):g<w.heap.size:=by obtain ⟨c,h,_⟩:=h.row;exact (Array.getElem?_eq_some_iff.1 h).1
theorem RPart.below {lo:Nat}{w w':World}{g k i:Nat}{I:Nat→Ri}{V:Nat→Value×Value}(h:RPart lo w g k i I V) (hb:Below w.heap.size w w'):RPart lo w' g k i I V:=by
 have hl:=h.lt;obtain ⟨⟨c,h1,r⟩,h2,h3⟩:=h;exact ⟨⟨c,by rw [hb.block g hl];exact h1,r⟩,h2,fun j hj=>⟨(h3 j hj).1.below hb,(h3 j hj).2.below hb⟩⟩
theorem RPart.room {lo:Nat}{w:World}{g k i:Nat}{I:Nat→Ri}{V:Nat→Value×Value}(h:RPart lo w g k i I V) (j:Nat) (hj:j<6*k):(∃ v,w.cell? ⟨g,j,none⟩=some v)∧w.frozen? ⟨g,j,none⟩=false:=by
 obtain ⟨⟨c,h1,hs,r⟩,h2,h3⟩:=h;refine ⟨⟨c[j]'(by omega),?_⟩,?_⟩
 · simp [World.cell?,h1]
 · simp [World.frozen?,h1]
theorem RPart.out {lo:Nat}{w:World}{g k:Nat}{I:Nat→Ri}{V:Nat→Value×Value}(h:RPart lo w g k k I V):ROut lo w g k I V:=by
 obtain ⟨⟨c,h1,hs,r⟩,h2,h3⟩:=h;exact ⟨⟨c,h1,r⟩,h2,h3⟩
theorem RPart.step {lo:Nat}{w:World}{g k i:Nat}{I:Nat→Ri}{V:Nat→Value×Value}(h:RPart lo w g k i I V) (hi:i<k) (v u:Value)
 (hv:Nt lo w v (dX (mkS (I i).n (I i).X (I i).e))) (hu:Nt lo w u (dX (mkS (I i).m (I i).Y (I i).f))) :
 ∃ V',RPart lo (st6o w g (i*6) (.bool (dN (mkS (I i).n (I i).X (I i).e))) v (.int .i64 (dE (mkS (I i).n (I i).X (I i).e))) (.bool (dN (mkS (I i).m (I i).Y (I i).f))) u (.int .i64 (dE (mkS (I i).m (I i).Y (I i).f)))) g k (i+1) I V':=by
 obtain ⟨⟨c,h1,hs,r⟩,h2,h3⟩:=h;obtain ⟨c',k1,k2,k3,k4⟩:=st6o_cells h1 (i*6) (.bool (dN (mkS (I i).n (I i).X (I i).e))) v (.int .i64 (dE (mkS (I i).n (I i).X (I i).e))) (.bool (dN (mkS (I i).m (I i).Y (I i).f))) u (.int .i64 (dE (mkS (I i).m (I i).Y (I i).f))) (by omega)
 refine ⟨fun j=>if j=i then (v,u) else V j,⟨c',k1,by omega,fun j hj=>?_⟩,h2,fun j hj=>?_⟩
 · by_cases e:j=i
   · subst e
     simp only [frmI,if_true];exact k3
   · have:=r j (by omega)
     rw [k4 _ (by omega),k4 _ (by omega),k4 _ (by omega),k4 _ (by omega),k4 _ (by omega),k4 _ (by omega)]
     simp only [frmI,if_neg e] at this ⊢;exact this
 · by_cases e:j=i
   · subst e
     simp only [if_true];exact ⟨hv.off (st6o_but _ _ _ _ _ _ _ _ _) (hv.notin (by decide) h1),hu.off (st6o_but _ _ _ _ _ _ _ _ _) (hu.notin (by decide) h1)⟩
   · simp only [if_neg e]
     obtain ⟨q1,q2⟩:=h3 j (by omega)
     exact ⟨q1.off (st6o_but _ _ _ _ _ _ _ _ _) (q1.notin (by decide) h1),q2.off (st6o_but _ _ _ _ _ _ _ _ _) (q2.notin (by decide) h1)⟩
theorem sgnD {w:World}{n:Bool}{v:Value}{X:Nat}{e:Int}(h:Av w v X):Calls Tryz.prog 202 #[.agg #[.bool n,v,.int .i64 e]] w fun r w'=>r=.returned (.int .i64 (sgn n X))∧Below w.heap.size w w':=by
 obtain ⟨a,l,c,xs,rfl,hA,rfl⟩:=h;exact Sign_any3 hA n e
theorem formD {w:World}{r:Ri}(h1:Av w r.v r.X) (h2:Av w r.u r.Y) (hT:Tab w) (b0:-9223372036854775808≤r.e) (b1:r.e≤9223372036854775807) (b2:-9223372036854775808≤r.f) (b3:r.f≤9223372036854775807) :
 Calls Tryz.prog 203 #[.agg #[.bool r.n,r.v,.int .i64 r.e,.bool r.m,r.u,.int .i64 r.f]] w fun q w' =>
  (((mkS r.n r.X r.e).isSome&&(mkS r.m r.Y r.f).isSome)=true→∃ v u,q=.returned (.tuple #[.agg #[.bool (dN (mkS r.n r.X r.e)),v,.int .i64 (dE (mkS r.n r.X r.e)),.bool (dN (mkS r.m r.Y r.f)),u,.int .i64 (dE (mkS r.m r.Y r.f))],.int .i64 0])∧Nt w.heap.size w' v (dX (mkS r.n r.X r.e))∧Nt w.heap.size w' u (dX (mkS r.m r.Y r.f))∧Ap v u) ∧
  (((mkS r.n r.X r.e).isSome&&(mkS r.m r.Y r.f).isSome)=false→q=.returned (.tuple #[.agg #[.bool false,.slice none 0 0,.int .i64 0,.bool false,.slice none 0 0,.int .i64 0],.int .i64 2]))∧Below w.heap.size w w':=by
 obtain ⟨n,v,X,e,m,u,Y,f⟩:=r;simp only at *;obtain ⟨a,l,c,xs,rfl,hA,rfl⟩:=h1;obtain ⟨b,k,d,ys,rfl,hB,rfl⟩:=h2;have l1:=mkS_len n (val xs) e;have l2:=mkS_len m (val ys) f;have H1:∀ u,Below w.heap.size w u→Calls Tryz.prog 108 #[.bool n,.slice a l c,.int .i64 e] u fun r w'=>DAns u.heap.size w' r (mkS n (val xs) e)∧Below u.heap.size u w':=fun u hu=>Make_any (hA.below hu) (hT.belows hu) n e b0 b1
 have H2:∀ u,Below w.heap.size w u→Calls Tryz.prog 108 #[.bool m,.slice b k d,.int .i64 f] u fun r w'=>DAns u.heap.size w' r (mkS m (val ys) f)∧Below u.heap.size u w':=fun u hu=>Make_any (hB.below hu) (hT.belows hu) m f b2 b3
 simp only [DAns] at H1 H2;generalize mkS n (val xs) e=o at *;generalize mkS m (val ys) f=p at *
 cases ho:o.isSome with
 | false =>
   have he:erS o=2:=by unfold erS;rw [ho];rfl
   rw [he] at H1;refine (form_bad1 n m e f (dN o) false (dX o) 0 (dE o) 0 l1 (by rw [ws0];omega) H1).mono ?_
   rintro r w' ⟨⟨v,u,h,rfl,rfl⟩,hb⟩;exact ⟨fun hh=>(by cases hh),fun _=>h,hb⟩
 | true =>
   have he:erS o=0:=by unfold erS;rw [ho];rfl
   rw [he] at H1
   cases hp:p.isSome with
   | false =>
     have he:erS p=2:=by unfold erS;rw [hp];rfl
     rw [he] at H2;refine (form_bad2 n m e f (dN o) (dN p) (dX o) (dX p) (dE o) (dE p) l1 l2 H1 H2).mono ?_;rintro r w' ⟨⟨v,u,h,rfl,rfl⟩,hb⟩;exact ⟨fun hh=>(by cases hh),fun _=>h,hb⟩
   | true =>
     have he:erS p=0:=by unfold erS;rw [hp];rfl
     rw [he] at H2;refine (form_ok n m e f (dN o) (dN p) (dX o) (dX p) (dE o) (dE p) l1 l2 H1 H2).mono ?_;rintro r w' ⟨⟨v,u,h,hN,hM,hap⟩,hb⟩;exact ⟨fun _=>⟨v,u,h,hN,hM,hap⟩,fun hh=>(by cases hh),hb⟩
theorem forms1 (w:World) (g:Nat) (I:Nat→Ri) (h:RIn w g 1 I) :
 Calls Tryz.prog 177 #[.slice (some ⟨g,0,none⟩) 1 1] w fun r w' =>
  ((errL I 1≠0∧r=.returned (.tuple #[.slice none 0 0,.int .i64 (errL I 1)])) ∨
   (errL I 1=0∧∃ g' V,r=.returned (.tuple #[.slice (some ⟨g',0,none⟩) 1 1,.int .i64 0])∧ROut w.heap.size w' g' 1 I V))∧Below w.heap.size w w':=by
 have MK:=make_ratios1;have hH:=qsd h;clear h;go_enter Tryz.func177,Tryz.ntmps177
 go_wp2_with fail
 go_loopg [15] 1 (fun gk iv wr=>∃ i:Nat,gk+i=1∧iv=.int .i64 (i:Nat)∧Aside (Below w.heap.size w wr∧∀ j,j<i→decide (sgn (I j).m (I j).Y<0)=false))
 case atStart=>exact ⟨0,by omega,rfl,Below.refl _ _,fun j hj=>by omega⟩
 case round =>
  obtain ⟨i,hgi,rfl,HR⟩:=hrel
  by_cases hi:i<1
  · have hin:=hH.out.below HR.out.1
    obtain ⟨g0,g1,g2,g3,g4,g5⟩:=hin.row.facts i hi;obtain ⟨A1,A2⟩:=hin.one i hi;obtain ⟨n,v,X,e,m,u,Y,f,hI⟩:∃ n v X e m u Y f,I i=⟨n,v,X,e,m,u,Y,f⟩:=⟨_,_,_,_,_,_,_,_,rfl⟩;rw [hI] at g0 g1 g2 g3 g4 g5 A1 A2;simp only at g0 g1 g2 g3 g4 g5 A1 A2;obtain ⟨a1,l1,c1,xs,rfl,-,-⟩:=id A1;obtain ⟨a2,l2,c2,ys,rfl,-,-⟩:=id A2;obtain ⟨U,hU⟩:∃ U,U=wr.alloc (.cells #[.bool n,.slice a1 l1 c1,.int .i64 e,.bool m,.slice a2 l2 c2,.int .i64 f] 119):=⟨_,rfl⟩;have hbU:Below wr.heap.size wr U:=by rw [hU];exact below_alloc _ _
    have RQ:Rq U wr.heap.size n (.slice a1 l1 c1) e m (.slice a2 l2 c2) f:=by rw [hU];exact Rq.new _ _ _ _ _ _ _
    obtain ⟨x0,x1,x2,x3,x4,x5⟩:=RQ.facts;have HC:=hid (sgnD (n:=m) (e:=f) (A2.below hbU));obtain ⟨s,hs⟩:∃ s,sgn m Y=s:=⟨_,rfl⟩;rw [hs] at HC;have SI:=(qsd (ai (HR.out.1.trans (hbU.mono HR.out.1.size)) (ai HR.out.2 (ai hI (ai hs hi)))));clear hbU RQ A1 A2 hin HR hI hs;have hli:(i:Int)<1:=by omega
    have hl0:(0:Int)≤(i:Int):=by omega
    go_upto_region 4 with fail
    rw [←hU];clear hU g0 g1 g2 g3 g4 g5
    go_wp2_with fail
    clear x0 x1 x2 x3 x4 x5;refine HC.out.mono ?_;rintro r u1 ⟨rfl,hb⟩;have S2:=qsd (SI.out.1.trans (hb.mono SI.out.1.size));clear hb HC
    by_cases hneg:s<0
    · have hn:=decide_eq_true hneg
      go_wp2_with fail
      go_ret2
      obtain ⟨_,hbef,hI,hs,hi⟩:=SI.out
      have hE:errL I 1=1:=by
       unfold errL;rw [if_pos (any_of hi (by rw [hI];simp only;rw [hs];exact decide_eq_true hneg))]
      rw [hE];exact ⟨.inl ⟨by decide,rfl⟩,S2.out⟩
    · have hn:decide (s<0)=false:=decide_eq_false (by omega)
      go_wp2_with fail
      go_roundg (1-(i+1))
      case measure=>omega
      case rel =>
       obtain ⟨_,hbef,hI,hs,hi⟩:=SI.out;refine ⟨i+1,by omega,by go_num,S2.out,fun j hj=>?_⟩
       by_cases hji:j=i
       · subst hji;rw [hI];simp only;rw [hs];exact decide_eq_false (by omega)
       · exact hbef j (by omega)
  · obtain rfl:i=1:=by omega
    obtain ⟨M,hM⟩:∃ M,M=wr.alloc (.cells #[.bool false,.slice none 0 0,.int .i64 0,.bool false,.slice none 0 0,.int .i64 0] 119):=⟨_,rfl⟩;have hbM:Below wr.heap.size wr M:=by rw [hM];exact below_alloc _ _
    have hpM:RPart w.heap.size M wr.heap.size 1 0 I (fun _=>(.slice none 0 0,.slice none 0 0)):=by
     rw [hM];exact ⟨⟨_,heap_alloc_new _ _,rfl,fun j hj=>by omega⟩,HR.out.1.size,fun j hj=>by omega⟩
    have S1:=(qsd (ai HR.out.2 (ai hpM (HR.out.1.trans (hbM.mono HR.out.1.size)))));obtain ⟨gO,hgO⟩:∃ gO,gO=wr.heap.size:=⟨_,rfl⟩;clear HR hbM hpM hi hgi
    go_upto_region 9 with fail
    rw [←hM];rw [←hgO] at S1 ⊢;clear hM hgO
    go_loopg [29] 1 (fun gk iv wr=>∃ i:Nat,gk+i=1∧iv=.int .i64 (i:Nat)∧Aside (Below w.heap.size w wr∧(∀ j,j<i→((mkS (I j).n (I j).X (I j).e).isSome&&(mkS (I j).m (I j).Y (I j).f).isSome)=true)∧∃ V,RPart w.heap.size wr gO 1 i I V))
    case atStart=>exact ⟨0,by omega,rfl,S1.out.2.2,fun j hj=>by omega,_,S1.out.2.1⟩
    case round =>
     obtain ⟨i,hgi,rfl,HR⟩:=hrel;have SS:=qsd S1.out.1;clear S1
     by_cases hi:i<1
     · obtain ⟨bel,hbef,V,hP⟩:=HR.out
       have hin:=hH.out.below bel;obtain ⟨g0,g1,g2,g3,g4,g5⟩:=hin.row.facts i hi;obtain ⟨A1,A2⟩:=hin.one i hi;obtain ⟨b0,b1,b2,b3⟩:=hin.rng i hi;have hFD:=fun (u:World) (hb:Below wr.heap.size wr u)=>formD (r:=I i) (A1.below hb) (A2.below hb) ((hin.below hb).tab) b0 b1 b2 b3
       obtain ⟨n,v,X,e,m,u,Y,f,hI⟩:∃ n v X e m u Y f,I i=⟨n,v,X,e,m,u,Y,f⟩:=⟨_,_,_,_,_,_,_,_,rfl⟩;rw [hI] at g0 g1 g2 g3 g4 g5 A1 A2 hFD;simp only at g0 g1 g2 g3 g4 g5 A1 A2 hFD;obtain ⟨a1,l1,c1,xs,rfl,-,-⟩:=id A1;obtain ⟨a2,l2,c2,ys,rfl,-,-⟩:=id A2;obtain ⟨U,hU⟩:∃ U,U=wr.alloc (.cells #[.bool n,.slice a1 l1 c1,.int .i64 e,.bool m,.slice a2 l2 c2,.int .i64 f] 119):=⟨_,rfl⟩;have hbU:Below wr.heap.size wr U:=by rw [hU];exact below_alloc _ _
       have RQ:Rq U wr.heap.size n (.slice a1 l1 c1) e m (.slice a2 l2 c2) f:=by rw [hU];exact Rq.new _ _ _ _ _ _ _
       obtain ⟨x0,x1,x2,x3,x4,x5⟩:=RQ.facts;have HC:=hid (hFD U hbU);have lo1:=mkS_len n X e;have lo2:=mkS_len m Y f;obtain ⟨o,ho⟩:∃ o,mkS n X e=o:=⟨_,rfl⟩;obtain ⟨p,hp⟩:∃ p,mkS m Y f=p:=⟨_,rfl⟩;rw [ho,hp] at HC;rw [ho] at lo1;rw [hp] at lo2;have SI:=(qsd (ai (bel.trans (hbU.mono bel.size)) (ai hbef (ai hI (ai ho (ai hp (ai hi (hP.below hbU))))))));clear hbU RQ A1 A2 hin HR hI ho hp bel hbef hP hFD b0 b1 b2 b3;have hli:(i:Int)<1:=by omega
       have hl0:(0:Int)≤(i:Int):=by omega
       go_upto_region 11 with fail
       rw [←hU];clear hU g0 g1 g2 g3 g4 g5
       go_wp2_with fail
       clear x0 x1 x2 x3 x4 x5;refine HC.out.mono ?_;rintro r u1 ⟨h1,h2,hb⟩;clear HC
       cases hok:(o.isSome&&p.isSome) with
       | false =>
         obtain rfl:=h2 hok;have S2:=qsd (SI.out.1.trans (hb.mono SI.out.1.size));clear h1 h2 hb
         go_wp2_with fail
         go_ret2
         obtain ⟨_,hbef,hI,ho,hp,hi,_⟩:=SI.out
         have hE:errL I 1=2:=by
          unfold errL;rw [any_no (p:=fun i=>decide (sgn (I i).m (I i).Y<0)) SS.out,if_neg Bool.false_ne_true,if_pos (any_of hi (by rw [hI];simp only;rw [ho,hp,hok];rfl))]
         rw [hE];exact ⟨.inl ⟨by decide,rfl⟩,S2.out.alloc S2.out.size _⟩
       | true =>
         obtain ⟨v1,v2,rfl,hN,hM2,-⟩:=h1 hok;obtain ⟨p1,q1,rfl,_⟩:=hN.arg (by omega)
         obtain ⟨p2,q2,rfl,_⟩:=hM2.arg (by omega)
         obtain ⟨U2,hU2⟩:∃ U,U=u1.alloc (.cells #[.bool (dN o),.slice p1 (ws (dX o)).length q1,.int .i64 (dE o),.bool (dN p),.slice p2 (ws (dX p)).length q2,.int .i64 (dE p)] 119):=⟨_,rfl⟩;have hbU:Below u1.heap.size u1 U2:=by rw [hU2];exact below_alloc _ _
         have RQ:Rq U2 u1.heap.size (dN o) (.slice p1 (ws (dX o)).length q1) (dE o) (dN p) (.slice p2 (ws (dX p)).length q2) (dE p):=by rw [hU2];exact Rq.new _ _ _ _ _ _ _
         obtain ⟨x0,x1,x2,x3,x4,x5⟩:=RQ.facts;have hP2:=(SI.out.2.2.2.2.2.2.below hb).below hbU;have hb2:=(SI.out.1.trans (hb.mono SI.out.1.size)).trans (hbU.mono (Nat.le_trans SI.out.1.size hb.size));obtain ⟨⟨y0,r0⟩,f0⟩:=hP2.room (i*6) (by omega)
         obtain ⟨⟨y1,r1⟩,f1⟩:=hP2.room (i*6+1) (by omega)
         obtain ⟨⟨y2,r2⟩,f2⟩:=hP2.room (i*6+2) (by omega)
         obtain ⟨⟨y3,r3⟩,f3⟩:=hP2.room (i*6+3) (by omega)
         obtain ⟨⟨y4,r4⟩,f4⟩:=hP2.room (i*6+4) (by omega)
         obtain ⟨⟨y5,r5⟩,f5⟩:=hP2.room (i*6+5) (by omega)
         obtain ⟨W',hW'⟩:∃ W',W'=st6o U2 gO (i*6) (.bool (dN o)) (.slice p1 (ws (dX o)).length q1) (.int .i64 (dE o)) (.bool (dN p)) (.slice p2 (ws (dX p)).length q2) (.int .i64 (dE p)):=⟨_,rfl⟩
         have S3:Aside (Below w.heap.size w W'∧(∀ j,j<i+1→((mkS (I j).n (I j).X (I j).e).isSome&&(mkS (I j).m (I j).Y (I j).f).isSome)=true)∧∃ V,RPart w.heap.size W' gO 1 (i+1) I V):=by
          obtain ⟨_,hbef,hI,ho,hp,hi,_⟩:=SI.out;refine ⟨?_,?_,?_⟩
          · rw [hW'];exact But.below hb2 (st6o_but _ _ _ _ _ _ _ _ _) hb2.size hP2.own
          · intro j hj
            by_cases e:j=i
            · subst e;rw [hI];simp only;rw [ho,hp,hok]
            · exact hbef j (by omega)
          · have hsz:=SI.out.1.size
            have:=hP2.step hi (.slice p1 (ws (dX o)).length q1) (.slice p2 (ws (dX p)).length q2) (by rw [hI];simp only;rw [ho];exact (hN.below hbU).mono hsz) (by rw [hI];simp only;rw [hp];exact (hM2.below hbU).mono hsz)
            rw [hI] at this;simp only at this;rw [ho,hp,←hW'] at this;exact this
         have neq:u1.heap.size≠gO:=by have:=(SI.out.2.2.2.2.2.2.below hb).lt;omega
         clear h1 h2 hb hN hM2 hbU RQ hP2 hb2 SI
         go_upto_region 12 with fail
         rw [←hU2];clear hU2
         go_wp2_with fail
         unfold st6o at hW'
         go_roundg (1-(i+1))
         case measure=>omega
         case rel =>
          refine ⟨i+1,by omega,by go_num,?_⟩
          first | rw [←hW'] | (rw [hW'] at S3)
          exact S3
     · obtain rfl:i=1:=by omega
       obtain ⟨bel,hbef,V,hP⟩:=HR.out;have hO:=hP.out;have S2:=(qsd (ai bel (ai hbef hO)));have hi0:wr=wr:=rfl;clear HR bel hbef hP hO hi hgi
       go_upto_region 17 with fail
       go_loopg [49] 1 (fun gk iv wr=>∃ i:Nat,gk+i=1∧iv=.int .i64 (i:Nat)∧Aside (Below w.heap.size w wr∧(∀ j,j<i→decide (dX (mkS (I j).m (I j).Y (I j).f)=0)=false)∧ROut w.heap.size wr gO 1 I V))
       case atStart=>exact ⟨0,by omega,rfl,S2.out.1,fun j hj=>by omega,S2.out.2.2⟩
       case round =>
        obtain ⟨i,hgi,rfl,HR⟩:=hrel;have SS2:=qsd S2.out.2.1;clear S2
        by_cases hi:i<1
        · obtain ⟨bel,hbef,hO⟩:=HR.out
          obtain ⟨g0,g1,g2,g3,g4,g5⟩:=hO.row.facts i hi;obtain ⟨A1,A2⟩:=hO.nts i hi;have lo1:=mkS_len (I i).n (I i).X (I i).e;have lo2:=mkS_len (I i).m (I i).Y (I i).f;unfold frmI at g0 g1 g2 g3 g4 g5;simp only at g0 g1 g2 g3 g4 g5;obtain ⟨o,ho⟩:∃ o,mkS (I i).n (I i).X (I i).e=o:=⟨_,rfl⟩;obtain ⟨p,hp⟩:∃ p,mkS (I i).m (I i).Y (I i).f=p:=⟨_,rfl⟩;rw [ho] at g0 g2 A1 lo1;rw [hp] at g3 g5 A2 lo2;obtain ⟨v1,hv1⟩:∃ v1,(V i).1=v1:=⟨_,rfl⟩;obtain ⟨v2,hv2⟩:∃ v2,(V i).2=v2:=⟨_,rfl⟩;rw [hv1] at g1 A1;rw [hv2] at g4 A2;obtain ⟨p1,q1,rfl,_⟩:=A1.arg (by omega)
          obtain ⟨p2,q2,rfl,_⟩:=A2.arg (by omega)
          obtain ⟨U,hU⟩:∃ U,U=wr.alloc (.cells #[.bool (dN o),.slice p1 (ws (dX o)).length q1,.int .i64 (dE o),.bool (dN p),.slice p2 (ws (dX p)).length q2,.int .i64 (dE p)] 119):=⟨_,rfl⟩;have hbU:Below wr.heap.size wr U:=by rw [hU];exact below_alloc _ _
          have RQ:Rq U wr.heap.size (dN o) (.slice p1 (ws (dX o)).length q1) (dE o) (dN p) (.slice p2 (ws (dX p)).length q2) (dE p):=by rw [hU];exact Rq.new _ _ _ _ _ _ _
          obtain ⟨x0,x1,x2,x3,x4,x5⟩:=RQ.facts;have HC:=hid (sgnD (n:=dN p) (e:=dE p) ((A2.below hbU).av (by omega)))
          obtain ⟨s,hs⟩:∃ s,sgn (dN p) (dX p)=s:=⟨_,rfl⟩;rw [hs] at HC;have SI:=(qsd (ai (bel.trans (hbU.mono bel.size)) (ai hbef (ai hp (ai hs (ai hi (hO.below hbU)))))));clear hbU RQ A1 A2 HR ho hp hv1 hv2 hs bel hbef hO;have hli:(i:Int)<1:=by omega
          have hl0:(0:Int)≤(i:Int):=by omega
          go_upto_region 19 with fail
          rw [←hU];clear hU g0 g1 g2 g3 g4 g5
          go_wp2_with fail
          clear x0 x1 x2 x3 x4 x5;refine HC.out.mono ?_;rintro r u1 ⟨rfl,hb⟩;have S2:=(qsd (ai (SI.out.1.trans (hb.mono SI.out.1.size)) (SI.out.2.2.2.2.2.below hb)));clear hb HC
          by_cases hz:s=0
          · have hn:(s==0)=true:=by simp [hz]
            have hsz:=SI;clear SI
            go_wp2_with fail
            go_ret2
            obtain ⟨_,hbef,hp,hs,hi,_⟩:=hsz.out
            have hE:errL I 1=21:=by
             unfold errL;rw [any_no (p:=fun i=>decide (sgn (I i).m (I i).Y<0)) SS.out,if_neg Bool.false_ne_true,any_no (p:=fun i=>!((mkS (I i).n (I i).X (I i).e).isSome&&(mkS (I i).m (I i).Y (I i).f).isSome)) (fun j hj=>by rw [SS2.out j hj];rfl),if_neg Bool.false_ne_true,if_pos (any_of hi (by simp only [hp];exact decide_eq_true (sgn_zero3.1 (hs.trans hz))))]
            rw [hE];exact ⟨.inl ⟨by decide,rfl⟩,S2.out.1⟩
          · have hn:(s==0)=false:=by simp [hz]
            go_wp2_with fail
            go_roundg (1-(i+1))
            case measure=>omega
            case rel =>
             obtain ⟨_,hbef,hp,hs,hi,_⟩:=SI.out;refine ⟨i+1,by omega,by go_num,S2.out.1,fun j hj=>?_,S2.out.2⟩
             by_cases hji:j=i
             · subst hji;rw [hp];exact decide_eq_false (fun h0=>hz (hs.symm.trans (sgn_zero3.2 h0)))
             · exact hbef j (by omega)
        · obtain rfl:i=1:=by omega
          have S3:=HR;clear HR hi hgi
          go_wp2_with fail
          go_ret2
          have hE:errL I 1=0:=by
           unfold errL;rw [any_no (p:=fun i=>decide (sgn (I i).m (I i).Y<0)) SS.out,if_neg Bool.false_ne_true,any_no (p:=fun i=>!((mkS (I i).n (I i).X (I i).e).isSome&&(mkS (I i).m (I i).Y (I i).f).isSome)) (fun j hj=>by rw [SS2.out j hj];rfl),if_neg Bool.false_ne_true,any_no (p:=fun i=>decide (dX (mkS (I i).m (I i).Y (I i).f)=0)) S3.out.2.1,if_neg Bool.false_ne_true]
          exact ⟨.inr ⟨hE,gO,V,rfl,S3.out.2.2⟩,S3.out.1⟩
end
section
open Go.RowKit
theorem errL0 {I:Nat→Ri}{k:Nat}(h:errL I k=0) (i:Nat) (hi:i<k):¬ sgn (I i).m (I i).Y<0∧(mkS (I i).n (I i).X (I i).e).isSome=true∧(mkS (I i).m (I i).Y (I i).f).isSome=true∧dX (mkS (I i).m (I i).Y (I i).f)≠0:=by
 unfold errL at h
 split at h
 · omega
 · rename_i h1
   split at h
   · omega
   · rename_i h2
     split at h
     · omega
     · rename_i h3
       simp only [Bool.not_eq_true,List.any_eq_false,List.mem_range] at h1 h2 h3;have k1:=h1 i hi;have k2:=h2 i hi;have k3:=h3 i hi;simp at k1 k2 k3;exact ⟨by omega,k2.1,k2.2,k3⟩
theorem reform {n:Bool}{X:Nat}{e:Int}{o:Option (Bool×Nat×Int)}(h:mkS n X e=o) (hs:o.isSome=true):mkS (dN o) (dX o) (dE o)=o:=by
 cases o with
 | none=>cases hs
 | some d =>
   obtain ⟨n1,X1,e1⟩:=d;exact (mkS_frm h).self
theorem frm_rng {n:Bool}{X:Nat}{e:Int}{o:Option (Bool×Nat×Int)}(h:mkS n X e=o):-1048576≤dE o∧dE o≤1048576:=by
 cases o with
 | none=>exact ⟨by decide,by decide⟩
 | some d =>
   obtain ⟨n1,X1,e1⟩:=d;have:=mkS_frm h;exact ⟨this.down,this.up⟩
structure Rv (w:World) (r:Ri):Prop where
 num:Av w r.v r.X
 den:Av w r.u r.Y
 be:-9223372036854775808≤r.e∧r.e≤9223372036854775807
 bf:-9223372036854775808≤r.f∧r.f≤9223372036854775807
theorem Rv.below {w w':World}{r:Ri}(h:Rv w r) (hb:Below w.heap.size w w'):Rv w' r:=⟨h.num.below hb,h.den.below hb,h.be,h.bf⟩
theorem rin1 (W:World) (r:Ri) (hr:Rv W r) (hT:Tab W) (R:World) (hR:R=W.alloc (.cells #[.bool r.n,r.v,.int .i64 r.e,.bool r.m,r.u,.int .i64 r.f] 119)):RIn R W.heap.size 1 (fun _=>r):=by
 have hb:Below W.heap.size W R:=by rw [hR];exact below_alloc _ _
 refine ⟨⟨_,by rw [hR];exact heap_alloc_new _ _,?_⟩,fun i hi=>⟨hr.num.below hb,hr.den.below hb⟩,fun i hi=>⟨hr.be.1,hr.be.2,hr.bf.1,hr.bf.2⟩,hT.belows hb⟩
 intro i hi;obtain rfl:i=0:=by omega
 simp
end
section
open Go.RowKit
theorem one_begin (w:World) (n:Bool) (v:Value) (e:Int) (m:Bool) (u:Value) (f:Int) (W:World) (hW:W=w.alloc (.cells #[.bool n,v,.int .i64 e,.bool m,u,.int .i64 f] 119)) :
 Below w.heap.size w W∧W.heap.size=w.heap.size+1∧Rq W w.heap.size n v e m u f:=by
 rw [hW];exact ⟨below_alloc w _,by simp,Rq.new _ _ _ _ _ _ _⟩
theorem rounded_squareRoot64 {w:World}{n m:Bool}{a b:Option Addr}{la ca lb cb:Nat}{X Y:Nat}{e f:Int}(mode:Int) (hr:Rv w ⟨n,.slice a la ca,X,e,m,.slice b lb cb,Y,f⟩) (hT:Tab w)
 (o1 o2 z:Option (Bool×Nat×Int)) (ew:Int) (rw':Nat×Int) (ho1:mkS n X e=o1) (ho2:mkS m Y f=o2) (lz:(ws (dX z)).length≤8192) (hew:ew≠0→rw'.1=0∧rw'.2=ew)
 (ANS:Nat×Int) (hANS:ANS=if mode<0∨4<mode then (0,1) else if errL (fun _=>(⟨n,.slice a la ca,X,e,m,.slice b lb cb,Y,f⟩:Ri)) 1=0 then rw' else (0,errL (fun _=>(⟨n,.slice a la ca,X,e,m,.slice b lb cb,Y,f⟩:Ri)) 1))
 (HW:Hid (∀ (u:World) (p q:Value),Below w.heap.size w u→Nt w.heap.size u p (dX o1)→Nt w.heap.size u q (dX o2)→errL (fun _=>(⟨n,.slice a la ca,X,e,m,.slice b lb cb,Y,f⟩:Ri)) 1=0→Calls Tryz.prog 143 #[.agg #[.bool (dN o1),p,.int .i64 (dE o1),.bool (dN o2),q,.int .i64 (dE o2)]] u fun r w'=>(∃ v,r=.returned (.tuple #[.agg #[.bool (dN z),v,.int .i64 (dE z)],.int .i64 ew])∧Nt u.heap.size w' v (dX z))∧Below u.heap.size u w'))
 (HR:Hid (∀ (u:World) (p:Option Addr) (q:Nat),ew=0→¬ (mode<0∨4<mode)→errL (fun _=>(⟨n,.slice a la ca,X,e,m,.slice b lb cb,Y,f⟩:Ri)) 1=0→Below w.heap.size w u→Arg u p (ws (dX z)).length q (ws (dX z))→Calls Tryz.prog 60 #[.agg #[.bool (dN z),.slice p (ws (dX z)).length q,.int .i64 (dE z)],.int .i64 mode] u fun r w'=>r=.returned (.tuple #[.float .f64 rw'.1,.int .i64 rw'.2])∧Below u.heap.size u w')) :
 Calls Tryz.prog 142 #[.agg #[.bool n,.slice a la ca,.int .i64 e,.bool m,.slice b lb cb,.int .i64 f],.int .i64 mode,.func (.func 143) #[] #[],.func (.func 60) #[] #[]] w fun r w'=>r=.returned (.tuple #[.float .f64 ANS.1,.int .i64 ANS.2])∧Below w.heap.size w w':=by
 obtain ⟨W1,hW1⟩:∃ W,W=w.alloc (.cells #[.bool n,.slice a la ca,.int .i64 e,.bool m,.slice b lb cb,.int .i64 f] 119):=⟨_,rfl⟩;obtain ⟨hB,hz1,Q1⟩:=one_begin w n _ e m _ f W1 hW1
 by_cases hm:mode<0∨4<mode
 · rw [if_pos hm] at hANS
   subst hANS;have S0:=qsd hB;clear hB hz1 Q1 HW HR hr hT
   by_cases hm0:mode<0
   · have d1:=decide_eq_true hm0
     go_enter Tryz.func142,Tryz.ntmps142
     go_upto_region 1 with fail
     rw [←hW1];clear hW1;go_wp2
     go_ret2
     exact ⟨rfl,S0.out⟩
   · have d1:=decide_eq_false hm0
     have hm4:4<mode:=by omega
     have d2:=decide_eq_true hm4;clear hm;go_enter Tryz.func142,Tryz.ntmps142
     go_upto_region 1 with fail
     rw [←hW1];clear hW1;go_wp2
     go_ret2
     exact ⟨rfl,S0.out⟩
 · rw [if_neg hm] at hANS
   obtain ⟨R,hR⟩:∃ R,R=W1.alloc (.cells #[.bool n,.slice a la ca,.int .i64 e,.bool m,.slice b lb cb,.int .i64 f] 119):=⟨_,rfl⟩;have hin:=rin1 W1 _ (hr.below hB) (hT.belows hB) R hR;have hbR:Below W1.heap.size W1 R:=by rw [hR];exact below_alloc _ _
   have HF:=hid (forms1 R W1.heap.size _ hin);obtain ⟨I,hI⟩:∃ I:Nat→Ri,(fun _=>(⟨n,.slice a la ca,X,e,m,.slice b lb cb,Y,f⟩:Ri))=I:=⟨_,rfl⟩
   rw [hI] at HF hANS HW HR;obtain ⟨x0,x1,x2,x3,x4,x5⟩:=Q1.facts;have HAn:=qsd hANS;have S0:=(qsd (ai (hB.trans (hbR.mono hB.size)) (ai hI (ai ho1 ho2))));have d1:decide (mode<0)=false:=decide_eq_false (fun h=>hm (.inl h))
   have d2:decide (4<mode)=false:=decide_eq_false (fun h=>hm (.inr h))
   have HM:=qsd hm;obtain ⟨g12,hg12⟩:∃ g,W1.heap.size=g:=⟨_,rfl⟩;rw [hg12] at HF;clear hB hz1 Q1 hin hbR hr hT hANS hI ho1 ho2 hm;go_enter Tryz.func142,Tryz.ntmps142
   go_upto_region 1 with fail
   rw [←hW1];clear hW1
   go_wp2_with fail
   rw [←hR];clear hR hg12 x0 x1 x2 x3 x4 x5;refine HF.out.mono ?_;rintro r u1 ⟨hor,hb⟩;clear HF;obtain ⟨bel,hI,ho1,ho2⟩:=S0.out;have S1:=qsd (bel.trans (hb.mono bel.size))
   rcases hor with ⟨hne,rfl⟩|⟨h0,g',V,rfl,hO⟩
   · have HA2:=HAn.out
     rw [if_neg hne] at HA2;obtain ⟨er,her⟩:∃ er,errL I 1=er:=⟨_,rfl⟩;rw [her] at hne HA2 ⊢;have HA3:=qsd HA2;have hnb:(er==0)=false:=by simp [hne]
     clear HAn HA2 her hne bel hb hI ho1 ho2 S0 HW HR;go_wp2
     go_ret2
     rw [HA3.out];exact ⟨rfl,S1.out⟩
   · have HA2:=HAn.out
     rw [if_pos h0] at HA2;obtain ⟨q0,q1,q2,q3,q4,q5⟩:=hO.row.facts 0 (by omega)
     obtain ⟨N1,N2⟩:=hO.nts 0 (by omega)
     simp only [Nat.zero_mul,Nat.zero_add] at q0 q1 q2 q3 q4 q5;unfold frmI at q0 q1 q2 q3 q4 q5;have e0:I 0=⟨n,.slice a la ca,X,e,m,.slice b lb cb,Y,f⟩:=by rw [←hI]
     rw [e0] at N1 N2;simp only [e0] at q0 q1 q2 q3 q4 q5 N1 N2;have m1:=mkS_len n X e;have m2:=mkS_len m Y f;rw [ho1] at q0 q2 N1 m1;rw [ho2] at q3 q5 N2 m2;obtain ⟨v1,hv1⟩:∃ v1,(V 0).1=v1:=⟨_,rfl⟩;obtain ⟨v2,hv2⟩:∃ v1,(V 0).2=v1:=⟨_,rfl⟩;rw [hv1] at q1 N1;rw [hv2] at q4 N2;obtain ⟨a1,c1,rfl,_⟩:=N1.arg (by omega)
     obtain ⟨a2,c2,rfl,_⟩:=N2.arg (by omega)
     have HC:=hid (HW.out u1 _ _ (bel.trans (hb.mono bel.size)) (N1.mono (by have:=bel.size;omega)) (N2.mono (by have:=bel.size;omega)) h0)
     have S2:=(qsd (ai h0 HA2));clear HAn HA2 bel hb hI ho1 ho2 S0 hO N1 N2 HW h0 hv1 hv2 e0
     go_wp2_with fail
     clear q0 q1 q2 q3 q4 q5;refine HC.out.mono ?_;rintro r u2 ⟨⟨v,rfl,NZ⟩,hb⟩;obtain ⟨az,cz,rfl,_⟩:=NZ.arg (by omega)
     clear HC;obtain ⟨U3,hU3⟩:∃ U,U=u2.alloc (.cells #[.bool (dN z),.slice az (ws (dX z)).length cz,.int .i64 (dE z)] 47):=⟨_,rfl⟩;have hbA:Below u2.heap.size u2 U3:=by rw [hU3];exact below_alloc _ _
     have bb:=S1.out.trans (hb.mono S1.out.size);have bc:=bb.trans (hbA.mono bb.size)
     by_cases hew0:ew=0
     · have TZ:Tk U3 u2.heap.size 47 (.bool (dN z)) (.slice az (ws (dX z)).length cz) (.int .i64 (dE z)):=by rw [hU3];exact Tk.new _ _ _ _ _
       have HD:=hid (HR.out U3 az cz hew0 HM.out S2.out.1 bc ((NZ.below hbA).arg' (by omega)).2)
       obtain ⟨x0,x1,x2,_,_,_⟩:=TZ.facts;have S3:=(qsd (ai bc S2.out.2));clear bb bc hb hbA NZ TZ S1 S2 HR HM hew;subst hew0
       go_upto_region 7 with fail
       rw [←hU3];clear hU3
       go_wp2_with fail
       refine HD.out.mono ?_;rintro r u3 ⟨rfl,hb⟩;have S4:=qsd (S3.out.1.trans (hb.mono S3.out.1.size));clear hb HD x0 x1 x2;go_wp2
       go_ret2
       rw [S3.out.2];exact ⟨rfl,S4.out⟩
     · have hnb:(ew==0)=false:=by simp [hew0]
       have hA:ANS=(0,ew):=by
        rw [S2.out.2];have:=hew hew0;rw [←this.1,←this.2]
       have S3:=(qsd (ai bc hA));clear bb bc hb hbA NZ S1 S2 HR HM hew hA hew0
       go_upto_region 7 with fail
       rw [←hU3];clear hU3;go_wp2
       go_ret2
       rw [S3.out.2];exact ⟨rfl,S3.out.1⟩
theorem Root_box {w:World}{a b:Option Addr}{la ca lb cb:Nat}(n m:Bool) (e f mode:Int) (ANS:Nat×Int)
 (HR:Hid (∀ u:World,Below w.heap.size w u→Calls Tryz.prog 142 #[.agg #[.bool n,.slice a la ca,.int .i64 e,.bool m,.slice b lb cb,.int .i64 f],.int .i64 mode,.func (.func 143) #[] #[],.func (.func 60) #[] #[]] u fun r w'=>r=.returned (.tuple #[.float .f64 ANS.1,.int .i64 ANS.2])∧Below u.heap.size u w')) :
 Calls Tryz.prog 100 #[.agg #[.bool n,.slice a la ca,.int .i64 e,.bool m,.slice b lb cb,.int .i64 f],.int .i64 mode] w fun r w'=>r=.returned (.tuple #[.float .f64 ANS.1,.int .i64 ANS.2])∧Below w.heap.size w w':=by
 obtain ⟨W1,hW1⟩:∃ W,W=w.alloc (.cells #[.bool n,.slice a la ca,.int .i64 e,.bool m,.slice b lb cb,.int .i64 f] 119):=⟨_,rfl⟩;obtain ⟨hB,hz1,Q1⟩:=one_begin w n _ e m _ f W1 hW1;have HC:=hid (HR.out W1 hB);obtain ⟨x0,x1,x2,x3,x4,x5⟩:=Q1.facts;have S0:=qsd hB;clear hB hz1 Q1 HR;go_enter Tryz.func100,Tryz.ntmps100
 go_upto_region 1 with fail
 rw [←hW1];clear hW1
 go_wp2_with fail
 refine HC.out.mono ?_;rintro r u1 ⟨rfl,hb⟩;have S1:=qsd (S0.out.trans (hb.mono S0.out.size));clear hb HC x0 x1 x2 x3 x4 x5;go_wp2
 go_ret2
 exact ⟨rfl,S1.out⟩
end
section
open Go.RowKit
theorem mkS_small (n:Bool) (M:Nat) (E:Int) (hM:M≠0) (hb:bl M≤1001) (h0:-4096≤E) (h1:E≤4096):mkS n M E=some (n,M/2^lo M,E+lo M)∧(M/2^lo M)%2=1∧M=M/2^lo M*2^lo M∧lo M≤1001:=by
 obtain ⟨q,h2,h3,h4⟩:=odd_part M hM;refine ⟨?_,by omega,by rw [h3,Nat.mul_comm];exact h2,by omega⟩
 unfold mkS;rw [if_neg hM,if_neg (by omega)]
def sqX (X:Nat) (e:Int) (Y:Nat) (f:Int):Int:=e-f-byS X Y 129-cutS Y 129
def sqW (X:Nat) (e:Int) (Y:Nat) (f:Int):Nat:=hvW (whoS X Y 129) (sqX X e Y f)
theorem root_there (W:Nat):∃ r,IsRoot W r:=by
 induction W with
 | zero=>exact ⟨0,by unfold IsRoot;omega⟩
 | succ W ih =>
   obtain ⟨r,h1,h2⟩:=ih
   by_cases h:W+1<(r+1)*(r+1)
   · exact ⟨r,by omega,h⟩
   · refine ⟨r+1,by omega,?_⟩
     have:(r+1)*(r+1)<(r+1+1)*(r+1+1):=Nat.mul_lt_mul'' (by omega) (by omega)
     omega
noncomputable def sqR (W:Nat):Nat:=Classical.choose (root_there W)
theorem sqR_is (W:Nat):IsRoot W (sqR W):=Classical.choose_spec (root_there W)
def sqT (X:Nat) (e:Int) (Y:Nat) (f:Int):Bool:=hvA (whoS X Y 129) (sqX X e Y f) (atS X Y 129)
noncomputable def sqD (X:Nat) (e:Int) (Y:Nat) (f:Int):Bool:=sqT X e Y f&&decide (sqW X e Y f=sqR (sqW X e Y f)*sqR (sqW X e Y f))
noncomputable def sqZ (X:Nat) (e:Int) (Y:Nat) (f:Int):Option (Bool×Nat×Int):=mkS false (2*sqR (sqW X e Y f)+(if sqD X e Y f then 0 else 1)) (clampE (hvX (sqX X e Y f)/2))
theorem clamp_rng (x:Int):-4096≤clampE x∧clampE x≤4096:=by unfold clampE;omega
theorem lt_of_sq {R k W:Nat}(h:R*R≤W) (hW:W<2^(2*k)):R<2^k:=by
 rcases Nat.lt_or_ge R (2^k) with q|q
 · exact q
 · have:=Nat.mul_le_mul q q
   rw [←Nat.pow_add,show k+k=2*k by omega] at this
   omega
theorem sqW_lt (X:Nat) (e:Int) (Y:Nat) (f:Int) (D:DivS X Y 129):sqW X e Y f<2^130:=by
 have:=D.most;unfold sqW hvW
 split <;> omega
theorem bl_two {W d k:Nat}(h:W<2^k) (hd:d≤1):bl (2*W+d)≤k+1:=bl_lt_pow (by rw [Nat.pow_succ];omega)
theorem sqZ_some (X:Nat) (e:Int) (Y:Nat) (f:Int) (hX:X=0∨X%2=1) (hY:Y≠0) (bX:bl X≤262144) (bY:bl Y≤262144):(sqZ X e Y f).isSome=true:=by
 have D:=divS_facts X Y 129 hX hY (by omega) (by omega) bX bY
 have g2:=sqW_lt X e Y f D;obtain ⟨r1,r2⟩:=sqR_is (sqW X e Y f);have q2:sqR (sqW X e Y f)<2^65:=lt_of_sq r1 (by rw [show 2*65=130 by rfl];exact g2)
 have hd:(if sqD X e Y f then 0 else 1)≤1:=by split <;> omega
 have hb:=bl_two q2 hd;unfold sqZ
 by_cases hM:2*sqR (sqW X e Y f)+(if sqD X e Y f then 0 else 1)=0
 · rw [hM,mkS_zero];rfl
 · rw [(mkS_small false _ _ hM (by omega) (clamp_rng _).1 (clamp_rng _).2).1];rfl
end
section
open Go.RowKit
theorem par_even {x:Int}(h:x%2=0):(x.tmod 2==0)=true:=by
 have:(2:Int) ∣ x:=Int.dvd_of_emod_eq_zero h;rw [Int.tmod_eq_zero_of_dvd this];rfl
theorem par_odd {x:Int}(h:¬ x%2=0):(x.tmod 2==0)=false:=by
 apply beq_eq_false_iff_ne.2
 intro k;exact h (Int.emod_eq_zero_of_dvd (Int.dvd_of_tmod_eq_zero k))
theorem half_even {x:Int}(h:x%2=0):x.tdiv 2=x/2:=by
 obtain ⟨k,hk⟩:=Int.dvd_of_emod_eq_zero h;subst hk;rw [Int.mul_tdiv_cancel_left _ (by decide),Int.mul_ediv_cancel_left _ (by decide)]
theorem hvX_even (x:Int):hvX x%2=0:=by unfold hvX;split <;> omega
theorem squareRoot_any {w:World}{a b:Option Addr}{ca cb:Nat}(m:Bool) (X Y:Nat) (e f:Int)
 (AX:Arg w a (ws X).length ca (ws X)) (AY:Arg w b (ws Y).length cb (ws Y)) (hT:Tab w) (hX:X=0∨X%2=1) (hY:Y≠0)
 (he0:-1048576≤e) (he1:e≤1048576) (hf0:-1048576≤f) (hf1:f≤1048576) (bX:bl X≤262144) (bY:bl Y≤262144) :
 Calls Tryz.prog 143 #[.agg #[.bool false,.slice a (ws X).length ca,.int .i64 e,.bool m,.slice b (ws Y).length cb,.int .i64 f]] w fun r w'=>DAns w.heap.size w' r (sqZ X e Y f)∧Below w.heap.size w w':=by
 have D:=divS_facts X Y 129 hX hY (by omega) (by omega) bX bY
 have bW:bl (whoS X Y 129)≤130:=bl_lt_pow D.most;have hc:cutS Y 129≤129:=by unfold cutS;omega
 have hb:-262144≤byS X Y 129∧byS X Y 129≤264000:=by have:=D.blh;unfold byS;omega
 have hx:-10000000<sqX X e Y f∧sqX X e Y f<10000000:=by unfold sqX;omega
 have HD:∀ u,Below w.heap.size w u→Calls Tryz.prog 178 #[.agg #[.bool false,.slice a (ws X).length ca,.int .i64 e,.bool m,.slice b (ws Y).length cb,.int .i64 f],.int .i64 129] u fun r w'=>(∃ v,r=.returned (.agg #[v,.int .i64 (sqX X e Y f),.bool (atS X Y 129)])∧Nt u.heap.size w' v (whoS X Y 129))∧Below u.heap.size u w':=fun u hu=>divided11 false m X Y e f 129 (AX.below hu) (AY.below hu) hX hY he0 he1 hf0 hf1 (by omega) (by omega) bX bY
 obtain ⟨r1,r2⟩:=sqR_is (sqW X e Y f);have g2:=sqW_lt X e Y f D;have q2:sqR (sqW X e Y f)<2^65:=lt_of_sq r1 (by rw [show 2*65=130 by rfl];exact g2)
 have bR:bl (sqR (sqW X e Y f))≤65:=bl_lt_pow q2;have bW':bl (sqW X e Y f)≤130:=bl_lt_pow g2;have bL:bl (sqW X e Y f-sqR (sqW X e Y f)*sqR (sqW X e Y f))≤262144:=bl_le_of (Nat.sub_le _ _) (by omega)
 have HR:∀ (u:World) (p:Option Addr) (q:Nat),Arg u p (ws (sqW X e Y f)).length q (ws (sqW X e Y f))→Calls Tryz.prog 180 #[.slice p (ws (sqW X e Y f)).length q] u fun r w'=>∃ v v',r=.returned (.tuple #[v,v'])∧Nt u.heap.size w' v (sqR (sqW X e Y f))∧Nt u.heap.size w' v' (sqW X e Y f-sqR (sqW X e Y f)*sqR (sqW X e Y f))∧Below u.heap.size u w':=by
  intro u p q hA;exact Root_arg hA (by rw [val_ws];exact ⟨r1,r2⟩) (by rw [val_ws])
 have HL:∀ (u:World) (p:Option Addr) (q:Nat),Arg u p (ws (sqW X e Y f-sqR (sqW X e Y f)*sqR (sqW X e Y f))).length q (ws (sqW X e Y f-sqR (sqW X e Y f)*sqR (sqW X e Y f)))→Calls Tryz.prog 147 #[.slice p (ws (sqW X e Y f-sqR (sqW X e Y f)*sqR (sqW X e Y f))).length q] u fun r w'=>r=.returned (.int .i64 (bl (sqW X e Y f-sqR (sqW X e Y f)*sqR (sqW X e Y f)):Nat))∧Below u.heap.size u w':=by
  intro u p q hA;exact Len_arg hA (by rw [val_ws])
 have hz:(bl (sqW X e Y f-sqR (sqW X e Y f)*sqR (sqW X e Y f))==0)=decide (sqW X e Y f=sqR (sqW X e Y f)*sqR (sqW X e Y f)):=by
  by_cases h:sqW X e Y f=sqR (sqW X e Y f)*sqR (sqW X e Y f)
  · rw [decide_eq_true h,show sqW X e Y f-sqR (sqW X e Y f)*sqR (sqW X e Y f)=0 by omega,bl_zero];rfl
  · rw [decide_eq_false h]
    have:=bl_pos (sqW X e Y f-sqR (sqW X e Y f)*sqR (sqW X e Y f)) (by omega)
    exact beq_eq_false_iff_ne.2 (by omega)
 have hz2:(((bl (sqW X e Y f-sqR (sqW X e Y f)*sqR (sqW X e Y f)):Nat):Int)==0)=decide (sqW X e Y f=sqR (sqW X e Y f)*sqR (sqW X e Y f)):=by
  rw [←hz]
  by_cases h:bl (sqW X e Y f-sqR (sqW X e Y f)*sqR (sqW X e Y f))=0
  · rw [h];rfl
  · rw [beq_eq_false_iff_ne.2 h,beq_eq_false_iff_ne.2 (show ((bl (sqW X e Y f-sqR (sqW X e Y f)*sqR (sqW X e Y f)):Nat):Int)≠0 by omega)]
 have hvx:=hvX_even (sqX X e Y f);have hhr:-10000000≤hvX (sqX X e Y f)∧hvX (sqX X e Y f)≤10000000:=by unfold hvX;split <;> omega
 have HI:∀ (d:Bool) (u:World) (p:Option Addr) (q:Nat),d=sqD X e Y f→Below w.heap.size w u→Arg u p (ws (sqR (sqW X e Y f))).length q (ws (sqR (sqW X e Y f)))→Calls Tryz.prog 181 #[.bool false,.agg #[.slice p (ws (sqR (sqW X e Y f))).length q,.int .i64 (hvX (sqX X e Y f)/2),.bool d]] u fun r w'=>DAns u.heap.size w' r (sqZ X e Y f)∧Below u.heap.size u w':=by
  intro d u p q hd hu hA;subst hd;exact inside_any false _ _ _ hA (hT.belows hu) (by omega) (by omega) (by omega)
 have lV:=mkS_len false (2*sqR (sqW X e Y f)+(if sqD X e Y f then 0 else 1)) (clampE (hvX (sqX X e Y f)/2))
 have ht:=half_even hvx;unfold DAns at HI ⊢
 by_cases hev:sqX X e Y f%2=0
 · have eW:sqW X e Y f=whoS X Y 129:=by unfold sqW hvW;rw [if_pos hev]
   have eX:hvX (sqX X e Y f)=sqX X e Y f:=by unfold hvX;rw [if_pos hev]
   have eT:sqT X e Y f=atS X Y 129:=by unfold sqT hvA;rw [if_pos hev]
   rw [eX] at ht hhr
   cases hat:atS X Y 129 with
   | true =>
     rw [hat] at HD eT;refine sqrt_even_at m e f (whoS X Y 129) 0 (sqR (sqW X e Y f)) (sqW X e Y f-sqR (sqW X e Y f)*sqR (sqW X e Y f)) _ (sqX X e Y f) 0 (hvX (sqX X e Y f)/2) false _ _ _ _ _ (len_bl8 (by omega)) (by rw [ws0];omega) (len_bl8 (by omega)) (len_bl8 bL) lV (by omega) (by omega) (par_even hev) (by rw [eX];exact ht) (by omega) (by omega) HD (by rw [eW] at HR ⊢;exact HR) HL hz2 hz ?_
     intro u p q hu hA;exact HI _ u p q (by unfold sqD;rw [eT];rfl) hu hA
   | false =>
     rw [hat] at HD eT;refine sqrt_even_in m e f (whoS X Y 129) 0 (sqR (sqW X e Y f)) (sqW X e Y f-sqR (sqW X e Y f)*sqR (sqW X e Y f)) 0 (sqX X e Y f) 0 (hvX (sqX X e Y f)/2) false false _ _ _ _ (len_bl8 (by omega)) (by rw [ws0];omega) (len_bl8 (by omega)) (len_bl8 bL) lV (by omega) (by omega) (par_even hev) (by rw [eX];exact ht) (by omega) (by omega) HD (by rw [eW] at HR ⊢;exact HR) ?_
     intro u p q hu hA;exact HI _ u p q (by unfold sqD;rw [eT];rfl) hu hA
 · have eW:sqW X e Y f=whoS X Y 129/2:=by unfold sqW hvW;rw [if_neg hev]
   have eX:hvX (sqX X e Y f)=sqX X e Y f+1:=by unfold hvX;rw [if_neg hev]
   have eT:sqT X e Y f=(atS X Y 129&&decide (whoS X Y 129%2=0)):=by unfold sqT hvA;rw [if_neg hev]
   have e1:shiftS (whoS X Y 129) (-1)=(sqW X e Y f,0):=by
    have:=shiftS_dn (X:=whoS X Y 129) (k:=1) (V:=sqW X e Y f) (notLG11 (by omega)) (by rw [eW])
    exact this
   have HH:∀ (t':Bool) (u:World) (p:Option Addr) (q:Nat),t'=sqT X e Y f→Arg u p (ws (whoS X Y 129)).length q (ws (whoS X Y 129))→Calls Tryz.prog 179 #[.agg #[.slice p (ws (whoS X Y 129)).length q,.int .i64 (sqX X e Y f),.bool (atS X Y 129)]] u fun r w'=>(∃ v,r=.returned (.agg #[v,.int .i64 (hvX (sqX X e Y f)),.bool t'])∧Nt u.heap.size w' v (sqW X e Y f))∧Below u.heap.size u w':=by
    intro t' u p q ht' hA;rw [ht',eT]
    cases hat:atS X Y 129 with
    | true =>
      have hb:(!decide (whoS X Y 129/2^0%2=1))=(true&&decide (whoS X Y 129%2=0)):=by
       rw [Nat.pow_zero,Nat.div_one,Bool.true_and]
       by_cases h:whoS X Y 129%2=0
       · rw [decide_eq_true h,decide_eq_false (by omega)];rfl
       · rw [decide_eq_false h,decide_eq_true (by omega)];rfl
      rw [←hb];exact halved_yes (whoS X Y 129) _ _ _ hA (by omega) (by omega) e1 eX.symm (len_bl8 (by omega)) _ rfl
    | false=>exact halved_no (whoS X Y 129) _ _ _ hA (by omega) (by omega) e1 eX.symm (len_bl8 (by omega))
   cases hsT:sqT X e Y f with
   | true =>
     refine sqrt_odd_at m e f (whoS X Y 129) (sqW X e Y f) (sqR (sqW X e Y f)) (sqW X e Y f-sqR (sqW X e Y f)*sqR (sqW X e Y f)) _ (sqX X e Y f) (hvX (sqX X e Y f)) (hvX (sqX X e Y f)/2) (atS X Y 129) _ _ _ _ _ (len_bl8 (by omega)) (len_bl8 (by omega)) (len_bl8 (by omega)) (len_bl8 bL) lV hhr.1 hhr.2 (par_odd hev) ht (by omega) (by omega) HD (fun u p q hA=>HH true u p q hsT.symm hA) HR HL hz2 hz ?_
     intro u p q hu hA;exact HI _ u p q (by unfold sqD;rw [hsT];rfl) hu hA
   | false =>
     refine sqrt_odd_in m e f (whoS X Y 129) (sqW X e Y f) (sqR (sqW X e Y f)) (sqW X e Y f-sqR (sqW X e Y f)*sqR (sqW X e Y f)) 0 (sqX X e Y f) (hvX (sqX X e Y f)) (hvX (sqX X e Y f)/2) (atS X Y 129) false _ _ _ _ (len_bl8 (by omega)) (len_bl8 (by omega)) (len_bl8 (by omega)) (len_bl8 bL) lV hhr.1 hhr.2 (par_odd hev) ht (by omega) (by omega) HD (fun u p q hA=>HH false u p q hsT.symm hA) HR ?_
     intro u p q hu hA;exact HI _ u p q (by unfold sqD;rw [hsT];rfl) hu hA
def oneI (r:Ri):Nat→Ri:=fun _=>r
noncomputable def sqrR (rnd:Option (Bool×Nat×Int)→Int→Nat×Int) (r:Ri) (mode:Int):Nat×Int :=
 if mode<0∨4<mode then (0,1) else if errL (oneI r) 1=0 then (if dN (mkS r.n r.X r.e) then (0,110) else rnd (sqZ (dX (mkS r.n r.X r.e)) (dE (mkS r.n r.X r.e)) (dX (mkS r.m r.Y r.f)) (dE (mkS r.m r.Y r.f))) mode) else (0,errL (oneI r) 1)
theorem frm_of {n:Bool}{X:Nat}{e:Int}(h:(mkS n X e).isSome=true):Frm (dN (mkS n X e)) (dX (mkS n X e)) (dE (mkS n X e)):=by
 cases ho:mkS n X e with
 | none=>rw [ho] at h;cases h
 | some d =>
   obtain ⟨n1,X1,e1⟩:=d;exact mkS_frm ho
theorem Frm.par {n:Bool}{X:Nat}{e:Int}(h:Frm n X e):X=0∨X%2=1:=by rcases h.odd with q | q;exact .inr q;exact .inl q.1
theorem sq_reform (X:Nat) (e:Int) (Y:Nat) (f:Int) (hs:(sqZ X e Y f).isSome=true):mkS (dN (sqZ X e Y f)) (dX (sqZ X e Y f)) (dE (sqZ X e Y f))=sqZ X e Y f:=reform (o:=sqZ X e Y f) rfl hs
theorem Root11 {w:World}{n m:Bool}{a b:Option Addr}{la ca lb cb:Nat}{X Y:Nat}{e f:Int}(mode:Int) (hr:Rv w ⟨n,.slice a la ca,X,e,m,.slice b lb cb,Y,f⟩) (hT:Tab w) :
 Calls Tryz.prog 100 #[.agg #[.bool n,.slice a la ca,.int .i64 e,.bool m,.slice b lb cb,.int .i64 f],.int .i64 mode] w fun r w' =>
  r=.returned (.tuple #[.float .f64 (sqrR rndS ⟨n,.slice a la ca,X,e,m,.slice b lb cb,Y,f⟩ mode).1,.int .i64 (sqrR rndS ⟨n,.slice a la ca,X,e,m,.slice b lb cb,Y,f⟩ mode).2])∧Below w.heap.size w w':=by
 refine Root_box n m e f mode (sqrR rndS ⟨n,.slice a la ca,X,e,m,.slice b lb cb,Y,f⟩ mode) ?_;intro u hu;have hrT:=hr.below hu;have hTu:=hT.belows hu
 cases hn:dN (mkS n X e) with
 | true =>
   refine rounded_squareRoot64 mode hrT hTu (mkS n X e) (mkS m Y f) none 110 (0,110) rfl rfl (by show (ws 0).length≤8192;rw [ws0];omega) (fun h=>⟨rfl,rfl⟩) _ (by unfold sqrR;simp only;rw [hn];rfl) ?_ ?_
   · intro v p q hv N1 N2 h0
     obtain ⟨k1,k2,k3,k4⟩:=errL0 h0 0 (by omega)
     simp only at k1 k2 k3 k4;obtain ⟨a1,c1,rfl,A1⟩:=N1.arg (by have:=frm_len (frm_of k2);omega)
     obtain ⟨a2,c2,rfl,A2⟩:=N2.arg (by have:=frm_len (frm_of k3);omega)
     rw [hn];refine (sqrt_neg _ _ _).mono ?_;rintro r w' ⟨rfl,hb⟩;exact ⟨⟨_,rfl,Nt.nil _ _⟩,hb⟩
   · intro v p q h110
     exact absurd h110 (by decide)
 | false =>
   have hz:(0:Int)≠0→(rndS (sqZ (dX (mkS n X e)) (dE (mkS n X e)) (dX (mkS m Y f)) (dE (mkS m Y f))) mode).1=0∧(rndS (sqZ (dX (mkS n X e)) (dE (mkS n X e)) (dX (mkS m Y f)) (dE (mkS m Y f))) mode).2=0:=fun h=>absurd rfl h
   refine rounded_squareRoot64 mode hrT hTu (mkS n X e) (mkS m Y f) (sqZ (dX (mkS n X e)) (dE (mkS n X e)) (dX (mkS m Y f)) (dE (mkS m Y f))) 0 (rndS (sqZ (dX (mkS n X e)) (dE (mkS n X e)) (dX (mkS m Y f)) (dE (mkS m Y f))) mode) rfl rfl (mkS_len _ _ _) hz _ (by unfold sqrR;simp only;rw [hn];rfl) ?_ ?_
   · intro v p q hv N1 N2 h0
     obtain ⟨k1,k2,k3,k4⟩:=errL0 h0 0 (by omega)
     simp only at k1 k2 k3 k4;have F1:=frm_of k2;have F2:=frm_of k3;obtain ⟨a1,c1,rfl,A1⟩:=N1.arg (by have:=frm_len F1;omega)
     obtain ⟨a2,c2,rfl,A2⟩:=N2.arg (by have:=frm_len F2;omega)
     have hq:=squareRoot_any (dN (mkS m Y f)) (dX (mkS n X e)) (dX (mkS m Y f)) (dE (mkS n X e)) (dE (mkS m Y f)) A1 A2 (hTu.belows hv) F1.par k4 F1.down F1.up F2.down F2.up F1.size F2.size;have hs:=sqZ_some (dX (mkS n X e)) (dE (mkS n X e)) (dX (mkS m Y f)) (dE (mkS m Y f)) F1.par k4 F1.size F2.size;have he:erS (sqZ (dX (mkS n X e)) (dE (mkS n X e)) (dX (mkS m Y f)) (dE (mkS m Y f)))=0:=by unfold erS;rw [hs];rfl
     unfold DAns at hq;rw [he] at hq;rw [hn];exact hq
   · intro v p q _ hm h0 hv hA
     obtain ⟨k1,k2,k3,k4⟩:=errL0 h0 0 (by omega)
     simp only at k1 k2 k3 k4;have F1:=frm_of k2;have F2:=frm_of k3;have hs:=sqZ_some (dX (mkS n X e)) (dE (mkS n X e)) (dX (mkS m Y f)) (dE (mkS m Y f)) F1.par k4 F1.size F2.size;have rg:=frm_rng (o:=sqZ (dX (mkS n X e)) (dE (mkS n X e)) (dX (mkS m Y f)) (dE (mkS m Y f))) rfl;have hR:=Round_any hA (hTu.belows hv) (dN (sqZ (dX (mkS n X e)) (dE (mkS n X e)) (dX (mkS m Y f)) (dE (mkS m Y f)))) (dE (sqZ (dX (mkS n X e)) (dE (mkS n X e)) (dX (mkS m Y f)) (dE (mkS m Y f)))) mode (by omega) (by omega)
     rw [val_ws,sq_reform _ _ _ _ hs] at hR;exact hR
end
section
open Go.RowKit J
theorem Plain12 (w:World):Calls Tryz.prog 99 #[] w fun r w'=>r=.returned (.agg #[.int .i64 0,.int .i64 0])∧Below w.heap.size w w':=by
 go_enter Tryz.func99,Tryz.ntmps99;go_wp2;exact bodyPost_ret (v:=.agg #[.int .i64 0,.int .i64 0]) (by simp [results,Tryz.results99,go_sem]) rfl ⟨rfl,by first | exact bel_alloc _ _ | exact But.below (bel_alloc _ _) (((But.refl _ _).set 0 _).set 1 _) (by simp) (Nat.le_refl _)⟩
noncomputable def sq12 (V mode:Int):Nat×Int:=sqrR rndS ⟨dN (exV V),.bool false,dX (exV V),dE (exV V),false,.bool false,1,0⟩ mode
theorem sqrR_any (rnd:Option (Bool×Nat×Int)→Int→Nat×Int) (n m:Bool) (v u v' u':Value) (X Y:Nat) (e f mode:Int):sqrR rnd ⟨n,v,X,e,m,u,Y,f⟩ mode=sqrR rnd ⟨n,v',X,e,m,u',Y,f⟩ mode:=rfl
noncomputable def lenV (V:Int) (s:Sp) (mode:Int):Nat×Int:=if (vd (snd s.n s.u s.d s.m s.p s.a&&may 0 0) s.n s.u s.d 0 0).2 then ((vd (snd s.n s.u s.d s.m s.p s.a&&may 0 0) s.n s.u s.d 0 0).1,0) else sq12 V mode
theorem mk_one:mkS false 1 0=some (false,1,0):=by
 rw [mkS_odd _ _ _ (by decide),if_neg (by have hh:bl 1=1:=(by decide);omega)]
theorem length12 (g:Nat) (V:Int) (s:Sp) (mode:Int) (w:World) (hA:Acc7 w g V s) (hT:Tab w) :
 Calls Tryz.prog 47 #[.pointer (some ⟨g,0,none⟩),.int .i64 mode] w fun r w'=>r=.returned (.tuple #[.float .f64 (lenV V s mode).1,.int .i64 (lenV V s mode).2])∧Below w.heap.size w w':=by
 obtain ⟨⟨X,er⟩,hX⟩:∃ X,X=lenV V s mode:=⟨_,rfl⟩;rw [←hX];simp only;unfold lenV at hX;obtain ⟨sn,su,sd,sm,sp,sa⟩:=s;simp only at hX;obtain ⟨⟨vx,vt⟩,hvd⟩:∃ v,v=vd (snd sn su sd sm sp sa&&may 0 0) sn su sd 0 0:=⟨_,rfl⟩;rw [←hvd] at hX;simp only at hX;have HS:=hid (Specials7 g V ⟨sn,su,sd,sm,sp,sa⟩ w hA);have HV:=hid (fun u:World=>Verdict_any sn su sd sm sp sa 0 0 u)
 rw [←hvd] at HV;unfold Sp.agg at HS;simp only at HS HV;have HA:=qsd (ai hA (ai hT hX));clear hA hT hX hvd;go_enter Tryz.func47,Tryz.ntmps47
 go_wp2_with fail
 refine HS.out.mono ?_;rintro r w1 ⟨rfl,hb1⟩;have B1:=qsd hb1;clear hb1 HS
 go_wp2_with fail
 refine (Plain12 w1).mono ?_;rintro r w2 ⟨rfl,hb2⟩;have B2:=qsd (B1.out.trans (hb2.mono B1.out.size));clear hb2 B1
 go_wp2_with fail
 refine (HV.out _).mono ?_;rintro r w3 ⟨rfl,hb3⟩;have B3:=qsd (B2.out.trans (hb3.mono B2.out.size));clear hb3 B2 HV
 cases vt
 · have HE:=hid (Exact7 g V _ w3 (HA.out.1.bel B3.out) (HA.out.2.1.belows B3.out))
   have hxs:Aside ((ws (dX (exV V))).length≤133):=by obtain ⟨L,_,_,_,h0,h1,_⟩:=HA.out.1;exact dX_small h0 h1
   obtain ⟨o,ho⟩:∃ o,o=exV V:=⟨_,rfl⟩;rw [←ho] at HE hxs;have HO:=qsd ho;clear ho
   go_wp2_with fail
   refine HE.out.mono ?_;rintro r w4 ⟨v,rfl,hN,hb4⟩;obtain ⟨a1,c1,rfl,A1⟩:=hN.arg (Nat.le_trans hxs.out (by decide))
   have B4:=qsd (ai (B3.out.trans (hb4.mono B3.out.size)) A1);clear hN hb4 A1 HE;have HI:=Int_any 1 w4 (HA.out.2.1.belows B4.out.1) (by decide) (by decide)
   rw [show decide ((1:Int)<0)=false from rfl,show (1:Int).natAbs=1 from rfl,mk_one] at HI
   have HI:=hid HI
   go_wp2_with fail
   refine HI.out.mono ?_;rintro r w5 ⟨⟨v,rfl,hN⟩,hb5⟩;obtain ⟨a2,c2,rfl,A2⟩:=hN.arg (by show (ws 1).length≤_;exact Nat.le_trans ((ws_len_le 1 1).2 (by decide)) (by decide))
   have HR:=Root11 (n:=dN o) (e:=dE o) (m:=dN (some (false,1,0))) (f:=dE (some (false,1,0))) mode ⟨⟨_,_,_,_,rfl,B4.out.2.below hb5,val_ws _⟩,⟨_,_,_,_,rfl,A2,val_ws _⟩,by show -9223372036854775808≤dE o∧dE o≤9223372036854775807;rw [HO.out];exact dE_small V,by show -9223372036854775808≤(0:Int)∧(0:Int)≤9223372036854775807;decide⟩ (HA.out.2.1.belows (B4.out.1.trans (hb5.mono B4.out.1.size)))
   rw [sqrR_any rndS _ _ _ _ (.bool false) (.bool false),HO.out] at HR;have hx:=HA.out.2.2;rw [if_neg (by decide)] at hx
   have HR2:Hid (Calls Tryz.prog 100 #[.agg #[.bool (dN o),.slice a1 (ws (dX o)).length c1,.int .i64 (dE o),.bool (dN (some (false,1,0))),.slice a2 (ws (dX (some (false,1,0)))).length c2,.int .i64 (dE (some (false,1,0)))],.int .i64 mode] w5 fun r w'=>r=.returned (.tuple #[.float .f64 X,.int .i64 er])∧Below w5.heap.size w5 w'):=by
    have e:sqrR rndS ⟨dN (exV V),.bool false,dX (exV V),dE (exV V),false,.bool false,1,0⟩ mode=(X,er):=hx.symm;rw [HO.out];refine HR.mono ?_;rintro r w' ⟨h1,h2⟩;refine ⟨?_,h2⟩;rw [h1]
    show Ending.returned (.tuple #[.float .f64 (sqrR rndS ⟨dN (exV V),.bool false,dX (exV V),dE (exV V),false,.bool false,1,0⟩ mode).1,.int .i64 (sqrR rndS ⟨dN (exV V),.bool false,dX (exV V),dE (exV V),false,.bool false,1,0⟩ mode).2])=_
    rw [e]
   have B5:=qsd (B4.out.1.trans (hb5.mono B4.out.1.size));clear hN hb5 A2 HI HR hx B4
   go_wp2_with fail
   refine HR2.out.mono ?_;rintro r w6 ⟨rfl,hb6⟩;have B6:=qsd (B5.out.trans (hb6.mono B5.out.size));clear hb6 HR2;go_wp2;refine bodyPost_ret (v:=.tuple #[.float .f64 X,.int .i64 er]) (by simp [results,Tryz.results47,go_sem]) rfl ⟨rfl,B6.out⟩
 · go_wp2
   refine bodyPost_ret (v:=.tuple #[.float .f64 X,.int .i64 er]) (by have e:=HA.out.2.2;rw [if_pos trivial] at e;cases e;simp [results,Tryz.results47,go_sem]) rfl ⟨rfl,B3.out⟩
def nI (xs:List Nat):List (Nat×Int):=xs.map (fun x=>(pK x x,pT x x))
theorem nI_take (xs:List Nat) (k:Nat) (h1:k<xs.length):nI (xs.take (k+1))=nI (xs.take k)++[(pK (xs.getD k 0) (xs.getD k 0),pT (xs.getD k 0) (xs.getD k 0))]:=by
 unfold nI;rw [take_snoc10 xs k h1,List.map_append];rfl
def aI (xs ys:List Nat):List (Nat×Int):=(List.zipWith ap12 xs ys).flatten
theorem aI_take (xs ys:List Nat) (k:Nat) (h1:k<xs.length) (h2:k<ys.length):aI (xs.take (k+1)) (ys.take (k+1))=aI (xs.take k) (ys.take k)++ap12 (xs.getD k 0) (ys.getD k 0):=by
 unfold aI;rw [take_snoc10 xs k h1,take_snoc10 ys k h2,List.zipWith_append (by simp;omega),List.flatten_append]
 simp
theorem aI_len (xs ys:List Nat):(aI xs ys).length≤4*min xs.length ys.length:=by
 unfold aI
 induction xs generalizing ys with
 | nil=>simp
 | cons x xs ih =>
   cases ys with
   | nil=>simp
   | cons y ys =>
     have:=ih ys;have:=ap12_len x y;simp only [List.zipWith_cons_cons,List.flatten_cons,List.length_append,List.length_cons];omega
noncomputable def normR (xs:List Nat) (mode:Int):Nat×Int:=if rf12 mode xs.length xs.length=0 then lenV (vI (nI xs)) (sI (nI xs)) mode else (0,rf12 mode xs.length xs.length)
noncomputable def distR (xs ys:List Nat) (mode:Int):Nat×Int:=if rf12 mode xs.length ys.length=0 then lenV (vI (aI xs ys)) (sI (aI xs ys)) mode else (0,rf12 mode xs.length ys.length)
end
section
open Go.RowKit J
theorem norm12_no (a:Option Addr) (n c:Nat) (mode e:Int) (w:World) (he:rf12 mode n n=e) (h0:(e==0)=false) :
 Calls Tryz.prog 15 #[.slice a n c,.int .i64 mode] w fun r w'=>r=.returned (.tuple #[.float .f64 0,.int .i64 e])∧Below w.heap.size w w':=by
 have HR:=hid (fun u:World=>refused12 mode a a n c n c u)
 rw [he] at HR;have h0':(e != 0)=true:=by simp at h0 ⊢;exact h0
 have H0:=qsd (bel_alloc w (Obj.cells #[.slice a n c] 22));clear he h0;go_enter Tryz.func15,Tryz.ntmps15
 go_wp2_with fail
 refine (HR.out _).mono ?_;rintro r w2 ⟨rfl,rfl⟩;clear HR;go_wp2
 go_ret2
 exact ⟨rfl,H0.out⟩
theorem norm12_ok (xs:List Nat) (a:Option Addr) (n c:Nat) (mode:Int) (w:World) (hn:n=xs.length) (hF:Fs w.heap.size w a xs) (hW1:W64 xs) (hT:Tab w) (he:rf12 mode n n=0) (X:Nat) (er:Int) (hX:lenV (vI (nI xs)) (sI (nI xs)) mode=(X,er)) :
 Calls Tryz.prog 15 #[.slice a n c,.int .i64 mode] w fun r w'=>r=.returned (.tuple #[.float .f64 X,.int .i64 er])∧Below w.heap.size w w':=by
 have HR:=hid (fun u:World=>refused12 mode a a n c n c u)
 rw [he] at HR;obtain ⟨o1,o2,o3,o4⟩:=rf12_ok he;obtain ⟨W,hW⟩:∃ W,W=w.alloc (Obj.cells #[.slice a n c] 22):=⟨_,rfl⟩
 have H0:Aside (Below w.heap.size w W∧Bl W w.heap.size 22 [.slice a n c]∧W.heap.size=w.heap.size+1):=by
  subst hW;exact ⟨bel_alloc _ _,Bl.new w 22 [_],by simp⟩
 have HX:=qsd (ai hn (ai hF (ai hW1 (ai hT (ai o1 (ai o2 (ai o3 hX)))))));clear hn hF hW1 hT he o1 o2 o3 o4 hX;go_enter Tryz.func15,Tryz.ntmps15
 go_wp2_with fail
 rw [←hW];clear hW;refine (HR.out _).mono ?_;rintro r w2 ⟨rfl,rfl⟩;clear HR;have c0:=H0.out.2.1.cell 0 _ rfl
 have HS:=hid (sum12N n w.heap.size (fun k=>nI (xs.take k)) w2 (by simp [nI]) HX.out.2.2.2.2.2.2.1 (hid (by
  intro g h k u hg hh hk hA hc hb;obtain ⟨hn,hF,hW1,hT,o1,o2,o3,hX⟩:=HX.out;have hbu:=H0.out.1.trans (hb.mono H0.out.1.size);obtain ⟨b1,p1,l1,e1,d1⟩:=hF.atb hbu k (by omega)
  have hz:=H0.out.2.2;have q1:=(H0.out.2.1.below hb (by omega)).cell 0 _ rfl
  rw [e1] at q1
  try simp only at hA ⊢
  rw [nI_take xs k (by omega)]
  exact hand12N w.heap.size g h k n c b1 p1 _ _ u hA (by unfold nI;simp;omega) (hW1.get k) hc q1 d1 hk o3 ⟨by omega,by omega⟩)))
 go_wp2_with fail
 refine HS.out.mono ?_;rintro r w3 ⟨g,rfl,hA,hb3⟩;have K3:=qsd (ai hA (H0.out.1.trans (hb3.mono H0.out.1.size)));clear hA hb3 HS c0 H0
 have HRd:Hid (Calls Tryz.prog 47 #[.pointer (some ⟨g,0,none⟩),.int .i64 mode] w3 fun r w'=>r=.returned (.tuple #[.float .f64 X,.int .i64 er])∧Below w3.heap.size w3 w'):=by
  obtain ⟨hn,hF,hW1,hT,o1,o2,o3,hX⟩:=HX.out
  have hA:At12 w3 g (nI xs):=by
   have:=K3.out.1
   try simp only at this
   rw [List.take_of_length_le (by omega)] at this
   exact this
  have hR:=length12 g (vI (nI xs)) (sI (nI xs)) mode w3 hA.1 (hT.belows K3.out.2);rw [hX] at hR;exact hR
 have KB:=qsd K3.out.2;clear K3 HX
 go_wp2_with fail
 refine HRd.out.mono ?_;rintro r w4 ⟨rfl,hb4⟩;have K4:=qsd (KB.out.trans (hb4.mono KB.out.size));clear hb4 HRd;go_wp2
 go_ret2
 exact ⟨rfl,K4.out⟩
theorem Norm12 (xs:List Nat) (a:Option Addr) (n c:Nat) (mode:Int) (w:World) (hn:n=xs.length) (hF:Fs w.heap.size w a xs) (hW1:W64 xs) (hT:Tab w) :
 Calls Tryz.prog 15 #[.slice a n c,.int .i64 mode] w fun r w'=>r=.returned (.tuple #[.float .f64 (normR xs mode).1,.int .i64 (normR xs mode).2])∧Below w.heap.size w w':=by
 unfold normR;rw [←hn]
 by_cases he:rf12 mode n n=0
 · rw [if_pos he]
   exact norm12_ok xs a n c mode w hn hF hW1 hT he _ _ rfl
 · rw [if_neg he]
   exact norm12_no a n c mode _ w rfl (by simpa using he)
theorem dist12_no (a b:Option Addr) (n c m d:Nat) (mode e:Int) (w:World) (he:rf12 mode n m=e) (h0:(e==0)=false) :
 Calls Tryz.prog 16 #[.slice a n c,.slice b m d,.int .i64 mode] w fun r w'=>r=.returned (.tuple #[.float .f64 0,.int .i64 e])∧Below w.heap.size w w':=by
 have HR:=hid (fun u:World=>refused12 mode a b n c m d u)
 rw [he] at HR;have h0':(e != 0)=true:=by simp at h0 ⊢;exact h0
 have H0:Aside (Below w.heap.size w ((w.alloc (Obj.cells #[.slice a n c] 22)).alloc (Obj.cells #[.slice b m d] 22))):=(bel_alloc _ _).trans ((bel_alloc _ _).mono (by simp))
 have hne:w.heap.size≠w.heap.size+1:=by omega
 clear he h0;go_enter Tryz.func16,Tryz.ntmps16
 go_wp2_with fail
 refine (HR.out _).mono ?_;rintro r w2 ⟨rfl,rfl⟩;clear HR;go_wp2
 go_ret2
 exact ⟨rfl,H0.out⟩
theorem dist12_ok (xs ys:List Nat) (a b:Option Addr) (n c m d:Nat) (mode:Int) (w:World) (hn:n=xs.length) (hm:m=ys.length) (hF:Fs w.heap.size w a xs) (hG:Fs w.heap.size w b ys) (hW1:W64 xs) (hW2:W64 ys) (hT:Tab w) (he:rf12 mode n m=0) (X:Nat) (er:Int) (hX:lenV (vI (aI xs ys)) (sI (aI xs ys)) mode=(X,er)) :
 Calls Tryz.prog 16 #[.slice a n c,.slice b m d,.int .i64 mode] w fun r w'=>r=.returned (.tuple #[.float .f64 X,.int .i64 er])∧Below w.heap.size w w':=by
 have HR:=hid (fun u:World=>refused12 mode a b n c m d u)
 rw [he] at HR;obtain ⟨o1,o2,o3,o4⟩:=rf12_ok he;obtain ⟨W,hW⟩:∃ W,W=(w.alloc (Obj.cells #[.slice a n c] 22)).alloc (Obj.cells #[.slice b m d] 22):=⟨_,rfl⟩
 have H0:Aside (Below w.heap.size w W∧Bl W w.heap.size 22 [.slice a n c]∧Bl W (w.heap.size+1) 22 [.slice b m d]∧W.heap.size=w.heap.size+2):=by
  subst hW;exact ⟨(bel_alloc _ _).trans ((bel_alloc _ _).mono (by simp)),(Bl.new w 22 [_]).alloc _,Bl.new' (w.alloc _) 22 _ [_] (by simp),by simp⟩
 have HX:=qsd (ai hn (ai hm (ai hF (ai hG (ai hW1 (ai hW2 (ai hT (ai o1 (ai o2 (ai o3 (ai o4 hX)))))))))));have hne:w.heap.size≠w.heap.size+1:=by omega
 clear hn hm hF hG hW1 hW2 hT he o1 o2 o3 o4 hX;go_enter Tryz.func16,Tryz.ntmps16
 go_wp2_with fail
 rw [←hW];clear hW;refine (HR.out _).mono ?_;rintro r w2 ⟨rfl,rfl⟩;clear HR;have c0:=H0.out.2.1.cell 0 _ rfl
 have HS:=hid (sum12A n w.heap.size (w.heap.size+1) (fun k=>aI (xs.take k) (ys.take k)) w2 (by simp [aI]) HX.out.2.2.2.2.2.2.2.2.2.1 (hid (by
  intro g h k u hg hh hk hA hc hb;obtain ⟨hn,hm,hF,hG,hW1,hW2,hT,o1,o2,o3,o4,hX⟩:=HX.out;have hbu:=H0.out.1.trans (hb.mono H0.out.1.size);obtain ⟨b1,p1,l1,e1,d1⟩:=hF.atb hbu k (by omega)
  obtain ⟨b2,p2,l2,e2,d2⟩:=hG.atb hbu k (by omega)
  have hz:=H0.out.2.2.2;have q1:=(H0.out.2.1.below hb (by omega)).cell 0 _ rfl
  have q2:=(H0.out.2.2.1.below hb (by omega)).cell 0 _ rfl
  rw [e1] at q1;rw [e2] at q2
  try simp only at hA ⊢
  rw [aI_take xs ys k (by omega) (by omega)]
  have hhl:h<u.heap.size:=World.block_lt_of_cell? u ⟨h,0,none⟩ (by rw [hc])
  have hhg:h≠g:=by
   rintro rfl;obtain ⟨L,hL,_,_,_,_,hAc⟩:=hA.1
   cases L with
   | nil=>simp at hL
   | cons l L =>
     have:=Bl.cell hAc 0 (U l) rfl;rw [hc] at this
     cases this
  exact hand12A w.heap.size (w.heap.size+1) g h k n m c d b1 p1 b2 p2 _ _ _ u hA (by have:=aI_len (xs.take k) (ys.take k);simp at this;omega) (hW1.get k) (hW2.get k) hc q1 q2 d1 d2 hk (by omega) o3 hhl hhg ⟨by omega,by omega,by omega,by omega⟩)))
 go_wp2_with fail
 refine HS.out.mono ?_;rintro r w3 ⟨g,rfl,hA,hb3⟩;have K3:=qsd (ai hA (H0.out.1.trans (hb3.mono H0.out.1.size)));clear hA hb3 HS c0 H0
 have HRd:Hid (Calls Tryz.prog 47 #[.pointer (some ⟨g,0,none⟩),.int .i64 mode] w3 fun r w'=>r=.returned (.tuple #[.float .f64 X,.int .i64 er])∧Below w3.heap.size w3 w'):=by
  obtain ⟨hn,hm,hF,hG,hW1,hW2,hT,o1,o2,o3,o4,hX⟩:=HX.out
  have hA:At12 w3 g (aI xs ys):=by
   have:=K3.out.1
   try simp only at this
   rw [List.take_of_length_le (by omega),List.take_of_length_le (by omega)] at this
   exact this
  have hR:=length12 g (vI (aI xs ys)) (sI (aI xs ys)) mode w3 hA.1 (hT.belows K3.out.2);rw [hX] at hR;exact hR
 have KB:=qsd K3.out.2;clear K3 HX
 go_wp2_with fail
 refine HRd.out.mono ?_;rintro r w4 ⟨rfl,hb4⟩;have K4:=qsd (KB.out.trans (hb4.mono KB.out.size));clear hb4 HRd;go_wp2
 go_ret2
 exact ⟨rfl,K4.out⟩
theorem Dist12 (xs ys:List Nat) (a b:Option Addr) (n c m d:Nat) (mode:Int) (w:World) (hn:n=xs.length) (hm:m=ys.length) (hF:Fs w.heap.size w a xs) (hG:Fs w.heap.size w b ys) (hW1:W64 xs) (hW2:W64 ys) (hT:Tab w) :
 Calls Tryz.prog 16 #[.slice a n c,.slice b m d,.int .i64 mode] w fun r w'=>r=.returned (.tuple #[.float .f64 (distR xs ys mode).1,.int .i64 (distR xs ys mode).2])∧Below w.heap.size w w':=by
 unfold distR;rw [←hn,←hm]
 by_cases he:rf12 mode n m=0
 · rw [if_pos he]
   exact dist12_ok xs ys a b n c m d mode w hn hm hF hG hW1 hW2 hT he _ _ rfl
 · rw [if_neg he]
   exact dist12_no a b n c m d mode _ w rfl (by simpa using he)
end
section
open Go.RowKit
def errN (X:Nat) (n:Bool) (e:Int) (Y:Nat) (m:Bool) (f:Int):Int:=if sgn m Y<0 then 1 else if (mkS n X e).isSome&&(mkS m Y f).isSome then (if dX (mkS m Y f)=0 then 21 else 0) else 2
theorem errL_one (r:Ri):errL (oneI r) 1=errN r.X r.n r.e r.Y r.m r.f:=by
 unfold errL errN oneI;simp only [show List.range 1=[0] from rfl,List.any_cons,List.any_nil,Bool.or_false,decide_eq_true_eq]
 cases (mkS r.n r.X r.e).isSome <;> cases (mkS r.m r.Y r.f).isSome <;> simp
theorem mkS_sm (n:Bool) (X:Nat) (e:Int) (hX:X%2=1) (hb:X<16) (h0:-1048576≤e) (h1:e≤1048576):mkS n X e=some (n,X,e):=by
 rw [mkS_odd _ _ _ hX,if_neg (by have hh:bl X≤4:=(bl_lt_pow (by omega));omega)]
theorem mkS_pow11 (n:Bool) (k Y:Nat) (e:Int):mkS n (2^k*Y) e=mkS n Y (e+k):=by
 induction k generalizing e with
 | zero=>simp
 | succ k ih=>rw [Nat.pow_succ,Nat.mul_comm (2^k) 2,Nat.mul_assoc,mkS_double,ih];congr 1;omega
end
section
open Go.RowKit
attribute [local go_sem] B.f64bits
theorem fw1:mkS false 1 0=some (false,1,0):=(mkS_sm false 1 0 (by decide) (by decide) (by decide) (by decide))
theorem fw2:mkS false 1 1=some (false,1,1):=(mkS_sm false 1 1 (by decide) (by decide) (by decide) (by decide))
theorem fw3:mkS false 3 0=some (false,3,0):=(mkS_sm false 3 0 (by decide) (by decide) (by decide) (by decide))
theorem fw4:mkS false 1 2=some (false,1,2):=(mkS_sm false 1 2 (by decide) (by decide) (by decide) (by decide))
theorem fw5:mkS false 5 0=some (false,5,0):=(mkS_sm false 5 0 (by decide) (by decide) (by decide) (by decide))
theorem fw0:mkS false 0 0=some (false,0,0):=(mkS_zero _ _)
end
section
open Go.RowKit
def Iv (o:Option (Bool×Nat×Int)) (lo hi:Int):Prop:=∃ n X e,o=some (n,X,e)∧Frm n X e∧(X=0∨(lo≤e∧e+(bl X:Int)≤hi))
theorem Iv.mono {o:Option (Bool×Nat×Int)}{a b c d:Int}(h:Iv o a b) (h1:c≤a) (h2:b≤d):Iv o c d:=by
 obtain ⟨n,X,e,h,F,hb⟩:=h;exact ⟨n,X,e,h,F,by omega⟩
theorem mkS_iv (n:Bool) (X:Nat) (e a b:Int) (h:X=0∨(a≤e∧e+(bl X:Int)≤b)) (hw:b-a≤262144) (ha:-1048576≤a) (hb:b≤1048576):Iv (mkS n X e) a b:=by
 by_cases h0:X=0
 · subst h0
   rw [mkS_zero];exact ⟨false,0,0,rfl,⟨.inr ⟨rfl,rfl,rfl⟩,by rw [bl_zero];omega,by omega,by omega⟩,.inl rfl⟩
 · obtain ⟨h1,h2⟩:=h.resolve_left h0
   obtain ⟨k,o1,o2,o3⟩:=odd_part X h0;have hp:=bl_pos (X/2^lo X) (by omega)
   have e1:mkS n X e=some (n,X/2^lo X,e+lo X):=by
    unfold mkS;rw [if_neg h0,if_neg (by omega)]
   exact ⟨n,_,_,e1,mkS_frm e1,.inr (by omega)⟩
theorem bl_mul_le (X Y:Nat):bl (X*Y)≤bl X+bl Y:=bl_lt_pow (by rw [Nat.pow_add];exact Nat.mul_lt_mul'' (bl_lt X) (bl_lt Y))
theorem Iv.mul {o p:Option (Bool×Nat×Int)}{a b c d:Int}(h1:Iv o a b) (h2:Iv p c d) (hw:(b+d)-(a+c)≤262144) (hl:-1048576≤a+c) (hh:b+d≤1048576):Iv (mulD o p) (a+c) (b+d):=by
 obtain ⟨n,X,e,rfl,F,hx⟩:=h1;obtain ⟨m,Y,f,rfl,G,hy⟩:=h2
 show Iv (mkS (n != m) (X*Y) (e+f)) _ _
 refine mkS_iv _ _ _ _ _ ?_ hw hl hh
 rcases hx with rfl|hx
 · left;rw [Nat.zero_mul]
 · rcases hy with rfl | hy
   · left;rw [Nat.mul_zero]
   · right
     have:=bl_mul_le X Y;omega
theorem pow_bound {X k:Nat}{j:Nat}(h:bl X+k≤j):X*2^k<2^j:=by
 have h1:=bl_lt X;have h2:X*2^k<2^bl X*2^k:=Nat.mul_lt_mul_of_pos_right h1 (Nat.two_pow_pos k);rw [←Nat.pow_add] at h2;exact Nat.lt_of_lt_of_le h2 (Nat.pow_le_pow_right (by decide) h)
theorem addUp_iv (n m:Bool) (X Y:Nat) (e f a b:Int) (hfe:f≤e) (ha:a≤f) (h1:e+(bl X:Int)≤b) (h2:f+(bl Y:Int)≤b) (hw:b+1-a≤262144) (hl:-1048576≤a) (hh:b+1≤1048576) (hX:X≠0):Iv (addUp n X e m Y f) a (b+1):=by
 have hp:=bl_pos X hX;unfold addUp;rw [if_neg (by omega)]
 obtain ⟨j,hj⟩:∃ j:Nat,(j:Int)=b-f:=⟨(b-f).toNat,by omega⟩
 have b1:X*2^(e-f).toNat<2^j:=pow_bound (by omega)
 have b2:Y<2^j:=Nat.lt_of_lt_of_le (bl_lt Y) (Nat.pow_le_pow_right (by decide) (by omega))
 have fin:∀ (s:Bool) (Z:Nat),Z<2^(j+1)→Iv (mkS s Z f) a (b+1):=by
  intro s Z hZ;refine mkS_iv s Z f a (b+1) ?_ hw hl hh
  by_cases h0:Z=0
  · exact .inl h0
  · right
    have:=bl_lt_pow hZ;omega
 have b3:(2:Nat)^(j+1)=2*2^j:=by rw [Nat.pow_succ,Nat.mul_comm]
 split
 · exact fin _ _ (by omega)
 · split
   · exact fin _ _ (by omega)
   · exact fin _ _ (by omega)
theorem Iv.add {o p:Option (Bool×Nat×Int)}{a b:Int}(h1:Iv o a b) (h2:Iv p a b) (hw:b+1-a≤262144) (hl:-1048576≤a) (hh:b+1≤1048576):Iv (addD o p) a (b+1):=by
 have h1':=h1;have h2':=h2;obtain ⟨n,X,e,rfl,F,hx⟩:=h1;obtain ⟨m,Y,f,rfl,G,hy⟩:=h2
 show Iv (addF (n,X,e) (m,Y,f)) a (b+1)
 unfold addF;simp only
 by_cases hX:X=0
 · rw [if_pos hX];exact h2'.mono (by omega) (by omega)
 · rw [if_neg hX]
   by_cases hY:Y=0
   · rw [if_pos hY];exact h1'.mono (by omega) (by omega)
   · rw [if_neg hY]
     have ex:=hx.resolve_left hX;have ey:=hy.resolve_left hY
     split
     · exact addUp_iv m n Y X f e a b (by omega) ex.1 ey.2 ex.2 hw hl hh hY
     · exact addUp_iv n m X Y e f a b (by omega) ey.1 ex.2 ey.2 hw hl hh hX
def valO (o:Option (Bool×Nat×Int)):Int:=zv (-1048576) (dN o,dX o,dE o)
theorem fvO {o:Option (Bool×Nat×Int)}{n:Bool}{X:Nat}{e:Int}(h:mkS n X e=o) (hs:o.isSome=true):Fv (-1048576) o (valO o):=by
 cases o with
 | none=>cases hs
 | some d=>obtain ⟨n1,X1,e1⟩:=d;exact ⟨n1,X1,e1,rfl,mkS_frm h,rfl⟩
theorem Fv.reform {o:Option (Bool×Nat×Int)}{B z:Int}(h:Fv B o z):mkS (dN o) (dX o) (dE o)=o:=by
 obtain ⟨n,X,e,rfl,F,rfl⟩:=h.ex;exact F.self
end
section
open Go.RowKit
theorem Fv.len {o:Option (Bool×Nat×Int)}{B z:Int}(h:Fv B o z):(ws (dX o)).length≤8192:=by
 obtain ⟨n,X,e,rfl,F,_⟩:=h.ex;exact frm_len F
end
section
open Go.RowKit
def Fm (o:Option (Bool×Nat×Int)):Prop:=∃ B x,Fv B o x
theorem Fm.len {o:Option (Bool×Nat×Int)}(h:Fm o):(ws (dX o)).length≤8192:=by obtain ⟨B,x,h⟩:=h;exact h.len
theorem Fm.rng {o:Option (Bool×Nat×Int)}(h:Fm o):-9223372036854775808≤dE o∧dE o≤9223372036854775807:=by
 obtain ⟨B,x,h⟩:=h;obtain ⟨n,X,e,rfl,F,_⟩:=h.ex;have:=F.up;have:=F.down
 show -9223372036854775808≤e∧e≤9223372036854775807
 omega
end
section
open Go.RowKit
theorem vK_zero:vK 0=0:=by
 have:=vK_word 0 0 (.inl rfl) (by omega)
 simpa using this
end
section
open Go.RowKit
def fo8 (V:Int):Option (Bool×Nat×Int):=mkS (decide (V<0)) V.natAbs (-1074)
theorem sg1_abs (V:Int):sg1 (decide (V<0))*(V.natAbs:Int)=V:=by
 unfold sg1
 by_cases h:V<0
 · rw [decide_eq_true h,if_pos rfl];omega
 · rw [decide_eq_false h,if_neg (by decide)];omega
theorem fo8_fo (V:Int) (m:Nat) (hm:m≤200000) (hV:V.natAbs<2^m):Fo (fo8 V) (V*(UU:Int)) (-1074) ((m:Int)-1074):=by
 by_cases h0:V=0
 · subst h0
   refine ⟨⟨false,0,0,?_,?_,?_,.inl rfl⟩⟩
   · unfold fo8;exact mkS_zero _ _
   · exact mkS_frm (mkS_zero false 0)
   · rw [zv_zero _ rfl];simp
 · obtain ⟨X,e,h1,h2,h3,h4⟩:=mkS_sz (decide (V<0)) V.natAbs (-1074) (-1074) ((m:Int)-1074) (by omega) (by omega) (by have:=blLe hV;omega) (by omega) (by omega) (by omega)
   refine ⟨⟨_,X,e,h1,mkS_frm h1,?_,.inr ⟨h3,h4⟩⟩⟩;rw [zv_mkS h1 (-2097152) (.inr (by omega))]
   have e1:(2:Nat)^((-1074:Int) - -2097152).toNat=UU*SS:=US _ (by decide)
   rw [e1,Int.natCast_mul,Int.natCast_mul,←Int.mul_assoc,sg1_abs,Int.mul_assoc]
theorem fo8_one {o:Option (Bool×Nat×Int)}{V L H:Int}(h:Fo o (V*(UU:Int)) L H) (m:Nat) (hm:m≤200000) (hV:V.natAbs<2^m):o=fo8 V:=by
 obtain ⟨n,X,e,rfl,F1,z1,_⟩:=h.ex;obtain ⟨n',X',e',h2,F2,z2,_⟩:=(fo8_fo V m hm hV).ex;rw [h2];obtain ⟨rfl,rfl,rfl⟩:=zv_inj F1 F2 (-2097152) (by omega) (by rw [z1,z2])
 rfl
theorem top_fv {x:Nat}(hx:Wd x) (fx:finW x) (m:Nat) (hm:m=2098):(fvW x).natAbs<2^m:=by
 unfold fvW;rw [sg_abs];have:=top_v (magW x) fx 2045 rfl;obtain ⟨a,ha⟩:∃ a,a=2045:=⟨_,rfl⟩;have h2:=top_v (magW x) fx a ha;rw [show m=53+a by omega,Nat.pow_add]
 exact h2
theorem of_fo8 {x:Nat}(hx:Wd x) (fx:finW x):ofK (negW x) (magW x)=fo8 (fvW x):=by
 obtain ⟨n,X,e,h1,h2,_⟩:=of_fo (negW x) (magW x) fx;rw [h1];exact fo8_one h2 2098 (by omega) (top_fv hx fx 2098 rfl)
end
section
open Go.RowKit
theorem of_any8 (x:Nat) (hx:Wd x∧finW x) (w:World) (hT:Tab w) :
 Calls Tryz.prog 57 #[.float .f64 x] w fun r w'=>(∃ v,r=.returned (.tuple #[.agg #[.bool (dN (fo8 (fvW x))),v,.int .i64 (dE (fo8 (fvW x)))],.int .i64 0])∧Nt w.heap.size w' v (dX (fo8 (fvW x))))∧Below w.heap.size w w':=by
 obtain ⟨h1,h2,h3,_⟩:=wd64_bw (negW x) (magW x) (Nat.le_of_lt hx.2);have:=Of_any (negW x) (magW x/4503599627370496) (magW x%4503599627370496) h2 h3 w hT;rw [←h1,←wd_of x hx.1] at this;refine this.mono ?_;rintro r w' ⟨⟨v,rfl,hN⟩,hb⟩;have e:=of_fo8 hx.1 hx.2;unfold ofK at e;rw [e] at hN ⊢;have he:ofE (magW x/4503599627370496)=0:=by unfold ofE;rw [if_neg (by have:=hx.2;omega)]
 rw [he];exact ⟨⟨v,rfl,hN⟩,hb⟩
end
end Go.Proofs.YthfkleadcnkglaaGreatDoor
