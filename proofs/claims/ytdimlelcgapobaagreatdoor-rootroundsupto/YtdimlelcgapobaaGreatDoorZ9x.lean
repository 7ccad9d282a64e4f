import Derived.Test.YtdimlelcgapobaaGreatDoorZ8x
import Derived.Test.YtdimlelcgapobaaGreatDoorD23x
import Derived.Deep.OwnRows
import Derived.Deep.LoopGhost
import Derived.Test.YtdimlelcgapobaaGreatDoorD16x
import Derived.Deep.Cut
import Derived.Deep.RegionHeld3
import Derived.Deep.RegionWith
import Derived.Deep.CutRange
import Derived.Test.YtdimlelcgapobaaGreatDoorW34x
set_option linter.unusedVariables false
set_option linter.unusedSimpArgs false
set_option maxHeartbeats 16000000
set_option maxRecDepth 20000
namespace Go.Proofs.YtdimlelcgapobaaGreatDoor
section
open Go.RowKit
theorem infoR:(Tryz.prog.info? 30).map (fun i=>(i.zero,i.size,i.bytes))=some (some (.agg #[.bool false,.slice none 0 0,.int .i64 0,.bool false,.slice none 0 0,.int .i64 0]),6,80):=by kernel_rfl
theorem make_ratios1 (w:World) :
 (Instr.makeSlice 45 (.int .i64 1) (.int .i64 1)).run Tryz.prog w=.ok (.slice (some ⟨w.heap.size,0,none⟩) 1 1) (w.alloc (.cells #[.bool false,.slice none 0 0,.int .i64 0,.bool false,.slice none 0 0,.int .i64 0] 30)):=by
 have h:=infoR;have e:IntKind.i64.wrap 1=1:=by decide
 cases hq:Tryz.prog.info? 30 with
 | none=>rw [hq] at h;simp at h
 | some i =>
   rw [hq] at h;simp at h;simp [Instr.makeSlice,go_sem,Tryz.underlying45,hq,h,typeInfo,e]
theorem make_ratios2 (w:World) :
 (Instr.makeSlice 45 (.int .i64 2) (.int .i64 2)).run Tryz.prog w=.ok (.slice (some ⟨w.heap.size,0,none⟩) 2 2) (w.alloc (.cells #[.bool false,.slice none 0 0,.int .i64 0,.bool false,.slice none 0 0,.int .i64 0,.bool false,.slice none 0 0,.int .i64 0,.bool false,.slice none 0 0,.int .i64 0] 30)):=by
 have h:=infoR;have e:IntKind.i64.wrap 2=2:=by decide
 cases hq:Tryz.prog.info? 30 with
 | none=>rw [hq] at h;simp at h
 | some i =>
   rw [hq] at h;simp at h;simp [Instr.makeSlice,go_sem,Tryz.underlying45,hq,h,typeInfo,e]
structure Ri where
 n:Bool
 v:Value
 X:Nat
 e:Int
 m:Bool
 u:Value
 Y:Nat
 f:Int
def Av (w:World) (v:Value) (X:Nat):Prop:=∃ a l c xs,v=.slice a l c∧Arg w a l c xs∧val xs=X
theorem Av.below {w w':World}{v:Value}{X:Nat}(h:Av w v X) (hb:Below w.heap.size w w'):Av w' v X:=by
 obtain ⟨a,l,c,xs,rfl,hA,hv⟩:=h;exact ⟨a,l,c,xs,rfl,hA.below hb,hv⟩
theorem Nt.av {lo:Nat}{w:World}{v:Value}{X:Nat}(h:Nt lo w v X) (hs:(ws X).length≤35184372088832):Av w v X:=by
 obtain ⟨a,c,rfl,hA⟩:=h.arg hs;exact ⟨a,_,c,_,rfl,hA,val_ws X⟩
def Row6 (w:World) (g k:Nat) (I:Nat→Ri):Prop:=∃ cur:Array Value,w.heap[g]?=some (.cells cur 30 (0,0))∧∀ i,i<k→cur[i*6]?=some (.bool (I i).n)∧cur[i*6+1]?=some (I i).v∧cur[i*6+2]?=some (.int .i64 (I i).e)∧cur[i*6+3]?=some (.bool (I i).m)∧cur[i*6+4]?=some (I i).u∧cur[i*6+5]?=some (.int .i64 (I i).f)
theorem Row6.lt {w:World}{g k:Nat}{I:Nat→Ri}(h:Row6 w g k I):g<w.heap.size:=by obtain ⟨c,h,_⟩:=h;exact (Array.getElem?_eq_some_iff.1 h).1
theorem Row6.below {w w':World}{g k:Nat}{I:Nat→Ri}(h:Row6 w g k I) (hb:Below w.heap.size w w'):Row6 w' g k I:=by
 have hl:=h.lt;obtain ⟨c,h,r⟩:=h;exact ⟨c,by rw [hb.block g hl];exact h,r⟩
theorem Row6.facts {w:World}{g k:Nat}{I:Nat→Ri}(h:Row6 w g k I) (i:Nat) (hi:i<k) :
 w.cell? ⟨g,i*6,none⟩=some (.bool (I i).n)∧w.cell? ⟨g,i*6+1,none⟩=some (I i).v∧w.cell? ⟨g,i*6+2,none⟩=some (.int .i64 (I i).e)∧w.cell? ⟨g,i*6+3,none⟩=some (.bool (I i).m)∧w.cell? ⟨g,i*6+4,none⟩=some (I i).u∧w.cell? ⟨g,i*6+5,none⟩=some (.int .i64 (I i).f):=by
 obtain ⟨c,h,r⟩:=h;obtain ⟨r0,r1,r2,r3,r4,r5⟩:=r i hi;simp [World.cell?,h,r0,r1,r2,r3,r4,r5]
def errL (I:Nat→Ri) (k:Nat):Int :=
 if (List.range k).any (fun i=>decide (sgn (I i).m (I i).Y<0)) then 1
 else if (List.range k).any (fun i=>!((mkS (I i).n (I i).X (I i).e).isSome&&(mkS (I i).m (I i).Y (I i).f).isSome)) then 2
 else if (List.range k).any (fun i=>decide (dX (mkS (I i).m (I i).Y (I i).f)=0)) then 21 else 0
theorem any_of {k i:Nat}{p:Nat→Bool}(hi:i<k) (h:p i=true):(List.range k).any p=true:=List.any_eq_true.2 ⟨i,List.mem_range.2 hi,h⟩
theorem any_no {k:Nat}{p:Nat→Bool}(h:∀ i,i<k→p i=false):(List.range k).any p=false:=by
 rw [List.any_eq_false];intro i hi;rw [h i (List.mem_range.1 hi)];simp
structure RIn (w:World) (g k:Nat) (I:Nat→Ri):Prop where
 row:Row6 w g k I
 one:∀ i,i<k→Av w (I i).v (I i).X∧Av w (I i).u (I i).Y
 rng:∀ i,i<k→-9223372036854775808≤(I i).e∧(I i).e≤9223372036854775807∧-9223372036854775808≤(I i).f∧(I i).f≤9223372036854775807
 tab:Tab w
theorem RIn.below {w w':World}{g k:Nat}{I:Nat→Ri}(h:RIn w g k I) (hb:Below w.heap.size w w'):RIn w' g k I :=
 ⟨h.row.below hb,fun i hi=>⟨(h.one i hi).1.below hb,(h.one i hi).2.below hb⟩,h.rng,h.tab.belows hb⟩
def frmI (I:Nat→Ri) (V:Nat→Value×Value) (i:Nat):Ri :=
 ⟨dN (mkS (I i).n (I i).X (I i).e),(V i).1,dX (mkS (I i).n (I i).X (I i).e),dE (mkS (I i).n (I i).X (I i).e),dN (mkS (I i).m (I i).Y (I i).f),(V i).2,dX (mkS (I i).m (I i).Y (I i).f),dE (mkS (I i).m (I i).Y (I i).f)⟩
structure ROut (lo:Nat) (w:World) (g k:Nat) (I:Nat→Ri) (V:Nat→Value×Value):Prop where
 row:Row6 w g k (frmI I V)
 own:lo≤g
 nts:∀ i,i<k→Nt lo w (V i).1 (dX (mkS (I i).n (I i).X (I i).e))∧Nt lo w (V i).2 (dX (mkS (I i).m (I i).Y (I i).f))
theorem ROut.below {lo:Nat}{w w':World}{g k:Nat}{I:Nat→Ri}{V:Nat→Value×Value}(h:ROut lo w g k I V) (hb:Below w.heap.size w w'):ROut lo w' g k I V :=
 ⟨h.row.below hb,h.own,fun i hi=>⟨(h.nts i hi).1.below hb,(h.nts i hi).2.below hb⟩⟩
abbrev st6o (w:World) (g o:Nat) (a b c d e f:Value):World:=(((((w.setCell ⟨g,o,none⟩ a).setCell ⟨g,o+1,none⟩ b).setCell ⟨g,o+2,none⟩ c).setCell ⟨g,o+3,none⟩ d).setCell ⟨g,o+4,none⟩ e).setCell ⟨g,o+5,none⟩ f
theorem st6o_but (g o:Nat) (w:World) (a b c d e f:Value):But g w (st6o w g o a b c d e f):=((((((But.refl g w).set _ _).set _ _).set _ _).set _ _).set _ _).set _ _
theorem setc {w:World}{g T:Nat}{cur:Array Value}{fz:Nat×Nat}(h:w.heap[g]?=some (.cells cur T fz)) (o:Nat) (v:Value):(w.setCell ⟨g,o,none⟩ v).heap[g]?=some (.cells (cur.setIfInBounds o v) T fz):=by
 simp [World.setCell,Array.getElem?_modify,h]
theorem st6o_cells {w:World}{g T:Nat}{cur:Array Value}{fz:Nat×Nat}(h:w.heap[g]?=some (.cells cur T fz)) (o:Nat) (a b c d e f:Value) (ho:o+5<cur.size) :
 ∃ cur',(st6o w g o a b c d e f).heap[g]?=some (.cells cur' T fz)∧cur'.size=cur.size∧(cur'[o]?=some a∧cur'[o+1]?=some b∧cur'[o+2]?=some c∧cur'[o+3]?=some d∧cur'[o+4]?=some e∧cur'[o+5]?=some f)∧∀ j,(j<o∨o+5<j)→cur'[j]?=cur[j]?:=by
 refine ⟨_,setc (setc (setc (setc (setc (setc h o a) (o+1) b) (o+2) c) (o+3) d) (o+4) e) (o+5) f,by simp,?_,?_⟩
 · simp [Array.getElem?_setIfInBounds]
   omega
 · intro j hj
   have n0:o≠j:=by omega
   have n1:o+1≠j:=by omega
   have n2:o+2≠j:=by omega
   have n3:o+3≠j:=by omega
   have n4:o+4≠j:=by omega
   have n5:o+5≠j:=by omega
   simp [Array.getElem?_setIfInBounds,n0,n1,n2,n3,n4,n5]
structure RPart (lo:Nat) (w:World) (g k i:Nat) (I:Nat→Ri) (V:Nat→Value×Value):Prop where
 row:∃ cur:Array Value,w.heap[g]?=some (.cells cur 30 (0,0))∧cur.size=6*k∧∀ j,j<i→cur[j*6]?=some (.bool (frmI I V j).n)∧cur[j*6+1]?=some (frmI I V j).v∧cur[j*6+2]?=some (.int .i64 (frmI I V j).e)∧cur[j*6+3]?=some (.bool (frmI I V j).m)∧cur[j*6+4]?=some (frmI I V j).u∧cur[j*6+5]?=some (.int .i64 (frmI I V j).f)
 own:lo≤g
 nts:∀ j,j<i→Nt lo w (V j).1 (dX (mkS (I j).n (I j).X (I j).e))∧Nt lo w (V j).2 (dX (mkS (I j).m (I j).Y (I j).f))
theorem RPart.lt {lo:Nat}{w:World}{g k i:Nat}{I:Nat→Ri}{V:Nat→Value×Value}(h:RPart lo w g k i I V):g<w.heap.size:=by obtain ⟨c,h,_⟩:=h.row;exact (Array.getElem?_eq_some_iff.1 h).1
theorem RPart.below {lo:Nat}{w w':World}{g k i:Nat}{I:Nat→Ri}{V:Nat→Value×Value}(h:RPart lo w g k i I V) (hb:Below w.heap.size w w'):RPart lo w' g k i I V:=by
 have hl:=h.lt;obtain ⟨⟨c,h1,r⟩,h2,h3⟩:=h;exact ⟨⟨c,by rw [hb.block g hl];exact h1,r⟩,h2,fun j hj=>⟨(h3 j hj).1.below hb,(h3 j hj).2.below hb⟩⟩
theorem RPart.room {lo:Nat}{w:World}{g k i:Nat}{I:Nat→Ri}{V:Nat→Value×Value}(h:RPart lo w g k i I V) (j:Nat) (hj:j<6*k):(∃ v,w.cell? ⟨g,j,none⟩=some v)∧w.frozen? ⟨g,j,none⟩=false:=by
 obtain ⟨⟨c,h1,hs,r⟩,h2,h3⟩:=h;refine ⟨⟨c[j]'(by omega),?_⟩,?_⟩
 · simp [World.cell?,h1]
 · simp [World.frozen?,h1]
theorem RPart.out {lo:Nat}{w:World}{g k:Nat}{I:Nat→Ri}{V:Nat→Value×Value}(h:RPart lo w g k k I V):ROut lo w g k I V:=by
 obtain ⟨⟨c,h1,hs,r⟩,h2,h3⟩:=h;exact ⟨⟨c,h1,r⟩,h2,h3⟩
theorem RPart.step {lo:Nat}{w:World}{g k i:Nat}{I:Nat→Ri}{V:Nat→Value×Value}(h:RPart lo w g k i I V) (hi:i<k) (v u:Value)
 (hv:Nt lo w v (dX (mkS (I i).n (I i).X (I i).e))) (hu:Nt lo w u (dX (mkS (I i).m (I i).Y (I i).f))) :
 ∃ V',RPart lo (st6o w g (i*6) (.bool (dN (mkS (I i).n (I i).X (I i).e))) v (.int .i64 (dE (mkS (I i).n (I i).X (I i).e))) (.bool (dN (mkS (I i).m (I i).Y (I i).f))) u (.int .i64 (dE (mkS (I i).m (I i).Y (I i).f)))) g k (i+1) I V':=by
 obtain ⟨⟨c,h1,hs,r⟩,h2,h3⟩:=h;obtain ⟨c',k1,k2,k3,k4⟩:=st6o_cells h1 (i*6) (.bool (dN (mkS (I i).n (I i).X (I i).e))) v (.int .i64 (dE (mkS (I i).n (I i).X (I i).e))) (.bool (dN (mkS (I i).m (I i).Y (I i).f))) u (.int .i64 (dE (mkS (I i).m (I i).Y (I i).f))) (by omega)
 refine ⟨fun j=>if j=i then (v,u) else V j,⟨c',k1,by omega,fun j hj=>?_⟩,h2,fun j hj=>?_⟩
 · by_cases e:j=i
   · subst e
     simp only [frmI,if_true];exact k3
   · have:=r j (by omega)
     rw [k4 _ (by omega),k4 _ (by omega),k4 _ (by omega),k4 _ (by omega),k4 _ (by omega),k4 _ (by omega)]
     simp only [frmI,if_neg e] at this ⊢;exact this
 · by_cases e:j=i
   · subst e
     simp only [if_true];exact ⟨hv.off (st6o_but _ _ _ _ _ _ _ _ _) (hv.notin (by decide) h1),hu.off (st6o_but _ _ _ _ _ _ _ _ _) (hu.notin (by decide) h1)⟩
   · simp only [if_neg e]
     obtain ⟨q1,q2⟩:=h3 j (by omega)
     exact ⟨q1.off (st6o_but _ _ _ _ _ _ _ _ _) (q1.notin (by decide) h1),q2.off (st6o_but _ _ _ _ _ _ _ _ _) (q2.notin (by decide) h1)⟩
theorem sgnD {w:World}{n:Bool}{v:Value}{X:Nat}{e:Int}(h:Av w v X):Calls Tryz.prog 59 #[.agg #[.bool n,v,.int .i64 e]] w fun r w'=>r=.returned (.int .i64 (sgn n X))∧Below w.heap.size w w':=by
 obtain ⟨a,l,c,xs,rfl,hA,rfl⟩:=h;exact Sign_any3 hA n e
theorem formD {w:World}{r:Ri}(h1:Av w r.v r.X) (h2:Av w r.u r.Y) (hT:Tab w) (b0:-9223372036854775808≤r.e) (b1:r.e≤9223372036854775807) (b2:-9223372036854775808≤r.f) (b3:r.f≤9223372036854775807) :
 Calls Tryz.prog 93 #[.agg #[.bool r.n,r.v,.int .i64 r.e,.bool r.m,r.u,.int .i64 r.f]] w fun q w' =>
  (((mkS r.n r.X r.e).isSome&&(mkS r.m r.Y r.f).isSome)=true→∃ v u,q=.returned (.tuple #[.agg #[.bool (dN (mkS r.n r.X r.e)),v,.int .i64 (dE (mkS r.n r.X r.e)),.bool (dN (mkS r.m r.Y r.f)),u,.int .i64 (dE (mkS r.m r.Y r.f))],.int .i64 0])∧Nt w.heap.size w' v (dX (mkS r.n r.X r.e))∧Nt w.heap.size w' u (dX (mkS r.m r.Y r.f))∧Ap v u) ∧
  (((mkS r.n r.X r.e).isSome&&(mkS r.m r.Y r.f).isSome)=false→q=.returned (.tuple #[.agg #[.bool false,.slice none 0 0,.int .i64 0,.bool false,.slice none 0 0,.int .i64 0],.int .i64 2]))∧Below w.heap.size w w':=by
 obtain ⟨n,v,X,e,m,u,Y,f⟩:=r;simp only at *;obtain ⟨a,l,c,xs,rfl,hA,rfl⟩:=h1;obtain ⟨b,k,d,ys,rfl,hB,rfl⟩:=h2;have l1:=mkS_len n (val xs) e;have l2:=mkS_len m (val ys) f;have H1:∀ u,Below w.heap.size w u→Calls Tryz.prog 110 #[.bool n,.slice a l c,.int .i64 e] u fun r w'=>DAns u.heap.size w' r (mkS n (val xs) e)∧Below u.heap.size u w':=fun u hu=>Make_any (hA.below hu) (hT.belows hu) n e b0 b1
 have H2:∀ u,Below w.heap.size w u→Calls Tryz.prog 110 #[.bool m,.slice b k d,.int .i64 f] u fun r w'=>DAns u.heap.size w' r (mkS m (val ys) f)∧Below u.heap.size u w':=fun u hu=>Make_any (hB.below hu) (hT.belows hu) m f b2 b3
 simp only [DAns] at H1 H2;generalize mkS n (val xs) e=o at *;generalize mkS m (val ys) f=p at *
 cases ho:o.isSome with
 | false =>
   have he:erS o=2:=by unfold erS;rw [ho];rfl
   rw [he] at H1;refine (form_bad1 n m e f (dN o) false (dX o) 0 (dE o) 0 l1 (by rw [ws0];omega) H1).mono ?_
   rintro r w' ⟨⟨v,u,h,rfl,rfl⟩,hb⟩;exact ⟨fun hh=>(by cases hh),fun _=>h,hb⟩
 | true =>
   have he:erS o=0:=by unfold erS;rw [ho];rfl
   rw [he] at H1
   cases hp:p.isSome with
   | false =>
     have he:erS p=2:=by unfold erS;rw [hp];rfl
     rw [he] at H2;refine (form_bad2 n m e f (dN o) (dN p) (dX o) (dX p) (dE o) (dE p) l1 l2 H1 H2).mono ?_;rintro r w' ⟨⟨v,u,h,rfl,rfl⟩,hb⟩;exact ⟨fun hh=>(by cases hh),fun _=>h,hb⟩
   | true =>
     have he:erS p=0:=by unfold erS;rw [hp];rfl
     rw [he] at H2;refine (form_ok n m e f (dN o) (dN p) (dX o) (dX p) (dE o) (dE p) l1 l2 H1 H2).mono ?_;rintro r w' ⟨⟨v,u,h,hN,hM,hap⟩,hb⟩;exact ⟨fun _=>⟨v,u,h,hN,hM,hap⟩,fun hh=>(by cases hh),hb⟩
theorem forms1 (w:World) (g:Nat) (I:Nat→Ri) (h:RIn w g 1 I) :
 Calls Tryz.prog 57 #[.slice (some ⟨g,0,none⟩) 1 1] w fun r w' =>
  ((errL I 1≠0∧r=.returned (.tuple #[.slice none 0 0,.int .i64 (errL I 1)])) ∨
   (errL I 1=0∧∃ g' V,r=.returned (.tuple #[.slice (some ⟨g',0,none⟩) 1 1,.int .i64 0])∧ROut w.heap.size w' g' 1 I V))∧Below w.heap.size w w':=by
 have MK:=make_ratios1;have hH:=sd h;clear h;go_enter Tryz.func57,Tryz.ntmps57
 go_wp2_with fail
 go_loopg [15] 1 (fun gk iv wr=>∃ i:Nat,gk+i=1∧iv=.int .i64 (i:Nat)∧Aside (Below w.heap.size w wr∧∀ j,j<i→decide (sgn (I j).m (I j).Y<0)=false))
 case atStart=>exact ⟨0,by omega,rfl,Below.refl _ _,fun j hj=>by omega⟩
 case round =>
  obtain ⟨i,hgi,rfl,HR⟩:=hrel
  by_cases hi:i<1
  · have hin:=hH.out.below HR.out.1
    obtain ⟨g0,g1,g2,g3,g4,g5⟩:=hin.row.facts i hi;obtain ⟨A1,A2⟩:=hin.one i hi;obtain ⟨n,v,X,e,m,u,Y,f,hI⟩:∃ n v X e m u Y f,I i=⟨n,v,X,e,m,u,Y,f⟩:=⟨_,_,_,_,_,_,_,_,rfl⟩;rw [hI] at g0 g1 g2 g3 g4 g5 A1 A2;simp only at g0 g1 g2 g3 g4 g5 A1 A2;obtain ⟨a1,l1,c1,xs,rfl,-,-⟩:=id A1;obtain ⟨a2,l2,c2,ys,rfl,-,-⟩:=id A2;obtain ⟨U,hU⟩:∃ U,U=wr.alloc (.cells #[.bool n,.slice a1 l1 c1,.int .i64 e,.bool m,.slice a2 l2 c2,.int .i64 f] 30):=⟨_,rfl⟩;have hbU:Below wr.heap.size wr U:=by rw [hU];exact below_alloc _ _
    have RQ:Rq U wr.heap.size n (.slice a1 l1 c1) e m (.slice a2 l2 c2) f:=by rw [hU];exact Rq.new _ _ _ _ _ _ _
    obtain ⟨x0,x1,x2,x3,x4,x5⟩:=RQ.facts;have HC:=hid (sgnD (n:=m) (e:=f) (A2.below hbU));obtain ⟨s,hs⟩:∃ s,sgn m Y=s:=⟨_,rfl⟩;rw [hs] at HC;have SI:=(sd (ai (HR.out.1.trans (hbU.mono HR.out.1.size)) (ai HR.out.2 (ai hI (ai hs hi)))));clear hbU RQ A1 A2 hin HR hI hs;have hli:(i:Int)<1:=by omega
    have hl0:(0:Int)≤(i:Int):=by omega
    go_upto_region 4 with fail
    rw [←hU];clear hU g0 g1 g2 g3 g4 g5
    go_wp2_with fail
    clear x0 x1 x2 x3 x4 x5;refine HC.out.mono ?_;rintro r u1 ⟨rfl,hb⟩;have S2:=sd (SI.out.1.trans (hb.mono SI.out.1.size));clear hb HC
    by_cases hneg:s<0
    · have hn:=decide_eq_true hneg
      go_wp2_with fail
      go_ret2
      obtain ⟨_,hbef,hI,hs,hi⟩:=SI.out
      have hE:errL I 1=1:=by
       unfold errL;rw [if_pos (any_of hi (by rw [hI];simp only;rw [hs];exact decide_eq_true hneg))]
      rw [hE];exact ⟨.inl ⟨by decide,rfl⟩,S2.out⟩
    · have hn:decide (s<0)=false:=decide_eq_false (by omega)
      go_wp2_with fail
      go_roundg (1-(i+1))
      case measure=>omega
      case rel =>
       obtain ⟨_,hbef,hI,hs,hi⟩:=SI.out;refine ⟨i+1,by omega,by go_num,S2.out,fun j hj=>?_⟩
       by_cases hji:j=i
       · subst hji;rw [hI];simp only;rw [hs];exact decide_eq_false (by omega)
       · exact hbef j (by omega)
  · obtain rfl:i=1:=by omega
    obtain ⟨M,hM⟩:∃ M,M=wr.alloc (.cells #[.bool false,.slice none 0 0,.int .i64 0,.bool false,.slice none 0 0,.int .i64 0] 30):=⟨_,rfl⟩;have hbM:Below wr.heap.size wr M:=by rw [hM];exact below_alloc _ _
    have hpM:RPart w.heap.size M wr.heap.size 1 0 I (fun _=>(.slice none 0 0,.slice none 0 0)):=by
     rw [hM];exact ⟨⟨_,heap_alloc_new _ _,rfl,fun j hj=>by omega⟩,HR.out.1.size,fun j hj=>by omega⟩
    have S1:=(sd (ai HR.out.2 (ai hpM (HR.out.1.trans (hbM.mono HR.out.1.size)))));obtain ⟨gO,hgO⟩:∃ gO,gO=wr.heap.size:=⟨_,rfl⟩;clear HR hbM hpM hi hgi
    go_upto_region 9 with fail
    rw [←hM];rw [←hgO] at S1 ⊢;clear hM hgO
    go_loopg [29] 1 (fun gk iv wr=>∃ i:Nat,gk+i=1∧iv=.int .i64 (i:Nat)∧Aside (Below w.heap.size w wr∧(∀ j,j<i→((mkS (I j).n (I j).X (I j).e).isSome&&(mkS (I j).m (I j).Y (I j).f).isSome)=true)∧∃ V,RPart w.heap.size wr gO 1 i I V))
    case atStart=>exact ⟨0,by omega,rfl,S1.out.2.2,fun j hj=>by omega,_,S1.out.2.1⟩
    case round =>
     obtain ⟨i,hgi,rfl,HR⟩:=hrel;have SS:=sd S1.out.1;clear S1
     by_cases hi:i<1
     · obtain ⟨bel,hbef,V,hP⟩:=HR.out
       have hin:=hH.out.below bel;obtain ⟨g0,g1,g2,g3,g4,g5⟩:=hin.row.facts i hi;obtain ⟨A1,A2⟩:=hin.one i hi;obtain ⟨b0,b1,b2,b3⟩:=hin.rng i hi;have hFD:=fun (u:World) (hb:Below wr.heap.size wr u)=>formD (r:=I i) (A1.below hb) (A2.below hb) ((hin.below hb).tab) b0 b1 b2 b3
       obtain ⟨n,v,X,e,m,u,Y,f,hI⟩:∃ n v X e m u Y f,I i=⟨n,v,X,e,m,u,Y,f⟩:=⟨_,_,_,_,_,_,_,_,rfl⟩;rw [hI] at g0 g1 g2 g3 g4 g5 A1 A2 hFD;simp only at g0 g1 g2 g3 g4 g5 A1 A2 hFD;obtain ⟨a1,l1,c1,xs,rfl,-,-⟩:=id A1;obtain ⟨a2,l2,c2,ys,rfl,-,-⟩:=id A2;obtain ⟨U,hU⟩:∃ U,U=wr.alloc (.cells #[.bool n,.slice a1 l1 c1,.int .i64 e,.bool m,.slice a2 l2 c2,.int .i64 f] 30):=⟨_,rfl⟩;have hbU:Below wr.heap.size wr U:=by rw [hU];exact below_alloc _ _
       have RQ:Rq U wr.heap.size n (.slice a1 l1 c1) e m (.slice a2 l2 c2) f:=by rw [hU];exact Rq.new _ _ _ _ _ _ _
       obtain ⟨x0,x1,x2,x3,x4,x5⟩:=RQ.facts;have HC:=hid (hFD U hbU);have lo1:=mkS_len n X e;have lo2:=mkS_len m Y f;obtain ⟨o,ho⟩:∃ o,mkS n X e=o:=⟨_,rfl⟩;obtain ⟨p,hp⟩:∃ p,mkS m Y f=p:=⟨_,rfl⟩;rw [ho,hp] at HC;rw [ho] at lo1;rw [hp] at lo2;have SI:=(sd (ai (bel.trans (hbU.mono bel.size)) (ai hbef (ai hI (ai ho (ai hp (ai hi (hP.below hbU))))))));clear hbU RQ A1 A2 hin HR hI ho hp bel hbef hP hFD b0 b1 b2 b3;have hli:(i:Int)<1:=by omega
       have hl0:(0:Int)≤(i:Int):=by omega
       go_upto_region 11 with fail
       rw [←hU];clear hU g0 g1 g2 g3 g4 g5
       go_wp2_with fail
       clear x0 x1 x2 x3 x4 x5;refine HC.out.mono ?_;rintro r u1 ⟨h1,h2,hb⟩;clear HC
       cases hok:(o.isSome&&p.isSome) with
       | false =>
         obtain rfl:=h2 hok;have S2:=sd (SI.out.1.trans (hb.mono SI.out.1.size));clear h1 h2 hb
         go_wp2_with fail
         go_ret2
         obtain ⟨_,hbef,hI,ho,hp,hi,_⟩:=SI.out
         have hE:errL I 1=2:=by
          unfold errL;rw [any_no (p:=fun i=>decide (sgn (I i).m (I i).Y<0)) SS.out,if_neg Bool.false_ne_true,if_pos (any_of hi (by rw [hI];simp only;rw [ho,hp,hok];rfl))]
         rw [hE];exact ⟨.inl ⟨by decide,rfl⟩,S2.out.alloc S2.out.size _⟩
       | true =>
         obtain ⟨v1,v2,rfl,hN,hM2,-⟩:=h1 hok;obtain ⟨p1,q1,rfl,_⟩:=hN.arg (by omega)
         obtain ⟨p2,q2,rfl,_⟩:=hM2.arg (by omega)
         obtain ⟨U2,hU2⟩:∃ U,U=u1.alloc (.cells #[.bool (dN o),.slice p1 (ws (dX o)).length q1,.int .i64 (dE o),.bool (dN p),.slice p2 (ws (dX p)).length q2,.int .i64 (dE p)] 30):=⟨_,rfl⟩;have hbU:Below u1.heap.size u1 U2:=by rw [hU2];exact below_alloc _ _
         have RQ:Rq U2 u1.heap.size (dN o) (.slice p1 (ws (dX o)).length q1) (dE o) (dN p) (.slice p2 (ws (dX p)).length q2) (dE p):=by rw [hU2];exact Rq.new _ _ _ _ _ _ _
         obtain ⟨x0,x1,x2,x3,x4,x5⟩:=RQ.facts;have hP2:=(SI.out.2.2.2.2.2.2.below hb).below hbU;have hb2:=(SI.out.1.trans (hb.mono SI.out.1.size)).trans (hbU.mono (Nat.le_trans SI.out.1.size hb.size));obtain ⟨⟨y0,r0⟩,f0⟩:=hP2.room (i*6) (by omega)
         obtain ⟨⟨y1,r1⟩,f1⟩:=hP2.room (i*6+1) (by omega)
         obtain ⟨⟨y2,r2⟩,f2⟩:=hP2.room (i*6+2) (by omega)
         obtain ⟨⟨y3,r3⟩,f3⟩:=hP2.room (i*6+3) (by omega)
         obtain ⟨⟨y4,r4⟩,f4⟩:=hP2.room (i*6+4) (by omega)
         obtain ⟨⟨y5,r5⟩,f5⟩:=hP2.room (i*6+5) (by omega)
         obtain ⟨W',hW'⟩:∃ W',W'=st6o U2 gO (i*6) (.bool (dN o)) (.slice p1 (ws (dX o)).length q1) (.int .i64 (dE o)) (.bool (dN p)) (.slice p2 (ws (dX p)).length q2) (.int .i64 (dE p)):=⟨_,rfl⟩
         have S3:Aside (Below w.heap.size w W'∧(∀ j,j<i+1→((mkS (I j).n (I j).X (I j).e).isSome&&(mkS (I j).m (I j).Y (I j).f).isSome)=true)∧∃ V,RPart w.heap.size W' gO 1 (i+1) I V):=by
          obtain ⟨_,hbef,hI,ho,hp,hi,_⟩:=SI.out;refine ⟨?_,?_,?_⟩
          · rw [hW'];exact But.below hb2 (st6o_but _ _ _ _ _ _ _ _ _) hb2.size hP2.own
          · intro j hj
            by_cases e:j=i
            · subst e;rw [hI];simp only;rw [ho,hp,hok]
            · exact hbef j (by omega)
          · have hsz:=SI.out.1.size
            have:=hP2.step hi (.slice p1 (ws (dX o)).length q1) (.slice p2 (ws (dX p)).length q2) (by rw [hI];simp only;rw [ho];exact (hN.below hbU).mono hsz) (by rw [hI];simp only;rw [hp];exact (hM2.below hbU).mono hsz)
            rw [hI] at this;simp only at this;rw [ho,hp,←hW'] at this;exact this
         have neq:u1.heap.size≠gO:=by have:=(SI.out.2.2.2.2.2.2.below hb).lt;omega
         clear h1 h2 hb hN hM2 hbU RQ hP2 hb2 SI
         go_upto_region 12 with fail
         rw [←hU2];clear hU2
         go_wp2_with fail
         unfold st6o at hW'
         go_roundg (1-(i+1))
         case measure=>omega
         case rel =>
          refine ⟨i+1,by omega,by go_num,?_⟩
          first | rw [←hW'] | (rw [hW'] at S3)
          exact S3
     · obtain rfl:i=1:=by omega
       obtain ⟨bel,hbef,V,hP⟩:=HR.out;have hO:=hP.out;have S2:=(sd (ai bel (ai hbef hO)));have hi0:wr=wr:=rfl;clear HR bel hbef hP hO hi hgi
       go_upto_region 17 with fail
       go_loopg [49] 1 (fun gk iv wr=>∃ i:Nat,gk+i=1∧iv=.int .i64 (i:Nat)∧Aside (Below w.heap.size w wr∧(∀ j,j<i→decide (dX (mkS (I j).m (I j).Y (I j).f)=0)=false)∧ROut w.heap.size wr gO 1 I V))
       case atStart=>exact ⟨0,by omega,rfl,S2.out.1,fun j hj=>by omega,S2.out.2.2⟩
       case round =>
        obtain ⟨i,hgi,rfl,HR⟩:=hrel;have SS2:=sd S2.out.2.1;clear S2
        by_cases hi:i<1
        · obtain ⟨bel,hbef,hO⟩:=HR.out
          obtain ⟨g0,g1,g2,g3,g4,g5⟩:=hO.row.facts i hi;obtain ⟨A1,A2⟩:=hO.nts i hi;have lo1:=mkS_len (I i).n (I i).X (I i).e;have lo2:=mkS_len (I i).m (I i).Y (I i).f;unfold frmI at g0 g1 g2 g3 g4 g5;simp only at g0 g1 g2 g3 g4 g5;obtain ⟨o,ho⟩:∃ o,mkS (I i).n (I i).X (I i).e=o:=⟨_,rfl⟩;obtain ⟨p,hp⟩:∃ p,mkS (I i).m (I i).Y (I i).f=p:=⟨_,rfl⟩;rw [ho] at g0 g2 A1 lo1;rw [hp] at g3 g5 A2 lo2;obtain ⟨v1,hv1⟩:∃ v1,(V i).1=v1:=⟨_,rfl⟩;obtain ⟨v2,hv2⟩:∃ v2,(V i).2=v2:=⟨_,rfl⟩;rw [hv1] at g1 A1;rw [hv2] at g4 A2;obtain ⟨p1,q1,rfl,_⟩:=A1.arg (by omega)
          obtain ⟨p2,q2,rfl,_⟩:=A2.arg (by omega)
          obtain ⟨U,hU⟩:∃ U,U=wr.alloc (.cells #[.bool (dN o),.slice p1 (ws (dX o)).length q1,.int .i64 (dE o),.bool (dN p),.slice p2 (ws (dX p)).length q2,.int .i64 (dE p)] 30):=⟨_,rfl⟩;have hbU:Below wr.heap.size wr U:=by rw [hU];exact below_alloc _ _
          have RQ:Rq U wr.heap.size (dN o) (.slice p1 (ws (dX o)).length q1) (dE o) (dN p) (.slice p2 (ws (dX p)).length q2) (dE p):=by rw [hU];exact Rq.new _ _ _ _ _ _ _
          obtain ⟨x0,x1,x2,x3,x4,x5⟩:=RQ.facts;have HC:=hid (sgnD (n:=dN p) (e:=dE p) ((A2.below hbU).av (by omega)))
          obtain ⟨s,hs⟩:∃ s,sgn (dN p) (dX p)=s:=⟨_,rfl⟩;rw [hs] at HC;have SI:=(sd (ai (bel.trans (hbU.mono bel.size)) (ai hbef (ai hp (ai hs (ai hi (hO.below hbU)))))));clear hbU RQ A1 A2 HR ho hp hv1 hv2 hs bel hbef hO;have hli:(i:Int)<1:=by omega
          have hl0:(0:Int)≤(i:Int):=by omega
          go_upto_region 19 with fail
          rw [←hU];clear hU g0 g1 g2 g3 g4 g5
          go_wp2_with fail
          clear x0 x1 x2 x3 x4 x5;refine HC.out.mono ?_;rintro r u1 ⟨rfl,hb⟩;have S2:=(sd (ai (SI.out.1.trans (hb.mono SI.out.1.size)) (SI.out.2.2.2.2.2.below hb)));clear hb HC
          by_cases hz:s=0
          · have hn:(s==0)=true:=by simp [hz]
            have hsz:=SI;clear SI
            go_wp2_with fail
            go_ret2
            obtain ⟨_,hbef,hp,hs,hi,_⟩:=hsz.out
            have hE:errL I 1=21:=by
             unfold errL;rw [any_no (p:=fun i=>decide (sgn (I i).m (I i).Y<0)) SS.out,if_neg Bool.false_ne_true,any_no (p:=fun i=>!((mkS (I i).n (I i).X (I i).e).isSome&&(mkS (I i).m (I i).Y (I i).f).isSome)) (fun j hj=>by rw [SS2.out j hj];rfl),if_neg Bool.false_ne_true,if_pos (any_of hi (by simp only [hp];exact decide_eq_true (sgn_zero3.1 (hs.trans hz))))]
            rw [hE];exact ⟨.inl ⟨by decide,rfl⟩,S2.out.1⟩
          · have hn:(s==0)=false:=by simp [hz]
            go_wp2_with fail
            go_roundg (1-(i+1))
            case measure=>omega
            case rel =>
             obtain ⟨_,hbef,hp,hs,hi,_⟩:=SI.out;refine ⟨i+1,by omega,by go_num,S2.out.1,fun j hj=>?_,S2.out.2⟩
             by_cases hji:j=i
             · subst hji;rw [hp];exact decide_eq_false (fun h0=>hz (hs.symm.trans (sgn_zero3.2 h0)))
             · exact hbef j (by omega)
        · obtain rfl:i=1:=by omega
          have S3:=HR;clear HR hi hgi
          go_wp2_with fail
          go_ret2
          have hE:errL I 1=0:=by
           unfold errL;rw [any_no (p:=fun i=>decide (sgn (I i).m (I i).Y<0)) SS.out,if_neg Bool.false_ne_true,any_no (p:=fun i=>!((mkS (I i).n (I i).X (I i).e).isSome&&(mkS (I i).m (I i).Y (I i).f).isSome)) (fun j hj=>by rw [SS2.out j hj];rfl),if_neg Bool.false_ne_true,any_no (p:=fun i=>decide (dX (mkS (I i).m (I i).Y (I i).f)=0)) S3.out.2.1,if_neg Bool.false_ne_true]
          exact ⟨.inr ⟨hE,gO,V,rfl,S3.out.2.2⟩,S3.out.1⟩
theorem forms2 (w:World) (g:Nat) (I:Nat→Ri) (h:RIn w g 2 I) :
 Calls Tryz.prog 57 #[.slice (some ⟨g,0,none⟩) 2 2] w fun r w' =>
  ((errL I 2≠0∧r=.returned (.tuple #[.slice none 0 0,.int .i64 (errL I 2)])) ∨
   (errL I 2=0∧∃ g' V,r=.returned (.tuple #[.slice (some ⟨g',0,none⟩) 2 2,.int .i64 0])∧ROut w.heap.size w' g' 2 I V))∧Below w.heap.size w w':=by
 have MK:=make_ratios2;have hH:=sd h;clear h;go_enter Tryz.func57,Tryz.ntmps57
 go_wp2_with fail
 go_loopg [15] 2 (fun gk iv wr=>∃ i:Nat,gk+i=2∧iv=.int .i64 (i:Nat)∧Aside (Below w.heap.size w wr∧∀ j,j<i→decide (sgn (I j).m (I j).Y<0)=false))
 case atStart=>exact ⟨0,by omega,rfl,Below.refl _ _,fun j hj=>by omega⟩
 case round =>
  obtain ⟨i,hgi,rfl,HR⟩:=hrel
  by_cases hi:i<2
  · have hin:=hH.out.below HR.out.1
    obtain ⟨g0,g1,g2,g3,g4,g5⟩:=hin.row.facts i hi;obtain ⟨A1,A2⟩:=hin.one i hi;obtain ⟨n,v,X,e,m,u,Y,f,hI⟩:∃ n v X e m u Y f,I i=⟨n,v,X,e,m,u,Y,f⟩:=⟨_,_,_,_,_,_,_,_,rfl⟩;rw [hI] at g0 g1 g2 g3 g4 g5 A1 A2;simp only at g0 g1 g2 g3 g4 g5 A1 A2;obtain ⟨a1,l1,c1,xs,rfl,-,-⟩:=id A1;obtain ⟨a2,l2,c2,ys,rfl,-,-⟩:=id A2;obtain ⟨U,hU⟩:∃ U,U=wr.alloc (.cells #[.bool n,.slice a1 l1 c1,.int .i64 e,.bool m,.slice a2 l2 c2,.int .i64 f] 30):=⟨_,rfl⟩;have hbU:Below wr.heap.size wr U:=by rw [hU];exact below_alloc _ _
    have RQ:Rq U wr.heap.size n (.slice a1 l1 c1) e m (.slice a2 l2 c2) f:=by rw [hU];exact Rq.new _ _ _ _ _ _ _
    obtain ⟨x0,x1,x2,x3,x4,x5⟩:=RQ.facts;have HC:=hid (sgnD (n:=m) (e:=f) (A2.below hbU));obtain ⟨s,hs⟩:∃ s,sgn m Y=s:=⟨_,rfl⟩;rw [hs] at HC;have SI:=(sd (ai (HR.out.1.trans (hbU.mono HR.out.1.size)) (ai HR.out.2 (ai hI (ai hs hi)))));clear hbU RQ A1 A2 hin HR hI hs;have hli:(i:Int)<2:=by omega
    have hl0:(0:Int)≤(i:Int):=by omega
    go_upto_region 4 with fail
    rw [←hU];clear hU g0 g1 g2 g3 g4 g5
    go_wp2_with fail
    clear x0 x1 x2 x3 x4 x5;refine HC.out.mono ?_;rintro r u1 ⟨rfl,hb⟩;have S2:=sd (SI.out.1.trans (hb.mono SI.out.1.size));clear hb HC
    by_cases hneg:s<0
    · have hn:=decide_eq_true hneg
      go_wp2_with fail
      go_ret2
      obtain ⟨_,hbef,hI,hs,hi⟩:=SI.out
      have hE:errL I 2=1:=by
       unfold errL;rw [if_pos (any_of hi (by rw [hI];simp only;rw [hs];exact decide_eq_true hneg))]
      rw [hE];exact ⟨.inl ⟨by decide,rfl⟩,S2.out⟩
    · have hn:decide (s<0)=false:=decide_eq_false (by omega)
      go_wp2_with fail
      go_roundg (2-(i+1))
      case measure=>omega
      case rel =>
       obtain ⟨_,hbef,hI,hs,hi⟩:=SI.out;refine ⟨i+1,by omega,by go_num,S2.out,fun j hj=>?_⟩
       by_cases hji:j=i
       · subst hji;rw [hI];simp only;rw [hs];exact decide_eq_false (by omega)
       · exact hbef j (by omega)
  · obtain rfl:i=2:=by omega
    obtain ⟨M,hM⟩:∃ M,M=wr.alloc (.cells #[.bool false,.slice none 0 0,.int .i64 0,.bool false,.slice none 0 0,.int .i64 0,.bool false,.slice none 0 0,.int .i64 0,.bool false,.slice none 0 0,.int .i64 0] 30):=⟨_,rfl⟩;have hbM:Below wr.heap.size wr M:=by rw [hM];exact below_alloc _ _
    have hpM:RPart w.heap.size M wr.heap.size 2 0 I (fun _=>(.slice none 0 0,.slice none 0 0)):=by
     rw [hM];exact ⟨⟨_,heap_alloc_new _ _,rfl,fun j hj=>by omega⟩,HR.out.1.size,fun j hj=>by omega⟩
    have S1:=(sd (ai HR.out.2 (ai hpM (HR.out.1.trans (hbM.mono HR.out.1.size)))));obtain ⟨gO,hgO⟩:∃ gO,gO=wr.heap.size:=⟨_,rfl⟩;clear HR hbM hpM hi hgi
    go_upto_region 9 with fail
    rw [←hM];rw [←hgO] at S1 ⊢;clear hM hgO
    go_loopg [29] 2 (fun gk iv wr=>∃ i:Nat,gk+i=2∧iv=.int .i64 (i:Nat)∧Aside (Below w.heap.size w wr∧(∀ j,j<i→((mkS (I j).n (I j).X (I j).e).isSome&&(mkS (I j).m (I j).Y (I j).f).isSome)=true)∧∃ V,RPart w.heap.size wr gO 2 i I V))
    case atStart=>exact ⟨0,by omega,rfl,S1.out.2.2,fun j hj=>by omega,_,S1.out.2.1⟩
    case round =>
     obtain ⟨i,hgi,rfl,HR⟩:=hrel;have SS:=sd S1.out.1;clear S1
     by_cases hi:i<2
     · obtain ⟨bel,hbef,V,hP⟩:=HR.out
       have hin:=hH.out.below bel;obtain ⟨g0,g1,g2,g3,g4,g5⟩:=hin.row.facts i hi;obtain ⟨A1,A2⟩:=hin.one i hi;obtain ⟨b0,b1,b2,b3⟩:=hin.rng i hi;have hFD:=fun (u:World) (hb:Below wr.heap.size wr u)=>formD (r:=I i) (A1.below hb) (A2.below hb) ((hin.below hb).tab) b0 b1 b2 b3
       obtain ⟨n,v,X,e,m,u,Y,f,hI⟩:∃ n v X e m u Y f,I i=⟨n,v,X,e,m,u,Y,f⟩:=⟨_,_,_,_,_,_,_,_,rfl⟩;rw [hI] at g0 g1 g2 g3 g4 g5 A1 A2 hFD;simp only at g0 g1 g2 g3 g4 g5 A1 A2 hFD;obtain ⟨a1,l1,c1,xs,rfl,-,-⟩:=id A1;obtain ⟨a2,l2,c2,ys,rfl,-,-⟩:=id A2;obtain ⟨U,hU⟩:∃ U,U=wr.alloc (.cells #[.bool n,.slice a1 l1 c1,.int .i64 e,.bool m,.slice a2 l2 c2,.int .i64 f] 30):=⟨_,rfl⟩;have hbU:Below wr.heap.size wr U:=by rw [hU];exact below_alloc _ _
       have RQ:Rq U wr.heap.size n (.slice a1 l1 c1) e m (.slice a2 l2 c2) f:=by rw [hU];exact Rq.new _ _ _ _ _ _ _
       obtain ⟨x0,x1,x2,x3,x4,x5⟩:=RQ.facts;have HC:=hid (hFD U hbU);have lo1:=mkS_len n X e;have lo2:=mkS_len m Y f;obtain ⟨o,ho⟩:∃ o,mkS n X e=o:=⟨_,rfl⟩;obtain ⟨p,hp⟩:∃ p,mkS m Y f=p:=⟨_,rfl⟩;rw [ho,hp] at HC;rw [ho] at lo1;rw [hp] at lo2;have SI:=(sd (ai (bel.trans (hbU.mono bel.size)) (ai hbef (ai hI (ai ho (ai hp (ai hi (hP.below hbU))))))));clear hbU RQ A1 A2 hin HR hI ho hp bel hbef hP hFD b0 b1 b2 b3;have hli:(i:Int)<2:=by omega
       have hl0:(0:Int)≤(i:Int):=by omega
       go_upto_region 11 with fail
       rw [←hU];clear hU g0 g1 g2 g3 g4 g5
       go_wp2_with fail
       clear x0 x1 x2 x3 x4 x5;refine HC.out.mono ?_;rintro r u1 ⟨h1,h2,hb⟩;clear HC
       cases hok:(o.isSome&&p.isSome) with
       | false =>
         obtain rfl:=h2 hok;have S2:=sd (SI.out.1.trans (hb.mono SI.out.1.size));clear h1 h2 hb
         go_wp2_with fail
         go_ret2
         obtain ⟨_,hbef,hI,ho,hp,hi,_⟩:=SI.out
         have hE:errL I 2=2:=by
          unfold errL;rw [any_no (p:=fun i=>decide (sgn (I i).m (I i).Y<0)) SS.out,if_neg Bool.false_ne_true,if_pos (any_of hi (by rw [hI];simp only;rw [ho,hp,hok];rfl))]
         rw [hE];exact ⟨.inl ⟨by decide,rfl⟩,S2.out.alloc S2.out.size _⟩
       | true =>
         obtain ⟨v1,v2,rfl,hN,hM2,-⟩:=h1 hok;obtain ⟨p1,q1,rfl,_⟩:=hN.arg (by omega)
         obtain ⟨p2,q2,rfl,_⟩:=hM2.arg (by omega)
         obtain ⟨U2,hU2⟩:∃ U,U=u1.alloc (.cells #[.bool (dN o),.slice p1 (ws (dX o)).length q1,.int .i64 (dE o),.bool (dN p),.slice p2 (ws (dX p)).length q2,.int .i64 (dE p)] 30):=⟨_,rfl⟩;have hbU:Below u1.heap.size u1 U2:=by rw [hU2];exact below_alloc _ _
         have RQ:Rq U2 u1.heap.size (dN o) (.slice p1 (ws (dX o)).length q1) (dE o) (dN p) (.slice p2 (ws (dX p)).length q2) (dE p):=by rw [hU2];exact Rq.new _ _ _ _ _ _ _
         obtain ⟨x0,x1,x2,x3,x4,x5⟩:=RQ.facts;have hP2:=(SI.out.2.2.2.2.2.2.below hb).below hbU;have hb2:=(SI.out.1.trans (hb.mono SI.out.1.size)).trans (hbU.mono (Nat.le_trans SI.out.1.size hb.size));obtain ⟨⟨y0,r0⟩,f0⟩:=hP2.room (i*6) (by omega)
         obtain ⟨⟨y1,r1⟩,f1⟩:=hP2.room (i*6+1) (by omega)
         obtain ⟨⟨y2,r2⟩,f2⟩:=hP2.room (i*6+2) (by omega)
         obtain ⟨⟨y3,r3⟩,f3⟩:=hP2.room (i*6+3) (by omega)
         obtain ⟨⟨y4,r4⟩,f4⟩:=hP2.room (i*6+4) (by omega)
         obtain ⟨⟨y5,r5⟩,f5⟩:=hP2.room (i*6+5) (by omega)
         obtain ⟨W',hW'⟩:∃ W',W'=st6o U2 gO (i*6) (.bool (dN o)) (.slice p1 (ws (dX o)).length q1) (.int .i64 (dE o)) (.bool (dN p)) (.slice p2 (ws (dX p)).length q2) (.int .i64 (dE p)):=⟨_,rfl⟩
         have S3:Aside (Below w.heap.size w W'∧(∀ j,j<i+1→((mkS (I j).n (I j).X (I j).e).isSome&&(mkS (I j).m (I j).Y (I j).f).isSome)=true)∧∃ V,RPart w.heap.size W' gO 2 (i+1) I V):=by
          obtain ⟨_,hbef,hI,ho,hp,hi,_⟩:=SI.out;refine ⟨?_,?_,?_⟩
          · rw [hW'];exact But.below hb2 (st6o_but _ _ _ _ _ _ _ _ _) hb2.size hP2.own
          · intro j hj
            by_cases e:j=i
            · subst e;rw [hI];simp only;rw [ho,hp,hok]
            · exact hbef j (by omega)
          · have hsz:=SI.out.1.size
            have:=hP2.step hi (.slice p1 (ws (dX o)).length q1) (.slice p2 (ws (dX p)).length q2) (by rw [hI];simp only;rw [ho];exact (hN.below hbU).mono hsz) (by rw [hI];simp only;rw [hp];exact (hM2.below hbU).mono hsz)
            rw [hI] at this;simp only at this;rw [ho,hp,←hW'] at this;exact this
         have neq:u1.heap.size≠gO:=by have:=(SI.out.2.2.2.2.2.2.below hb).lt;omega
         clear h1 h2 hb hN hM2 hbU RQ hP2 hb2 SI
         go_upto_region 12 with fail
         rw [←hU2];clear hU2
         go_wp2_with fail
         unfold st6o at hW'
         go_roundg (2-(i+1))
         case measure=>omega
         case rel =>
          refine ⟨i+1,by omega,by go_num,?_⟩
          first | rw [←hW'] | (rw [hW'] at S3)
          exact S3
     · obtain rfl:i=2:=by omega
       obtain ⟨bel,hbef,V,hP⟩:=HR.out;have hO:=hP.out;have S2:=(sd (ai bel (ai hbef hO)));have hi0:wr=wr:=rfl;clear HR bel hbef hP hO hi hgi
       go_upto_region 17 with fail
       go_loopg [49] 2 (fun gk iv wr=>∃ i:Nat,gk+i=2∧iv=.int .i64 (i:Nat)∧Aside (Below w.heap.size w wr∧(∀ j,j<i→decide (dX (mkS (I j).m (I j).Y (I j).f)=0)=false)∧ROut w.heap.size wr gO 2 I V))
       case atStart=>exact ⟨0,by omega,rfl,S2.out.1,fun j hj=>by omega,S2.out.2.2⟩
       case round =>
        obtain ⟨i,hgi,rfl,HR⟩:=hrel;have SS2:=sd S2.out.2.1;clear S2
        by_cases hi:i<2
        · obtain ⟨bel,hbef,hO⟩:=HR.out
          obtain ⟨g0,g1,g2,g3,g4,g5⟩:=hO.row.facts i hi;obtain ⟨A1,A2⟩:=hO.nts i hi;have lo1:=mkS_len (I i).n (I i).X (I i).e;have lo2:=mkS_len (I i).m (I i).Y (I i).f;unfold frmI at g0 g1 g2 g3 g4 g5;simp only at g0 g1 g2 g3 g4 g5;obtain ⟨o,ho⟩:∃ o,mkS (I i).n (I i).X (I i).e=o:=⟨_,rfl⟩;obtain ⟨p,hp⟩:∃ p,mkS (I i).m (I i).Y (I i).f=p:=⟨_,rfl⟩;rw [ho] at g0 g2 A1 lo1;rw [hp] at g3 g5 A2 lo2;obtain ⟨v1,hv1⟩:∃ v1,(V i).1=v1:=⟨_,rfl⟩;obtain ⟨v2,hv2⟩:∃ v2,(V i).2=v2:=⟨_,rfl⟩;rw [hv1] at g1 A1;rw [hv2] at g4 A2;obtain ⟨p1,q1,rfl,_⟩:=A1.arg (by omega)
          obtain ⟨p2,q2,rfl,_⟩:=A2.arg (by omega)
          obtain ⟨U,hU⟩:∃ U,U=wr.alloc (.cells #[.bool (dN o),.slice p1 (ws (dX o)).length q1,.int .i64 (dE o),.bool (dN p),.slice p2 (ws (dX p)).length q2,.int .i64 (dE p)] 30):=⟨_,rfl⟩;have hbU:Below wr.heap.size wr U:=by rw [hU];exact below_alloc _ _
          have RQ:Rq U wr.heap.size (dN o) (.slice p1 (ws (dX o)).length q1) (dE o) (dN p) (.slice p2 (ws (dX p)).length q2) (dE p):=by rw [hU];exact Rq.new _ _ _ _ _ _ _
          obtain ⟨x0,x1,x2,x3,x4,x5⟩:=RQ.facts;have HC:=hid (sgnD (n:=dN p) (e:=dE p) ((A2.below hbU).av (by omega)))
          obtain ⟨s,hs⟩:∃ s,sgn (dN p) (dX p)=s:=⟨_,rfl⟩;rw [hs] at HC;have SI:=(sd (ai (bel.trans (hbU.mono bel.size)) (ai hbef (ai hp (ai hs (ai hi (hO.below hbU)))))));clear hbU RQ A1 A2 HR ho hp hv1 hv2 hs bel hbef hO;have hli:(i:Int)<2:=by omega
          have hl0:(0:Int)≤(i:Int):=by omega
          go_upto_region 19 with fail
          rw [←hU];clear hU g0 g1 g2 g3 g4 g5
          go_wp2_with fail
          clear x0 x1 x2 x3 x4 x5;refine HC.out.mono ?_;rintro r u1 ⟨rfl,hb⟩;have S2:=(sd (ai (SI.out.1.trans (hb.mono SI.out.1.size)) (SI.out.2.2.2.2.2.below hb)));clear hb HC
          by_cases hz:s=0
          · have hn:(s==0)=true:=by simp [hz]
            have hsz:=SI;clear SI
            go_wp2_with fail
            go_ret2
            obtain ⟨_,hbef,hp,hs,hi,_⟩:=hsz.out
            have hE:errL I 2=21:=by
             unfold errL;rw [any_no (p:=fun i=>decide (sgn (I i).m (I i).Y<0)) SS.out,if_neg Bool.false_ne_true,any_no (p:=fun i=>!((mkS (I i).n (I i).X (I i).e).isSome&&(mkS (I i).m (I i).Y (I i).f).isSome)) (fun j hj=>by rw [SS2.out j hj];rfl),if_neg Bool.false_ne_true,if_pos (any_of hi (by simp only [hp];exact decide_eq_true (sgn_zero3.1 (hs.trans hz))))]
            rw [hE];exact ⟨.inl ⟨by decide,rfl⟩,S2.out.1⟩
          · have hn:(s==0)=false:=by simp [hz]
            go_wp2_with fail
            go_roundg (2-(i+1))
            case measure=>omega
            case rel =>
             obtain ⟨_,hbef,hp,hs,hi,_⟩:=SI.out;refine ⟨i+1,by omega,by go_num,S2.out.1,fun j hj=>?_,S2.out.2⟩
             by_cases hji:j=i
             · subst hji;rw [hp];exact decide_eq_false (fun h0=>hz (hs.symm.trans (sgn_zero3.2 h0)))
             · exact hbef j (by omega)
        · obtain rfl:i=2:=by omega
          have S3:=HR;clear HR hi hgi
          go_wp2_with fail
          go_ret2
          have hE:errL I 2=0:=by
           unfold errL;rw [any_no (p:=fun i=>decide (sgn (I i).m (I i).Y<0)) SS.out,if_neg Bool.false_ne_true,any_no (p:=fun i=>!((mkS (I i).n (I i).X (I i).e).isSome&&(mkS (I i).m (I i).Y (I i).f).isSome)) (fun j hj=>by rw [SS2.out j hj];rfl),if_neg Bool.false_ne_true,any_no (p:=fun i=>decide (dX (mkS (I i).m (I i).Y (I i).f)=0)) S3.out.2.1,if_neg Bool.false_ne_true]
          exact ⟨.inr ⟨hE,gO,V,rfl,S3.out.2.2⟩,S3.out.1⟩
end
section
open Go.RowKit
theorem sub_res (W:World) (g:Nat) (n:Bool) (v:Value) (e k:Int) (tmps:Array Value) (ht:tmps[4]?.getD undef=.pointer (some ⟨g,0,none⟩)) (hk:tmps[5]?.getD undef=.int .i64 k) (D:Dk W g n v e) :
 (results Tryz.f56 tmps).run Tryz.prog W=.ok (.tuple #[.agg #[.bool n,v,.int .i64 e],.int .i64 k]) W:=by
 obtain ⟨x0,x1,x2,xf0,xf1,xf2⟩:=D.facts;simp [results,Tryz.results56,ht,hk,go_sem,x0,x1,x2]
theorem sub_core {w:World}{a b:Option Addr}{l c k d:Nat}(n m:Bool) (e f:Int) (dn:Bool) (V:Nat) (de er:Int) (lV:(ws V).length≤8192)
 (HT:Hid (∀ u,Calls Tryz.prog 92 #[.agg #[.bool m,.slice b k d,.int .i64 f]] u fun r w'=>r=.returned (.agg #[.bool (!m),.slice b k d,.int .i64 f])∧Below u.heap.size u w'))
 (HA:Hid (∀ u,Below w.heap.size w u→Calls Tryz.prog 55 #[.agg #[.bool n,.slice a l c,.int .i64 e],.agg #[.bool (!m),.slice b k d,.int .i64 f]] u fun r w'=>(∃ v,r=.returned (.tuple #[.agg #[.bool dn,v,.int .i64 de],.int .i64 er])∧Nt u.heap.size w' v V)∧Below u.heap.size u w')) :
 Calls Tryz.prog 56 #[.agg #[.bool n,.slice a l c,.int .i64 e],.agg #[.bool m,.slice b k d,.int .i64 f]] w fun r w'=>(∃ v,r=.returned (.tuple #[.agg #[.bool dn,v,.int .i64 de],.int .i64 er])∧Nt w.heap.size w' v V)∧Below w.heap.size w w':=by
 obtain ⟨W1,hW1⟩:∃ W,W=((w.alloc (.cells #[.bool n,.slice a l c,.int .i64 e] 27)).alloc (.cells #[.bool m,.slice b k d,.int .i64 f] 27)).alloc (.cells #[.bool false,.slice none 0 0,.int .i64 0] 27):=⟨_,rfl⟩;obtain ⟨hB,hz1,DA,DB,DR⟩:=add_begin w n m (.slice a l c) (.slice b k d) e f W1 hW1;have T1:=hid (HT.out W1);have T2:=hid (HT.out W1.drew);obtain ⟨x0,x1,x2,xf0,xf1,xf2⟩:=DA.facts;obtain ⟨y0,y1,y2,yf0,yf1,yf2⟩:=DB.facts;obtain ⟨r0,r1,r2,rf0,rf1,rf2⟩:=DR.facts;have hs1:w.heap.size+3≤W1.heap.size:=by omega
 have SB:=(sd (ai hB (ai DA (ai DB DR))));clear hB hz1 DA DB DR;go_enter Tryz.func56,Tryz.ntmps56
 go_wp2_with fail
 rw [←hW1];clear hW1;have ne1:w.heap.size≠w.heap.size+1+1:=by omega
 have ne2:w.heap.size+1≠w.heap.size+1+1:=by omega
 have ne3:w.heap.size+1+1≠w.heap.size:=by omega
 have ne4:w.heap.size+1+1≠w.heap.size+1:=by omega
 go_region_held3 (fun w'=>w'.cell? ⟨w.heap.size,0,none⟩=some (.bool n)∧w'.cell? ⟨w.heap.size,1,none⟩=some (.slice a l c)∧w'.cell? ⟨w.heap.size,2,none⟩=some (.int .i64 e)∧w'.cell? ⟨w.heap.size+1,0,none⟩=some (.bool m)∧w'.cell? ⟨w.heap.size+1,1,none⟩=some (.slice b k d)∧w'.cell? ⟨w.heap.size+1,2,none⟩=some (.int .i64 f)) (go_keep) (first
  | (go_at_call 92
     first | with_reducible refine T1.out.mono ?_ | with_reducible refine T2.out.mono ?_
     rintro r u1 ⟨rfl,hb⟩;have hb1:Below W1.heap.size W1 u1:=by first | exact hb | exact ((Below.refl _ W1).drew).trans (hb.mono (Nat.le_refl _))
     have hs2:W1.heap.size≤u1.heap.size:=hb1.size;have BW:Below w.heap.size w u1:=SB.out.1.trans (hb1.mono (by omega))
     have HA1:=hid (HA.out u1 BW);have KR:=SB.out.2.2.2.below hb1;obtain ⟨p0,p1,p2,pf0,pf1,pf2⟩:=KR.facts;obtain ⟨q0,q1,q2,qf0,qf1,qf2⟩:=(SB.out.2.1.below hb1).facts;obtain ⟨s0,s1,s2,sf0,sf1,sf2⟩:=(SB.out.2.2.1.below hb1).facts;have S1:=(sd (ai BW (ai KR (ai (SB.out.2.1.below hb1) (SB.out.2.2.1.below hb1)))));clear hb hb1 KR BW)
  | (go_at_call 55
     with_reducible refine HA1.out.mono ?_
     rintro r u2 ⟨⟨v,rfl,hN⟩,hb⟩;obtain ⟨a4,c4,rfl,_⟩:=hN.arg (by omega)
     have LR:=S1.out.2.1.below hb;obtain ⟨t0,t1,t2,tf0,tf1,tf2⟩:=LR.facts;obtain ⟨i0,i1,i2,if0,if1,if2⟩:=(S1.out.2.2.1.below hb).facts;obtain ⟨j0,j1,j2,jf0,jf1,jf2⟩:=(S1.out.2.2.2.below hb).facts;have FV:=sd (show Fin w.heap.size (w.heap.size+3) w u2 (.slice a4 (ws V).length c4) V from ⟨hN.mono (by omega),S1.out.1.trans (hb.mono (by omega)),by have:=hb.size;omega⟩)
     have S10:=sd LR;clear hN hb LR))
 all_goals (
  go_wp2;refine bodyPost_ret (sub_res _ (w.heap.size+1+1) dn (.slice a4 (ws V).length c4) de er _ rfl rfl (S10.out.set _ _ _)) rfl ?_;refine Fin.dans (m:=w.heap.size+3) ?_ (by omega)
  repeat (with_reducible first | exact FV.out | refine Fin.drew ?_ | refine Fin.alloc ?_ _ | refine Fin.set ?_ _ _ _ (by omega) (by omega)))
theorem addUp_len (n:Bool) (X:Nat) (e:Int) (m:Bool) (Y:Nat) (f:Int):(ws (dX (addUp n X e m Y f))).length≤8192:=by
 unfold addUp
 split
 · show (ws 0).length≤8192;rw [ws_zero];exact Nat.zero_le _
 · split
   · exact mkS_len _ _ _
   · split <;> exact mkS_len _ _ _
theorem addD_len (n:Bool) (X:Nat) (e:Int) (m:Bool) (Y:Nat) (f:Int):(ws (dX (addD (mkS n X e) (mkS m Y f)))).length≤8192:=by
 have z0:(ws 0).length≤8192:=by rw [ws_zero];exact Nat.zero_le _
 cases hx:mkS n X e with
 | none=>exact z0
 | some x =>
   cases hy:mkS m Y f with
   | none=>exact z0
   | some y =>
     obtain ⟨n1,X1,e1⟩:=x;obtain ⟨m1,Y1,f1⟩:=y
     show (ws (dX (addF _ _))).length≤8192
     unfold addF
     split
     · exact frm_len (mkS_frm hy)
     · split
       · exact frm_len (mkS_frm hx)
       · split <;> exact addUp_len _ _ _ _ _ _
theorem mulD_len (n:Bool) (X:Nat) (e:Int) (m:Bool) (Y:Nat) (f:Int):(ws (dX (mulD (mkS n X e) (mkS m Y f)))).length≤8192:=by
 have z0:(ws 0).length≤8192:=by rw [ws_zero];exact Nat.zero_le _
 cases hx:mkS n X e with
 | none=>exact z0
 | some x =>
   cases hy:mkS m Y f with
   | none=>exact z0
   | some y=>exact mkS_len _ _ _
theorem Sub_any3 {w:World}{a b:Option Addr}{l c k d:Nat}{xs ys:List Nat}(h1:Arg w a l c xs) (h2:Arg w b k d ys) (hT:Tab w) (n m:Bool) (e f:Int) (he0:-9223372036854775808≤e) (he1:e≤9223372036854775807) (hf0:-9223372036854775808≤f) (hf1:f≤9223372036854775807) :
 Calls Tryz.prog 56 #[.agg #[.bool n,.slice a l c,.int .i64 e],.agg #[.bool m,.slice b k d,.int .i64 f]] w fun r w'=>DAns w.heap.size w' r (addD (mkS n (val xs) e) (mkS (!m) (val ys) f))∧Below w.heap.size w w' :=
 sub_core n m e f _ _ _ _ (addD_len n (val xs) e (!m) (val ys) f) (hid fun u=>turned_any b k d m f u) (hid fun u hu=>Add_any3 (h1.below hu) (h2.below hu) (hT.belows hu) n (!m) e f he0 he1 hf0 hf1)
end
section
open Go.RowKit
def bothR (o p:Option (Bool×Nat×Int)):Int×Option (Bool×Nat×Int)×Option (Bool×Nat×Int):=if o.isSome&&p.isSome then (0,o,p) else (2,none,none)
def RA (lo:Nat) (w:World) (r:Ending) (x:Int×Option (Bool×Nat×Int)×Option (Bool×Nat×Int)):Prop:=RAns lo w r x.2.1 x.2.2 x.1
theorem RA.zero (lo:Nat) (w:World) (er:Int):RA lo w (.returned (.tuple #[.agg #[.bool false,.slice none 0 0,.int .i64 0,.bool false,.slice none 0 0,.int .i64 0],.int .i64 er])) (er,none,none) :=
 ⟨_,_,rfl,Nt.nil _ _,Nt.nil _ _,Ap.nil _ _ _⟩
theorem products_any {w:World}{v1 v2 v3 v4:Value}{X1 X2 X3 X4:Nat}(n1 n2 n3 n4:Bool) (e1 e2 e3 e4:Int) (h1:Av w v1 X1) (h2:Av w v2 X2) (h3:Av w v3 X3) (h4:Av w v4 X4) (hT:Tab w)
 (b1:-9223372036854775808≤e1∧e1≤9223372036854775807) (b2:-9223372036854775808≤e2∧e2≤9223372036854775807) (b3:-9223372036854775808≤e3∧e3≤9223372036854775807) (b4:-9223372036854775808≤e4∧e4≤9223372036854775807) :
 Calls Tryz.prog 58 #[.agg #[.bool n1,v1,.int .i64 e1],.agg #[.bool n2,v2,.int .i64 e2],.agg #[.bool n3,v3,.int .i64 e3],.agg #[.bool n4,v4,.int .i64 e4]] w fun r w' =>
  RA w.heap.size w' r (bothR (mulD (mkS n1 X1 e1) (mkS n2 X2 e2)) (mulD (mkS n3 X3 e3) (mkS n4 X4 e4)))∧Below w.heap.size w w':=by
 obtain ⟨a1,l1,c1,x1,rfl,A1,rfl⟩:=h1;obtain ⟨a2,l2,c2,x2,rfl,A2,rfl⟩:=h2;obtain ⟨a3,l3,c3,x3,rfl,A3,rfl⟩:=h3;obtain ⟨a4,l4,c4,x4,rfl,A4,rfl⟩:=h4;have H1:∀ u,Below w.heap.size w u→Calls Tryz.prog 87 #[.agg #[.bool n1,.slice a1 l1 c1,.int .i64 e1],.agg #[.bool n2,.slice a2 l2 c2,.int .i64 e2]] u fun r w'=>DAns u.heap.size w' r (mulD (mkS n1 (val x1) e1) (mkS n2 (val x2) e2))∧Below u.heap.size u w':=fun u hu=>Mul_any3 (A1.below hu) (A2.below hu) (hT.belows hu) n1 n2 e1 e2 b1.1 b1.2 b2.1 b2.2
 have H2:∀ u,Below w.heap.size w u→Calls Tryz.prog 87 #[.agg #[.bool n3,.slice a3 l3 c3,.int .i64 e3],.agg #[.bool n4,.slice a4 l4 c4,.int .i64 e4]] u fun r w'=>DAns u.heap.size w' r (mulD (mkS n3 (val x3) e3) (mkS n4 (val x4) e4))∧Below u.heap.size u w':=fun u hu=>Mul_any3 (A3.below hu) (A4.below hu) (hT.belows hu) n3 n4 e3 e4 b3.1 b3.2 b4.1 b4.2
 have l1:=mulD_len n1 (val x1) e1 n2 (val x2) e2;have l2:=mulD_len n3 (val x3) e3 n4 (val x4) e4;simp only [DAns] at H1 H2;generalize mulD (mkS n1 (val x1) e1) (mkS n2 (val x2) e2)=o at *;generalize mulD (mkS n3 (val x3) e3) (mkS n4 (val x4) e4)=p at *;unfold bothR
 cases ho:o.isSome with
 | false =>
   have he:erS o=2:=by unfold erS;rw [ho];rfl
   rw [he] at H1;refine (products_bad1 n1 n2 n3 n4 e1 e2 e3 e4 (dN o) false (dX o) 0 (dE o) 0 l1 (by rw [ws0];omega) H1).mono ?_
   rintro r w' ⟨⟨v,u,rfl,rfl,rfl⟩,hb⟩;exact ⟨RA.zero _ _ _,hb⟩
 | true =>
   have he:erS o=0:=by unfold erS;rw [ho];rfl
   rw [he] at H1
   cases hp:p.isSome with
   | false =>
     have he:erS p=2:=by unfold erS;rw [hp];rfl
     rw [he] at H2;refine (products_bad2 n1 n2 n3 n4 e1 e2 e3 e4 (dN o) (dN p) (dX o) (dX p) (dE o) (dE p) l1 l2 H1 H2).mono ?_;rintro r w' ⟨⟨v,u,rfl,rfl,rfl⟩,hb⟩;exact ⟨RA.zero _ _ _,hb⟩
   | true =>
     have he:erS p=0:=by unfold erS;rw [hp];rfl
     rw [he] at H2;refine (products_ok n1 n2 n3 n4 e1 e2 e3 e4 (dN o) (dN p) (dX o) (dX p) (dE o) (dE p) l1 l2 H1 H2).mono ?_;rintro r w' ⟨⟨v,u,rfl,hN,hM,hap⟩,hb⟩;exact ⟨⟨v,u,rfl,hN,hM,hap⟩,hb⟩
theorem errL0 {I:Nat→Ri}{k:Nat}(h:errL I k=0) (i:Nat) (hi:i<k):¬ sgn (I i).m (I i).Y<0∧(mkS (I i).n (I i).X (I i).e).isSome=true∧(mkS (I i).m (I i).Y (I i).f).isSome=true∧dX (mkS (I i).m (I i).Y (I i).f)≠0:=by
 unfold errL at h
 split at h
 · omega
 · rename_i h1
   split at h
   · omega
   · rename_i h2
     split at h
     · omega
     · rename_i h3
       simp only [Bool.not_eq_true,List.any_eq_false,List.mem_range] at h1 h2 h3;have k1:=h1 i hi;have k2:=h2 i hi;have k3:=h3 i hi;simp at k1 k2 k3;exact ⟨by omega,k2.1,k2.2,k3⟩
theorem reform {n:Bool}{X:Nat}{e:Int}{o:Option (Bool×Nat×Int)}(h:mkS n X e=o) (hs:o.isSome=true):mkS (dN o) (dX o) (dE o)=o:=by
 cases o with
 | none=>cases hs
 | some d =>
   obtain ⟨n1,X1,e1⟩:=d;exact (mkS_frm h).self
theorem frm_rng {n:Bool}{X:Nat}{e:Int}{o:Option (Bool×Nat×Int)}(h:mkS n X e=o):-1048576≤dE o∧dE o≤1048576:=by
 cases o with
 | none=>exact ⟨by decide,by decide⟩
 | some d =>
   obtain ⟨n1,X1,e1⟩:=d;have:=mkS_frm h;exact ⟨this.down,this.up⟩
def twoI (r s:Ri) (i:Nat):Ri:=if i=0 then r else s
structure Rv (w:World) (r:Ri):Prop where
 num:Av w r.v r.X
 den:Av w r.u r.Y
 be:-9223372036854775808≤r.e∧r.e≤9223372036854775807
 bf:-9223372036854775808≤r.f∧r.f≤9223372036854775807
theorem Rv.below {w w':World}{r:Ri}(h:Rv w r) (hb:Below w.heap.size w w'):Rv w' r:=⟨h.num.below hb,h.den.below hb,h.be,h.bf⟩
theorem rin2 (W:World) (r s:Ri) (hr:Rv W r) (hs:Rv W s) (hT:Tab W) (R:World) (hR:R=W.alloc (.cells #[.bool r.n,r.v,.int .i64 r.e,.bool r.m,r.u,.int .i64 r.f,.bool s.n,s.v,.int .i64 s.e,.bool s.m,s.u,.int .i64 s.f] 30)):RIn R W.heap.size 2 (twoI r s):=by
 have hb:Below W.heap.size W R:=by rw [hR];exact below_alloc _ _
 refine ⟨⟨_,by rw [hR];exact heap_alloc_new _ _,?_⟩,?_,?_,hT.belows hb⟩
 · intro i hi
   rcases (show i=0∨i=1 by omega) with rfl|rfl <;> simp [twoI]
 · intro i hi
   rcases (show i=0∨i=1 by omega) with rfl|rfl
   · exact ⟨hr.num.below hb,hr.den.below hb⟩
   · exact ⟨hs.num.below hb,hs.den.below hb⟩
 · intro i hi
   rcases (show i=0∨i=1 by omega) with rfl|rfl
   · exact ⟨hr.be.1,hr.be.2,hr.bf.1,hr.bf.2⟩
   · exact ⟨hs.be.1,hs.be.2,hs.bf.1,hs.bf.2⟩
theorem rin1 (W:World) (r:Ri) (hr:Rv W r) (hT:Tab W) (R:World) (hR:R=W.alloc (.cells #[.bool r.n,r.v,.int .i64 r.e,.bool r.m,r.u,.int .i64 r.f] 30)):RIn R W.heap.size 1 (fun _=>r):=by
 have hb:Below W.heap.size W R:=by rw [hR];exact below_alloc _ _
 refine ⟨⟨_,by rw [hR];exact heap_alloc_new _ _,?_⟩,fun i hi=>⟨hr.num.below hb,hr.den.below hb⟩,fun i hi=>⟨hr.be.1,hr.be.2,hr.bf.1,hr.bf.2⟩,hT.belows hb⟩
 intro i hi;obtain rfl:i=0:=by omega
 simp
theorem two_begin (w:World) (r s:Ri) (W:World) (hW:W=((w.alloc (.cells #[.bool r.n,r.v,.int .i64 r.e,.bool r.m,r.u,.int .i64 r.f] 30)).alloc (.cells #[.bool s.n,s.v,.int .i64 s.e,.bool s.m,s.u,.int .i64 s.f] 30)).alloc (.cells #[.bool false,.slice none 0 0,.int .i64 0,.bool false,.slice none 0 0,.int .i64 0] 30)) :
 Below w.heap.size w W∧W.heap.size=w.heap.size+3∧Rq W w.heap.size r.n r.v r.e r.m r.u r.f∧Rq W (w.heap.size+1) s.n s.v s.e s.m s.u s.f∧Rq W (w.heap.size+1+1) false (.slice none 0 0) 0 false (.slice none 0 0) 0:=by
 rw [hW];refine ⟨((below_alloc w _).alloc (by simp) _).alloc (by simp;omega) _,by simp,((Rq.new _ _ _ _ _ _ _).alloc _).alloc _,?_,?_⟩
 · have:=(Rq.new (w.alloc (.cells #[.bool r.n,r.v,.int .i64 r.e,.bool r.m,r.u,.int .i64 r.f] 30)) s.n s.v s.e s.m s.u s.f).alloc (.cells #[.bool false,.slice none 0 0,.int .i64 0,.bool false,.slice none 0 0,.int .i64 0] 30)
   simpa using this
 · have:=Rq.new ((w.alloc (.cells #[.bool r.n,r.v,.int .i64 r.e,.bool r.m,r.u,.int .i64 r.f] 30)).alloc (.cells #[.bool s.n,s.v,.int .i64 s.e,.bool s.m,s.u,.int .i64 s.f] 30)) false (.slice none 0 0) 0 false (.slice none 0 0) 0
   simpa using this
theorem assign2 {B g1 g2 g3 lo:Nat}{w u:World}{n m n' m':Bool}{v p v' p':Value}{e f e' f':Int}(Q1:Rq u g1 n v e m p f) (Q2:Rq u g2 n' v' e' m' p' f') (RR:Rq u g3 false (.slice none 0 0) 0 false (.slice none 0 0) 0) (h12:g1≠g2) (h31:g3≠g1) (h32:g3≠g2) (hB1:B≤g1) (hB2:B≤g2) (bel:Below B w u) (hBu:B≤u.heap.size)
 (n1 m1 n2 m2:Bool) (v1 p1 v2 p2:Value) (e1 f1 e2 f2:Int) (X1 Y1 X2 Y2:Nat) (N1:Nt lo u v1 X1) (N2:Nt lo u p1 Y1) (N3:Nt lo u v2 X2) (N4:Nt lo u p2 Y2)
 (U:World) (hU:U=(st6 (st6 u g1 (.bool n1) v1 (.int .i64 e1) (.bool m1) p1 (.int .i64 f1)) g2 (.bool n2) v2 (.int .i64 e2) (.bool m2) p2 (.int .i64 f2)).drew) :
 Below B w U∧Rq U g1 n1 v1 e1 m1 p1 f1∧Rq U g2 n2 v2 e2 m2 p2 f2∧Rq U g3 false (.slice none 0 0) 0 false (.slice none 0 0) 0∧Nt lo U v1 X1∧Nt lo U p1 Y1∧Nt lo U v2 X2∧Nt lo U p2 Y2:=by
 have b1:=st6_but g1 u (.bool n1) v1 (.int .i64 e1) (.bool m1) p1 (.int .i64 f1);have K1:=Q1.set n1 v1 e1 m1 p1 f1;have K2:=Q2.but b1 h12.symm;have K3:=RR.but b1 h31;have M1:=N1.st6k Q1 (.bool n1) v1 (.int .i64 e1) (.bool m1) p1 (.int .i64 f1);have M2:=N2.st6k Q1 (.bool n1) v1 (.int .i64 e1) (.bool m1) p1 (.int .i64 f1);have M3:=N3.st6k Q1 (.bool n1) v1 (.int .i64 e1) (.bool m1) p1 (.int .i64 f1);have M4:=N4.st6k Q1 (.bool n1) v1 (.int .i64 e1) (.bool m1) p1 (.int .i64 f1);have bb:=below_st6 bel hBu hB1 (.bool n1) v1 (.int .i64 e1) (.bool m1) p1 (.int .i64 f1);have hsz:=st6_size u g1 (.bool n1) v1 (.int .i64 e1) (.bool m1) p1 (.int .i64 f1);generalize st6 u g1 (.bool n1) v1 (.int .i64 e1) (.bool m1) p1 (.int .i64 f1)=u' at *;have b2:=st6_but g2 u' (.bool n2) v2 (.int .i64 e2) (.bool m2) p2 (.int .i64 f2);have c0:=below_st6 bb (by omega) hB2 (.bool n2) v2 (.int .i64 e2) (.bool m2) p2 (.int .i64 f2)
 have c1:=K1.but b2 h12;have c2:=K2.set n2 v2 e2 m2 p2 f2;have c3:=K3.but b2 h32;have d1:=M1.st6k K2 (.bool n2) v2 (.int .i64 e2) (.bool m2) p2 (.int .i64 f2);have d2:=M2.st6k K2 (.bool n2) v2 (.int .i64 e2) (.bool m2) p2 (.int .i64 f2);have d3:=M3.st6k K2 (.bool n2) v2 (.int .i64 e2) (.bool m2) p2 (.int .i64 f2);have d4:=M4.st6k K2 (.bool n2) v2 (.int .i64 e2) (.bool m2) p2 (.int .i64 f2);clear b1 b2 K1 K2 K3 M1 M2 M3 M4 bb hsz Q1 Q2 RR N1 N2 N3 N4;generalize st6 u' g2 (.bool n2) v2 (.int .i64 e2) (.bool m2) p2 (.int .i64 f2)=u'' at *;subst hU;exact ⟨c0.drew,c1,c2,c3,d1,d2,d3,d4⟩
theorem Mul_res (W:World) (g:Nat) (n:Bool) (v:Value) (e:Int) (m:Bool) (u:Value) (f k:Int) (tmps:Array Value) (ht:tmps[4]?.getD undef=.pointer (some ⟨g,0,none⟩)) (hk:tmps[5]?.getD undef=.int .i64 k) (D:Rq W g n v e m u f) :
 (results Tryz.f26 tmps).run Tryz.prog W=.ok (.tuple #[.agg #[.bool n,v,.int .i64 e,.bool m,u,.int .i64 f],.int .i64 k]) W:=by
 obtain ⟨x0,x1,x2,x3,x4,x5⟩:=D.facts;simp [results,Tryz.results26,ht,hk,go_sem,x0,x1,x2,x3,x4,x5]
theorem Mul11 {w:World}{n m n' m':Bool}{a b a' b':Option Addr}{la ca lb cb la' ca' lb' cb':Nat}{X Y X' Y':Nat}{e f e' f':Int}
 (hr:Rv w ⟨n,.slice a la ca,X,e,m,.slice b lb cb,Y,f⟩) (hs:Rv w ⟨n',.slice a' la' ca',X',e',m',.slice b' lb' cb',Y',f'⟩) (hT:Tab w)
 (I:Nat→Ri) (hI:I=twoI ⟨n,.slice a la ca,X,e,m,.slice b lb cb,Y,f⟩ ⟨n',.slice a' la' ca',X',e',m',.slice b' lb' cb',Y',f'⟩) :
 Calls Tryz.prog 26 #[.agg #[.bool n,.slice a la ca,.int .i64 e,.bool m,.slice b lb cb,.int .i64 f],.agg #[.bool n',.slice a' la' ca',.int .i64 e',.bool m',.slice b' lb' cb',.int .i64 f']] w fun r w' =>
  RA w.heap.size w' r (if errL I 2=0 then bothR (mulD (mkS n X e) (mkS n' X' e')) (mulD (mkS m Y f) (mkS m' Y' f')) else (errL I 2,none,none))∧Below w.heap.size w w':=by
 obtain ⟨W1,hW1⟩:∃ W,W=((w.alloc (.cells #[.bool n,.slice a la ca,.int .i64 e,.bool m,.slice b lb cb,.int .i64 f] 30)).alloc (.cells #[.bool n',.slice a' la' ca',.int .i64 e',.bool m',.slice b' lb' cb',.int .i64 f'] 30)).alloc (.cells #[.bool false,.slice none 0 0,.int .i64 0,.bool false,.slice none 0 0,.int .i64 0] 30):=⟨_,rfl⟩;obtain ⟨hB,hz1,Q1,Q2,RR⟩:=two_begin w ⟨n,.slice a la ca,X,e,m,.slice b lb cb,Y,f⟩ ⟨n',.slice a' la' ca',X',e',m',.slice b' lb' cb',Y',f'⟩ W1 hW1;obtain ⟨R,hR⟩:∃ R,R=W1.alloc (.cells #[.bool n,.slice a la ca,.int .i64 e,.bool m,.slice b lb cb,.int .i64 f,.bool n',.slice a' la' ca',.int .i64 e',.bool m',.slice b' lb' cb',.int .i64 f'] 30):=⟨_,rfl⟩;have hin:=rin2 W1 _ _ (hr.below hB) (hs.below hB) (hT.belows hB) R hR;have hbR:Below W1.heap.size W1 R:=by rw [hR];exact below_alloc _ _
 have HF:=hid (forms2 R W1.heap.size _ hin);rw [←hI] at HF;simp only at Q1 Q2;obtain ⟨x0,x1,x2,x3,x4,x5⟩:=Q1.facts;obtain ⟨y0,y1,y2,y3,y4,y5⟩:=Q2.facts;obtain ⟨ANS,hANS⟩:∃ A,(if errL I 2=0 then bothR (mulD (mkS n X e) (mkS n' X' e')) (mulD (mkS m Y f) (mkS m' Y' f')) else (errL I 2,none,none))=A:=⟨_,rfl⟩
 rw [hANS];have HA:=sd hANS;clear hANS;have S0:=(sd (ai (hB.trans (hbR.mono hB.size)) (ai (Q1.below hbR) (ai (Q2.below hbR) (ai (RR.below hbR) hT)))));have hs3:w.heap.size+3≤W1.heap.size:=by omega
 obtain ⟨g12,hg12⟩:∃ g,W1.heap.size=g:=⟨_,rfl⟩;rw [hg12] at HF;clear hB hz1 Q1 Q2 RR hin hbR hr hs hT;go_enter Tryz.func26,Tryz.ntmps26
 go_upto_region 1 with fail
 rw [←hW1];clear hW1
 go_wp2_with fail
 rw [←hR];clear hR hg12 x0 x1 x2 x3 x4 x5 y0 y1 y2 y3 y4 y5;refine HF.out.mono ?_;rintro r u1 ⟨hor,hb⟩;clear HF;obtain ⟨bel,Q1,Q2,RR,hT⟩:=S0.out;have S1:=(sd (ai (bel.trans (hb.mono bel.size)) (ai (Q1.below hb) (ai (Q2.below hb) (RR.below hb)))))
 rcases hor with ⟨hne,rfl⟩|⟨h0,g',V,rfl,hO⟩
 · have HA2:=HA.out
   rw [if_neg hne] at HA2;obtain ⟨er,her⟩:∃ er,errL I 2=er:=⟨_,rfl⟩;rw [her] at hne HA2 ⊢;have HA3:=sd HA2;clear HA HA2 her;obtain ⟨r0,r1,r2,r3,r4,r5⟩:=(RR.below hb).facts;obtain ⟨rf0,rf1,rf2,rf3,rf4,rf5⟩:=(RR.below hb).frz;have hnb:(er==0)=false:=by simp [hne]
   have hnn:(er != 0)=true:=by simp [hne]
   clear hne bel Q1 Q2 RR hb hT S0;go_wp2;obtain ⟨bel,Q1,Q2,RR⟩:=S1.out;exact bodyPost_ret (Mul_res _ (w.heap.size+1+1) false (.slice none 0 0) 0 false (.slice none 0 0) 0 er _ rfl rfl (RR.set _ _ _ _ _ _)) rfl ⟨HA3.out ▸ RA.zero _ _ _,below_st6 bel bel.size (by omega) _ _ _ _ _ _⟩
 · have HA2:=HA.out
   rw [if_pos h0] at HA2;clear HA;obtain ⟨q0,q1,q2,q3,q4,q5⟩:=hO.row.facts 0 (by omega)
   obtain ⟨p0,p1,p2,p3,p4,p5⟩:=hO.row.facts 1 (by omega)
   simp only [Nat.zero_mul,Nat.zero_add,Nat.one_mul,Nat.reduceAdd] at q0 q1 q2 q3 q4 q5 p0 p1 p2 p3 p4 p5;unfold frmI at q0 q1 q2 q3 q4 q5 p0 p1 p2 p3 p4 p5;simp only at q0 q1 q2 q3 q4 q5 p0 p1 p2 p3 p4 p5;obtain ⟨k1,k2,k3,k4⟩:=errL0 h0 0 (by omega)
   obtain ⟨j1,j2,j3,j4⟩:=errL0 h0 1 (by omega)
   obtain ⟨N1,N2⟩:=hO.nts 0 (by omega)
   obtain ⟨N3,N4⟩:=hO.nts 1 (by omega)
   have e0:I 0=⟨n,.slice a la ca,X,e,m,.slice b lb cb,Y,f⟩:=by rw [hI];rfl
   have e1:I 1=⟨n',.slice a' la' ca',X',e',m',.slice b' lb' cb',Y',f'⟩:=by rw [hI];rfl
   rw [e0] at q0 q2 q3 q5 k1 k2 k3 k4 N1 N2;rw [e1] at p0 p2 p3 p5 j1 j2 j3 j4 N3 N4;simp only at q0 q1 q2 q3 q4 q5 k1 k2 k3 k4 N1 N2 p0 p1 p2 p3 p4 p5 j1 j2 j3 j4 N3 N4;have m1:=mkS_len n X e;have m2:=mkS_len m Y f;have m3:=mkS_len n' X' e';have m4:=mkS_len m' Y' f';obtain ⟨o1,ho1⟩:∃ o,mkS n X e=o:=⟨_,rfl⟩;obtain ⟨o2,ho2⟩:∃ o,mkS m Y f=o:=⟨_,rfl⟩;obtain ⟨o3,ho3⟩:∃ o,mkS n' X' e'=o:=⟨_,rfl⟩;obtain ⟨o4,ho4⟩:∃ o,mkS m' Y' f'=o:=⟨_,rfl⟩;have t1:=frm_rng ho1;have t2:=frm_rng ho2;have t3:=frm_rng ho3;have t4:=frm_rng ho4;have R1:=reform ho1 (by rw [←ho1];exact k2)
   have R2:=reform ho2 (by rw [←ho2];exact k3)
   have R3:=reform ho3 (by rw [←ho3];exact j2)
   have R4:=reform ho4 (by rw [←ho4];exact j3)
   rw [ho1] at q0 q2 N1 m1;rw [ho2] at q3 q5 N2 m2;rw [ho3] at p0 p2 N3 m3;rw [ho4] at p3 p5 N4 m4;rw [ho1,ho2,ho3,ho4] at HA2;have HA:=sd HA2;clear HA2;obtain ⟨v1,hv1⟩:∃ v1,(V 0).1=v1:=⟨_,rfl⟩;obtain ⟨v2,hv2⟩:∃ v1,(V 0).2=v1:=⟨_,rfl⟩;obtain ⟨v3,hv3⟩:∃ v1,(V 1).1=v1:=⟨_,rfl⟩;obtain ⟨v4,hv4⟩:∃ v1,(V 1).2=v1:=⟨_,rfl⟩;rw [hv1] at q1 N1;rw [hv2] at q4 N2;rw [hv3] at p1 N3;rw [hv4] at p4 N4;obtain ⟨a1,c1,rfl,_⟩:=N1.arg (by omega)
   obtain ⟨a2,c2,rfl,_⟩:=N2.arg (by omega)
   obtain ⟨a3,c3,rfl,_⟩:=N3.arg (by omega)
   obtain ⟨a4,c4,rfl,_⟩:=N4.arg (by omega)
   have hg':w.heap.size+3≤g':=by have:=hO.own;have:=(S0.out.2.2.2.1).lt;omega
   obtain ⟨r0,r1,r2,r3,r4,r5⟩:=(Q1.below hb).facts;obtain ⟨rf0,rf1,rf2,rf3,rf4,rf5⟩:=(Q1.below hb).frz;obtain ⟨s0,s1,s2,s3,s4,s5⟩:=(Q2.below hb).facts;obtain ⟨sf0,sf1,sf2,sf3,sf4,sf5⟩:=(Q2.below hb).frz;have ne1:w.heap.size≠w.heap.size+1:=by omega
   have ne2:w.heap.size+1≠w.heap.size:=by omega
   have ne3:g'≠w.heap.size:=by omega
   have ne4:g'≠w.heap.size+1:=by omega
   have ne5:w.heap.size≠g':=by omega
   have ne6:w.heap.size+1≠g':=by omega
   obtain ⟨U2,hU2⟩:∃ U,U=(st6 (st6 u1 w.heap.size (.bool (dN o1)) (.slice a1 (ws (dX o1)).length c1) (.int .i64 (dE o1)) (.bool (dN o2)) (.slice a2 (ws (dX o2)).length c2) (.int .i64 (dE o2))) (w.heap.size+1) (.bool (dN o3)) (.slice a3 (ws (dX o3)).length c3) (.int .i64 (dE o3)) (.bool (dN o4)) (.slice a4 (ws (dX o4)).length c4) (.int .i64 (dE o4))).drew:=⟨_,rfl⟩;have AS2:=assign2 (Q1.below hb) (Q2.below hb) (RR.below hb) ne1 (by omega) (by omega) (Nat.le_refl _) (by omega) S1.out.1 S1.out.1.size (dN o1) (dN o2) (dN o3) (dN o4) _ _ _ _ (dE o1) (dE o2) (dE o3) (dE o4) _ _ _ _ N1 N2 N3 N4 U2 hU2
   have S2:=sd AS2;have S3:=(sd (ai R1 (ai R2 (ai R3 (ai R4 (ai t1 (ai t2 (ai t3 (ai t4 hT)))))))));clear AS2 N1 N2 N3 N4 R1 R2 R3 R4 t1 t2 t3 t4 hO bel Q1 Q2 RR hb hT k1 k2 k3 k4 j1 j2 j3 j4 e0 e1 h0 ho1 ho2 ho3 ho4 hv1 hv2 hv3 hv4 S0 S1
   go_wp2_with fail
   go_region
   unfold st6 at hU2;rw [←hU2];clear hU2 q0 q1 q2 q3 q4 q5 p0 p1 p2 p3 p4 p5 r0 r1 r2 r3 r4 r5 rf0 rf1 rf2 rf3 rf4 rf5 s0 s1 s2 s3 s4 s5 sf0 sf1 sf2 sf3 sf4 sf5;obtain ⟨bel,Q1,Q2,RR,N1,N2,N3,N4⟩:=S2.out;obtain ⟨R1,R2,R3,R4,t1,t2,t3,t4,hT⟩:=S3.out;have HC0:=products_any (dN o1) (dN o3) (dN o2) (dN o4) (dE o1) (dE o3) (dE o2) (dE o4) (N1.av (by omega)) (N3.av (by omega)) (N2.av (by omega)) (N4.av (by omega)) (hT.belows bel) (by omega) (by omega) (by omega) (by omega)
   rw [R1,R2,R3,R4,HA.out] at HC0;have HC:=hid HC0;obtain ⟨x0,x1,x2,x3,x4,x5⟩:=Q1.facts;obtain ⟨y0,y1,y2,y3,y4,y5⟩:=Q2.facts;clear HC0 R1 R2 R3 R4 t1 t2 t3 t4 hT N1 N2 N3 N4 Q1 Q2 RR bel S3
   go_wp2_with fail
   refine HC.out.mono ?_;rintro r u2 ⟨⟨v,u,rfl,NV,NU,hap⟩,hb⟩;obtain ⟨bel,Q1,Q2,RR,N1,N2,N3,N4⟩:=S2.out;obtain ⟨av,cv,rfl,_⟩:=NV.shape;obtain ⟨au,cu,rfl,_⟩:=NU.shape;obtain ⟨r0,r1,r2,r3,r4,r5⟩:=(RR.below hb).facts;obtain ⟨rf0,rf1,rf2,rf3,rf4,rf5⟩:=(RR.below hb).frz;have S4:=(sd (ai (bel.trans (hb.mono bel.size)) (ai (RR.below hb) (ai (NV.mono bel.size) (ai (NU.mono bel.size) hap)))));clear bel Q1 Q2 RR N1 N2 N3 N4 hb NV NU hap S2 HC HA x0 x1 x2 x3 x4 x5 y0 y1 y2 y3 y4 y5;go_wp2;obtain ⟨bel,RR,NV,NU,hap⟩:=S4.out;exact bodyPost_ret (Mul_res _ (w.heap.size+1+1) (dN ANS.2.1) _ (dE ANS.2.1) (dN ANS.2.2) _ (dE ANS.2.2) ANS.1 _ rfl rfl (RR.set _ _ _ _ _ _)) rfl ⟨⟨_,_,rfl,NV.st6k RR _ _ _ _ _ _,NU.st6k RR _ _ _ _ _ _,hap⟩,below_st6 bel bel.size (by omega) _ _ _ _ _ _⟩
end
section
open Go.RowKit
theorem cmpI_scale (x y k:Nat) (hk:0<k):cmpI (x*k) (y*k)=cmpI x y:=by
 unfold cmpI;simp only [Nat.mul_lt_mul_right hk]
theorem cmpP_base (X:Nat) (e:Int) (Y:Nat) (f B:Int) (h1:B≤e) (h2:B≤f):cmpP X e Y f=cmpI (X*2^(e-B).toNat) (Y*2^(f-B).toNat):=by
 unfold cmpP
 by_cases h:e<f
 · rw [if_pos h,←cmpI_scale _ _ (2^(e-B).toNat) (Nat.two_pow_pos _),Nat.mul_assoc,←Nat.pow_add,show (f-e).toNat+(e-B).toNat=(f-B).toNat by omega]
 · rw [if_neg h,←cmpI_scale _ _ (2^(f-B).toNat) (Nat.two_pow_pos _),Nat.mul_assoc,←Nat.pow_add,show (e-f).toNat+(f-B).toNat=(e-B).toNat by omega]
theorem pos_iff (X k:Nat):X*2^k=0↔X=0:=by
 constructor
 · intro h
   rcases Nat.mul_eq_zero.1 h with h|h
   · exact h
   · have:=Nat.two_pow_pos k;omega
 · rintro rfl;exact Nat.zero_mul _
end
section
open Go.RowKit
theorem plc_floor (dg:Nat) (least top:Int) (X:Nat) (e:Int) (ho:X%2=1) (Bs:Int) (h1:Bs≤e) (h2:Bs≤least) (hin:¬ top<e+(bl X:Int)) :
 Bs≤(plc dg least top X e).2.1 ∧
 (((plc dg least top X e).2.2.1=true∧X*2^(e-Bs).toNat=(plc dg least top X e).1*2^((plc dg least top X e).2.1-Bs).toNat) ∨
  ((plc dg least top X e).2.2.1=false∧(plc dg least top X e).1*2^((plc dg least top X e).2.1-Bs).toNat<X*2^(e-Bs).toNat∧X*2^(e-Bs).toNat<((plc dg least top X e).1+1)*2^((plc dg least top X e).2.1-Bs).toNat ∧
   ((plc dg least top X e).2.2.2=-1∧2*(X*2^(e-Bs).toNat)<(2*(plc dg least top X e).1+1)*2^((plc dg least top X e).2.1-Bs).toNat ∨
    (plc dg least top X e).2.2.2=0∧2*(X*2^(e-Bs).toNat)=(2*(plc dg least top X e).1+1)*2^((plc dg least top X e).2.1-Bs).toNat ∨
    (plc dg least top X e).2.2.2=1∧(2*(plc dg least top X e).1+1)*2^((plc dg least top X e).2.1-Bs).toNat<2*(X*2^(e-Bs).toNat)))):=by
 unfold plc;rw [if_neg hin];simp only;obtain ⟨ex,hex⟩:∃ ex,max (e+(bl X:Int)-(dg:Int)) least=ex:=⟨_,rfl⟩;rw [hex];have hle:least≤ex:=by omega
 by_cases hoff:ex-e≤0
 · rw [if_pos hoff]
   simp only;refine ⟨by omega,.inl ⟨trivial,?_⟩⟩
   rw [Nat.mul_assoc,←Nat.pow_add,show (-(ex-e)).toNat+(ex-Bs).toNat=(e-Bs).toNat by omega]
 · rw [if_neg hoff]
   simp only;obtain ⟨k,hk⟩:∃ k:Nat,(ex-e).toNat=k:=⟨_,rfl⟩;have hk0:0<k:=by omega
   have hexB:(ex-Bs).toNat=k+(e-Bs).toNat:=by omega
   have hk1:(ex-e-1).toNat=k-1:=by omega
   rw [hk,hexB,hk1,Nat.pow_add];obtain ⟨Q,hQ⟩:∃ Q,2^(e-Bs).toNat=Q:=⟨_,rfl⟩;have hQ0:0<Q:=by rw [←hQ];exact Nat.two_pow_pos _
   rw [hQ];have hdm:=Nat.div_add_mod X (2^k);have hmod:=Nat.mod_lt X (Nat.two_pow_pos k);obtain ⟨F,hF⟩:∃ F,X/2^k=F:=⟨_,rfl⟩;obtain ⟨R,hR⟩:∃ R,X%2^k=R:=⟨_,rfl⟩;have hhalf:2^k=2*2^(k-1):=by rw [show k=k-1+1 by omega,Nat.pow_succ,Nat.mul_comm];rfl
   have hbit:X/2^(k-1)%2=R/2^(k-1):=by
    rw [←hR,hhalf];rw [Nat.mul_comm 2,Nat.mod_mul_right_div_self]
   obtain ⟨Hf,hHf⟩:∃ Hf,2^(k-1)=Hf:=⟨_,rfl⟩;have hHf0:0<Hf:=by rw [←hHf];exact Nat.two_pow_pos _
   rw [hHf] at hhalf hbit ⊢;rw [hbit];rw [hhalf] at hdm hmod hF hR ⊢;rw [hF,hR] at hdm;rw [hR] at hmod;rw [hF]
   have hR0:R≠0:=by
    intro h;rw [h,Nat.add_zero,Nat.mul_assoc] at hdm;omega
   have e1:F*(2*Hf*Q)=(F*(2*Hf))*Q:=(Nat.mul_assoc _ _ _).symm;have e2:(F+1)*(2*Hf*Q)=((F+1)*(2*Hf))*Q:=(Nat.mul_assoc _ _ _).symm
   have e3:(2*F+1)*(2*Hf*Q)=(2*(F*(2*Hf))+2*Hf)*Q:=by
    rw [Nat.add_mul,Nat.add_mul,Nat.one_mul,Nat.mul_assoc 2 F,←Nat.mul_assoc F,Nat.mul_assoc 2 (F*(2*Hf)) Q]
   have e4:2*(X*Q)=(2*X)*Q:=by rw [Nat.mul_assoc]
   have e5:2*Hf*F=F*(2*Hf):=Nat.mul_comm _ _;rw [e5] at hdm;have e6:(F+1)*(2*Hf)=F*(2*Hf)+2*Hf:=by rw [Nat.add_mul,Nat.one_mul]
   rw [e1,e2,e3,e4,e6];generalize F*(2*Hf)=G at hdm ⊢;refine ⟨by omega,.inr ⟨trivial,Nat.mul_lt_mul_of_pos_right (by omega) hQ0,Nat.mul_lt_mul_of_pos_right (by omega) hQ0,?_⟩⟩
   by_cases hone:ex-e=1
   · rw [if_pos hone]
     have hk1':k=1:=by omega
     have hHf1:Hf=1:=by rw [←hHf,hk1']
     refine .inr (.inl ⟨rfl,?_⟩)
     congr 1
     omega
   · rw [if_neg hone]
     have hHf2:Hf%2=0:=by
      rw [←hHf,show k-1=k-2+1 by omega,Nat.pow_succ];omega
     have hRodd:R%2=1:=by
      have:G%2=0∨True:=.inr trivial;rw [←hR];rw [Nat.mod_mul_right_mod];exact ho
     by_cases hge:Hf≤R
     · have hd1:R/Hf=1:=by
        rw [Nat.div_eq_iff hHf0];omega
       rw [hd1,if_pos rfl];refine .inr (.inr ⟨rfl,Nat.mul_lt_mul_of_pos_right ?_ hQ0⟩);have:R≠Hf:=by intro h;rw [h] at hRodd;omega
       omega
     · have hd0:R/Hf=0:=Nat.div_eq_of_lt (by omega)
       rw [hd0,if_neg (by omega)]
       exact .inl ⟨rfl,Nat.mul_lt_mul_of_pos_right (by omega) hQ0⟩
def flK (X:Nat) (e:Int):Nat:=((plc 53 (-1074) 1024 X e).2.1+1074).toNat*4503599627370496+(plc 53 (-1074) 1024 X e).1
abbrev vK (K:Nat):Nat:=B.val Ieee.double K
theorem vK_lt {K L:Nat}:vK K<vK L↔K<L:=B.val_lt_iff Ieee.double
theorem vK_word (j F:Nat) (h:j=0∨4503599627370496≤F) (hF:F≤9007199254740992):vK (j*4503599627370496+F)=F*2^j:=by
 have:=B.val_at Ieee.double j F (by rw [B.dBin];exact h) (by rw [B.dBin];omega)
 rw [B.dBin] at this;exact this
structure Lies (K:Nat) (at':Bool) (mid:Int) (V S:Nat):Prop where
 fin:K<9218868437227405312
 pos:0<S
 one:at'=true→V=vK K*S
 low:at'=false→vK K*S<V
 mids:at'=false→V<vK (K+1)*S→(mid=-1∧2*V<vK K*S+vK (K+1)*S∨mid=0∧2*V=vK K*S+vK (K+1)*S∨mid=1∧vK K*S+vK (K+1)*S<2*V)
 high:at'=false→V<vK (K+1)*S∨(K=9218868437227405311∧mid=1)
theorem lies (X:Nat) (e:Int) (hX:X%2=1) (he0:-1048576≤e) (he1:e≤1048576) (Bs:Int) (h1:Bs≤e) (h2:Bs≤-1074) :
 Lies (flK X e) (plc 53 (-1074) 1024 X e).2.2.1 (plc 53 (-1074) 1024 X e).2.2.2 (X*2^(e-Bs).toNat) (2^(-1074-Bs).toNat):=by
 have hX0:X≠0:=by omega
 obtain ⟨f1,f2,f3,f4⟩:=plc_facts X e hX0 he0 he1;obtain ⟨j,hj⟩:∃ j:Nat,((plc 53 (-1074) 1024 X e).2.1+1074).toNat=j:=⟨_,rfl⟩;have hS:0<2^(-1074-Bs).toNat:=Nat.two_pow_pos _
 have hw:∀ F,F≤9007199254740992→(j=0∨4503599627370496≤F)→vK (j*4503599627370496+F)*2^(-1074-Bs).toNat=F*2^((plc 53 (-1074) 1024 X e).2.1-Bs).toNat:=by
  intro F hF hn;rw [vK_word j F hn hF,Nat.mul_assoc,←Nat.pow_add]
  congr 2
  omega
 have hn1:j=0∨4503599627370496≤(plc 53 (-1074) 1024 X e).1:=by
  rcases f4 with h|h
  · left;omega
  · exact .inr h
 have w1:=hw (plc 53 (-1074) 1024 X e).1 (by omega) hn1
 have w2:=hw ((plc 53 (-1074) 1024 X e).1+1) (by omega) (by rcases hn1 with h | h;exact .inl h;exact .inr (by omega))
 have hflK:flK X e=j*4503599627370496+(plc 53 (-1074) 1024 X e).1:=by unfold flK;rw [hj]
 have hflK1:flK X e+1=j*4503599627370496+((plc 53 (-1074) 1024 X e).1+1):=by rw [hflK];omega
 have hfin:flK X e<9218868437227405312:=by rw [hflK];omega
 rw [←hflK] at w1;rw [←hflK1] at w2
 by_cases hin:1024<e+(bl X:Int)
 · have hp:plc 53 (-1074) 1024 X e=((2^53-1:Nat),((1024:Int)-((53:Nat):Int)),false,(1:Int)):=by unfold plc;rw [if_pos hin]
   have hK:flK X e=9218868437227405311:=by unfold flK;rw [hp];rfl
   refine ⟨hfin,hS,fun h=>(by rw [hp] at h;cases h),fun _=>?_,fun _ hlt=>?_,fun _=>.inr ⟨hK,(by rw [hp])⟩⟩
   · rw [w1]
     have hlow:(2^53-1)*2^(971-Bs).toNat<2^53*2^(971-Bs).toNat:=Nat.mul_lt_mul_of_pos_right (by decide) (Nat.two_pow_pos _)
     have hup:2^53*2^(971-Bs).toNat≤X*2^(e-Bs).toNat:=by
      have hb:=bl_ge X hX0;have hbp:=bl_pos X hX0;refine Nat.le_trans ?_ (Nat.mul_le_mul_right _ hb);rw [←Nat.pow_add,←Nat.pow_add];exact Nat.pow_le_pow_right (by omega) (by omega)
     rw [hp];exact Nat.lt_of_lt_of_le hlow hup
   · exfalso
     rw [w2,hp] at hlt
     have hup:2^53*2^(971-Bs).toNat≤X*2^(e-Bs).toNat:=by
      have hb:=bl_ge X hX0;have hbp:=bl_pos X hX0;refine Nat.le_trans ?_ (Nat.mul_le_mul_right _ hb);rw [←Nat.pow_add,←Nat.pow_add];exact Nat.pow_le_pow_right (by omega) (by omega)
     exact absurd hlt (Nat.not_lt.2 hup)
 · obtain ⟨_,hfl⟩:=plc_floor 53 (-1074) 1024 X e hX Bs h1 h2 hin
   have hmid:vK (flK X e)*2^(-1074-Bs).toNat+vK (flK X e+1)*2^(-1074-Bs).toNat=(2*(plc 53 (-1074) 1024 X e).1+1)*2^((plc 53 (-1074) 1024 X e).2.1-Bs).toNat:=by
    rw [w1,w2,←Nat.add_mul];congr 1;omega
   rcases hfl with ⟨ht,hv⟩|⟨hf,hlo,hhi,hm⟩
   · exact ⟨hfin,hS,fun _=>(by rw [w1];exact hv),fun h=>(by rw [ht] at h;cases h),fun h=>(by rw [ht] at h;cases h),fun h=>(by rw [ht] at h;cases h)⟩
   · refine ⟨hfin,hS,fun h=>(by rw [hf] at h;cases h),fun _=>(by rw [w1];exact hlo),fun _ _=>(by rw [hmid];exact hm),fun _=>.inl (by rw [w2];exact hhi)⟩
end
section
open Go.RowKit
def rK (mode:Int) (n:Bool) (K:Nat) (t:Bool) (m:Int):Nat:=if t then K else if outS mode K m n then K+1 else K
theorem outS_par (mode:Int) (j F:Nat) (m:Int) (n:Bool):outS mode (j*4503599627370496+F) m n=outS mode F m n:=by
 unfold outS;rw [show (j*4503599627370496+F)%2=F%2 by omega]
theorem rndK_eq (mode:Int) (n:Bool) (X:Nat) (e:Int):rndK mode n X e=rK mode n (flK X e) (plc 53 (-1074) 1024 X e).2.2.1 (plc 53 (-1074) 1024 X e).2.2.2:=by
 unfold rndK rK flK;simp only;rw [outS_par]
 split
 · rfl
 · split <;> omega
end
section
open Go.RowKit
theorem frm_odd {n:Bool}{X:Nat}{e:Int}(F:Frm n X e) (h:X≠0):X%2=1:=by rcases F.odd with k | k;exact k;exact absurd k.1 h
end
namespace S
open Go.RowKit
theorem sBin:Ieee.single.binade=8388608:=by decide
def rndK (mode:Int) (n:Bool) (X:Nat) (e:Int):Nat :=
 let p:=plc 24 (-149) 128 X e
 (p.2.1+149).toNat*8388608+(if p.2.2.1 then p.1 else if outS mode p.1 p.2.2.2 n then p.1+1 else p.1)
theorem plc_facts (X:Nat) (e:Int) (hX:X≠0) (he0:-1048576≤e) (he1:e≤1048576) :
 (plc 24 (-149) 128 X e).1≤16777215∧-149≤(plc 24 (-149) 128 X e).2.1∧(plc 24 (-149) 128 X e).2.1≤104∧((plc 24 (-149) 128 X e).2.1=-149∨8388608≤(plc 24 (-149) 128 X e).1):=by
 have hb:=bl_pos X hX;have h1:=bl_lt X;have h2:=bl_ge X hX;have e53:(2:Nat)^24=16777216:=rfl;have e52:(2:Nat)^23=8388608:=rfl;unfold plc
 by_cases hf:128<e+(bl X:Int)
 · rw [if_pos hf]
   refine ⟨by simp,by simp,by simp,.inr (by simp)⟩
 · rw [if_neg hf]
   simp only;obtain ⟨ex,hex⟩:∃ ex,max (e+(bl X:Int)-((24:Nat):Int)) (-149)=ex:=⟨_,rfl⟩;rw [hex]
   by_cases ho:ex-e≤0
   · rw [if_pos ho]
     obtain ⟨k,hk⟩:∃ k:Nat,(-(ex-e)).toNat=k:=⟨_,rfl⟩;rw [hk];have hub:X*2^k<2^(bl X+k):=by rw [Nat.pow_add];exact Nat.mul_lt_mul_of_pos_right h1 (Nat.two_pow_pos k)
     have hm:2^(bl X+k)≤2^24:=Nat.pow_le_pow_right (by omega) (by omega)
     refine ⟨by simp only;omega,by simp only;omega,by simp only;omega,?_⟩
     by_cases hl:ex=-149
     · exact .inl hl
     · right
       have hlb:2^(bl X-1)*2^k≤X*2^k:=Nat.mul_le_mul_right _ h2;rw [←Nat.pow_add,show bl X-1+k=23 by omega] at hlb
       simp only;omega
   · rw [if_neg ho]
     obtain ⟨k,hk⟩:∃ k:Nat,(ex-e).toNat=k:=⟨_,rfl⟩;rw [hk]
     have hub:X/2^k<2^24:=by
      rw [Nat.div_lt_iff_lt_mul (Nat.two_pow_pos k),←Nat.pow_add];exact Nat.lt_of_lt_of_le h1 (Nat.pow_le_pow_right (by omega) (by omega))
     refine ⟨by simp only;omega,by simp only;omega,by simp only;omega,?_⟩
     by_cases hl:ex=-149
     · exact .inl hl
     · right
       have hlb:2^23≤X/2^k:=by
        rw [Nat.le_div_iff_mul_le (Nat.two_pow_pos k),←Nat.pow_add,show 23+k=bl X-1 by omega]
        exact h2
       simp only;omega
def flK (X:Nat) (e:Int):Nat:=((plc 24 (-149) 128 X e).2.1+149).toNat*8388608+(plc 24 (-149) 128 X e).1
abbrev vK (K:Nat):Nat:=B.val Ieee.single K
theorem vK_lt {K L:Nat}:vK K<vK L↔K<L:=B.val_lt_iff Ieee.single
theorem vK_word (j F:Nat) (h:j=0∨8388608≤F) (hF:F≤16777216):vK (j*8388608+F)=F*2^j:=by
 have:=B.val_at Ieee.single j F (by rw [sBin];exact h) (by rw [sBin];omega)
 rw [sBin] at this;exact this
structure Lies (K:Nat) (at':Bool) (mid:Int) (V S:Nat):Prop where
 fin:K<2139095040
 pos:0<S
 one:at'=true→V=vK K*S
 low:at'=false→vK K*S<V
 mids:at'=false→V<vK (K+1)*S→(mid=-1∧2*V<vK K*S+vK (K+1)*S∨mid=0∧2*V=vK K*S+vK (K+1)*S∨mid=1∧vK K*S+vK (K+1)*S<2*V)
 high:at'=false→V<vK (K+1)*S∨(K=2139095039∧mid=1)
theorem lies (X:Nat) (e:Int) (hX:X%2=1) (he0:-1048576≤e) (he1:e≤1048576) (Bs:Int) (h1:Bs≤e) (h2:Bs≤-149) :
 Lies (flK X e) (plc 24 (-149) 128 X e).2.2.1 (plc 24 (-149) 128 X e).2.2.2 (X*2^(e-Bs).toNat) (2^(-149-Bs).toNat):=by
 have hX0:X≠0:=by omega
 obtain ⟨f1,f2,f3,f4⟩:=plc_facts X e hX0 he0 he1;obtain ⟨j,hj⟩:∃ j:Nat,((plc 24 (-149) 128 X e).2.1+149).toNat=j:=⟨_,rfl⟩;have hS:0<2^(-149-Bs).toNat:=Nat.two_pow_pos _
 have hw:∀ F,F≤16777216→(j=0∨8388608≤F)→vK (j*8388608+F)*2^(-149-Bs).toNat=F*2^((plc 24 (-149) 128 X e).2.1-Bs).toNat:=by
  intro F hF hn;rw [vK_word j F hn hF,Nat.mul_assoc,←Nat.pow_add]
  congr 2
  omega
 have hn1:j=0∨8388608≤(plc 24 (-149) 128 X e).1:=by
  rcases f4 with h|h
  · left;omega
  · exact .inr h
 have w1:=hw (plc 24 (-149) 128 X e).1 (by omega) hn1
 have w2:=hw ((plc 24 (-149) 128 X e).1+1) (by omega) (by rcases hn1 with h | h;exact .inl h;exact .inr (by omega))
 have hflK:flK X e=j*8388608+(plc 24 (-149) 128 X e).1:=by unfold flK;rw [hj]
 have hflK1:flK X e+1=j*8388608+((plc 24 (-149) 128 X e).1+1):=by rw [hflK];omega
 have hfin:flK X e<2139095040:=by rw [hflK];omega
 rw [←hflK] at w1;rw [←hflK1] at w2
 by_cases hin:128<e+(bl X:Int)
 · have hp:plc 24 (-149) 128 X e=((2^24-1:Nat),((128:Int)-((24:Nat):Int)),false,(1:Int)):=by unfold plc;rw [if_pos hin]
   have hK:flK X e=2139095039:=by unfold flK;rw [hp];rfl
   refine ⟨hfin,hS,fun h=>(by rw [hp] at h;cases h),fun _=>?_,fun _ hlt=>?_,fun _=>.inr ⟨hK,(by rw [hp])⟩⟩
   · rw [w1]
     have hlow:(2^24-1)*2^(104-Bs).toNat<2^24*2^(104-Bs).toNat:=Nat.mul_lt_mul_of_pos_right (by decide) (Nat.two_pow_pos _)
     have hup:2^24*2^(104-Bs).toNat≤X*2^(e-Bs).toNat:=by
      have hb:=bl_ge X hX0;have hbp:=bl_pos X hX0;refine Nat.le_trans ?_ (Nat.mul_le_mul_right _ hb);rw [←Nat.pow_add,←Nat.pow_add];exact Nat.pow_le_pow_right (by omega) (by omega)
     rw [hp];exact Nat.lt_of_lt_of_le hlow hup
   · exfalso
     rw [w2,hp] at hlt
     have hup:2^24*2^(104-Bs).toNat≤X*2^(e-Bs).toNat:=by
      have hb:=bl_ge X hX0;have hbp:=bl_pos X hX0;refine Nat.le_trans ?_ (Nat.mul_le_mul_right _ hb);rw [←Nat.pow_add,←Nat.pow_add];exact Nat.pow_le_pow_right (by omega) (by omega)
     exact absurd hlt (Nat.not_lt.2 hup)
 · obtain ⟨_,hfl⟩:=plc_floor 24 (-149) 128 X e hX Bs h1 h2 hin
   have hmid:vK (flK X e)*2^(-149-Bs).toNat+vK (flK X e+1)*2^(-149-Bs).toNat=(2*(plc 24 (-149) 128 X e).1+1)*2^((plc 24 (-149) 128 X e).2.1-Bs).toNat:=by
    rw [w1,w2,←Nat.add_mul];congr 1;omega
   rcases hfl with ⟨ht,hv⟩|⟨hf,hlo,hhi,hm⟩
   · exact ⟨hfin,hS,fun _=>(by rw [w1];exact hv),fun h=>(by rw [ht] at h;cases h),fun h=>(by rw [ht] at h;cases h),fun h=>(by rw [ht] at h;cases h)⟩
   · refine ⟨hfin,hS,fun h=>(by rw [hf] at h;cases h),fun _=>(by rw [w1];exact hlo),fun _ _=>(by rw [hmid];exact hm),fun _=>.inl (by rw [w2];exact hhi)⟩
def rK (mode:Int) (n:Bool) (K:Nat) (t:Bool) (m:Int):Nat:=if t then K else if outS mode K m n then K+1 else K
theorem outS_par (mode:Int) (j F:Nat) (m:Int) (n:Bool):outS mode (j*8388608+F) m n=outS mode F m n:=by
 unfold outS;rw [show (j*8388608+F)%2=F%2 by omega]
theorem rndK_eq (mode:Int) (n:Bool) (X:Nat) (e:Int):rndK mode n X e=rK mode n (flK X e) (plc 24 (-149) 128 X e).2.2.1 (plc 24 (-149) 128 X e).2.2.2:=by
 unfold rndK rK flK;simp only;rw [outS_par]
 split
 · rfl
 · split <;> omega
end S
end Go.Proofs.YtdimlelcgapobaaGreatDoor
