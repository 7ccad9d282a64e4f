import Derived.Test.YtdimlelcgapobaaGreatDoorZ8x
import Derived.Test.YtdimlelcgapobaaGreatDoorD23x
import Derived.Deep.OwnRows
import Derived.Deep.LoopGhost
import Derived.Test.YtdimlelcgapobaaGreatDoorD16x
import Derived.Deep.Cut
import Derived.Deep.RegionHeld3
set_option linter.unusedVariables false
set_option linter.unusedSimpArgs false
set_option maxHeartbeats 16000000
set_option maxRecDepth 20000
namespace Go.Proofs.YtdimlelcgapobaaGreatDoor
section
open Go.RowKit
theorem infoR:(Tryz.prog.info? 30).map (fun i=>(i.zero,i.size,i.bytes))=some (some (.agg #[.bool false,.slice none 0 0,.int .i64 0,.bool false,.slice none 0 0,.int .i64 0]),6,80):=by kernel_rfl
theorem make_ratios1 (w:World) :
 (Instr.makeSlice 45 (.int .i64 1) (.int .i64 1)).run Tryz.prog w=.ok (.slice (some ⟨w.heap.size,0,none⟩) 1 1) (w.alloc (.cells #[.bool false,.slice none 0 0,.int .i64 0,.bool false,.slice none 0 0,.int .i64 0] 30)):=by
 have h:=infoR;have e:IntKind.i64.wrap 1=1:=by decide
 cases hq:Tryz.prog.info? 30 with
 | none=>rw [hq] at h;simp at h
 | some i =>
   rw [hq] at h;simp at h;simp [Instr.makeSlice,go_sem,Tryz.underlying45,hq,h,typeInfo,e]
theorem make_ratios2 (w:World) :
 (Instr.makeSlice 45 (.int .i64 2) (.int .i64 2)).run Tryz.prog w=.ok (.slice (some ⟨w.heap.size,0,none⟩) 2 2) (w.alloc (.cells #[.bool false,.slice none 0 0,.int .i64 0,.bool false,.slice none 0 0,.int .i64 0,.bool false,.slice none 0 0,.int .i64 0,.bool false,.slice none 0 0,.int .i64 0] 30)):=by
 have h:=infoR;have e:IntKind.i64.wrap 2=2:=by decide
 cases hq:Tryz.prog.info? 30 with
 | none=>rw [hq] at h;simp at h
 | some i =>
   rw [hq] at h;simp at h;simp [Instr.makeSlice,go_sem,Tryz.underlying45,hq,h,typeInfo,e]
structure Ri where
 n:Bool
 v:Value
 X:Nat
 e:Int
 m:Bool
 u:Value
 Y:Nat
 f:Int
def Av (w:World) (v:Value) (X:Nat):Prop:=∃ a l c xs,v=.slice a l c∧Arg w a l c xs∧val xs=X
theorem Av.below {w w':World}{v:Value}{X:Nat}(h:Av w v X) (hb:Below w.heap.size w w'):Av w' v X:=by
 obtain ⟨a,l,c,xs,rfl,hA,hv⟩:=h;exact ⟨a,l,c,xs,rfl,hA.below hb,hv⟩
theorem Nt.av {lo:Nat}{w:World}{v:Value}{X:Nat}(h:Nt lo w v X) (hs:(ws X).length≤35184372088832):Av w v X:=by
 obtain ⟨a,c,rfl,hA⟩:=h.arg hs;exact ⟨a,_,c,_,rfl,hA,val_ws X⟩
def Row6 (w:World) (g k:Nat) (I:Nat→Ri):Prop:=∃ cur:Array Value,w.heap[g]?=some (.cells cur 30 (0,0))∧∀ i,i<k→cur[i*6]?=some (.bool (I i).n)∧cur[i*6+1]?=some (I i).v∧cur[i*6+2]?=some (.int .i64 (I i).e)∧cur[i*6+3]?=some (.bool (I i).m)∧cur[i*6+4]?=some (I i).u∧cur[i*6+5]?=some (.int .i64 (I i).f)
theorem Row6.lt {w:World}{g k:Nat}{I:Nat→Ri}(h:Row6 w g k I):g<w.heap.size:=by obtain ⟨c,h,_⟩:=h;exact (Array.getElem?_eq_some_iff.1 h).1
theorem Row6.below {w w':World}{g k:Nat}{I:Nat→Ri}(h:Row6 w g k I) (hb:Below w.heap.size w w'):Row6 w' g k I:=by
 have hl:=h.lt;obtain ⟨c,h,r⟩:=h;exact ⟨c,by rw [hb.block g hl];exact h,r⟩
theorem Row6.facts {w:World}{g k:Nat}{I:Nat→Ri}(h:Row6 w g k I) (i:Nat) (hi:i<k) :
 w.cell? ⟨g,i*6,none⟩=some (.bool (I i).n)∧w.cell? ⟨g,i*6+1,none⟩=some (I i).v∧w.cell? ⟨g,i*6+2,none⟩=some (.int .i64 (I i).e)∧w.cell? ⟨g,i*6+3,none⟩=some (.bool (I i).m)∧w.cell? ⟨g,i*6+4,none⟩=some (I i).u∧w.cell? ⟨g,i*6+5,none⟩=some (.int .i64 (I i).f):=by
 obtain ⟨c,h,r⟩:=h;obtain ⟨r0,r1,r2,r3,r4,r5⟩:=r i hi;simp [World.cell?,h,r0,r1,r2,r3,r4,r5]
def errL (I:Nat→Ri) (k:Nat):Int :=
 if (List.range k).any (fun i=>decide (sgn (I i).m (I i).Y<0)) then 1
 else if (List.range k).any (fun i=>!((mkS (I i).n (I i).X (I i).e).isSome&&(mkS (I i).m (I i).Y (I i).f).isSome)) then 2
 else if (List.range k).any (fun i=>decide (dX (mkS (I i).m (I i).Y (I i).f)=0)) then 21 else 0
theorem any_of {k i:Nat}{p:Nat→Bool}(hi:i<k) (h:p i=true):(List.range k).any p=true:=List.any_eq_true.2 ⟨i,List.mem_range.2 hi,h⟩
theorem any_no {k:Nat}{p:Nat→Bool}(h:∀ i,i<k→p i=false):(List.range k).any p=false:=by
 rw [List.any_eq_false];intro i hi;rw [h i (List.mem_range.1 hi)];simp
structure RIn (w:World) (g k:Nat) (I:Nat→Ri):Prop where
 row:Row6 w g k I
 one:∀ i,i<k→Av w (I i).v (I i).X∧Av w (I i).u (I i).Y
 rng:∀ i,i<k→-9223372036854775808≤(I i).e∧(I i).e≤9223372036854775807∧-9223372036854775808≤(I i).f∧(I i).f≤9223372036854775807
 tab:Tab w
theorem RIn.below {w w':World}{g k:Nat}{I:Nat→Ri}(h:RIn w g k I) (hb:Below w.heap.size w w'):RIn w' g k I :=
 ⟨h.row.below hb,fun i hi=>⟨(h.one i hi).1.below hb,(h.one i hi).2.below hb⟩,h.rng,h.tab.belows hb⟩
def frmI (I:Nat→Ri) (V:Nat→Value×Value) (i:Nat):Ri :=
 ⟨dN (mkS (I i).n (I i).X (I i).e),(V i).1,dX (mkS (I i).n (I i).X (I i).e),dE (mkS (I i).n (I i).X (I i).e),dN (mkS (I i).m (I i).Y (I i).f),(V i).2,dX (mkS (I i).m (I i).Y (I i).f),dE (mkS (I i).m (I i).Y (I i).f)⟩
structure ROut (lo:Nat) (w:World) (g k:Nat) (I:Nat→Ri) (V:Nat→Value×Value):Prop where
 row:Row6 w g k (frmI I V)
 own:lo≤g
 nts:∀ i,i<k→Nt lo w (V i).1 (dX (mkS (I i).n (I i).X (I i).e))∧Nt lo w (V i).2 (dX (mkS (I i).m (I i).Y (I i).f))
theorem ROut.below {lo:Nat}{w w':World}{g k:Nat}{I:Nat→Ri}{V:Nat→Value×Value}(h:ROut lo w g k I V) (hb:Below w.heap.size w w'):ROut lo w' g k I V :=
 ⟨h.row.below hb,h.own,fun i hi=>⟨(h.nts i hi).1.below hb,(h.nts i hi).2.below hb⟩⟩
abbrev st6o (w:World) (g o:Nat) (a b c d e f:Value):World:=(((((w.setCell ⟨g,o,none⟩ a).setCell ⟨g,o+1,none⟩ b).setCell ⟨g,o+2,none⟩ c).setCell ⟨g,o+3,none⟩ d).setCell ⟨g,o+4,none⟩ e).setCell ⟨g,o+5,none⟩ f
theorem st6o_but (g o:Nat) (w:World) (a b c d e f:Value):But g w (st6o w g o a b c d e f):=((((((But.refl g w).set _ _).set _ _).set _ _).set _ _).set _ _).set _ _
theorem setc {w:World}{g T:Nat}{cur:Array Value}{fz:Nat×Nat}(h:w.heap[g]?=some (.cells cur T fz)) (o:Nat) (v:Value):(w.setCell ⟨g,o,none⟩ v).heap[g]?=some (.cells (cur.setIfInBounds o v) T fz):=by
 simp [World.setCell,Array.getElem?_modify,h]
theorem st6o_cells {w:World}{g T:Nat}{cur:Array Value}{fz:Nat×Nat}(h:w.heap[g]?=some (.cells cur T fz)) (o:Nat) (a b c d e f:Value) (ho:o+5<cur.size) :
 ∃ cur',(st6o w g o a b c d e f).heap[g]?=some (.cells cur' T fz)∧cur'.size=cur.size∧(cur'[o]?=some a∧cur'[o+1]?=some b∧cur'[o+2]?=some c∧cur'[o+3]?=some d∧cur'[o+4]?=some e∧cur'[o+5]?=some f)∧∀ j,(j<o∨o+5<j)→cur'[j]?=cur[j]?:=by
 refine ⟨_,setc (setc (setc (setc (setc (setc h o a) (o+1) b) (o+2) c) (o+3) d) (o+4) e) (o+5) f,by simp,?_,?_⟩
 · simp [Array.getElem?_setIfInBounds]
   omega
 · intro j hj
   have n0:o≠j:=by omega
   have n1:o+1≠j:=by omega
   have n2:o+2≠j:=by omega
   have n3:o+3≠j:=by omega
   have n4:o+4≠j:=by omega
   have n5:o+5≠j:=by omega
   simp [Array.getElem?_setIfInBounds,n0,n1,n2,n3,n4,n5]
structure RPart (lo:Nat) (w:World) (g k i:Nat) (I:Nat→Ri) (V:Nat→Value×Value):Prop where
 row:∃ cur:Array Value,w.heap[g]?=some (.cells cur 30 (0,0))∧cur.size=6*k∧∀ j,j<i→cur[j*6]?=some (.bool (frmI I V j).n)∧cur[j*6+1]?=some (frmI I V j).v∧cur[j*6+2]?=some (.int .i64 (frmI I V j).e)∧cur[j*6+3]?=some (.bool (frmI I V j).m)∧cur[j*6+4]?=some (frmI I V j).u∧cur[j*6+5]?=some (.int .i64 (frmI I V j).f)
 own:lo≤g
 nts:∀ j,j<i→Nt lo w (V j).1 (dX (mkS (I j).n (I j).X (I j).e))∧Nt lo w (V j).2 (dX (mkS (I j).m (I j).Y (I j).f))
theorem RPart.lt {lo:Nat}{w:World}{g k i:Nat}{I:Nat→Ri}{V:Nat→Value×Value}(h:RPart lo w g k i I V):g<w.heap.size:=by obtain ⟨c,h,_⟩:=h.row;exact (Array.getElem?_eq_some_iff.1 h).1
theorem RPart.below {lo:Nat}{w w':World}{g k i:Nat}{I:Nat→Ri}{V:Nat→Value×Value}(h:RPart lo w g k i I V) (hb:Below w.heap.size w w'):RPart lo w' g k i I V:=by
 have hl:=h.lt;obtain ⟨⟨c,h1,r⟩,h2,h3⟩:=h;exact ⟨⟨c,by rw [hb.block g hl];exact h1,r⟩,h2,fun j hj=>⟨(h3 j hj).1.below hb,(h3 j hj).2.below hb⟩⟩
theorem RPart.room {lo:Nat}{w:World}{g k i:Nat}{I:Nat→Ri}{V:Nat→Value×Value}(h:RPart lo w g k i I V) (j:Nat) (hj:j<6*k):(∃ v,w.cell? ⟨g,j,none⟩=some v)∧w.frozen? ⟨g,j,none⟩=false:=by
 obtain ⟨⟨c,h1,hs,r⟩,h2,h3⟩:=h;refine ⟨⟨c[j]'(by omega),?_⟩,?_⟩
 · simp [World.cell?,h1]
 · simp [World.frozen?,h1]
theorem RPart.out {lo:Nat}{w:World}{g k:Nat}{I:Nat→Ri}{V:Nat→Value×Value}(h:RPart lo w g k k I V):ROut lo w g k I V:=by
 obtain ⟨⟨c,h1,hs,r⟩,h2,h3⟩:=h;exact ⟨⟨c,h1,r⟩,h2,h3⟩
theorem RPart.step {lo:Nat}{w:World}{g k i:Nat}{I:Nat→Ri}{V:Nat→Value×Value}(h:RPart lo w g k i I V) (hi:i<k) (v u:Value)
 (hv:Nt lo w v (dX (mkS (I i).n (I i).X (I i).e))) (hu:Nt lo w u (dX (mkS (I i).m (I i).Y (I i).f))) :
 ∃ V',RPart lo (st6o w g (i*6) (.bool (dN (mkS (I i).n (I i).X (I i).e))) v (.int .i64 (dE (mkS (I i).n (I i).X (I i).e))) (.bool (dN (mkS (I i).m (I i).Y (I i).f))) u (.int .i64 (dE (mkS (I i).m (I i).Y (I i).f)))) g k (i+1) I V':=by
 obtain ⟨⟨c,h1,hs,r⟩,h2,h3⟩:=h;obtain ⟨c',k1,k2,k3,k4⟩:=st6o_cells h1 (i*6) (.bool (dN (mkS (I i).n (I i).X (I i).e))) v (.int .i64 (dE (mkS (I i).n (I i).X (I i).e))) (.bool (dN (mkS (I i).m (I i).Y (I i).f))) u (.int .i64 (dE (mkS (I i).m (I i).Y (I i).f))) (by omega)
 refine ⟨fun j=>if j=i then (v,u) else V j,⟨c',k1,by omega,fun j hj=>?_⟩,h2,fun j hj=>?_⟩
 · by_cases e:j=i
   · subst e
     simp only [frmI,if_true];exact k3
   · have:=r j (by omega)
     rw [k4 _ (by omega),k4 _ (by omega),k4 _ (by omega),k4 _ (by omega),k4 _ (by omega),k4 _ (by omega)]
     simp only [frmI,if_neg e] at this ⊢;exact this
 · by_cases e:j=i
   · subst e
     simp only [if_true];exact ⟨hv.off (st6o_but _ _ _ _ _ _ _ _ _) (hv.notin (by decide) h1),hu.off (st6o_but _ _ _ _ _ _ _ _ _) (hu.notin (by decide) h1)⟩
   · simp only [if_neg e]
     obtain ⟨q1,q2⟩:=h3 j (by omega)
     exact ⟨q1.off (st6o_but _ _ _ _ _ _ _ _ _) (q1.notin (by decide) h1),q2.off (st6o_but _ _ _ _ _ _ _ _ _) (q2.notin (by decide) h1)⟩
theorem sgnD {w:World}{n:Bool}{v:Value}{X:Nat}{e:Int}(h:Av w v X):Calls Tryz.prog 59 #[.agg #[.bool n,v,.int .i64 e]] w fun r w'=>r=.returned (.int .i64 (sgn n X))∧Below w.heap.size w w':=by
 obtain ⟨a,l,c,xs,rfl,hA,rfl⟩:=h;exact Sign_any3 hA n e
theorem formD {w:World}{r:Ri}(h1:Av w r.v r.X) (h2:Av w r.u r.Y) (hT:Tab w) (b0:-9223372036854775808≤r.e) (b1:r.e≤9223372036854775807) (b2:-9223372036854775808≤r.f) (b3:r.f≤9223372036854775807) :
 Calls Tryz.prog 93 #[.agg #[.bool r.n,r.v,.int .i64 r.e,.bool r.m,r.u,.int .i64 r.f]] w fun q w' =>
  (((mkS r.n r.X r.e).isSome&&(mkS r.m r.Y r.f).isSome)=true→∃ v u,q=.returned (.tuple #[.agg #[.bool (dN (mkS r.n r.X r.e)),v,.int .i64 (dE (mkS r.n r.X r.e)),.bool (dN (mkS r.m r.Y r.f)),u,.int .i64 (dE (mkS r.m r.Y r.f))],.int .i64 0])∧Nt w.heap.size w' v (dX (mkS r.n r.X r.e))∧Nt w.heap.size w' u (dX (mkS r.m r.Y r.f))∧Ap v u) ∧
  (((mkS r.n r.X r.e).isSome&&(mkS r.m r.Y r.f).isSome)=false→q=.returned (.tuple #[.agg #[.bool false,.slice none 0 0,.int .i64 0,.bool false,.slice none 0 0,.int .i64 0],.int .i64 2]))∧Below w.heap.size w w':=by
 obtain ⟨n,v,X,e,m,u,Y,f⟩:=r;simp only at *;obtain ⟨a,l,c,xs,rfl,hA,rfl⟩:=h1;obtain ⟨b,k,d,ys,rfl,hB,rfl⟩:=h2;have l1:=mkS_len n (val xs) e;have l2:=mkS_len m (val ys) f;have H1:∀ u,Below w.heap.size w u→Calls Tryz.prog 110 #[.bool n,.slice a l c,.int .i64 e] u fun r w'=>DAns u.heap.size w' r (mkS n (val xs) e)∧Below u.heap.size u w':=fun u hu=>Make_any (hA.below hu) (hT.belows hu) n e b0 b1
 have H2:∀ u,Below w.heap.size w u→Calls Tryz.prog 110 #[.bool m,.slice b k d,.int .i64 f] u fun r w'=>DAns u.heap.size w' r (mkS m (val ys) f)∧Below u.heap.size u w':=fun u hu=>Make_any (hB.below hu) (hT.belows hu) m f b2 b3
 simp only [DAns] at H1 H2;generalize mkS n (val xs) e=o at *;generalize mkS m (val ys) f=p at *
 cases ho:o.isSome with
 | false =>
   have he:erS o=2:=by unfold erS;rw [ho];rfl
   rw [he] at H1;refine (form_bad1 n m e f (dN o) false (dX o) 0 (dE o) 0 l1 (by rw [ws0];omega) H1).mono ?_
   rintro r w' ⟨⟨v,u,h,rfl,rfl⟩,hb⟩;exact ⟨fun hh=>(by cases hh),fun _=>h,hb⟩
 | true =>
   have he:erS o=0:=by unfold erS;rw [ho];rfl
   rw [he] at H1
   cases hp:p.isSome with
   | false =>
     have he:erS p=2:=by unfold erS;rw [hp];rfl
     rw [he] at H2;refine (form_bad2 n m e f (dN o) (dN p) (dX o) (dX p) (dE o) (dE p) l1 l2 H1 H2).mono ?_;rintro r w' ⟨⟨v,u,h,rfl,rfl⟩,hb⟩;exact ⟨fun hh=>(by cases hh),fun _=>h,hb⟩
   | true =>
     have he:erS p=0:=by unfold erS;rw [hp];rfl
     rw [he] at H2;refine (form_ok n m e f (dN o) (dN p) (dX o) (dX p) (dE o) (dE p) l1 l2 H1 H2).mono ?_;rintro r w' ⟨⟨v,u,h,hN,hM,hap⟩,hb⟩;exact ⟨fun _=>⟨v,u,h,hN,hM,hap⟩,fun hh=>(by cases hh),hb⟩
theorem forms1 (w:World) (g:Nat) (I:Nat→Ri) (h:RIn w g 1 I) :
 Calls Tryz.prog 57 #[.slice (some ⟨g,0,none⟩) 1 1] w fun r w' =>
  ((errL I 1≠0∧r=.returned (.tuple #[.slice none 0 0,.int .i64 (errL I 1)])) ∨
   (errL I 1=0∧∃ g' V,r=.returned (.tuple #[.slice (some ⟨g',0,none⟩) 1 1,.int .i64 0])∧ROut w.heap.size w' g' 1 I V))∧Below w.heap.size w w':=by
 have MK:=make_ratios1;have hH:=sd h;clear h;go_enter Tryz.func57,Tryz.ntmps57
 go_wp2_with fail
 go_loopg [15] 1 (fun gk iv wr=>∃ i:Nat,gk+i=1∧iv=.int .i64 (i:Nat)∧Aside (Below w.heap.size w wr∧∀ j,j<i→decide (sgn (I j).m (I j).Y<0)=false))
 case atStart=>exact ⟨0,by omega,rfl,Below.refl _ _,fun j hj=>by omega⟩
 case round =>
  obtain ⟨i,hgi,rfl,HR⟩:=hrel
  by_cases hi:i<1
  · have hin:=hH.out.below HR.out.1
    obtain ⟨g0,g1,g2,g3,g4,g5⟩:=hin.row.facts i hi;obtain ⟨A1,A2⟩:=hin.one i hi;obtain ⟨n,v,X,e,m,u,Y,f,hI⟩:∃ n v X e m u Y f,I i=⟨n,v,X,e,m,u,Y,f⟩:=⟨_,_,_,_,_,_,_,_,rfl⟩;rw [hI] at g0 g1 g2 g3 g4 g5 A1 A2;simp only at g0 g1 g2 g3 g4 g5 A1 A2;obtain ⟨a1,l1,c1,xs,rfl,-,-⟩:=id A1;obtain ⟨a2,l2,c2,ys,rfl,-,-⟩:=id A2;obtain ⟨U,hU⟩:∃ U,U=wr.alloc (.cells #[.bool n,.slice a1 l1 c1,.int .i64 e,.bool m,.slice a2 l2 c2,.int .i64 f] 30):=⟨_,rfl⟩;have hbU:Below wr.heap.size wr U:=by rw [hU];exact below_alloc _ _
    have RQ:Rq U wr.heap.size n (.slice a1 l1 c1) e m (.slice a2 l2 c2) f:=by rw [hU];exact Rq.new _ _ _ _ _ _ _
    obtain ⟨x0,x1,x2,x3,x4,x5⟩:=RQ.facts;have HC:=hid (sgnD (n:=m) (e:=f) (A2.below hbU));obtain ⟨s,hs⟩:∃ s,sgn m Y=s:=⟨_,rfl⟩;rw [hs] at HC;have SI:=(sd (ai (HR.out.1.trans (hbU.mono HR.out.1.size)) (ai HR.out.2 (ai hI (ai hs hi)))));clear hbU RQ A1 A2 hin HR hI hs;have hli:(i:Int)<1:=by omega
    have hl0:(0:Int)≤(i:Int):=by omega
    go_upto_region 4 with fail
    rw [←hU];clear hU g0 g1 g2 g3 g4 g5
    go_wp2_with fail
    clear x0 x1 x2 x3 x4 x5;refine HC.out.mono ?_;rintro r u1 ⟨rfl,hb⟩;have S2:=sd (SI.out.1.trans (hb.mono SI.out.1.size));clear hb HC
    by_cases hneg:s<0
    · have hn:=decide_eq_true hneg
      go_wp2_with fail
      go_ret2
      obtain ⟨_,hbef,hI,hs,hi⟩:=SI.out
      have hE:errL I 1=1:=by
       unfold errL;rw [if_pos (any_of hi (by rw [hI];simp only;rw [hs];exact decide_eq_true hneg))]
      rw [hE];exact ⟨.inl ⟨by decide,rfl⟩,S2.out⟩
    · have hn:decide (s<0)=false:=decide_eq_false (by omega)
      go_wp2_with fail
      go_roundg (1-(i+1))
      case measure=>omega
      case rel =>
       obtain ⟨_,hbef,hI,hs,hi⟩:=SI.out;refine ⟨i+1,by omega,by go_num,S2.out,fun j hj=>?_⟩
       by_cases hji:j=i
       · subst hji;rw [hI];simp only;rw [hs];exact decide_eq_false (by omega)
       · exact hbef j (by omega)
  · obtain rfl:i=1:=by omega
    obtain ⟨M,hM⟩:∃ M,M=wr.alloc (.cells #[.bool false,.slice none 0 0,.int .i64 0,.bool false,.slice none 0 0,.int .i64 0] 30):=⟨_,rfl⟩;have hbM:Below wr.heap.size wr M:=by rw [hM];exact below_alloc _ _
    have hpM:RPart w.heap.size M wr.heap.size 1 0 I (fun _=>(.slice none 0 0,.slice none 0 0)):=by
     rw [hM];exact ⟨⟨_,heap_alloc_new _ _,rfl,fun j hj=>by omega⟩,HR.out.1.size,fun j hj=>by omega⟩
    have S1:=(sd (ai HR.out.2 (ai hpM (HR.out.1.trans (hbM.mono HR.out.1.size)))));obtain ⟨gO,hgO⟩:∃ gO,gO=wr.heap.size:=⟨_,rfl⟩;clear HR hbM hpM hi hgi
    go_upto_region 9 with fail
    rw [←hM];rw [←hgO] at S1 ⊢;clear hM hgO
    go_loopg [29] 1 (fun gk iv wr=>∃ i:Nat,gk+i=1∧iv=.int .i64 (i:Nat)∧Aside (Below w.heap.size w wr∧(∀ j,j<i→((mkS (I j).n (I j).X (I j).e).isSome&&(mkS (I j).m (I j).Y (I j).f).isSome)=true)∧∃ V,RPart w.heap.size wr gO 1 i I V))
    case atStart=>exact ⟨0,by omega,rfl,S1.out.2.2,fun j hj=>by omega,_,S1.out.2.1⟩
    case round =>
     obtain ⟨i,hgi,rfl,HR⟩:=hrel;have SS:=sd S1.out.1;clear S1
     by_cases hi:i<1
     · obtain ⟨bel,hbef,V,hP⟩:=HR.out
       have hin:=hH.out.below bel;obtain ⟨g0,g1,g2,g3,g4,g5⟩:=hin.row.facts i hi;obtain ⟨A1,A2⟩:=hin.one i hi;obtain ⟨b0,b1,b2,b3⟩:=hin.rng i hi;have hFD:=fun (u:World) (hb:Below wr.heap.size wr u)=>formD (r:=I i) (A1.below hb) (A2.below hb) ((hin.below hb).tab) b0 b1 b2 b3
       obtain ⟨n,v,X,e,m,u,Y,f,hI⟩:∃ n v X e m u Y f,I i=⟨n,v,X,e,m,u,Y,f⟩:=⟨_,_,_,_,_,_,_,_,rfl⟩;rw [hI] at g0 g1 g2 g3 g4 g5 A1 A2 hFD;simp only at g0 g1 g2 g3 g4 g5 A1 A2 hFD;obtain ⟨a1,l1,c1,xs,rfl,-,-⟩:=id A1;obtain ⟨a2,l2,c2,ys,rfl,-,-⟩:=id A2;obtain ⟨U,hU⟩:∃ U,U=wr.alloc (.cells #[.bool n,.slice a1 l1 c1,.int .i64 e,.bool m,.slice a2 l2 c2,.int .i64 f] 30):=⟨_,rfl⟩;have hbU:Below wr.heap.size wr U:=by rw [hU];exact below_alloc _ _
       have RQ:Rq U wr.heap.size n (.slice a1 l1 c1) e m (.slice a2 l2 c2) f:=by rw [hU];exact Rq.new _ _ _ _ _ _ _
       obtain ⟨x0,x1,x2,x3,x4,x5⟩:=RQ.facts;have HC:=hid (hFD U hbU);have lo1:=mkS_len n X e;have lo2:=mkS_len m Y f;obtain ⟨o,ho⟩:∃ o,mkS n X e=o:=⟨_,rfl⟩;obtain ⟨p,hp⟩:∃ p,mkS m Y f=p:=⟨_,rfl⟩;rw [ho,hp] at HC;rw [ho] at lo1;rw [hp] at lo2;have SI:=(sd (ai (bel.trans (hbU.mono bel.size)) (ai hbef (ai hI (ai ho (ai hp (ai hi (hP.below hbU))))))));clear hbU RQ A1 A2 hin HR hI ho hp bel hbef hP hFD b0 b1 b2 b3;have hli:(i:Int)<1:=by omega
       have hl0:(0:Int)≤(i:Int):=by omega
       go_upto_region 11 with fail
       rw [←hU];clear hU g0 g1 g2 g3 g4 g5
       go_wp2_with fail
       clear x0 x1 x2 x3 x4 x5;refine HC.out.mono ?_;rintro r u1 ⟨h1,h2,hb⟩;clear HC
       cases hok:(o.isSome&&p.isSome) with
       | false =>
         obtain rfl:=h2 hok;have S2:=sd (SI.out.1.trans (hb.mono SI.out.1.size));clear h1 h2 hb
         go_wp2_with fail
         go_ret2
         obtain ⟨_,hbef,hI,ho,hp,hi,_⟩:=SI.out
         have hE:errL I 1=2:=by
          unfold errL;rw [any_no (p:=fun i=>decide (sgn (I i).m (I i).Y<0)) SS.out,if_neg Bool.false_ne_true,if_pos (any_of hi (by rw [hI];simp only;rw [ho,hp,hok];rfl))]
         rw [hE];exact ⟨.inl ⟨by decide,rfl⟩,S2.out.alloc S2.out.size _⟩
       | true =>
         obtain ⟨v1,v2,rfl,hN,hM2,-⟩:=h1 hok;obtain ⟨p1,q1,rfl,_⟩:=hN.arg (by omega)
         obtain ⟨p2,q2,rfl,_⟩:=hM2.arg (by omega)
         obtain ⟨U2,hU2⟩:∃ U,U=u1.alloc (.cells #[.bool (dN o),.slice p1 (ws (dX o)).length q1,.int .i64 (dE o),.bool (dN p),.slice p2 (ws (dX p)).length q2,.int .i64 (dE p)] 30):=⟨_,rfl⟩;have hbU:Below u1.heap.size u1 U2:=by rw [hU2];exact below_alloc _ _
         have RQ:Rq U2 u1.heap.size (dN o) (.slice p1 (ws (dX o)).length q1) (dE o) (dN p) (.slice p2 (ws (dX p)).length q2) (dE p):=by rw [hU2];exact Rq.new _ _ _ _ _ _ _
         obtain ⟨x0,x1,x2,x3,x4,x5⟩:=RQ.facts;have hP2:=(SI.out.2.2.2.2.2.2.below hb).below hbU;have hb2:=(SI.out.1.trans (hb.mono SI.out.1.size)).trans (hbU.mono (Nat.le_trans SI.out.1.size hb.size));obtain ⟨⟨y0,r0⟩,f0⟩:=hP2.room (i*6) (by omega)
         obtain ⟨⟨y1,r1⟩,f1⟩:=hP2.room (i*6+1) (by omega)
         obtain ⟨⟨y2,r2⟩,f2⟩:=hP2.room (i*6+2) (by omega)
         obtain ⟨⟨y3,r3⟩,f3⟩:=hP2.room (i*6+3) (by omega)
         obtain ⟨⟨y4,r4⟩,f4⟩:=hP2.room (i*6+4) (by omega)
         obtain ⟨⟨y5,r5⟩,f5⟩:=hP2.room (i*6+5) (by omega)
         obtain ⟨W',hW'⟩:∃ W',W'=st6o U2 gO (i*6) (.bool (dN o)) (.slice p1 (ws (dX o)).length q1) (.int .i64 (dE o)) (.bool (dN p)) (.slice p2 (ws (dX p)).length q2) (.int .i64 (dE p)):=⟨_,rfl⟩
         have S3:Aside (Below w.heap.size w W'∧(∀ j,j<i+1→((mkS (I j).n (I j).X (I j).e).isSome&&(mkS (I j).m (I j).Y (I j).f).isSome)=true)∧∃ V,RPart w.heap.size W' gO 1 (i+1) I V):=by
          obtain ⟨_,hbef,hI,ho,hp,hi,_⟩:=SI.out;refine ⟨?_,?_,?_⟩
          · rw [hW'];exact But.below hb2 (st6o_but _ _ _ _ _ _ _ _ _) hb2.size hP2.own
          · intro j hj
            by_cases e:j=i
            · subst e;rw [hI];simp only;rw [ho,hp,hok]
            · exact hbef j (by omega)
          · have hsz:=SI.out.1.size
            have:=hP2.step hi (.slice p1 (ws (dX o)).length q1) (.slice p2 (ws (dX p)).length q2) (by rw [hI];simp only;rw [ho];exact (hN.below hbU).mono hsz) (by rw [hI];simp only;rw [hp];exact (hM2.below hbU).mono hsz)
            rw [hI] at this;simp only at this;rw [ho,hp,←hW'] at this;exact this
         have neq:u1.heap.size≠gO:=by have:=(SI.out.2.2.2.2.2.2.below hb).lt;omega
         clear h1 h2 hb hN hM2 hbU RQ hP2 hb2 SI
         go_upto_region 12 with fail
         rw [←hU2];clear hU2
         go_wp2_with fail
         unfold st6o at hW'
         go_roundg (1-(i+1))
         case measure=>omega
         case rel =>
          refine ⟨i+1,by omega,by go_num,?_⟩
          first | rw [←hW'] | (rw [hW'] at S3)
          exact S3
     · obtain rfl:i=1:=by omega
       obtain ⟨bel,hbef,V,hP⟩:=HR.out;have hO:=hP.out;have S2:=(sd (ai bel (ai hbef hO)));have hi0:wr=wr:=rfl;clear HR bel hbef hP hO hi hgi
       go_upto_region 17 with fail
       go_loopg [49] 1 (fun gk iv wr=>∃ i:Nat,gk+i=1∧iv=.int .i64 (i:Nat)∧Aside (Below w.heap.size w wr∧(∀ j,j<i→decide (dX (mkS (I j).m (I j).Y (I j).f)=0)=false)∧ROut w.heap.size wr gO 1 I V))
       case atStart=>exact ⟨0,by omega,rfl,S2.out.1,fun j hj=>by omega,S2.out.2.2⟩
       case round =>
        obtain ⟨i,hgi,rfl,HR⟩:=hrel;have SS2:=sd S2.out.2.1;clear S2
        by_cases hi:i<1
        · obtain ⟨bel,hbef,hO⟩:=HR.out
          obtain ⟨g0,g1,g2,g3,g4,g5⟩:=hO.row.facts i hi;obtain ⟨A1,A2⟩:=hO.nts i hi;have lo1:=mkS_len (I i).n (I i).X (I i).e;have lo2:=mkS_len (I i).m (I i).Y (I i).f;unfold frmI at g0 g1 g2 g3 g4 g5;simp only at g0 g1 g2 g3 g4 g5;obtain ⟨o,ho⟩:∃ o,mkS (I i).n (I i).X (I i).e=o:=⟨_,rfl⟩;obtain ⟨p,hp⟩:∃ p,mkS (I i).m (I i).Y (I i).f=p:=⟨_,rfl⟩;rw [ho] at g0 g2 A1 lo1;rw [hp] at g3 g5 A2 lo2;obtain ⟨v1,hv1⟩:∃ v1,(V i).1=v1:=⟨_,rfl⟩;obtain ⟨v2,hv2⟩:∃ v2,(V i).2=v2:=⟨_,rfl⟩;rw [hv1] at g1 A1;rw [hv2] at g4 A2;obtain ⟨p1,q1,rfl,_⟩:=A1.arg (by omega)
          obtain ⟨p2,q2,rfl,_⟩:=A2.arg (by omega)
          obtain ⟨U,hU⟩:∃ U,U=wr.alloc (.cells #[.bool (dN o),.slice p1 (ws (dX o)).length q1,.int .i64 (dE o),.bool (dN p),.slice p2 (ws (dX p)).length q2,.int .i64 (dE p)] 30):=⟨_,rfl⟩;have hbU:Below wr.heap.size wr U:=by rw [hU];exact below_alloc _ _
          have RQ:Rq U wr.heap.size (dN o) (.slice p1 (ws (dX o)).length q1) (dE o) (dN p) (.slice p2 (ws (dX p)).length q2) (dE p):=by rw [hU];exact Rq.new _ _ _ _ _ _ _
          obtain ⟨x0,x1,x2,x3,x4,x5⟩:=RQ.facts;have HC:=hid (sgnD (n:=dN p) (e:=dE p) ((A2.below hbU).av (by omega)))
          obtain ⟨s,hs⟩:∃ s,sgn (dN p) (dX p)=s:=⟨_,rfl⟩;rw [hs] at HC;have SI:=(sd (ai (bel.trans (hbU.mono bel.size)) (ai hbef (ai hp (ai hs (ai hi (hO.below hbU)))))));clear hbU RQ A1 A2 HR ho hp hv1 hv2 hs bel hbef hO;have hli:(i:Int)<1:=by omega
          have hl0:(0:Int)≤(i:Int):=by omega
          go_upto_region 19 with fail
          rw [←hU];clear hU g0 g1 g2 g3 g4 g5
          go_wp2_with fail
          clear x0 x1 x2 x3 x4 x5;refine HC.out.mono ?_;rintro r u1 ⟨rfl,hb⟩;have S2:=(sd (ai (SI.out.1.trans (hb.mono SI.out.1.size)) (SI.out.2.2.2.2.2.below hb)));clear hb HC
          by_cases hz:s=0
          · have hn:(s==0)=true:=by simp [hz]
            have hsz:=SI;clear SI
            go_wp2_with fail
            go_ret2
            obtain ⟨_,hbef,hp,hs,hi,_⟩:=hsz.out
            have hE:errL I 1=21:=by
             unfold errL;rw [any_no (p:=fun i=>decide (sgn (I i).m (I i).Y<0)) SS.out,if_neg Bool.false_ne_true,any_no (p:=fun i=>!((mkS (I i).n (I i).X (I i).e).isSome&&(mkS (I i).m (I i).Y (I i).f).isSome)) (fun j hj=>by rw [SS2.out j hj];rfl),if_neg Bool.false_ne_true,if_pos (any_of hi (by simp only [hp];exact decide_eq_true (sgn_zero3.1 (hs.trans hz))))]
            rw [hE];exact ⟨.inl ⟨by decide,rfl⟩,S2.out.1⟩
          · have hn:(s==0)=false:=by simp [hz]
            go_wp2_with fail
            go_roundg (1-(i+1))
            case measure=>omega
            case rel =>
             obtain ⟨_,hbef,hp,hs,hi,_⟩:=SI.out;refine ⟨i+1,by omega,by go_num,S2.out.1,fun j hj=>?_,S2.out.2⟩
             by_cases hji:j=i
             · subst hji;rw [hp];exact decide_eq_false (fun h0=>hz (hs.symm.trans (sgn_zero3.2 h0)))
             · exact hbef j (by omega)
        · obtain rfl:i=1:=by omega
          have S3:=HR;clear HR hi hgi
          go_wp2_with fail
          go_ret2
          have hE:errL I 1=0:=by
           unfold errL;rw [any_no (p:=fun i=>decide (sgn (I i).m (I i).Y<0)) SS.out,if_neg Bool.false_ne_true,any_no (p:=fun i=>!((mkS (I i).n (I i).X (I i).e).isSome&&(mkS (I i).m (I i).Y (I i).f).isSome)) (fun j hj=>by rw [SS2.out j hj];rfl),if_neg Bool.false_ne_true,any_no (p:=fun i=>decide (dX (mkS (I i).m (I i).Y (I i).f)=0)) S3.out.2.1,if_neg Bool.false_ne_true]
          exact ⟨.inr ⟨hE,gO,V,rfl,S3.out.2.2⟩,S3.out.1⟩
theorem forms2 (w:World) (g:Nat) (I:Nat→Ri) (h:RIn w g 2 I) :
 Calls Tryz.prog 57 #[.slice (some ⟨g,0,none⟩) 2 2] w fun r w' =>
  ((errL I 2≠0∧r=.returned (.tuple #[.slice none 0 0,.int .i64 (errL I 2)])) ∨
   (errL I 2=0∧∃ g' V,r=.returned (.tuple #[.slice (some ⟨g',0,none⟩) 2 2,.int .i64 0])∧ROut w.heap.size w' g' 2 I V))∧Below w.heap.size w w':=by
 have MK:=make_ratios2;have hH:=sd h;clear h;go_enter Tryz.func57,Tryz.ntmps57
 go_wp2_with fail
 go_loopg [15] 2 (fun gk iv wr=>∃ i:Nat,gk+i=2∧iv=.int .i64 (i:Nat)∧Aside (Below w.heap.size w wr∧∀ j,j<i→decide (sgn (I j).m (I j).Y<0)=false))
 case atStart=>exact ⟨0,by omega,rfl,Below.refl _ _,fun j hj=>by omega⟩
 case round =>
  obtain ⟨i,hgi,rfl,HR⟩:=hrel
  by_cases hi:i<2
  · have hin:=hH.out.below HR.out.1
    obtain ⟨g0,g1,g2,g3,g4,g5⟩:=hin.row.facts i hi;obtain ⟨A1,A2⟩:=hin.one i hi;obtain ⟨n,v,X,e,m,u,Y,f,hI⟩:∃ n v X e m u Y f,I i=⟨n,v,X,e,m,u,Y,f⟩:=⟨_,_,_,_,_,_,_,_,rfl⟩;rw [hI] at g0 g1 g2 g3 g4 g5 A1 A2;simp only at g0 g1 g2 g3 g4 g5 A1 A2;obtain ⟨a1,l1,c1,xs,rfl,-,-⟩:=id A1;obtain ⟨a2,l2,c2,ys,rfl,-,-⟩:=id A2;obtain ⟨U,hU⟩:∃ U,U=wr.alloc (.cells #[.bool n,.slice a1 l1 c1,.int .i64 e,.bool m,.slice a2 l2 c2,.int .i64 f] 30):=⟨_,rfl⟩;have hbU:Below wr.heap.size wr U:=by rw [hU];exact below_alloc _ _
    have RQ:Rq U wr.heap.size n (.slice a1 l1 c1) e m (.slice a2 l2 c2) f:=by rw [hU];exact Rq.new _ _ _ _ _ _ _
    obtain ⟨x0,x1,x2,x3,x4,x5⟩:=RQ.facts;have HC:=hid (sgnD (n:=m) (e:=f) (A2.below hbU));obtain ⟨s,hs⟩:∃ s,sgn m Y=s:=⟨_,rfl⟩;rw [hs] at HC;have SI:=(sd (ai (HR.out.1.trans (hbU.mono HR.out.1.size)) (ai HR.out.2 (ai hI (ai hs hi)))));clear hbU RQ A1 A2 hin HR hI hs;have hli:(i:Int)<2:=by omega
    have hl0:(0:Int)≤(i:Int):=by omega
    go_upto_region 4 with fail
    rw [←hU];clear hU g0 g1 g2 g3 g4 g5
    go_wp2_with fail
    clear x0 x1 x2 x3 x4 x5;refine HC.out.mono ?_;rintro r u1 ⟨rfl,hb⟩;have S2:=sd (SI.out.1.trans (hb.mono SI.out.1.size));clear hb HC
    by_cases hneg:s<0
    · have hn:=decide_eq_true hneg
      go_wp2_with fail
      go_ret2
      obtain ⟨_,hbef,hI,hs,hi⟩:=SI.out
      have hE:errL I 2=1:=by
       unfold errL;rw [if_pos (any_of hi (by rw [hI];simp only;rw [hs];exact decide_eq_true hneg))]
      rw [hE];exact ⟨.inl ⟨by decide,rfl⟩,S2.out⟩
    · have hn:decide (s<0)=false:=decide_eq_false (by omega)
      go_wp2_with fail
      go_roundg (2-(i+1))
      case measure=>omega
      case rel =>
       obtain ⟨_,hbef,hI,hs,hi⟩:=SI.out;refine ⟨i+1,by omega,by go_num,S2.out,fun j hj=>?_⟩
       by_cases hji:j=i
       · subst hji;rw [hI];simp only;rw [hs];exact decide_eq_false (by omega)
       · exact hbef j (by omega)
  · obtain rfl:i=2:=by omega
    obtain ⟨M,hM⟩:∃ M,M=wr.alloc (.cells #[.bool false,.slice none 0 0,.int .i64 0,.bool false,.slice none 0 0,.int .i64 0,.bool false,.slice none 0 0,.int .i64 0,.bool false,.slice none 0 0,.int .i64 0] 30):=⟨_,rfl⟩;have hbM:Below wr.heap.size wr M:=by rw [hM];exact below_alloc _ _
    have hpM:RPart w.heap.size M wr.heap.size 2 0 I (fun _=>(.slice none 0 0,.slice none 0 0)):=by
     rw [hM];exact ⟨⟨_,heap_alloc_new _ _,rfl,fun j hj=>by omega⟩,HR.out.1.size,fun j hj=>by omega⟩
    have S1:=(sd (ai HR.out.2 (ai hpM (HR.out.1.trans (hbM.mono HR.out.1.size)))));obtain ⟨gO,hgO⟩:∃ gO,gO=wr.heap.size:=⟨_,rfl⟩;clear HR hbM hpM hi hgi
    go_upto_region 9 with fail
    rw [←hM];rw [←hgO] at S1 ⊢;clear hM hgO
    go_loopg [29] 2 (fun gk iv wr=>∃ i:Nat,gk+i=2∧iv=.int .i64 (i:Nat)∧Aside (Below w.heap.size w wr∧(∀ j,j<i→((mkS (I j).n (I j).X (I j).e).isSome&&(mkS (I j).m (I j).Y (I j).f).isSome)=true)∧∃ V,RPart w.heap.size wr gO 2 i I V))
    case atStart=>exact ⟨0,by omega,rfl,S1.out.2.2,fun j hj=>by omega,_,S1.out.2.1⟩
    case round =>
     obtain ⟨i,hgi,rfl,HR⟩:=hrel;have SS:=sd S1.out.1;clear S1
     by_cases hi:i<2
     · obtain ⟨bel,hbef,V,hP⟩:=HR.out
       have hin:=hH.out.below bel;obtain ⟨g0,g1,g2,g3,g4,g5⟩:=hin.row.facts i hi;obtain ⟨A1,A2⟩:=hin.one i hi;obtain ⟨b0,b1,b2,b3⟩:=hin.rng i hi;have hFD:=fun (u:World) (hb:Below wr.heap.size wr u)=>formD (r:=I i) (A1.below hb) (A2.below hb) ((hin.below hb).tab) b0 b1 b2 b3
       obtain ⟨n,v,X,e,m,u,Y,f,hI⟩:∃ n v X e m u Y f,I i=⟨n,v,X,e,m,u,Y,f⟩:=⟨_,_,_,_,_,_,_,_,rfl⟩;rw [hI] at g0 g1 g2 g3 g4 g5 A1 A2 hFD;simp only at g0 g1 g2 g3 g4 g5 A1 A2 hFD;obtain ⟨a1,l1,c1,xs,rfl,-,-⟩:=id A1;obtain ⟨a2,l2,c2,ys,rfl,-,-⟩:=id A2;obtain ⟨U,hU⟩:∃ U,U=wr.alloc (.cells #[.bool n,.slice a1 l1 c1,.int .i64 e,.bool m,.slice a2 l2 c2,.int .i64 f] 30):=⟨_,rfl⟩;have hbU:Below wr.heap.size wr U:=by rw [hU];exact below_alloc _ _
       have RQ:Rq U wr.heap.size n (.slice a1 l1 c1) e m (.slice a2 l2 c2) f:=by rw [hU];exact Rq.new _ _ _ _ _ _ _
       obtain ⟨x0,x1,x2,x3,x4,x5⟩:=RQ.facts;have HC:=hid (hFD U hbU);have lo1:=mkS_len n X e;have lo2:=mkS_len m Y f;obtain ⟨o,ho⟩:∃ o,mkS n X e=o:=⟨_,rfl⟩;obtain ⟨p,hp⟩:∃ p,mkS m Y f=p:=⟨_,rfl⟩;rw [ho,hp] at HC;rw [ho] at lo1;rw [hp] at lo2;have SI:=(sd (ai (bel.trans (hbU.mono bel.size)) (ai hbef (ai hI (ai ho (ai hp (ai hi (hP.below hbU))))))));clear hbU RQ A1 A2 hin HR hI ho hp bel hbef hP hFD b0 b1 b2 b3;have hli:(i:Int)<2:=by omega
       have hl0:(0:Int)≤(i:Int):=by omega
       go_upto_region 11 with fail
       rw [←hU];clear hU g0 g1 g2 g3 g4 g5
       go_wp2_with fail
       clear x0 x1 x2 x3 x4 x5;refine HC.out.mono ?_;rintro r u1 ⟨h1,h2,hb⟩;clear HC
       cases hok:(o.isSome&&p.isSome) with
       | false =>
         obtain rfl:=h2 hok;have S2:=sd (SI.out.1.trans (hb.mono SI.out.1.size));clear h1 h2 hb
         go_wp2_with fail
         go_ret2
         obtain ⟨_,hbef,hI,ho,hp,hi,_⟩:=SI.out
         have hE:errL I 2=2:=by
          unfold errL;rw [any_no (p:=fun i=>decide (sgn (I i).m (I i).Y<0)) SS.out,if_neg Bool.false_ne_true,if_pos (any_of hi (by rw [hI];simp only;rw [ho,hp,hok];rfl))]
         rw [hE];exact ⟨.inl ⟨by decide,rfl⟩,S2.out.alloc S2.out.size _⟩
       | true =>
         obtain ⟨v1,v2,rfl,hN,hM2,-⟩:=h1 hok;obtain ⟨p1,q1,rfl,_⟩:=hN.arg (by omega)
         obtain ⟨p2,q2,rfl,_⟩:=hM2.arg (by omega)
         obtain ⟨U2,hU2⟩:∃ U,U=u1.alloc (.cells #[.bool (dN o),.slice p1 (ws (dX o)).length q1,.int .i64 (dE o),.bool (dN p),.slice p2 (ws (dX p)).length q2,.int .i64 (dE p)] 30):=⟨_,rfl⟩;have hbU:Below u1.heap.size u1 U2:=by rw [hU2];exact below_alloc _ _
         have RQ:Rq U2 u1.heap.size (dN o) (.slice p1 (ws (dX o)).length q1) (dE o) (dN p) (.slice p2 (ws (dX p)).length q2) (dE p):=by rw [hU2];exact Rq.new _ _ _ _ _ _ _
         obtain ⟨x0,x1,x2,x3,x4,x5⟩:=RQ.facts;have hP2:=(SI.out.2.2.2.2.2.2.below hb).below hbU;have hb2:=(SI.out.1.trans (hb.mono SI.out.1.size)).trans (hbU.mono (Nat.le_trans SI.out.1.size hb.size));obtain ⟨⟨y0,r0⟩,f0⟩:=hP2.room (i*6) (by omega)
         obtain ⟨⟨y1,r1⟩,f1⟩:=hP2.room (i*6+1) (by omega)
         obtain ⟨⟨y2,r2⟩,f2⟩:=hP2.room (i*6+2) (by omega)
         obtain ⟨⟨y3,r3⟩,f3⟩:=hP2.room (i*6+3) (by omega)
         obtain ⟨⟨y4,r4⟩,f4⟩:=hP2.room (i*6+4) (by omega)
         obtain ⟨⟨y5,r5⟩,f5⟩:=hP2.room (i*6+5) (by omega)
         obtain ⟨W',hW'⟩:∃ W',W'=st6o U2 gO (i*6) (.bool (dN o)) (.slice p1 (ws (dX o)).length q1) (.int .i64 (dE o)) (.bool (dN p)) (.slice p2 (ws (dX p)).length q2) (.int .i64 (dE p)):=⟨_,rfl⟩
         have S3:Aside (Below w.heap.size w W'∧(∀ j,j<i+1→((mkS (I j).n (I j).X (I j).e).isSome&&(mkS (I j).m (I j).Y (I j).f).isSome)=true)∧∃ V,RPart w.heap.size W' gO 2 (i+1) I V):=by
          obtain ⟨_,hbef,hI,ho,hp,hi,_⟩:=SI.out;refine ⟨?_,?_,?_⟩
          · rw [hW'];exact But.below hb2 (st6o_but _ _ _ _ _ _ _ _ _) hb2.size hP2.own
          · intro j hj
            by_cases e:j=i
            · subst e;rw [hI];simp only;rw [ho,hp,hok]
            · exact hbef j (by omega)
          · have hsz:=SI.out.1.size
            have:=hP2.step hi (.slice p1 (ws (dX o)).length q1) (.slice p2 (ws (dX p)).length q2) (by rw [hI];simp only;rw [ho];exact (hN.below hbU).mono hsz) (by rw [hI];simp only;rw [hp];exact (hM2.below hbU).mono hsz)
            rw [hI] at this;simp only at this;rw [ho,hp,←hW'] at this;exact this
         have neq:u1.heap.size≠gO:=by have:=(SI.out.2.2.2.2.2.2.below hb).lt;omega
         clear h1 h2 hb hN hM2 hbU RQ hP2 hb2 SI
         go_upto_region 12 with fail
         rw [←hU2];clear hU2
         go_wp2_with fail
         unfold st6o at hW'
         go_roundg (2-(i+1))
         case measure=>omega
         case rel =>
          refine ⟨i+1,by omega,by go_num,?_⟩
          first | rw [←hW'] | (rw [hW'] at S3)
          exact S3
     · obtain rfl:i=2:=by omega
       obtain ⟨bel,hbef,V,hP⟩:=HR.out;have hO:=hP.out;have S2:=(sd (ai bel (ai hbef hO)));have hi0:wr=wr:=rfl;clear HR bel hbef hP hO hi hgi
       go_upto_region 17 with fail
       go_loopg [49] 2 (fun gk iv wr=>∃ i:Nat,gk+i=2∧iv=.int .i64 (i:Nat)∧Aside (Below w.heap.size w wr∧(∀ j,j<i→decide (dX (mkS (I j).m (I j).Y (I j).f)=0)=false)∧ROut w.heap.size wr gO 2 I V))
       case atStart=>exact ⟨0,by omega,rfl,S2.out.1,fun j hj=>by omega,S2.out.2.2⟩
       case round =>
        obtain ⟨i,hgi,rfl,HR⟩:=hrel;have SS2:=sd S2.out.2.1;clear S2
        by_cases hi:i<2
        · obtain ⟨bel,hbef,hO⟩:=HR.out
          obtain ⟨g0,g1,g2,g3,g4,g5⟩:=hO.row.facts i hi;obtain ⟨A1,A2⟩:=hO.nts i hi;have lo1:=mkS_len (I i).n (I i).X (I i).e;have lo2:=mkS_len (I i).m (I i).Y (I i).f;unfold frmI at g0 g1 g2 g3 g4 g5;simp only at g0 g1 g2 g3 g4 g5;obtain ⟨o,ho⟩:∃ o,mkS (I i).n (I i).X (I i).e=o:=⟨_,rfl⟩;obtain ⟨p,hp⟩:∃ p,mkS (I i).m (I i).Y (I i).f=p:=⟨_,rfl⟩;rw [ho] at g0 g2 A1 lo1;rw [hp] at g3 g5 A2 lo2;obtain ⟨v1,hv1⟩:∃ v1,(V i).1=v1:=⟨_,rfl⟩;obtain ⟨v2,hv2⟩:∃ v2,(V i).2=v2:=⟨_,rfl⟩;rw [hv1] at g1 A1;rw [hv2] at g4 A2;obtain ⟨p1,q1,rfl,_⟩:=A1.arg (by omega)
          obtain ⟨p2,q2,rfl,_⟩:=A2.arg (by omega)
          obtain ⟨U,hU⟩:∃ U,U=wr.alloc (.cells #[.bool (dN o),.slice p1 (ws (dX o)).length q1,.int .i64 (dE o),.bool (dN p),.slice p2 (ws (dX p)).length q2,.int .i64 (dE p)] 30):=⟨_,rfl⟩;have hbU:Below wr.heap.size wr U:=by rw [hU];exact below_alloc _ _
          have RQ:Rq U wr.heap.size (dN o) (.slice p1 (ws (dX o)).length q1) (dE o) (dN p) (.slice p2 (ws (dX p)).length q2) (dE p):=by rw [hU];exact Rq.new _ _ _ _ _ _ _
          obtain ⟨x0,x1,x2,x3,x4,x5⟩:=RQ.facts;have HC:=hid (sgnD (n:=dN p) (e:=dE p) ((A2.below hbU).av (by omega)))
          obtain ⟨s,hs⟩:∃ s,sgn (dN p) (dX p)=s:=⟨_,rfl⟩;rw [hs] at HC;have SI:=(sd (ai (bel.trans (hbU.mono bel.size)) (ai hbef (ai hp (ai hs (ai hi (hO.below hbU)))))));clear hbU RQ A1 A2 HR ho hp hv1 hv2 hs bel hbef hO;have hli:(i:Int)<2:=by omega
          have hl0:(0:Int)≤(i:Int):=by omega
          go_upto_region 19 with fail
          rw [←hU];clear hU g0 g1 g2 g3 g4 g5
          go_wp2_with fail
          clear x0 x1 x2 x3 x4 x5;refine HC.out.mono ?_;rintro r u1 ⟨rfl,hb⟩;have S2:=(sd (ai (SI.out.1.trans (hb.mono SI.out.1.size)) (SI.out.2.2.2.2.2.below hb)));clear hb HC
          by_cases hz:s=0
          · have hn:(s==0)=true:=by simp [hz]
            have hsz:=SI;clear SI
            go_wp2_with fail
            go_ret2
            obtain ⟨_,hbef,hp,hs,hi,_⟩:=hsz.out
            have hE:errL I 2=21:=by
             unfold errL;rw [any_no (p:=fun i=>decide (sgn (I i).m (I i).Y<0)) SS.out,if_neg Bool.false_ne_true,any_no (p:=fun i=>!((mkS (I i).n (I i).X (I i).e).isSome&&(mkS (I i).m (I i).Y (I i).f).isSome)) (fun j hj=>by rw [SS2.out j hj];rfl),if_neg Bool.false_ne_true,if_pos (any_of hi (by simp only [hp];exact decide_eq_true (sgn_zero3.1 (hs.trans hz))))]
            rw [hE];exact ⟨.inl ⟨by decide,rfl⟩,S2.out.1⟩
          · have hn:(s==0)=false:=by simp [hz]
            go_wp2_with fail
            go_roundg (2-(i+1))
            case measure=>omega
            case rel =>
             obtain ⟨_,hbef,hp,hs,hi,_⟩:=SI.out;refine ⟨i+1,by omega,by go_num,S2.out.1,fun j hj=>?_,S2.out.2⟩
             by_cases hji:j=i
             · subst hji;rw [hp];exact decide_eq_false (fun h0=>hz (hs.symm.trans (sgn_zero3.2 h0)))
             · exact hbef j (by omega)
        · obtain rfl:i=2:=by omega
          have S3:=HR;clear HR hi hgi
          go_wp2_with fail
          go_ret2
          have hE:errL I 2=0:=by
           unfold errL;rw [any_no (p:=fun i=>decide (sgn (I i).m (I i).Y<0)) SS.out,if_neg Bool.false_ne_true,any_no (p:=fun i=>!((mkS (I i).n (I i).X (I i).e).isSome&&(mkS (I i).m (I i).Y (I i).f).isSome)) (fun j hj=>by rw [SS2.out j hj];rfl),if_neg Bool.false_ne_true,any_no (p:=fun i=>decide (dX (mkS (I i).m (I i).Y (I i).f)=0)) S3.out.2.1,if_neg Bool.false_ne_true]
          exact ⟨.inr ⟨hE,gO,V,rfl,S3.out.2.2⟩,S3.out.1⟩
end
section
open Go.RowKit
theorem wrap64 (x:Int) (h0:-9223372036854775808≤x) (h1:x≤9223372036854775807):IntKind.i64.wrap x=x:=by rw [IntKind.wrap_i64];omega
theorem rmul_res (W:World) (g:Nat) (n:Bool) (v:Value) (e k:Int) (tmps:Array Value) (ht:tmps[4]?.getD undef=.pointer (some ⟨g,0,none⟩)) (hk:tmps[5]?.getD undef=.int .i64 k) (D:Dk W g n v e) :
 (results Tryz.f65 tmps).run Tryz.prog W=.ok (.tuple #[.agg #[.bool n,v,.int .i64 e],.int .i64 k]) W:=by
 obtain ⟨x0,x1,x2,xf0,xf1,xf2⟩:=D.facts;simp [results,Tryz.results65,ht,hk,go_sem,x0,x1,x2]
theorem rmul_ff {w:World}{a b:Option Addr}{l c k d:Nat}(n m:Bool) (e f:Int) (n1 m1:Bool) (X Y:Nat) (e1 f1:Int) (lX:(ws X).length≤8192) (lY:(ws Y).length≤8192)
 (HF1:Hid (∀ u,Below w.heap.size w u→Calls Tryz.prog 71 #[.agg #[.bool n,.slice a l c,.int .i64 e]] u fun r w'=>(∃ v,r=.returned (.tuple #[.agg #[.bool n1,v,.int .i64 e1],.bool false])∧Nt u.heap.size w' v X)∧Below u.heap.size u w'))
 (HF2:Hid (∀ u,Below w.heap.size w u→Calls Tryz.prog 71 #[.agg #[.bool m,.slice b k d,.int .i64 f]] u fun r w'=>(∃ v,r=.returned (.tuple #[.agg #[.bool m1,v,.int .i64 f1],.bool false])∧Nt u.heap.size w' v Y)∧Below u.heap.size u w')):Calls Tryz.prog 65 #[.agg #[.bool n,.slice a l c,.int .i64 e],.agg #[.bool m,.slice b k d,.int .i64 f]] w fun r w'=>r=.returned (.tuple #[.agg #[.bool false,.slice none 0 0,.int .i64 0],.int .i64 2])∧Below w.heap.size w w':=by
 obtain ⟨W1,hW1⟩:∃ W,W=((w.alloc (.cells #[.bool n,.slice a l c,.int .i64 e] 27)).alloc (.cells #[.bool m,.slice b k d,.int .i64 f] 27)).alloc (.cells #[.bool false,.slice none 0 0,.int .i64 0] 27):=⟨_,rfl⟩;obtain ⟨hB,hz1,DA,DB,DR⟩:=add_begin w n m (.slice a l c) (.slice b k d) e f W1 hW1;have H1:=hid (HF1.out W1 hB);have SB:=(sd (ai hB (ai hz1 (ai DA (ai DB DR)))));clear hB hz1 DA DB DR HF1;go_enter Tryz.func65,Tryz.ntmps65
 go_wp2_with fail
 rw [←hW1];clear hW1;refine H1.out.mono ?_;rintro r u1 ⟨⟨v,rfl,hN⟩,hb⟩;obtain ⟨a1,c1,rfl,_⟩:=hN.arg (by omega)
 obtain ⟨hB,hz1,DA,DB,DR⟩:=SB.out;obtain ⟨U1,hU1⟩:∃ U,U=u1.alloc (.cells #[.bool n1,.slice a1 (ws X).length c1,.int .i64 e1] 27):=⟨_,rfl⟩;have hA:Below u1.heap.size u1 U1:=by rw [hU1];exact below_alloc _ _
 have hs1:w.heap.size+3≤u1.heap.size:=by have:=hb.size;omega
 have hs2:u1.heap.size<U1.heap.size:=by rw [hU1];simp
 have FB:=(DB.below hb).below hA;have FR:=(DR.below hb).below hA;have DX:Dk U1 u1.heap.size n1 (.slice a1 (ws X).length c1) e1:=by rw [hU1];exact Dk.new _ _ _ _
 have NX:Nt (w.heap.size+3) U1 (.slice a1 (ws X).length c1) X:=(hN.mono (by omega)).below hA
 have BU:Below w.heap.size w U1:=(hB.trans (hb.mono (by omega))).trans (hA.mono (by omega))
 have H2:=hid (HF2.out U1 BU);obtain ⟨y0,y1,y2,yf0,yf1,yf2⟩:=FB.facts;have S1:=(sd (ai BU (ai FR (ai DX NX))));clear hN hb H1 hB hz1 hA DA DB DR FB FR DX NX BU SB HF2
 go_upto_region 2 with fail
 rw [←hU1];clear hU1
 go_wp2_with fail
 clear y0 y1 y2 yf0 yf1 yf2;refine H2.out.mono ?_;rintro r u2 ⟨⟨v,rfl,hM⟩,hb⟩;obtain ⟨a2,c2,rfl,_⟩:=hM.arg (by omega)
 obtain ⟨BU,FR,DX,NX⟩:=S1.out;obtain ⟨U2,hU2⟩:∃ U,U=u2.alloc (.cells #[.bool m1,.slice a2 (ws Y).length c2,.int .i64 f1] 27):=⟨_,rfl⟩;have hA:Below u2.heap.size u2 U2:=by rw [hU2];exact below_alloc _ _
 have hs3:U1.heap.size≤u2.heap.size:=hb.size;have hs4:u2.heap.size<U2.heap.size:=by rw [hU2];simp
 have GR:=(FR.below hb).below hA;have GX:=(DX.below hb).below hA;have GY:Dk U2 u2.heap.size m1 (.slice a2 (ws Y).length c2) f1:=by rw [hU2];exact Dk.new _ _ _ _
 have MX:=(NX.below hb).below hA;have MY:Nt (w.heap.size+3) U2 (.slice a2 (ws Y).length c2) Y:=(hM.mono (by omega)).below hA
 have BV:Below w.heap.size w U2:=(BU.trans (hb.mono (by omega))).trans (hA.mono (by omega))
 have S2:=(sd (ai BV (ai GR (ai GX (ai GY (ai MX MY))))));clear hM hb H2 hA FR DX NX BU GR GX GY MX MY BV S1
 go_upto_region 3 with fail
 rw [←hU2];clear hU2;obtain ⟨r0,r1,r2,rf0,rf1,rf2⟩:=S2.out.2.1.facts;obtain ⟨x0,x1,x2,xf0,xf1,xf2⟩:=S2.out.2.2.1.facts;obtain ⟨y0,y1,y2,yf0,yf1,yf2⟩:=S2.out.2.2.2.1.facts;go_wp2;refine bodyPost_ret (rmul_res _ (w.heap.size+1+1) false (.slice none 0 0) 0 2 _ rfl rfl (S2.out.2.1.set _ _ _)) rfl ⟨rfl,?_⟩;refine Fin.bel (m:=w.heap.size+3) (v:=.slice a1 (ws X).length c1) (X:=X) ?_;have FE:Fin w.heap.size (w.heap.size+3) w U2 (.slice a1 (ws X).length c1) X:=⟨S2.out.2.2.2.2.1,S2.out.1,by omega⟩
 repeat (with_reducible first | exact FE | refine Fin.drew ?_ | refine Fin.alloc ?_ _ | refine Fin.set ?_ _ _ _ (by omega) (by omega))
theorem rmul_ft {w:World}{a b:Option Addr}{l c k d:Nat}(n m:Bool) (e f:Int) (n1 m1:Bool) (X Y:Nat) (e1 f1:Int) (lX:(ws X).length≤8192) (lY:(ws Y).length≤8192)
 (HF1:Hid (∀ u,Below w.heap.size w u→Calls Tryz.prog 71 #[.agg #[.bool n,.slice a l c,.int .i64 e]] u fun r w'=>(∃ v,r=.returned (.tuple #[.agg #[.bool n1,v,.int .i64 e1],.bool false])∧Nt u.heap.size w' v X)∧Below u.heap.size u w'))
 (HF2:Hid (∀ u,Below w.heap.size w u→Calls Tryz.prog 71 #[.agg #[.bool m,.slice b k d,.int .i64 f]] u fun r w'=>(∃ v,r=.returned (.tuple #[.agg #[.bool m1,v,.int .i64 f1],.bool true])∧Nt u.heap.size w' v Y)∧Below u.heap.size u w')):Calls Tryz.prog 65 #[.agg #[.bool n,.slice a l c,.int .i64 e],.agg #[.bool m,.slice b k d,.int .i64 f]] w fun r w'=>r=.returned (.tuple #[.agg #[.bool false,.slice none 0 0,.int .i64 0],.int .i64 2])∧Below w.heap.size w w':=by
 obtain ⟨W1,hW1⟩:∃ W,W=((w.alloc (.cells #[.bool n,.slice a l c,.int .i64 e] 27)).alloc (.cells #[.bool m,.slice b k d,.int .i64 f] 27)).alloc (.cells #[.bool false,.slice none 0 0,.int .i64 0] 27):=⟨_,rfl⟩;obtain ⟨hB,hz1,DA,DB,DR⟩:=add_begin w n m (.slice a l c) (.slice b k d) e f W1 hW1;have H1:=hid (HF1.out W1 hB);have SB:=(sd (ai hB (ai hz1 (ai DA (ai DB DR)))));clear hB hz1 DA DB DR HF1;go_enter Tryz.func65,Tryz.ntmps65
 go_wp2_with fail
 rw [←hW1];clear hW1;refine H1.out.mono ?_;rintro r u1 ⟨⟨v,rfl,hN⟩,hb⟩;obtain ⟨a1,c1,rfl,_⟩:=hN.arg (by omega)
 obtain ⟨hB,hz1,DA,DB,DR⟩:=SB.out;obtain ⟨U1,hU1⟩:∃ U,U=u1.alloc (.cells #[.bool n1,.slice a1 (ws X).length c1,.int .i64 e1] 27):=⟨_,rfl⟩;have hA:Below u1.heap.size u1 U1:=by rw [hU1];exact below_alloc _ _
 have hs1:w.heap.size+3≤u1.heap.size:=by have:=hb.size;omega
 have hs2:u1.heap.size<U1.heap.size:=by rw [hU1];simp
 have FB:=(DB.below hb).below hA;have FR:=(DR.below hb).below hA;have DX:Dk U1 u1.heap.size n1 (.slice a1 (ws X).length c1) e1:=by rw [hU1];exact Dk.new _ _ _ _
 have NX:Nt (w.heap.size+3) U1 (.slice a1 (ws X).length c1) X:=(hN.mono (by omega)).below hA
 have BU:Below w.heap.size w U1:=(hB.trans (hb.mono (by omega))).trans (hA.mono (by omega))
 have H2:=hid (HF2.out U1 BU);obtain ⟨y0,y1,y2,yf0,yf1,yf2⟩:=FB.facts;have S1:=(sd (ai BU (ai FR (ai DX NX))));clear hN hb H1 hB hz1 hA DA DB DR FB FR DX NX BU SB HF2
 go_upto_region 2 with fail
 rw [←hU1];clear hU1
 go_wp2_with fail
 clear y0 y1 y2 yf0 yf1 yf2;refine H2.out.mono ?_;rintro r u2 ⟨⟨v,rfl,hM⟩,hb⟩;obtain ⟨a2,c2,rfl,_⟩:=hM.arg (by omega)
 obtain ⟨BU,FR,DX,NX⟩:=S1.out;obtain ⟨U2,hU2⟩:∃ U,U=u2.alloc (.cells #[.bool m1,.slice a2 (ws Y).length c2,.int .i64 f1] 27):=⟨_,rfl⟩;have hA:Below u2.heap.size u2 U2:=by rw [hU2];exact below_alloc _ _
 have hs3:U1.heap.size≤u2.heap.size:=hb.size;have hs4:u2.heap.size<U2.heap.size:=by rw [hU2];simp
 have GR:=(FR.below hb).below hA;have GX:=(DX.below hb).below hA;have GY:Dk U2 u2.heap.size m1 (.slice a2 (ws Y).length c2) f1:=by rw [hU2];exact Dk.new _ _ _ _
 have MX:=(NX.below hb).below hA;have MY:Nt (w.heap.size+3) U2 (.slice a2 (ws Y).length c2) Y:=(hM.mono (by omega)).below hA
 have BV:Below w.heap.size w U2:=(BU.trans (hb.mono (by omega))).trans (hA.mono (by omega))
 have S2:=(sd (ai BV (ai GR (ai GX (ai GY (ai MX MY))))));clear hM hb H2 hA FR DX NX BU GR GX GY MX MY BV S1
 go_upto_region 3 with fail
 rw [←hU2];clear hU2;obtain ⟨r0,r1,r2,rf0,rf1,rf2⟩:=S2.out.2.1.facts;obtain ⟨x0,x1,x2,xf0,xf1,xf2⟩:=S2.out.2.2.1.facts;obtain ⟨y0,y1,y2,yf0,yf1,yf2⟩:=S2.out.2.2.2.1.facts;go_wp2;refine bodyPost_ret (rmul_res _ (w.heap.size+1+1) false (.slice none 0 0) 0 2 _ rfl rfl (S2.out.2.1.set _ _ _)) rfl ⟨rfl,?_⟩;refine Fin.bel (m:=w.heap.size+3) (v:=.slice a1 (ws X).length c1) (X:=X) ?_;have FE:Fin w.heap.size (w.heap.size+3) w U2 (.slice a1 (ws X).length c1) X:=⟨S2.out.2.2.2.2.1,S2.out.1,by omega⟩
 repeat (with_reducible first | exact FE | refine Fin.drew ?_ | refine Fin.alloc ?_ _ | refine Fin.set ?_ _ _ _ (by omega) (by omega))
theorem rmul_tf {w:World}{a b:Option Addr}{l c k d:Nat}(n m:Bool) (e f:Int) (n1 m1:Bool) (X Y:Nat) (e1 f1:Int) (lX:(ws X).length≤8192) (lY:(ws Y).length≤8192)
 (HF1:Hid (∀ u,Below w.heap.size w u→Calls Tryz.prog 71 #[.agg #[.bool n,.slice a l c,.int .i64 e]] u fun r w'=>(∃ v,r=.returned (.tuple #[.agg #[.bool n1,v,.int .i64 e1],.bool true])∧Nt u.heap.size w' v X)∧Below u.heap.size u w'))
 (HF2:Hid (∀ u,Below w.heap.size w u→Calls Tryz.prog 71 #[.agg #[.bool m,.slice b k d,.int .i64 f]] u fun r w'=>(∃ v,r=.returned (.tuple #[.agg #[.bool m1,v,.int .i64 f1],.bool false])∧Nt u.heap.size w' v Y)∧Below u.heap.size u w')):Calls Tryz.prog 65 #[.agg #[.bool n,.slice a l c,.int .i64 e],.agg #[.bool m,.slice b k d,.int .i64 f]] w fun r w'=>r=.returned (.tuple #[.agg #[.bool false,.slice none 0 0,.int .i64 0],.int .i64 2])∧Below w.heap.size w w':=by
 obtain ⟨W1,hW1⟩:∃ W,W=((w.alloc (.cells #[.bool n,.slice a l c,.int .i64 e] 27)).alloc (.cells #[.bool m,.slice b k d,.int .i64 f] 27)).alloc (.cells #[.bool false,.slice none 0 0,.int .i64 0] 27):=⟨_,rfl⟩;obtain ⟨hB,hz1,DA,DB,DR⟩:=add_begin w n m (.slice a l c) (.slice b k d) e f W1 hW1;have H1:=hid (HF1.out W1 hB);have SB:=(sd (ai hB (ai hz1 (ai DA (ai DB DR)))));clear hB hz1 DA DB DR HF1;go_enter Tryz.func65,Tryz.ntmps65
 go_wp2_with fail
 rw [←hW1];clear hW1;refine H1.out.mono ?_;rintro r u1 ⟨⟨v,rfl,hN⟩,hb⟩;obtain ⟨a1,c1,rfl,_⟩:=hN.arg (by omega)
 obtain ⟨hB,hz1,DA,DB,DR⟩:=SB.out;obtain ⟨U1,hU1⟩:∃ U,U=u1.alloc (.cells #[.bool n1,.slice a1 (ws X).length c1,.int .i64 e1] 27):=⟨_,rfl⟩;have hA:Below u1.heap.size u1 U1:=by rw [hU1];exact below_alloc _ _
 have hs1:w.heap.size+3≤u1.heap.size:=by have:=hb.size;omega
 have hs2:u1.heap.size<U1.heap.size:=by rw [hU1];simp
 have FB:=(DB.below hb).below hA;have FR:=(DR.below hb).below hA;have DX:Dk U1 u1.heap.size n1 (.slice a1 (ws X).length c1) e1:=by rw [hU1];exact Dk.new _ _ _ _
 have NX:Nt (w.heap.size+3) U1 (.slice a1 (ws X).length c1) X:=(hN.mono (by omega)).below hA
 have BU:Below w.heap.size w U1:=(hB.trans (hb.mono (by omega))).trans (hA.mono (by omega))
 have H2:=hid (HF2.out U1 BU);obtain ⟨y0,y1,y2,yf0,yf1,yf2⟩:=FB.facts;have S1:=(sd (ai BU (ai FR (ai DX NX))));clear hN hb H1 hB hz1 hA DA DB DR FB FR DX NX BU SB HF2
 go_upto_region 2 with fail
 rw [←hU1];clear hU1
 go_wp2_with fail
 clear y0 y1 y2 yf0 yf1 yf2;refine H2.out.mono ?_;rintro r u2 ⟨⟨v,rfl,hM⟩,hb⟩;obtain ⟨a2,c2,rfl,_⟩:=hM.arg (by omega)
 obtain ⟨BU,FR,DX,NX⟩:=S1.out;obtain ⟨U2,hU2⟩:∃ U,U=u2.alloc (.cells #[.bool m1,.slice a2 (ws Y).length c2,.int .i64 f1] 27):=⟨_,rfl⟩;have hA:Below u2.heap.size u2 U2:=by rw [hU2];exact below_alloc _ _
 have hs3:U1.heap.size≤u2.heap.size:=hb.size;have hs4:u2.heap.size<U2.heap.size:=by rw [hU2];simp
 have GR:=(FR.below hb).below hA;have GX:=(DX.below hb).below hA;have GY:Dk U2 u2.heap.size m1 (.slice a2 (ws Y).length c2) f1:=by rw [hU2];exact Dk.new _ _ _ _
 have MX:=(NX.below hb).below hA;have MY:Nt (w.heap.size+3) U2 (.slice a2 (ws Y).length c2) Y:=(hM.mono (by omega)).below hA
 have BV:Below w.heap.size w U2:=(BU.trans (hb.mono (by omega))).trans (hA.mono (by omega))
 have S2:=(sd (ai BV (ai GR (ai GX (ai GY (ai MX MY))))));clear hM hb H2 hA FR DX NX BU GR GX GY MX MY BV S1
 go_upto_region 3 with fail
 rw [←hU2];clear hU2;obtain ⟨r0,r1,r2,rf0,rf1,rf2⟩:=S2.out.2.1.facts;obtain ⟨x0,x1,x2,xf0,xf1,xf2⟩:=S2.out.2.2.1.facts;obtain ⟨y0,y1,y2,yf0,yf1,yf2⟩:=S2.out.2.2.2.1.facts;go_wp2;refine bodyPost_ret (rmul_res _ (w.heap.size+1+1) false (.slice none 0 0) 0 2 _ rfl rfl (S2.out.2.1.set _ _ _)) rfl ⟨rfl,?_⟩;refine Fin.bel (m:=w.heap.size+3) (v:=.slice a1 (ws X).length c1) (X:=X) ?_;have FE:Fin w.heap.size (w.heap.size+3) w U2 (.slice a1 (ws X).length c1) X:=⟨S2.out.2.2.2.2.1,S2.out.1,by omega⟩
 repeat (with_reducible first | exact FE | refine Fin.drew ?_ | refine Fin.alloc ?_ _ | refine Fin.set ?_ _ _ _ (by omega) (by omega))
theorem rmul_ok {w:World}{a b:Option Addr}{l c k d:Nat}(n m:Bool) (e f:Int) (n1 m1:Bool) (X Y:Nat) (e1 f1:Int) (lX:(ws X).length≤8192) (lY:(ws Y).length≤8192) (be0:-1048576≤e1) (be1:e1≤1048576) (bf0:-1048576≤f1) (bf1:f1≤1048576) (L:Nat) (lL:(ws L).length≤1000000) (dn:Bool) (V:Nat) (de er:Int) (lV:(ws V).length≤8192)
 (HF1:Hid (∀ u,Below w.heap.size w u→Calls Tryz.prog 71 #[.agg #[.bool n,.slice a l c,.int .i64 e]] u fun r w'=>(∃ v,r=.returned (.tuple #[.agg #[.bool n1,v,.int .i64 e1],.bool true])∧Nt u.heap.size w' v X)∧Below u.heap.size u w'))
 (HF2:Hid (∀ u,Below w.heap.size w u→Calls Tryz.prog 71 #[.agg #[.bool m,.slice b k d,.int .i64 f]] u fun r w'=>(∃ v,r=.returned (.tuple #[.agg #[.bool m1,v,.int .i64 f1],.bool true])∧Nt u.heap.size w' v Y)∧Below u.heap.size u w'))
 (HT:Hid (∀ (u:World) (p q:Option Addr) (s t:Nat),Below w.heap.size w u→Arg u p (ws X).length s (ws X)→Arg u q (ws Y).length t (ws Y)→Calls Tryz.prog 68 #[.slice p (ws X).length s,.slice q (ws Y).length t] u fun r w'=>∃ v,r=.returned v∧Nt u.heap.size w' v L∧Below u.heap.size u w'))
 (HL:Hid (∀ (u:World) (p:Option Addr) (s:Nat),Below w.heap.size w u→Arg u p (ws L).length s (ws L)→Calls Tryz.prog 101 #[.bool (!(n1==m1)),.slice p (ws L).length s,.int .i64 (IntKind.i64.wrap (e1+f1))] u fun r w'=>(∃ v,r=.returned (.tuple #[.agg #[.bool dn,v,.int .i64 de],.int .i64 er])∧Nt u.heap.size w' v V)∧Below u.heap.size u w')):Calls Tryz.prog 65 #[.agg #[.bool n,.slice a l c,.int .i64 e],.agg #[.bool m,.slice b k d,.int .i64 f]] w fun r w'=>(∃ v,r=.returned (.tuple #[.agg #[.bool dn,v,.int .i64 de],.int .i64 er])∧Nt w.heap.size w' v V)∧Below w.heap.size w w':=by
 obtain ⟨W1,hW1⟩:∃ W,W=((w.alloc (.cells #[.bool n,.slice a l c,.int .i64 e] 27)).alloc (.cells #[.bool m,.slice b k d,.int .i64 f] 27)).alloc (.cells #[.bool false,.slice none 0 0,.int .i64 0] 27):=⟨_,rfl⟩;obtain ⟨hB,hz1,DA,DB,DR⟩:=add_begin w n m (.slice a l c) (.slice b k d) e f W1 hW1;have H1:=hid (HF1.out W1 hB);have SB:=(sd (ai hB (ai hz1 (ai DA (ai DB DR)))));clear hB hz1 DA DB DR HF1;go_enter Tryz.func65,Tryz.ntmps65
 go_wp2_with fail
 rw [←hW1];clear hW1;refine H1.out.mono ?_;rintro r u1 ⟨⟨v,rfl,hN⟩,hb⟩;obtain ⟨a1,c1,rfl,_⟩:=hN.arg (by omega)
 obtain ⟨hB,hz1,DA,DB,DR⟩:=SB.out;obtain ⟨U1,hU1⟩:∃ U,U=u1.alloc (.cells #[.bool n1,.slice a1 (ws X).length c1,.int .i64 e1] 27):=⟨_,rfl⟩;have hA:Below u1.heap.size u1 U1:=by rw [hU1];exact below_alloc _ _
 have hs1:w.heap.size+3≤u1.heap.size:=by have:=hb.size;omega
 have hs2:u1.heap.size<U1.heap.size:=by rw [hU1];simp
 have FB:=(DB.below hb).below hA;have FR:=(DR.below hb).below hA;have DX:Dk U1 u1.heap.size n1 (.slice a1 (ws X).length c1) e1:=by rw [hU1];exact Dk.new _ _ _ _
 have NX:Nt (w.heap.size+3) U1 (.slice a1 (ws X).length c1) X:=(hN.mono (by omega)).below hA
 have BU:Below w.heap.size w U1:=(hB.trans (hb.mono (by omega))).trans (hA.mono (by omega))
 have H2:=hid (HF2.out U1 BU);obtain ⟨y0,y1,y2,yf0,yf1,yf2⟩:=FB.facts;have S1:=(sd (ai BU (ai FR (ai DX NX))));clear hN hb H1 hB hz1 hA DA DB DR FB FR DX NX BU SB HF2
 go_upto_region 2 with fail
 rw [←hU1];clear hU1
 go_wp2_with fail
 clear y0 y1 y2 yf0 yf1 yf2;refine H2.out.mono ?_;rintro r u2 ⟨⟨v,rfl,hM⟩,hb⟩;obtain ⟨a2,c2,rfl,_⟩:=hM.arg (by omega)
 obtain ⟨BU,FR,DX,NX⟩:=S1.out;obtain ⟨U2,hU2⟩:∃ U,U=u2.alloc (.cells #[.bool m1,.slice a2 (ws Y).length c2,.int .i64 f1] 27):=⟨_,rfl⟩;have hA:Below u2.heap.size u2 U2:=by rw [hU2];exact below_alloc _ _
 have hs3:U1.heap.size≤u2.heap.size:=hb.size;have hs4:u2.heap.size<U2.heap.size:=by rw [hU2];simp
 have GR:=(FR.below hb).below hA;have GX:=(DX.below hb).below hA;have GY:Dk U2 u2.heap.size m1 (.slice a2 (ws Y).length c2) f1:=by rw [hU2];exact Dk.new _ _ _ _
 have MX:=(NX.below hb).below hA;have MY:Nt (w.heap.size+3) U2 (.slice a2 (ws Y).length c2) Y:=(hM.mono (by omega)).below hA
 have BV:Below w.heap.size w U2:=(BU.trans (hb.mono (by omega))).trans (hA.mono (by omega))
 have S2:=(sd (ai BV (ai GR (ai GX (ai GY (ai MX MY))))));clear hM hb H2 hA FR DX NX BU GR GX GY MX MY BV S1
 go_upto_region 5 with fail
 rw [←hU2];clear hU2;obtain ⟨r0,r1,r2,rf0,rf1,rf2⟩:=S2.out.2.1.facts;obtain ⟨x0,x1,x2,xf0,xf1,xf2⟩:=S2.out.2.2.1.facts;obtain ⟨y0,y1,y2,yf0,yf1,yf2⟩:=S2.out.2.2.2.1.facts;have ne1:u1.heap.size≠w.heap.size+1+1:=by omega
 have ne2:u2.heap.size≠w.heap.size+1+1:=by omega
 have ne3:w.heap.size+1+1≠u1.heap.size:=by omega
 have ne4:w.heap.size+1+1≠u2.heap.size:=by omega
 have T1:=hid (HT.out U2 a1 a2 c1 c2 S2.out.1 (S2.out.2.2.2.2.1.arg' (by omega)).2 (S2.out.2.2.2.2.2.arg' (by omega)).2)
 have T2:=hid (HT.out U2.drew a1 a2 c1 c2 (Below.drew S2.out.1) (Arg.drew' (S2.out.2.2.2.2.1.arg' (by omega)).2) (Arg.drew' (S2.out.2.2.2.2.2.arg' (by omega)).2))
 go_region_held3 (fun w'=>w'.cell? ⟨u1.heap.size,0,none⟩=some (.bool n1)∧w'.cell? ⟨u1.heap.size,1,none⟩=some (.slice a1 (ws X).length c1)∧w'.cell? ⟨u1.heap.size,2,none⟩=some (.int .i64 e1)∧w'.cell? ⟨u2.heap.size,0,none⟩=some (.bool m1)∧w'.cell? ⟨u2.heap.size,1,none⟩=some (.slice a2 (ws Y).length c2)∧w'.cell? ⟨u2.heap.size,2,none⟩=some (.int .i64 f1)) (go_keep) (first
  | (go_at_call 68
     first | with_reducible refine T1.out.mono ?_ | with_reducible refine T2.out.mono ?_
     rintro r u3 ⟨v,rfl,hN,hb⟩;obtain ⟨a3,c3,rfl,_⟩:=hN.arg (by omega)
     have hb3:Below U2.heap.size U2 u3:=by first | exact hb | exact ((Below.refl _ U2).drew).trans (hb.mono (Nat.le_refl _))
     have HL3:=hid (HL.out u3 a3 c3 (S2.out.1.trans (hb3.mono (by omega))) (hN.arg' (by omega)).2)
     have KR:=S2.out.2.1.below hb3;have KX:=S2.out.2.2.1.below hb3;have KY:=S2.out.2.2.2.1.below hb3;obtain ⟨p0,p1,p2,pf0,pf1,pf2⟩:=KR.facts;obtain ⟨q0,q1,q2,qf0,qf1,qf2⟩:=KX.facts;obtain ⟨s0,s1,s2,sf0,sf1,sf2⟩:=KY.facts;have hs9:U2.heap.size≤u3.heap.size:=hb3.size;have S9:=(sd (ai (S2.out.1.trans (hb3.mono (by omega))) (ai KR (ai KX KY))))
     clear hN hb hb3 KR KX KY)
  | (go_at_call 101
     with_reducible refine HL3.out.mono ?_
     rintro r u4 ⟨⟨v,rfl,hN⟩,hb⟩;obtain ⟨a4,c4,rfl,_⟩:=hN.arg (by omega)
     have LR:=S9.out.2.1.below hb;obtain ⟨t0,t1,t2,tf0,tf1,tf2⟩:=LR.facts;obtain ⟨i0,i1,i2,if0,if1,if2⟩:=(S9.out.2.2.1.below hb).facts;obtain ⟨j0,j1,j2,jf0,jf1,jf2⟩:=(S9.out.2.2.2.below hb).facts;have FV:=sd (show Fin w.heap.size (w.heap.size+3) w u4 (.slice a4 (ws V).length c4) V from ⟨hN.mono (by omega),S9.out.1.trans (hb.mono (by omega)),by have:=hb.size;omega⟩)
     have S10:=sd LR;clear hN hb LR))
 all_goals (
  go_wp2;refine bodyPost_ret (rmul_res _ (w.heap.size+1+1) dn (.slice a4 (ws V).length c4) de er _ rfl rfl (S10.out.set _ _ _)) rfl ?_;refine Fin.dans (m:=w.heap.size+3) ?_ (by omega)
  repeat (with_reducible first | exact FV.out | refine Fin.drew ?_ | refine Fin.alloc ?_ _ | refine Fin.set ?_ _ _ _ (by omega) (by omega)))
theorem rMul_any3 {w:World}{a b:Option Addr}{l c k d:Nat}{xs ys:List Nat}(h1:Arg w a l c xs) (h2:Arg w b k d ys) (hl:l≤2000000) (hk:k≤2000000) (n m:Bool) (e f:Int) (he0:-9223372036854775808≤e) (he1:e≤9223372036854775807) (hf0:-9223372036854775808≤f) (hf1:f≤9223372036854775807) :
 Calls Tryz.prog 65 #[.agg #[.bool n,.slice a l c,.int .i64 e],.agg #[.bool m,.slice b k d,.int .i64 f]] w fun r w'=>DAns w.heap.size w' r (mulD (mkS n (val xs) e) (mkS m (val ys) f))∧Below w.heap.size w w':=by
 have zero:∀ {r:Ending} {w':World},(r=.returned (.tuple #[.agg #[.bool false,.slice none 0 0,.int .i64 0],.int .i64 2])∧Below w.heap.size w w')→DAns w.heap.size w' r none∧Below w.heap.size w w':=fun ⟨h1,h2⟩=>⟨⟨_,h1,Nt.nil _ _⟩,h2⟩
 have M1:=hid fun u (hu:Below w.heap.size w u)=>rMade_any (h1.below hu) hl n e he0 he1
 have M2:=hid fun u (hu:Below w.heap.size w u)=>rMade_any (h2.below hu) hk m f hf0 hf1
 have z0:(ws 0).length≤8192:=by rw [ws_zero];exact Nat.zero_le _
 cases hx:mkS n (val xs) e with
 | none =>
   cases hy:mkS m (val ys) f with
   | none =>
     rw [hx] at M1;rw [hy] at M2;exact (rmul_ff n m e f false false 0 0 0 0 z0 z0 M1 M2).mono fun r w' h=>zero h
   | some y =>
     obtain ⟨m1,Y,f1⟩:=y;rw [hx] at M1;rw [hy] at M2;exact (rmul_ft n m e f false m1 0 Y 0 f1 z0 (frm_len (mkS_frm hy)) M1 M2).mono fun r w' h=>zero h
 | some x =>
   obtain ⟨n1,X,e1⟩:=x
   cases hy:mkS m (val ys) f with
   | none =>
     rw [hx] at M1;rw [hy] at M2;exact (rmul_tf n m e f n1 false X 0 e1 0 (frm_len (mkS_frm hx)) z0 M1 M2).mono fun r w' h=>zero h
   | some y =>
     obtain ⟨m1,Y,f1⟩:=y;rw [hx] at M1;rw [hy] at M2;have FX:=mkS_frm hx;have FY:=mkS_frm hy;have lX:=frm_len FX;have lY:=frm_len FY;have:=FX.up;have:=FX.down;have:=FY.up;have:=FY.down
     show Calls _ _ _ _ fun r w'=>DAns w.heap.size w' r (mkS (n1 != m1) (X*Y) (e1+f1))∧_
     have lL:(ws (X*Y)).length≤16384:=by
      have h1:=ws_len_lt X;have h2:=ws_len_lt Y
      have h3:X*Y<pw ((ws X).length+(ws Y).length):=by
       rw [pw_add];exact Nat.mul_lt_mul'' h1 h2
      have:=(ws_len_le _ _).2 h3;omega
     obtain ⟨L,hLe⟩:∃ L,X*Y=L:=⟨_,rfl⟩;rw [hLe] at lL ⊢
     exact rmul_ok n m e f n1 m1 X Y e1 f1 lX lY (by omega) (by omega) (by omega) (by omega) L (by omega) _ _ _ _ (mkS_len (n1 != m1) L (e1+f1)) M1 M2
      (hid fun u p q s t hu hA hB=>rTimes_arg hA hB (by omega) (by rw [val_ws,val_ws];exact hLe))
      (hid fun u p s hu hA=>by have:=rtold_any hA (by omega) (n1 != m1) (e1+f1) (by omega) (by omega);rw [val_ws] at this;rw [wrap64 (e1+f1) (by omega) (by omega)];exact this)
end
end Go.Proofs.YtdimlelcgapobaaGreatDoor
