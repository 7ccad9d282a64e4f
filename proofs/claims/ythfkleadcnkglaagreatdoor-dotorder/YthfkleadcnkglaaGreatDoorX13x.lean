import Derived.Test.YthfkleadcnkglaaGreatDoorZ10x
import Derived.Test.YthfkleadcnkglaaGreatDoorD4x
import Derived.Test.YthfkleadcnkglaaGreatDoorD21x
import Derived.Test.YthfkleadcnkglaaGreatDoorD16x
import Derived.Test.YthfkleadcnkglaaGreatDoorD30x
import Derived.Test.YthfkleadcnkglaaGreatDoorM1x
import Derived.Test.YthfkleadcnkglaaGreatDoorS6x
import Derived.Test.YthfkleadcnkglaaGreatDoorW13x
import Derived.BigQuiet
import Derived.Deep.LoopGhost
import Derived.Test.YthfkleadcnkglaaGreatDoorH27x
import Derived.Test.YthfkleadcnkglaaGreatDoorP1x
import Derived.OwnWalk
import Derived.ArgAppend
import Derived.Maps.AppendAt
import Derived.WalkMore
import Derived.ProofKit
import Derived.OpenShut
import Derived.ChangeOld
import Derived.ChangeArms
import Derived.SizedLaws
import Derived.Laws.Cover2
set_option linter.unusedVariables false
set_option linter.unusedSimpArgs false
set_option maxHeartbeats 16000000
set_option maxRecDepth 20000
namespace Go.Proofs.YthfkleadcnkglaaGreatDoor
namespace J
end J
section
open Go.RowKit Go.Shelf J
theorem onward12_odd (w:World) (a b:Option Addr) (la ca lb cb:Nat) (n m:Bool) (e f:Int) (c:Nat)
 (HO:Hid (∀ u:World,Below w.heap.size w u→Calls Tryz.prog 57 #[.float .f64 c] u fun r w'=>(∃ a c,r=.returned (.tuple #[.agg #[.bool false,.slice a 0 c,.int .i64 0],.int .i64 30]))∧Below u.heap.size u w')) :
 Calls Tryz.prog 59 #[.agg #[.bool n,.slice a la ca,.int .i64 e],.agg #[.bool m,.slice b lb cb,.int .i64 f],.float .f64 c] w fun r w'=>r=.returned (.tuple #[.agg #[.bool false,.slice none 0 0,.int .i64 0],.int .i64 30])∧Below w.heap.size w w':=by
 obtain ⟨W,hW⟩:∃ W,W=((w.alloc (Obj.cells #[.bool n,.slice a la ca,.int .i64 e] 47)).alloc (Obj.cells #[.bool m,.slice b lb cb,.int .i64 f] 47)).alloc (Obj.cells #[.bool false,.slice none 0 0,.int .i64 0] 47):=⟨_,rfl⟩
 have H0:Aside (Dk W (w.heap.size+2) false (.slice none 0 0) 0∧Below w.heap.size w W):=by
  subst hW;have z2:=Dk.new ((w.alloc (Obj.cells #[.bool n,.slice a la ca,.int .i64 e] 47)).alloc (Obj.cells #[.bool m,.slice b lb cb,.int .i64 f] 47)) false (.slice none 0 0) 0;rw [World.size_alloc,World.size_alloc] at z2;exact ⟨z2,((below_alloc _ _).trans ((below_alloc _ _).mono (by simp))).trans ((below_alloc _ _).mono (by simp;omega))⟩
 have HW:=qsd hW;clear hW;go_enter Tryz.func59,Tryz.ntmps59
 go_upto_region 1 with fail
 rw [←HW.out];clear HW
 go_wp2_with fail
 refine (HO.out _ H0.out.2).mono ?_;rintro r u ⟨⟨a1,c1,rfl⟩,hb⟩;have D:=(H0.out.1.below hb).below (below_alloc u (Obj.cells #[.bool false,.slice a1 0 c1,.int .i64 0] 47));have B2:=H0.out.2.trans (hb.mono H0.out.2.size)
 have HF:Aside (Dk (st3 (u.alloc (Obj.cells #[.bool false,.slice a1 0 c1,.int .i64 0] 47)) (w.heap.size+2) (.bool false) (.slice none 0 0) (.int .i64 0)) (w.heap.size+2) false (.slice none 0 0) 0∧Below w.heap.size w (st3 (u.alloc (Obj.cells #[.bool false,.slice a1 0 c1,.int .i64 0] 47)) (w.heap.size+2) (.bool false) (.slice none 0 0) (.int .i64 0))) :=
  ⟨D.set _ _ _,st3_bel12 (B2.trans ((below_alloc _ _).mono B2.size)) (Nat.le_trans B2.size (by simp)) (by omega) _ _ _⟩
 obtain ⟨z0,z1,z2,zf0,zf1,zf2⟩:=D.facts;unfold st3 at HF;clear hb HO H0 D B2;go_wp2;obtain ⟨f0,f1,f2,_,_,_⟩:=HF.out.1.facts;refine bodyPost_ret (v:=.tuple #[.agg #[.bool false,.slice none 0 0,.int .i64 0],.int .i64 30]) (by simp [results,Tryz.results59,go_sem,f0,f1,f2]) rfl ⟨rfl,HF.out.2⟩
theorem KeepsOthers.of_below12 {W W':World}(h:Below W.heap.size W W'):KeepsOthers W W':=⟨h.size,fun k o hk _=>(h.block k (Array.getElem?_eq_some_iff.1 hk).1).trans hk⟩
theorem Lo.alloc12 {w:World}{g:Nat}{o:Option (Bool×Nat×Int)}(h:Lo w g o) (b:Obj):Lo (w.alloc b) g o:=h.below (below_alloc _ _)
structure Pl (w W:World) (r v8 v9 vv:Nat) (o ox:Option (Bool×Nat×Int)) (e:Int):Prop where
 val:Lo W vv o
 at8:Lo W v8 ox
 err:Boxed W v9 28 (.int .i64 e)
 r1:Boxed W r 27 (.float .f64 0)
 r2:Boxed W (r+1) 28 (.int .i64 0)
 bel:Below w.heap.size w W
theorem roundP12 {U:World}{a:Option Addr}{c:Nat}{o:Option (Bool×Nat×Int)}(F:Fm o) (N:Nt 0 U (.slice a (ws (dX o)).length c) (dX o)) (hT:Tab U) (mode:Int) (z:Nat×Int) (hz:rndS o mode=z) :
 Calls Tryz.prog 60 #[.agg #[.bool (dN o),.slice a (ws (dX o)).length c,.int .i64 (dE o)],.int .i64 mode] U fun r w'=>r=.returned (.tuple #[.float .f64 z.1,.int .i64 z.2])∧Below U.heap.size U w':=by
 have:=Round_any (F.a12 N) hT (dN o) (dE o) mode F.rng.1 F.rng.2;rw [val_ws,F.re,hz] at this;exact this
theorem up12_sub {α:Type}(f:Nat→α) {k n:Nat}(h:k≤n) {y:α}(hy:y ∈ up12 f k):y ∈ up12 f n:=by
 unfold up12 at hy ⊢;obtain ⟨i,hi,e⟩:=List.mem_map.1 hy;exact List.mem_map.2 ⟨i,List.mem_range.2 (Nat.lt_of_lt_of_le (List.mem_range.1 hi) h),e⟩
theorem Bx.set12 {W:World}{g g' t:Nat}{v:Value}(h:Boxed W g t v) (i:Nat) (u:Value) (hne:g≠g'):Boxed (W.setCell ⟨g',i,none⟩ u) g t v:=(Below.heap_setCell W ⟨g',i,none⟩ u g hne).trans h
theorem Bx.st3 {W:World}{g g' t:Nat}{v:Value}(h:Boxed W g t v) (x y z:Value) (hne:g≠g'):Boxed (st3 W g' x y z) g t v:=Bx.set12 (Bx.set12 (Bx.set12 h 0 x hne) 1 y hne) 2 z hne
theorem Lo.set12 {w:World}{g g':Nat}{o:Option (Bool×Nat×Int)}{t:Nat}{v:Value}(h:Lo w g o) (hb:Boxed w g' t v) (hg:g≠g') (ht:t≠133) (u:Value):Lo (w.setCell ⟨g',0,none⟩ u) g o:=by
 obtain ⟨a,c,h1,h2⟩:=h;refine ⟨a,c,(Below.heap_setCell w ⟨g',0,none⟩ u g hg).trans h1,?_⟩;refine h2.off ((But.refl g' w).set 0 u) ?_
 rcases h2.2 with ⟨e,_⟩|⟨k,cap,cur,e,_,hk,_⟩
 · rw [e];simp [Value.ownBlock]
 · rw [e]
   intro e';obtain rfl:k=g':=by simpa [Value.ownBlock] using e'
   rw [show w.heap[k]?=_ from hb] at hk
   simp at hk;exact ht hk.2
attribute [local go_sem] Oper.semAt_some st_float
set_option maxRecDepth 100000 in
theorem poly12_main (cs:List Nat) (a:Option Addr) (n c x:Nat) (mode:Int) (w:World) (hn:n=cs.length) (hF:Fs w.heap.size w a cs) (hW:W64 cs) (hx:x<18446744073709551616) (fx:finW x) (hT:Tab w) (hm:md mode=true) (hl:n≤33) :
 Calls Tryz.prog 19 #[.slice a n c,.float .f64 x,.int .i64 mode] w fun r w' =>
  ((∀ y ∈ up12 (dn12 cs hW n) n,finW y.2.1)∧r=.returned (.tuple #[.float .f64 (rndS (pH x (up12 (dn12 cs hW n) n)) mode).1,.int .i64 (rndS (pH x (up12 (dn12 cs hW n) n)) mode).2])∨(∃ y ∈ up12 (dn12 cs hW n) n,¬ finW y.2.1)∧r=.returned (.tuple #[.float .f64 0,.int .i64 30]))∧Below w.heap.size w w':=by
 have HI:=hid (fun u:World=>isMode12 mode u)
 rw [hm] at HI;have HO:=hid (fun (u:World) (h:Tab u)=>of12 x hx fx u h)
 have hd:decide ((33:Int)<(n:Int))=false:=by simp;omega
 obtain ⟨ox,hox⟩:∃ o,o=oW x:=⟨_,rfl⟩;rw [←hox] at HO;have Fx:Fm ox:=by rw [hox];exact (oW_iv x hx fx).fm
 have HX:=qsd (ai hn (ai hF (ai hx (ai fx (ai hT (ai hox hl))))));clear hn hF hT hox hm fx hx hl;refine (callsIn_wide (n:=10)).1 ?_;refine callsIn_of_wp_marks Tryz.func19 rfl trivial ?_ rfl;simp only [Tryz.ntmps19,List.size_toArray,List.length_cons,List.length_nil,Nat.reduceAdd,Nat.reduceSub,Array.replicate_succ,Array.replicate_zero,List.push_toArray,List.append_toArray,List.nil_append,List.cons_append]
 gi_wp2_with fail
 refine ⟨trivial,(callsIn_wide.2 (HI.out _)).mono ?_⟩;rintro e w' ⟨rfl,rfl⟩;obtain ⟨W,hW'⟩:∃ W,W=(w.alloc (Obj.cells #[.float .f64 0] 27)).alloc (Obj.cells #[.int .i64 0] 28):=⟨_,rfl⟩
 have H0:Aside (Boxed W w.heap.size 27 (.float .f64 0)∧Boxed W (w.heap.size+1) 28 (.int .i64 0)∧Below w.heap.size w W∧W.heap.size=w.heap.size+2):=by
  subst hW';have z:=Boxed.new (w.alloc (Obj.cells #[.float .f64 0] 27)) 28 (.int .i64 0);rw [World.size_alloc] at z;exact ⟨(Boxed.new w _ _).alloc _,z,(below_alloc _ _).trans ((below_alloc _ _).mono (by simp)),by simp⟩
 clear HI;rw [←hW'];clear hW'
 gi_wp2_with fail
 refine ⟨trivial,(callsIn_wide.2 (HO.out W (HX.out.2.2.2.2.1.belows H0.out.2.2.1))).mono ?_⟩;rintro e u ⟨⟨v,rfl,hN⟩,hb⟩;obtain ⟨a1,c1,rfl,hN0⟩:=Lo.shape Fx hN;have HN:=qsd (ai hN0 hb);clear hN hN0 hb HO
 gi_wp2_with fail
 refine ⟨trivial,(back_in Fence.wide _ trivial rfl _ _ _ _).mono ?_⟩;rintro e w' ⟨rfl,rfl⟩
 gi_wp2_with fail
 obtain ⟨L,hL⟩:∃ L,L=(((u.alloc (Obj.cells #[.bool (dN ox),.slice a1 (ws (dX ox)).length c1,.int .i64 (dE ox)] 47)).alloc (Obj.cells #[.int .i64 0] 28)).alloc (Obj.cells #[.bool false,.slice none 0 0,.int .i64 0] 47)).alloc (Obj.cells #[.slice a n c] 22):=⟨_,rfl⟩;have hLs:L.heap.size=u.heap.size+4:=by rw [hL];simp
 have hus:w.heap.size+2≤u.heap.size:=by have:=HN.out.2.size;have:=H0.out.2.2.2;omega
 have HL:Aside (Pl w L w.heap.size u.heap.size (u.heap.size+1) (u.heap.size+1+1) o00 ox 0∧Boxed L (u.heap.size+1+1+1) 22 (.slice a n c)):=by
  rw [hL];have q1:=Lo.new (o:=ox) HN.out.1;have q2:=Boxed.new (u.alloc (Obj.cells #[.bool (dN ox),.slice a1 (ws (dX ox)).length c1,.int .i64 (dE ox)] 47)) 28 (.int .i64 0);have q3:=Lo.zero ((u.alloc (Obj.cells #[.bool (dN ox),.slice a1 (ws (dX ox)).length c1,.int .i64 (dE ox)] 47)).alloc (Obj.cells #[.int .i64 0] 28));have q4:=Boxed.new (((u.alloc (Obj.cells #[.bool (dN ox),.slice a1 (ws (dX ox)).length c1,.int .i64 (dE ox)] 47)).alloc (Obj.cells #[.int .i64 0] 28)).alloc (Obj.cells #[.bool false,.slice none 0 0,.int .i64 0] 47)) 22 (.slice a n c);rw [World.size_alloc] at q2;rw [World.size_alloc,World.size_alloc] at q3;rw [World.size_alloc,World.size_alloc,World.size_alloc] at q4;have bu:=H0.out.2.2.1.trans (HN.out.2.mono H0.out.2.2.1.size);exact ⟨⟨q3.alloc12 _,((q1.alloc12 _).alloc12 _).alloc12 _,(q2.alloc _).alloc _,((((Bx.below H0.out.1 HN.out.2).alloc _).alloc _).alloc _).alloc _,((((Bx.below H0.out.2.1 HN.out.2).alloc _).alloc _).alloc _).alloc _,(((bu.trans ((below_alloc _ _).mono bu.size)).trans ((below_alloc _ _).mono (by simp;omega))).trans ((below_alloc _ _).mono (by simp;omega))).trans ((below_alloc _ _).mono (by simp;omega))⟩,q4⟩
 rw [←hL];have HLL:=qsd hL;clear hL HN H0
 refine wpIn_rangeFunc_ownF (hro:=rfl) (by omega) (gf:=110) (lb:=#[.pointer (some ⟨u.heap.size+1+1+1,0,none⟩)]) rfl trivial (enters_of Tryz.func110 (by kernel_rfl) rfl)
  (back_stops Fence.wide _ trivial rfl (by omega) (u.heap.size+1+1+1) w.heap.size a n c cs hW HX.out.1 HX.out.2.2.2.2.2.2 L (by omega) (by omega) HL.out.2.cell (HX.out.2.1.below HL.out.1.bel))
  Kp12.trans (fun A l o o' hl h hc hw=>⟨belowK_b (w:=L) (by omega) A l o o' hl h hc hw,World.putObj_heap_other (by omega)⟩) (Below.refl _ _) (fun _=>rfl)
  (fun pre A=>(Lo A (u.heap.size+1+1) (pH x pre)∧Lo A u.heap.size ox∧Boxed A (u.heap.size+1) 28 (.int .i64 0)∧Boxed A w.heap.size 27 (.float .f64 0)∧Boxed A (w.heap.size+1) 28 (.int .i64 0)∧Boxed A (u.heap.size+1+1+1) 22 (.slice a n c)∧∀ y ∈ pre,finW y.2.1)∧Below w.heap.size w A)
  (fun c pre A=>(c=.ret∧Boxed A w.heap.size 27 (.float .f64 0)∧Boxed A (w.heap.size+1) 28 (.int .i64 30)∧∃ y ∈ pre,¬ finW y.2.1)∧Below w.heap.size w A)
  (OwnFrom.and (Own.from (fun s A B row hs hg hr=>⟨hs.1.kept hg hr,hs.2.1.kept hg hr,Bx.kept hs.2.2.1 hg hr,Bx.kept hs.2.2.2.1 hg hr,Bx.kept hs.2.2.2.2.1 hg hr,Bx.kept hs.2.2.2.2.2.1 hg hr,hs.2.2.2.2.2.2⟩) _) (ownFrom_below (Nat.le_refl _) (by omega)))
  (fun c=>OwnFrom.and (Own.from (fun s A B row hs hg hr=>⟨hs.1,Bx.kept hs.2.1 hg hr,Bx.kept hs.2.2.1 hg hr,hs.2.2.2⟩) _) (ownFrom_below (Nat.le_refl _) (by omega)))
  ⟨⟨HL.out.1.val,HL.out.1.at8,HL.out.1.err,HL.out.1.r1,HL.out.1.r2,HL.out.2,fun y hy=>by cases hy⟩,HL.out.1.bel⟩
  (fun y:Nat×W12=>{ tmps:=#[.slice a n c,.float .f64 x,.int .i64 mode,undef,undef,undef,.pointer (some ⟨w.heap.size,0,none⟩),.pointer (some ⟨w.heap.size+1,0,none⟩),.pointer (some ⟨u.heap.size,0,none⟩),.pointer (some ⟨u.heap.size+1,0,none⟩),.pointer (some ⟨u.heap.size+1+1,0,none⟩),undef,.float .f64 y.2.1,.bool false,.int .i64 mode,.bool true,.bool false,.bool false,.slice a n c,.int .i64 (n:Nat),.bool false,.tuple #[.agg #[.bool (dN ox),.slice a1 (ws (dX ox)).length c1,.int .i64 (dE ox)],.int .i64 0],.float .f64 x,.tuple #[.agg #[.bool (dN ox),.slice a1 (ws (dX ox)).length c1,.int .i64 (dE ox)],.int .i64 0],.agg #[.bool (dN ox),.slice a1 (ws (dX ox)).length c1,.int .i64 (dE ox)],.int .i64 0,.int .i64 0,.bool false,undef,.slice a n c,.func (.func 110) #[] #[.pointer (some ⟨u.heap.size+1+1+1,0,none⟩)],.int .i64 (y.1:Int),.float .f64 y.2.1,undef,undef,undef,undef,undef,undef,undef,undef,undef,undef,undef,undef,undef,undef,undef],defers:=[] }) ?assign ?body ?done ?stop
 case assign =>
  intro l y A K hK
  gi_wp2
  exact hK
 case body =>
  rintro l pre y A ⟨⟨hV,hA8,hE,hR1,hR2,hBs,hfin⟩,hB⟩ hlen;have hTA:Tab A:=HX.out.2.2.2.2.1.belows hB;obtain ⟨o0,ho0⟩:∃ o,o=pH x pre:=⟨_,rfl⟩;have hlen33:pre.length<33:=by have:=HX.out.2.2.2.2.2.2;omega
  have iv0:=pH_iv x HX.out.2.2.1 HX.out.2.2.2.1 pre hfin (by omega)
  rw [←ho0] at hV iv0;have HV:Aside (Lo A (u.heap.size+1+1) o0∧Lo A u.heap.size ox∧Boxed A (u.heap.size+1) 28 (.int .i64 0)∧Boxed A w.heap.size 27 (.float .f64 0)∧Boxed A (w.heap.size+1) 28 (.int .i64 0)∧Below w.heap.size w A∧Tab A∧Boxed A (u.heap.size+1+1+1) 22 (.slice a n c)):=⟨hV,hA8,hE,hR1,hR2,hB,hTA,hBs⟩;obtain ⟨p0,q0,D0,M0⟩:=hV;obtain ⟨p1,q1,D1,M1⟩:=hA8;obtain ⟨x0,x1,x2,xf0,xf1,xf2⟩:=D0.facts;obtain ⟨y0,y1,y2,yf0,yf1,yf2⟩:=D1.facts;obtain ⟨yi,⟨yw,hyw⟩⟩:=y
  by_cases fy:finW yw
  · have iv1:=pH_iv x HX.out.2.2.1 HX.out.2.2.2.1 (pre++[(yi,⟨yw,hyw⟩)]) (fun z hz=>by
     rcases List.mem_append.1 hz with h|h
     · exact hfin z h
     · rw [List.mem_singleton] at h;subst h;exact fy) (by simp;omega)
    have ivm:=iv0.mul (oW_iv x HX.out.2.2.1 HX.out.2.2.2.1) (by omega) (by omega) (by omega)
    have hFM:Fm (mulD o0 ox):=by rw [HX.out.2.2.2.2.2.1];exact ivm.fm
    obtain ⟨o2,ho2⟩:∃ o,o=pH x (pre++[(yi,⟨yw,hyw⟩)]):=⟨_,rfl⟩;have F2:Fm o2:=by rw [ho2];exact iv1.fm
    have e2:addD (mulD o0 ox) (oW yw)=o2:=by rw [ho2,pH_snoc,ho0,HX.out.2.2.2.2.2.1]
    have HC:=hid (onward12 A p0 p1 q0 q1 o0 ox (oW yw) (mulD o0 ox) o2 yw hTA ⟨iv0.fm,Fx,(oW_iv yw hyw fy).fm,hFM,F2⟩ ⟨rfl,e2⟩ M0 M1 (hid (fun U hU=>of12 yw hyw fy U hU)))
    have HP:=qsd (ai F2 (ai ho2 (ai hfin fy)));clear D0 M0 D1 M1 hE hR1 hR2 hBs hB hTA iv0 iv1 ivm hFM e2 F2 ho2 ho0 hfin fy hlen
    gi_wp2_with fail
    refine ⟨trivial,(CallsIn.inRound l (callsIn_wide.2 HC.out)).mono ?_⟩;rintro e A2 ⟨⟨v,rfl,hN⟩,hb⟩;obtain ⟨a3,c3,rfl,hN0⟩:=Lo.shape HP.out.1 hN;have s1:=HV.out.1.below hb;have s2:=Bx.below HV.out.2.2.1 hb;have hne1:u.heap.size+1≠u.heap.size+1+1:=by omega
    obtain ⟨A3,hA3⟩:∃ A3,A3=(st3 A2 (u.heap.size+1+1) (.bool (dN o2)) (.slice a3 (ws (dX o2)).length c3) (.int .i64 (dE o2))).setCell ⟨u.heap.size+1,0,none⟩ (.int .i64 0):=⟨_,rfl⟩
    have H3:Aside (KeepsOthers A A3∧Kp12 w.heap.size (u.heap.size+1+1+1) A A3∧(Lo A3 (u.heap.size+1+1) o2∧Lo A3 u.heap.size ox∧Boxed A3 (u.heap.size+1) 28 (.int .i64 0)∧Boxed A3 w.heap.size 27 (.float .f64 0)∧Boxed A3 (w.heap.size+1) 28 (.int .i64 0)∧Boxed A3 (u.heap.size+1+1+1) 22 (.slice a n c))∧Below w.heap.size w A3):=by
     have t1:=s1.set hN0;have t2:=(HV.out.2.1.below hb).other s1 (by omega) (.bool (dN o2)) (.slice a3 (ws (dX o2)).length c3) (.int .i64 (dE o2))
     have t3:=Bx.st3 s2 (.bool (dN o2)) (.slice a3 (ws (dX o2)).length c3) (.int .i64 (dE o2)) hne1;have t4:=Bx.st3 (Bx.below HV.out.2.2.2.1 hb) (.bool (dN o2)) (.slice a3 (ws (dX o2)).length c3) (.int .i64 (dE o2)) (show w.heap.size≠u.heap.size+1+1 by omega)
     have t5:=Bx.st3 (Bx.below HV.out.2.2.2.2.1 hb) (.bool (dN o2)) (.slice a3 (ws (dX o2)).length c3) (.int .i64 (dE o2)) (show w.heap.size+1≠u.heap.size+1+1 by omega)
     have t6:=Bx.st3 (Bx.below HV.out.2.2.2.2.2.2.2 hb) (.bool (dN o2)) (.slice a3 (ws (dX o2)).length c3) (.int .i64 (dE o2)) (show u.heap.size+1+1+1≠u.heap.size+1+1 by omega)
     have hbw:Below w.heap.size A A2:=hb.mono HV.out.2.2.2.2.2.1.size;rw [hA3];have b1:Below w.heap.size A (st3 A2 (u.heap.size+1+1) (.bool (dN o2)) (.slice a3 (ws (dX o2)).length c3) (.int .i64 (dE o2))):=But.below hbw (st3_but12 _ _ _ _ _) (Nat.le_trans HV.out.2.2.2.2.2.1.size hb.size) (by omega)
     have b2:Below w.heap.size A ((st3 A2 (u.heap.size+1+1) (.bool (dN o2)) (.slice a3 (ws (dX o2)).length c3) (.int .i64 (dE o2))).setCell ⟨u.heap.size+1,0,none⟩ (.int .i64 0)):=But.below b1 ((But.refl _ _).set 0 _) (Nat.le_trans HV.out.2.2.2.2.2.1.size b1.size) (by omega)
     refine ⟨((((KeepsOthers.of_below12 hb).trans (KeepsOthers.setCell _ _ _)).trans (KeepsOthers.setCell _ _ _)).trans (KeepsOthers.setCell _ _ _)).trans (KeepsOthers.setCell _ _ _),⟨b2,?_⟩,⟨Lo.set12 t1 t3 (by omega) (by decide) _,Lo.set12 t2 t3 (by omega) (by decide) _,t3.set _,Bx.set12 t4 0 _ (by omega),Bx.set12 t5 0 _ (by omega),Bx.set12 t6 0 _ (by omega)⟩,HV.out.2.2.2.2.2.1.trans b2⟩
     have hk:u.heap.size+1+1+1<A.heap.size:=HV.out.2.2.2.2.2.2.2.lt;have c1:=hb.block _ hk;have c2:=(st3_but12 (u.heap.size+1+1) A2 (.bool (dN o2)) (.slice a3 (ws (dX o2)).length c3) (.int .i64 (dE o2))).block (u.heap.size+1+1+1) (Nat.lt_of_lt_of_le hk hb.size) (by omega)
     have c3':=Below.heap_setCell (st3 A2 (u.heap.size+1+1) (.bool (dN o2)) (.slice a3 (ws (dX o2)).length c3) (.int .i64 (dE o2))) ⟨u.heap.size+1,0,none⟩ (.int .i64 0) (u.heap.size+1+1+1) (show u.heap.size+1+1+1≠u.heap.size+1 by omega)
     exact c3'.trans (c2.trans c1)
    obtain ⟨p3,q3,D3,M3⟩:=s1;obtain ⟨z0,z1,z2,zf0,zf1,zf2⟩:=D3.facts;have ec:=s2.cell;have ef:=s2.frozen;unfold st3 at hA3;have HA3:=qsd hA3;clear D3 M3 hN hN0 hb HC x0 x1 x2 xf0 xf1 xf2 y0 y1 y2 yf0 yf1 yf2 s2 hA3
    gi_wp2
    rw [←HA3.out];obtain ⟨_,e2,hfin,fy⟩:=HP.out;rw [e2] at H3;refine ⟨H3.out.1,H3.out.2.1,⟨H3.out.2.2.1.1,H3.out.2.2.1.2.1,H3.out.2.2.1.2.2.1,H3.out.2.2.1.2.2.2.1,H3.out.2.2.1.2.2.2.2.1,H3.out.2.2.1.2.2.2.2.2,fun z hz=>?_⟩,H3.out.2.2.2⟩
    rcases List.mem_append.1 hz with h|h
    · exact hfin z h
    · rw [List.mem_singleton] at h;subst h;exact fy
  · have HC:=hid (onward12_odd A p0 p1 (ws (dX o0)).length q0 (ws (dX ox)).length q1 (dN o0) (dN ox) (dE o0) (dE ox) yw (hid (fun U hU=>of12_odd yw hyw fy U (hTA.belows hU))))
    have HP:=qsd fy;clear D0 M0 D1 M1 hE hR1 hR2 hBs hB hTA iv0 ho0 hfin fy hlen
    gi_wp2_with fail
    refine ⟨trivial,(CallsIn.inRound l (callsIn_wide.2 HC.out)).mono ?_⟩;rintro e A2 ⟨rfl,hb⟩;have s1:=HV.out.1.below hb;have s2:=Bx.below HV.out.2.2.1 hb;have s3:=Bx.below HV.out.2.2.2.1 hb;have s4:=Bx.below HV.out.2.2.2.2.1 hb;have hne1:u.heap.size+1≠u.heap.size+1+1:=by omega
    have hne2:w.heap.size≠u.heap.size+1+1:=by omega
    have hne3:w.heap.size+1≠u.heap.size+1+1:=by omega
    have hne4:w.heap.size≠u.heap.size+1:=by omega
    have hne5:w.heap.size+1≠u.heap.size+1:=by omega
    have hne6:w.heap.size≠w.heap.size+1:=by omega
    obtain ⟨A3,hA3⟩:∃ A3,A3=(st3 A2 (u.heap.size+1+1) (.bool false) (.slice none 0 0) (.int .i64 0)).setCell ⟨u.heap.size+1,0,none⟩ (.int .i64 30):=⟨_,rfl⟩
    have H3:Aside (KeepsOthers A A3∧Boxed A3 (u.heap.size+1) 28 (.int .i64 30)∧Boxed A3 w.heap.size 27 (.float .f64 0)∧Boxed A3 (w.heap.size+1) 28 (.int .i64 0)∧Below w.heap.size w A3):=by
     rw [hA3];have hbw:Below w.heap.size w A2:=HV.out.2.2.2.2.2.1.trans (hb.mono HV.out.2.2.2.2.2.1.size);have b1:=st3_bel12 hbw hbw.size (show w.heap.size≤u.heap.size+1+1 by omega) (.bool false) (.slice none 0 0) (.int .i64 0)
     exact ⟨((((KeepsOthers.of_below12 hb).trans (KeepsOthers.setCell _ _ _)).trans (KeepsOthers.setCell _ _ _)).trans (KeepsOthers.setCell _ _ _)).trans (KeepsOthers.setCell _ _ _),(Bx.st3 s2 _ _ _ hne1).set _,Bx.set12 (Bx.st3 s3 _ _ _ hne2) 0 _ hne4,Bx.set12 (Bx.st3 s4 _ _ _ hne3) 0 _ hne5,But.below b1 ((But.refl _ _).set 0 _) b1.size (by omega)⟩
    obtain ⟨p3,q3,D3,M3⟩:=s1;obtain ⟨z0,z1,z2,zf0,zf1,zf2⟩:=D3.facts;have ec:=s2.cell;have ef:=s2.frozen;unfold st3 at hA3;have HA3:=qsd hA3;clear HC x0 x1 x2 xf0 xf1 xf2 y0 y1 y2 yf0 yf1 yf2 s2 s3 s4 hA3 hne1 hne2 hne3 D3 M3
    gi_wp2
    rw [←HA3.out];clear HA3 z0 z1 z2 zf0 zf1 zf2 ec ef;have ec:=H3.out.2.1.cell;have r1c:=H3.out.2.2.1.cell;have r1f:=H3.out.2.2.1.frozen;have r2c:=H3.out.2.2.2.1.cell;have r2f:=H3.out.2.2.2.1.frozen;have hmx:Tryz.prog.follows .mixedOrders=true:=by kernel_rfl
    have HF:Aside (KeepsOthers A ((A3.setCell ⟨w.heap.size,0,none⟩ (.float .f64 0)).setCell ⟨w.heap.size+1,0,none⟩ (.int .i64 30)).drew∧(Boxed ((A3.setCell ⟨w.heap.size,0,none⟩ (.float .f64 0)).setCell ⟨w.heap.size+1,0,none⟩ (.int .i64 30)).drew w.heap.size 27 (.float .f64 0)∧Boxed ((A3.setCell ⟨w.heap.size,0,none⟩ (.float .f64 0)).setCell ⟨w.heap.size+1,0,none⟩ (.int .i64 30)).drew (w.heap.size+1) 28 (.int .i64 30))∧Below w.heap.size w ((A3.setCell ⟨w.heap.size,0,none⟩ (.float .f64 0)).setCell ⟨w.heap.size+1,0,none⟩ (.int .i64 30)).drew):=by
     have b1:=But.below H3.out.2.2.2.2 ((But.refl w.heap.size A3).set 0 (.float .f64 0)) H3.out.2.2.2.2.size (Nat.le_refl _);exact ⟨H3.out.1.trans (((KeepsOthers.setCell _ _ _).trans (KeepsOthers.setCell _ _ _)).trans (KeepsOthers.drew _)),⟨Bx.set12 (H3.out.2.2.1.set _) 0 _ hne6,(Bx.set12 H3.out.2.2.2.1 0 _ (by omega)).set _⟩,(But.below b1 ((But.refl (w.heap.size+1) _).set 0 _) b1.size (by omega)).drew⟩
    gi_region_with_o (fail)
    all_goals gi_wp2
    all_goals exact ⟨HF.out.1,⟨rfl,HF.out.2.1.1,HF.out.2.1.2,⟨(yi,⟨yw,hyw⟩),by simp,HP.out⟩⟩,HF.out.2.2⟩
 case done =>
  rintro D ys A hD rfl ⟨⟨hV,hA8,hE,hR1,hR2,hBs,hfin⟩,hB⟩ hK;have hTA:Tab A:=HX.out.2.2.2.2.1.belows hB;have iv0:=pH_iv x HX.out.2.2.1 HX.out.2.2.2.1 _ hfin (by rw [up12_len];have:=HX.out.2.2.2.2.2.2;omega)
  have HP:=qsd hfin;obtain ⟨o0,ho0⟩:∃ o,o=pH x (up12 (dn12 cs hW n) n):=⟨_,rfl⟩;rw [←ho0] at hV iv0;obtain ⟨z,hz⟩:∃ z,rndS o0 mode=z:=⟨_,rfl⟩;obtain ⟨p0,q0,D0,M0⟩:=hV;obtain ⟨x0,x1,x2,xf0,xf1,xf2⟩:=D0.facts;have HR:=hid (roundP12 iv0.fm M0 hTA mode z hz);have HV:Aside (Boxed A w.heap.size 27 (.float .f64 0)∧Boxed A (w.heap.size+1) 28 (.int .i64 0)∧Below w.heap.size w A∧A.heap[D]?=some (.deferred (some []))∧rndS (pH x (up12 (dn12 cs hW n) n)) mode=z):=⟨hR1,hR2,hB,hK,by rw [←ho0];exact hz⟩
  have hne:w.heap.size≠w.heap.size+1:=by omega
  clear D0 M0 hA8 hE hR1 hR2 hBs hfin hB hTA iv0 ho0 hz hK
  gi_wp2_with fail
  refine ⟨trivial,(callsIn_wide.2 HR.out).mono ?_⟩;rintro e A2 ⟨rfl,hb⟩;have s1:=Bx.below HV.out.1 hb;have s2:=Bx.below HV.out.2.1 hb;have e1:=s1.cell;have e2:=s2.cell;have f1:=s1.frozen;have f2:=s2.frozen
  have H3:Aside (Boxed ((A2.setCell ⟨w.heap.size,0,none⟩ (.float .f64 z.1)).setCell ⟨w.heap.size+1,0,none⟩ (.int .i64 z.2)) w.heap.size 27 (.float .f64 z.1)∧Boxed ((A2.setCell ⟨w.heap.size,0,none⟩ (.float .f64 z.1)).setCell ⟨w.heap.size+1,0,none⟩ (.int .i64 z.2)) (w.heap.size+1) 28 (.int .i64 z.2)∧Below w.heap.size w ((A2.setCell ⟨w.heap.size,0,none⟩ (.float .f64 z.1)).setCell ⟨w.heap.size+1,0,none⟩ (.int .i64 z.2))∧((A2.setCell ⟨w.heap.size,0,none⟩ (.float .f64 z.1)).setCell ⟨w.heap.size+1,0,none⟩ (.int .i64 z.2)).heap[D]?=some (.deferred (some []))):=by
   have hbw:=HV.out.2.2.1.trans (hb.mono HV.out.2.2.1.size);refine ⟨Bx.set12 (s1.set _) 0 _ hne,(Bx.set12 s2 0 _ (by omega)).set _,?_,?_⟩
   · have b1:=But.below hbw ((But.refl w.heap.size A2).set 0 (.float .f64 z.1)) hbw.size (Nat.le_refl _)
     exact But.below b1 ((But.refl (w.heap.size+1) _).set 0 _) b1.size (by omega)
   · exact ((KeepsOthers.of_below12 hb).trans ((KeepsOthers.setCell _ _ _).trans (KeepsOthers.setCell _ _ _))).same D _ HV.out.2.2.2.1 rfl
  have HZ:=qsd HV.out.2.2.2.2;clear HV HR hb x0 x1 x2 xf0 xf1 xf2 s1 s2
  gi_wp2
  have g1:=cell_kept H3.out.1.cell (grownBy_putObj' _ D (.deferred none)) (fun r e=>by cases e;exact ⟨_,H3.out.2.2.2,rfl⟩)
  have g2:=cell_kept H3.out.2.1.cell (grownBy_putObj' _ D (.deferred none)) (fun r e=>by cases e;exact ⟨_,H3.out.2.2.2,rfl⟩)
  refine ⟨by simp,.inl ⟨_,_,rfl,run_takeDeferred H3.out.2.2.2,?_⟩⟩
  exact ⟨.tuple #[.float .f64 z.1,.int .i64 z.2],by simp [results,Tryz.results19,go_sem,g1,g2],.inl ⟨HP.out,by rw [HZ.out]⟩,H3.out.2.2.1.trans (belowK_b (w:=L) (by omega) _ D _ _ hD H3.out.2.2.2 rfl rfl)⟩
 case stop =>
  rintro D c pre A hD ⟨k,hk,rfl⟩ ⟨⟨rfl,hR1,hR2,y,hy,hyf⟩,hB⟩ hK
  gi_wp2
  have g1:=cell_kept hR1.cell (grownBy_putObj' A D (.deferred none)) (fun r e=>by cases e;exact ⟨_,hK,rfl⟩)
  have g2:=cell_kept hR2.cell (grownBy_putObj' A D (.deferred none)) (fun r e=>by cases e;exact ⟨_,hK,rfl⟩)
  refine ⟨by simp,.inl ⟨_,_,rfl,run_takeDeferred hK,?_⟩⟩
  exact ⟨.tuple #[.float .f64 0,.int .i64 30],by simp [results,Tryz.results19,go_sem,g1,g2],.inr ⟨⟨y,up12_sub _ hk hy,hyf⟩,rfl⟩,hB.trans (belowK_b (w:=L) (by omega) A D _ _ hD hK rfl rfl)⟩
end
section
open Go.RowKit J
attribute [local go_sem] st_float
set_option maxRecDepth 100000 in
theorem poly12_mode (a:Option Addr) (n c x:Nat) (mode:Int) (w:World) (hm:md mode=false) :
 Calls Tryz.prog 19 #[.slice a n c,.float .f64 x,.int .i64 mode] w fun r w'=>r=.returned (.tuple #[.float .f64 0,.int .i64 1])∧Below w.heap.size w w':=by
 have HI:=hid (fun u:World=>isMode12 mode u)
 rw [hm] at HI;have hne:w.heap.size≠w.heap.size+1:=by omega
 clear hm;go_enter Tryz.func19,Tryz.ntmps19
 go_wp2_with fail
 refine (HI.out _).mono ?_;rintro r w1 ⟨rfl,rfl⟩;clear HI;go_wp2;refine bodyPost_ret (v:=.tuple #[.float .f64 0,.int .i64 1]) (by simp [results,Tryz.results19,go_sem]) rfl ⟨rfl,?_⟩
 first
  | exact (bel_alloc _ _).trans ((bel_alloc _ _).mono (by simp))
  | exact st_bel7 (by simp) (st_bel7 (by simp) ((bel_alloc _ _).trans ((bel_alloc _ _).mono (by simp))))
set_option maxRecDepth 100000 in
theorem poly12_long (a:Option Addr) (n c x:Nat) (mode:Int) (w:World) (hm:md mode=true) (hl:33<n) :
 Calls Tryz.prog 19 #[.slice a n c,.float .f64 x,.int .i64 mode] w fun r w'=>r=.returned (.tuple #[.float .f64 0,.int .i64 2])∧Below w.heap.size w w':=by
 have HI:=hid (fun u:World=>isMode12 mode u)
 rw [hm] at HI;have hne:w.heap.size≠w.heap.size+1:=by omega
 have hd:decide ((33:Int)<(n:Int))=true:=by simp;omega
 clear hm hl;go_enter Tryz.func19,Tryz.ntmps19
 go_wp2_with fail
 refine (HI.out _).mono ?_;rintro r w1 ⟨rfl,rfl⟩;clear HI;go_wp2;refine bodyPost_ret (v:=.tuple #[.float .f64 0,.int .i64 2]) (by simp [results,Tryz.results19,go_sem]) rfl ⟨rfl,?_⟩
 first
  | exact (bel_alloc _ _).trans ((bel_alloc _ _).mono (by simp))
  | exact st_bel7 (by simp) (st_bel7 (by simp) ((bel_alloc _ _).trans ((bel_alloc _ _).mono (by simp))))
set_option maxRecDepth 100000 in
theorem poly12_odd (a:Option Addr) (n c x:Nat) (mode:Int) (w:World) (hm:md mode=true) (hl:n≤33) (hx:x<18446744073709551616) (fx:¬ finW x) (hT:Tab w) :
 Calls Tryz.prog 19 #[.slice a n c,.float .f64 x,.int .i64 mode] w fun r w'=>r=.returned (.tuple #[.float .f64 0,.int .i64 30])∧Below w.heap.size w w':=by
 have HI:=hid (fun u:World=>isMode12 mode u)
 rw [hm] at HI;have HO:=hid (fun (u:World) (h:Tab u)=>of12_odd x hx fx u h)
 have hne:w.heap.size≠w.heap.size+1:=by omega
 have hd:decide ((33:Int)<(n:Int))=false:=by simp;omega
 have HT:=qsd hT;clear hm hl hx fx hT;obtain ⟨W,hW'⟩:∃ W,W=(w.alloc (Obj.cells #[.float .f64 0] 27)).alloc (Obj.cells #[.int .i64 0] 28):=⟨_,rfl⟩
 have H0:Aside (Boxed W w.heap.size 27 (.float .f64 0)∧Boxed W (w.heap.size+1) 28 (.int .i64 0)∧Below w.heap.size w W∧W.heap.size=w.heap.size+2):=by
  subst hW';have z:=Boxed.new (w.alloc (Obj.cells #[.float .f64 0] 27)) 28 (.int .i64 0);rw [World.size_alloc] at z;exact ⟨(Boxed.new w _ _).alloc _,z,(below_alloc _ _).trans ((below_alloc _ _).mono (by simp)),by simp⟩
 go_enter Tryz.func19,Tryz.ntmps19
 go_wp2_with fail
 rw [←hW'];refine (HI.out _).mono ?_;rintro r w1 ⟨rfl,rfl⟩;clear HI hW'
 go_wp2_with fail
 refine (HO.out _ (HT.out.belows H0.out.2.2.1)).mono ?_;rintro r u ⟨⟨a1,c1,rfl⟩,hb⟩;obtain ⟨U,hU⟩:∃ U,U=(u.alloc (Obj.cells #[.bool false,.slice a1 0 c1,.int .i64 0] 47)).alloc (Obj.cells #[.int .i64 30] 28):=⟨_,rfl⟩;have hus:w.heap.size+2≤u.heap.size:=by have:=hb.size;have:=H0.out.2.2.2;omega
 have H1:Aside (Boxed U w.heap.size 27 (.float .f64 0)∧Boxed U (w.heap.size+1) 28 (.int .i64 0)∧Boxed U (u.heap.size+1) 28 (.int .i64 30)∧Below w.heap.size w U):=by
  rw [hU];have z:=Boxed.new (u.alloc (Obj.cells #[.bool false,.slice a1 0 c1,.int .i64 0] 47)) 28 (.int .i64 30);rw [World.size_alloc] at z;have bu:=H0.out.2.2.1.trans (hb.mono H0.out.2.2.1.size);exact ⟨((Bx.below H0.out.1 hb).alloc _).alloc _,((Bx.below H0.out.2.1 hb).alloc _).alloc _,z,((bu.trans ((below_alloc _ _).mono bu.size)).trans ((below_alloc _ _).mono (by simp;omega)))⟩
 have HU:=qsd hU;clear hb HO H0 hU
 go_upto_region 7 with fail
 rw [←HU.out];clear HU;have r1c:=H1.out.1.cell;have r1f:=H1.out.1.frozen;have r2c:=H1.out.2.1.cell;have r2f:=H1.out.2.1.frozen;have ec:=H1.out.2.2.1.cell;have hne4:w.heap.size≠u.heap.size+1:=by omega
 have hne5:w.heap.size+1≠u.heap.size+1:=by omega
 have HF:Aside (Boxed ((U.setCell ⟨w.heap.size,0,none⟩ (.float .f64 0)).setCell ⟨w.heap.size+1,0,none⟩ (.int .i64 30)).drew w.heap.size 27 (.float .f64 0)∧Boxed ((U.setCell ⟨w.heap.size,0,none⟩ (.float .f64 0)).setCell ⟨w.heap.size+1,0,none⟩ (.int .i64 30)).drew (w.heap.size+1) 28 (.int .i64 30)∧Below w.heap.size w ((U.setCell ⟨w.heap.size,0,none⟩ (.float .f64 0)).setCell ⟨w.heap.size+1,0,none⟩ (.int .i64 30)).drew):=by
  have b1:=But.below H1.out.2.2.2 ((But.refl w.heap.size U).set 0 (.float .f64 0)) H1.out.2.2.2.size (Nat.le_refl _);exact ⟨Bx.set12 (H1.out.1.set _) 0 _ hne,(Bx.set12 H1.out.2.1 0 _ (by omega)).set _,(But.below b1 ((But.refl (w.heap.size+1) _).set 0 _) b1.size (by omega)).drew⟩
 go_region
 all_goals (
  go_wp2;have f1:=HF.out.1.cell;have f2:=HF.out.2.1.cell;exact bodyPost_ret (v:=.tuple #[.float .f64 0,.int .i64 30]) (by simp [results,Tryz.results19,go_sem,f1,f2]) rfl ⟨rfl,HF.out.2.2⟩)
def pHw (x:Nat) (L:List Nat):Option (Bool×Nat×Int):=L.foldl (fun o c=>addD (mulD o (oW x)) (oW c)) o00
theorem pH_w (x:Nat) (L:List (Nat×W12)):pH x L=pHw x (L.map (fun y=>y.2.1)):=by unfold pH pHw;rw [List.foldl_map]
theorem dn_rev (cs:List Nat) (hW:W64 cs):(up12 (dn12 cs hW cs.length) cs.length).map (fun y=>y.2.1)=cs.reverse:=by
 unfold up12 dn12;rw [List.map_map]
 apply List.ext_getElem
 · simp
 · intro i h1 h2
   simp at h1;simp [List.getElem_reverse,h1];rw [List.getElem?_eq_getElem (by omega)]
   rfl
noncomputable def plR (cs:List Nat) (x:Nat) (mode:Int):Nat×Int:=open Classical in if md mode=false then (0,1) else if 33<cs.length then (0,2) else if finW x∧∀ y ∈ cs,finW y then rndS (pHw x cs.reverse) mode else (0,30)
theorem Poly12 (cs:List Nat) (a:Option Addr) (n c x:Nat) (mode:Int) (w:World) (hn:n=cs.length) (hF:Fs w.heap.size w a cs) (hW:W64 cs) (hx:x<18446744073709551616) (hT:Tab w) :
 Calls Tryz.prog 19 #[.slice a n c,.float .f64 x,.int .i64 mode] w fun r w'=>r=.returned (.tuple #[.float .f64 (plR cs x mode).1,.int .i64 (plR cs x mode).2])∧Below w.heap.size w w':=by
 unfold plR
 by_cases hm:md mode=false
 · rw [if_pos hm]
   exact poly12_mode a n c x mode w hm
 · rw [if_neg hm]
   have hm:md mode=true:=by simpa using hm
   rw [←hn]
   by_cases hl:33<n
   · rw [if_pos hl]
     exact poly12_long a n c x mode w hm hl
   · rw [if_neg hl]
     by_cases fx:finW x
     · refine (poly12_main cs a n c x mode w hn hF hW hx fx hT hm (by omega)).mono ?_
       subst hn;have hr:=dn_rev cs hW;rintro r w' ⟨h,hb⟩;refine ⟨?_,hb⟩
       rcases h with ⟨h1,rfl⟩|⟨⟨y,hy,hyf⟩,rfl⟩
       · have h2:∀ y ∈ cs,finW y:=fun y hy=>by
          have:y ∈ (up12 (dn12 cs hW cs.length) cs.length).map (fun y=>y.2.1):=by rw [hr];exact List.mem_reverse.2 hy
          obtain ⟨z,hz,rfl⟩:=List.mem_map.1 this;exact h1 z hz
         rw [if_pos ⟨fx,h2⟩,pH_w,hr]
       · rw [if_neg (fun q=>hyf (q.2 _ (List.mem_reverse.1 (by rw [←hr];exact List.mem_map_of_mem hy))))]
     · rw [if_neg (fun q=>fx q.1)]
       exact poly12_odd a n c x mode w hm (by omega) hx fx hT
end
section
open Go.RowKit
theorem rebase {o:Option (Bool×Nat×Int)}{B x:Int}(h:Fv B o x) (hB:B≤-1048576) (D:Int) (hD:D≤0):Fv (B+D) o (x*((2^(0-D).toNat:Nat):Int)):=by
 obtain ⟨n',X',e',hx,F',hz⟩:=h.ex;refine ⟨n',X',e',hx,F',?_⟩;rw [←hz];unfold zv;simp only;rw [Int.mul_assoc,←Int.natCast_mul,Nat.mul_assoc,←Nat.pow_add];have:=F'.down;rw [show (e'-(B+D)).toNat=(e'-B).toNat+(0-D).toNat by omega]
end
section
open Go.RowKit J
def EK:Nat:=1048576
def EY:Nat:=1047502
theorem exP (a:Nat):∃ u:Nat,u=2^a:=⟨_,rfl⟩
noncomputable def MM:Nat:=Classical.choose (exP EK)
noncomputable def YY:Nat:=Classical.choose (exP EY)
theorem M_eq:MM=2^EK:=Classical.choose_spec (exP EK)
theorem Y_eq:YY=2^EY:=Classical.choose_spec (exP EY)
theorem M_pos:0<MM:=by rw [M_eq];exact Nat.two_pow_pos _
theorem Fm.sm {o:Option (Bool×Nat×Int)}(h:Fm o):o.isSome=true:=by
 obtain ⟨B,x,h⟩:=h;obtain ⟨n,X,e,rfl,_⟩:=h.ex;rfl
theorem Fm.val {o:Option (Bool×Nat×Int)}(h:Fm o):Fv (-1048576) o (valO o):=fvO h.re h.sm
theorem Fv.uniq {B x y:Int}{o:Option (Bool×Nat×Int)}(h1:Fv B o x) (h2:Fv B o y):x=y:=by
 obtain ⟨n,X,e,ho,_,hz⟩:=h1.ex;obtain ⟨n',X',e',ho',_,hz'⟩:=h2.ex;rw [ho] at ho'
 cases ho'
 exact hz.symm.trans hz'
theorem val_mul {o p:Option (Bool×Nat×Int)}(F:Fm o) (G:Fm p) (H:Fm (mulD o p)):valO (mulD o p)*(MM:Int)=valO o*valO p:=by
 have h1:=Fv.mul (by decide) (by decide) F.val G.val H.sm
 have h2:=rebase H.val (by decide) (-1048576) (by decide)
 rw [show ((0:Int) - -1048576).toNat=EK from rfl,←M_eq] at h2
 exact (h1.uniq h2).symm
theorem val_add {o p:Option (Bool×Nat×Int)}(F:Fm o) (G:Fm p) (H:Fm (addD o p)):valO (addD o p)=valO o+valO p :=
 H.val.uniq (Fv.add (by decide) F.val G.val H.sm)
theorem valO_inj {o p:Option (Bool×Nat×Int)}(F:Fm o) (G:Fm p) (h:valO o=valO p):o=p:=by
 obtain ⟨h1,h2,h3⟩:=Fv.same (by decide) F.val G.val h
 obtain ⟨n,X,e,rfl,_⟩:=F.val.ex;obtain ⟨m,Y,f,rfl,_⟩:=G.val.ex;have h1:n=m:=h1;have h2:X=Y:=h2;have h3:e=f:=h3;rw [h1,h2,h3]
theorem val_mk {n:Bool}{X:Nat}{e:Int}(h:Fm (mkS n X e)) (he:-1048576≤e) (k:Nat) (hk:(e+1048576).toNat=k):valO (mkS n X e)=sg1 n*((X*2^k:Nat):Int):=by
 obtain ⟨⟨n',Y,f⟩,ho⟩:=Option.isSome_iff_exists.1 h.sm;have:=zv_mkS ho (-1048576) (.inr he);rw [show (e - -1048576).toNat=k by rw [←hk];congr 1] at this
 rw [←this,ho];rfl
theorem sg1_natAbs (V:Int) (K:Nat):sg1 (decide (V<0))*((V.natAbs*K:Nat):Int)=V*(K:Int):=by
 rw [Int.natCast_mul,←Int.mul_assoc]
 congr 1
 unfold sg1
 by_cases h:V<0
 · rw [decide_eq_true h,if_pos rfl];omega
 · rw [decide_eq_false h,if_neg (by decide)];omega
theorem val_fo {V:Int}(h:Fm (fo8 V)):valO (fo8 V)=V*(YY:Int):=by
 unfold fo8 at h ⊢;rw [val_mk h (by decide) EY rfl,←Y_eq,sg1_natAbs]
theorem oW_fm (x:Nat) (hx:x<18446744073709551616) (fx:finW x):Fm (oW x):=(oW_iv x hx fx).fm
theorem val_oW (x:Nat) (hx:x<18446744073709551616) (fx:finW x):valO (oW x)=fvW x*(YY:Int):=val_fo (oW_fm x hx fx)
end
section
open Go.RowKit J
theorem vd_none (ok:Bool):vd ok 0 0 0 0 0=(0,false):=by unfold vd;cases ok <;> simp
theorem len_fin {V:Int}{s:Sp}{mode:Int}(h1:s.n=0) (h2:s.u=0) (h3:s.d=0):lenV V s mode=sq12 V mode:=by
 unfold lenV;rw [h1,h2,h3,vd_none];rfl
theorem rd_fin {V:Int}{s:Sp}{mode:Int}(h1:s.n=0) (h2:s.u=0) (h3:s.d=0) (hV:V≠0) (hF:Fm (exV V)):rd10 V s mode 0 0=rndS (exV V) mode:=by
 unfold rd10 rd7 ahd;rw [h1,h2,h3,vd_none,if_neg (by omega),if_neg (by omega)]
 simp only [if_neg hV,Bool.false_eq_true,if_false];rw [hF.re]
theorem ex_whole (Y k:Nat) (hk:k=2148):exV ((Y*2^k:Nat):Int)=mkS false Y 0:=by
 unfold exV;rw [decide_eq_false (by omega),Int.natAbs_natCast,Nat.mul_comm,mkS_pow11]
 congr 1
 omega
theorem sqW25:sqW 25 0 1 0=531691198313966349161522824112137830400:=by decide +kernel
theorem s25:sqZ 25 0 1 0=some (false,5,0):=by
 have e1:sqR 531691198313966349161522824112137830400=23058430092136939520:=(sqR_is _).unique ⟨by decide +kernel,by decide +kernel⟩
 have e2:sqD 25 0 1 0=true:=by
  unfold sqD;rw [sqW25,e1]
  decide +kernel
 have e3:clampE (hvX (sqX 25 0 1 0)/2)=-63:=by decide +kernel
 unfold sqZ;rw [sqW25,e1,e2,e3]
 show mkS false 46116860184273879040 (-63)=_
 have:=mkS_pow11 false 63 5 (-63);rw [show 2^63*5=46116860184273879040 by decide] at this
 rw [this];exact mkS_sm false 5 0 (by decide) (by decide) (by decide) (by decide)
theorem sq25 (k:Nat) (hk:k=2148):sq12 ((25*2^k:Nat):Int) 0=(4617315517961601024,0):=by
 have e:mkS false 25 0=some (false,25,0):=by rw [mkS_odd _ _ _ (by decide),if_neg (by decide +kernel)]
 unfold sq12;rw [ex_whole 25 k hk,e]
 show sqrR rndS ⟨false,.bool false,25,0,false,.bool false,1,0⟩ 0=_
 unfold sqrR;rw [if_neg (by decide),if_pos (by rw [errL_one];show errN 25 false 0 1 false 0=0;unfold errN;rw [if_neg (by decide),e,mk_one];decide),e,mk_one]
 show (if false=true then ((0,110):Nat×Int) else rndS (sqZ 25 0 1 0) 0)=_
 rw [if_neg (by decide),s25]
 decide +kernel
theorem v34 (k:Nat) (hk:k=2148):vI (nI [4613937818241073152,4616189618054758400])=((25*2^k:Nat):Int):=by
 subst hk;decide +kernel
theorem v1246 (k:Nat) (hk:k=2148):vI (aI [4607182418800017408,4611686018427387904] [4616189618054758400,4618441417868443648])=((25*2^k:Nat):Int):=by
 subst hk;decide +kernel
theorem norm34:normR [4613937818241073152,4616189618054758400] 0=(4617315517961601024,0):=by
 obtain ⟨k,hk⟩:∃ k,k=2148:=⟨_,rfl⟩;unfold normR;rw [if_pos (by decide),len_fin (by decide +kernel) (by decide +kernel) (by decide +kernel),v34 k hk,sq25 k hk]
theorem dist25:distR [4607182418800017408,4611686018427387904] [4616189618054758400,4618441417868443648] 0=(4617315517961601024,0):=by
 obtain ⟨k,hk⟩:∃ k,k=2148:=⟨_,rfl⟩;unfold distR;rw [if_pos (by decide),len_fin (by decide +kernel) (by decide +kernel) (by decide +kernel),v1246 k hk,sq25 k hk]
theorem vbig (k:Nat) (hk:k=2148):vI (dI [7309342195222315008,4607182418800017408,7309342195222315008] [7309342195222315008,4607182418800017408,16532714232077090816])=((1*2^k:Nat):Int):=by
 subst hk;decide +kernel
theorem o1:Fm (mkS false 1 0):=by rw [mk_one];exact ⟨0,_,frm_fv (mkS_frm mk_one) 0⟩
theorem dotbig:dotR [7309342195222315008,4607182418800017408,7309342195222315008] [7309342195222315008,4607182418800017408,16532714232077090816] 0 0 0=(4607182418800017408,0):=by
 obtain ⟨k,hk⟩:∃ k,k=2148:=⟨_,rfl⟩;have hp:0<2^k:=Nat.two_pow_pos _;unfold dotR;rw [if_neg (by decide),if_pos (by decide),vbig k hk,rd_fin (by decide +kernel) (by decide +kernel) (by decide +kernel) (by omega) (by rw [ex_whole 1 k hk];exact o1),ex_whole 1 k hk,mk_one]
 decide +kernel
theorem dotlen:dotR [4607182418800017408] [] 0 0 0=(0,4):=by
 unfold dotR;rw [if_neg (by decide),if_neg (by decide)]
 decide
end
section
open Go.RowKit J
attribute [local go_sem] st_float
def Fw10 (n:Nat):Value:=.float .f64 n
theorem Tryz.und_floats:Tryz.prog.underlying 22=some (.slice 27):=by kernel_rfl
theorem Tryz.info_f64:(Tryz.prog.info? 27).map (fun i=>(i.zero,i.size,i.bytes))=some (some (.float .f64 0),1,8):=by kernel_rfl
def OwnF (w:World) (g:Nat) (L:List Nat):Prop:=w.heap[g]?=some (.cells (L.map Fw10).toArray 27 (0,0))
theorem OwnF.lt {w:World}{g:Nat}{L:List Nat}(h:OwnF w g L):g<w.heap.size:=(Array.getElem?_eq_some_iff.1 h).1
theorem OwnF.cell {w:World}{g:Nat}{L:List Nat}(h:OwnF w g L) (i:Nat) (hi:i<L.length):w.cell? ⟨g,i,none⟩=some (.float .f64 (L.getD i 0)):=by
 unfold OwnF at h;simp [World.cell?,h,Fw10,hi]
theorem OwnF.frozen {w:World}{g:Nat}{L:List Nat}(h:OwnF w g L) (i:Nat):w.frozen? ⟨g,i,none⟩=false:=by
 unfold OwnF at h;simp [World.frozen?,h]
theorem OwnF.set {w:World}{g:Nat}{L:List Nat}(h:OwnF w g L) (i x:Nat):OwnF (w.setCell ⟨g,i,none⟩ (.float .f64 x)) g (L.set i x):=by
 unfold OwnF at h ⊢;simp only [World.setCell,Array.getElem?_modify,h];simp [Fw10,List.map_set]
theorem OwnF.fs {w:World}{g B:Nat}{L:List Nat}(h:OwnF w g L) (hg:g<B) (n:Nat):Fs B w (some ⟨g,0,none⟩) (L.take n):=by
 intro _;refine ⟨g,0,hg,rfl,fun i hi=>?_⟩
 rw [List.length_take] at hi;rw [Nat.zero_add,h.cell i (by omega)]
 congr 2
 rw [List.getD_eq_getElem?_getD,List.getD_eq_getElem?_getD,List.getElem?_take,if_pos (by omega)]
theorem make_floats (z:Int) (n:Nat) (hz:z=(n:Int)) (hn:n≤17592186044416) (w:World) :
 (Instr.makeSlice 22 (.int .i64 z) (.int .i64 z)).run Tryz.prog w=.ok (.slice (some ⟨w.heap.size,0,none⟩) n n) (w.alloc (.cells (madeCells #[.float .f64 0] n) 27)):=by
 subst hz;exact run_make_row' 22 27 (.float .f64 0) 8 Tryz.und_floats Tryz.info_f64 rfl .i64 .i64 n (by omega) (by omega) w
theorem OwnF.made (w:World) (n:Nat):OwnF (w.alloc (.cells (madeCells #[.float .f64 0] n) 27)) w.heap.size (List.replicate n 0):=by
 unfold OwnF;have h1:=heap_alloc_new w (.cells (madeCells #[.float .f64 0] n) 27);rw [h1]
 congr 2
 apply Array.toList_inj.1
 rw [toList_madeCells_one];simp [Fw10]
end
section
open Go.RowKit J
theorem pHw_snoc (x:Nat) (L:List Nat) (c:Nat):pHw x (L++[c])=addD (mulD (pHw x L) (oW x)) (oW c):=by simp [pHw]
theorem pHw_iv (x:Nat) (hx:x<18446744073709551616) (fx:finW x) (L:List Nat) (hW:W64 L) (hf:∀ c ∈ L,finW c) (hl:L.length≤40):Iv (pHw x L) (-1074*(L.length+1:Nat)) (1025*(L.length+1:Nat)):=by
 have key:∀ M:List Nat,(∀ c ∈ M,c<18446744073709551616)→(∀ c ∈ M,finW c)→∃ M':List (Nat×W12),M'.map (fun y=>y.2.1)=M∧(∀ c ∈ M',finW c.2.1):=by
  intro M
  induction M with
  | nil=>exact fun _ _=>⟨[],rfl,fun c hc=>by cases hc⟩
  | cons m M ih =>
    intro h1 h2;obtain ⟨M',e,h⟩:=ih (fun c hc=>h1 c (List.mem_cons_of_mem _ hc)) (fun c hc=>h2 c (List.mem_cons_of_mem _ hc))
    refine ⟨(0,⟨m,h1 m List.mem_cons_self⟩)::M',by simp [e],fun c hc=>?_⟩
    rcases List.mem_cons.1 hc with rfl|hc
    · exact h2 m List.mem_cons_self
    · exact h c hc
 obtain ⟨M',e,h⟩:=key L hW hf;have:=pH_iv x hx fx M' h (by rw [←e] at hl;simpa using hl)
 rw [pH_w,e] at this;rw [←e] at this ⊢;simpa using this
theorem pHw_val (x:Nat) (hx:x<18446744073709551616) (fx:finW x) (L:List Nat) (c:Nat) (hW:W64 (L++[c])) (hf:∀ d ∈ L++[c],finW d) (hl:L.length≤38) :
 valO (pHw x (L++[c]))*(MM:Int)=valO (pHw x L)*valO (oW x)+valO (oW c)*(MM:Int):=by
 have h1:=pHw_iv x hx fx L (fun d hd=>hW d (List.mem_append_left _ hd)) (fun d hd=>hf d (List.mem_append_left _ hd)) (by omega)
 have h2:=pHw_iv x hx fx (L++[c]) hW hf (by simp;omega)
 have hc:=hW c (by simp)
 have fc:=hf c (by simp)
 have h3:=h1.mul (oW_iv x hx fx) (by omega) (by omega) (by omega)
 rw [pHw_snoc] at h2 ⊢;rw [val_add h3.fm (oW_fm c hc fc) h2.fm,Int.add_mul,val_mul h1.fm (oW_fm x hx fx) h3.fm]
theorem YM (k:Nat) (hk:k=1074):2^k*YY=MM:=by
 rw [Y_eq,M_eq,←Nat.pow_add,show k+EY=EK by rw [hk];decide]
theorem val_int (c j:Nat) (hc:c<18446744073709551616) (fc:finW c) (h:∀ k,k=1074→fvW c=((j*2^k:Nat):Int)):valO (oW c)=((j*MM:Nat):Int):=by
 obtain ⟨k,hk⟩:∃ k,k=1074:=⟨_,rfl⟩;rw [val_oW c hc fc,h k hk,←Int.natCast_mul,Nat.mul_assoc,YM k hk]
theorem f1 (k:Nat) (hk:k=1074):fvW 4607182418800017408=((1*2^k:Nat):Int):=by subst hk;decide +kernel
theorem f2 (k:Nat) (hk:k=1074):fvW 4611686018427387904=((2*2^k:Nat):Int):=by subst hk;decide +kernel
theorem f3 (k:Nat) (hk:k=1074):fvW 4613937818241073152=((3*2^k:Nat):Int):=by subst hk;decide +kernel
theorem M_cancel {a b:Int}(h:a*(MM:Int)=b*(MM:Int)):a=b:=Int.eq_of_mul_eq_mul_right (by have:=M_pos;omega) h
theorem valO_00:valO o00=0:=by unfold valO zv;simp [dX]
theorem mk17:mkS false 17 0=some (false,17,0):=by rw [mkS_odd _ _ _ (by decide),if_neg (by decide +kernel)]
theorem pl17:plR [4607182418800017408,4611686018427387904,4613937818241073152] 4611686018427387904 0=(4625478292286210048,0):=by
 have hx:(4611686018427387904:Nat)<18446744073709551616:=by decide
 have fx:finW 4611686018427387904:=by decide
 have hW:∀ d ∈ [4613937818241073152,4611686018427387904,4607182418800017408],d<18446744073709551616:=by decide
 have hf:∀ d ∈ [4613937818241073152,4611686018427387904,4607182418800017408],finW d:=by decide
 have w1:=val_int _ 1 (by decide) (by decide) f1
 have w2:=val_int _ 2 (by decide) (by decide) f2
 have w3:=val_int _ 3 (by decide) (by decide) f3
 have h1:=pHw_val _ hx fx [] 4613937818241073152 (fun d hd=>hW d (by simp at hd;simp [hd])) (fun d hd=>hf d (by simp at hd;simp [hd])) (by decide)
 have h2:=pHw_val _ hx fx [4613937818241073152] 4611686018427387904 (fun d hd=>hW d (by simp at hd;rcases hd with h | h <;> simp [h])) (fun d hd=>hf d (by simp at hd;rcases hd with h | h <;> simp [h])) (by decide)
 have h3:=pHw_val _ hx fx [4613937818241073152,4611686018427387904] 4607182418800017408 (fun d hd=>hW d (by simpa using hd)) (fun d hd=>hf d (by simpa using hd)) (by decide)
 rw [w2] at h1 h2 h3;rw [w3] at h1;rw [w1] at h3;rw [show pHw 4611686018427387904 []=o00 from rfl,valO_00,Int.zero_mul,Int.zero_add] at h1
 have e1:=M_cancel h1;simp only [List.nil_append,List.cons_append] at e1 h2 h3;rw [e1] at h2
 have e2:valO (pHw 4611686018427387904 [4613937818241073152,4611686018427387904])=((8*MM:Nat):Int):=by
  refine M_cancel (h2.trans ?_);simp only [←Int.natCast_mul,←Int.natCast_add]
  congr 1
  generalize MM=M
  grind
 rw [e2] at h3
 have e3:valO (pHw 4611686018427387904 [4613937818241073152,4611686018427387904,4607182418800017408])=((17*MM:Nat):Int):=by
  refine M_cancel (h3.trans ?_);simp only [←Int.natCast_mul,←Int.natCast_add]
  congr 1
  generalize MM=M
  grind
 have F17:Fm (mkS false 17 0):=by rw [mk17];exact ⟨0,_,frm_fv (mkS_frm mk17) 0⟩
 have e4:pHw 4611686018427387904 [4613937818241073152,4611686018427387904,4607182418800017408]=mkS false 17 0:=by
  refine valO_inj (pHw_iv _ hx fx _ hW hf (by decide)).fm F17 ?_
  rw [e3,val_mk F17 (by decide) EK rfl,←M_eq]
  unfold sg1;simp
 unfold plR;rw [if_neg (by decide),if_neg (by decide),if_pos ⟨fx,by decide⟩]
 show rndS (pHw 4611686018427387904 [4613937818241073152,4611686018427387904,4607182418800017408]) 0=_
 rw [e4,mk17]
 decide +kernel
theorem big_mul:∀ k,k<600→floatBits .mul .f64 ((1023+k)*4503599627370496) 4611686018427387904=some ((1023+(k+1))*4503599627370496):=by decide +kernel
theorem lit12 (w:World) (xs:List Nat):Fs (w.alloc (Obj.cells (xs.map Fw10).toArray 27)).heap.size (w.alloc (Obj.cells (xs.map Fw10).toArray 27)) (some ⟨w.heap.size,0,none⟩) xs:=by
 intro _;refine ⟨w.heap.size,0,by simp,rfl,fun i hi=>?_⟩
 have hO:OwnF (w.alloc (Obj.cells (xs.map Fw10).toArray 27)) w.heap.size xs:=heap_alloc_new _ _;rw [Nat.zero_add];exact hO.cell i hi
theorem lit12b (w:World) (xs:List Nat) (g:Nat) (hg:g=w.heap.size):Fs (w.alloc (Obj.cells (xs.map Fw10).toArray 27)).heap.size (w.alloc (Obj.cells (xs.map Fw10).toArray 27)) (some ⟨g,0,none⟩) xs:=by subst hg;exact lit12 w xs
end
section
open Go.RowKit J
set_option maxRecDepth 100000 in
theorem awake12 (w:World) (hT:Tab w):Calls Tryz.prog 9 #[] w fun r w'=>r=.returned (.bool true)∧Below w.heap.size w w':=by
 have HT:=qsd hT;have hone:(FloatKind.f64.format.order 4607182418800017408 4607182418800017408==some .eq)=true:=by decide +kernel
 have hfive:(FloatKind.f64.format.order 4617315517961601024 4617315517961601024==some .eq)=true:=by decide +kernel
 have h17:(FloatKind.f64.format.order 4625478292286210048 4625478292286210048==some .eq)=true:=by decide +kernel
 clear hT;go_enter Tryz.func9,Tryz.ntmps9;go_wp2
 go_loopg [1,2] 600 (fun gk b i wr=>∃ k:Nat,gk+k=600∧b=.float .f64 ((1023+k)*4503599627370496)∧i=.int .i64 (k:Nat)∧wr=w)
 case atStart=>exact ⟨0,by omega,by first | rfl | simp,by first | rfl | simp,rfl⟩
 case round =>
  obtain ⟨k,hgk,rfl,rfl,hw⟩:=hrel;subst hw
  by_cases hk:k<600
  · have d:=run_float_arith (P:=Tryz.prog) wr .mul 27 .f64 _ _ _ (big_mul k hk)
    obtain ⟨B0,hB0⟩:∃ B0,B0=(1023+k)*4503599627370496:=⟨_,rfl⟩;obtain ⟨B1,hB1⟩:∃ B1,B1=(1023+(k+1))*4503599627370496:=⟨_,rfl⟩;rw [←hB0,←hB1] at d;rw [←hB0];have HB:=qsd hB1;have hd:decide ((k:Int)<600)=true:=by simp;omega
    clear hB0 hB1
    go_wp2_with (simp only [d])
    go_roundg (gk-1)
    case measure=>omega
    case rel=>exact ⟨k+1,by omega,by rw [HB.out],by first | rfl | simp,rfl⟩
  · obtain rfl:k=600:=by omega
    rw [show (1023+600)*4503599627370496=7309342195222315008 from rfl]
    have hn:∀ U:World,Sem.run Tryz.prog (Op.unary .neg (.float .f64 7309342195222315008)) U=.ok (.float .f64 16532714232077090816) U:=fun U=>neg12 (P:=Tryz.prog) U 0 7309342195222315008 (by decide)
    have B0:=qsd (Below.refl wr.heap.size wr);obtain ⟨W1,hW1⟩:∃ W,W=((wr.alloc (Obj.cells #[.float .f64 7309342195222315008,.float .f64 4607182418800017408,.float .f64 7309342195222315008] 27)).alloc (Obj.cells #[.float .f64 7309342195222315008,.float .f64 4607182418800017408,.float .f64 16532714232077090816] 27)):=⟨_,rfl⟩
    have H1:Aside (Below wr.heap.size wr W1∧Fs W1.heap.size W1 (some ⟨wr.heap.size,0,none⟩) [7309342195222315008,4607182418800017408,7309342195222315008]∧Fs W1.heap.size W1 (some ⟨wr.heap.size+1,0,none⟩) [7309342195222315008,4607182418800017408,16532714232077090816]):=by
     rw [hW1];have q1:=lit12 wr [7309342195222315008,4607182418800017408,7309342195222315008];have q2:=lit12b (wr.alloc (Obj.cells #[.float .f64 7309342195222315008,.float .f64 4607182418800017408,.float .f64 7309342195222315008] 27)) [7309342195222315008,4607182418800017408,16532714232077090816] (wr.heap.size+1) (by simp)
     exact ⟨(B0.out.trans ((below_alloc _ _).mono B0.out.size)).trans ((below_alloc _ _).mono (Nat.le_trans B0.out.size (by simp))),(q1.below (below_alloc _ _)).mono (by simp),q2⟩
    have C1:Hid (Calls Tryz.prog 11 #[.slice (some ⟨wr.heap.size,0,none⟩) 3 3,.slice (some ⟨wr.heap.size+1,0,none⟩) 3 3,.int .i64 0,.agg #[.int .i64 0,.int .i64 0]] W1 fun r w'=>r=.returned (.tuple #[.float .f64 4607182418800017408,.int .i64 0])∧Below W1.heap.size W1 w'):=by
     have:=Dot12 [7309342195222315008,4607182418800017408,7309342195222315008] [7309342195222315008,4607182418800017408,16532714232077090816] _ _ 3 3 3 3 0 0 0 W1 rfl rfl H1.out.2.1 H1.out.2.2 (by unfold W64;decide) (by unfold W64;decide) (HT.out.belows H1.out.1)
     rw [dotbig] at this;exact this
    have HE1:=qsd hW1;clear hW1
    go_wp2_with (simp only [hn])
    rw [←HE1.out];clear HE1;refine C1.out.mono ?_;rintro r u1 ⟨rfl,hb⟩;have B1:=qsd (H1.out.1.trans (hb.mono H1.out.1.size));clear hb C1 H1 B0;obtain ⟨W2,hW2⟩:∃ W,W=(u1.alloc (Obj.cells #[.float .f64 4613937818241073152,.float .f64 4616189618054758400] 27)):=⟨_,rfl⟩
    have H2:Aside (Below wr.heap.size wr W2∧Fs W2.heap.size W2 (some ⟨u1.heap.size,0,none⟩) [4613937818241073152,4616189618054758400]):=by
     rw [hW2];exact ⟨B1.out.trans ((below_alloc _ _).mono B1.out.size),lit12 u1 [4613937818241073152,4616189618054758400]⟩
    have C2:Hid (Calls Tryz.prog 15 #[.slice (some ⟨u1.heap.size,0,none⟩) 2 2,.int .i64 0] W2 fun r w'=>r=.returned (.tuple #[.float .f64 4617315517961601024,.int .i64 0])∧Below W2.heap.size W2 w'):=by
     have:=Norm12 [4613937818241073152,4616189618054758400] _ 2 2 0 W2 rfl H2.out.2 (by unfold W64;decide) (HT.out.belows H2.out.1)
     rw [norm34] at this;exact this
    have HE2:=qsd hW2;clear hW2
    go_wp2_with fail
    rw [←HE2.out];clear HE2;refine C2.out.mono ?_;rintro r u2 ⟨rfl,hb⟩;have B2:=qsd (H2.out.1.trans (hb.mono H2.out.1.size));clear hb C2 H2 B1;obtain ⟨W3,hW3⟩:∃ W,W=((u2.alloc (Obj.cells #[.float .f64 4607182418800017408,.float .f64 4611686018427387904] 27)).alloc (Obj.cells #[.float .f64 4616189618054758400,.float .f64 4618441417868443648] 27)):=⟨_,rfl⟩
    have H3:Aside (Below wr.heap.size wr W3∧Fs W3.heap.size W3 (some ⟨u2.heap.size,0,none⟩) [4607182418800017408,4611686018427387904]∧Fs W3.heap.size W3 (some ⟨u2.heap.size+1,0,none⟩) [4616189618054758400,4618441417868443648]):=by
     rw [hW3];have q1:=lit12 u2 [4607182418800017408,4611686018427387904];have q2:=lit12b (u2.alloc (Obj.cells #[.float .f64 4607182418800017408,.float .f64 4611686018427387904] 27)) [4616189618054758400,4618441417868443648] (u2.heap.size+1) (by simp)
     exact ⟨(B2.out.trans ((below_alloc _ _).mono B2.out.size)).trans ((below_alloc _ _).mono (Nat.le_trans B2.out.size (by simp))),(q1.below (below_alloc _ _)).mono (by simp),q2⟩
    have C3:Hid (Calls Tryz.prog 16 #[.slice (some ⟨u2.heap.size,0,none⟩) 2 2,.slice (some ⟨u2.heap.size+1,0,none⟩) 2 2,.int .i64 0] W3 fun r w'=>r=.returned (.tuple #[.float .f64 4617315517961601024,.int .i64 0])∧Below W3.heap.size W3 w'):=by
     have:=Dist12 [4607182418800017408,4611686018427387904] [4616189618054758400,4618441417868443648] _ _ 2 2 2 2 0 W3 rfl rfl H3.out.2.1 H3.out.2.2 (by unfold W64;decide) (by unfold W64;decide) (HT.out.belows H3.out.1)
     rw [dist25] at this;exact this
    have HE3:=qsd hW3;clear hW3
    go_wp2_with fail
    rw [←HE3.out];clear HE3;refine C3.out.mono ?_;rintro r u3 ⟨rfl,hb⟩;have B3:=qsd (H3.out.1.trans (hb.mono H3.out.1.size));clear hb C3 H3 B2;obtain ⟨W4,hW4⟩:∃ W,W=(u3.alloc (Obj.cells #[.float .f64 4607182418800017408,.float .f64 4611686018427387904,.float .f64 4613937818241073152] 27)):=⟨_,rfl⟩
    have H4:Aside (Below wr.heap.size wr W4∧Fs W4.heap.size W4 (some ⟨u3.heap.size,0,none⟩) [4607182418800017408,4611686018427387904,4613937818241073152]):=by
     rw [hW4];exact ⟨B3.out.trans ((below_alloc _ _).mono B3.out.size),lit12 u3 [4607182418800017408,4611686018427387904,4613937818241073152]⟩
    have C4:Hid (Calls Tryz.prog 19 #[.slice (some ⟨u3.heap.size,0,none⟩) 3 3,.float .f64 4611686018427387904,.int .i64 0] W4 fun r w'=>r=.returned (.tuple #[.float .f64 4625478292286210048,.int .i64 0])∧Below W4.heap.size W4 w'):=by
     have:=Poly12 [4607182418800017408,4611686018427387904,4613937818241073152] _ 3 3 4611686018427387904 0 W4 rfl H4.out.2 (by unfold W64;decide) (by decide) (HT.out.belows H4.out.1)
     rw [pl17] at this;exact this
    have HE4:=qsd hW4;clear hW4
    go_wp2_with fail
    rw [←HE4.out];clear HE4;refine C4.out.mono ?_;rintro r u4 ⟨rfl,hb⟩;have B4:=qsd (H4.out.1.trans (hb.mono H4.out.1.size));clear hb C4 H4 B3;obtain ⟨W5,hW5⟩:∃ W,W=(u4.alloc (Obj.cells #[.float .f64 4607182418800017408] 27)):=⟨_,rfl⟩
    have H5:Aside (Below wr.heap.size wr W5∧Fs W5.heap.size W5 (some ⟨u4.heap.size,0,none⟩) [4607182418800017408]):=by
     rw [hW5];exact ⟨B4.out.trans ((below_alloc _ _).mono B4.out.size),lit12 u4 [4607182418800017408]⟩
    have C5:Hid (Calls Tryz.prog 11 #[.slice (some ⟨u4.heap.size,0,none⟩) 1 1,.slice none 0 0,.int .i64 0,.agg #[.int .i64 0,.int .i64 0]] W5 fun r w'=>r=.returned (.tuple #[.float .f64 0,.int .i64 4])∧Below W5.heap.size W5 w'):=by
     have:=Dot12 [4607182418800017408] [] _ none 1 1 0 0 0 0 0 W5 rfl rfl H5.out.2 (Fs.nil _ _ _) (by unfold W64;decide) (by unfold W64;decide) (HT.out.belows H5.out.1)
     rw [dotlen] at this;exact this
    have HE5:=qsd hW5;clear hW5
    go_wp2_with fail
    rw [←HE5.out];clear HE5;refine C5.out.mono ?_;rintro r u5 ⟨rfl,hb⟩;have B5:=qsd (H5.out.1.trans (hb.mono H5.out.1.size));clear hb C5 H5 B4;go_wp2;go_ret;exact ⟨rfl,B5.out⟩
end
section
open Go.RowKit J
theorem vI_fold_add:∀ (I:List (Nat×Int)) (v:Int),I.foldl (fun v p=>v+p.2) v=v+I.foldl (fun v p=>v+p.2) 0
 | [],v=>by simp
 | p::I,v=>by
   rw [List.foldl_cons,List.foldl_cons,vI_fold_add I (v+p.2),vI_fold_add I (0+p.2)];omega
theorem vI_append (I J:List (Nat×Int)):vI (I++J)=vI I+vI J:=by
 unfold vI;rw [List.foldl_append,vI_fold_add]
theorem vI_cons (p:Nat×Int) (I:List (Nat×Int)):vI (p::I)=p.2+vI I:=by
 have:=vI_append [p] I;simpa [vI] using this
def cI (k:Nat) (I:List (Nat×Int)):Nat:=I.countP (fun p=>p.1==k)
theorem cI_append (k:Nat) (I J:List (Nat×Int)):cI k (I++J)=cI k I+cI k J:=List.countP_append
theorem sI_counts:∀ (I:List (Nat×Int)) (s:Sp),(I.foldl (fun s p=>s.cnt p.1 1) s).n=s.n+cI 1 I∧(I.foldl (fun s p=>s.cnt p.1 1) s).u=s.u+cI 2 I∧(I.foldl (fun s p=>s.cnt p.1 1) s).d=s.d+cI 3 I
 | [],s=>by simp [cI]
 | p::I,s=>by
   obtain ⟨h1,h2,h3⟩:=sI_counts I (s.cnt p.1 1);rw [List.foldl_cons,h1,h2,h3];unfold cI;simp only [List.countP_cons,Sp.cnt];refine ⟨?_,?_,?_⟩
   · by_cases h:p.1=1
     · simp [h];omega
     · simp [h]
   · by_cases h:p.1=2
     · simp [h];omega
     · simp [h]
   · by_cases h:p.1=3
     · simp [h];omega
     · simp [h]
theorem sI_nud (I:List (Nat×Int)):(sI I).n=cI 1 I∧(sI I).u=cI 2 I∧(sI I).d=cI 3 I:=by
 have:=sI_counts I ⟨0,0,0,0,0,0⟩;unfold sI;simpa using this
theorem snd_ok {s:Sp}(h:s.pos) (ha:s.a≤1099511627776):snd s.n s.u s.d s.m s.p s.a=true:=by
 obtain ⟨h1,h2,h3,h4,h5,h6⟩:=h;unfold snd ct;simp only [Bool.and_eq_true,decide_eq_true_eq];omega
theorem lenV_same {V U:Int}{s t:Sp}{mode:Int}(hV:V=U) (hs:s.pos) (ht:t.pos) (ha:s.a≤1099511627776) (hb:t.a≤1099511627776) (h1:s.n=t.n) (h2:s.u=t.u) (h3:s.d=t.d):lenV V s mode=lenV U t mode:=by
 unfold lenV;rw [snd_ok hs ha,snd_ok ht hb,h1,h2,h3,hV]
theorem nI_ip {xs:List Nat}(h:W64 xs):∀ p ∈ nI xs,Ip p:=by
 intro p hp;obtain ⟨x,hx,rfl⟩:=List.mem_map.1 hp;exact ip_prod (h x hx) (h x hx)
theorem Ip_kind (k:Nat) (hk:k≤5):Ip (k,0):=⟨hk,by have:=QB_pos;show -(QB:Int)≤0;omega,by show (0:Int)≤QB;omega⟩
theorem ap12_ip {x y:Nat}(hx:x<18446744073709551616) (hy:y<18446744073709551616):∀ p ∈ ap12 x y,Ip p:=by
 intro p hp;unfold ap12 at hp
 split at hp
 · have ht:=turn_lt y hy
   simp only [List.mem_cons,List.not_mem_nil,or_false] at hp
   rcases hp with rfl|rfl|rfl|rfl
   · exact ip_prod hx hx
   · exact ip_prod hy hy
   · exact ip_prod hx ht
   · exact ip_prod hx ht
 · simp only [List.mem_cons,List.not_mem_nil,or_false] at hp
   subst hp;exact Ip_kind _ (by unfold k12;split <;> omega)
theorem aI_ip:∀ {xs ys:List Nat},W64 xs→W64 ys→∀ p ∈ aI xs ys,Ip p
 | [],_,_,_,p,hp=>by simp [aI] at hp
 | _::_,[],_,_,p,hp=>by simp [aI] at hp
 | x::xs,y::ys,h1,h2,p,hp=>by
   unfold aI at hp;rw [List.zipWith_cons_cons,List.flatten_cons] at hp
   rcases List.mem_append.1 hp with h|h
   · exact ap12_ip (h1 x List.mem_cons_self) (h2 y List.mem_cons_self) p h
   · exact aI_ip (fun z hz=>h1 z (List.mem_cons_of_mem _ hz)) (fun z hz=>h2 z (List.mem_cons_of_mem _ hz)) p h
theorem finW0:finW 0:=by decide
theorem fv0:fvW 0=0:=by decide +kernel
theorem ap_zero {x:Nat}(hx:x<18446744073709551616):vI (ap12 0 x)=pT x x∧cI 1 (ap12 0 x)=cI 1 [(pK x x,pT x x)]∧cI 2 (ap12 0 x)=cI 2 [(pK x x,pT x x)]∧cI 3 (ap12 0 x)=cI 3 [(pK x x,pT x x)]:=by
 unfold ap12
 by_cases fx:finW x
 · rw [if_pos ⟨finW0,fx⟩]
   have ht:=turn_lt x hx;have ft:=(fv_turn hx fx).1;obtain ⟨a1,a2⟩:=pT_mul (show 0<18446744073709551616 by decide) (show 0<18446744073709551616 by decide) finW0 finW0
   obtain ⟨b1,b2⟩:=pT_mul (show 0<18446744073709551616 by decide) ht finW0 ft
   obtain ⟨c1,c2⟩:=pT_mul hx hx fx fx;rw [fv0,Int.zero_mul] at a1 b1;refine ⟨?_,?_⟩
   · rw [vI_cons,vI_cons,vI_cons,vI_cons,a1,b1]
     simp [vI]
   · unfold cI
     simp only [List.countP_cons,List.countP_nil]
     rcases a2 with h|h|h <;> rcases b2 with h'|h'|h' <;> rcases c2 with h''|h''|h'' <;> simp [h,h',h'']
 · rw [if_neg (fun q=>fx q.2)]
   have hT:=(pT_odd (x:=x) (y:=x) (fun q=>fx q.1)).1
   refine ⟨by rw [hT];simp [vI],?_⟩
   have hk:k12 0 x=pK x x:=by
    have f0:magW 0=0:=rfl;unfold k12
    rcases Nat.lt_or_ge 9218868437227405312 (magW x) with h|h
    · rw [if_pos (.inr (.inl h)),pK_self_nan h]
    · have he:magW x=9218868437227405312:=by have:¬ magW x<9218868437227405312:=fx;omega
      rw [if_neg (by rw [f0];omega),pK_self_inf he]
   rw [hk];unfold cI;simp [List.countP_cons]
theorem aI_zero:∀ {xs:List Nat},W64 xs→vI (aI (List.replicate xs.length 0) xs)=vI (nI xs)∧cI 1 (aI (List.replicate xs.length 0) xs)=cI 1 (nI xs)∧cI 2 (aI (List.replicate xs.length 0) xs)=cI 2 (nI xs)∧cI 3 (aI (List.replicate xs.length 0) xs)=cI 3 (nI xs)
 | [],_=>by simp [aI,nI,cI,vI]
 | x::xs,h=>by
   obtain ⟨h1,h2,h3,h4⟩:=aI_zero (xs:=xs) (fun z hz=>h z (List.mem_cons_of_mem _ hz))
   obtain ⟨g1,g2,g3,g4⟩:=ap_zero (h x List.mem_cons_self)
   have e1:aI (List.replicate (x::xs).length 0) (x::xs)=ap12 0 x++aI (List.replicate xs.length 0) xs:=by
    unfold aI;rw [List.length_cons,List.replicate_succ,List.zipWith_cons_cons,List.flatten_cons]
   have e2:nI (x::xs)=[(pK x x,pT x x)]++nI xs:=rfl;rw [e1,e2,vI_append,vI_append,cI_append,cI_append,cI_append,cI_append,cI_append,cI_append,h1,h2,h3,h4,g1,g2,g3,g4];simp [vI]
theorem norm_dist (xs:List Nat) (hW:W64 xs) (mode:Int):distR (List.replicate xs.length 0) xs mode=normR xs mode:=by
 unfold distR normR;rw [List.length_replicate]
 by_cases h:rf12 mode xs.length xs.length=0
 · rw [if_pos h,if_pos h]
   have hl:=(rf12_ok h).2.2.1;obtain ⟨h1,h2,h3,h4⟩:=aI_zero hW;have hz:W64 (List.replicate xs.length 0):=fun z hz=>by rw [List.eq_of_mem_replicate hz];decide
   obtain ⟨p1,p2⟩:=sI_pos _ (aI_ip hz hW);obtain ⟨q1,q2⟩:=sI_pos _ (nI_ip hW);obtain ⟨a1,a2,a3⟩:=sI_nud (aI (List.replicate xs.length 0) xs);obtain ⟨b1,b2,b3⟩:=sI_nud (nI xs);have la:=aI_len (List.replicate xs.length 0) xs;have lb:(nI xs).length=xs.length:=by unfold nI;simp
   rw [List.length_replicate] at la;exact lenV_same h1 p1 q1 (by rw [p2];omega) (by rw [q2];omega) (by rw [a1,b1,h2]) (by rw [a2,b2,h3]) (by rw [a3,b3,h4])
 · rw [if_neg h,if_neg h]
theorem norm_rev (xs:List Nat) (mode:Int):normR xs.reverse mode=normR xs mode:=by
 unfold normR
 have hp:(nI xs.reverse).Perm (nI xs):=by
  unfold nI;rw [List.map_reverse];exact List.reverse_perm _
 rw [List.length_reverse,vI_perm hp,sI_perm hp]
theorem rf12_comm (mode:Int) (n m:Nat):rf12 mode n m=rf12 mode m n:=by
 unfold rf12
 by_cases h1:md mode=false
 · simp [h1]
 · by_cases h2:65536<n
   · simp [h1,h2]
   · by_cases h3:65536<m
     · simp [h1,h2,h3]
     · simp [h1,h2,h3,eq_comm]
theorem rf12_same (mode:Int) (n:Nat):rf12 mode n n=if md mode=false then 1 else if 65536<n then 2 else 0:=by
 unfold rf12
 by_cases h1:md mode=false
 · simp [h1]
 · by_cases h2:65536<n
   · simp [h1,h2]
   · simp [h1,h2]
theorem pK_comm12 (x y:Nat):pK x y=pK y x:=by
 unfold pK;rw [Int.max_comm,Int.min_comm,show (!ngW x==ngW y)=(!ngW y==ngW x) by cases ngW x <;> cases ngW y <;> rfl]
theorem pT_comm12 (x y:Nat):pT x y=pT y x:=by
 unfold pT pv7;rw [Int.max_comm,Int.min_comm,show (!ngW x==ngW y)=(!ngW y==ngW x) by cases ngW x <;> cases ngW y <;> rfl,Nat.mul_comm (frW x),Int.add_comm (xpW x)]
theorem dI_comm (xs ys:List Nat):dI ys xs=dI xs ys:=by
 unfold dI;rw [List.zipWith_comm]
 congr 1
 funext x y
 rw [pK_comm12,pT_comm12]
theorem dot_rev (xs ys:List Nat) (mode a b:Int):dotR ys.reverse xs.reverse mode a b=dotR xs ys mode a b:=by
 unfold dotR;rw [List.length_reverse,List.length_reverse,rf12_comm mode ys.length xs.length]
 by_cases h1:may a b=false
 · rw [if_pos h1,if_pos h1]
 · rw [if_neg h1,if_neg h1]
   by_cases h2:rf12 mode xs.length ys.length=0
   · have hl:=(rf12_ok h2).2.2.2
     have hp:(dI ys.reverse xs.reverse).Perm (dI xs ys):=by
      rw [dI_comm];unfold dI;rw [←List.reverse_zipWith hl];exact List.reverse_perm _
     rw [if_pos h2,if_pos h2,vI_perm hp,sI_perm hp]
   · rw [if_neg h2,if_neg h2]
def exR (xs:List Nat) (mode a b:Int):Nat×Int:=if mode<0∨4<mode∨may a b=false then (0,1) else if 65536<xs.length then (0,2) else rd10 (vS xs) (sS xs) mode a b
theorem dI_ones:∀ xs:List Nat,dI xs (List.replicate xs.length 4607182418800017408)=xs.map (fun x=>(pK x 4607182418800017408,pT x 4607182418800017408))
 | []=>rfl
 | x::xs=>by
   have:=dI_ones xs;unfold dI at this ⊢;rw [List.length_cons,List.replicate_succ,List.zipWith_cons_cons,List.map_cons,this]
theorem md_iff (mode:Int):md mode=false↔mode<0∨4<mode:=by
 unfold md;simp only [Bool.and_eq_false_iff,decide_eq_false_iff_not];omega
theorem dot_ones (xs:List Nat) (mode a b:Int):dotR xs (List.replicate xs.length 4607182418800017408) mode a b=exR xs mode a b:=by
 have e1:vI (dI xs (List.replicate xs.length 4607182418800017408))=vS xs:=by rw [dI_ones];unfold vI vS;rw [List.foldl_map]
 have e2:sI (dI xs (List.replicate xs.length 4607182418800017408))=sS xs:=by rw [dI_ones];unfold sI sS;rw [List.foldl_map]
 unfold dotR exR;rw [e1,e2,List.length_replicate,rf12_same]
 by_cases h1:may a b=false
 · rw [if_pos h1,if_pos (.inr (.inr h1))]
 · rw [if_neg h1]
   by_cases h2:md mode=false
   · have h3:mode<0∨4<mode∨may a b=false:=by
      rcases (md_iff mode).1 h2 with h|h
      · exact .inl h
      · exact .inr (.inl h)
     rw [if_pos h3];simp [h2]
   · have h3:¬ (mode<0∨4<mode∨may a b=false):=by
      rintro (h|h|h)
      · exact h2 ((md_iff mode).2 (.inl h))
      · exact h2 ((md_iff mode).2 (.inr h))
      · exact h1 h
     rw [if_neg h3]
     by_cases h4:65536<xs.length
     · simp [h2,h4]
     · simp [h2,h4]
theorem Exact12 (xs:List Nat) (a:Option Addr) (n c:Nat) (mode pa pb:Int) (w:World) (hn:n=xs.length) (hF:Fs w.heap.size w a xs) (hW:W64 xs) (hT:Tab w) :
 Calls Tryz.prog 23 #[.slice a n c,.int .i64 mode,.agg #[.int .i64 pa,.int .i64 pb]] w fun r w'=>r=.returned (.tuple #[.float .f64 (exR xs mode pa pb).1,.int .i64 (exR xs mode pa pb).2])∧Below w.heap.size w w':=by
 unfold exR;rw [←hn]
 by_cases h1:mode<0∨4<mode∨may pa pb=false
 · rw [if_pos h1];exact Exact10_arg a n c mode pa pb w h1
 · rw [if_neg h1]
   have hm0:0≤mode:=by omega
   have hm1:mode≤4:=by omega
   have hab:may pa pb=true:=by
    cases h:may pa pb
    · exact absurd (.inr (.inr h)) h1
    · rfl
   by_cases h2:65536<n
   · rw [if_pos h2];exact Exact10_long a n c mode pa pb w hm0 hm1 hab h2
   · rw [if_neg h2];exact Exact10_any xs a n c mode pa pb w hn hF hW hT hm0 hm1 hab (by omega)
end
section
open Go.RowKit J
attribute [local go_sem] st_float
theorem wpList_append10 {w:World}{ops:Array Oper}{rest:List Oper}{o:Oper}{a:Act}{Q:Exit→Act→World→Prop}(hgd:o.guard=none) (s x:Operand) (t:TypeId)
 (ho:o.op=.call { callee:=.builtin .append,args:=#[s,x],argTypes:=#[t,t] }) (v u:Value) (hs:a.eval s=v) (hx:a.eval x=u) (v':Value) (w':World)
 (hrun:(Builtin.append_ #[t,t] o.type #[v,u]).run Tryz.prog w=.ok v' w') (h:wpList Tryz.prog ops Q rest (a.put o.dst v') w'):wpList Tryz.prog ops Q (o::rest) a w:=by
 refine wpList_plain hgd fun K hK=>?_
 unfold Oper.wp;simp [execOp,ho,resolve,invoke,builtin,hs,hx,hrun,Result.andThen];exact hK _ _ h
theorem own_fs10 {w:World}{lo n:Nat}{v:Value}{xs:List Nat}(h:w.ownsRow lo 27 1 v n (xs.map Fw10)) (hn:n=xs.length):∃ a c,v=.slice a n c∧n≤c∧Fs w.heap.size w a xs:=by
 have h':=h
 rcases h.2 with ⟨rfl,hn0⟩|⟨g,cap,cur,rfl,hlo,hg,hn1,hm,hs,ht⟩
 · have e:xs=[]:=List.eq_nil_of_length_eq_zero (by rw [←hn];simpa using hn0)
   subst e;have:n=0:=by simpa using hn
   subst this;exact ⟨none,0,rfl,Nat.le_refl _,Fs.nil _ _ _⟩
 · refine ⟨some ⟨g,0,none⟩,cap,rfl,hn1,fun _=>⟨g,0,(Array.getElem?_eq_some_iff.1 hg).1,rfl,fun i hi=>?_⟩⟩
   have:=World.ownsRow.cellAt h' i (by omega)
   rw [Nat.zero_add,this,List.getElem?_map,List.getElem?_eq_getElem hi,List.getD_eq_getElem?_getD,List.getElem?_eq_getElem hi]
   rfl
end
section
open Go.RowKit J
attribute [local go_sem] st_float
theorem append12 (lo:Nat) (v:Value) (K:List Nat) (x:Nat) (w:World) (hb:w.ownsRow lo 27 1 v K.length (K.map Fw10)) (hlo:lo≤w.heap.size) (hk:K.length+1≤17592186043904) :
 ∃ v' w',(Builtin.append_ #[22,22] 22 #[v,.slice (some ⟨w.heap.size,0,none⟩) 1 1]).run Tryz.prog (w.alloc (.cells #[.float .f64 x] 27))=.ok v' w'∧w'.ownsRow lo 27 1 v' (K++[x]).length ((K++[x]).map Fw10)∧Below lo w w'∧w.heap.size≤w'.heap.size:=by
 obtain ⟨i0,hi,hz0,hz1,hz2⟩:=info_parts Tryz.info_f64;obtain ⟨W,hW⟩:∃ W,W=w.alloc (.cells #[.float .f64 x] 27):=⟨_,rfl⟩;have hcx:W.cell? ⟨w.heap.size,0,none⟩=some (.float .f64 x):=by subst hW;unfold World.cell?;simp only [heap_alloc_new];rfl
 have hWb:W.ownsRow lo 27 1 v K.length (K.map Fw10):=by subst hW;exact World.ownsRow.alloc hb _
 have hWs:w.heap.size≤W.heap.size:=by subst hW;simp
 obtain ⟨v',w',r1,r2,r3,_,r5⟩:=run_append_own_at (P:=Tryz.prog) W lo 22 22 27 i0 (.float .f64 0) 1 8 Tryz.und_floats hi hz0 hz1 hz2 rfl (by decide) v K.length (K.map Fw10) hWb ⟨w.heap.size,0,none⟩ 1 1 [.float .f64 x] rfl (by
  intro j u hj
  match j,hj with
  | 0,hj=>simp at hj;subst hj;simpa [Addr.add] using hcx) (by intro u hu;simp at hu;subst hu;rfl) (by unfold maxLen;omega) (by omega) (by omega)
 rw [←hW];refine ⟨v',w',r1,?_,?_,?_⟩
 · rw [List.length_append,List.map_append];exact r2
 · have hlw:Below lo w W:=by subst hW;exact (Below.refl _ _).alloc hlo _
   refine ⟨r3.os.trans hlw.os,r3.tape.trans hlw.tape,r3.output.trans hlw.output,Nat.le_trans hlw.size r3.size,fun k hkl=>?_⟩
   rw [r3.block k (by omega) (fun e=>by
    rcases hWb.2 with ⟨e2,_⟩|⟨g,cap,cur,e2,hlo2,_⟩
    · rw [e2] at e;simp [Value.ownBlock] at e
    · rw [e2] at e;simp [Value.ownBlock] at e;omega)]
   exact hlw.block k hkl
 · exact Nat.le_trans hWs r3.size
theorem drop_rev (xs:List Nat) (k:Nat) (h:k<xs.length):(xs.drop k).reverse=(xs.drop (k+1)).reverse++[xs.getD k 0]:=by
 rw [List.drop_eq_getElem_cons h,List.reverse_cons,List.getD_eq_getElem?_getD,List.getElem?_eq_getElem h]
 rfl
theorem back12 (xs:List Nat) (a:Option Addr) (n c:Nat) (w:World) (hn:n=xs.length) (hF:Fs w.heap.size w a xs) (hm:n≤17592186043904) :
 Calls Tryz.prog 21 #[.slice a n c] w fun r w'=>∃ a2 c2,r=.returned (.slice a2 n c2)∧Fs w'.heap.size w' a2 xs.reverse∧Below w.heap.size w w':=by
 have HX:=qsd (ai hn (ai hF hm));clear hn hF;go_enter Tryz.func21,Tryz.ntmps21;go_wp2
 go_loopg [3,4] n (fun gk v i wr=>∃ (j:Nat) (v0:Value),gk=j∧i=.int .i64 ((j:Int)-1)∧v=v0∧Aside (j≤n∧wr.ownsRow w.heap.size 27 1 v0 ((xs.drop j).reverse).length (((xs.drop j).reverse).map Fw10)∧Below w.heap.size w wr))
 case atStart =>
  refine ⟨n,_,rfl,by first | rfl | simp,rfl,Nat.le_refl _,?_,Below.refl _ _⟩
  have e:xs.drop n=[]:=by rw [HX.out.1];simp
  rw [e];exact World.ownsRow_nil w w.heap.size 27 1
 case round =>
  obtain ⟨j,v,hgk,rfl,hv,HA⟩:=hrel;have hv':=hv.symm;clear hv;subst hv'
  cases j with
  | zero =>
    have hd:decide ((0:Int)≤((0:Nat):Int)-1)=false:=by decide
    obtain ⟨a2,c2,rfl,hc2,hF2⟩:=own_fs10 HA.out.2.1 rfl;have HL:Aside ((xs.drop 0).reverse.length=n∧Fs wr.heap.size wr a2 xs.reverse∧Below w.heap.size w wr):=⟨by simp [HX.out.1],by simpa using hF2,HA.out.2.2⟩
    obtain ⟨l,hl⟩:∃ l,l=(xs.drop 0).reverse.length:=⟨_,rfl⟩;rw [←hl] at HL ⊢;clear hc2 hF2 HA hl;go_wp2;go_ret;have e:=HL.out.1;exact ⟨a2,c2,by rw [e];rfl,HL.out.2⟩
  | succ k =>
    have ek:((k+1:Nat):Int)-1=(k:Nat):=by omega
    rw [ek];have hk:k<n:=by have:=HA.out.1;omega
    obtain ⟨b,off,rfl,hcx⟩:=HX.out.2.1.at HA.out.2.2 k (by rw [←HX.out.1];exact hk)
    obtain ⟨x,hx⟩:∃ x,x=xs.getD k 0:=⟨_,rfl⟩;rw [←hx] at hcx;have HZ:=qsd (show (xs.drop k).reverse=(xs.drop (k+1)).reverse++[x] by rw [hx];exact drop_rev xs k (by rw [←HX.out.1];exact hk))
    obtain ⟨v',w',r1,r2,r3,r4⟩:=append12 w.heap.size v ((xs.drop (k+1)).reverse) x wr HA.out.2.1 HA.out.2.2.size (by simp;have:=HX.out.1;have:=HX.out.2.2;omega)
    have HR:=qsd r1;have HN:=qsd (ai r2 (HA.out.2.2.trans r3));have hkb:k<4611686018427387904:=by have:=HX.out.2.2;omega
    clear r1 r2 r3 r4 hx
    go_wp2_with (at_builtin;refine wpList_append10 rfl (.tmp 12) (.tmp 17) 22 rfl _ _ rfl rfl _ _ HR.out ?_)
    go_roundg k
    case measure=>omega
    case rel =>
     refine ⟨k,_,rfl,by first | rfl | simp,rfl,by omega,?_,HN.out.2⟩
     rw [HZ.out];exact HN.out.1
theorem rep_set (n k x:Nat) (hk:k<n):(List.replicate k x++List.replicate (n-k) 0).set k x=List.replicate (k+1) x++List.replicate (n-(k+1)) 0:=by
 rw [List.set_append_right _ _ (by simp)]
 rw [List.length_replicate,Nat.sub_self,show n-k=(n-(k+1))+1 by omega,List.replicate_succ,List.set_cons_zero,List.replicate_succ',List.append_assoc]
 rfl
theorem like12 (a:Option Addr) (n c x:Nat) (w:World) (hm:n≤17592186043904) :
 Calls Tryz.prog 22 #[.slice a n c,.float .f64 x] w fun r w'=>∃ a2 c2,r=.returned (.slice a2 n c2)∧Fs w'.heap.size w' a2 (List.replicate n x)∧Below w.heap.size w w':=by
 have hmk:=make_floats (n:Int) n rfl (by omega)
 have H0:=qsd (OwnF.made w n);have HB:=qsd (bel_alloc w (.cells (madeCells #[.float .f64 0] n) 27));obtain ⟨W,hW⟩:∃ W,W=w.alloc (.cells (madeCells #[.float .f64 0] n) 27):=⟨_,rfl⟩;rw [←hW] at H0 HB;go_enter Tryz.func22,Tryz.ntmps22;go_wp2
 try rw [←hW]
 clear hW hmk
 go_loopg [6] n (fun gk i wr=>∃ k:Nat,gk+k=n∧i=.int .i64 (k:Nat)∧Aside (OwnF wr w.heap.size (List.replicate k x++List.replicate (n-k) 0)∧But w.heap.size W wr))
 case atStart=>exact ⟨0,by omega,by simp,by simpa using H0.out,But.refl _ _⟩
 case round =>
  obtain ⟨k,hgk,rfl,HA⟩:=hrel
  by_cases hk:k<n
  · have hcl:=HA.out.1.cell k (by simp;omega)
    have hfz:=HA.out.1.frozen k;have hkb:k<4611686018427387904:=by omega
    have HS:=qsd (HA.out.1.set k x);rw [rep_set n k x hk] at HS;go_wp2
    go_roundg (gk-1)
    case measure=>omega
    case rel=>exact ⟨k+1,by omega,by first | rfl | simp,HS.out,HA.out.2.set _ _⟩
  · obtain rfl:n=k:=by omega
    have hd:decide ((n:Int)<n)=false:=by simp
    go_wp2;go_ret;have hO:=HA.out.1;rw [Nat.sub_self,List.replicate_zero,List.append_nil] at hO;have:=hO.fs (B:=wr.heap.size) hO.lt n;rw [List.take_of_length_le (by simp)] at this
    exact ⟨_,_,rfl,this,But.below HB.out HA.out.2 HB.out.size (Nat.le_refl _)⟩
attribute [local go_sem] B.f64bits in
theorem alike12 (x:Nat) (w:World):Calls Tryz.prog 14 #[.float .f64 x,.float .f64 x] w fun r w'=>r=.returned (.bool true)∧w'=w:=by
 go_enter Tryz.func14,Tryz.ntmps14;go_wp2;go_ret;exact ⟨by first | rfl | simp,rfl⟩
end
section
open Go.ChangeShapes Go.WideShapes Go.ChangeAt Go.RowKit
theorem trodF {H:Type}{enc:TypeId×Value→H}{P:Program}{w:World}{base:Nat}{spare:Nat→Bool}{held:Bool}{fuel:Nat}{t:TypeId}{cs:List Value}{x:DataW H×List MemPlace}{k:FloatKind}(ht:P.underlying t=some (.float k)) (h:DataW.trod enc P w base spare held fuel t cs=some x):∃ n,cs=[.float k n]∧x=(.lit (.float k n),[])∧(Lit.float k n).wf=true:=by
 cases fuel with
 | zero=>simp [DataW.trod] at h
 | succ m =>
   simp only [DataW.trod,ht] at h
   split at h <;> simp_all
structure CameF (w:World) (a:Option Addr) (n c:Nat) (xs:List Nat):Prop where
 len:n=xs.length
 cap:n≤c
 wf:W64 xs
 rd:Fs w.heap.size w a xs
 nil:a=none→c=0
theorem add_noneF (b off i:Nat):(⟨b,off,none⟩:Addr).add i=⟨b,off+i,none⟩:=by unfold Addr.add;split <;> simp_all
def numF {H:Type} (y:DataW H×List MemPlace):Nat:=match y.1 with | .lit (.float _ n)=>n | _=>0
theorem Tryz.cellsF:Tryz.prog.cellsOf 27=1:=by kernel_rfl
theorem Tryz.bytesF:Tryz.prog.bytesOf 27=8:=by kernel_rfl
theorem cameF_of {H:Type}{enc:TypeId×Value→H}{W:World}{a:Option Addr}{n c:Nat}{d:DataW H}{p:List MemPlace}(h:DataW.Trod enc Tryz.prog W 0 (fun _=>true) true 22 (.slice a n c) d p) :
 ∃ xs,CameF W a n c xs∧((d=.nil∧c=0)∨∃ elems spare:List (DataW H),d=.slice elems spare∧elems.length+spare.length=c):=by
 obtain ⟨fuel,hf⟩:=h
 rcases DataW.trod_slice Tryz.underlying22 hf with ⟨hcs,hx⟩|⟨x,l,cp,elems,rest,m,_,hcs,hx,hb,hl,hm,hlen,hel,hsp,hns⟩
 · simp [Value.cells] at hcs
   obtain ⟨rfl,rfl,rfl⟩:=hcs;exact ⟨[],⟨rfl,Nat.le_refl _,(fun x hx=>by cases hx),(fun h=>absurd rfl h),fun _=>rfl⟩,.inl ⟨(Prod.mk.inj hx).1,rfl⟩⟩
 · simp [Value.cells] at hcs
   obtain ⟨rfl,rfl,rfl⟩:=hcs
   have each:∀ i y,i<n→elems[i]?=some y→y=(.lit (.float .f64 (numF y)),[])∧(Lit.float .f64 (numF y)).wf=true∧W.cell? (x.add i)=some (.float .f64 (numF y)):=by
    intro i y hi hy;have hb':=hel i hi;rw [hy,Tryz.cellsF,Nat.mul_one,Option.bind_eq_some_iff] at hb';obtain ⟨cs',hcs,hy'⟩:=hb';obtain ⟨k,rfl,rfl,hw⟩:=trodF Tryz.underlying27 hy';exact ⟨rfl,hw,cell_of_cells?_one hcs⟩
   refine ⟨elems.map numF,⟨by simp [hlen],hl,?_,?_,fun e=>by cases e⟩,.inr ⟨_,_,(Prod.mk.inj hx).1,?_⟩⟩
   · intro y hy
     obtain ⟨z,hz,rfl⟩:=List.mem_map.1 hy;obtain ⟨i,hi⟩:=List.getElem?_of_mem hz;have hil:=(List.getElem?_eq_some_iff.1 hi).1;have:=(each i z (by omega) hi).2.1
     exact of_decide_eq_true this
   · intro hne
     obtain ⟨b,off,spot⟩:=x
     have hn0:0<n:=by
      rcases Nat.eq_zero_or_pos n with h0|h0
      · rw [h0] at hlen;have:=List.eq_nil_of_length_eq_zero hlen;subst this;simp at hne
      · exact h0
     have hc0:=(each 0 (elems[0]'(by omega)) hn0 (List.getElem?_eq_getElem _)).2.2
     have hspot:spot=none:=by simpa [Addr.add] using World.cell?_spot hc0
     subst hspot;refine ⟨b,off,World.block_lt_of_cell? W _ (by simpa [Addr.add] using hc0),rfl,fun i hi=>?_⟩
     rw [List.length_map] at hi;have hadd:=add_noneF b off i;have:=(each i (elems[i]'hi) (by omega) (List.getElem?_eq_getElem _)).2.2
     rw [hadd] at this;rw [this];simp [List.getD_eq_getElem?_getD,hi]
   · have hr:=(hsp rfl).1
     simp only [List.length_map];omega
theorem cameF_reach {H:Type}{ts:List TypeId}{ds:List (DataW H)}(h:(DataW.weightsEach Tryz.prog ts ds).all (·≤reachBytes)=true) {j:Nat}{d:DataW H}{c n:Nat}(ht:ts[j]?=some 22) (hd:ds[j]?=some d) (hn:n≤c)
 (hc:(d=.nil∧c=0)∨∃ elems spare:List (DataW H),d=.slice elems spare∧elems.length+spare.length=c):n≤17592186043904:=by
 rcases hc with ⟨_,rfl⟩|⟨elems,spare,rfl,hl⟩
 · omega
 · have:=sized_slice h ht hd Tryz.underlying22
   rw [Tryz.bytesF,hl] at this;simp only [reachBytes] at this;omega
end
end Go.Proofs.YthfkleadcnkglaaGreatDoor
