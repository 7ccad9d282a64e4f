import Derived.Test.YthfkleadcnkglaaGreatDoorZ10x
import Derived.Test.YthfkleadcnkglaaGreatDoorD5x
import Derived.Test.YthfkleadcnkglaaGreatDoorD21x
import Derived.Test.YthfkleadcnkglaaGreatDoorD16x
import Derived.Test.YthfkleadcnkglaaGreatDoorD39x
import Derived.Test.YthfkleadcnkglaaGreatDoorS5x
import Derived.Test.YthfkleadcnkglaaGreatDoorW9x
import Derived.Test.YthfkleadcnkglaaGreatDoorP2x
import Derived.Deep.RegionWith
import Derived.Test.YthfkleadcnkglaaGreatDoorX7x
import Derived.Deep.CutRange
import Derived.Test.YthfkleadcnkglaaGreatDoorD32cx
import Derived.Test.YthfkleadcnkglaaGreatDoorD30x
import Derived.Test.YthfkleadcnkglaaGreatDoorM1x
import Derived.Test.YthfkleadcnkglaaGreatDoorW13x
import Derived.BigQuiet
import Derived.Deep.LoopGhost
set_option linter.unusedVariables false
set_option linter.unusedSimpArgs false
set_option maxHeartbeats 16000000
set_option maxRecDepth 20000
namespace Go.Proofs.YthfkleadcnkglaaGreatDoor
namespace J
end J
section
open Go.RowKit Go.Shelf J
attribute [local go_sem] Oper.semAt_some
def oW (x:Nat):Option (Bool×Nat×Int):=fo8 (fvW x)
def pH (x:Nat) (L:List (Nat×W12)):Option (Bool×Nat×Int):=L.foldl (fun o c=>addD (mulD o (oW x)) (oW c.2.1)) o00
theorem pH_snoc (x:Nat) (L:List (Nat×W12)) (c:Nat×W12):pH x (L++[c])=addD (mulD (pH x L) (oW x)) (oW c.2.1):=by simp [pH]
theorem oW_iv (x:Nat) (hx:x<18446744073709551616) (fx:finW x):Iv (oW x) (-1074) 1024:=by
 unfold oW;rw [←of_fo8 hx fx];exact ofK_iv _ _ fx
theorem o00_iv (a b:Int):Iv o00 a b:=by
 refine ⟨false,0,0,rfl,mkS_frm (mkS_zero false 0),.inl rfl⟩
theorem pH_iv (x:Nat) (hx:x<18446744073709551616) (fx:finW x):∀ (L:List (Nat×W12)),(∀ c ∈ L,finW c.2.1)→L.length≤40→Iv (pH x L) (-1074*(L.length+1:Nat)) (1025*(L.length+1:Nat)):=by
 intro L;obtain ⟨k,hk⟩:∃ k,k=L.length:=⟨_,rfl⟩
 induction k generalizing L with
 | zero =>
   intro _ _;have:L=[]:=List.eq_nil_of_length_eq_zero hk.symm;subst this;exact o00_iv _ _
 | succ k ih =>
   intro hf hl;obtain ⟨L',c,rfl⟩:∃ L' c,L=L'++[c]:=⟨L.dropLast,L.getLast (by intro e;subst e;simp at hk),(List.dropLast_concat_getLast _).symm⟩
   have hk':k=L'.length:=by simp at hk;omega
   have h1:=ih L' hk' (fun d hd=>hf d (List.mem_append_left _ hd)) (by simp at hl;omega)
   rw [pH_snoc];simp only [List.length_append,List.length_cons,List.length_nil] at hl ⊢;have h2:=h1.mul (oW_iv x hx fx) (by omega) (by omega) (by omega)
   have h3:=(h2.mono (c:=-1074*((L'.length+1+1:Nat):Int)) (d:=1025*((L'.length+1+1:Nat):Int)-1) (by omega) (by omega)).add ((oW_iv c.2.1 c.2.2 (hf c (by simp))).mono (c:=-1074*((L'.length+1+1:Nat):Int)) (d:=1025*((L'.length+1+1:Nat):Int)-1) (by omega) (by omega)) (by omega) (by omega) (by omega)
   exact h3.mono (by omega) (by omega)
theorem blk_kept {W W':World}{row:Option Nat}(hg:W.grownBy W' row) (hr:∀ r,row=some r→∃ o:Obj,W.heap[r]?=some o∧o.isCells=false) {g:Nat}{cs:Array Value}{t:TypeId}{fz:Nat×Nat}(h:W.heap[g]?=some (.cells cs t fz)):W'.heap[g]?=some (.cells cs t fz) :=
 (grownBy_keeps_cells hg hr h rfl).trans h
theorem Nt.kept12 {lo:Nat}{W W':World}{v:Value}{X:Nat}(h:Nt lo W v X) {row:Option Nat}(hg:W.grownBy W' row) (hr:∀ r,row=Option.some r→∃ o:Obj,W.heap[r]?=Option.some o∧o.isCells=false):Nt lo W' v X:=by
 refine ⟨h.1,?_⟩
 rcases h.2 with hn|⟨g,cap,cur,rfl,hlo,hgc,rest⟩
 · exact .inl hn
 · exact .inr ⟨g,cap,cur,rfl,hlo,blk_kept hg hr hgc,rest⟩
theorem Lo.kept {g:Nat}{W W':World}{o:Option (Bool×Nat×Int)}(h:Lo W g o) {row:Option Nat}(hg:W.grownBy W' row) (hr:∀ r,row=some r→∃ o:Obj,W.heap[r]?=some o∧o.isCells=false):Lo W' g o:=by
 obtain ⟨a,c,h1,h2⟩:=h;exact ⟨a,c,blk_kept hg hr h1,h2.kept12 hg hr⟩
theorem Bx.kept {g t:Nat}{W W':World}{v:Value}(h:Boxed W g t v) {row:Option Nat}(hg:W.grownBy W' row) (hr:∀ r,row=some r→∃ o:Obj,W.heap[r]?=some o∧o.isCells=false):Boxed W' g t v:=blk_kept hg hr h
theorem Bx.below {g t:Nat}{W W':World}{v:Value}(h:Boxed W g t v) (hb:Below W.heap.size W W'):Boxed W' g t v:=(hb.block g h.lt).trans h
theorem of12 (x:Nat) (hx:x<18446744073709551616) (fx:finW x) (u:World) (hT:Tab u):Calls Tryz.prog 57 #[.float .f64 x] u fun r w'=>(∃ v,r=.returned (.tuple #[.agg #[.bool (dN (oW x)),v,.int .i64 (dE (oW x))],.int .i64 0])∧Nt u.heap.size w' v (dX (oW x)))∧Below u.heap.size u w':=of_any8 x ⟨hx,fx⟩ u hT
theorem of12_odd (x:Nat) (hx:x<18446744073709551616) (fx:¬ finW x) (u:World) (hT:Tab u):Calls Tryz.prog 57 #[.float .f64 x] u fun r w'=>(∃ a c,r=.returned (.tuple #[.agg #[.bool false,.slice a 0 c,.int .i64 0],.int .i64 30]))∧Below u.heap.size u w':=by
 have e:B.bw (negW x) (magW x/4503599627370496) (magW x%4503599627370496)=x:=by
  have h1:magW x=x%9223372036854775808:=rfl;unfold B.bw
  by_cases h:9223372036854775808≤x
  · rw [show negW x=true from decide_eq_true h];simp only [Bool.toNat_true];omega
  · rw [show negW x=false from decide_eq_false h];simp only [Bool.toNat_false];omega
 have hm:magW x<9223372036854775808:=Nat.mod_lt _ (by decide)
 have hm2:¬ magW x<9218868437227405312:=fx;have:=Of_any (negW x) (magW x/4503599627370496) (magW x%4503599627370496) (by omega) (by omega) u hT
 rw [e] at this;refine this.mono ?_;rintro r w' ⟨⟨v,rfl,hN⟩,hb⟩;have e1:ofR (negW x) (magW x/4503599627370496) (magW x%4503599627370496)=none:=by unfold ofR;rw [if_pos (by omega)]
 have e2:ofE (magW x/4503599627370496)=30:=by unfold ofE;rw [if_pos (by omega)]
 rw [e1] at hN ⊢;rw [e2];obtain ⟨a,c,rfl,_⟩:=hN.arg (by show (ws 0).length≤_;rw [ws_zero];decide)
 refine ⟨⟨a,c,?_⟩,hb⟩;rw [show (ws (dX (none:Option (Bool×Nat×Int)))).length=0 by simp [dX,ws_zero]]
 rfl
end
section
open Go.RowKit
theorem Iv.fm {o:Option (Bool×Nat×Int)}{a b:Int}(h:Iv o a b):Fm o:=by
 obtain ⟨n,X,e,rfl,F,_⟩:=h;exact ⟨0,_,frm_fv F 0⟩
end
section
open Go.RowKit Go.Shelf J
theorem onward12_odd (w:World) (a b:Option Addr) (la ca lb cb:Nat) (n m:Bool) (e f:Int) (c:Nat)
 (HO:Hid (∀ u:World,Below w.heap.size w u→Calls Tryz.prog 57 #[.float .f64 c] u fun r w'=>(∃ a c,r=.returned (.tuple #[.agg #[.bool false,.slice a 0 c,.int .i64 0],.int .i64 30]))∧Below u.heap.size u w')) :
 Calls Tryz.prog 59 #[.agg #[.bool n,.slice a la ca,.int .i64 e],.agg #[.bool m,.slice b lb cb,.int .i64 f],.float .f64 c] w fun r w'=>r=.returned (.tuple #[.agg #[.bool false,.slice none 0 0,.int .i64 0],.int .i64 30])∧Below w.heap.size w w':=by
 obtain ⟨W,hW⟩:∃ W,W=((w.alloc (Obj.cells #[.bool n,.slice a la ca,.int .i64 e] 47)).alloc (Obj.cells #[.bool m,.slice b lb cb,.int .i64 f] 47)).alloc (Obj.cells #[.bool false,.slice none 0 0,.int .i64 0] 47):=⟨_,rfl⟩
 have H0:Aside (Dk W (w.heap.size+2) false (.slice none 0 0) 0∧Below w.heap.size w W):=by
  subst hW;have z2:=Dk.new ((w.alloc (Obj.cells #[.bool n,.slice a la ca,.int .i64 e] 47)).alloc (Obj.cells #[.bool m,.slice b lb cb,.int .i64 f] 47)) false (.slice none 0 0) 0;rw [World.size_alloc,World.size_alloc] at z2;exact ⟨z2,((below_alloc _ _).trans ((below_alloc _ _).mono (by simp))).trans ((below_alloc _ _).mono (by simp;omega))⟩
 have HW:=qsd hW;clear hW;go_enter Tryz.func59,Tryz.ntmps59
 go_upto_region 1 with fail
 rw [←HW.out];clear HW
 go_wp2_with fail
 refine (HO.out _ H0.out.2).mono ?_;rintro r u ⟨⟨a1,c1,rfl⟩,hb⟩;have D:=(H0.out.1.below hb).below (below_alloc u (Obj.cells #[.bool false,.slice a1 0 c1,.int .i64 0] 47));have B2:=H0.out.2.trans (hb.mono H0.out.2.size)
 have HF:Aside (Dk (st3 (u.alloc (Obj.cells #[.bool false,.slice a1 0 c1,.int .i64 0] 47)) (w.heap.size+2) (.bool false) (.slice none 0 0) (.int .i64 0)) (w.heap.size+2) false (.slice none 0 0) 0∧Below w.heap.size w (st3 (u.alloc (Obj.cells #[.bool false,.slice a1 0 c1,.int .i64 0] 47)) (w.heap.size+2) (.bool false) (.slice none 0 0) (.int .i64 0))) :=
  ⟨D.set _ _ _,st3_bel12 (B2.trans ((below_alloc _ _).mono B2.size)) (Nat.le_trans B2.size (by simp)) (by omega) _ _ _⟩
 obtain ⟨z0,z1,z2,zf0,zf1,zf2⟩:=D.facts;unfold st3 at HF;clear hb HO H0 D B2;go_wp2;obtain ⟨f0,f1,f2,_,_,_⟩:=HF.out.1.facts;refine bodyPost_ret (v:=.tuple #[.agg #[.bool false,.slice none 0 0,.int .i64 0],.int .i64 30]) (by simp [results,Tryz.results59,go_sem,f0,f1,f2]) rfl ⟨rfl,HF.out.2⟩
theorem KeepsOthers.of_below12 {W W':World}(h:Below W.heap.size W W'):KeepsOthers W W':=⟨h.size,fun k o hk _=>(h.block k (Array.getElem?_eq_some_iff.1 hk).1).trans hk⟩
theorem Lo.alloc12 {w:World}{g:Nat}{o:Option (Bool×Nat×Int)}(h:Lo w g o) (b:Obj):Lo (w.alloc b) g o:=h.below (below_alloc _ _)
structure Pl (w W:World) (r v8 v9 vv:Nat) (o ox:Option (Bool×Nat×Int)) (e:Int):Prop where
 val:Lo W vv o
 at8:Lo W v8 ox
 err:Boxed W v9 28 (.int .i64 e)
 r1:Boxed W r 27 (.float .f64 0)
 r2:Boxed W (r+1) 28 (.int .i64 0)
 bel:Below w.heap.size w W
theorem roundP12 {U:World}{a:Option Addr}{c:Nat}{o:Option (Bool×Nat×Int)}(F:Fm o) (N:Nt 0 U (.slice a (ws (dX o)).length c) (dX o)) (hT:Tab U) (mode:Int) (z:Nat×Int) (hz:rndS o mode=z) :
 Calls Tryz.prog 60 #[.agg #[.bool (dN o),.slice a (ws (dX o)).length c,.int .i64 (dE o)],.int .i64 mode] U fun r w'=>r=.returned (.tuple #[.float .f64 z.1,.int .i64 z.2])∧Below U.heap.size U w':=by
 have:=Round_any (F.a12 N) hT (dN o) (dE o) mode F.rng.1 F.rng.2;rw [val_ws,F.re,hz] at this;exact this
theorem up12_sub {α:Type}(f:Nat→α) {k n:Nat}(h:k≤n) {y:α}(hy:y ∈ up12 f k):y ∈ up12 f n:=by
 unfold up12 at hy ⊢;obtain ⟨i,hi,e⟩:=List.mem_map.1 hy;exact List.mem_map.2 ⟨i,List.mem_range.2 (Nat.lt_of_lt_of_le (List.mem_range.1 hi) h),e⟩
theorem Bx.set12 {W:World}{g g' t:Nat}{v:Value}(h:Boxed W g t v) (i:Nat) (u:Value) (hne:g≠g'):Boxed (W.setCell ⟨g',i,none⟩ u) g t v:=(Below.heap_setCell W ⟨g',i,none⟩ u g hne).trans h
theorem Bx.st3 {W:World}{g g' t:Nat}{v:Value}(h:Boxed W g t v) (x y z:Value) (hne:g≠g'):Boxed (st3 W g' x y z) g t v:=Bx.set12 (Bx.set12 (Bx.set12 h 0 x hne) 1 y hne) 2 z hne
theorem Lo.set12 {w:World}{g g':Nat}{o:Option (Bool×Nat×Int)}{t:Nat}{v:Value}(h:Lo w g o) (hb:Boxed w g' t v) (hg:g≠g') (ht:t≠133) (u:Value):Lo (w.setCell ⟨g',0,none⟩ u) g o:=by
 obtain ⟨a,c,h1,h2⟩:=h;refine ⟨a,c,(Below.heap_setCell w ⟨g',0,none⟩ u g hg).trans h1,?_⟩;refine h2.off ((But.refl g' w).set 0 u) ?_
 rcases h2.2 with ⟨e,_⟩|⟨k,cap,cur,e,_,hk,_⟩
 · rw [e];simp [Value.ownBlock]
 · rw [e]
   intro e';obtain rfl:k=g':=by simpa [Value.ownBlock] using e'
   rw [show w.heap[k]?=_ from hb] at hk
   simp at hk;exact ht hk.2
attribute [local go_sem] Oper.semAt_some st_float
set_option maxRecDepth 100000 in
theorem poly12_main (cs:List Nat) (a:Option Addr) (n c x:Nat) (mode:Int) (w:World) (hn:n=cs.length) (hF:Fs w.heap.size w a cs) (hW:W64 cs) (hx:x<18446744073709551616) (fx:finW x) (hT:Tab w) (hm:md mode=true) (hl:n≤33) :
 Calls Tryz.prog 19 #[.slice a n c,.float .f64 x,.int .i64 mode] w fun r w' =>
  ((∀ y ∈ up12 (dn12 cs hW n) n,finW y.2.1)∧r=.returned (.tuple #[.float .f64 (rndS (pH x (up12 (dn12 cs hW n) n)) mode).1,.int .i64 (rndS (pH x (up12 (dn12 cs hW n) n)) mode).2])∨(∃ y ∈ up12 (dn12 cs hW n) n,¬ finW y.2.1)∧r=.returned (.tuple #[.float .f64 0,.int .i64 30]))∧Below w.heap.size w w':=by
 have HI:=hid (fun u:World=>isMode12 mode u)
 rw [hm] at HI;have HO:=hid (fun (u:World) (h:Tab u)=>of12 x hx fx u h)
 have hd:decide ((33:Int)<(n:Int))=false:=by simp;omega
 obtain ⟨ox,hox⟩:∃ o,o=oW x:=⟨_,rfl⟩;rw [←hox] at HO;have Fx:Fm ox:=by rw [hox];exact (oW_iv x hx fx).fm
 have HX:=qsd (ai hn (ai hF (ai hx (ai fx (ai hT (ai hox hl))))));clear hn hF hT hox hm fx hx hl;refine (callsIn_wide (n:=10)).1 ?_;refine callsIn_of_wp_marks Tryz.func19 rfl trivial ?_ rfl;simp only [Tryz.ntmps19,List.size_toArray,List.length_cons,List.length_nil,Nat.reduceAdd,Nat.reduceSub,Array.replicate_succ,Array.replicate_zero,List.push_toArray,List.append_toArray,List.nil_append,List.cons_append]
 gi_wp2_with fail
 refine ⟨trivial,(callsIn_wide.2 (HI.out _)).mono ?_⟩;rintro e w' ⟨rfl,rfl⟩;obtain ⟨W,hW'⟩:∃ W,W=(w.alloc (Obj.cells #[.float .f64 0] 27)).alloc (Obj.cells #[.int .i64 0] 28):=⟨_,rfl⟩
 have H0:Aside (Boxed W w.heap.size 27 (.float .f64 0)∧Boxed W (w.heap.size+1) 28 (.int .i64 0)∧Below w.heap.size w W∧W.heap.size=w.heap.size+2):=by
  subst hW';have z:=Boxed.new (w.alloc (Obj.cells #[.float .f64 0] 27)) 28 (.int .i64 0);rw [World.size_alloc] at z;exact ⟨(Boxed.new w _ _).alloc _,z,(below_alloc _ _).trans ((below_alloc _ _).mono (by simp)),by simp⟩
 clear HI;rw [←hW'];clear hW'
 gi_wp2_with fail
 refine ⟨trivial,(callsIn_wide.2 (HO.out W (HX.out.2.2.2.2.1.belows H0.out.2.2.1))).mono ?_⟩;rintro e u ⟨⟨v,rfl,hN⟩,hb⟩;obtain ⟨a1,c1,rfl,hN0⟩:=Lo.shape Fx hN;have HN:=qsd (ai hN0 hb);clear hN hN0 hb HO
 gi_wp2_with fail
 refine ⟨trivial,(back_in Fence.wide _ trivial rfl _ _ _ _).mono ?_⟩;rintro e w' ⟨rfl,rfl⟩
 gi_wp2_with fail
 obtain ⟨L,hL⟩:∃ L,L=(((u.alloc (Obj.cells #[.bool (dN ox),.slice a1 (ws (dX ox)).length c1,.int .i64 (dE ox)] 47)).alloc (Obj.cells #[.int .i64 0] 28)).alloc (Obj.cells #[.bool false,.slice none 0 0,.int .i64 0] 47)).alloc (Obj.cells #[.slice a n c] 22):=⟨_,rfl⟩;have hLs:L.heap.size=u.heap.size+4:=by rw [hL];simp
 have hus:w.heap.size+2≤u.heap.size:=by have:=HN.out.2.size;have:=H0.out.2.2.2;omega
 have HL:Aside (Pl w L w.heap.size u.heap.size (u.heap.size+1) (u.heap.size+1+1) o00 ox 0∧Boxed L (u.heap.size+1+1+1) 22 (.slice a n c)):=by
  rw [hL];have q1:=Lo.new (o:=ox) HN.out.1;have q2:=Boxed.new (u.alloc (Obj.cells #[.bool (dN ox),.slice a1 (ws (dX ox)).length c1,.int .i64 (dE ox)] 47)) 28 (.int .i64 0);have q3:=Lo.zero ((u.alloc (Obj.cells #[.bool (dN ox),.slice a1 (ws (dX ox)).length c1,.int .i64 (dE ox)] 47)).alloc (Obj.cells #[.int .i64 0] 28));have q4:=Boxed.new (((u.alloc (Obj.cells #[.bool (dN ox),.slice a1 (ws (dX ox)).length c1,.int .i64 (dE ox)] 47)).alloc (Obj.cells #[.int .i64 0] 28)).alloc (Obj.cells #[.bool false,.slice none 0 0,.int .i64 0] 47)) 22 (.slice a n c);rw [World.size_alloc] at q2;rw [World.size_alloc,World.size_alloc] at q3;rw [World.size_alloc,World.size_alloc,World.size_alloc] at q4;have bu:=H0.out.2.2.1.trans (HN.out.2.mono H0.out.2.2.1.size);exact ⟨⟨q3.alloc12 _,((q1.alloc12 _).alloc12 _).alloc12 _,(q2.alloc _).alloc _,((((Bx.below H0.out.1 HN.out.2).alloc _).alloc _).alloc _).alloc _,((((Bx.below H0.out.2.1 HN.out.2).alloc _).alloc _).alloc _).alloc _,(((bu.trans ((below_alloc _ _).mono bu.size)).trans ((below_alloc _ _).mono (by simp;omega))).trans ((below_alloc _ _).mono (by simp;omega))).trans ((below_alloc _ _).mono (by simp;omega))⟩,q4⟩
 rw [←hL];have HLL:=qsd hL;clear hL HN H0
 refine wpIn_rangeFunc_ownF (hro:=rfl) (by omega) (gf:=110) (lb:=#[.pointer (some ⟨u.heap.size+1+1+1,0,none⟩)]) rfl trivial (enters_of Tryz.func110 (by kernel_rfl) rfl)
  (back_stops Fence.wide _ trivial rfl (by omega) (u.heap.size+1+1+1) w.heap.size a n c cs hW HX.out.1 HX.out.2.2.2.2.2.2 L (by omega) (by omega) HL.out.2.cell (HX.out.2.1.below HL.out.1.bel))
  Kp12.trans (fun A l o o' hl h hc hw=>⟨belowK_b (w:=L) (by omega) A l o o' hl h hc hw,World.putObj_heap_other (by omega)⟩) (Below.refl _ _) (fun _=>rfl)
  (fun pre A=>(Lo A (u.heap.size+1+1) (pH x pre)∧Lo A u.heap.size ox∧Boxed A (u.heap.size+1) 28 (.int .i64 0)∧Boxed A w.heap.size 27 (.float .f64 0)∧Boxed A (w.heap.size+1) 28 (.int .i64 0)∧Boxed A (u.heap.size+1+1+1) 22 (.slice a n c)∧∀ y ∈ pre,finW y.2.1)∧Below w.heap.size w A)
  (fun c pre A=>(c=.ret∧Boxed A w.heap.size 27 (.float .f64 0)∧Boxed A (w.heap.size+1) 28 (.int .i64 30)∧∃ y ∈ pre,¬ finW y.2.1)∧Below w.heap.size w A)
  (OwnFrom.and (Own.from (fun s A B row hs hg hr=>⟨hs.1.kept hg hr,hs.2.1.kept hg hr,Bx.kept hs.2.2.1 hg hr,Bx.kept hs.2.2.2.1 hg hr,Bx.kept hs.2.2.2.2.1 hg hr,Bx.kept hs.2.2.2.2.2.1 hg hr,hs.2.2.2.2.2.2⟩) _) (ownFrom_below (Nat.le_refl _) (by omega)))
  (fun c=>OwnFrom.and (Own.from (fun s A B row hs hg hr=>⟨hs.1,Bx.kept hs.2.1 hg hr,Bx.kept hs.2.2.1 hg hr,hs.2.2.2⟩) _) (ownFrom_below (Nat.le_refl _) (by omega)))
  ⟨⟨HL.out.1.val,HL.out.1.at8,HL.out.1.err,HL.out.1.r1,HL.out.1.r2,HL.out.2,fun y hy=>by cases hy⟩,HL.out.1.bel⟩
  (fun y:Nat×W12=>{ tmps:=#[.slice a n c,.float .f64 x,.int .i64 mode,undef,undef,undef,.pointer (some ⟨w.heap.size,0,none⟩),.pointer (some ⟨w.heap.size+1,0,none⟩),.pointer (some ⟨u.heap.size,0,none⟩),.pointer (some ⟨u.heap.size+1,0,none⟩),.pointer (some ⟨u.heap.size+1+1,0,none⟩),undef,.float .f64 y.2.1,.bool false,.int .i64 mode,.bool true,.bool false,.bool false,.slice a n c,.int .i64 (n:Nat),.bool false,.tuple #[.agg #[.bool (dN ox),.slice a1 (ws (dX ox)).length c1,.int .i64 (dE ox)],.int .i64 0],.float .f64 x,.tuple #[.agg #[.bool (dN ox),.slice a1 (ws (dX ox)).length c1,.int .i64 (dE ox)],.int .i64 0],.agg #[.bool (dN ox),.slice a1 (ws (dX ox)).length c1,.int .i64 (dE ox)],.int .i64 0,.int .i64 0,.bool false,undef,.slice a n c,.func (.func 110) #[] #[.pointer (some ⟨u.heap.size+1+1+1,0,none⟩)],.int .i64 (y.1:Int),.float .f64 y.2.1,undef,undef,undef,undef,undef,undef,undef,undef,undef,undef,undef,undef,undef,undef,undef],defers:=[] }) ?assign ?body ?done ?stop
 case assign =>
  intro l y A K hK
  gi_wp2
  exact hK
 case body =>
  rintro l pre y A ⟨⟨hV,hA8,hE,hR1,hR2,hBs,hfin⟩,hB⟩ hlen;have hTA:Tab A:=HX.out.2.2.2.2.1.belows hB;obtain ⟨o0,ho0⟩:∃ o,o=pH x pre:=⟨_,rfl⟩;have hlen33:pre.length<33:=by have:=HX.out.2.2.2.2.2.2;omega
  have iv0:=pH_iv x HX.out.2.2.1 HX.out.2.2.2.1 pre hfin (by omega)
  rw [←ho0] at hV iv0;have HV:Aside (Lo A (u.heap.size+1+1) o0∧Lo A u.heap.size ox∧Boxed A (u.heap.size+1) 28 (.int .i64 0)∧Boxed A w.heap.size 27 (.float .f64 0)∧Boxed A (w.heap.size+1) 28 (.int .i64 0)∧Below w.heap.size w A∧Tab A∧Boxed A (u.heap.size+1+1+1) 22 (.slice a n c)):=⟨hV,hA8,hE,hR1,hR2,hB,hTA,hBs⟩;obtain ⟨p0,q0,D0,M0⟩:=hV;obtain ⟨p1,q1,D1,M1⟩:=hA8;obtain ⟨x0,x1,x2,xf0,xf1,xf2⟩:=D0.facts;obtain ⟨y0,y1,y2,yf0,yf1,yf2⟩:=D1.facts;obtain ⟨yi,⟨yw,hyw⟩⟩:=y
  by_cases fy:finW yw
  · have iv1:=pH_iv x HX.out.2.2.1 HX.out.2.2.2.1 (pre++[(yi,⟨yw,hyw⟩)]) (fun z hz=>by
     rcases List.mem_append.1 hz with h|h
     · exact hfin z h
     · rw [List.mem_singleton] at h;subst h;exact fy) (by simp;omega)
    have ivm:=iv0.mul (oW_iv x HX.out.2.2.1 HX.out.2.2.2.1) (by omega) (by omega) (by omega)
    have hFM:Fm (mulD o0 ox):=by rw [HX.out.2.2.2.2.2.1];exact ivm.fm
    obtain ⟨o2,ho2⟩:∃ o,o=pH x (pre++[(yi,⟨yw,hyw⟩)]):=⟨_,rfl⟩;have F2:Fm o2:=by rw [ho2];exact iv1.fm
    have e2:addD (mulD o0 ox) (oW yw)=o2:=by rw [ho2,pH_snoc,ho0,HX.out.2.2.2.2.2.1]
    have HC:=hid (onward12 A p0 p1 q0 q1 o0 ox (oW yw) (mulD o0 ox) o2 yw hTA ⟨iv0.fm,Fx,(oW_iv yw hyw fy).fm,hFM,F2⟩ ⟨rfl,e2⟩ M0 M1 (hid (fun U hU=>of12 yw hyw fy U hU)))
    have HP:=qsd (ai F2 (ai ho2 (ai hfin fy)));clear D0 M0 D1 M1 hE hR1 hR2 hBs hB hTA iv0 iv1 ivm hFM e2 F2 ho2 ho0 hfin fy hlen
    gi_wp2_with fail
    refine ⟨trivial,(CallsIn.inRound l (callsIn_wide.2 HC.out)).mono ?_⟩;rintro e A2 ⟨⟨v,rfl,hN⟩,hb⟩;obtain ⟨a3,c3,rfl,hN0⟩:=Lo.shape HP.out.1 hN;have s1:=HV.out.1.below hb;have s2:=Bx.below HV.out.2.2.1 hb;have hne1:u.heap.size+1≠u.heap.size+1+1:=by omega
    obtain ⟨A3,hA3⟩:∃ A3,A3=(st3 A2 (u.heap.size+1+1) (.bool (dN o2)) (.slice a3 (ws (dX o2)).length c3) (.int .i64 (dE o2))).setCell ⟨u.heap.size+1,0,none⟩ (.int .i64 0):=⟨_,rfl⟩
    have H3:Aside (KeepsOthers A A3∧Kp12 w.heap.size (u.heap.size+1+1+1) A A3∧(Lo A3 (u.heap.size+1+1) o2∧Lo A3 u.heap.size ox∧Boxed A3 (u.heap.size+1) 28 (.int .i64 0)∧Boxed A3 w.heap.size 27 (.float .f64 0)∧Boxed A3 (w.heap.size+1) 28 (.int .i64 0)∧Boxed A3 (u.heap.size+1+1+1) 22 (.slice a n c))∧Below w.heap.size w A3):=by
     have t1:=s1.set hN0;have t2:=(HV.out.2.1.below hb).other s1 (by omega) (.bool (dN o2)) (.slice a3 (ws (dX o2)).length c3) (.int .i64 (dE o2))
     have t3:=Bx.st3 s2 (.bool (dN o2)) (.slice a3 (ws (dX o2)).length c3) (.int .i64 (dE o2)) hne1;have t4:=Bx.st3 (Bx.below HV.out.2.2.2.1 hb) (.bool (dN o2)) (.slice a3 (ws (dX o2)).length c3) (.int .i64 (dE o2)) (show w.heap.size≠u.heap.size+1+1 by omega)
     have t5:=Bx.st3 (Bx.below HV.out.2.2.2.2.1 hb) (.bool (dN o2)) (.slice a3 (ws (dX o2)).length c3) (.int .i64 (dE o2)) (show w.heap.size+1≠u.heap.size+1+1 by omega)
     have t6:=Bx.st3 (Bx.below HV.out.2.2.2.2.2.2.2 hb) (.bool (dN o2)) (.slice a3 (ws (dX o2)).length c3) (.int .i64 (dE o2)) (show u.heap.size+1+1+1≠u.heap.size+1+1 by omega)
     have hbw:Below w.heap.size A A2:=hb.mono HV.out.2.2.2.2.2.1.size;rw [hA3];have b1:Below w.heap.size A (st3 A2 (u.heap.size+1+1) (.bool (dN o2)) (.slice a3 (ws (dX o2)).length c3) (.int .i64 (dE o2))):=But.below hbw (st3_but12 _ _ _ _ _) (Nat.le_trans HV.out.2.2.2.2.2.1.size hb.size) (by omega)
     have b2:Below w.heap.size A ((st3 A2 (u.heap.size+1+1) (.bool (dN o2)) (.slice a3 (ws (dX o2)).length c3) (.int .i64 (dE o2))).setCell ⟨u.heap.size+1,0,none⟩ (.int .i64 0)):=But.below b1 ((But.refl _ _).set 0 _) (Nat.le_trans HV.out.2.2.2.2.2.1.size b1.size) (by omega)
     refine ⟨((((KeepsOthers.of_below12 hb).trans (KeepsOthers.setCell _ _ _)).trans (KeepsOthers.setCell _ _ _)).trans (KeepsOthers.setCell _ _ _)).trans (KeepsOthers.setCell _ _ _),⟨b2,?_⟩,⟨Lo.set12 t1 t3 (by omega) (by decide) _,Lo.set12 t2 t3 (by omega) (by decide) _,t3.set _,Bx.set12 t4 0 _ (by omega),Bx.set12 t5 0 _ (by omega),Bx.set12 t6 0 _ (by omega)⟩,HV.out.2.2.2.2.2.1.trans b2⟩
     have hk:u.heap.size+1+1+1<A.heap.size:=HV.out.2.2.2.2.2.2.2.lt;have c1:=hb.block _ hk;have c2:=(st3_but12 (u.heap.size+1+1) A2 (.bool (dN o2)) (.slice a3 (ws (dX o2)).length c3) (.int .i64 (dE o2))).block (u.heap.size+1+1+1) (Nat.lt_of_lt_of_le hk hb.size) (by omega)
     have c3':=Below.heap_setCell (st3 A2 (u.heap.size+1+1) (.bool (dN o2)) (.slice a3 (ws (dX o2)).length c3) (.int .i64 (dE o2))) ⟨u.heap.size+1,0,none⟩ (.int .i64 0) (u.heap.size+1+1+1) (show u.heap.size+1+1+1≠u.heap.size+1 by omega)
     exact c3'.trans (c2.trans c1)
    obtain ⟨p3,q3,D3,M3⟩:=s1;obtain ⟨z0,z1,z2,zf0,zf1,zf2⟩:=D3.facts;have ec:=s2.cell;have ef:=s2.frozen;unfold st3 at hA3;have HA3:=qsd hA3;clear D3 M3 hN hN0 hb HC x0 x1 x2 xf0 xf1 xf2 y0 y1 y2 yf0 yf1 yf2 s2 hA3
    gi_wp2
    rw [←HA3.out];obtain ⟨_,e2,hfin,fy⟩:=HP.out;rw [e2] at H3;refine ⟨H3.out.1,H3.out.2.1,⟨H3.out.2.2.1.1,H3.out.2.2.1.2.1,H3.out.2.2.1.2.2.1,H3.out.2.2.1.2.2.2.1,H3.out.2.2.1.2.2.2.2.1,H3.out.2.2.1.2.2.2.2.2,fun z hz=>?_⟩,H3.out.2.2.2⟩
    rcases List.mem_append.1 hz with h|h
    · exact hfin z h
    · rw [List.mem_singleton] at h;subst h;exact fy
  · have HC:=hid (onward12_odd A p0 p1 (ws (dX o0)).length q0 (ws (dX ox)).length q1 (dN o0) (dN ox) (dE o0) (dE ox) yw (hid (fun U hU=>of12_odd yw hyw fy U (hTA.belows hU))))
    have HP:=qsd fy;clear D0 M0 D1 M1 hE hR1 hR2 hBs hB hTA iv0 ho0 hfin fy hlen
    gi_wp2_with fail
    refine ⟨trivial,(CallsIn.inRound l (callsIn_wide.2 HC.out)).mono ?_⟩;rintro e A2 ⟨rfl,hb⟩;have s1:=HV.out.1.below hb;have s2:=Bx.below HV.out.2.2.1 hb;have s3:=Bx.below HV.out.2.2.2.1 hb;have s4:=Bx.below HV.out.2.2.2.2.1 hb;have hne1:u.heap.size+1≠u.heap.size+1+1:=by omega
    have hne2:w.heap.size≠u.heap.size+1+1:=by omega
    have hne3:w.heap.size+1≠u.heap.size+1+1:=by omega
    have hne4:w.heap.size≠u.heap.size+1:=by omega
    have hne5:w.heap.size+1≠u.heap.size+1:=by omega
    have hne6:w.heap.size≠w.heap.size+1:=by omega
    obtain ⟨A3,hA3⟩:∃ A3,A3=(st3 A2 (u.heap.size+1+1) (.bool false) (.slice none 0 0) (.int .i64 0)).setCell ⟨u.heap.size+1,0,none⟩ (.int .i64 30):=⟨_,rfl⟩
    have H3:Aside (KeepsOthers A A3∧Boxed A3 (u.heap.size+1) 28 (.int .i64 30)∧Boxed A3 w.heap.size 27 (.float .f64 0)∧Boxed A3 (w.heap.size+1) 28 (.int .i64 0)∧Below w.heap.size w A3):=by
     rw [hA3];have hbw:Below w.heap.size w A2:=HV.out.2.2.2.2.2.1.trans (hb.mono HV.out.2.2.2.2.2.1.size);have b1:=st3_bel12 hbw hbw.size (show w.heap.size≤u.heap.size+1+1 by omega) (.bool false) (.slice none 0 0) (.int .i64 0)
     exact ⟨((((KeepsOthers.of_below12 hb).trans (KeepsOthers.setCell _ _ _)).trans (KeepsOthers.setCell _ _ _)).trans (KeepsOthers.setCell _ _ _)).trans (KeepsOthers.setCell _ _ _),(Bx.st3 s2 _ _ _ hne1).set _,Bx.set12 (Bx.st3 s3 _ _ _ hne2) 0 _ hne4,Bx.set12 (Bx.st3 s4 _ _ _ hne3) 0 _ hne5,But.below b1 ((But.refl _ _).set 0 _) b1.size (by omega)⟩
    obtain ⟨p3,q3,D3,M3⟩:=s1;obtain ⟨z0,z1,z2,zf0,zf1,zf2⟩:=D3.facts;have ec:=s2.cell;have ef:=s2.frozen;unfold st3 at hA3;have HA3:=qsd hA3;clear HC x0 x1 x2 xf0 xf1 xf2 y0 y1 y2 yf0 yf1 yf2 s2 s3 s4 hA3 hne1 hne2 hne3 D3 M3
    gi_wp2
    rw [←HA3.out];clear HA3 z0 z1 z2 zf0 zf1 zf2 ec ef;have ec:=H3.out.2.1.cell;have r1c:=H3.out.2.2.1.cell;have r1f:=H3.out.2.2.1.frozen;have r2c:=H3.out.2.2.2.1.cell;have r2f:=H3.out.2.2.2.1.frozen;have hmx:Tryz.prog.follows .mixedOrders=true:=by kernel_rfl
    have HF:Aside (KeepsOthers A ((A3.setCell ⟨w.heap.size,0,none⟩ (.float .f64 0)).setCell ⟨w.heap.size+1,0,none⟩ (.int .i64 30)).drew∧(Boxed ((A3.setCell ⟨w.heap.size,0,none⟩ (.float .f64 0)).setCell ⟨w.heap.size+1,0,none⟩ (.int .i64 30)).drew w.heap.size 27 (.float .f64 0)∧Boxed ((A3.setCell ⟨w.heap.size,0,none⟩ (.float .f64 0)).setCell ⟨w.heap.size+1,0,none⟩ (.int .i64 30)).drew (w.heap.size+1) 28 (.int .i64 30))∧Below w.heap.size w ((A3.setCell ⟨w.heap.size,0,none⟩ (.float .f64 0)).setCell ⟨w.heap.size+1,0,none⟩ (.int .i64 30)).drew):=by
     have b1:=But.below H3.out.2.2.2.2 ((But.refl w.heap.size A3).set 0 (.float .f64 0)) H3.out.2.2.2.2.size (Nat.le_refl _);exact ⟨H3.out.1.trans (((KeepsOthers.setCell _ _ _).trans (KeepsOthers.setCell _ _ _)).trans (KeepsOthers.drew _)),⟨Bx.set12 (H3.out.2.2.1.set _) 0 _ hne6,(Bx.set12 H3.out.2.2.2.1 0 _ (by omega)).set _⟩,(But.below b1 ((But.refl (w.heap.size+1) _).set 0 _) b1.size (by omega)).drew⟩
    gi_region_with_o (fail)
    all_goals gi_wp2
    all_goals exact ⟨HF.out.1,⟨rfl,HF.out.2.1.1,HF.out.2.1.2,⟨(yi,⟨yw,hyw⟩),by simp,HP.out⟩⟩,HF.out.2.2⟩
 case done =>
  rintro D ys A hD rfl ⟨⟨hV,hA8,hE,hR1,hR2,hBs,hfin⟩,hB⟩ hK;have hTA:Tab A:=HX.out.2.2.2.2.1.belows hB;have iv0:=pH_iv x HX.out.2.2.1 HX.out.2.2.2.1 _ hfin (by rw [up12_len];have:=HX.out.2.2.2.2.2.2;omega)
  have HP:=qsd hfin;obtain ⟨o0,ho0⟩:∃ o,o=pH x (up12 (dn12 cs hW n) n):=⟨_,rfl⟩;rw [←ho0] at hV iv0;obtain ⟨z,hz⟩:∃ z,rndS o0 mode=z:=⟨_,rfl⟩;obtain ⟨p0,q0,D0,M0⟩:=hV;obtain ⟨x0,x1,x2,xf0,xf1,xf2⟩:=D0.facts;have HR:=hid (roundP12 iv0.fm M0 hTA mode z hz);have HV:Aside (Boxed A w.heap.size 27 (.float .f64 0)∧Boxed A (w.heap.size+1) 28 (.int .i64 0)∧Below w.heap.size w A∧A.heap[D]?=some (.deferred (some []))∧rndS (pH x (up12 (dn12 cs hW n) n)) mode=z):=⟨hR1,hR2,hB,hK,by rw [←ho0];exact hz⟩
  have hne:w.heap.size≠w.heap.size+1:=by omega
  clear D0 M0 hA8 hE hR1 hR2 hBs hfin hB hTA iv0 ho0 hz hK
  gi_wp2_with fail
  refine ⟨trivial,(callsIn_wide.2 HR.out).mono ?_⟩;rintro e A2 ⟨rfl,hb⟩;have s1:=Bx.below HV.out.1 hb;have s2:=Bx.below HV.out.2.1 hb;have e1:=s1.cell;have e2:=s2.cell;have f1:=s1.frozen;have f2:=s2.frozen
  have H3:Aside (Boxed ((A2.setCell ⟨w.heap.size,0,none⟩ (.float .f64 z.1)).setCell ⟨w.heap.size+1,0,none⟩ (.int .i64 z.2)) w.heap.size 27 (.float .f64 z.1)∧Boxed ((A2.setCell ⟨w.heap.size,0,none⟩ (.float .f64 z.1)).setCell ⟨w.heap.size+1,0,none⟩ (.int .i64 z.2)) (w.heap.size+1) 28 (.int .i64 z.2)∧Below w.heap.size w ((A2.setCell ⟨w.heap.size,0,none⟩ (.float .f64 z.1)).setCell ⟨w.heap.size+1,0,none⟩ (.int .i64 z.2))∧((A2.setCell ⟨w.heap.size,0,none⟩ (.float .f64 z.1)).setCell ⟨w.heap.size+1,0,none⟩ (.int .i64 z.2)).heap[D]?=some (.deferred (some []))):=by
   have hbw:=HV.out.2.2.1.trans (hb.mono HV.out.2.2.1.size);refine ⟨Bx.set12 (s1.set _) 0 _ hne,(Bx.set12 s2 0 _ (by omega)).set _,?_,?_⟩
   · have b1:=But.below hbw ((But.refl w.heap.size A2).set 0 (.float .f64 z.1)) hbw.size (Nat.le_refl _)
     exact But.below b1 ((But.refl (w.heap.size+1) _).set 0 _) b1.size (by omega)
   · exact ((KeepsOthers.of_below12 hb).trans ((KeepsOthers.setCell _ _ _).trans (KeepsOthers.setCell _ _ _))).same D _ HV.out.2.2.2.1 rfl
  have HZ:=qsd HV.out.2.2.2.2;clear HV HR hb x0 x1 x2 xf0 xf1 xf2 s1 s2
  gi_wp2
  have g1:=cell_kept H3.out.1.cell (grownBy_putObj' _ D (.deferred none)) (fun r e=>by cases e;exact ⟨_,H3.out.2.2.2,rfl⟩)
  have g2:=cell_kept H3.out.2.1.cell (grownBy_putObj' _ D (.deferred none)) (fun r e=>by cases e;exact ⟨_,H3.out.2.2.2,rfl⟩)
  refine ⟨by simp,.inl ⟨_,_,rfl,run_takeDeferred H3.out.2.2.2,?_⟩⟩
  exact ⟨.tuple #[.float .f64 z.1,.int .i64 z.2],by simp [results,Tryz.results19,go_sem,g1,g2],.inl ⟨HP.out,by rw [HZ.out]⟩,H3.out.2.2.1.trans (belowK_b (w:=L) (by omega) _ D _ _ hD H3.out.2.2.2 rfl rfl)⟩
 case stop =>
  rintro D c pre A hD ⟨k,hk,rfl⟩ ⟨⟨rfl,hR1,hR2,y,hy,hyf⟩,hB⟩ hK
  gi_wp2
  have g1:=cell_kept hR1.cell (grownBy_putObj' A D (.deferred none)) (fun r e=>by cases e;exact ⟨_,hK,rfl⟩)
  have g2:=cell_kept hR2.cell (grownBy_putObj' A D (.deferred none)) (fun r e=>by cases e;exact ⟨_,hK,rfl⟩)
  refine ⟨by simp,.inl ⟨_,_,rfl,run_takeDeferred hK,?_⟩⟩
  exact ⟨.tuple #[.float .f64 0,.int .i64 30],by simp [results,Tryz.results19,go_sem,g1,g2],.inr ⟨⟨y,up12_sub _ hk hy,hyf⟩,rfl⟩,hB.trans (belowK_b (w:=L) (by omega) A D _ _ hD hK rfl rfl)⟩
end
section
open Go.RowKit J
attribute [local go_sem] st_float
set_option maxRecDepth 100000 in
theorem poly12_mode (a:Option Addr) (n c x:Nat) (mode:Int) (w:World) (hm:md mode=false) :
 Calls Tryz.prog 19 #[.slice a n c,.float .f64 x,.int .i64 mode] w fun r w'=>r=.returned (.tuple #[.float .f64 0,.int .i64 1])∧Below w.heap.size w w':=by
 have HI:=hid (fun u:World=>isMode12 mode u)
 rw [hm] at HI;have hne:w.heap.size≠w.heap.size+1:=by omega
 clear hm;go_enter Tryz.func19,Tryz.ntmps19
 go_wp2_with fail
 refine (HI.out _).mono ?_;rintro r w1 ⟨rfl,rfl⟩;clear HI;go_wp2;refine bodyPost_ret (v:=.tuple #[.float .f64 0,.int .i64 1]) (by simp [results,Tryz.results19,go_sem]) rfl ⟨rfl,?_⟩
 first
  | exact (bel_alloc _ _).trans ((bel_alloc _ _).mono (by simp))
  | exact st_bel7 (by simp) (st_bel7 (by simp) ((bel_alloc _ _).trans ((bel_alloc _ _).mono (by simp))))
set_option maxRecDepth 100000 in
theorem poly12_long (a:Option Addr) (n c x:Nat) (mode:Int) (w:World) (hm:md mode=true) (hl:33<n) :
 Calls Tryz.prog 19 #[.slice a n c,.float .f64 x,.int .i64 mode] w fun r w'=>r=.returned (.tuple #[.float .f64 0,.int .i64 2])∧Below w.heap.size w w':=by
 have HI:=hid (fun u:World=>isMode12 mode u)
 rw [hm] at HI;have hne:w.heap.size≠w.heap.size+1:=by omega
 have hd:decide ((33:Int)<(n:Int))=true:=by simp;omega
 clear hm hl;go_enter Tryz.func19,Tryz.ntmps19
 go_wp2_with fail
 refine (HI.out _).mono ?_;rintro r w1 ⟨rfl,rfl⟩;clear HI;go_wp2;refine bodyPost_ret (v:=.tuple #[.float .f64 0,.int .i64 2]) (by simp [results,Tryz.results19,go_sem]) rfl ⟨rfl,?_⟩
 first
  | exact (bel_alloc _ _).trans ((bel_alloc _ _).mono (by simp))
  | exact st_bel7 (by simp) (st_bel7 (by simp) ((bel_alloc _ _).trans ((bel_alloc _ _).mono (by simp))))
set_option maxRecDepth 100000 in
theorem poly12_odd (a:Option Addr) (n c x:Nat) (mode:Int) (w:World) (hm:md mode=true) (hl:n≤33) (hx:x<18446744073709551616) (fx:¬ finW x) (hT:Tab w) :
 Calls Tryz.prog 19 #[.slice a n c,.float .f64 x,.int .i64 mode] w fun r w'=>r=.returned (.tuple #[.float .f64 0,.int .i64 30])∧Below w.heap.size w w':=by
 have HI:=hid (fun u:World=>isMode12 mode u)
 rw [hm] at HI;have HO:=hid (fun (u:World) (h:Tab u)=>of12_odd x hx fx u h)
 have hne:w.heap.size≠w.heap.size+1:=by omega
 have hd:decide ((33:Int)<(n:Int))=false:=by simp;omega
 have HT:=qsd hT;clear hm hl hx fx hT;obtain ⟨W,hW'⟩:∃ W,W=(w.alloc (Obj.cells #[.float .f64 0] 27)).alloc (Obj.cells #[.int .i64 0] 28):=⟨_,rfl⟩
 have H0:Aside (Boxed W w.heap.size 27 (.float .f64 0)∧Boxed W (w.heap.size+1) 28 (.int .i64 0)∧Below w.heap.size w W∧W.heap.size=w.heap.size+2):=by
  subst hW';have z:=Boxed.new (w.alloc (Obj.cells #[.float .f64 0] 27)) 28 (.int .i64 0);rw [World.size_alloc] at z;exact ⟨(Boxed.new w _ _).alloc _,z,(below_alloc _ _).trans ((below_alloc _ _).mono (by simp)),by simp⟩
 go_enter Tryz.func19,Tryz.ntmps19
 go_wp2_with fail
 rw [←hW'];refine (HI.out _).mono ?_;rintro r w1 ⟨rfl,rfl⟩;clear HI hW'
 go_wp2_with fail
 refine (HO.out _ (HT.out.belows H0.out.2.2.1)).mono ?_;rintro r u ⟨⟨a1,c1,rfl⟩,hb⟩;obtain ⟨U,hU⟩:∃ U,U=(u.alloc (Obj.cells #[.bool false,.slice a1 0 c1,.int .i64 0] 47)).alloc (Obj.cells #[.int .i64 30] 28):=⟨_,rfl⟩;have hus:w.heap.size+2≤u.heap.size:=by have:=hb.size;have:=H0.out.2.2.2;omega
 have H1:Aside (Boxed U w.heap.size 27 (.float .f64 0)∧Boxed U (w.heap.size+1) 28 (.int .i64 0)∧Boxed U (u.heap.size+1) 28 (.int .i64 30)∧Below w.heap.size w U):=by
  rw [hU];have z:=Boxed.new (u.alloc (Obj.cells #[.bool false,.slice a1 0 c1,.int .i64 0] 47)) 28 (.int .i64 30);rw [World.size_alloc] at z;have bu:=H0.out.2.2.1.trans (hb.mono H0.out.2.2.1.size);exact ⟨((Bx.below H0.out.1 hb).alloc _).alloc _,((Bx.below H0.out.2.1 hb).alloc _).alloc _,z,((bu.trans ((below_alloc _ _).mono bu.size)).trans ((below_alloc _ _).mono (by simp;omega)))⟩
 have HU:=qsd hU;clear hb HO H0 hU
 go_upto_region 7 with fail
 rw [←HU.out];clear HU;have r1c:=H1.out.1.cell;have r1f:=H1.out.1.frozen;have r2c:=H1.out.2.1.cell;have r2f:=H1.out.2.1.frozen;have ec:=H1.out.2.2.1.cell;have hne4:w.heap.size≠u.heap.size+1:=by omega
 have hne5:w.heap.size+1≠u.heap.size+1:=by omega
 have HF:Aside (Boxed ((U.setCell ⟨w.heap.size,0,none⟩ (.float .f64 0)).setCell ⟨w.heap.size+1,0,none⟩ (.int .i64 30)).drew w.heap.size 27 (.float .f64 0)∧Boxed ((U.setCell ⟨w.heap.size,0,none⟩ (.float .f64 0)).setCell ⟨w.heap.size+1,0,none⟩ (.int .i64 30)).drew (w.heap.size+1) 28 (.int .i64 30)∧Below w.heap.size w ((U.setCell ⟨w.heap.size,0,none⟩ (.float .f64 0)).setCell ⟨w.heap.size+1,0,none⟩ (.int .i64 30)).drew):=by
  have b1:=But.below H1.out.2.2.2 ((But.refl w.heap.size U).set 0 (.float .f64 0)) H1.out.2.2.2.size (Nat.le_refl _);exact ⟨Bx.set12 (H1.out.1.set _) 0 _ hne,(Bx.set12 H1.out.2.1 0 _ (by omega)).set _,(But.below b1 ((But.refl (w.heap.size+1) _).set 0 _) b1.size (by omega)).drew⟩
 go_region
 all_goals (
  go_wp2;have f1:=HF.out.1.cell;have f2:=HF.out.2.1.cell;exact bodyPost_ret (v:=.tuple #[.float .f64 0,.int .i64 30]) (by simp [results,Tryz.results19,go_sem,f1,f2]) rfl ⟨rfl,HF.out.2.2⟩)
def pHw (x:Nat) (L:List Nat):Option (Bool×Nat×Int):=L.foldl (fun o c=>addD (mulD o (oW x)) (oW c)) o00
theorem pH_w (x:Nat) (L:List (Nat×W12)):pH x L=pHw x (L.map (fun y=>y.2.1)):=by unfold pH pHw;rw [List.foldl_map]
theorem dn_rev (cs:List Nat) (hW:W64 cs):(up12 (dn12 cs hW cs.length) cs.length).map (fun y=>y.2.1)=cs.reverse:=by
 unfold up12 dn12;rw [List.map_map]
 apply List.ext_getElem
 · simp
 · intro i h1 h2
   simp at h1;simp [List.getElem_reverse,h1];rw [List.getElem?_eq_getElem (by omega)]
   rfl
noncomputable def plR (cs:List Nat) (x:Nat) (mode:Int):Nat×Int:=open Classical in if md mode=false then (0,1) else if 33<cs.length then (0,2) else if finW x∧∀ y ∈ cs,finW y then rndS (pHw x cs.reverse) mode else (0,30)
theorem Poly12 (cs:List Nat) (a:Option Addr) (n c x:Nat) (mode:Int) (w:World) (hn:n=cs.length) (hF:Fs w.heap.size w a cs) (hW:W64 cs) (hx:x<18446744073709551616) (hT:Tab w) :
 Calls Tryz.prog 19 #[.slice a n c,.float .f64 x,.int .i64 mode] w fun r w'=>r=.returned (.tuple #[.float .f64 (plR cs x mode).1,.int .i64 (plR cs x mode).2])∧Below w.heap.size w w':=by
 unfold plR
 by_cases hm:md mode=false
 · rw [if_pos hm]
   exact poly12_mode a n c x mode w hm
 · rw [if_neg hm]
   have hm:md mode=true:=by simpa using hm
   rw [←hn]
   by_cases hl:33<n
   · rw [if_pos hl]
     exact poly12_long a n c x mode w hm hl
   · rw [if_neg hl]
     by_cases fx:finW x
     · refine (poly12_main cs a n c x mode w hn hF hW hx fx hT hm (by omega)).mono ?_
       subst hn;have hr:=dn_rev cs hW;rintro r w' ⟨h,hb⟩;refine ⟨?_,hb⟩
       rcases h with ⟨h1,rfl⟩|⟨⟨y,hy,hyf⟩,rfl⟩
       · have h2:∀ y ∈ cs,finW y:=fun y hy=>by
          have:y ∈ (up12 (dn12 cs hW cs.length) cs.length).map (fun y=>y.2.1):=by rw [hr];exact List.mem_reverse.2 hy
          obtain ⟨z,hz,rfl⟩:=List.mem_map.1 this;exact h1 z hz
         rw [if_pos ⟨fx,h2⟩,pH_w,hr]
       · rw [if_neg (fun q=>hyf (q.2 _ (List.mem_reverse.1 (by rw [←hr];exact List.mem_map_of_mem hy))))]
     · rw [if_neg (fun q=>fx q.1)]
       exact poly12_odd a n c x mode w hm (by omega) hx fx hT
end
section
open Go.RowKit
theorem rebase {o:Option (Bool×Nat×Int)}{B x:Int}(h:Fv B o x) (hB:B≤-1048576) (D:Int) (hD:D≤0):Fv (B+D) o (x*((2^(0-D).toNat:Nat):Int)):=by
 obtain ⟨n',X',e',hx,F',hz⟩:=h.ex;refine ⟨n',X',e',hx,F',?_⟩;rw [←hz];unfold zv;simp only;rw [Int.mul_assoc,←Int.natCast_mul,Nat.mul_assoc,←Nat.pow_add];have:=F'.down;rw [show (e'-(B+D)).toNat=(e'-B).toNat+(0-D).toNat by omega]
end
section
open Go.RowKit J
def EK:Nat:=1048576
def EX:Nat:=1046428
def EY:Nat:=1047502
theorem exP (a:Nat):∃ u:Nat,u=2^a:=⟨_,rfl⟩
noncomputable def MM:Nat:=Classical.choose (exP EK)
noncomputable def XX:Nat:=Classical.choose (exP EX)
noncomputable def YY:Nat:=Classical.choose (exP EY)
theorem M_eq:MM=2^EK:=Classical.choose_spec (exP EK)
theorem X_eq:XX=2^EX:=Classical.choose_spec (exP EX)
theorem Y_eq:YY=2^EY:=Classical.choose_spec (exP EY)
theorem M_pos:0<MM:=by rw [M_eq];exact Nat.two_pow_pos _
theorem YYXM:YY*YY=XX*MM:=by
 rw [M_eq,X_eq,Y_eq,←Nat.pow_add,←Nat.pow_add,show EY+EY=EX+EK by decide]
theorem Fm.sm {o:Option (Bool×Nat×Int)}(h:Fm o):o.isSome=true:=by
 obtain ⟨B,x,h⟩:=h;obtain ⟨n,X,e,rfl,_⟩:=h.ex;rfl
theorem Fm.val {o:Option (Bool×Nat×Int)}(h:Fm o):Fv (-1048576) o (valO o):=fvO h.re h.sm
theorem Fv.uniq {B x y:Int}{o:Option (Bool×Nat×Int)}(h1:Fv B o x) (h2:Fv B o y):x=y:=by
 obtain ⟨n,X,e,ho,_,hz⟩:=h1.ex;obtain ⟨n',X',e',ho',_,hz'⟩:=h2.ex;rw [ho] at ho'
 cases ho'
 exact hz.symm.trans hz'
theorem val_mul {o p:Option (Bool×Nat×Int)}(F:Fm o) (G:Fm p) (H:Fm (mulD o p)):valO (mulD o p)*(MM:Int)=valO o*valO p:=by
 have h1:=Fv.mul (by decide) (by decide) F.val G.val H.sm
 have h2:=rebase H.val (by decide) (-1048576) (by decide)
 rw [show ((0:Int) - -1048576).toNat=EK from rfl,←M_eq] at h2
 exact (h1.uniq h2).symm
theorem val_add {o p:Option (Bool×Nat×Int)}(F:Fm o) (G:Fm p) (H:Fm (addD o p)):valO (addD o p)=valO o+valO p :=
 H.val.uniq (Fv.add (by decide) F.val G.val H.sm)
theorem valO_inj {o p:Option (Bool×Nat×Int)}(F:Fm o) (G:Fm p) (h:valO o=valO p):o=p:=by
 obtain ⟨h1,h2,h3⟩:=Fv.same (by decide) F.val G.val h
 obtain ⟨n,X,e,rfl,_⟩:=F.val.ex;obtain ⟨m,Y,f,rfl,_⟩:=G.val.ex;have h1:n=m:=h1;have h2:X=Y:=h2;have h3:e=f:=h3;rw [h1,h2,h3]
theorem val_mk {n:Bool}{X:Nat}{e:Int}(h:Fm (mkS n X e)) (he:-1048576≤e) (k:Nat) (hk:(e+1048576).toNat=k):valO (mkS n X e)=sg1 n*((X*2^k:Nat):Int):=by
 obtain ⟨⟨n',Y,f⟩,ho⟩:=Option.isSome_iff_exists.1 h.sm;have:=zv_mkS ho (-1048576) (.inr he);rw [show (e - -1048576).toNat=k by rw [←hk];congr 1] at this
 rw [←this,ho];rfl
theorem sg1_natAbs (V:Int) (K:Nat):sg1 (decide (V<0))*((V.natAbs*K:Nat):Int)=V*(K:Int):=by
 rw [Int.natCast_mul,←Int.mul_assoc]
 congr 1
 unfold sg1
 by_cases h:V<0
 · rw [decide_eq_true h,if_pos rfl];omega
 · rw [decide_eq_false h,if_neg (by decide)];omega
theorem val_ex {V:Int}(h:Fm (exV V)):valO (exV V)=V*(XX:Int):=by
 unfold exV at h ⊢;rw [val_mk h (by decide) EX rfl,←X_eq,sg1_natAbs]
theorem val_fo {V:Int}(h:Fm (fo8 V)):valO (fo8 V)=V*(YY:Int):=by
 unfold fo8 at h ⊢;rw [val_mk h (by decide) EY rfl,←Y_eq,sg1_natAbs]
theorem ex_iv (V:Int) (m:Nat) (hm:m≤100000) (hV:V.natAbs<2^m):Iv (exV V) (-2148) ((m:Int)-2148):=by
 unfold exV;refine mkS_iv _ _ _ _ _ (.inr ⟨by omega,?_⟩) (by omega) (by omega) (by omega)
 have:=bl_lt_pow hV;omega
theorem ex_fm (V:Int) (m:Nat) (hm:m≤100000) (hV:V.natAbs<2^m):Fm (exV V):=(ex_iv V m hm hV).fm
theorem oW_fm (x:Nat) (hx:x<18446744073709551616) (fx:finW x):Fm (oW x):=(oW_iv x hx fx).fm
theorem val_oW (x:Nat) (hx:x<18446744073709551616) (fx:finW x):valO (oW x)=fvW x*(YY:Int):=val_fo (oW_fm x hx fx)
theorem top_sq {x y:Nat}(hx:x<18446744073709551616) (fx:finW x) (hy:y<18446744073709551616) (fy:finW y) (m:Nat) (hm:m=4196):(fvW x*fvW y).natAbs<2^m:=by
 obtain ⟨z,hz⟩:∃ z,z=2098:=⟨_,rfl⟩;have h1:=top_fv hx fx z hz;have h2:=top_fv hy fy z hz;rw [Int.natAbs_mul,show m=z+z by omega,Nat.pow_add]
 exact Nat.mul_lt_mul'' h1 h2
theorem mul_ex {x y:Nat}(hx:x<18446744073709551616) (fx:finW x) (hy:y<18446744073709551616) (fy:finW y):mulD (oW x) (oW y)=exV (fvW x*fvW y):=by
 obtain ⟨m,hm⟩:∃ m,m=4196:=⟨_,rfl⟩;have hF:=((oW_iv x hx fx).mul (oW_iv y hy fy) (by omega) (by omega) (by omega)).fm
 have hG:=ex_fm _ m (by omega) (top_sq hx fx hy fy m hm)
 refine valO_inj hF hG ?_;have h:=val_mul (oW_fm x hx fx) (oW_fm y hy fy) hF;rw [val_oW x hx fx,val_oW y hy fy] at h;rw [val_ex hG];have hM:(0:Int)<(MM:Int):=by have:=M_pos;omega
 refine Int.eq_of_mul_eq_mul_right (by omega) (h.trans ?_)
 have e:(YY:Int)*(YY:Int)=(XX:Int)*(MM:Int):=by rw [←Int.natCast_mul,YYXM,Int.natCast_mul]
 rw [Int.mul_assoc (fvW x),Int.mul_comm (YY:Int) (fvW y*_),Int.mul_assoc (fvW y),e,Int.mul_assoc,Int.mul_assoc]
theorem add_ex {V U:Int}(m:Nat) (hm:m≤90000) (hV:V.natAbs<2^m) (hU:U.natAbs<2^m):addD (exV V) (exV U)=exV (V+U):=by
 have hF:=((ex_iv V m (by omega) hV).add (ex_iv U m (by omega) hU) (by omega) (by omega) (by omega)).fm
 have hs:(V+U).natAbs<2^(m+1):=by rw [Nat.pow_succ];omega
 have hG:=ex_fm (V+U) (m+1) (by omega) hs
 refine valO_inj hF hG ?_;rw [val_add (ex_fm V m (by omega) hV) (ex_fm U m (by omega) hU) hF,val_ex hG,val_ex (ex_fm V m (by omega) hV),val_ex (ex_fm U m (by omega) hU),Int.add_mul]
theorem ex_zero:exV 0=o00:=mkS_zero _ _
end
section
open Go.RowKit J
theorem vd_none (ok:Bool):vd ok 0 0 0 0 0=(0,false):=by unfold vd;cases ok <;> simp
theorem len_fin {V:Int}{s:Sp}{mode:Int}(h1:s.n=0) (h2:s.u=0) (h3:s.d=0):lenV V s mode=sq12 V mode:=by
 unfold lenV;rw [h1,h2,h3,vd_none];rfl
theorem rd_fin {V:Int}{s:Sp}{mode:Int}(h1:s.n=0) (h2:s.u=0) (h3:s.d=0) (hV:V≠0) (hF:Fm (exV V)):rd10 V s mode 0 0=rndS (exV V) mode:=by
 unfold rd10 rd7 ahd;rw [h1,h2,h3,vd_none,if_neg (by omega),if_neg (by omega)]
 simp only [if_neg hV,Bool.false_eq_true,if_false];rw [hF.re]
theorem ex_whole (Y k:Nat) (hk:k=2148):exV ((Y*2^k:Nat):Int)=mkS false Y 0:=by
 unfold exV;rw [decide_eq_false (by omega),Int.natAbs_natCast,Nat.mul_comm,mkS_pow11]
 congr 1
 omega
theorem sqW25:sqW 25 0 1 0=531691198313966349161522824112137830400:=by decide +kernel
theorem s25:sqZ 25 0 1 0=some (false,5,0):=by
 have e1:sqR 531691198313966349161522824112137830400=23058430092136939520:=(sqR_is _).unique ⟨by decide +kernel,by decide +kernel⟩
 have e2:sqD 25 0 1 0=true:=by
  unfold sqD;rw [sqW25,e1]
  decide +kernel
 have e3:clampE (hvX (sqX 25 0 1 0)/2)=-63:=by decide +kernel
 unfold sqZ;rw [sqW25,e1,e2,e3]
 show mkS false 46116860184273879040 (-63)=_
 have:=mkS_pow11 false 63 5 (-63);rw [show 2^63*5=46116860184273879040 by decide] at this
 rw [this];exact mkS_sm false 5 0 (by decide) (by decide) (by decide) (by decide)
theorem sq25 (k:Nat) (hk:k=2148):sq12 ((25*2^k:Nat):Int) 0=(4617315517961601024,0):=by
 have e:mkS false 25 0=some (false,25,0):=by rw [mkS_odd _ _ _ (by decide),if_neg (by decide +kernel)]
 unfold sq12;rw [ex_whole 25 k hk,e]
 show sqrR rndS ⟨false,.bool false,25,0,false,.bool false,1,0⟩ 0=_
 unfold sqrR;rw [if_neg (by decide),if_pos (by rw [errL_one];show errN 25 false 0 1 false 0=0;unfold errN;rw [if_neg (by decide),e,mk_one];decide),e,mk_one]
 show (if false=true then ((0,110):Nat×Int) else rndS (sqZ 25 0 1 0) 0)=_
 rw [if_neg (by decide),s25]
 decide +kernel
theorem v34 (k:Nat) (hk:k=2148):vI (nI [4613937818241073152,4616189618054758400])=((25*2^k:Nat):Int):=by
 subst hk;decide +kernel
theorem v1246 (k:Nat) (hk:k=2148):vI (aI [4607182418800017408,4611686018427387904] [4616189618054758400,4618441417868443648])=((25*2^k:Nat):Int):=by
 subst hk;decide +kernel
theorem norm34:normR [4613937818241073152,4616189618054758400] 0=(4617315517961601024,0):=by
 obtain ⟨k,hk⟩:∃ k,k=2148:=⟨_,rfl⟩;unfold normR;rw [if_pos (by decide),len_fin (by decide +kernel) (by decide +kernel) (by decide +kernel),v34 k hk,sq25 k hk]
theorem dist25:distR [4607182418800017408,4611686018427387904] [4616189618054758400,4618441417868443648] 0=(4617315517961601024,0):=by
 obtain ⟨k,hk⟩:∃ k,k=2148:=⟨_,rfl⟩;unfold distR;rw [if_pos (by decide),len_fin (by decide +kernel) (by decide +kernel) (by decide +kernel),v1246 k hk,sq25 k hk]
theorem vbig (k:Nat) (hk:k=2148):vI (dI [7309342195222315008,4607182418800017408,7309342195222315008] [7309342195222315008,4607182418800017408,16532714232077090816])=((1*2^k:Nat):Int):=by
 subst hk;decide +kernel
theorem o1:Fm (mkS false 1 0):=by rw [mk_one];exact ⟨0,_,frm_fv (mkS_frm mk_one) 0⟩
theorem dotbig:dotR [7309342195222315008,4607182418800017408,7309342195222315008] [7309342195222315008,4607182418800017408,16532714232077090816] 0 0 0=(4607182418800017408,0):=by
 obtain ⟨k,hk⟩:∃ k,k=2148:=⟨_,rfl⟩;have hp:0<2^k:=Nat.two_pow_pos _;unfold dotR;rw [if_neg (by decide),if_pos (by decide),vbig k hk,rd_fin (by decide +kernel) (by decide +kernel) (by decide +kernel) (by omega) (by rw [ex_whole 1 k hk];exact o1),ex_whole 1 k hk,mk_one]
 decide +kernel
theorem dotlen:dotR [4607182418800017408] [] 0 0 0=(0,4):=by
 unfold dotR;rw [if_neg (by decide),if_neg (by decide)]
 decide
end
section
open Go.RowKit J
theorem vI_fold_add:∀ (I:List (Nat×Int)) (v:Int),I.foldl (fun v p=>v+p.2) v=v+I.foldl (fun v p=>v+p.2) 0
 | [],v=>by simp
 | p::I,v=>by
   rw [List.foldl_cons,List.foldl_cons,vI_fold_add I (v+p.2),vI_fold_add I (0+p.2)];omega
theorem vI_append (I J:List (Nat×Int)):vI (I++J)=vI I+vI J:=by
 unfold vI;rw [List.foldl_append,vI_fold_add]
def cI (k:Nat) (I:List (Nat×Int)):Nat:=I.countP (fun p=>p.1==k)
theorem cI_append (k:Nat) (I J:List (Nat×Int)):cI k (I++J)=cI k I+cI k J:=List.countP_append
theorem sI_counts:∀ (I:List (Nat×Int)) (s:Sp),(I.foldl (fun s p=>s.cnt p.1 1) s).n=s.n+cI 1 I∧(I.foldl (fun s p=>s.cnt p.1 1) s).u=s.u+cI 2 I∧(I.foldl (fun s p=>s.cnt p.1 1) s).d=s.d+cI 3 I
 | [],s=>by simp [cI]
 | p::I,s=>by
   obtain ⟨h1,h2,h3⟩:=sI_counts I (s.cnt p.1 1);rw [List.foldl_cons,h1,h2,h3];unfold cI;simp only [List.countP_cons,Sp.cnt];refine ⟨?_,?_,?_⟩
   · by_cases h:p.1=1
     · simp [h];omega
     · simp [h]
   · by_cases h:p.1=2
     · simp [h];omega
     · simp [h]
   · by_cases h:p.1=3
     · simp [h];omega
     · simp [h]
theorem sI_nud (I:List (Nat×Int)):(sI I).n=cI 1 I∧(sI I).u=cI 2 I∧(sI I).d=cI 3 I:=by
 have:=sI_counts I ⟨0,0,0,0,0,0⟩;unfold sI;simpa using this
theorem snd_ok {s:Sp}(h:s.pos) (ha:s.a≤1099511627776):snd s.n s.u s.d s.m s.p s.a=true:=by
 obtain ⟨h1,h2,h3,h4,h5,h6⟩:=h;unfold snd ct;simp only [Bool.and_eq_true,decide_eq_true_eq];omega
theorem nI_ip {xs:List Nat}(h:W64 xs):∀ p ∈ nI xs,Ip p:=by
 intro p hp;obtain ⟨x,hx,rfl⟩:=List.mem_map.1 hp;exact ip_prod (h x hx) (h x hx)
theorem Ip_kind (k:Nat) (hk:k≤5):Ip (k,0):=⟨hk,by have:=QB_pos;show -(QB:Int)≤0;omega,by show (0:Int)≤QB;omega⟩
theorem ap12_ip {x y:Nat}(hx:x<18446744073709551616) (hy:y<18446744073709551616):∀ p ∈ ap12 x y,Ip p:=by
 intro p hp;unfold ap12 at hp
 split at hp
 · have ht:=turn_lt y hy
   simp only [List.mem_cons,List.not_mem_nil,or_false] at hp
   rcases hp with rfl|rfl|rfl|rfl
   · exact ip_prod hx hx
   · exact ip_prod hy hy
   · exact ip_prod hx ht
   · exact ip_prod hx ht
 · simp only [List.mem_cons,List.not_mem_nil,or_false] at hp
   subst hp;exact Ip_kind _ (by unfold k12;split <;> omega)
theorem aI_ip:∀ {xs ys:List Nat},W64 xs→W64 ys→∀ p ∈ aI xs ys,Ip p
 | [],_,_,_,p,hp=>by simp [aI] at hp
 | _::_,[],_,_,p,hp=>by simp [aI] at hp
 | x::xs,y::ys,h1,h2,p,hp=>by
   unfold aI at hp;rw [List.zipWith_cons_cons,List.flatten_cons] at hp
   rcases List.mem_append.1 hp with h|h
   · exact ap12_ip (h1 x List.mem_cons_self) (h2 y List.mem_cons_self) p h
   · exact aI_ip (fun z hz=>h1 z (List.mem_cons_of_mem _ hz)) (fun z hz=>h2 z (List.mem_cons_of_mem _ hz)) p h
end
section
open Go.RowKit
def kOf (k:Nat):Nat:=if k=5 then 1 else if k=3 then 2 else if k=4 then 3 else if k=1 then 4 else if k=2 then 5 else 0
end
section
open Go.RowKit
open Go.Proofs.YthfkleadcnkglaaGreatDoor.B (f64bits f64frombits bw)
attribute [local go_sem] f64bits f64frombits
def infR (neg:Bool):Nat:=if neg then 18442240474082181120 else 9218868437227405312
theorem rInf_any (neg:Bool) (w:World):Calls Tryz.prog 51 #[.bool neg] w fun r w'=>r=.returned (.float .f64 (infR neg))∧w'=w:=by
 cases neg <;>
 · go_enter Tryz.func51,Tryz.ntmps51
   go_wp2;go_ret;exact ⟨rfl,rfl⟩
theorem TheNaN_any (w:World):Calls Tryz.prog 50 #[] w fun r w'=>r=.returned (.float .f64 9221120237041090560)∧w'=w:=by
 go_enter Tryz.func50,Tryz.ntmps50;go_wp2;go_ret;exact ⟨rfl,rfl⟩
def kd (b:Nat):Nat :=
 if 9218868437227405312<b%9223372036854775808 then 5
 else if b%9223372036854775808=9218868437227405312 then (if b/9223372036854775808=1 then 4 else 3)
 else if b%9223372036854775808=0 then (if b/9223372036854775808=1 then 1 else 2)
 else 0
theorem Kind_any (b:Nat) (hb:b<18446744073709551616) (w:World):Calls Tryz.prog 54 #[.float .f64 b] w fun r w'=>r=.returned (.int .i64 (kd b:Nat))∧w'=w:=by
 unfold kd;obtain ⟨z,hz⟩:∃ z,b%9223372036854775808=z:=⟨_,rfl⟩;obtain ⟨s,hs⟩:∃ s,b/9223372036854775808=s:=⟨_,rfl⟩;have hz2:(b:Int)%9223372036854775808=(z:Int):=by omega
 have hs2:(b:Int)/9223372036854775808=(s:Int):=by omega
 have hz3:(b:Int).tmod 9223372036854775808=(z:Int):=by rw [Int.tmod_eq_emod_of_nonneg (by omega)];exact hz2
 have hzl:z<9223372036854775808:=by omega
 have hsl:s<2:=by omega
 rw [hz,hs];clear hz hs
 by_cases h1:9218868437227405312<z
 · rw [if_pos h1]
   have h1':(9218868437227405312:Int)<(z:Int):=by omega
   go_enter Tryz.func54,Tryz.ntmps54;go_wp2;go_ret;exact ⟨rfl,rfl⟩
 · rw [if_neg h1]
   have h1':decide ((9218868437227405312:Int)<(z:Int))=false:=decide_eq_false (by omega)
   have hs01:s=0∨s=1:=by omega
   by_cases h2:z=9218868437227405312
   · subst h2
     rcases hs01 with rfl|rfl
     · go_enter Tryz.func54,Tryz.ntmps54
       go_wp2;go_ret;exact ⟨rfl,rfl⟩
     · go_enter Tryz.func54,Tryz.ntmps54
       go_wp2;go_ret;exact ⟨rfl,rfl⟩
   · rw [if_neg h2]
     have h2':((z:Int)==9218868437227405312)=false:=by rw [beq_eq_false_iff_ne];omega
     by_cases h3:z=0
     · subst h3
       rcases hs01 with rfl|rfl
       · go_enter Tryz.func54,Tryz.ntmps54
         go_wp2;go_ret;exact ⟨rfl,rfl⟩
       · go_enter Tryz.func54,Tryz.ntmps54
         go_wp2;go_ret;exact ⟨rfl,rfl⟩
     · rw [if_neg h3]
       have h3':((z:Int)==0)=false:=by rw [beq_eq_false_iff_ne];omega
       clear h1 h2 h3 hz3
       rcases hs01 with rfl|rfl
       · go_enter Tryz.func54,Tryz.ntmps54
         go_wp2;go_ret;exact ⟨rfl,rfl⟩
       · go_enter Tryz.func54,Tryz.ntmps54
         go_wp2;go_ret;exact ⟨rfl,rfl⟩
end
section
open Go.RowKit J
theorem kd_le12 (b:Nat):kd b≤5:=by unfold kd;(repeat' split) <;> omega
def Sp.in12 (s:Sp):Prop:=(0≤s.n∧s.n≤17592186044416)∧(0≤s.u∧s.u≤17592186044416)∧(0≤s.d∧s.d≤17592186044416)∧(0≤s.m∧s.m≤17592186044416)∧(0≤s.p∧s.p≤17592186044416)∧(0≤s.a∧s.a≤17592186044416)
theorem rCount12 (x:Nat) (n u d m p a:Int) (w:World) (hx:x<18446744073709551616) (hs:(Sp.mk n u d m p a).in12) :
 Calls Tryz.prog 65 #[.agg #[.int .i64 n,.int .i64 u,.int .i64 d,.int .i64 m,.int .i64 p,.int .i64 a],.float .f64 x] w fun r w'=>r=.returned ((Sp.mk n u d m p a).cnt (kOf (kd x)) 1).agg∧Below w.heap.size w w':=by
 have H:=hid (Kind_any x hx);have hk:=kd_le12 x;obtain ⟨k,hkk⟩:∃ k,kd x=k:=⟨_,rfl⟩;rw [hkk] at H hk ⊢;obtain ⟨h0,h1,h2,h3,h4,h5⟩:=hs;simp only at h0 h1 h2 h3 h4 h5;have hne:w.heap.size≠w.heap.size+1:=by omega
 clear hkk;have hc:k=0∨k=1∨k=2∨k=3∨k=4∨k=5:=by omega
 clear hk;have key:∀ (b1 b2 b3 b4 b5 b6:Int),(Sp.mk n u d m p a).cnt (kOf k) 1=⟨b1,b2,b3,b4,b5,b6⟩→((Sp.mk n u d m p a).cnt (kOf k) 1).agg=.agg #[.int .i64 b1,.int .i64 b2,.int .i64 b3,.int .i64 b4,.int .i64 b5,.int .i64 b6]:=fun b1 b2 b3 b4 b5 b6 h=>by rw [h];rfl
 rcases hc with rfl|rfl|rfl|rfl|rfl|rfl
 · rw [key n u d m p (a+1) rfl]
   go_enter Tryz.func65,Tryz.ntmps65
   go_wp2_with fail
   refine (H.out _).mono ?_;rintro r w1 ⟨rfl,rfl⟩;clear H key;go_wp2;exact bodyPost_ret (v:=.agg #[.int .i64 _,.int .i64 _,.int .i64 _,.int .i64 _,.int .i64 _,.int .i64 _]) (by simp [results,Tryz.results65,go_sem]) rfl ⟨rfl,(by repeat (first | exact Below.refl _ _ | assumption | exact Nat.le_refl _ | (simp;done) | (simp;omega) | refine Below.alloc ?_ ?_ _ | refine Below.setCell ?_ ?_ _ | refine Below.drew ?_))⟩
 · rw [key n u d (m+1) p (a+1) rfl]
   go_enter Tryz.func65,Tryz.ntmps65
   go_wp2_with fail
   refine (H.out _).mono ?_;rintro r w1 ⟨rfl,rfl⟩;clear H key;go_wp2;exact bodyPost_ret (v:=.agg #[.int .i64 _,.int .i64 _,.int .i64 _,.int .i64 _,.int .i64 _,.int .i64 _]) (by simp [results,Tryz.results65,go_sem]) rfl ⟨rfl,(by repeat (first | exact Below.refl _ _ | assumption | exact Nat.le_refl _ | (simp;done) | (simp;omega) | refine Below.alloc ?_ ?_ _ | refine Below.setCell ?_ ?_ _ | refine Below.drew ?_))⟩
 · rw [key n u d m (p+1) (a+1) rfl]
   go_enter Tryz.func65,Tryz.ntmps65
   go_wp2_with fail
   refine (H.out _).mono ?_;rintro r w1 ⟨rfl,rfl⟩;clear H key;go_wp2;exact bodyPost_ret (v:=.agg #[.int .i64 _,.int .i64 _,.int .i64 _,.int .i64 _,.int .i64 _,.int .i64 _]) (by simp [results,Tryz.results65,go_sem]) rfl ⟨rfl,(by repeat (first | exact Below.refl _ _ | assumption | exact Nat.le_refl _ | (simp;done) | (simp;omega) | refine Below.alloc ?_ ?_ _ | refine Below.setCell ?_ ?_ _ | refine Below.drew ?_))⟩
 · rw [key n (u+1) d m p (a+1) rfl]
   go_enter Tryz.func65,Tryz.ntmps65
   go_wp2_with fail
   refine (H.out _).mono ?_;rintro r w1 ⟨rfl,rfl⟩;clear H key;go_wp2;exact bodyPost_ret (v:=.agg #[.int .i64 _,.int .i64 _,.int .i64 _,.int .i64 _,.int .i64 _,.int .i64 _]) (by simp [results,Tryz.results65,go_sem]) rfl ⟨rfl,(by repeat (first | exact Below.refl _ _ | assumption | exact Nat.le_refl _ | (simp;done) | (simp;omega) | refine Below.alloc ?_ ?_ _ | refine Below.setCell ?_ ?_ _ | refine Below.drew ?_))⟩
 · rw [key n u (d+1) m p (a+1) rfl]
   go_enter Tryz.func65,Tryz.ntmps65
   go_wp2_with fail
   refine (H.out _).mono ?_;rintro r w1 ⟨rfl,rfl⟩;clear H key;go_wp2;exact bodyPost_ret (v:=.agg #[.int .i64 _,.int .i64 _,.int .i64 _,.int .i64 _,.int .i64 _,.int .i64 _]) (by simp [results,Tryz.results65,go_sem]) rfl ⟨rfl,(by repeat (first | exact Below.refl _ _ | assumption | exact Nat.le_refl _ | (simp;done) | (simp;omega) | refine Below.alloc ?_ ?_ _ | refine Below.setCell ?_ ?_ _ | refine Below.drew ?_))⟩
 · rw [key (n+1) u d m p (a+1) rfl]
   go_enter Tryz.func65,Tryz.ntmps65
   go_wp2_with fail
   refine (H.out _).mono ?_;rintro r w1 ⟨rfl,rfl⟩;clear H key;go_wp2;exact bodyPost_ret (v:=.agg #[.int .i64 _,.int .i64 _,.int .i64 _,.int .i64 _,.int .i64 _,.int .i64 _]) (by simp [results,Tryz.results65,go_sem]) rfl ⟨rfl,(by repeat (first | exact Below.refl _ _ | assumption | exact Nat.le_refl _ | (simp;done) | (simp;omega) | refine Below.alloc ?_ ?_ _ | refine Below.setCell ?_ ?_ _ | refine Below.drew ?_))⟩
def s6 (l:List Nat):Sp:=l.foldl (fun s x=>s.cnt (kOf (kd x)) 1) ⟨0,0,0,0,0,0⟩
theorem s6_take (l:List Nat) (k:Nat) (h:k<l.length):s6 (l.take (k+1))=(s6 (l.take k)).cnt (kOf (kd (l.getD k 0))) 1:=by
 rw [take_snoc10 l k h];simp [s6,List.foldl_append]
theorem cnt_in {s:Sp}{k:Nat}(b:Int) (h:(0≤s.n∧s.n≤b)∧(0≤s.u∧s.u≤b)∧(0≤s.d∧s.d≤b)∧(0≤s.m∧s.m≤b)∧(0≤s.p∧s.p≤b)∧s.a=b):(0≤(s.cnt k 1).n∧(s.cnt k 1).n≤b+1)∧(0≤(s.cnt k 1).u∧(s.cnt k 1).u≤b+1)∧(0≤(s.cnt k 1).d∧(s.cnt k 1).d≤b+1)∧(0≤(s.cnt k 1).m∧(s.cnt k 1).m≤b+1)∧(0≤(s.cnt k 1).p∧(s.cnt k 1).p≤b+1)∧(s.cnt k 1).a=b+1:=by
 obtain ⟨h1,h2,h3,h4,h5,h6⟩:=h;unfold Sp.cnt;simp only;refine ⟨?_,?_,?_,?_,?_,by omega⟩ <;> split <;> omega
theorem s6_in (l:List Nat):∀ k,k≤l.length→(0≤(s6 (l.take k)).n∧(s6 (l.take k)).n≤k)∧(0≤(s6 (l.take k)).u∧(s6 (l.take k)).u≤k)∧(0≤(s6 (l.take k)).d∧(s6 (l.take k)).d≤k)∧(0≤(s6 (l.take k)).m∧(s6 (l.take k)).m≤k)∧(0≤(s6 (l.take k)).p∧(s6 (l.take k)).p≤k)∧(s6 (l.take k)).a=k
 | 0,_=>by simp [s6]
 | k+1,h=>by
   have:=cnt_in (k:=kOf (kd (l.getD k 0))) (k:Int) (s6_in l k (by omega))
   rw [s6_take l k h];simpa using this
def spc (s:Sp):List Value:=[.int .i64 s.n,.int .i64 s.u,.int .i64 s.d,.int .i64 s.m,.int .i64 s.p,.int .i64 s.a]
theorem Bl.set6 {w:World}{g T:Nat}{a b c d e f v0 v1 v2 v3 v4 v5:Value}(h:Bl w g T [a,b,c,d,e,f]):Bl ((((((w.setCell ⟨g,0,none⟩ v0).setCell ⟨g,1,none⟩ v1).setCell ⟨g,2,none⟩ v2).setCell ⟨g,3,none⟩ v3).setCell ⟨g,4,none⟩ v4).setCell ⟨g,5,none⟩ v5) g T [v0,v1,v2,v3,v4,v5] :=
 (((((h.set 0 v0).set 1 v1).set 2 v2).set 3 v3).set 4 v4).set 5 v5
theorem But.set6 {a w:World}{g:Nat}(h:But g a w) (u0 u1 u2 u3 u4 u5:Value):But g a ((((((w.setCell ⟨g,0,none⟩ u0).setCell ⟨g,1,none⟩ u1).setCell ⟨g,2,none⟩ u2).setCell ⟨g,3,none⟩ u3).setCell ⟨g,4,none⟩ u4).setCell ⟨g,5,none⟩ u5) :=
 (((((h.set 0 u0).set 1 u1).set 2 u2).set 3 u3).set 4 u4).set 5 u5
theorem rSpecials12 (xs:List Nat) (a:Option Addr) (n c:Nat) (w:World) (hn:n=xs.length) (hF:Fs w.heap.size w a xs) (hW:W64 xs) (hm:n≤17592186043904) :
 Calls Tryz.prog 24 #[.slice a n c] w fun r w'=>r=.returned (s6 xs).agg∧Below w.heap.size w w':=by
 obtain ⟨W,hWW⟩:∃ W,W=(w.alloc (.cells #[.int .i64 0,.int .i64 0,.int .i64 0,.int .i64 0,.int .i64 0,.int .i64 0] 42)).alloc (.cells #[.int .i64 0,.int .i64 0,.int .i64 0,.int .i64 0,.int .i64 0,.int .i64 0] 42):=⟨_,rfl⟩
 have H0:Aside (Bl W w.heap.size 42 (spc ⟨0,0,0,0,0,0⟩)∧Bl W (w.heap.size+1) 42 (spc ⟨0,0,0,0,0,0⟩)∧Below w.heap.size w W):=by
  rw [hWW];exact ⟨(Bl.new w 42 [_,_,_,_,_,_]).alloc _,Bl.new' (w.alloc _) 42 _ [_,_,_,_,_,_] (by simp),(bel_alloc _ _).trans ((bel_alloc _ _).mono (by simp))⟩
 have HX:=qsd (ai hn (ai hF (ai hW hm)));have hne:w.heap.size≠w.heap.size+1:=by omega
 clear hn hF hW;go_enter Tryz.func24,Tryz.ntmps24;go_wp2;rw [←hWW];clear hWW
 go_loopg [4] n (fun gk iv wr=>∃ i:Nat,gk+i=n∧iv=.int .i64 (i:Nat)∧Aside (Bl wr w.heap.size 42 (spc ⟨0,0,0,0,0,0⟩)∧Bl wr (w.heap.size+1) 42 (spc (s6 (xs.take i)))∧Below w.heap.size w wr))
 case atStart=>exact ⟨0,by omega,by simp,H0.out.1,by simpa [s6] using H0.out.2.1,H0.out.2.2⟩
 case round =>
  clear H0;obtain ⟨i,hgi,rfl,HA⟩:=hrel
  by_cases hi:i<n
  · obtain ⟨b,off,rfl,hcx⟩:=HX.out.2.1.at HA.out.2.2 i (by rw [←HX.out.1];exact hi)
    obtain ⟨x,hx⟩:∃ x,x=xs.getD i 0:=⟨_,rfl⟩;rw [←hx] at hcx;obtain ⟨⟨n0,u0,d0,m0,p0,a0⟩,hs⟩:∃ s,s=s6 (xs.take i):=⟨_,rfl⟩;have hin:=s6_in xs i (by rw [←HX.out.1];omega)
    have HN:=qsd (s6_take xs i (by rw [←HX.out.1];exact hi))
    rw [←hs] at hin HN;rw [←hx] at HN;have hbl:=HA.out.2.1;rw [←hs] at hbl;have HC:=hid (fun u:World=>rCount12 x n0 u0 d0 m0 p0 a0 u (by rw [hx];exact HX.out.2.2.1.get i) (by unfold Sp.in12;simp only at hin ⊢;omega))
    obtain ⟨⟨n1,u1,d1,m1,p1,a1⟩,hs1⟩:∃ s,s=(Sp.mk n0 u0 d0 m0 p0 a0).cnt (kOf (kd x)) 1:=⟨_,rfl⟩;rw [←hs1] at HC HN;unfold Sp.agg at HC;simp only at HC;unfold spc at hbl;simp only at hbl;have HB:=hid hbl;have c0:=hbl.cell 0 _ rfl;have c1:=hbl.cell 1 _ rfl;have c2:=hbl.cell 2 _ rfl;have c3:=hbl.cell 3 _ rfl;have c4:=hbl.cell 4 _ rfl;have c5:=hbl.cell 5 _ rfl;have hlt:=hbl.lt;have hib:i<4611686018427387904:=by omega
    clear hx hs hin hs1 hbl;go_wp2
    go_region_with (go_at_call 65;refine (HC.out _).mono ?_;rintro r w3 ⟨rfl,hb3⟩;have HQ:=qsd (Bl.below (w:=wr.drew) HB.out hb3 hlt);have q0:=HQ.out.cell 0 _ rfl;have q1:=HQ.out.cell 1 _ rfl;have q2:=HQ.out.cell 2 _ rfl;have q3:=HQ.out.cell 3 _ rfl;have q4:=HQ.out.cell 4 _ rfl;have q5:=HQ.out.cell 5 _ rfl;have f0:=HQ.out.frozen 0;have f1:=HQ.out.frozen 1;have f2:=HQ.out.frozen 2;have f3:=HQ.out.frozen 3;have f4:=HQ.out.frozen 4;have f5:=HQ.out.frozen 5;have HB3:=qsd hb3;clear hb3)
    all_goals
     go_wp2
     go_roundg (gk-1)
     case measure=>omega
     case rel =>
      have hbd:Below wr.heap.size wr w3:=(Below.refl _ wr).drew.trans HB3.out;refine ⟨i+1,by omega,by first | rfl | simp,?_,?_,?_⟩
      · exact Bl.but (HA.out.1.below hbd HA.out.1.lt) (But.set6 (But.refl _ _) _ _ _ _ _ _) hne
      · rw [HN.out];exact Bl.set6 HQ.out
      · exact But.below (HA.out.2.2.trans (hbd.mono HA.out.2.2.size)) (But.set6 (But.refl (w.heap.size+1) w3) _ _ _ _ _ _) (Nat.le_trans HA.out.2.2.size hbd.size) (by omega)
  · obtain rfl:n=i:=by omega
    have hd:decide ((n:Int)<n)=false:=by simp
    have e:xs.take n=xs:=List.take_of_length_le (by rw [←HX.out.1];omega)
    obtain ⟨⟨n0,u0,d0,m0,p0,a0⟩,hs⟩:∃ s,s=s6 xs:=⟨_,rfl⟩;have hbl:=HA.out.2.1;rw [e,←hs] at hbl;have HS:=qsd hs;have hrl:=HA.out.1;unfold spc at hbl hrl;simp only at hbl hrl;have c0:=hbl.cell 0 _ rfl;have c1:=hbl.cell 1 _ rfl;have c2:=hbl.cell 2 _ rfl;have c3:=hbl.cell 3 _ rfl;have c4:=hbl.cell 4 _ rfl;have c5:=hbl.cell 5 _ rfl;have r0:=hrl.cell 0 _ rfl;have r1:=hrl.cell 1 _ rfl;have r2:=hrl.cell 2 _ rfl;have r3:=hrl.cell 3 _ rfl;have r4:=hrl.cell 4 _ rfl;have r5:=hrl.cell 5 _ rfl;have f0:=hrl.frozen 0;have f1:=hrl.frozen 1;have f2:=hrl.frozen 2;have f3:=hrl.frozen 3;have f4:=hrl.frozen 4;have f5:=hrl.frozen 5
    have HF:Aside (Bl ((((((wr.setCell ⟨w.heap.size,0,none⟩ (.int .i64 n0)).setCell ⟨w.heap.size,1,none⟩ (.int .i64 u0)).setCell ⟨w.heap.size,2,none⟩ (.int .i64 d0)).setCell ⟨w.heap.size,3,none⟩ (.int .i64 m0)).setCell ⟨w.heap.size,4,none⟩ (.int .i64 p0)).setCell ⟨w.heap.size,5,none⟩ (.int .i64 a0)) w.heap.size 42 [.int .i64 n0,.int .i64 u0,.int .i64 d0,.int .i64 m0,.int .i64 p0,.int .i64 a0]∧Below w.heap.size w ((((((wr.setCell ⟨w.heap.size,0,none⟩ (.int .i64 n0)).setCell ⟨w.heap.size,1,none⟩ (.int .i64 u0)).setCell ⟨w.heap.size,2,none⟩ (.int .i64 d0)).setCell ⟨w.heap.size,3,none⟩ (.int .i64 m0)).setCell ⟨w.heap.size,4,none⟩ (.int .i64 p0)).setCell ⟨w.heap.size,5,none⟩ (.int .i64 a0))) :=
     ⟨Bl.set6 hrl,But.below HA.out.2.2 (But.set6 (But.refl w.heap.size wr) _ _ _ _ _ _) HA.out.2.2.size (Nat.le_refl _)⟩
    clear hbl hrl hs e HA;go_wp2;have g0:=HF.out.1.cell 0 _ rfl;have g1:=HF.out.1.cell 1 _ rfl;have g2:=HF.out.1.cell 2 _ rfl;have g3:=HF.out.1.cell 3 _ rfl;have g4:=HF.out.1.cell 4 _ rfl;have g5:=HF.out.1.cell 5 _ rfl;exact bodyPost_ret (v:=.agg #[.int .i64 n0,.int .i64 u0,.int .i64 d0,.int .i64 m0,.int .i64 p0,.int .i64 a0]) (by simp [results,Tryz.results24,go_sem,g0,g1,g2,g3,g4,g5]) rfl ⟨by rw [←HS.out];rfl,HF.out.2⟩
end
section
open Go.RowKit J
def qV (l:List Nat):Int:=l.foldl (fun v x=>v+fvW x*fvW x) 0
theorem qV_take (l:List Nat) (k:Nat) (h:k<l.length):qV (l.take (k+1))=qV (l.take k)+fvW (l.getD k 0)*fvW (l.getD k 0):=by
 rw [take_snoc10 l k h];simp [qV,List.foldl_append]
theorem qV_fold:∀ (l:List Nat) (v:Int),l.foldl (fun v x=>v+fvW x*fvW x) v=v+qV l
 | [],v=>by simp [qV]
 | x::l,v=>by
   unfold qV;rw [List.foldl_cons,List.foldl_cons,qV_fold l (v+_),qV_fold l (0+_)];omega
theorem qV_cons (x:Nat) (l:List Nat):qV (x::l)=fvW x*fvW x+qV l:=by
 have:=qV_fold l (0+fvW x*fvW x);unfold qV at this ⊢;rw [List.foldl_cons,this];omega
theorem sq_nonneg (x:Int):0≤x*x:=by
 rcases Int.le_total 0 x with h|h
 · exact Int.mul_nonneg h h
 · exact Int.mul_nonneg_of_nonpos_of_nonpos h h
theorem nI_fin:∀ {xs:List Nat},W64 xs→(∀ x ∈ xs,finW x)→vI (nI xs)=qV xs∧cI 1 (nI xs)=0∧cI 2 (nI xs)=0∧cI 3 (nI xs)=0
 | [],_,_=>by simp [nI,cI,vI,qV]
 | x::xs,h,hf=>by
   obtain ⟨h1,h2,h3,h4⟩:=nI_fin (xs:=xs) (fun z hz=>h z (List.mem_cons_of_mem _ hz)) (fun z hz=>hf z (List.mem_cons_of_mem _ hz))
   have hx:=h x List.mem_cons_self;have fx:=hf x List.mem_cons_self;obtain ⟨c1,c2⟩:=pT_mul hx hx fx fx;have e2:nI (x::xs)=[(pK x x,pT x x)]++nI xs:=rfl;rw [e2,vI_append,cI_append,cI_append,cI_append,h1,h2,h3,h4,qV_cons,←c1];refine ⟨by simp [vI],?_⟩
   unfold cI
   rcases c2 with h|h|h <;> simp [List.countP_cons,h]
theorem HBtwo:∃ k:Nat,k=4238∧HB=2^k:=⟨4238,rfl,HB_two 4238 rfl⟩
theorem qV_bd {xs:List Nat}(hW:W64 xs) (hf:∀ x ∈ xs,finW x) (hl:xs.length≤65536):∃ k:Nat,k=4238∧(qV xs).natAbs<2^k:=by
 obtain ⟨k,hk,e⟩:=HBtwo;refine ⟨k,hk,?_⟩;rw [←e,←(nI_fin hW hf).1];have h1:=vI_bd _ (nI_ip hW);have h2:(nI xs).length=xs.length:=by unfold nI;simp
 rw [h2] at h1;have h3:xs.length*QB≤65536*QB:=Nat.mul_le_mul_right _ hl;have h4:=QB_HB;have h5:=QB_pos;omega
end
section
open Go.RowKit
theorem rof8 (x:Nat) (hx:Wd x∧finW x) (w:World) :
 Calls Tryz.prog 25 #[.float .f64 x] w fun r w'=>(∃ v,r=.returned (.tuple #[.agg #[.bool (dN (fo8 (fvW x))),v,.int .i64 (dE (fo8 (fvW x)))],.int .i64 0])∧Nt w.heap.size w' v (dX (fo8 (fvW x))))∧Below w.heap.size w w':=by
 obtain ⟨h1,h2,h3,_⟩:=wd64_bw (negW x) (magW x) (Nat.le_of_lt hx.2);have:=rOf3_any (negW x) (magW x/4503599627370496) (magW x%4503599627370496) h2 h3 w;rw [←h1,←wd_of x hx.1] at this;refine this.mono ?_;rintro r w' ⟨⟨v,rfl,hN⟩,hb⟩;have e:=of_fo8 hx.1 hx.2;unfold ofK at e;rw [e] at hN ⊢;have he:ofE (magW x/4503599627370496)=0:=by unfold ofE;rw [if_neg (by have:=hx.2;omega)]
 rw [he];exact ⟨⟨v,rfl,hN⟩,hb⟩
theorem rsub8 (V U:Int) (m:Nat) (hm:m≤100000) (hV:V.natAbs<2^m) (hU:U.natAbs<2^m) (w:World) (a b:Option Addr) (c d:Nat) (h1:Arg w a (ws (dX (fo8 V))).length c (ws (dX (fo8 V)))) (h2:Arg w b (ws (dX (fo8 U))).length d (ws (dX (fo8 U)))) :
 Calls Tryz.prog 55 #[.agg #[.bool (dN (fo8 V)),.slice a (ws (dX (fo8 V))).length c,.int .i64 (dE (fo8 V))],.agg #[.bool (dN (fo8 U)),.slice b (ws (dX (fo8 U))).length d,.int .i64 (dE (fo8 U))]] w fun r w' =>
  (∃ v,r=.returned (.tuple #[.agg #[.bool (dN (fo8 (V-U))),v,.int .i64 (dE (fo8 (V-U)))],.int .i64 0])∧Nt w.heap.size w' v (dX (fo8 (V-U))))∧Below w.heap.size w w':=by
 obtain ⟨l1,l2,l3,_⟩:=fo8_len V m (by omega) hV
 obtain ⟨k1,k2,k3,_⟩:=fo8_len U m (by omega) hU
 have:=rSub_any3 h1 h2 (by omega) (by omega) (dN (fo8 V)) (dN (fo8 U)) (dE (fo8 V)) (dE (fo8 U)) l2 l3 k2 k3
 rw [val_ws,val_ws,fo8_self V m (by omega) hV,fo8_neg U m (by omega) hU,fo8_add V (-U) m hm hV (by omega),show V+-U=V-U by omega] at this
 refine this.mono ?_;rintro r w' ⟨⟨v,rfl,hN⟩,hb⟩;have e2:2^(m+1)=2*2^m:=by rw [Nat.pow_succ,Nat.mul_comm]
 rw [fo8_er (V-U) (m+1) (by omega) (by omega)]
 exact ⟨⟨v,rfl,hN⟩,hb⟩
section
attribute [local go_sem] B.f64bits B.f64frombits
end
end
section
open Go.RowKit J
theorem Fm.two {o:Option (Bool×Nat×Int)}(h:Fm o):(ws (dX o)).length≤2000000:=Nat.le_trans h.len (by decide)
theorem rmul12 {U:World}{a b:Option Addr}{c d:Nat}{o p q:Option (Bool×Nat×Int)}(F:Fm o) (G:Fm p) (N1:Nt 0 U (.slice a (ws (dX o)).length c) (dX o)) (N2:Nt 0 U (.slice b (ws (dX p)).length d) (dX p)) (h:mulD o p=q) (H:Fm q) :
 Calls Tryz.prog 26 #[.agg #[.bool (dN o),.slice a (ws (dX o)).length c,.int .i64 (dE o)],.agg #[.bool (dN p),.slice b (ws (dX p)).length d,.int .i64 (dE p)]] U fun r w'=>(∃ v,r=.returned (.tuple #[.agg #[.bool (dN q),v,.int .i64 (dE q)],.int .i64 0])∧Nt U.heap.size w' v (dX q))∧Below U.heap.size U w':=by
 have:=rMul_any3 (F.a12 N1) (G.a12 N2) F.two G.two (dN o) (dN p) (dE o) (dE p) F.rng.1 F.rng.2 G.rng.1 G.rng.2;rw [val_ws,val_ws,F.re,G.re,h] at this;unfold DAns at this;rw [H.er] at this;exact this
theorem radd12 {U:World}{a b:Option Addr}{c d:Nat}{o p q:Option (Bool×Nat×Int)}(F:Fm o) (G:Fm p) (N1:Nt 0 U (.slice a (ws (dX o)).length c) (dX o)) (N2:Nt 0 U (.slice b (ws (dX p)).length d) (dX p)) (h:addD o p=q) (H:Fm q) :
 Calls Tryz.prog 27 #[.agg #[.bool (dN o),.slice a (ws (dX o)).length c,.int .i64 (dE o)],.agg #[.bool (dN p),.slice b (ws (dX p)).length d,.int .i64 (dE p)]] U fun r w'=>(∃ v,r=.returned (.tuple #[.agg #[.bool (dN q),v,.int .i64 (dE q)],.int .i64 0])∧Nt U.heap.size w' v (dX q))∧Below U.heap.size U w':=by
 have:=rAdd_any3 (F.a12 N1) (G.a12 N2) F.two G.two (dN o) (dN p) (dE o) (dE p) F.rng.1 F.rng.2 G.rng.1 G.rng.2;rw [val_ws,val_ws,F.re,G.re,h] at this;unfold DAns at this;rw [H.er] at this;exact this
theorem rof12 (x:Nat) (hx:x<18446744073709551616) (fx:finW x) (w:World) :
 Calls Tryz.prog 25 #[.float .f64 x] w fun r w'=>(∃ v,r=.returned (.tuple #[.agg #[.bool (dN (oW x)),v,.int .i64 (dE (oW x))],.int .i64 0])∧Nt w.heap.size w' v (dX (oW x)))∧Below w.heap.size w w':=rof8 x ⟨hx,fx⟩ w
theorem rof12_odd (x:Nat) (hx:x<18446744073709551616) (fx:¬ finW x) (w:World) :
 Calls Tryz.prog 25 #[.float .f64 x] w fun r w'=>(∃ a c,r=.returned (.tuple #[.agg #[.bool false,.slice a 0 c,.int .i64 0],.int .i64 30])∧Nt w.heap.size w' (.slice a 0 c) 0)∧Below w.heap.size w w':=by
 have e:B.bw (negW x) (magW x/4503599627370496) (magW x%4503599627370496)=x:=by
  have h1:magW x=x%9223372036854775808:=rfl;unfold B.bw
  by_cases h:9223372036854775808≤x
  · rw [show negW x=true from decide_eq_true h];simp only [Bool.toNat_true];omega
  · rw [show negW x=false from decide_eq_false h];simp only [Bool.toNat_false];omega
 have hm:magW x<9223372036854775808:=Nat.mod_lt _ (by decide)
 have hm2:¬ magW x<9218868437227405312:=fx;have:=rOf3_any (negW x) (magW x/4503599627370496) (magW x%4503599627370496) (by omega) (by omega) w
 rw [e] at this;refine this.mono ?_;rintro r w' ⟨⟨v,rfl,hN⟩,hb⟩;have e1:ofR (negW x) (magW x/4503599627370496) (magW x%4503599627370496)=none:=by unfold ofR;rw [if_pos (by omega)]
 have e2:ofE (magW x/4503599627370496)=30:=by unfold ofE;rw [if_pos (by omega)]
 rw [e1] at hN ⊢;rw [e2];obtain ⟨a,c,rfl,_⟩:=hN.arg (by show (ws 0).length≤_;rw [ws_zero];decide)
 rw [show (ws (dX (none:Option (Bool×Nat×Int)))).length=0 by simp [dX,ws_zero]] at hN ⊢
 exact ⟨⟨a,c,rfl,hN⟩,hb⟩
end
section
open Go.RowKit J
attribute [local go_sem] st_float
def Fw10 (n:Nat):Value:=.float .f64 n
theorem Tryz.und_floats:Tryz.prog.underlying 22=some (.slice 27):=by kernel_rfl
theorem Tryz.info_f64:(Tryz.prog.info? 27).map (fun i=>(i.zero,i.size,i.bytes))=some (some (.float .f64 0),1,8):=by kernel_rfl
def OwnF (w:World) (g:Nat) (L:List Nat):Prop:=w.heap[g]?=some (.cells (L.map Fw10).toArray 27 (0,0))
theorem OwnF.lt {w:World}{g:Nat}{L:List Nat}(h:OwnF w g L):g<w.heap.size:=(Array.getElem?_eq_some_iff.1 h).1
theorem OwnF.cell {w:World}{g:Nat}{L:List Nat}(h:OwnF w g L) (i:Nat) (hi:i<L.length):w.cell? ⟨g,i,none⟩=some (.float .f64 (L.getD i 0)):=by
 unfold OwnF at h;simp [World.cell?,h,Fw10,hi]
theorem OwnF.frozen {w:World}{g:Nat}{L:List Nat}(h:OwnF w g L) (i:Nat):w.frozen? ⟨g,i,none⟩=false:=by
 unfold OwnF at h;simp [World.frozen?,h]
theorem OwnF.set {w:World}{g:Nat}{L:List Nat}(h:OwnF w g L) (i x:Nat):OwnF (w.setCell ⟨g,i,none⟩ (.float .f64 x)) g (L.set i x):=by
 unfold OwnF at h ⊢;simp only [World.setCell,Array.getElem?_modify,h];simp [Fw10,List.map_set]
theorem OwnF.drew {w:World}{g:Nat}{L:List Nat}(h:OwnF w g L):OwnF w.drew g L:=h
theorem OwnF.below {w w':World}{g B:Nat}{L:List Nat}(h:OwnF w g L) (hb:Below B w w') (hg:g<B):OwnF w' g L:=by
 unfold OwnF at h ⊢;rw [hb.block g hg];exact h
theorem OwnF.fs {w:World}{g B:Nat}{L:List Nat}(h:OwnF w g L) (hg:g<B) (n:Nat):Fs B w (some ⟨g,0,none⟩) (L.take n):=by
 intro _;refine ⟨g,0,hg,rfl,fun i hi=>?_⟩
 rw [List.length_take] at hi;rw [Nat.zero_add,h.cell i (by omega)]
 congr 2
 rw [List.getD_eq_getElem?_getD,List.getD_eq_getElem?_getD,List.getElem?_take,if_pos (by omega)]
theorem make_floats (z:Int) (n:Nat) (hz:z=(n:Int)) (hn:n≤17592186044416) (w:World) :
 (Instr.makeSlice 22 (.int .i64 z) (.int .i64 z)).run Tryz.prog w=.ok (.slice (some ⟨w.heap.size,0,none⟩) n n) (w.alloc (.cells (madeCells #[.float .f64 0] n) 27)):=by
 subst hz;exact run_make_row' 22 27 (.float .f64 0) 8 Tryz.und_floats Tryz.info_f64 rfl .i64 .i64 n (by omega) (by omega) w
theorem OwnF.made (w:World) (n:Nat):OwnF (w.alloc (.cells (madeCells #[.float .f64 0] n) 27)) w.heap.size (List.replicate n 0):=by
 unfold OwnF;have h1:=heap_alloc_new w (.cells (madeCells #[.float .f64 0] n) 27);rw [h1]
 congr 2
 apply Array.toList_inj.1
 rw [toList_madeCells_one];simp [Fw10]
theorem copy_floats (w:World) (g dLen dCap:Nat) (ao:Option Addr) (sLen sCap B:Nat) (ty:TypeId)
 (L xs:List Nat) (hO:OwnF w g L) (hL:dLen≤L.length) (hx:sLen=xs.length) (hR:Fs B w ao xs) (hle:sLen≤dLen) :
 ∃ w',(Builtin.copy_ #[22,22] ty #[.slice (some ⟨g,0,none⟩) dLen dCap,.slice ao sLen sCap]).run Tryz.prog w=.ok (.int .i64 (sLen:Int)) w'∧OwnF w' g (xs++L.drop sLen)∧But g w w':=by
 subst hx;have hmin:Nat.min xs.length dLen=xs.length:=Nat.min_eq_left hle
 by_cases h0:xs=[]
 · subst h0
   exact ⟨w,run_copy_none (P:=Tryz.prog) w 22 22 ty 27 _ _ _ _ _ _ Tryz.und_floats (by kernel_rfl) (by simp at hmin ⊢),by simpa using hO,But.refl _ _⟩
 · obtain ⟨b,off,hlt,rfl,hc⟩:=hR h0
   have hadd:∀ j,(⟨b,off,none⟩:Addr).add j=⟨b,off+j,none⟩:=by intro j;unfold Addr.add;split <;> simp_all
   have hrun:=run_copy_row (P:=Tryz.prog) w 22 22 ty 27 g 0 dLen dCap ⟨b,off,none⟩ xs.length sCap (L.map Fw10).toArray 27 (xs.map Fw10) Tryz.und_floats (by kernel_rfl) hO (by rw [hmin];simp) (by
    intro j v hv;rw [hadd]
    have hj:j<xs.length:=by
     have:=(List.getElem?_eq_some_iff.1 hv).1;simpa using this
    rw [hc j hj];simp [hj,Fw10] at hv;simp [hj,←hv]) (by simp;omega) (by
    intro v hv;obtain ⟨n,_,rfl⟩:=List.mem_map.1 hv
    rfl)
   refine ⟨w.setRow g (((xs++L.drop xs.length).map Fw10)).toArray,?_,setRow_heap w g _ _ 27 _ hO,⟨rfl,rfl,rfl,by simp [World.setRow],fun k _ hk=>setRow_other w g k _ hk⟩⟩
   simpa [List.map_append,List.map_drop,goInt] using hrun
theorem Fs.but {B g:Nat}{w w':World}{ao:Option Addr}{xs:List Nat}(h:Fs B w ao xs) (hb:But g w w') (hB:B≤w.heap.size) (hg:B≤g):Fs B w' ao xs:=by
 intro hne;obtain ⟨b,off,h1,h2,h3⟩:=h hne;refine ⟨b,off,h1,h2,fun i hi=>?_⟩
 rw [←h3 i hi];exact World.cell?_of_block (a:=⟨b,off+i,none⟩) (hb.block b (by omega) (by omega))
end
section
open Go.RowKit J
theorem pHw_snoc (x:Nat) (L:List Nat) (c:Nat):pHw x (L++[c])=addD (mulD (pHw x L) (oW x)) (oW c):=by simp [pHw]
theorem pHw_iv (x:Nat) (hx:x<18446744073709551616) (fx:finW x) (L:List Nat) (hW:W64 L) (hf:∀ c ∈ L,finW c) (hl:L.length≤40):Iv (pHw x L) (-1074*(L.length+1:Nat)) (1025*(L.length+1:Nat)):=by
 have key:∀ M:List Nat,(∀ c ∈ M,c<18446744073709551616)→(∀ c ∈ M,finW c)→∃ M':List (Nat×W12),M'.map (fun y=>y.2.1)=M∧(∀ c ∈ M',finW c.2.1):=by
  intro M
  induction M with
  | nil=>exact fun _ _=>⟨[],rfl,fun c hc=>by cases hc⟩
  | cons m M ih =>
    intro h1 h2;obtain ⟨M',e,h⟩:=ih (fun c hc=>h1 c (List.mem_cons_of_mem _ hc)) (fun c hc=>h2 c (List.mem_cons_of_mem _ hc))
    refine ⟨(0,⟨m,h1 m List.mem_cons_self⟩)::M',by simp [e],fun c hc=>?_⟩
    rcases List.mem_cons.1 hc with rfl|hc
    · exact h2 m List.mem_cons_self
    · exact h c hc
 obtain ⟨M',e,h⟩:=key L hW hf;have:=pH_iv x hx fx M' h (by rw [←e] at hl;simpa using hl)
 rw [pH_w,e] at this;rw [←e] at this ⊢;simpa using this
theorem pHw_val (x:Nat) (hx:x<18446744073709551616) (fx:finW x) (L:List Nat) (c:Nat) (hW:W64 (L++[c])) (hf:∀ d ∈ L++[c],finW d) (hl:L.length≤38) :
 valO (pHw x (L++[c]))*(MM:Int)=valO (pHw x L)*valO (oW x)+valO (oW c)*(MM:Int):=by
 have h1:=pHw_iv x hx fx L (fun d hd=>hW d (List.mem_append_left _ hd)) (fun d hd=>hf d (List.mem_append_left _ hd)) (by omega)
 have h2:=pHw_iv x hx fx (L++[c]) hW hf (by simp;omega)
 have hc:=hW c (by simp)
 have fc:=hf c (by simp)
 have h3:=h1.mul (oW_iv x hx fx) (by omega) (by omega) (by omega)
 rw [pHw_snoc] at h2 ⊢;rw [val_add h3.fm (oW_fm c hc fc) h2.fm,Int.add_mul,val_mul h1.fm (oW_fm x hx fx) h3.fm]
theorem YM (k:Nat) (hk:k=1074):2^k*YY=MM:=by
 rw [Y_eq,M_eq,←Nat.pow_add,show k+EY=EK by rw [hk];decide]
theorem val_int (c j:Nat) (hc:c<18446744073709551616) (fc:finW c) (h:∀ k,k=1074→fvW c=((j*2^k:Nat):Int)):valO (oW c)=((j*MM:Nat):Int):=by
 obtain ⟨k,hk⟩:∃ k,k=1074:=⟨_,rfl⟩;rw [val_oW c hc fc,h k hk,←Int.natCast_mul,Nat.mul_assoc,YM k hk]
theorem f1 (k:Nat) (hk:k=1074):fvW 4607182418800017408=((1*2^k:Nat):Int):=by subst hk;decide +kernel
theorem f2 (k:Nat) (hk:k=1074):fvW 4611686018427387904=((2*2^k:Nat):Int):=by subst hk;decide +kernel
theorem f3 (k:Nat) (hk:k=1074):fvW 4613937818241073152=((3*2^k:Nat):Int):=by subst hk;decide +kernel
theorem M_cancel {a b:Int}(h:a*(MM:Int)=b*(MM:Int)):a=b:=Int.eq_of_mul_eq_mul_right (by have:=M_pos;omega) h
theorem valO_00:valO o00=0:=by unfold valO zv;simp [dX]
theorem mk17:mkS false 17 0=some (false,17,0):=by rw [mkS_odd _ _ _ (by decide),if_neg (by decide +kernel)]
theorem pl17:plR [4607182418800017408,4611686018427387904,4613937818241073152] 4611686018427387904 0=(4625478292286210048,0):=by
 have hx:(4611686018427387904:Nat)<18446744073709551616:=by decide
 have fx:finW 4611686018427387904:=by decide
 have hW:∀ d ∈ [4613937818241073152,4611686018427387904,4607182418800017408],d<18446744073709551616:=by decide
 have hf:∀ d ∈ [4613937818241073152,4611686018427387904,4607182418800017408],finW d:=by decide
 have w1:=val_int _ 1 (by decide) (by decide) f1
 have w2:=val_int _ 2 (by decide) (by decide) f2
 have w3:=val_int _ 3 (by decide) (by decide) f3
 have h1:=pHw_val _ hx fx [] 4613937818241073152 (fun d hd=>hW d (by simp at hd;simp [hd])) (fun d hd=>hf d (by simp at hd;simp [hd])) (by decide)
 have h2:=pHw_val _ hx fx [4613937818241073152] 4611686018427387904 (fun d hd=>hW d (by simp at hd;rcases hd with h | h <;> simp [h])) (fun d hd=>hf d (by simp at hd;rcases hd with h | h <;> simp [h])) (by decide)
 have h3:=pHw_val _ hx fx [4613937818241073152,4611686018427387904] 4607182418800017408 (fun d hd=>hW d (by simpa using hd)) (fun d hd=>hf d (by simpa using hd)) (by decide)
 rw [w2] at h1 h2 h3;rw [w3] at h1;rw [w1] at h3;rw [show pHw 4611686018427387904 []=o00 from rfl,valO_00,Int.zero_mul,Int.zero_add] at h1
 have e1:=M_cancel h1;simp only [List.nil_append,List.cons_append] at e1 h2 h3;rw [e1] at h2
 have e2:valO (pHw 4611686018427387904 [4613937818241073152,4611686018427387904])=((8*MM:Nat):Int):=by
  refine M_cancel (h2.trans ?_);simp only [←Int.natCast_mul,←Int.natCast_add]
  congr 1
  generalize MM=M
  grind
 rw [e2] at h3
 have e3:valO (pHw 4611686018427387904 [4613937818241073152,4611686018427387904,4607182418800017408])=((17*MM:Nat):Int):=by
  refine M_cancel (h3.trans ?_);simp only [←Int.natCast_mul,←Int.natCast_add]
  congr 1
  generalize MM=M
  grind
 have F17:Fm (mkS false 17 0):=by rw [mk17];exact ⟨0,_,frm_fv (mkS_frm mk17) 0⟩
 have e4:pHw 4611686018427387904 [4613937818241073152,4611686018427387904,4607182418800017408]=mkS false 17 0:=by
  refine valO_inj (pHw_iv _ hx fx _ hW hf (by decide)).fm F17 ?_
  rw [e3,val_mk F17 (by decide) EK rfl,←M_eq]
  unfold sg1;simp
 unfold plR;rw [if_neg (by decide),if_neg (by decide),if_pos ⟨fx,by decide⟩]
 show rndS (pHw 4611686018427387904 [4613937818241073152,4611686018427387904,4607182418800017408]) 0=_
 rw [e4,mk17]
 decide +kernel
theorem big_mul:∀ k,k<600→floatBits .mul .f64 ((1023+k)*4503599627370496) 4611686018427387904=some ((1023+(k+1))*4503599627370496):=by decide +kernel
theorem lit12 (w:World) (xs:List Nat):Fs (w.alloc (Obj.cells (xs.map Fw10).toArray 27)).heap.size (w.alloc (Obj.cells (xs.map Fw10).toArray 27)) (some ⟨w.heap.size,0,none⟩) xs:=by
 intro _;refine ⟨w.heap.size,0,by simp,rfl,fun i hi=>?_⟩
 have hO:OwnF (w.alloc (Obj.cells (xs.map Fw10).toArray 27)) w.heap.size xs:=heap_alloc_new _ _;rw [Nat.zero_add];exact hO.cell i hi
theorem lit12b (w:World) (xs:List Nat) (g:Nat) (hg:g=w.heap.size):Fs (w.alloc (Obj.cells (xs.map Fw10).toArray 27)).heap.size (w.alloc (Obj.cells (xs.map Fw10).toArray 27)) (some ⟨g,0,none⟩) xs:=by subst hg;exact lit12 w xs
end
end Go.Proofs.YthfkleadcnkglaaGreatDoor
