import Derived.Test.YtffeldkheibccaaGreatDoorHI5x
import Derived.Test.YtffeldkheibccaaGreatDoorJ3x
import Derived.Test.YtffeldkheibccaaGreatDoorZ9x
import Derived.Test.YtffeldkheibccaaGreatDoorD19x
import Derived.Deep.Cut
import Derived.Deep.RegionHeld3
import Derived.Deep.RegionWith
import Derived.Deep.CutRange
import Derived.Test.YtffeldkheibccaaGreatDoorW25x
import Derived.BigQuiet
import Derived.Test.YtffeldkheibccaaGreatDoorD15x
import Derived.Deep.RegionHeld
import Derived.Test.YtffeldkheibccaaGreatDoorD6x
import Derived.Deep.LoopGhost
import Derived.Test.YtffeldkheibccaaGreatDoorM1x
import Derived.Defers
import Derived.Laws.CopyOwn
import Derived.Deep.OwnRows
import Derived.Laws.MakeOwn
import Derived.ArgAppend
import Derived.Maps.AppendAt
import Derived.WalkMore
import Derived.KernelRfl
import Derived.Lib.Strings
import Derived.Lib.Slices
import Derived.Lib.Small
import Derived.Lib.Walk
import Derived.Lib.BitFns
import Derived.Lib.Tables
import Derived.Lib.ItoaNum
import Derived.Lib.TrailingZeros
import Derived.Laws.Closers25b
import Derived.Laws.Bits64b
import Derived.Deep.CutBlock
import Derived.OwnWalk
set_option linter.unusedVariables false
set_option linter.unusedSimpArgs false
set_option maxHeartbeats 16000000
set_option maxRecDepth 20000
namespace Go.Proofs.YtffeldkheibccaaGreatDoor
namespace J
end J
section
open Go.RowKit J
theorem Tryz.und_ints17:Tryz.prog.underlying 57=some (.slice 3):=by kernel_rfl
theorem Tryz.info_int17:(Tryz.prog.info? 3).map (fun i=>(i.zero,i.size,i.bytes))=some (some (.int .i64 0),1,8):=by kernel_rfl
theorem OwnI.but17b {w w':World}{g g':Nat}{L:List Nat}(h:OwnI w g L) (hb:But g' w w') (hg:g≠g'):OwnI w' g L:=by
 unfold OwnI at h ⊢;rw [hb.block g (Array.getElem?_eq_some_iff.1 h).1 hg];exact h
theorem make_ints17 (z:Int) (n:Nat) (hz:z=(n:Int)) (hn:n≤17592186044416) (w:World) :
 (Instr.makeSlice 57 (.int .i64 z) (.int .i64 z)).run Tryz.prog w=.ok (.slice (some ⟨w.heap.size,0,none⟩) n n) (w.alloc (.cells (madeCells #[.int .i64 0] n) 3)):=by
 subst hz;exact run_make_row' 57 3 (.int .i64 0) 8 Tryz.und_ints17 Tryz.info_int17 rfl .i64 .i64 n (by omega) (by omega) w
theorem OwnI.made17 (w:World) (n:Nat):OwnI (w.alloc (.cells (madeCells #[.int .i64 0] n) 3)) w.heap.size (List.replicate n 0):=by
 unfold OwnI;have h1:=heap_alloc_new w (.cells (madeCells #[.int .i64 0] n) 3);rw [h1]
 congr 2
 apply Array.toList_inj.1
 rw [toList_madeCells_one];simp [Iw15]
theorem clone17 (xs:List Nat) (a:Option Addr) (n c:Nat) (w:World) (hn:n=xs.length) (h0:0<n) (hF:Fs w.heap.size w a xs) (hm:n≤17592186043904) :
 Calls Tryz.prog 52 #[.slice a n c] w fun r w'=>(∃ v',r=.returned v'∧w'.ownsRow w.heap.size 41 1 v' n (xs.map Fw10))∧Below w.heap.size w w':=by
 obtain ⟨i0,hi,hz0,hz1,hz2⟩:=info_parts Tryz.info_f64;have q25:∀ (w:World) (a:Option Addr) (n c n' c':Nat),(binOp .eql 22 (.slice a n c) (.slice none n' c')).run Tryz.prog w=.ok (.bool a.isNone) w:=fun w a n c n' c'=>Lib.run_eql_slice_nil w _ _ a n c n' c' Tryz.und_floats
 obtain ⟨b,off,_,rfl,_⟩:=hF (by intro e;subst e;simp at hn;omega)
 have A:=qsd (ai hn (ai hF hm));clear hF hm hn;go_enter Tryz.func52,Tryz.ntmps52
 go_wp2_with (at_builtin;refine wpList_append_own _ rfl _ _ 22 rfl w.heap.size 41 i0 (.float .f64 0) 1 8 Tryz.und_floats hi hz0 hz1 hz2 rfl (by decide) _ _ _ rfl (World.ownsRow_made w #[] 0 (Nat.le_refl _) (Nat.zero_le _) (by simp)) ⟨b,off,none⟩ n c (xs.map Fw10) rfl ?qc1 ?qc2 ?qc3 ?qc4 ?qc5 ?qc6 ?_)
 case qc1=>simp [A.out.1]
 case qc2 =>
  intro j u hj;have hj2:j<xs.length:=by have:=(List.getElem?_eq_some_iff.1 hj).1;simpa using this
  have hc:=A.out.2.1.cell (Below.refl _ _) j hj2;rw [Addr.add_lit];refine Lib.cell?_alloc_some _ ?_
  rw [hc,←hj,List.getElem?_map,List.getElem?_eq_getElem hj2,List.getD_eq_getElem?_getD,List.getElem?_eq_getElem hj2]
  rfl
 case qc3=>intro u hu;obtain ⟨x,_,rfl⟩:=List.mem_map.1 hu;rfl
 case qc4=>have:=A.out.1;have:=A.out.2.2;unfold maxLen;omega
 case qc5=>have:=A.out.1;have:=A.out.2.2;omega
 case qc6=>simp
 intro v' w1 hown hgrow hnil;go_wp2;go_ret;refine ⟨⟨v',rfl,?_⟩,?_⟩
 · simpa using hown
 · exact ((Below.refl _ w).alloc (Nat.le_refl _) _).grown hgrow (by simp) (by intro k hk;simp [Value.ownBlock] at hk;omega)
theorem cloneI17 (L:List Nat) (g:Nat) (w:World) (h0:0<L.length) (hO:OwnI w g L) (hm:L.length≤1024) :
 Calls Tryz.prog 83 #[.slice (some ⟨g,0,none⟩) L.length L.length] w fun r w'=>(∃ v',r=.returned v'∧w'.ownsRow w.heap.size 3 1 v' L.length (L.map Iw15))∧Below w.heap.size w w':=by
 obtain ⟨i0,hi,hz0,hz1,hz2⟩:=info_parts Tryz.info_int17;have q25:∀ (w:World) (a:Option Addr) (n c n' c':Nat),(binOp .eql 57 (.slice a n c) (.slice none n' c')).run Tryz.prog w=.ok (.bool a.isNone) w:=fun w a n c n' c'=>Lib.run_eql_slice_nil w _ _ a n c n' c' Tryz.und_ints17
 obtain ⟨n,hn⟩:∃ n,n=L.length:=⟨_,rfl⟩;rw [←hn];have A:=qsd (ai hn (ai hO hm));clear hO hm hn h0;go_enter Tryz.func83,Tryz.ntmps83
 go_wp2_with (at_builtin;refine wpList_append_own _ rfl _ _ 57 rfl w.heap.size 3 i0 (.int .i64 0) 1 8 Tryz.und_ints17 hi hz0 hz1 hz2 rfl (by decide) _ _ _ rfl (World.ownsRow_made w #[] 0 (Nat.le_refl _) (Nat.zero_le _) (by simp)) ⟨g,0,none⟩ n n (L.map Iw15) rfl ?qc1 ?qc2 ?qc3 ?qc4 ?qc5 ?qc6 ?_)
 case qc1=>simp [A.out.1]
 case qc2 =>
  intro j u hj;have hj2:j<L.length:=by have:=(List.getElem?_eq_some_iff.1 hj).1;simpa using this
  have hc:=A.out.2.1.cell j hj2;rw [Addr.add_lit];refine Lib.cell?_alloc_some _ ?_
  rw [Nat.zero_add,hc,←hj,List.getElem?_map,List.getElem?_eq_getElem hj2,List.getD_eq_getElem?_getD,List.getElem?_eq_getElem hj2]
  rfl
 case qc3=>intro u hu;obtain ⟨x,_,rfl⟩:=List.mem_map.1 hu;rfl
 case qc4=>have:=A.out.1;have:=A.out.2.2;unfold maxLen;omega
 case qc5=>have:=A.out.1;have:=A.out.2.2;omega
 case qc6=>simp
 intro v' w1 hown hgrow hnil;go_wp2;go_ret;refine ⟨⟨v',rfl,?_⟩,?_⟩
 · simpa using hown
 · exact ((Below.refl _ w).alloc (Nat.le_refl _) _).grown hgrow (by simp) (by intro k hk;simp [Value.ownBlock] at hk;omega)
def Ri17 (lo:Nat) (w:World) (v:Value) (L:List Nat):Prop:=∃ g c,v=.slice (some ⟨g,0,none⟩) L.length c∧lo≤g∧g<w.heap.size∧∀ i,i<L.length→w.cell? ⟨g,i,none⟩=some (.int .i64 ((L.getD i 0:Nat):Int))
theorem ri_of17 {lo:Nat}{w:World}{v:Value}{L:List Nat}(h0:0<L.length) (h:w.ownsRow lo 3 1 v L.length (L.map Iw15)):Ri17 lo w v L:=by
 have h':=h
 rcases h.2 with ⟨_,h1⟩|⟨g,cap,cur,rfl,hlo,hg,hn,hm,hs,ht⟩
 · omega
 · refine ⟨g,cap,rfl,hlo,(Array.getElem?_eq_some_iff.1 hg).1,fun i hi=>?_⟩
   have:=World.ownsRow.cellAt h' i (by omega)
   rw [this,List.getElem?_map,List.getElem?_eq_getElem hi,List.getD_eq_getElem?_getD,List.getElem?_eq_getElem hi]
   rfl
theorem Counts17 {w:World}{g gE gC cE:Nat}{E:List Nat}{s:Hs}(h:Hm w g gE gC cE E s) :
 Calls Tryz.prog 46 #[.pointer (some ⟨g,0,none⟩)] w fun r w'=>(∃ v',r=.returned v'∧w'.ownsRow w.heap.size 3 1 v' s.C.length (s.C.map Iw15))∧Below w.heap.size w w':=by
 obtain ⟨c0,c1,c2,c3,c4,c5⟩:=h.cells;have C:=hid (cloneI17 s.C gC w (by have:=h.le;have:=h.ed.1;omega) h.cs (by have:=h.le;have:=h.ed.2.1;omega))
 clear h c0 c1 c2 c3 c5;go_enter Tryz.func46,Tryz.ntmps46
 go_wp2_with fail
 refine C.out.mono ?_;rintro r v ⟨⟨v',rfl,hO⟩,hb⟩;have HO:=(qsd (ai hO hb));clear hO hb C;go_wp2;go_ret;exact ⟨⟨v',rfl,HO.out.1⟩,HO.out.2⟩
theorem All17 {w:World}{g gE gC cE:Nat}{E:List Nat}{s:Hs}(h:Hm w g gE gC cE E s) :
 Calls Tryz.prog 50 #[.pointer (some ⟨g,0,none⟩)] w fun r w'=>r=.returned (.int .i64 (s.all:Nat))∧w'=w:=by
 obtain ⟨c0,c1,c2,c3,c4,c5⟩:=h.cells;clear h c0 c1 c2 c3 c4;go_enter Tryz.func50,Tryz.ntmps50;go_wp2;go_ret;exact ⟨rfl,rfl⟩
theorem Outside17 {w:World}{g gE gC cE:Nat}{E:List Nat}{s:Hs}(h:Hm w g gE gC cE E s) :
 Calls Tryz.prog 44 #[.pointer (some ⟨g,0,none⟩)] w fun r w'=>r=.returned (.tuple #[.int .i64 (s.b:Nat),.int .i64 (s.a:Nat),.int .i64 (s.o:Nat)])∧Below w.heap.size w w':=by
 obtain ⟨c0,c1,c2,c3,c4,c5⟩:=h.cells;clear h c3 c4 c5;go_enter Tryz.func44,Tryz.ntmps44
 go_wp2_with fail
 go_quiet (fail)
 go_wp2;refine bodyPost_ret (v:=.tuple #[.int .i64 (s.b:Nat),.int .i64 (s.a:Nat),.int .i64 (s.o:Nat)]) (by simp [results,Tryz.results44,go_sem]) rfl ?_
 exact ⟨rfl,below_drewN17 (Below.refl _ _) _⟩
end
section
open Go.RowKit J
def runL (b:Nat) (C:List Nat):List Nat:=(List.range (C.length+1)).map (fun k=>b+(C.take k).sum)
theorem runL_len (b:Nat) (C:List Nat):(runL b C).length=C.length+1:=by simp [runL]
def rT (b:Nat) (C:List Nat) (n k:Nat):List Nat:=(List.range (k+1)).map (fun j=>b+(C.take j).sum)++List.replicate (n-(k+1)) 0
theorem rT_len {b n k:Nat}{C:List Nat}(h:k+1≤n):(rT b C n k).length=n:=by simp [rT];omega
theorem rT_zero {b n:Nat}{C:List Nat}(h:1≤n):(List.replicate n 0).set 0 b=rT b C n 0:=by
 obtain ⟨m,rfl⟩:∃ m,n=m+1:=⟨n-1,by omega⟩
 simp [rT,List.replicate_succ]
theorem rT_get {b n k:Nat}{C:List Nat}:(rT b C n k).getD k 0=b+(C.take k).sum:=by
 unfold rT;rw [List.getD_eq_getElem?_getD,List.getElem?_append_left (by simp),List.getElem?_map,List.getElem?_range (by omega)]
 rfl
theorem take_sum17 {C:List Nat}{k:Nat}(h:k<C.length):(C.take (k+1)).sum=(C.take k).sum+C.getD k 0:=by
 rw [List.take_add_one,List.getElem?_eq_getElem h,List.sum_append,List.getD_eq_getElem?_getD,List.getElem?_eq_getElem h]
 simp
theorem rT_set {b n k:Nat}{C:List Nat}(hk:k<C.length) (hn:k+1<n):(rT b C n k).set (k+1) (b+(C.take k).sum+C.getD k 0)=rT b C n (k+1):=by
 unfold rT;have e:n-(k+1)=(n-(k+1+1))+1:=by omega
 rw [List.set_append_right _ _ (by simp),List.length_map,List.length_range,Nat.sub_self,e,List.replicate_succ,List.set_cons_zero,List.range_succ (n:=k+1),List.map_append]
 simp only [List.map_cons,List.map_nil];rw [take_sum17 hk,List.append_assoc,Nat.add_assoc];rfl
theorem rT_all {b n k:Nat}{C:List Nat}(hk:k=C.length) (hn:n=k+1):rT b C n k=runL b C:=by
 subst hk hn;simp [rT,runL]
theorem take_le17 (C:List Nat) (k:Nat):(C.take k).sum≤C.sum:=by
 have:=congrArg List.sum (List.take_append_drop k C);rw [List.sum_append] at this;omega
theorem Running17 {w:World}{g gE gC cE:Nat}{E:List Nat}{s:Hs}(h:Hm w g gE gC cE E s) :
 Calls Tryz.prog 47 #[.pointer (some ⟨g,0,none⟩)] w fun r w'=>(∃ gl,r=.returned (.slice (some ⟨gl,0,none⟩) E.length E.length)∧w.heap.size≤gl∧OwnI w' gl (runL s.b s.C))∧Below w.heap.size w w':=by
 obtain ⟨c0,c1,c2,c3,c4,c5⟩:=h.cells;have hE1:=h.ed.1;have hE2:=h.ed.2.1;have hle:=h.le;obtain ⟨nE,hnE⟩:∃ n,n=E.length:=⟨_,rfl⟩;obtain ⟨nC,hnC⟩:∃ n,n=s.C.length:=⟨_,rfl⟩;obtain ⟨sb,hsb⟩:∃ n,n=s.b:=⟨_,rfl⟩;rw [←hnE] at c3 hle hE1 hE2 ⊢;rw [←hnC] at c4 hle;rw [←hsb] at c0 ⊢;have hall:sb+s.C.sum≤1099511627776:=by have:=h.mx;unfold Hs.all at this;omega
 obtain ⟨W,hW⟩:∃ W,W=w.alloc (.cells (madeCells #[.int .i64 0] nE) 3):=⟨_,rfl⟩;obtain ⟨gl,hgl⟩:∃ g,g=w.heap.size:=⟨_,rfl⟩;have hb:Below w.heap.size w W:=by rw [hW];exact below_alloc _ _
 have hO:OwnI W gl (List.replicate nE 0):=by rw [hW,hgl];exact OwnI.made17 w nE
 have h2:=h.below hb;have hmk:=make_ints17 ((nE:Nat):Int) nE rfl (by omega)
 have hmk':(Instr.makeSlice 57 (.int .i64 (nE:Nat)) (.int .i64 (nE:Nat))).run Tryz.prog w=.ok (.slice (some ⟨gl,0,none⟩) nE nE) W:=by rw [hgl,hW];exact hmk w
 have k0:W.cell? ⟨g,0,none⟩=some (.int .i64 (sb:Nat)):=by rw [hsb];exact h2.cells.1
 have k4:W.cell? ⟨g,4,none⟩=some (.slice (some ⟨gC,0,none⟩) nC nC):=by rw [hnC];exact h2.cells.2.2.2.2.1
 have l0:=hO.cell 0 (by simp;omega)
 have lf:=hO.frozen 0;obtain ⟨l00,hl0⟩:∃ x,x=(List.replicate nE 0).getD 0 0:=⟨_,rfl⟩;rw [←hl0] at l0;obtain ⟨V,hV⟩:∃ V,V=W.setCell ⟨gl,0,none⟩ (.int .i64 (sb:Nat)):=⟨_,rfl⟩;have hOV:OwnI V gl (rT sb s.C nE 0):=by rw [hV,←rT_zero (by omega)];exact hO.set 0 sb
 have hbt:But gl W V:=by rw [hV];exact (But.refl gl W).set 0 _
 have hgc:gC≠gl:=by have:=h.cs.lt;omega
 have hgg:g≠gl:=by have:=h.bl.lt;omega
 have hcV:OwnI V gC s.C:=by
  have:=h2.cs;unfold OwnI at this ⊢;rw [hbt.block gC (Array.getElem?_eq_some_iff.1 this).1 hgc];exact this
 have v4:V.cell? ⟨g,4,none⟩=some (.slice (some ⟨gC,0,none⟩) nC nC):=(World.cell?_of_block (a:=⟨g,4,none⟩) (hbt.block g h2.bl.lt hgg)).trans k4;have HB:=(qsd (ai hb (ai hbt (ai hgl (ai hOV (ai hcV (ai hnE hnC)))))));have b0:(0:Int)<(nE:Int):=by omega
 have b1:0<nE:=by omega
 have HV:=qsd hV;clear h h2 hb hW hO hmk hl0 hbt hV hOV hcV hgl hnE hnC c0 c1 c2 c4 c5 hsb k4;go_enter Tryz.func47,Tryz.ntmps47
 go_upto_region 3 with fail
 rw [←HV.out];clear HV k0 l0 lf hmk' c3;go_wp2
 go_loopg [24] nC (fun gk iv wr=>∃ k:Nat,gk+k=nC∧iv=.int .i64 (k:Nat)∧Aside (OwnI wr gl (rT sb s.C nE k)∧But gl V wr))
 case atStart=>exact ⟨0,by omega,by first | rfl | simp,HB.out.2.2.2.1,But.refl _ _⟩
 case round =>
  obtain ⟨k,hgk,rfl,HA⟩:=hrel;clear v4
  by_cases hk:k<nC
  · have hdk:decide ((k:Int)<(nC:Int))=true:=by simp;omega
    have lk:(k:Int)<(nC:Int):=by omega
    have lk2:(k:Int)<(nE:Int):=by omega
    have lk0:(0:Int)≤(k:Int):=by omega
    obtain ⟨k1,hk1⟩:∃ x,x=k+1:=⟨_,rfl⟩;have lk3:(k1:Int)<(nE:Int):=by omega
    have wk:IntKind.i64.wrap ((k:Int)+1)=(k1:Int):=wrapY (by omega) (by omega)
    have hkC:k<s.C.length:=by have:=HB.out.2.2.2.2.2.2;omega
    have x1:=HA.out.1.cell k (by rw [rT_len (by omega)];omega)
    rw [rT_get] at x1;have x5:=HA.out.1.cell k1 (by rw [rT_len (by omega)];omega)
    have x2:wr.cell? ⟨gC,k,none⟩=some (.int .i64 ((s.C.getD k 0:Nat):Int)):=(HB.out.2.2.2.2.1.but17b HA.out.2 hgc).cell k hkC;have x4:=HA.out.1.frozen k1;have hset:=HA.out.1.set (k+1) (sb+(s.C.take k).sum+s.C.getD k 0);rw [rT_set hkC (by omega),←hk1] at hset
    have hb1:=get_le_sum17 s.C k;have hb2:=take_le17 s.C k;obtain ⟨p,hp⟩:∃ p,p=sb+(s.C.take k).sum:=⟨_,rfl⟩;obtain ⟨q,hq⟩:∃ p,p=s.C.getD k 0:=⟨_,rfl⟩;obtain ⟨o5,ho5⟩:∃ p,p=(rT sb s.C nE k).getD k1 0:=⟨_,rfl⟩;rw [←hp] at x1 hset;rw [←hq] at x2 hset hb1;rw [←ho5] at x5;have wp:IntKind.i64.wrap ((p:Int)+(q:Int))=((p+q:Nat):Int):=wrapY (by omega) (by omega)
    obtain ⟨pq,hpq⟩:∃ p',p'=p+q:=⟨_,rfl⟩;rw [←hpq] at wp hset;have HN:Aside (OwnI (wr.setCell ⟨gl,k1,none⟩ (.int .i64 (pq:Nat))) gl (rT sb s.C nE k1)∧But gl V (wr.setCell ⟨gl,k1,none⟩ (.int .i64 (pq:Nat)))):=⟨hset,HA.out.2.set k1 _⟩;have HK:=qsd hk1;clear hset hb1 hb2 hp hq hpq hk1 HA hkC ho5;go_wp2
    go_roundg (nC-k1)
    case measure=>have:=HK.out;omega
    case rel=>exact ⟨k1,by have:=HK.out;omega,by first | rfl | simp,HN.out⟩
  · obtain rfl:k=nC:=by omega
    have hdk:decide ((k:Int)<(k:Int))=false:=by simp
    have HF:Aside (OwnI wr gl (runL sb s.C)∧w.heap.size≤gl∧Below w.heap.size w wr):=by
     refine ⟨?_,by rw [HB.out.2.2.1];exact Nat.le_refl _,?_⟩
     · have:=HA.out.1
       rw [rT_all HB.out.2.2.2.2.2.2 (by omega)] at this
       exact this
     · exact But.below HB.out.1 (HB.out.2.1.trans HA.out.2) HB.out.1.size (by rw [HB.out.2.2.1];exact Nat.le_refl _)
    clear HA;go_wp2;go_ret;exact ⟨⟨gl,rfl,HF.out.2.1,HF.out.1⟩,HF.out.2.2⟩
theorem Rf.fs17 {lo:Nat}{w:World}{v:Value}{R:List Nat}(h:Rf lo w v R) (h0:0<R.length):∃ gE cE,v=.slice (some ⟨gE,0,none⟩) R.length cE∧lo≤gE∧gE<w.heap.size∧Fs w.heap.size w (some ⟨gE,0,none⟩) R:=by
 obtain ⟨g,cap,e,h1,h2,h3,h4,h5⟩:=h.shape h0;exact ⟨g,cap,e,h1,h2,fun _=>⟨g,0,h2,rfl,fun i hi=>by rw [Nat.zero_add];exact h5 i hi⟩⟩
theorem zero_all17 (n:Nat):(Hs.mk (List.replicate n 0) 0 0 0).all=0:=by simp [Hs.all]
theorem new_hm17 {w u:World}{E:List Nat}{gE gC cE n:Nat}(hE:Edg E) (hW:W64 E) (hn:n+1=E.length) (es:Fs u.heap.size u (some ⟨gE,0,none⟩) E) (hO:OwnI u gC (List.replicate n 0)) (hne:gE≠gC) (hb:Below w.heap.size w u) (h1:w.heap.size≤gE) (h2:w.heap.size≤gC) :
 Hm (u.alloc (Obj.cells #[.int .i64 0,.int .i64 0,.int .i64 0,.slice (some ⟨gE,0,none⟩) E.length cE,.slice (some ⟨gC,0,none⟩) n n,.int .i64 0] 83)) u.heap.size gE gC cE E ⟨List.replicate n 0,0,0,0⟩∧Below w.heap.size w (u.alloc (Obj.cells #[.int .i64 0,.int .i64 0,.int .i64 0,.slice (some ⟨gE,0,none⟩) E.length cE,.slice (some ⟨gC,0,none⟩) n n,.int .i64 0] 83)):=by
 have hal:=below_alloc u (Obj.cells #[.int .i64 0,.int .i64 0,.int .i64 0,.slice (some ⟨gE,0,none⟩) E.length cE,.slice (some ⟨gC,0,none⟩) n n,.int .i64 0] 83);have hlt:=Fs.lt17 es (by intro e;subst e;simp at hn)
 refine ⟨⟨?_,hO.below hal hO.lt,(es.below hal).mono hal.size,?_,?_,hne,hE,hW,by simpa using hn,by rw [zero_all17];omega⟩,hb.trans (hal.mono hb.size)⟩
 · rw [zero_all17]
   have:=Bl.new u 83 [.int .i64 0,.int .i64 0,.int .i64 0,.slice (some ⟨gE,0,none⟩) E.length cE,.slice (some ⟨gC,0,none⟩) n n,.int .i64 0]
   show Bl _ _ _ (hcs gE gC cE E.length (List.replicate n 0).length 0 0 0 0)
   rw [List.length_replicate];exact this
 · have:=hO.lt;omega
 · omega
theorem New17 (xs:List Nat) (ao:Option Addr) (n cap:Nat) (w:World) (hF:Fs w.heap.size w ao xs) (hn:n=xs.length) (hb':n≤17592186043904) (hW:W64 xs) (hE:Edg xs) :
 Calls Tryz.prog 11 #[.slice ao n cap] w fun r w'=>(∃ g gE gC cE,r=.returned (.tuple #[.pointer (some ⟨g,0,none⟩),.int .i64 0])∧Hm w' g gE gC cE xs ⟨List.replicate (n-1) 0,0,0,0⟩∧w.heap.size≤g∧w.heap.size≤gE∧w.heap.size≤gC)∧Below w.heap.size w w':=by
 have C:=hid (rise17 xs ao n cap w hF hn (by omega) hW)
 have hE1:=hE.1;have hE2:=hE.2.1;have HX:=(qsd (ai hF (ai hn (ai hW hE))));obtain ⟨m,hm⟩:∃ m,m=n-1:=⟨_,rfl⟩;rw [←hm];have wm:IntKind.i64.wrap ((n:Int)-1)=(m:Int):=wrapY (by omega) (by omega)
 have hmk:=make_ints17 ((m:Nat):Int) m rfl (by omega)
 have HM:Aside (m+1=xs.length):=by rw [←hn];show m+1=n;omega
 clear hF hn hW hE hm hE1 hE2;go_enter Tryz.func11,Tryz.ntmps11
 go_wp2_with fail
 refine C.out.mono ?_;rintro r v ⟨⟨b,rfl,hbe⟩,hbw⟩;obtain rfl:b=true:=hbe.2 HX.out.2.2.2;have HV:Aside (Below w.heap.size w v∧Fs v.heap.size v ao xs):=⟨hbw,(HX.out.1.below hbw).mono hbw.size⟩;clear C hbe hbw;have C:=hid (fun (u:World) (hb:Below v.heap.size v u)=>clone17 xs ao n cap u HX.out.2.1 (by rw [HX.out.2.1];have:=HM.out;omega) ((HV.out.2.below hb).mono hb.size) hb')
 have HB0:Aside (Below v.heap.size v v.drew):=(Below.refl _ _).drew;have HB1:Aside (Below v.heap.size v (v.alloc (.cells (madeCells #[.int .i64 0] m) 3)).drew):=(below_alloc v _).drew
 go_upto_region 3 with fail
 refine calm17b ?_
 go_region_with (first
  | (go_at_call 52
     first
     | (with_reducible refine (C.out _ HB0.out).mono ?_
        rintro r u ⟨⟨vE,rfl,hO⟩,hb⟩;rw [HX.out.2.1] at hO;obtain ⟨gE,cE,rfl,g1,g2,g3⟩:=Rf.fs17 (R:=xs) hO (by have:=HM.out;omega)
        have HF:Aside (∃ gE' gC' cE',Hm ((u.alloc (.cells (madeCells #[.int .i64 0] m) 3)).alloc (Obj.cells #[.int .i64 0,.int .i64 0,.int .i64 0,.slice (some ⟨gE,0,none⟩) xs.length cE,.slice (some ⟨u.heap.size,0,none⟩) m m,.int .i64 0] 83)) (u.heap.size+1) gE' gC' cE' xs ⟨List.replicate m 0,0,0,0⟩∧w.heap.size≤u.heap.size+1∧w.heap.size≤gE'∧w.heap.size≤gC'∧Below w.heap.size w ((u.alloc (.cells (madeCells #[.int .i64 0] m) 3)).alloc (Obj.cells #[.int .i64 0,.int .i64 0,.int .i64 0,.slice (some ⟨gE,0,none⟩) xs.length cE,.slice (some ⟨u.heap.size,0,none⟩) m m,.int .i64 0] 83))):=by
         have b1:=HV.out.1.trans (HB0.out.mono HV.out.1.size);have b2:=b1.trans (hb.mono b1.size);have al:=below_alloc u (.cells (madeCells #[.int .i64 0] m) 3);have hsz:=b2.size;have:=new_hm17 (w:=w) (u:=u.alloc (.cells (madeCells #[.int .i64 0] m) 3)) (cE:=cE) HX.out.2.2.2 HX.out.2.2.1 HM.out ((g3.below al).mono al.size) (OwnI.made17 u m) (by omega) (b2.trans (al.mono b2.size)) (Nat.le_trans HV.out.1.size g1) hsz
         rw [World.size_alloc] at this;exact ⟨gE,u.heap.size,cE,this.1,by omega,Nat.le_trans HV.out.1.size g1,hsz,this.2⟩
        clear hO hb g1 g2 g3)
     | (with_reducible refine (C.out _ HB1.out).mono ?_
        rintro r u ⟨⟨vE,rfl,hO⟩,hb⟩;rw [HX.out.2.1] at hO;obtain ⟨gE,cE,rfl,g1,g2,g3⟩:=Rf.fs17 (R:=xs) hO (by have:=HM.out;omega)
        have HF:Aside (∃ gE' gC' cE',Hm (u.alloc (Obj.cells #[.int .i64 0,.int .i64 0,.int .i64 0,.slice (some ⟨gE,0,none⟩) xs.length cE,.slice (some ⟨v.heap.size,0,none⟩) m m,.int .i64 0] 83)) u.heap.size gE' gC' cE' xs ⟨List.replicate m 0,0,0,0⟩∧w.heap.size≤u.heap.size∧w.heap.size≤gE'∧w.heap.size≤gC'∧Below w.heap.size w (u.alloc (Obj.cells #[.int .i64 0,.int .i64 0,.int .i64 0,.slice (some ⟨gE,0,none⟩) xs.length cE,.slice (some ⟨v.heap.size,0,none⟩) m m,.int .i64 0] 83))):=by
         have b1:=HV.out.1.trans (HB1.out.mono HV.out.1.size);have b2:=b1.trans (hb.mono b1.size);have o1:=(OwnI.made17 v m).drew;have o2:=o1.below hb o1.lt
         have g1':v.heap.size+1≤gE:=by
          have:=g1;simp [World.drew] at this;omega
         have hsz:=HV.out.1.size;have:=new_hm17 (w:=w) (u:=u) (gC:=v.heap.size) (cE:=cE) HX.out.2.2.2 HX.out.2.2.1 HM.out g3 o2 (by omega) b2 (by omega) hsz
         exact ⟨gE,v.heap.size,cE,this.1,b2.size,by omega,hsz,this.2⟩
        clear hO hb g1 g2 g3)))
 all_goals
  go_wp2;refine bodyPost_ret (v:=.tuple #[.pointer (some ⟨_,0,none⟩),.int .i64 0]) (by simp [results,Tryz.results11,go_sem];rfl) rfl ?_
  obtain ⟨gE',gC',cE',h1,h2,h3,h4,h5⟩:=HF.out;exact ⟨⟨_,gE',gC',cE',rfl,h1,h2,h3,h4⟩,h5⟩
theorem NewNo17 (xs:List Nat) (ao:Option Addr) (n cap:Nat) (w:World) (hF:Fs w.heap.size w ao xs) (hn:n=xs.length) (hb':n≤17592186043904) (hW:W64 xs) (hE:¬ Edg xs) :
 Calls Tryz.prog 11 #[.slice ao n cap] w fun r w'=>r=.returned (.tuple #[.pointer none,.int .i64 170])∧Below w.heap.size w w':=by
 have C:=hid (rise17 xs ao n cap w hF hn (by omega) hW)
 have HX:=qsd hE;clear hF hn hW hE;go_enter Tryz.func11,Tryz.ntmps11
 go_wp2_with fail
 refine C.out.mono ?_;rintro r v ⟨⟨b,rfl,hbe⟩,hbw⟩
 obtain rfl:b=false:=by
  cases b
  · rfl
  · exact absurd (hbe.1 rfl) HX.out
 have HV:=qsd hbw;clear C hbe hbw;go_wp2;refine bodyPost_ret (v:=.tuple #[.pointer none,.int .i64 170]) (by simp [results,Tryz.results11,go_sem]) rfl ?_
 exact ⟨rfl,HV.out⟩
end
section
open Go.RowKit J
section
attribute [local go_sem] B.f64bits B.f64frombits
theorem same17 (x:Nat) (w:World):Calls Tryz.prog 86 #[.float .f64 x,.float .f64 x] w fun r w'=>r=.returned (.bool true)∧w'=w:=by
 go_enter Tryz.func86,Tryz.ntmps86;go_wp2;go_ret;exact ⟨by first | rfl | simp,rfl⟩
theorem turned17 (w:World):Calls Tryz.prog 40 #[.float .f64 0] w fun r w'=>r=.returned (.float .f64 9223372036854775808)∧w'=w:=by
 go_enter Tryz.func40,Tryz.ntmps40;go_wp2;go_ret;exact ⟨by first | rfl | simp | decide,rfl⟩
theorem odd17 (w:World):Calls Tryz.prog 42 #[] w fun r w'=>r=.returned (.float .f64 9221120237041090560)∧w'=w:=by
 go_enter Tryz.func42,Tryz.ntmps42;go_wp2;go_ret;exact ⟨by first | rfl | simp | decide,rfl⟩
end
theorem ints17 (L:List Nat) (g1 g2 c1 c2:Nat) (w:World) (hL:L.length≤1024) (h1:∀ i,i<L.length→w.cell? ⟨g1,i,none⟩=some (.int .i64 ((L.getD i 0:Nat):Int))) (h2:∀ i,i<L.length→w.cell? ⟨g2,i,none⟩=some (.int .i64 ((L.getD i 0:Nat):Int))) :
 Calls Tryz.prog 45 #[.slice (some ⟨g1,0,none⟩) L.length c1,.slice (some ⟨g2,0,none⟩) L.length c2] w fun r w'=>r=.returned (.bool true)∧Below w.heap.size w w':=by
 obtain ⟨n,hn⟩:∃ n,n=L.length:=⟨_,rfl⟩;rw [←hn] at hL ⊢;have HX:=(qsd (ai hn (ai h1 h2)));have d1:((n:Int) != (n:Int))=false:=by simp
 clear hn h1 h2;go_enter Tryz.func45,Tryz.ntmps45;go_wp2
 go_loopg [5] n (fun gk iv wr=>∃ k:Nat,gk+k=n∧iv=.int .i64 (k:Nat)∧Aside (Below w.heap.size w wr∧∃ q,wr=w.drewN q))
 case atStart=>exact ⟨0,by omega,by first | rfl | simp,Below.refl _ _,0,rfl⟩
 case round =>
  obtain ⟨k,hgk,rfl,HA⟩:=hrel
  by_cases hk:k<n
  · have hdk:decide ((k:Int)<(n:Int))=true:=by simp;omega
    have bk:(k:Int)<(n:Int):=by omega
    obtain ⟨k1,hk1⟩:∃ x,x=k+1:=⟨_,rfl⟩;have wk:IntKind.i64.wrap ((k:Int)+1)=(k1:Int):=wrapY (by omega) (by omega)
    have x1:wr.cell? ⟨g1,k,none⟩=some (.int .i64 ((L.getD k 0:Nat):Int)):=by obtain ⟨q,e⟩:=HA.out.2;rw [e];exact HX.out.2.1 k (by have:=HX.out.1;omega)
    have x2:wr.cell? ⟨g2,k,none⟩=some (.int .i64 ((L.getD k 0:Nat):Int)):=by obtain ⟨q,e⟩:=HA.out.2;rw [e];exact HX.out.2.2 k (by have:=HX.out.1;omega)
    obtain ⟨p,hp⟩:∃ p,p=L.getD k 0:=⟨_,rfl⟩;rw [←hp] at x1 x2;have dp:((p:Int) != (p:Int))=false:=by simp
    have HK:=qsd hk1;have HD:=qsd (fun q=>(ai (below_drewN17 HA.out.1 q) (by obtain ⟨k,e⟩:=HA.out.2;exact ⟨k+q,by rw [e];exact drewN_drewN17 w k q⟩):Below w.heap.size w (wr.drewN q)∧∃ k,wr.drewN q=w.drewN k))
    clear hk1 hp HA
    go_wp2_with fail
    go_quiet (fail)
    go_wp2
    go_roundg (n-k1)
    case measure=>have:=HK.out;omega
    case rel=>exact ⟨k1,by have:=HK.out;omega,by first | rfl | simp,HD.out _⟩
  · obtain rfl:k=n:=by omega
    have hdk:decide ((k:Int)<(k:Int))=false:=by simp
    go_wp2;refine bodyPost_ret (v:=.bool true) (by simp [results,Tryz.results45,go_sem]) rfl ?_
    exact ⟨rfl,HA.out.1⟩
theorem floats17 (L:List Nat) (a1 a2:Option Addr) (n c1 c2:Nat) (w:World) (hn:n=L.length) (hL:n≤100000) (h1:Fs w.heap.size w a1 L) (h2:Fs w.heap.size w a2 L) :
 Calls Tryz.prog 49 #[.slice a1 n c1,.slice a2 n c2] w fun r w'=>r=.returned (.bool true)∧Below w.heap.size w w':=by
 have HX:=(qsd (ai hn (ai h1 h2)));have d1:((n:Int) != (n:Int))=false:=by simp
 have CS:=hid (fun (x:Nat) (u:World)=>same17 x u)
 clear hn h1 h2;go_enter Tryz.func49,Tryz.ntmps49;go_wp2
 go_loopg [5] n (fun gk iv wr=>∃ k:Nat,gk+k=n∧iv=.int .i64 (k:Nat)∧Aside (Below w.heap.size w wr))
 case atStart=>exact ⟨0,by omega,by first | rfl | simp,Below.refl _ _⟩
 case round =>
  obtain ⟨k,hgk,rfl,HA⟩:=hrel
  by_cases hk:k<n
  · have hdk:decide ((k:Int)<(n:Int))=true:=by simp;omega
    have bk:(k:Int)<(n:Int):=by omega
    obtain ⟨k1,hk1⟩:∃ x,x=k+1:=⟨_,rfl⟩;have wk:IntKind.i64.wrap ((k:Int)+1)=(k1:Int):=wrapY (by omega) (by omega)
    obtain ⟨b1,o1,rfl,x1⟩:=HX.out.2.1.at HA.out k (by have:=HX.out.1;omega)
    obtain ⟨b2,o2,rfl,x2⟩:=HX.out.2.2.at HA.out k (by have:=HX.out.1;omega)
    obtain ⟨p,hp⟩:∃ p,p=L.getD k 0:=⟨_,rfl⟩;rw [←hp] at x1 x2;have HK:=qsd hk1;have HD:=qsd (fun q=>below_drewN17 HA.out q)
    have C:=hid (fun u=>CS.out p u)
    clear hk1 hp HA HX CS
    go_wp2_with fail
    go_quiet (first | (go_at_call 86;exact Calls.quiet_of_same (C.out _)))
    go_wp2
    go_roundg (n-k1)
    case measure=>have:=HK.out;omega
    case rel=>exact ⟨k1,by have:=HK.out;omega,by first | rfl | simp,HD.out _⟩
  · obtain rfl:k=n:=by omega
    have hdk:decide ((k:Int)<(k:Int))=false:=by simp
    go_wp2;refine bodyPost_ret (v:=.bool true) (by simp [results,Tryz.results49,go_sem]) rfl ?_
    exact ⟨rfl,HA.out⟩
end
section
open Go.RowKit J
theorem LiesG.lies {K:Nat}{t:Bool}{m:Int}{V S:Nat}(h:LiesG vK 9218868437227405312 1 K t m V S):Lies K t m V S:=by
 obtain ⟨h1,h2,h3,h4,h5,h6⟩:=h;simp only [Nat.pow_one] at h3 h4 h5 h6;refine ⟨h1,h2,h3,h4,fun a b=>?_,fun a=>?_⟩
 · have:=h5 a b
   rw [Nat.add_mul] at this;exact this
 · rcases h6 a with q | ⟨q,r⟩
   · exact .inl q
   · exact .inr ⟨by omega,r⟩
theorem Lies.same {K K':Nat}{t t':Bool}{m m':Int}{V S:Nat}(h:Lies K t m V S) (h':Lies K' t' m' V S):K=K'∧t=t'∧(t=false→m=m'):=by
 have g:=liesG64 h;have g':=liesG64 h'
 have a1:vK K^1*S≤V:=by
  rw [Nat.pow_one]
  cases t with
  | true=>have:=h.one rfl;omega
  | false=>have:=h.low rfl;omega
 have a2:K+1=9218868437227405312∨V<vK (K+1)^1*S:=by
  rw [Nat.pow_one]
  cases t with
  | true =>
    have:=h.one rfl;have:=Nat.mul_lt_mul_of_pos_right (grid64.mono (show K<K+1 by omega)) h.pos
    omega
  | false =>
    rcases h.high rfl with q|q
    · exact .inr q
    · omega
 obtain ⟨e1,e2,e3⟩:=LiesG.doc grid64 (by decide) g' K h.fin a1 a2
 obtain ⟨_,f2,f3⟩:=LiesG.doc grid64 (by decide) g K h.fin a1 a2
 subst e1;rw [←f2] at e2;refine ⟨rfl,e2.symm,fun ht=>?_⟩
 rw [f3 ht,e3 (by rw [e2];exact ht)]
end
section
open Go.RowKit J
noncomputable def qR16 (V D:Option (Bool×Nat×Int)) (mode:Int):Nat×Int:=quoR rndS ⟨dN V,.bool false,dX V,dE V,dN D,.bool false,dX D,dE D⟩ mode
end
section
open Go.RowKit J
theorem rK_same {mode:Int}{n:Bool}{K K':Nat}{t t':Bool}{m m':Int}(h:K=K'∧t=t'∧(t=false→m=m')):rK mode n K t m=rK mode n K' t' m':=by
 obtain ⟨rfl,rfl,h⟩:=h
 cases t with
 | true=>rfl
 | false=>rw [h rfl]
end
section
open Go Go.RowKit J
theorem g_parts16 {u k:Nat}{V:Int}(hu:u≤100000) (hV:V≠0) (hk:k≤90000) (hb:Bd k V):∃ X e,gV u V=some (decide (V<0),X,e)∧X%2=1∧-(u:Int)≤e∧e≤200000∧X*2^(e+(u:Int)).toNat=V.natAbs∧bl X≤262144∧Frm (decide (V<0)) X e:=by
 obtain ⟨n,X,e,ho,F,hx⟩:=g_iv (u:=u) hu (by omega) hb
 have hm:mkS (decide (V<0)) V.natAbs (-(u:Int))=some (n,X,e):=ho;have hz:=zv_mkS hm (-(u:Int)) (.inr (by omega))
 unfold zv at hz;simp only at hz;rw [show (-(u:Int) - -(u:Int)).toNat=0 by omega,Nat.pow_zero,Nat.mul_one] at hz
 have hX0:X≠0:=by
  rintro rfl;simp [sg1] at hz
  split at hz <;> omega
 have hp:0<X*2^(e - -(u:Int)).toNat:=Nat.mul_pos (by omega) (Nat.two_pow_pos _)
 rcases hx with h|⟨h1,h2⟩
 · exact absurd h hX0
 have hn:n=decide (V<0):=by
  by_cases hs:V<0
  · rw [decide_eq_true hs] at hz ⊢
    cases n with
    | true=>rfl
    | false=>simp only [sg1,if_true,Bool.false_eq_true,if_false] at hz;omega
  · rw [decide_eq_false hs] at hz ⊢
    cases n with
    | false=>rfl
    | true=>simp only [sg1,if_true,Bool.false_eq_true,if_false] at hz;omega
 rw [hn] at hz ho F
 have hv:X*2^(e - -(u:Int)).toNat=V.natAbs:=by
  by_cases hs:V<0
  · rw [decide_eq_true hs] at hz;simp only [sg1,if_true] at hz;omega
  · rw [decide_eq_false hs] at hz;simp only [sg1,Bool.false_eq_true,if_false] at hz;omega
 refine ⟨X,e,ho,?_,h1,by omega,?_,by omega,F⟩
 · rcases F.odd with q | q
   · exact q
   · exact absurd q.1 hX0
 · rw [show (e+(u:Int)).toNat=(e - -(u:Int)).toNat by congr 1;omega]
   exact hv
theorem rat16 {x S V S' V':Nat}(hS:0<S) (hS':0<S') (e:V*S'=V'*S):(x*S<V↔x*S'<V')∧(x*S=V↔x*S'=V')∧(V<x*S↔V'<x*S'):=by
 have a1:x*S*S'=x*S'*S:=by rw [Nat.mul_assoc,Nat.mul_comm S,←Nat.mul_assoc]
 have t1:x*S<V↔x*S*S'<V*S':=(Nat.mul_lt_mul_right hS').symm;have t2:x*S'<V'↔x*S'*S<V'*S:=(Nat.mul_lt_mul_right hS).symm;have t3:V<x*S↔V*S'<x*S*S':=(Nat.mul_lt_mul_right hS').symm;have t4:V'<x*S'↔V'*S<x*S'*S:=(Nat.mul_lt_mul_right hS).symm;rw [t1,t2,t3,t4,a1,e];refine ⟨Iff.rfl,?_,Iff.rfl⟩;rw [a1,e] at t1;rw [a1,e] at t3;omega
theorem LiesG.ratio16 {v:Nat→Nat}{top n K:Nat}{t:Bool}{m:Int}{V S V' S':Nat}(h:LiesG v top n K t m V S) (hS':0<S') (e:V*S'=V'*S):LiesG v top n K t m V' S':=by
 obtain ⟨h1,h2,h3,h4,h5,h6⟩:=h;have e2:(2^n*V)*S'=(2^n*V')*S:=by rw [Nat.mul_assoc,e,Nat.mul_assoc]
 refine ⟨h1,hS',fun a=>((rat16 h2 hS' e).2.1.1 (h3 a).symm).symm,fun a=>(rat16 h2 hS' e).1.1 (h4 a),fun a b=>?_,fun a=>?_⟩
 · have:=h5 a ((rat16 h2 hS' e).2.2.2 b)
   obtain ⟨r1,r2,r3⟩:=rat16 (x:=(v K+v (K+1))^n) h2 hS' e2
   rcases this with ⟨q,r⟩|⟨q,r⟩|⟨q,r⟩
   · exact .inl ⟨q,r3.1 r⟩
   · exact .inr (.inl ⟨q,(r2.1 r.symm).symm⟩)
   · exact .inr (.inr ⟨q,r1.1 r⟩)
 · rcases h6 a with q | q
   · exact .inl ((rat16 h2 hS' e).2.2.1 q)
   · exact .inr q
theorem qR_ok16 {u v k:Nat}{V D:Int}(hu:u≤100000) (hv:v≤100000) (hk:k≤90000) (hV:V≠0) (hD:0<D) (bV:Bd k V) (bD:Bd k D) :
 ∃ K t m,(∀ j,j=1074→LiesG vK 9218868437227405312 1 K t m (V.natAbs*2^(j+v)) (D.natAbs*2^u))∧∀ mode:Int,0≤mode→mode≤4→qR16 (gV u V) (gV v D) mode=(rK mode (decide (V<0)) K t m+(if V<0 then 9223372036854775808 else 0),0):=by
 obtain ⟨Y,f,ho2,hY,hf0,hf1,hv2,hbl2,F2⟩:=g_parts16 (u:=v) (V:=D) hv (by omega) hk bD
 rw [decide_eq_false (by omega)] at ho2 F2
 obtain ⟨X,e,ho,hX,he0,he1,hvv,hbl,F⟩:=g_parts16 (u:=u) (V:=V) hu hV hk bV;have hm1:mkS (decide (V<0)) X e=some (decide (V<0),X,e):=mkS_idem F;have hm2:mkS false Y f=some (false,Y,f):=mkS_idem F2;obtain ⟨K,t,m,hL,hR⟩:=quo64 (decide (V<0)) X e Y f hX (by omega) hbl hbl2
 refine ⟨K,t,m,fun j hj=>?_,fun mode hm0 hm4=>?_⟩
 · refine hL.ratio16 (Nat.mul_pos (by omega) (Nat.two_pow_pos _)) ?_
   unfold rV11 rS11;rw [←hvv,←hv2]
   have e1:X*2^(e-f+((1*1074:Nat):Int)).toNat*(Y*2^(f+(v:Int)).toNat*2^u)=X*Y*(2^((e-f+((1*1074:Nat):Int)).toNat+((f+(v:Int)).toNat+u))):=by
    rw [Nat.pow_add,Nat.pow_add,Nat.mul_assoc Y,Nat.mul_mul_mul_comm]
   have e2:X*2^(e+(u:Int)).toNat*2^(j+v)*(Y*2^(-(e-f+((1*1074:Nat):Int))).toNat)=X*Y*(2^((e+(u:Int)).toNat+(j+v)+(-(e-f+((1*1074:Nat):Int))).toNat)):=by
    rw [Nat.pow_add _ (_+_),Nat.pow_add _ (e+(u:Int)).toNat,Nat.mul_assoc X,Nat.mul_mul_mul_comm]
   rw [e1,e2]
   congr 2
   omega
 · unfold qR16
   rw [ho,ho2]
   show quoR rndS ⟨decide (V<0),.bool false,X,e,false,.bool false,Y,f⟩ mode=_
   unfold quoR;rw [if_neg (by omega),if_pos (by rw [errL_one];show errN X (decide (V<0)) e Y false f=0;unfold errN;rw [if_neg (by unfold sgn;simp;split <;> omega),hm1,hm2];simp [dX];omega),hm1,hm2]
   have:=hR mode hm0 hm4;simp only [decide_eq_true_eq] at this;exact this
theorem lit13 (w:World) (xs:List Nat) (g:Nat) (hg:g=w.heap.size):Fs (w.alloc (Obj.cells (xs.map fun x=>Value.float .f64 x).toArray 41)).heap.size (w.alloc (Obj.cells (xs.map fun x=>Value.float .f64 x).toArray 41)) (some ⟨g,0,none⟩) xs:=by
 intro _;refine ⟨g,0,by simp;omega,rfl,fun i hi=>?_⟩
 have hB:=Bl.new w 41 (xs.map fun x=>Value.float .f64 x)
 rw [hg];refine (hB.cell (0+i) (.float .f64 (xs.getD i 0)) ?_);rw [Nat.zero_add,List.getElem?_map,List.getD_eq_getElem?_getD,List.getElem?_eq_getElem hi]
 rfl
end
section
open Go Go.RowKit J
theorem ln_bd17 {lo hi i p:Nat}(hl:lo<18446744073709551616) (fl:finW lo) (hh:hi<18446744073709551616) (fh:finW hi) (hi1:i≤p) (hp:p≤1024) (z:Nat) (hz:z=2200):Bd z (lnV17 lo hi i p):=by
 obtain ⟨y,hy⟩:∃ z,z=2098:=⟨_,rfl⟩;obtain ⟨k,hk⟩:∃ z,z=31:=⟨_,rfl⟩;have b1:=bd_fv17 hl fl y hy;have b2:=bd_fv17 hh fh y hy;have bn:∀ n:Nat,n≤2147483648→Bd k (n:Int):=fun n hn=>by unfold Bd;rw [Int.natAbs_natCast,hk];exact hn
 have c1:=b1.mul (bn (p-i) (by omega))
 have c2:=b2.mul (bn i (by omega))
 have:=c1.add c2;unfold Bd at this ⊢;exact Nat.le_trans this (Nat.pow_le_pow_right (by decide) (by omega))
theorem ed_lies {lo hi i p:Nat}(hl:lo<18446744073709551616) (fl:finW lo) (hh:hi<18446744073709551616) (fh:finW hi) (hi1:i≤p) (h1:1≤p) (hp:p≤1024) (hV:lnV17 lo hi i p≠0) :
 ∃ K t m,Lies K t m (lnV17 lo hi i p).natAbs p∧∀ mode:Int,0≤mode→mode≤4→qR17 (gV 1074 (lnV17 lo hi i p)) (gV 0 (p:Int)) mode=(rK mode (decide (lnV17 lo hi i p<0)) K t m+(if lnV17 lo hi i p<0 then 9223372036854775808 else 0),0):=by
 obtain ⟨z,hz⟩:∃ z,z=2200:=⟨_,rfl⟩;have bV:=ln_bd17 hl fl hh fh hi1 hp z hz
 have bD:Bd z (p:Int):=by
  unfold Bd;rw [Int.natAbs_natCast]
  have q:1024≤2^z:=by
   have:2^10≤2^z:=Nat.pow_le_pow_right (by decide) (by omega)
   omega
  omega
 obtain ⟨u,hu⟩:∃ u,u=1074:=⟨_,rfl⟩;obtain ⟨K,t,m,hL,hR⟩:=qR_ok16 (u:=u) (v:=0) (k:=z) (V:=lnV17 lo hi i p) (D:=(p:Int)) (by omega) (by omega) (by omega) hV (by omega) bV bD
 refine ⟨K,t,m,?_,fun mode m0 m4=>?_⟩
 · have:=hL u hu
   rw [Nat.add_zero,Int.natAbs_natCast] at this
   have h2:=this.ratio16 (V':=(lnV17 lo hi i p).natAbs) (S':=p) (by omega) (by
    rw [Nat.mul_assoc,Nat.mul_comm (2^u) p])
   exact h2.lies
 · have:=hR mode m0 m4
   rw [hu] at this;exact this
theorem ed_at {lo hi i p K:Nat}{t:Bool}{m:Int}(hl:lo<18446744073709551616) (fl:finW lo) (hh:hi<18446744073709551616) (fh:finW hi) (hi1:i≤p) (h1:1≤p) (hp:p≤1024) (hV:0<lnV17 lo hi i p) (hK:Lies K t m (lnV17 lo hi i p).natAbs p):edW lo hi i p=rK 0 false K t m:=by
 obtain ⟨K',t',m',h2,h3⟩:=ed_lies hl fl hh fh hi1 h1 hp (by omega)
 unfold edW;rw [h3 0 (by omega) (by omega),decide_eq_false (by omega),if_neg (by omega),rK_same (h2.same hK)]
 rfl
theorem ed_zero {lo hi i p:Nat}(h1:1≤p) (hp:p≤1024) (hV:lnV17 lo hi i p=0) (mode:Int) (m0:0≤mode) (m4:mode≤4):qR17 (gV 1074 (lnV17 lo hi i p)) (gV 0 (p:Int)) mode=(0,0):=by
 obtain ⟨z,hz⟩:∃ z,z=2200:=⟨_,rfl⟩
 have bD:Bd z (p:Int):=by
  unfold Bd;rw [Int.natAbs_natCast]
  have q:1024≤2^z:=by
   have:2^10≤2^z:=Nat.pow_le_pow_right (by decide) (by omega)
   omega
  omega
 obtain ⟨Y,f,ho2,hY,hf0,hf1,hv2,hbl2,F2⟩:=g_parts16 (u:=0) (V:=(p:Int)) (by omega) (by omega) (by omega:z≤90000) bD
 rw [decide_eq_false (by omega)] at ho2 F2
 have hm2:mkS false Y f=some (false,Y,f):=mkS_idem F2;rw [hV,g_zero];unfold qR17;rw [ho2]
 show quoR rndS ⟨false,.bool false,0,0,false,.bool false,Y,f⟩ mode=_
 have hm1:mkS false 0 0=some (false,0,0):=mkS_zero _ _;unfold quoR;rw [if_neg (by omega),if_pos (by rw [errL_one];show errN 0 false 0 Y false f=0;unfold errN;rw [if_neg (by unfold sgn;simp;split <;> omega),hm1,hm2];simp [dX];omega),hm1,hm2]
 show rndS (quoZ false 0 0 Y f) mode=_
 rw [quoZ_nought false 0 Y f (by omega) hbl2]
 have hc:mode=0∨mode=1∨mode=2∨mode=3∨mode=4:=by omega
 rcases hc with rfl|rfl|rfl|rfl|rfl <;> first|rfl|decide +kernel
theorem ed_none {lo hi i p:Nat}(h1:1≤p) (hp:p≤1024) (hV:lnV17 lo hi i p=0):edW lo hi i p=0:=by
 unfold edW;rw [ed_zero h1 hp hV 0 (by omega) (by omega)]
theorem rK_le17 {mode:Int}{n:Bool}{K:Nat}{t:Bool}{m:Int}:rK mode n K t m≤K+1:=by
 unfold rK
 split
 · omega
 · split <;> omega
theorem ed_W64 {lo hi i p:Nat}(hl:lo<18446744073709551616) (fl:finW lo) (hh:hi<18446744073709551616) (fh:finW hi) (hi1:i≤p) (h1:1≤p) (hp:p≤1024):edW lo hi i p<18446744073709551616:=by
 by_cases hV:lnV17 lo hi i p=0
 · rw [ed_none h1 hp hV];omega
 · obtain ⟨K,t,m,h2,h3⟩:=ed_lies hl fl hh fh hi1 h1 hp hV
   unfold edW;rw [h3 0 (by omega) (by omega)]
   have q1:=h2.fin;have q2:=rK_le17 (mode:=0) (n:=decide (lnV17 lo hi i p<0)) (K:=K) (t:=t) (m:=m);simp only
   split <;> omega
theorem edL_W64 {lo hi p:Nat}(hl:lo<18446744073709551616) (fl:finW lo) (hh:hi<18446744073709551616) (fh:finW hi) (h1:1≤p) (hp:p≤1023):W64 (edL lo hi p):=by
 intro x hx;unfold edL at hx;obtain ⟨i,hi',rfl⟩:=List.mem_map.1 hx;have:=List.mem_range.1 hi';exact ed_W64 hl fl hh fh (by omega) h1 (by omega)
abbrev one17:Nat:=4607182418800017408
theorem lies_own17 {L V S:Nat}(hL:L<9218868437227405312) (hS:0<S) (hV:V=vK L*S):Lies L true 0 V S:=⟨hL,hS,fun _=>hV,fun h=>(by cases h),fun h=>(by cases h),fun h=>(by cases h)⟩
theorem ed_own17 {lo hi i p L:Nat}(hl:lo<18446744073709551616) (fl:finW lo) (hh:hi<18446744073709551616) (fh:finW hi) (hi1:i≤p) (h1:1≤p) (hp:p≤1024) (hL:L<9218868437227405312) (hV:0<lnV17 lo hi i p) (he:(lnV17 lo hi i p).natAbs=vK L*p):edW lo hi i p=L :=
 ed_at hl fl hh fh hi1 h1 hp hV (lies_own17 hL (by omega) he)
theorem edL_quarters:edL 0 one17 4=[0,4598175219545276416,4602678819172646912,4604930618986332160,4607182418800017408]:=by
 have f0:finW 0:=by decide
 have f1:finW one17:=by decide
 have e0:edW 0 one17 0 4=0:=ed_none (by omega) (by omega) (by decide +kernel)
 have e1:edW 0 one17 1 4=4598175219545276416:=ed_own17 (by decide) f0 (by decide) f1 (by omega) (by omega) (by omega) (by omega) (by decide +kernel) (by decide +kernel)
 have e2:edW 0 one17 2 4=4602678819172646912:=ed_own17 (by decide) f0 (by decide) f1 (by omega) (by omega) (by omega) (by omega) (by decide +kernel) (by decide +kernel)
 have e3:edW 0 one17 3 4=4604930618986332160:=ed_own17 (by decide) f0 (by decide) f1 (by omega) (by omega) (by omega) (by omega) (by decide +kernel) (by decide +kernel)
 have e4:edW 0 one17 4 4=4607182418800017408:=ed_own17 (by decide) f0 (by decide) f1 (by omega) (by omega) (by omega) (by omega) (by decide +kernel) (by decide +kernel)
 show [edW 0 one17 0 4,edW 0 one17 1 4,edW 0 one17 2 4,edW 0 one17 3 4,edW 0 one17 4 4]=_
 rw [e0,e1,e2,e3,e4]
end
section
open Go.RowKit J
theorem OwnI.but17 {w w':World}{g g':Nat}{L:List Nat}(h:OwnI w g L) (hb:But g' w w') (hg:g≠g'):OwnI w' g L:=by
 unfold OwnI at h ⊢;rw [hb.block g (Array.getElem?_eq_some_iff.1 h).1 hg];exact h
def Hs.mrg (s t:Hs):Hs:=⟨List.zipWith (·+·) s.C t.C,s.b+t.b,s.a+t.a,s.o+t.o⟩
theorem sum_zip17:∀ (C D:List Nat),C.length=D.length→(List.zipWith (·+·) C D).sum=C.sum+D.sum
 | [],[],_=>rfl
 | [],d::D,h=>by simp at h
 | c::C,[],h=>by simp at h
 | c::C,d::D,h=>by
   have:=sum_zip17 C D (by simpa using h)
   simp only [List.zipWith_cons_cons,List.sum_cons,this];omega
theorem mrg_all {s t:Hs}(h:s.C.length=t.C.length):(s.mrg t).all=s.all+t.all:=by
 unfold Hs.mrg Hs.all;simp only;rw [sum_zip17 _ _ h];omega
theorem mrg_len {s t:Hs}(h:s.C.length=t.C.length):(s.mrg t).C.length=s.C.length:=by
 unfold Hs.mrg;simp;omega
def mgT (C D:List Nat) (k:Nat):List Nat:=(List.zipWith (·+·) C D).take k++C.drop k
theorem mgT_len {C D:List Nat}(h:C.length=D.length) (k:Nat):(mgT C D k).length=C.length:=by
 unfold mgT;simp;omega
theorem mgT_zero (C D:List Nat):mgT C D 0=C:=by simp [mgT]
theorem mgT_all {C D:List Nat}(h:C.length=D.length) {k:Nat}(hk:k=C.length):mgT C D k=List.zipWith (·+·) C D:=by
 unfold mgT;rw [List.take_of_length_le (by simp;omega),List.drop_of_length_le (by omega),List.append_nil]
theorem mgT_get {C D:List Nat}(h:C.length=D.length) {k:Nat}(hk:k<C.length):(mgT C D k).getD k 0=C.getD k 0:=by
 unfold mgT;have hz:((List.zipWith (·+·) C D).take k).length=k:=by simp;omega
 rw [List.getD_eq_getElem?_getD,List.getElem?_append_right (by omega),hz,Nat.sub_self,List.getElem?_drop,Nat.add_zero,List.getD_eq_getElem?_getD]
theorem mgT_set {C D:List Nat}(h:C.length=D.length) {k:Nat}(hk:k<C.length):(mgT C D k).set k (C.getD k 0+D.getD k 0)=mgT C D (k+1):=by
 unfold mgT;have hz:((List.zipWith (·+·) C D).take k).length=k:=by simp;omega
 rw [List.set_append_right _ _ (by omega),hz,Nat.sub_self,List.drop_eq_getElem_cons hk,List.set_cons_zero,List.take_add_one,List.getElem?_eq_getElem (by simp;omega),List.getElem_zipWith,List.getD_eq_getElem?_getD,List.getD_eq_getElem?_getD,List.getElem?_eq_getElem hk,List.getElem?_eq_getElem (by omega)]
 simp
theorem Merge17 {w:World}{g gE gC cE g2 gF gD cF:Nat}{E F:List Nat}{s t:Hs}(h:Hm w g gE gC cE E s) (h2:Hm w g2 gF gD cF F t) (q1:g2≠g∧g2≠gC) (q2:gD≠g∧gD≠gC) (q3:gF≠g∧gF≠gC) :
 Calls Tryz.prog 48 #[.pointer (some ⟨g,0,none⟩),.pointer (some ⟨g2,0,none⟩)] w fun r w'=>r=.returned (.int .i64 (if ¬ E.map sP=F.map sP then 170 else if 1099511627776<s.all+t.all then 2 else 0))∧Hm w' g gE gC cE E (if ¬ E.map sP=F.map sP then s else if 1099511627776<s.all+t.all then s else s.mrg t)∧But2 g gC w w':=by
 obtain ⟨er,her⟩:∃ e:Int,e=(if ¬ E.map sP=F.map sP then 170 else if 1099511627776<s.all+t.all then 2 else 0):=⟨_,rfl⟩
 obtain ⟨S,hS⟩:∃ S:Hs,S=(if ¬ E.map sP=F.map sP then s else if 1099511627776<s.all+t.all then s else s.mrg t):=⟨_,rfl⟩
 rw [←her,←hS];have HR:=(qsd (ai her hS));clear her hS;obtain ⟨c0,c1,c2,c3,c4,c5⟩:=h.cells;obtain ⟨z0,z1,z2,z3,z4,z5⟩:=h2.cells;have C:=hid (equal17 E F (some ⟨gE,0,none⟩) (some ⟨gF,0,none⟩) E.length cE F.length cF w.drew h.es h2.es rfl rfl (by have:=h.ed.2.1;omega) h.wE h2.wE h.ed.2.2.1 h2.ed.2.2.1)
 have HH:=(qsd (ai h (ai h2 (ai q1 (ai q2 q3)))));obtain ⟨nE,hnE⟩:∃ n,n=E.length:=⟨_,rfl⟩;obtain ⟨nF,hnF⟩:∃ n,n=F.length:=⟨_,rfl⟩;rw [←hnE] at c3 C;rw [←hnF] at z3 C;have HL:=(qsd (ai hnE hnF));clear h h2 q1 q2 q3 c0 c1 c2 hnE z0 z1 z2 hnF;go_enter Tryz.func48,Tryz.ntmps48
 go_upto_region 1 with fail
 go_cut [7] from 8 to 17 (fun v wx=>(∃ b:Bool,v=.bool (!b)∧(b=true↔E.map sP=F.map sP))∧Aside (∃ k,wx=w.drewN k))
 case first =>
  have kS:Aside (w.drew.cell? ⟨g,3,none⟩=some (.slice (some ⟨gE,0,none⟩) nE cE)∧w.drew.cell? ⟨g2,3,none⟩=some (.slice (some ⟨gF,0,none⟩) nF cF)):=⟨c3,z3⟩
  go_region_held3 (fun w'=>w'.cell? ⟨g,3,none⟩=some (.slice (some ⟨gE,0,none⟩) nE cE)∧w'.cell? ⟨g2,3,none⟩=some (.slice (some ⟨gF,0,none⟩) nF cF)) (with_reducible exact kS.out) (first
   | (go_at_call 84
      with_reducible refine C.out.mono ?_
      rintro r v ⟨⟨b,rfl,hb⟩,hv⟩;have G:=qsd (ai hb hv)
      have kS:Aside (v.cell? ⟨g,3,none⟩=some (.slice (some ⟨gE,0,none⟩) nE cE)∧v.cell? ⟨g2,3,none⟩=some (.slice (some ⟨gF,0,none⟩) nF cF)):=by
       obtain ⟨k,rfl⟩:=hv;exact ⟨c3,z3⟩
      clear hb hv))
  all_goals
   go_wp2_with fail
   go_meet
   case rel=>exact ⟨⟨b,by first | rfl | simp,G.out.1⟩,by obtain ⟨k,e⟩:=G.out.2;exact ⟨1+k,by rw [e];exact drewN_drewN17 w 1 k⟩⟩
 clear C;obtain ⟨⟨b,rfl,hb⟩,HA⟩:=hcut;obtain ⟨V,hV⟩:∃ W,W=wc:=⟨_,rfl⟩;subst hV
 cases b <;> simp only [Bool.not_true,Bool.not_false]
 · have hne:¬ E.map sP=F.map sP:=fun e=>by have:=hb.2 e;cases this
   have HZ:Aside (er=170∧Hm V g gE gC cE E S∧But2 g gC w V):=by
    refine ⟨by rw [HR.out.1,if_pos hne],?_⟩
    rw [HR.out.2,if_pos hne];obtain ⟨k,e⟩:=HA.out;have hbel:Below w.heap.size w V:=by rw [e];exact below_drewN17 (Below.refl _ _) _
    exact ⟨HH.out.1.below hbel,Below.two hbel⟩
   go_wp2;go_ret;exact ⟨by rw [HZ.out.1];rfl,HZ.out.2⟩
 · have heq:=hb.1 rfl
   have HR2:Aside (er=(if 1099511627776<s.all+t.all then 2 else 0)∧S=(if 1099511627776<s.all+t.all then s else s.mrg t)):=⟨by rw [HR.out.1,if_neg (not_not_intro heq)],by rw [HR.out.2,if_neg (not_not_intro heq)]⟩
   have hlenC:s.C.length=t.C.length:=by
    have e1:=HH.out.1.le;have e2:=HH.out.2.1.le;have e3:=congrArg List.length heq;simp at e3;omega
   have hsm0:s.all<2000000000000∧t.all<2000000000000:=by have:=HH.out.1.mx;have:=HH.out.2.1.mx;omega
   have y5:V.cell? ⟨g,5,none⟩=some (.int .i64 (s.all:Nat)):=by obtain ⟨k,rfl⟩:=HA.out;exact c5
   have x5:V.cell? ⟨g2,5,none⟩=some (.int .i64 (t.all:Nat)):=by obtain ⟨k,rfl⟩:=HA.out;exact z5
   obtain ⟨n,hn⟩:∃ n,n=s.all:=⟨_,rfl⟩;obtain ⟨m,hm⟩:∃ n,n=t.all:=⟨_,rfl⟩;rw [←hn] at y5;rw [←hm] at x5;have hsm:n<2000000000000∧m<2000000000000:=by rw [hn,hm];exact hsm0
   clear hsm0;have wn:IntKind.i64.wrap ((n:Int)+(m:Int))=((n+m:Nat):Int):=wrapY (by omega) (by omega)
   obtain ⟨n3,hn3⟩:∃ n,n=s.all+t.all:=⟨_,rfl⟩;rw [show n+m=n3 by omega] at wn
   have HR3:=HR2.out;rw [←hn3] at HR3;have HR4:=qsd HR3;clear HR HR2 HR3;have HNN:=(qsd (ai hn (ai hm (ai hn3 hlenC))));clear hn hm hn3 hlenC heq hb c3 z3 c5 z5
   go_upto_region 3 with fail
   go_cut [18] from 19 to 28 (fun v wx=>∃ t:Bool,v=.bool t∧t=decide ((1099511627776:Int)<(n3:Int))∧Aside (∃ k,wx=w.drewN k))
   case first =>
    go_quiet (fail)
    go_wp2_with fail
    go_meet
    case rel=>exact ⟨_,rfl,by first | rfl | simp,by obtain ⟨k,e⟩:=HA.out;exact ⟨k+_,by rw [e];exact drewN_drewN17 w k _⟩⟩
   clear HA y5 x5;obtain ⟨tt,rfl,htt,HA⟩:=hcut;obtain ⟨V2,hV⟩:∃ W,W=wc:=⟨_,rfl⟩;subst hV;have hbel:Below w.heap.size w V2:=by obtain ⟨k,e⟩:=HA.out;rw [e];exact below_drewN17 (Below.refl _ _) _
   have K1:=qsd (HH.out.1.below hbel);have K2:=qsd (HH.out.2.1.below hbel);have KB:=qsd hbel;clear hbel HA
   by_cases hbig:1099511627776<n3
   · have dbig:decide ((1099511627776:Int)<(n3:Int))=true:=by simp;omega
     rw [dbig] at htt;subst htt
     have HZ:Aside (er=2∧Hm V2 g gE gC cE E S∧But2 g gC w V2):=by
      refine ⟨by rw [HR4.out.1,if_pos hbig],?_⟩
      rw [HR4.out.2,if_pos hbig];exact ⟨K1.out,Below.two KB.out⟩
     clear HR4;go_wp2;go_ret;exact ⟨by rw [HZ.out.1];rfl,HZ.out.2⟩
   · have dbig:decide ((1099511627776:Int)<(n3:Int))=false:=by simp;omega
     rw [dbig] at htt;subst htt;have HR5:Aside (er=0∧S=s.mrg t):=⟨by rw [HR4.out.1,if_neg hbig],by rw [HR4.out.2,if_neg hbig]⟩
     clear HR4;obtain ⟨y0,y1,y2,y3,y4,y5⟩:=K2.out.cells;obtain ⟨nC,hnC⟩:∃ n,n=s.C.length:=⟨_,rfl⟩;rw [←HNN.out.2.2.2,←hnC] at y4;have HNC:=qsd hnC;have hlC:nC≤1024:=by have:=HH.out.1.le;have:=HH.out.1.ed.2.1;omega
     clear y0 y1 y2 y3 y5 hnC;go_wp2
     go_loopg [34] nC (fun gk iv wr=>∃ k:Nat,gk+k=nC∧iv=.int .i64 (k:Nat)∧Aside (OwnI wr gC (mgT s.C t.C k)∧But gC V2 wr))
     case atStart=>exact ⟨0,by omega,by first | rfl | simp,by rw [mgT_zero];exact K1.out.cs,But.refl _ _⟩
     case round =>
      obtain ⟨k,hgk,rfl,HA⟩:=hrel;clear y4
      by_cases hk:k<nC
      · have hdk:decide ((k:Int)<(nC:Int))=true:=by simp;omega
        have lk:(k:Int)<(nC:Int):=by omega
        have lk0:(0:Int)≤(k:Int):=by omega
        obtain ⟨k1,hk1⟩:∃ x,x=k+1:=⟨_,rfl⟩;have wk:IntKind.i64.wrap ((k:Int)+1)=(k1:Int):=wrapY (by omega) (by omega)
        have hkC:k<s.C.length:=by have:=HNC.out;omega
        have x1:=HA.out.1.cell k (by rw [mgT_len HNN.out.2.2.2];exact hkC)
        rw [mgT_get HNN.out.2.2.2 hkC] at x1;have x2:wr.cell? ⟨gD,k,none⟩=some (.int .i64 ((t.C.getD k 0:Nat):Int)):=(K2.out.cs.but17 HA.out.2 HH.out.2.2.2.1.2).cell k (by rw [←HNN.out.2.2.2];exact hkC)
        have x3:=(K1.out.bl.but HA.out.2 K1.out.n1).cell 4 _ rfl;rw [←HNC.out] at x3;have x4:=HA.out.1.frozen k;have hset:=HA.out.1.set k (s.C.getD k 0+t.C.getD k 0);rw [mgT_set HNN.out.2.2.2 hkC] at hset;have hb1:=get_le_sum17 s.C k;have hb2:=get_le_sum17 t.C k;have hb3:s.C.sum≤n∧t.C.sum≤m:=by rw [HNN.out.1,HNN.out.2.1];unfold Hs.all;omega
        obtain ⟨p,hp⟩:∃ p,p=s.C.getD k 0:=⟨_,rfl⟩;obtain ⟨q,hq⟩:∃ p,p=t.C.getD k 0:=⟨_,rfl⟩;rw [←hp] at x1 hset hb1;rw [←hq] at x2 hset hb2;have wp:IntKind.i64.wrap ((p:Int)+(q:Int))=((p+q:Nat):Int):=wrapY (by omega) (by omega)
        obtain ⟨pq,hpq⟩:∃ p',p'=p+q:=⟨_,rfl⟩;rw [←hpq] at wp hset;have HN:Aside (OwnI (wr.setCell ⟨gC,k,none⟩ (.int .i64 (pq:Nat))) gC (mgT s.C t.C k1)∧But gC V2 (wr.setCell ⟨gC,k,none⟩ (.int .i64 (pq:Nat)))):=⟨by rw [hk1];exact hset,HA.out.2.set k _⟩
        have HK:=qsd hk1;clear hset hb1 hb2 hb3 hp hq hpq hk1 HA hkC;go_wp2
        go_roundg (nC-k1)
        case measure=>have:=HK.out;omega
        case rel=>exact ⟨k1,by have:=HK.out;omega,by first | rfl | simp,HN.out⟩
      · obtain rfl:k=nC:=by omega
        have hdk:decide ((k:Int)<(k:Int))=false:=by simp
        have hO:=HA.out.1;rw [mgT_all HNN.out.2.2.2 HNC.out] at hO;have hB1:=K1.out.bl.but HA.out.2 K1.out.n1;rw [←HNN.out.1] at hB1;have hB2:=K2.out.bl.but HA.out.2 HH.out.2.2.1.2;have x0:wr.cell? ⟨g2,0,none⟩=some (.int .i64 (t.b:Nat)):=hB2.cell 0 _ rfl;have x1:wr.cell? ⟨g2,1,none⟩=some (.int .i64 (t.a:Nat)):=hB2.cell 1 _ rfl;have x2:wr.cell? ⟨g2,2,none⟩=some (.int .i64 (t.o:Nat)):=hB2.cell 2 _ rfl;have hs1:s.b+s.a+s.o≤n∧t.b+t.a+t.o≤m:=by rw [HNN.out.1,HNN.out.2.1];unfold Hs.all;omega
        have C:=hid (join17 (b2:=t.b) (a2:=t.a) (o2:=t.o) hB1.drew (by omega) (by omega) (by omega))
        have HO:=(qsd (ai hO (ai hB1 (ai hB2 HA.out.2))));clear hO hB1 hB2 HA hs1
        go_upto_region 10 with fail
        go_cut [] from 50 to 57 (fun wx=>Aside (Bl wx g 83 [.int .i64 ((s.b+t.b:Nat):Int),.int .i64 ((s.a+t.a:Nat):Int),.int .i64 ((s.o+t.o:Nat):Int),.slice (some ⟨gE,0,none⟩) E.length cE,.slice (some ⟨gC,0,none⟩) s.C.length s.C.length,.int .i64 (n:Nat)]∧But g wr.drew wx))
        case first =>
         refine calm17b ?_
         go_region_with (first
          | (go_at_call 85
             with_reducible refine C.out.mono ?_
             rintro r v ⟨rfl,hv⟩;have G:=qsd hv;clear hv))
         all_goals
          go_wp2_with fail
          go_meet
          case rel=>exact G.out
        clear C x0 x1 x2;have HB:=hcut;obtain ⟨V3,hV⟩:∃ W,W=wc:=⟨_,rfl⟩;subst hV;clear hcut;have x5:V3.cell? ⟨g,5,none⟩=some (.int .i64 (n:Nat)):=HB.out.1.cell 5 _ rfl;have f5:V3.frozen? ⟨g,5,none⟩=false:=HB.out.1.frozen 5;have v5:V3.cell? ⟨g2,5,none⟩=some (.int .i64 (m:Nat)):=(by have:=(HO.out.2.2.1.drew.but HB.out.2 HH.out.2.2.1.1).cell 5 _ rfl;rw [←HNN.out.2.1] at this;exact this)
        have HF:Aside (Hm (V3.drew.setCell ⟨g,5,none⟩ (.int .i64 (n3:Nat))) g gE gC cE E (s.mrg t)∧But2 g gC w (V3.drew.setCell ⟨g,5,none⟩ (.int .i64 (n3:Nat)))):=by
         have bt:But2 g gC V2 (V3.drew.setCell ⟨g,5,none⟩ (.int .i64 (n3:Nat))):=HO.out.2.2.2.two2.trans ((But.refl g wr).drew.two1.trans (HB.out.2.two1.trans ((But.refl g V3).drew.set 5 _).two1));refine ⟨⟨?_,?_,K1.out.es.re17 bt.size (fun hl=>bt.block gE hl K1.out.n2 K1.out.n3),K1.out.n1,K1.out.n2,K1.out.n3,K1.out.ed,K1.out.wE,?_,?_⟩,(Below.two KB.out).trans bt⟩
         · rw [mrg_all HNN.out.2.2.2,mrg_len HNN.out.2.2.2,←HNN.out.2.2.1]
           exact HB.out.1.drew.set 5 _
         · have b2:=(But.refl g wr).drew.trans (HB.out.2.trans ((But.refl g V3).drew.set 5 (.int .i64 (n3:Nat))))
           have:=HO.out.1;unfold OwnI at this ⊢;rw [b2.block gC (Array.getElem?_eq_some_iff.1 this).1 (Ne.symm K1.out.n1)];exact this
         · rw [mrg_len HNN.out.2.2.2];exact K1.out.le
         · rw [mrg_all HNN.out.2.2.2,←HNN.out.2.2.1];omega
        clear HO HB
        go_upto_region 11 with fail
        go_region
        all_goals
         go_wp2;go_ret;exact ⟨by rw [HR5.out.1];rfl,by rw [HR5.out.2];exact HF.out⟩
theorem MergeSelf17 {w:World}{g gE gC cE :Nat}{E :List Nat}{s :Hs}(h:Hm w g gE gC cE E s) :
 Calls Tryz.prog 48 #[.pointer (some ⟨g,0,none⟩),.pointer (some ⟨g,0,none⟩)] w fun r w'=>r=.returned (.int .i64 (if 1099511627776<s.all+s.all then 2 else 0))∧Hm w' g gE gC cE E (if 1099511627776<s.all+s.all then s else s.mrg s)∧But2 g gC w w':=by
 obtain ⟨er,her⟩:∃ e:Int,e=(if 1099511627776<s.all+s.all then 2 else 0):=⟨_,rfl⟩
 obtain ⟨S,hS⟩:∃ S:Hs,S=(if 1099511627776<s.all+s.all then s else s.mrg s):=⟨_,rfl⟩
 rw [←her,←hS];have HR:=(qsd (ai her hS));clear her hS;obtain ⟨c0,c1,c2,c3,c4,c5⟩:=h.cells;obtain ⟨z0,z1,z2,z3,z4,z5⟩:=h.cells;have C:=hid (equal17 E E (some ⟨gE,0,none⟩) (some ⟨gE,0,none⟩) E.length cE E.length cE w.drew h.es h.es rfl rfl (by have:=h.ed.2.1;omega) h.wE h.wE h.ed.2.2.1 h.ed.2.2.1)
 have HH:=(qsd (ai h trivial));obtain ⟨nE,hnE⟩:∃ n,n=E.length:=⟨_,rfl⟩
 skip
 rw [←hnE] at c3 C
 try rw [←hnE] at z3
 have HL:=(qsd (ai hnE trivial));clear h  c0 c1 c2 hnE z0 z1 z2;go_enter Tryz.func48,Tryz.ntmps48
 go_upto_region 1 with fail
 go_cut [7] from 8 to 17 (fun v wx=>(∃ b:Bool,v=.bool (!b)∧(b=true↔E.map sP=E.map sP))∧Aside (∃ k,wx=w.drewN k))
 case first =>
  have kS:Aside (w.drew.cell? ⟨g,3,none⟩=some (.slice (some ⟨gE,0,none⟩) nE cE)∧w.drew.cell? ⟨g,3,none⟩=some (.slice (some ⟨gE,0,none⟩) nE cE)):=⟨c3,z3⟩
  go_region_held3 (fun w'=>w'.cell? ⟨g,3,none⟩=some (.slice (some ⟨gE,0,none⟩) nE cE)∧w'.cell? ⟨g,3,none⟩=some (.slice (some ⟨gE,0,none⟩) nE cE)) (with_reducible exact kS.out) (first
   | (go_at_call 84
      with_reducible refine C.out.mono ?_
      rintro r v ⟨⟨b,rfl,hb⟩,hv⟩;have G:=qsd (ai hb hv)
      have kS:Aside (v.cell? ⟨g,3,none⟩=some (.slice (some ⟨gE,0,none⟩) nE cE)∧v.cell? ⟨g,3,none⟩=some (.slice (some ⟨gE,0,none⟩) nE cE)):=by
       obtain ⟨k,rfl⟩:=hv;exact ⟨c3,z3⟩
      clear hb hv))
  all_goals
   go_wp2_with fail
   go_meet
   case rel=>exact ⟨⟨b,by first | rfl | simp,G.out.1⟩,by obtain ⟨k,e⟩:=G.out.2;exact ⟨1+k,by rw [e];exact drewN_drewN17 w 1 k⟩⟩
 clear C;obtain ⟨⟨b,rfl,hb⟩,HA⟩:=hcut;obtain ⟨V,hV⟩:∃ W,W=wc:=⟨_,rfl⟩;subst hV
 cases b <;> simp only [Bool.not_true,Bool.not_false]
 · have hne:¬ E.map sP=E.map sP:=fun e=>by have:=hb.2 e;cases this
   exact absurd rfl hne
 · have heq:=hb.1 rfl
   have HR2:=HR
   have hlenC:s.C.length=s.C.length:=by
    have e1:=HH.out.1.le;have e2:=HH.out.1.le;have e3:=congrArg List.length heq;simp at e3;omega
   have hsm0:s.all<2000000000000∧s.all<2000000000000:=by have:=HH.out.1.mx;have:=HH.out.1.mx;omega
   have y5:V.cell? ⟨g,5,none⟩=some (.int .i64 (s.all:Nat)):=by obtain ⟨k,rfl⟩:=HA.out;exact c5
   have x5:V.cell? ⟨g,5,none⟩=some (.int .i64 (s.all:Nat)):=by obtain ⟨k,rfl⟩:=HA.out;exact z5
   obtain ⟨n,hn⟩:∃ n,n=s.all:=⟨_,rfl⟩;rw [←hn] at y5;rw [←hn] at x5;have hsm:n<2000000000000∧n<2000000000000:=by rw [hn];exact hsm0
   clear hsm0;have wn:IntKind.i64.wrap ((n:Int)+(n:Int))=((n+n:Nat):Int):=wrapY (by omega) (by omega)
   obtain ⟨n3,hn3⟩:∃ n,n=s.all+s.all:=⟨_,rfl⟩;rw [show n+n=n3 by omega] at wn
   have HR3:=HR2.out;rw [←hn3] at HR3;have HR4:=qsd HR3;clear HR HR2 HR3;have HNN:=(qsd (ai hn (ai hn (ai hn3 trivial))));clear hn hn3 hlenC heq hb c3 z3 c5 z5
   go_upto_region 3 with fail
   go_cut [18] from 19 to 28 (fun v wx=>∃ t:Bool,v=.bool t∧t=decide ((1099511627776:Int)<(n3:Int))∧Aside (∃ k,wx=w.drewN k))
   case first =>
    go_quiet (fail)
    go_wp2_with fail
    go_meet
    case rel=>exact ⟨_,rfl,by first | rfl | simp,by obtain ⟨k,e⟩:=HA.out;exact ⟨k+_,by rw [e];exact drewN_drewN17 w k _⟩⟩
   clear HA y5 x5;obtain ⟨tt,rfl,htt,HA⟩:=hcut;obtain ⟨V2,hV⟩:∃ W,W=wc:=⟨_,rfl⟩;subst hV;have hbel:Below w.heap.size w V2:=by obtain ⟨k,e⟩:=HA.out;rw [e];exact below_drewN17 (Below.refl _ _) _
   have K1:=qsd (HH.out.1.below hbel)
   skip
   have KB:=qsd hbel;clear hbel HA
   by_cases hbig:1099511627776<n3
   · have dbig:decide ((1099511627776:Int)<(n3:Int))=true:=by simp;omega
     rw [dbig] at htt;subst htt
     have HZ:Aside (er=2∧Hm V2 g gE gC cE E S∧But2 g gC w V2):=by
      refine ⟨by rw [HR4.out.1,if_pos hbig],?_⟩
      rw [HR4.out.2,if_pos hbig];exact ⟨K1.out,Below.two KB.out⟩
     clear HR4;go_wp2;go_ret;exact ⟨by rw [HZ.out.1];rfl,HZ.out.2⟩
   · have dbig:decide ((1099511627776:Int)<(n3:Int))=false:=by simp;omega
     rw [dbig] at htt;subst htt;have HR5:Aside (er=0∧S=s.mrg s):=⟨by rw [HR4.out.1,if_neg hbig],by rw [HR4.out.2,if_neg hbig]⟩
     clear HR4;obtain ⟨y0,y1,y2,y3,y4,y5⟩:=K1.out.cells;obtain ⟨nC,hnC⟩:∃ n,n=s.C.length:=⟨_,rfl⟩;rw [←hnC] at y4;have HNC:=qsd hnC;have hlC:nC≤1024:=by have:=HH.out.1.le;have:=HH.out.1.ed.2.1;omega
     clear y0 y1 y2 y3 y5 hnC;go_wp2
     go_loopg [34] nC (fun gk iv wr=>∃ k:Nat,gk+k=nC∧iv=.int .i64 (k:Nat)∧Aside (OwnI wr gC (mgT s.C s.C k)∧But gC V2 wr))
     case atStart=>exact ⟨0,by omega,by first | rfl | simp,by rw [mgT_zero];exact K1.out.cs,But.refl _ _⟩
     case round =>
      obtain ⟨k,hgk,rfl,HA⟩:=hrel;clear y4
      by_cases hk:k<nC
      · have hdk:decide ((k:Int)<(nC:Int))=true:=by simp;omega
        have lk:(k:Int)<(nC:Int):=by omega
        have lk0:(0:Int)≤(k:Int):=by omega
        obtain ⟨k1,hk1⟩:∃ x,x=k+1:=⟨_,rfl⟩;have wk:IntKind.i64.wrap ((k:Int)+1)=(k1:Int):=wrapY (by omega) (by omega)
        have hkC:k<s.C.length:=by have:=HNC.out;omega
        have x1:=HA.out.1.cell k (by rw [mgT_len (rfl:s.C.length=s.C.length)];exact hkC)
        rw [mgT_get (rfl:s.C.length=s.C.length) hkC] at x1;have x2:wr.cell? ⟨gC,k,none⟩=some (.int .i64 ((s.C.getD k 0:Nat):Int)):=by have:=HA.out.1.cell k (by rw [mgT_len (rfl:s.C.length=s.C.length)];exact hkC);rw [mgT_get (rfl:s.C.length=s.C.length) hkC] at this;exact this
        have x3:=(K1.out.bl.but HA.out.2 K1.out.n1).cell 4 _ rfl;rw [←HNC.out] at x3;have x4:=HA.out.1.frozen k;have hset:=HA.out.1.set k (s.C.getD k 0+s.C.getD k 0);rw [mgT_set (rfl:s.C.length=s.C.length) hkC] at hset;have hb1:=get_le_sum17 s.C k;have hb2:=get_le_sum17 s.C k;have hb3:s.C.sum≤n∧s.C.sum≤n:=by rw [HNN.out.1];unfold Hs.all;omega
        obtain ⟨p,hp⟩:∃ p,p=s.C.getD k 0:=⟨_,rfl⟩;rw [←hp] at x1 hset hb1;rw [←hp] at x2 hb2;have wp:IntKind.i64.wrap ((p:Int)+(p:Int))=((p+p:Nat):Int):=wrapY (by omega) (by omega)
        obtain ⟨pq,hpq⟩:∃ p',p'=p+p:=⟨_,rfl⟩;rw [←hpq] at wp hset;have HN:Aside (OwnI (wr.setCell ⟨gC,k,none⟩ (.int .i64 (pq:Nat))) gC (mgT s.C s.C k1)∧But gC V2 (wr.setCell ⟨gC,k,none⟩ (.int .i64 (pq:Nat)))):=⟨by rw [hk1];exact hset,HA.out.2.set k _⟩
        have HK:=qsd hk1;clear hset hb1 hb2 hb3 hp hpq hk1 HA hkC;go_wp2
        go_roundg (nC-k1)
        case measure=>have:=HK.out;omega
        case rel=>exact ⟨k1,by have:=HK.out;omega,by first | rfl | simp,HN.out⟩
      · obtain rfl:k=nC:=by omega
        have hdk:decide ((k:Int)<(k:Int))=false:=by simp
        have hO:=HA.out.1;rw [mgT_all (rfl:s.C.length=s.C.length) HNC.out] at hO;have hB1:=K1.out.bl.but HA.out.2 K1.out.n1;rw [←HNN.out.1] at hB1;have hB2:True:=trivial;have x0:wr.cell? ⟨g,0,none⟩=some (.int .i64 (s.b:Nat)):=hB1.cell 0 _ rfl;have x1:wr.cell? ⟨g,1,none⟩=some (.int .i64 (s.a:Nat)):=hB1.cell 1 _ rfl;have x2:wr.cell? ⟨g,2,none⟩=some (.int .i64 (s.o:Nat)):=hB1.cell 2 _ rfl;have hs1:s.b+s.a+s.o≤n∧s.b+s.a+s.o≤n:=by rw [HNN.out.1];unfold Hs.all;omega
        have C:=hid (join17 (b2:=s.b) (a2:=s.a) (o2:=s.o) hB1.drew (by omega) (by omega) (by omega))
        have HO:=(qsd (ai hO (ai hB1 (ai hB2 HA.out.2))));clear hO hB1 hB2 HA hs1
        go_upto_region 10 with fail
        go_cut [] from 50 to 57 (fun wx=>Aside (Bl wx g 83 [.int .i64 ((s.b+s.b:Nat):Int),.int .i64 ((s.a+s.a:Nat):Int),.int .i64 ((s.o+s.o:Nat):Int),.slice (some ⟨gE,0,none⟩) E.length cE,.slice (some ⟨gC,0,none⟩) s.C.length s.C.length,.int .i64 (n:Nat)]∧But g wr.drew wx))
        case first =>
         refine calm17b ?_
         go_region_with (first
          | (go_at_call 85
             with_reducible refine C.out.mono ?_
             rintro r v ⟨rfl,hv⟩;have G:=qsd hv;clear hv))
         all_goals
          go_wp2_with fail
          go_meet
          case rel=>exact G.out
        clear C x0 x1 x2;have HB:=hcut;obtain ⟨V3,hV⟩:∃ W,W=wc:=⟨_,rfl⟩;subst hV;clear hcut;have x5:V3.cell? ⟨g,5,none⟩=some (.int .i64 (n:Nat)):=HB.out.1.cell 5 _ rfl;have f5:V3.frozen? ⟨g,5,none⟩=false:=HB.out.1.frozen 5;have v5:V3.cell? ⟨g,5,none⟩=some (.int .i64 (n:Nat)):=HB.out.1.cell 5 _ rfl
        have HF:Aside (Hm (V3.drew.setCell ⟨g,5,none⟩ (.int .i64 (n3:Nat))) g gE gC cE E (s.mrg s)∧But2 g gC w (V3.drew.setCell ⟨g,5,none⟩ (.int .i64 (n3:Nat)))):=by
         have bt:But2 g gC V2 (V3.drew.setCell ⟨g,5,none⟩ (.int .i64 (n3:Nat))):=HO.out.2.2.2.two2.trans ((But.refl g wr).drew.two1.trans (HB.out.2.two1.trans ((But.refl g V3).drew.set 5 _).two1));refine ⟨⟨?_,?_,K1.out.es.re17 bt.size (fun hl=>bt.block gE hl K1.out.n2 K1.out.n3),K1.out.n1,K1.out.n2,K1.out.n3,K1.out.ed,K1.out.wE,?_,?_⟩,(Below.two KB.out).trans bt⟩
         · rw [mrg_all (rfl:s.C.length=s.C.length),mrg_len (rfl:s.C.length=s.C.length),←HNN.out.2.2.1]
           exact HB.out.1.drew.set 5 _
         · have b2:=(But.refl g wr).drew.trans (HB.out.2.trans ((But.refl g V3).drew.set 5 (.int .i64 (n3:Nat))))
           have:=HO.out.1;unfold OwnI at this ⊢;rw [b2.block gC (Array.getElem?_eq_some_iff.1 this).1 (Ne.symm K1.out.n1)];exact this
         · rw [mrg_len (rfl:s.C.length=s.C.length)];exact K1.out.le
         · rw [mrg_all (rfl:s.C.length=s.C.length),←HNN.out.2.2.1];omega
        clear HO HB
        go_upto_region 11 with fail
        go_region
        all_goals
         go_wp2;go_ret;exact ⟨by rw [HR5.out.1];rfl,by rw [HR5.out.2];exact HF.out⟩
end
section
open Go Go.RowKit J
open Go.Proofs.YtffeldkheibccaaGreatDoor.B (f64bits f64frombits)
attribute [local go_sem] st_float f64bits f64frombits
abbrev e3:List Nat:=[0,4607182418800017408,4611686018427387904]
abbrev a10:List Nat:=[0,4602678819172646912,4607182418800017408,4611686018427387904,9223372036854775808,13830554455654793216,4613937818241073152,9221120237041090560,9218868437227405312,18442240474082181120]
abbrev q4:List Nat:=[0,4598175219545276416,4602678819172646912,4604930618986332160,4607182418800017408]
theorem put_all' {E:List Nat}{s:Hs}{x:Nat}(hE:Edg E) (h:s.C.length+1=E.length):(s.put E x).all=s.all+1:=put_all (.inl (by have:=bk_lt hE x;omega))
def stL (E:List Nat) (s:Hs) (l:List Nat):Hs:=l.foldl (Hs.put E) s
theorem st_all {E:List Nat}{s:Hs}(hE:Edg E) (h:s.C.length+1=E.length):∀ l:List Nat,(stL E s l).all=s.all+l.length:=by
 intro l
 induction l generalizing s with
 | nil=>rfl
 | cons x l ih=>show (stL E (s.put E x) l).all=_;rw [ih (by rw [put_len];exact h),put_all' hE h,List.length_cons];omega
theorem st_take {E:List Nat}{s:Hs}{l:List Nat}{k:Nat}(h:k<l.length):stL E s (l.take (k+1))=(stL E s (l.take k)).put E (l.getD k 0):=by
 unfold stL;rw [List.take_add_one,List.getElem?_eq_getElem h,List.foldl_append,List.getD_eq_getElem?_getD,List.getElem?_eq_getElem h]
 rfl
theorem edg_e3:Edg e3:=by
 refine ⟨by decide,by decide,by decide,fun i hi=>?_⟩
 have:i=0∨i=1:=by simp at hi;omega
 rcases this with rfl|rfl <;> decide
theorem edg_q4:Edg q4:=by
 refine ⟨by decide,by decide,by decide,fun i hi=>?_⟩
 have:i=0∨i=1∨i=2∨i=3:=by simp at hi;omega
 rcases this with rfl|rfl|rfl|rfl <;> decide
abbrev s0_17:Hs:=⟨List.replicate 2 0,0,0,0⟩
theorem st10:stL e3 s0_17 a10=⟨[3,2],2,2,1⟩:=by
 have h:(stL e3 s0_17 a10).C=[3,2]∧(stL e3 s0_17 a10).b=2∧(stL e3 s0_17 a10).a=2∧(stL e3 s0_17 a10).o=1:=by decide +kernel
 obtain ⟨h1,h2,h3,h4⟩:=h
 cases hs:stL e3 s0_17 a10 with
 | mk C b a o=>rw [hs] at h1 h2 h3 h4;simp only at h1 h2 h3 h4;subst h1 h2 h3 h4;rfl
theorem litI17 (w:World) (L:List Nat) (g:Nat) (hg:g=w.heap.size):∀ i,i<L.length→(w.alloc (Obj.cells (L.map Iw15).toArray 3)).cell? ⟨g,i,none⟩=some (.int .i64 ((L.getD i 0:Nat):Int)):=by
 intro i hi;have:OwnI (w.alloc (Obj.cells (L.map Iw15).toArray 3)) g L:=by rw [hg];exact heap_alloc_new w _
 exact this.cell i hi
def Aw17 (w0 u:World) (g gE gC cE gl:Nat) (st:Hs):Prop:=Hm u g gE gC cE e3 st∧OwnF u gl q4∧Below w0.heap.size w0 u∧w0.heap.size≤g∧w0.heap.size≤gC∧gl≠g∧gl≠gC
theorem Aw17.bel {w0 u u':World}{g gE gC cE gl:Nat}{st:Hs}(h:Aw17 w0 u g gE gC cE gl st) (hb:Below u.heap.size u u'):Aw17 w0 u' g gE gC cE gl st :=
 ⟨h.1.below hb,h.2.1.below hb h.2.1.lt,h.2.2.1.trans (hb.mono h.2.2.1.size),h.2.2.2⟩
theorem Aw17.but {w0 u u':World}{g gE gC cE gl:Nat}{st st':Hs}(h:Aw17 w0 u g gE gC cE gl st) (h':Hm u' g gE gC cE e3 st') (hb:But2 g gC u u'):Aw17 w0 u' g gE gC cE gl st':=by
 obtain ⟨h1,h2,h3,h4,h5,h6,h7⟩:=h;refine ⟨h',?_,But2.below h3 hb h3.size h4 h5,h4,h5,h6,h7⟩;unfold OwnF at h2 ⊢;rw [hb.block gl (Array.getElem?_eq_some_iff.1 h2).1 h6 h7];exact h2
theorem awake17 (w:World) (hT:Tab w):Calls Tryz.prog 9 #[] w fun r w'=>r=.returned (.bool true)∧Below w.heap.size w w':=by
 have hTT:=qsd hT;obtain ⟨W1,hW1⟩:∃ W,W=w.alloc (Obj.cells #[.float .f64 0,.float .f64 4607182418800017408,.float .f64 4611686018427387904] 41):=⟨_,rfl⟩;obtain ⟨g1,hg1⟩:∃ g,g=w.heap.size:=⟨_,rfl⟩;have B1:Aside (Below w.heap.size w W1):=by rw [hW1];exact below_alloc _ _
 have C:=hid (New17 e3 (some ⟨g1,0,none⟩) 3 3 W1 (by rw [hW1];exact lit13 w [_,_,_] _ hg1) rfl (by decide) (by unfold W64;decide) edg_e3)
 have HW:=(qsd (ai hW1 hg1));clear hW1 hg1 hT;go_enter Tryz.func9,Tryz.ntmps9
 go_wp2_with fail
 rw [←HW.out.1,←HW.out.2];clear HW;refine C.out.mono ?_;rintro r u1 ⟨⟨g,gE,gC,cE,rfl,hm,h1,h2,h3⟩,hb⟩;have B2:=qsd (B1.out.trans (hb.mono B1.out.size));have H2:Aside (Hm u1 g gE gC cE e3 s0_17∧w.heap.size≤g∧w.heap.size≤gC):=⟨hm,Nat.le_trans B1.out.size h1,Nat.le_trans B1.out.size h3⟩;clear hm h1 h2 h3 hb C B1;obtain ⟨W2,hW2⟩:∃ W,W=u1.alloc (Obj.cells #[.float .f64 4607182418800017408,.float .f64 4607182418800017408] 41):=⟨_,rfl⟩;obtain ⟨g2,hg2⟩:∃ g,g=u1.heap.size:=⟨_,rfl⟩;have B3:Aside (Below u1.heap.size u1 W2):=by rw [hW2];exact below_alloc _ _
 have C:=hid (NewNo17 [4607182418800017408,4607182418800017408] (some ⟨g2,0,none⟩) 2 2 W2 (by rw [hW2];exact lit13 u1 [_,_] _ hg2) rfl (by decide) (by unfold W64;decide) (fun h=>by have:=h.2.2.2 0 (by decide);revert this;decide))
 have HW:=(qsd (ai hW2 hg2));clear hW2 hg2
 go_wp2_with fail
 rw [←HW.out.1,←HW.out.2];clear HW;refine C.out.mono ?_;rintro r u2 ⟨rfl,hb⟩;have B4:=qsd (B3.out.trans (hb.mono B3.out.size));clear hb C B3;have C:=hid (Edges17 0 one17 4 u2 (hTT.out.belows (B2.out.trans (B4.out.mono B2.out.size))) (by decide) (by decide) (by decide) (by decide) (by decide) (by decide) (edL_W64 (by decide) (by decide) (by decide) (by decide) (by decide) (by decide)))
 rw [edL_quarters] at C
 go_wp2_with fail
 refine C.out.mono ?_;rintro r u3 ⟨hr,hb⟩
 obtain ⟨gl,rfl,hO,hgl⟩:∃ gl,r=.returned (.tuple #[.slice (some ⟨gl,0,none⟩) 5 5,.int .i64 0])∧OwnF u3 gl q4∧u2.heap.size≤gl:=by
  rcases hr with ⟨_,gl,h1,h2,h3⟩|⟨h1,_⟩
  · exact ⟨gl,h1,h2,h3⟩
  · exact absurd edg_q4 h1
 clear hr
 have HA:Aside (Aw17 w u3 g gE gC cE gl s0_17):=by
  have b1:=B4.out.trans (hb.mono B4.out.size);have l1:=H2.out.1.bl.lt;have l2:=H2.out.1.cs.lt;have l3:=B4.out.size;exact ⟨H2.out.1.below b1,hO,B2.out.trans (b1.mono B2.out.size),H2.out.2.1,H2.out.2.2,by omega,by omega⟩
 clear hO hgl hb C B2 B4 H2;have C:=hid (EdgesArg17 0 one17 0 u3 (.inl (by decide)))
 go_wp2_with fail
 refine C.out.mono ?_;rintro r u4 ⟨rfl,hu⟩;rw [hu];clear hu C;have C:=hid (turned17 u3)
 go_wp2_with fail
 refine C.out.mono ?_;rintro r u4 ⟨rfl,hu⟩;rw [hu];clear hu C;have C:=hid (odd17 u3)
 go_wp2_with fail
 refine C.out.mono ?_;rintro r u4 ⟨rfl,hu⟩;rw [hu];clear hu C;have hneg:=B.negF false 2047 0 (by decide) (by decide)
 rw [show B.bw false 2047 0=9218868437227405312 by decide,show B.bw (!false) 2047 0=18442240474082181120 by decide] at hneg
 obtain ⟨W3,hW3⟩:∃ W,W=u3.alloc (Obj.cells #[.float .f64 0,.float .f64 4602678819172646912,.float .f64 4607182418800017408,.float .f64 4611686018427387904,.float .f64 9223372036854775808,.float .f64 13830554455654793216,.float .f64 4613937818241073152,.float .f64 9221120237041090560,.float .f64 9218868437227405312,.float .f64 18442240474082181120] 41):=⟨_,rfl⟩;obtain ⟨g3,hg3⟩:∃ g,g=u3.heap.size:=⟨_,rfl⟩;have B5:Aside (Below u3.heap.size u3 W3):=by rw [hW3];exact below_alloc _ _
 have HA:Aside (Aw17 w W3 g gE gC cE gl (stL e3 s0_17 (a10.take 0))∧Fs W3.heap.size W3 (some ⟨g3,0,none⟩) a10∧g3≠g∧g3≠gC):=by
  refine ⟨HA.out.bel B5.out,by rw [hW3];exact lit13 u3 [_,_,_,_,_,_,_,_,_,_] _ hg3,?_,?_⟩
  · have:=HA.out.1.bl.lt;omega
  · have:=HA.out.1.cs.lt;omega
 have HW:=(qsd (ai hW3 hg3));clear hW3 hg3 B5
 go_upto_region 10 with fail
 rw [←HW.out.1,←HW.out.2];clear HW hneg;go_wp2
 go_loopg [12] 10 (fun gk iv wr=>∃ k:Nat,gk+k=10∧iv=.int .i64 (k:Nat)∧Aside (Aw17 w wr g gE gC cE gl (stL e3 s0_17 (a10.take k))∧Fs wr.heap.size wr (some ⟨g3,0,none⟩) a10∧g3≠g∧g3≠gC))
 case atStart=>exact ⟨0,by omega,by first | rfl | simp,HA.out⟩
 case round =>
  clear HA;obtain ⟨k,hgk,rfl,HA⟩:=hrel
  by_cases hk:k<10
  · have hdk:decide ((k:Int)<10)=true:=by simp;omega
    have bk:(k:Int)<10:=by omega
    obtain ⟨k1,hk1⟩:∃ x,x=k+1:=⟨_,rfl⟩;have wk:IntKind.i64.wrap ((k:Int)+1)=(k1:Int):=wrapY (by omega) (by omega)
    have x1:=HA.out.2.1.cell (Below.refl _ _) k (by simp;omega)
    rw [Nat.zero_add] at x1;have hx:a10.getD k 0<18446744073709551616:=(show W64 a10 by unfold W64;decide).get k
    have C:=hid (Add17 HA.out.1.1 hx)
    have hall:(stL e3 s0_17 (a10.take k)).all=k:=by
     rw [st_all edg_e3 rfl,List.length_take,show a10.length=10 from rfl]
     show 0+min k 10=k
     omega
    rw [hall,if_neg (by omega),if_neg (by omega),←st_take (by simp;omega),←hk1] at C
    obtain ⟨x,hxx⟩:∃ x,x=a10.getD k 0:=⟨_,rfl⟩;rw [←hxx] at x1 C;have HK:=qsd hk1;clear hxx hx hall hk1
    go_wp2_with fail
    refine C.out.mono ?_;rintro r v ⟨rfl,hm,hb⟩;have HN:Aside (Aw17 w v g gE gC cE gl (stL e3 s0_17 (a10.take k1))∧Fs v.heap.size v (some ⟨g3,0,none⟩) a10∧g3≠g∧g3≠gC):=⟨HA.out.1.but hm hb,HA.out.2.1.re17 hb.size (fun hl=>hb.block g3 hl HA.out.2.2.1 HA.out.2.2.2),HA.out.2.2⟩
    clear C hm hb HA x1;go_wp2
    go_roundg (10-k1)
    case measure=>have:=HK.out;omega
    case rel=>exact ⟨k1,by have:=HK.out;omega,by first | rfl | simp,HN.out⟩
  · obtain rfl:k=10:=by omega
    have hdk:decide (((10:Nat):Int)<10)=false:=by simp
    have hA:=HA.out.1;rw [show a10.take 10=a10 from rfl,st10] at hA
    have K0:=qsd hA;clear HA hA;have C:=hid (Outside17 K0.out.1)
    go_wp2_with fail
    refine C.out.mono ?_;rintro r v0 ⟨rfl,hb⟩;have K1:=qsd (K0.out.bel hb);clear C hb K0;have C:=hid (Counts17 K1.out.1)
    go_wp2_with fail
    refine C.out.mono ?_;rintro r v1 ⟨⟨vc,rfl,hO⟩,hb⟩;obtain ⟨gc,cc,rfl,g1',g2',g3'⟩:=ri_of17 (L:=[3,2]) (by decide) hO
    have K2:=qsd (K1.out.bel hb);obtain ⟨W4,hW4⟩:∃ W,W=v1.alloc (Obj.cells #[.int .i64 3,.int .i64 2] 3):=⟨_,rfl⟩;obtain ⟨g4,hg4⟩:∃ g,g=v1.heap.size:=⟨_,rfl⟩;have b4:Below v1.heap.size v1 W4:=by rw [hW4];exact below_alloc _ _
    have C':=hid (ints17 [3,2] gc g4 cc 2 W4 (by decide) (fun i hi=>(b4.cell (p:=⟨gc,i,none⟩) g2').trans (g3' i hi)) (by rw [hW4];exact litI17 v1 [3,2] g4 hg4))
    have K3:=qsd (K2.out.bel b4);have HW:=(qsd (ai hW4 hg4));clear C hO hb K1 K2 b4 hW4 hg4 g1' g2' g3'
    go_wp2_with fail
    rw [←HW.out.1,←HW.out.2];clear HW;refine C'.out.mono ?_;rintro r v2 ⟨rfl,hb⟩;have K4:=qsd (K3.out.bel hb);clear C' hb K3;have C:=hid (Running17 K4.out.1)
    go_wp2_with fail
    refine C.out.mono ?_;rintro r v3 ⟨⟨gr,rfl,hgr,hO⟩,hb⟩;have K5:=qsd (K4.out.bel hb);obtain ⟨W5,hW5⟩:∃ W,W=v3.alloc (Obj.cells #[.int .i64 2,.int .i64 5,.int .i64 7] 3):=⟨_,rfl⟩;obtain ⟨g5,hg5⟩:∃ g,g=v3.heap.size:=⟨_,rfl⟩;have b5:Below v3.heap.size v3 W5:=by rw [hW5];exact below_alloc _ _
    have hO2:OwnI v3 gr [2,5,7]:=hO;have C':=hid (ints17 [2,5,7] gr g5 3 3 W5 (by decide) (fun i hi=>(hO2.below b5 hO2.lt).cell i hi) (by rw [hW5];exact litI17 v3 [2,5,7] g5 hg5))
    have K6:=qsd (K5.out.bel b5);have HW:=(qsd (ai hW5 hg5));clear C hO hO2 hb K4 K5 b5 hW5 hg5 hgr
    go_wp2_with fail
    rw [←HW.out.1,←HW.out.2];clear HW;refine C'.out.mono ?_;rintro r v4 ⟨rfl,hb⟩;have K7:=qsd (K6.out.bel hb);clear C' hb K6;have C:=hid (MergeSelf17 K7.out.1);rw [show (Hs.mk [3,2] 2 2 1).all=10 from rfl,if_neg (by decide),if_neg (by decide)] at C
    go_wp2_with fail
    refine C.out.mono ?_;rintro r v5 ⟨rfl,hm,hb⟩;have K8:Aside (Aw17 w v5 g gE gC cE gl ⟨[6,4],4,4,2⟩):=K7.out.but hm hb;clear C hm hb K7;have C:=hid (Counts17 K8.out.1)
    go_wp2_with fail
    refine C.out.mono ?_;rintro r v6 ⟨⟨vc,rfl,hO⟩,hb⟩;obtain ⟨gc,cc,rfl,g1',g2',g3'⟩:=ri_of17 (L:=[6,4]) (by decide) hO
    have K9:=qsd (K8.out.bel hb);obtain ⟨W6,hW6⟩:∃ W,W=v6.alloc (Obj.cells #[.int .i64 6,.int .i64 4] 3):=⟨_,rfl⟩;obtain ⟨g6,hg6⟩:∃ g,g=v6.heap.size:=⟨_,rfl⟩;have b6:Below v6.heap.size v6 W6:=by rw [hW6];exact below_alloc _ _
    have C':=hid (ints17 [6,4] gc g6 cc 2 W6 (by decide) (fun i hi=>(b6.cell (p:=⟨gc,i,none⟩) g2').trans (g3' i hi)) (by rw [hW6];exact litI17 v6 [6,4] g6 hg6))
    have K10:=qsd (K9.out.bel b6);have HW:=(qsd (ai hW6 hg6));clear C hO hb K8 K9 b6 hW6 hg6 g1' g2' g3'
    go_wp2_with fail
    rw [←HW.out.1,←HW.out.2];clear HW;refine C'.out.mono ?_;rintro r v7 ⟨rfl,hb⟩;have K11:=qsd (K10.out.bel hb);clear C' hb K10;obtain ⟨W7,hW7⟩:∃ W,W=v7.alloc (Obj.cells #[.float .f64 0,.float .f64 4598175219545276416,.float .f64 4602678819172646912,.float .f64 4604930618986332160,.float .f64 4607182418800017408] 41):=⟨_,rfl⟩;obtain ⟨g7,hg7⟩:∃ g,g=v7.heap.size:=⟨_,rfl⟩;have b7:Below v7.heap.size v7 W7:=by rw [hW7];exact below_alloc _ _
    have K12:=qsd (K11.out.bel b7);have C':=hid (floats17 q4 (some ⟨gl,0,none⟩) (some ⟨g7,0,none⟩) 5 5 5 W7 rfl (by decide) (K12.out.2.1.fs K12.out.2.1.lt 5) (by rw [hW7];exact lit13 v7 [_,_,_,_,_] _ hg7))
    have HW:=(qsd (ai hW7 hg7));clear K11 b7 hW7 hg7
    go_wp2_with fail
    rw [←HW.out.1,←HW.out.2];clear HW;refine C'.out.mono ?_;rintro r v8 ⟨rfl,hb⟩;have K13:=qsd (K12.out.bel hb);clear C' hb K12;have C:=hid (All17 K13.out.1);rw [show (Hs.mk [6,4] 4 4 2).all=20 from rfl] at C
    have HE:=qsd K13.out.2.2.1;clear K13
    go_wp2_with fail
    refine C.out.mono ?_;rintro r v9 ⟨rfl,hu⟩;rw [hu];clear hu C;go_wp2;go_ret;exact ⟨rfl,HE.out⟩
end
section
open Go Go.RowKit J
open Go.Proofs.YtffeldkheibccaaGreatDoor.B (f64bits f64frombits)
attribute [local go_sem] st_float f64bits f64frombits
theorem mask17 (x:Nat) (hx:x<18446744073709551616):bits .and .u64 (x:Int) 9223372036854775807=((magW x:Nat):Int):=by
 have h:=bits_mask .u64 64 (by decide) B.wraps_u64 63 (by decide) (x:Int) (by omega) (by omega)
 rw [show ((2:Int)^63-1)=9223372036854775807 from rfl] at h
 rw [h];unfold magW;omega
theorem andnot17 (x:Nat) (hx:x<18446744073709551616):bits .andNot .u64 (x:Int) 9223372036854775808=((magW x:Nat):Int):=by
 obtain ⟨e,h1,h2⟩:=bw_split17 x hx;have:=B.abs_bw (negW x) _ _ h1 h2;rw [←e] at this;rw [this];unfold B.bw
 congr 1
 simp only [Bool.toNat_false,Nat.zero_mul];omega
theorem key17 {x:Nat}(hx:x<18446744073709551616) (w:World) :
 Calls Tryz.prog 89 #[.float .f64 x] w fun r w'=>r=.returned (.int .i64 (sP x))∧w'=w:=by
 have ha:=mask17 x hx;have hm:magW x<9223372036854775808:=Nat.mod_lt _ (by decide)
 have hn:negW x=decide (9223372036854775808≤x):=rfl;have hv:sP x=sK (negW x) (magW x):=rfl;rw [hv];clear hv;obtain ⟨m,hmm⟩:∃ m,m=magW x:=⟨_,rfl⟩;rw [←hmm] at ha hm ⊢;have w1:RowKit.wrap64 (m:Int)=(m:Int):=by unfold RowKit.wrap64;omega
 have w2:RowKit.wrap64 (-(m:Int))=-(m:Int):=by unfold RowKit.wrap64;omega
 by_cases h:9223372036854775808≤x
 · rw [hn,decide_eq_true h]
   have hs:((x:Int)/9223372036854775808==1)=true:=by simp;omega
   clear hmm hn;go_enter Tryz.func89,Tryz.ntmps89;go_wp2;go_ret;exact ⟨by simp [sK],rfl⟩
 · rw [hn,decide_eq_false h]
   have hs:((x:Int)/9223372036854775808==1)=false:=by simp;omega
   clear hmm hn;go_enter Tryz.func89,Tryz.ntmps89;go_wp2;go_ret;exact ⟨by simp [sK],rfl⟩
theorem isOdd17 {x:Nat}(hx:x<18446744073709551616) (w:World) :
 Calls Tryz.prog 90 #[.float .f64 x] w fun r w'=>r=.returned (.bool (decide (9218868437227405312<magW x)))∧w'=w:=by
 have ha:=andnot17 x hx;obtain ⟨m,hmm⟩:∃ m,m=magW x:=⟨_,rfl⟩;rw [←hmm] at ha ⊢;have hd:decide ((9218868437227405312:Int)<(m:Int))=decide (9218868437227405312<m):=by rw [decide_eq_decide];omega
 clear hmm;go_enter Tryz.func90,Tryz.ntmps90;go_wp2;go_ret;exact ⟨by first | rfl | simp [hd],rfl⟩
theorem isEnd17 {x:Nat}(hx:x<18446744073709551616) (w:World) :
 Calls Tryz.prog 116 #[.float .f64 x] w fun r w'=>r=.returned (.bool (decide (magW x=9218868437227405312)))∧w'=w:=by
 have ha:=andnot17 x hx;obtain ⟨m,hmm⟩:∃ m,m=magW x:=⟨_,rfl⟩;rw [←hmm] at ha ⊢
 have hd:((m:Int)==9218868437227405312)=decide (m=9218868437227405312):=by
  rw [Bool.eq_iff_iff,beq_iff_eq,decide_eq_true_eq];omega
 clear hmm;go_enter Tryz.func116,Tryz.ntmps116;go_wp2;go_ret;exact ⟨by first | rfl | simp [hd],rfl⟩
theorem finite17 {x:Nat}(hx:x<18446744073709551616) (w:World) :
 Calls Tryz.prog 88 #[.float .f64 x] w fun r w'=>r=.returned (.bool (decide (magW x<9218868437227405312)))∧w'=w:=by
 have C1:=hid (isOdd17 hx w);have C2:=hid (isEnd17 hx w);obtain ⟨m,hmm⟩:∃ m,m=magW x:=⟨_,rfl⟩;rw [←hmm] at C1 C2 ⊢;clear hmm
 by_cases h1:9218868437227405312<m
 · rw [decide_eq_true h1] at C1
   rw [decide_eq_false (show ¬ m<9218868437227405312 by omega)]
   go_enter Tryz.func88,Tryz.ntmps88
   go_wp2_with fail
   refine C1.out.mono ?_;rintro r v ⟨rfl,rfl⟩
   go_wp2_with fail
   refine C2.out.mono ?_;rintro r v ⟨rfl,rfl⟩;go_wp2;go_ret;exact ⟨rfl,rfl⟩
 · rw [decide_eq_false h1] at C1
   have e:decide (m<9218868437227405312)=!decide (m=9218868437227405312):=by
    rw [Bool.eq_iff_iff,decide_eq_true_eq,Bool.not_eq_true',decide_eq_false_iff_not];omega
   rw [e];obtain ⟨b,hb⟩:∃ b,b=decide (m=9218868437227405312):=⟨_,rfl⟩;rw [←hb] at C2 ⊢;clear hb e h1;go_enter Tryz.func88,Tryz.ntmps88
   go_wp2_with fail
   refine C1.out.mono ?_;rintro r v ⟨rfl,rfl⟩
   go_wp2_with fail
   refine C2.out.mono ?_;rintro r v ⟨rfl,rfl⟩;go_wp2;go_ret;exact ⟨rfl,rfl⟩
end
end Go.Proofs.YtffeldkheibccaaGreatDoor
