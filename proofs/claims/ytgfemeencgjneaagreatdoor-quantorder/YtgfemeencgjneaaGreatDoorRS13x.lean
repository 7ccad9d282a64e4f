import Derived.Test.YtgfemeencgjneaaGreatDoorRS7x
import Derived.Test.YtgfemeencgjneaaGreatDoorD30x
import Derived.OwnWalk
import Derived.ArgAppend
import Derived.WalkMore
import Derived.Test.YtgfemeencgjneaaGreatDoorF2x
import Derived.Deep.RegionHeld3
import Derived.Deep.CutRange
import Derived.Test.YtgfemeencgjneaaGreatDoorD4x
import Derived.Test.YtgfemeencgjneaaGreatDoorS15x
set_option linter.unusedVariables false
set_option linter.unusedSimpArgs false
set_option maxHeartbeats 16000000
set_option maxRecDepth 20000
namespace Go.Proofs.YtgfemeencgjneaaGreatDoor
namespace J
end J
section
open Go.RowKit J
theorem Tryz.und_ints:Tryz.prog.underlying 56=some (.slice 3):=by kernel_rfl
theorem Tryz.info_int15:(Tryz.prog.info? 3).map (fun i=>(i.zero,i.size,i.bytes))=some (some (.int .i64 0),1,8):=by kernel_rfl
theorem make_ints (z:Int) (n:Nat) (hz:z=(n:Int)) (hn:n≤17592186044416) (w:World) :
 (Instr.makeSlice 56 (.int .i64 z) (.int .i64 z)).run Tryz.prog w=.ok (.slice (some ⟨w.heap.size,0,none⟩) n n) (w.alloc (.cells (madeCells #[.int .i64 0] n) 3)):=by
 subst hz;exact run_make_row' 56 3 (.int .i64 0) 8 Tryz.und_ints Tryz.info_int15 rfl .i64 .i64 n (by omega) (by omega) w
theorem OwnI.made (w:World) (n:Nat):OwnI (w.alloc (.cells (madeCells #[.int .i64 0] n) 3)) w.heap.size (List.replicate n 0):=by
 unfold OwnI;have h1:=heap_alloc_new w (.cells (madeCells #[.int .i64 0] n) 3);rw [h1]
 congr 2
 apply Array.toList_inj.1
 rw [toList_madeCells_one];simp [Iw15]
theorem row_of_up15 {xs M:List Nat}(hP:M.Perm (List.range xs.length)) (hU:Up (plI xs) 0 xs.length M):M=rowL xs:=by
 have hl:M.length=xs.length:=by rw [hP.length_eq,List.length_range]
 have hlt:∀ i (h:i<M.length),M[i]<xs.length:=fun i h=>List.mem_range.1 (hP.mem_iff.1 (List.getElem_mem h))
 have hnd:M.Nodup:=hP.nodup_iff.2 List.nodup_range;refine List.Perm.eq_of_pairwise (le:=fun a b=>leI xs a b=true) (fun a b ha hb h1 h2=>leI_anti xs a b h1 h2) ?_ (rowI_sorted xs _) (hP.trans (rowL_perm xs).symm)
 refine List.pairwise_iff_getElem.2 fun i j hi hj hij=>?_
 have h:=hU i j (Nat.zero_le _) hij (by omega)
 unfold ky at h;rw [List.getD_eq_getElem?_getD,List.getElem?_eq_getElem hi,List.getD_eq_getElem?_getD,List.getElem?_eq_getElem hj] at h
 simp only [Option.getD_some] at h;have hne:M[i]≠M[j]:=List.pairwise_iff_getElem.1 hnd i j hi hj hij
 rcases Nat.lt_or_ge (plI xs M[i]) (plI xs M[j]) with q|q
 · exact leI_plI (hlt i hi) (hlt j hj) q
 · exact absurd (plI_inj (hlt i hi) (hlt j hj) (by omega)) hne
theorem sortFunc15 (xs:List Nat) (n g cap:Nat) (recv:Value) (w:World) (hO:OwnI w g (List.range xs.length)) (hn:n=xs.length) (hb:n≤17592186044416) (hC:Cmp15 (plI xs) n g recv w) :
 Calls Tryz.prog 137 #[.slice (some ⟨g,0,none⟩) n cap,.func (.func 138) #[recv] #[]] w fun r w'=>r=.returned (.tuple #[])∧OwnI w' g (rowL xs)∧But g w w':=by
 have hS:Sx15 n g n w w (fun M=>M=List.range xs.length):=by
  subst hn;exact ⟨List.range xs.length,hO,List.length_range,fun k hk=>by simp [List.getD_eq_getElem?_getD,hk],But.refl _ _,rfl⟩
 have hlim:bl n<1152921504606846976:=by
  have:bl n≤64:=by
   rcases Nat.lt_or_ge 64 (bl n) with q|q
   · have h1:=bl_ge n (by intro e;subst e;simp [bl_zero] at q)
     have h2:=Nat.pow_le_pow_right (n:=2) (by omega) (show 64≤bl n-1 by omega)
     omega
   · exact q
  omega
 have C:=hid (pdq15 (plI xs) n g n cap recv (by omega) n 0 n (bl n) (List.range xs.length) w (by omega) (Nat.zero_le _) (Nat.le_refl _) hlim hS hC (fun h=>by omega) List.nodup_range (fun x hx y hy h=>plI_inj (List.mem_range.1 hx) (List.mem_range.1 hy) h))
 have D:=hid (blen_any n w (by omega))
 have wl:IntKind.u64.wrap (n:Int)=(n:Int):=by simp [IntKind.wrap,IntKind.bits,IntKind.signed];omega
 obtain ⟨m,hm⟩:∃ m,m=bl n:=⟨_,rfl⟩;rw [←hm] at C D;have HN:=qsd hn;clear hS hlim hC hO hn hm;go_enter Tryz.func137,Tryz.ntmps137
 go_wp2_with fail
 refine D.out.mono ?_;rintro r w1 ⟨rfl,rfl⟩
 go_wp2_with fail
 refine C.out.mono ?_;rintro r v ⟨rfl,hv⟩;have HR:=qsd hv;clear C D hv;go_wp2;refine bodyPost_end (v:=.tuple #[]) (by simp [results,Tryz.results137,go_sem]) rfl ?_
 obtain ⟨M,h1,h2,h3,h4,h5,h6⟩:=HR.out;refine ⟨rfl,?_,h4⟩;have hn:=HN.out;subst hn;rw [←row_of_up15 h5.perm h6];exact h1
end
section
open Go.RowKit J
def upto15 (n k:Nat):List Nat:=List.range k++List.replicate (n-k) 0
theorem upto_zero (n:Nat):upto15 n 0=List.replicate n 0:=by simp [upto15]
theorem upto_all (n:Nat):upto15 n n=List.range n:=by simp [upto15]
theorem upto_len {n k:Nat}(h:k≤n):(upto15 n k).length=n:=by simp [upto15];omega
theorem upto_succ {n k:Nat}(h:k<n):(upto15 n k).set k k=upto15 n (k+1):=by
 unfold upto15;rw [List.set_append_right _ _ (by simp),List.length_range,Nat.sub_self,show n-k=(n-(k+1))+1 by omega,List.replicate_succ,List.set_cons_zero,List.range_succ]
 simp
theorem cell_but15 {g:Nat}{u v:World}{p:Addr}{x:Value}(hB:But g u v) (h:u.cell? p=some x) (hp:p.block≠g):v.cell? p=some x :=
 (World.cell?_of_block (hB.block p.block (lt_of_cell15 h) hp)).trans h
theorem frozen_but15 {g:Nat}{u v:World}{p:Addr}(hB:But g u v) (hl:p.block<u.heap.size) (h:u.frozen? p=false) (hp:p.block≠g):v.frozen? p=false:=by
 unfold World.frozen? at h ⊢;rw [hB.block p.block hl hp];exact h
theorem rowOf15 (xs:List Nat) (ao:Option Addr) (n cap:Nat) (w:World) (hF:Fs w.heap.size w ao xs) (hn:n=xs.length) (hb:n≤17592186044416) (hW:W64 xs) :
 Calls Tryz.prog 103 #[.slice ao n cap] w fun r w'=>∃ g,r=.returned (.agg #[.slice ao n cap,.slice (some ⟨g,0,none⟩) n n])∧OwnI w' g (rowL xs)∧Below w.heap.size w w'∧w.heap.size≤g:=by
 have mk:=make_ints n n rfl hb;have HF:=qsd hF;have HN:=(qsd (ai hn hW));clear hF hn hW;go_enter Tryz.func103,Tryz.ntmps103
 go_upto_region 2 with fail
 obtain ⟨W1,hW1⟩:∃ W,W=(((w.alloc (Obj.cells #[Value.slice none 0 0,Value.slice none 0 0] 145)).alloc (Obj.cells (madeCells #[Value.int IntKind.i64 0] n) 3)).alloc (Obj.cells #[Value.slice ao n cap,Value.slice (some ⟨w.heap.size+1,0,none⟩) n n] 145)):=⟨_,rfl⟩
 have o1:OwnI W1 (w.heap.size+1) (upto15 n 0):=by
  rw [hW1,upto_zero];have:=(OwnI.made (w.alloc (Obj.cells #[Value.slice none 0 0,Value.slice none 0 0] 145)) n);rw [World.size_alloc] at this;exact this.below ((Below.refl _ _).alloc (Nat.le_refl _) _) (by simp)
 have o2:Below w.heap.size w W1:=by
  rw [hW1];exact (((Below.refl w.heap.size w).alloc (Nat.le_refl _) _).alloc (by simp) _).alloc (by simp;omega) _
 have q1:W1.cell? ⟨w.heap.size,0,none⟩=some (.slice none 0 0):=by
  rw [hW1,World.cell?_alloc_lt _ _ _ (by simp;omega),World.cell?_alloc_lt _ _ _ (by simp),World.cell?_alloc_new];rfl
 have q2:W1.cell? ⟨w.heap.size,1,none⟩=some (.slice none 0 0):=by
  rw [hW1,World.cell?_alloc_lt _ _ _ (by simp;omega),World.cell?_alloc_lt _ _ _ (by simp),World.cell?_alloc_new];rfl
 have q3:∀ i,W1.frozen? ⟨w.heap.size,i,none⟩=false:=fun i=>by
  rw [hW1,World.frozen?_alloc_old _ _ _ (by simp;omega),World.frozen?_alloc_old _ _ _ (by simp)]
  exact World.frozen?_alloc_new _ _ _ _
 have r1:W1.cell? ⟨w.heap.size+2,0,none⟩=some (.slice ao n cap):=by
  have:=World.cell?_alloc_new ((w.alloc (Obj.cells #[Value.slice none 0 0,Value.slice none 0 0] 145)).alloc (Obj.cells (madeCells #[Value.int IntKind.i64 0] n) 3)) #[Value.slice ao n cap,Value.slice (some ⟨w.heap.size+1,0,none⟩) n n] 145 0;rw [World.size_alloc,World.size_alloc] at this;rw [hW1];exact this
 have r2:W1.cell? ⟨w.heap.size+2,1,none⟩=some (.slice (some ⟨w.heap.size+1,0,none⟩) n n):=by
  have:=World.cell?_alloc_new ((w.alloc (Obj.cells #[Value.slice none 0 0,Value.slice none 0 0] 145)).alloc (Obj.cells (madeCells #[Value.int IntKind.i64 0] n) 3)) #[Value.slice ao n cap,Value.slice (some ⟨w.heap.size+1,0,none⟩) n n] 145 1;rw [World.size_alloc,World.size_alloc] at this;rw [hW1];exact this
 rw [←hW1];clear hW1 mk;obtain ⟨q,hq⟩:∃ x,x=w.heap.size:=⟨_,rfl⟩;obtain ⟨g,hg⟩:∃ x,x=w.heap.size+1:=⟨_,rfl⟩;obtain ⟨h,hh⟩:∃ x,x=w.heap.size+2:=⟨_,rfl⟩;rw [←hg] at o1 r2;rw [←hh] at r1 r2;rw [←hq] at q1 q2;simp only [←hq] at q3;rw [show w.heap.size+1+1=h by omega,←hg,←hq]
 have hgq:g≠q:=by omega
 have hgh:g≠h:=by omega
 have hqg:q≠g:=by omega
 have hhg:h≠g:=by omega
 have HQ:=(qsd (ai hq (ai hg hh)));have HB:=qsd o2;have HR:=(qsd (ai q1 (ai q2 (ai q3 (ai r1 r2)))));have HA:Aside (OwnI W1 g (upto15 n 0)∧But g W1 W1):=⟨o1,But.refl _ _⟩;have hlh:h<W1.heap.size:=lt_of_cell15 r1;have hlq:q<W1.heap.size:=lt_of_cell15 q1;have HL:=(qsd (ai hlh hlq));clear o1 o2 q1 q2 q3 hq hg hh hlh hlq;go_wp2
 go_loopg [13] n (fun gk iv wr=>∃ k:Nat,gk+k=n∧iv=.int .i64 (k:Nat)∧Aside (OwnI wr g (upto15 n k)∧But g W1 wr))
 case atStart=>exact ⟨0,rfl,by first | rfl | simp,HA.out⟩
 case round =>
  clear HA r1 r2;obtain ⟨k,hgk,rfl,HA⟩:=hrel
  by_cases hk:k<n
  · have hdk:decide ((k:Int)<(n:Int))=true:=by simp;omega
    have bk:(k:Int)<(n:Int):=by omega
    obtain ⟨k1,hk1⟩:∃ x,x=k+1:=⟨_,rfl⟩;have wk:IntKind.i64.wrap ((k:Int)+1)=(k1:Int):=wrapZ (by omega) (by omega)
    have r2:=cell_but15 HA.out.2 HR.out.2.2.2.2 hhg;have c1:=HA.out.1.cell k (by rw [upto_len (by omega)];exact hk)
    have z1:=HA.out.1.frozen k;have HX:Aside (OwnI (wr.setCell ⟨g,k,none⟩ (.int .i64 (k:Nat))) g (upto15 n k1)∧But g W1 (wr.setCell ⟨g,k,none⟩ (.int .i64 (k:Nat)))):=⟨by rw [hk1,←upto_succ hk];exact HA.out.1.set k k,HA.out.2.set _ _⟩
    obtain ⟨y,hy⟩:∃ y,y=(upto15 n k).getD k 0:=⟨_,rfl⟩;rw [←hy] at c1;have HK:=qsd hk1;clear HA hk1 hy;go_wp2
    go_roundg (n-k1)
    case measure=>have:=HK.out;omega
    case rel=>exact ⟨k1,by have:=HK.out;omega,by first | rfl | simp,HX.out⟩
  · have hdk:decide ((k:Int)<(n:Int))=false:=by simp;omega
    have hkn:k=n:=by omega
    subst hkn;obtain ⟨a1,a2⟩:=HA.out;rw [upto_all] at a1;have r1:=cell_but15 a2 HR.out.2.2.2.1 hhg;have r2:=cell_but15 a2 HR.out.2.2.2.2 hhg;obtain ⟨hn,hW⟩:=HN.out;obtain ⟨hq,hg,hh⟩:=HQ.out
    have hFw:Fs w.heap.size wr ao xs:=by
     intro hne;obtain ⟨b,off,h1,h2,h3⟩:=HF.out hne;refine ⟨b,off,h1,h2,fun i hi=>?_⟩
     exact cell_but15 a2 ((World.cell?_of_block (a:=⟨b,off+i,none⟩) (HB.out.block b h1)).trans (h3 i hi)) (by show b≠g;omega)
    have hsz:w.heap.size≤wr.heap.size:=Nat.le_trans HB.out.size a2.size;have hC:Cmp15 (plI xs) k g (.agg #[.slice ao k cap,.slice (some ⟨g,0,none⟩) k k]) wr:=cmp15_of xs ao k cap g w.heap.size _ wr hFw (by omega) hsz hn hW
    rw [hn] at a1;have C:=hid (sortFunc15 xs k g k _ wr a1 hn hb hC);clear hFw hC a1 hn hW hq hg hh hsz;have HA2:=qsd a2;clear HA a2
    go_wp2_with fail
    refine C.out.mono ?_;rintro r v ⟨rfl,e1,e2⟩;have a3:=HA2.out.trans e2;have r1:=cell_but15 a3 HR.out.2.2.2.1 hhg;have r2:=cell_but15 a3 HR.out.2.2.2.2 hhg;have q1:=cell_but15 a3 HR.out.1 hqg;have q2:=cell_but15 a3 HR.out.2.1 hqg;have q3:=frozen_but15 (p:=⟨q,0,none⟩) a3 HL.out.2 (HR.out.2.2.1 0) hqg;have q4:=frozen_but15 (p:=⟨q,1,none⟩) a3 HL.out.2 (HR.out.2.2.1 1) hqg;have HE:=(qsd (ai e1 a3));clear C e1 e2 a3 HA2;go_wp2;obtain ⟨WE,hWE⟩:∃ W,W=((v.setCell ⟨q,0,none⟩ (Value.slice ao k cap)).setCell ⟨q,1,none⟩ (Value.slice (some ⟨g,0,none⟩) k k)):=⟨_,rfl⟩
    have x1:WE.cell? ⟨q,0,none⟩=some (Value.slice ao k cap):=by
     rw [hWE,World.cell?_setCell_other _ _ _ _ (by simp)]
     exact World.cell?_setCell_same _ _ _ q1
    have x2:WE.cell? ⟨q,1,none⟩=some (Value.slice (some ⟨g,0,none⟩) k k):=by
     rw [hWE];exact World.cell?_setCell_same _ _ _ (by rw [World.cell?_setCell_other _ _ _ _ (by simp)];exact q2)
    rw [←hWE];have X:=qsd hWE;clear hWE;refine bodyPost_ret (v:=.agg #[.slice ao k cap,.slice (some ⟨g,0,none⟩) k k]) (by simp [results,Tryz.results103,go_sem,x1,x2]) rfl ?_
    obtain ⟨e1,a3⟩:=HE.out;obtain ⟨hq,hg,hh⟩:=HQ.out
    have hb2:∀ j,j≠q→WE.heap[j]?=v.heap[j]?:=fun j hj=>by
     rw [X.out];simp only [World.setCell,Array.getElem?_modify];rw [if_neg (fun e=>hj e.symm),if_neg (fun e=>hj e.symm)]
    have hb3:WE.heap.size=v.heap.size:=by rw [X.out];simp [World.setCell]
    refine ⟨g,rfl,?_,⟨?_,?_,?_,?_,?_⟩,by omega⟩
    · unfold OwnI;rw [hb2 g hgq];exact e1
    · rw [X.out];exact a3.os.trans HB.out.os
    · rw [X.out];exact a3.tape.trans HB.out.tape
    · rw [X.out];exact a3.output.trans HB.out.output
    · rw [hb3];exact Nat.le_trans HB.out.size a3.size
    · intro j hj
      rw [hb2 j (by omega),a3.block j (by have:=HB.out.size;omega) (by omega)]
      exact HB.out.block j hj
end
section
open Go.RowKit J
theorem bd_fv16 {x:Nat}(hx:x<18446744073709551616) (fx:finW x) (z:Nat) (hz:z=2098):Bd z (fvW x):=by
 unfold Bd;exact Nat.le_of_lt (top_fv hx fx z hz)
theorem times16 (x n:Nat) (hx:x<18446744073709551616) (fx:finW x) (hn:n≤2147483648) (w:World) (hT:Tab w) :
 Calls Tryz.prog 132 #[.float .f64 x,.int .i64 (n:Nat)] w fun r w'=>DVal 0 w' r (gV 1074 (fvW x*(n:Int)))∧Below w.heap.size w w':=by
 obtain ⟨z,hz⟩:∃ z,z=2098:=⟨_,rfl⟩;obtain ⟨k,hk⟩:∃ z,z=31:=⟨_,rfl⟩;have b1:=bd_fv16 hx fx z hz;have b2:Bd k (n:Int):=by unfold Bd;rw [Int.natAbs_natCast,hk];exact hn
 have e:=g_mul (u:=1074) (v:=0) (by omega) (by omega) (by omega) (by omega) b1 b2
 have Fq:=g_fm (u:=1074) (by omega) (by omega) (b1.mul b2)
 refine times_core16 x n (gV 1074 (fvW x)) (gV 0 n) _ (g_fm (by omega) (by omega) b1) (g_fm (by omega) (by omega) b2) Fq w hT (fun u hT=>of12 x hx fx u hT) (fun u hT=>?_) (fun u a b c d hT N1 N2=>mulP12 (g_fm (by omega) (by omega) b1) (g_fm (by omega) (by omega) b2) N1 N2 hT e Fq)
 exact (Int_any (n:Nat) u hT (by omega) (by omega)).mono (fun r w' h=>h)
abbrev Sc16 (gb:Nat) (rest den:Int) (u:World):Prop:=u.cell? ⟨gb,1,none⟩=some (.int .i64 rest)∧u.cell? ⟨gb,2,none⟩=some (.int .i64 den)
theorem Sc16.lt {gb:Nat}{rest den:Int}{u:World}(h:Sc16 gb rest den u):gb<u.heap.size:=lt_of_cell15 (p:=⟨gb,1,none⟩) h.1
theorem Sc16.al {gb:Nat}{rest den:Int}{u:World}(h:Sc16 gb rest den u) (o:Obj):Sc16 gb rest den (u.alloc o):=⟨(World.cell?_alloc_lt _ _ _ h.lt).trans h.1,(World.cell?_alloc_lt _ _ _ h.lt).trans h.2⟩
theorem Sc16.be {gb:Nat}{rest den:Int}{u v:World}(h:Sc16 gb rest den u) (hb:Below u.heap.size u v):Sc16 gb rest den v:=⟨(hb.cell (p:=⟨gb,1,none⟩) h.lt).trans h.1,(hb.cell (p:=⟨gb,2,none⟩) h.lt).trans h.2⟩
theorem Sc16.st {gb g:Nat}{rest den:Int}{u:World}(h:Sc16 gb rest den u) (hg:gb<g) (x y z:Value):Sc16 gb rest den (st3 u g x y z):=⟨cell_but15 (st3_but12 g u x y z) h.1 (Nat.ne_of_lt hg),cell_but15 (st3_but12 g u x y z) h.2 (Nat.ne_of_lt hg)⟩
abbrev Zd:Obj:=Obj.cells #[.bool false,.slice none 0 0,.int .i64 0] 70
abbrev Zb16 (w u:World) (gb g:Nat):Prop:=Lo u g o00∧w.heap.size≤g∧gb<g
theorem Zb16.be {w u v:World}{gb g:Nat}(h:Zb16 w u gb g) (hb:Below u.heap.size u v):Zb16 w v gb g:=⟨h.1.below hb,h.2⟩
abbrev dc16 (o:Option (Bool×Nat×Int)) (a:Option Addr) (c:Nat):Obj:=Obj.cells #[.bool (dN o),.slice a (ws (dX o)).length c,.int .i64 (dE o)] 70
abbrev sd16 (u:World) (g:Nat) (o:Option (Bool×Nat×Int)) (a:Option Addr) (c:Nat):World:=((u.setCell ⟨g,0,none⟩ (.bool (dN o))).setCell ⟨g,1,none⟩ (.slice a (ws (dX o)).length c)).setCell ⟨g,2,none⟩ (.int .i64 (dE o))
def Pr16 (w:World) (gb:Nat) (rest den:Int) (o1 o2:Option (Bool×Nat×Int)) (g9 g10:Nat) (u:World):Prop:=Lo u g9 o1∧Lo u g10 o2∧Below w.heap.size w u∧Sc16 gb rest den u
theorem Pr16.sw {w u:World}{gb g9 g10:Nat}{rest den:Int}{o1 o2:Option (Bool×Nat×Int)}(h:Pr16 w gb rest den o2 o1 g10 g9 u):Pr16 w gb rest den o1 o2 g9 g10 u:=⟨h.2.1,h.1,h.2.2⟩
section
variable {w v : World} {gb : Nat} {rest den : Int} {o1 o2 : Option (Bool × Nat × Int)} {a1 a2 : Option Addr} {c1 c2 : Nat}
theorem fin0_16 (hb:Below w.heap.size w v) (hs:Sc16 gb rest den v) (n1:Nt 0 v (.slice a1 (ws (dX o1)).length c1) (dX o1)) (n2:Nt 0 v (.slice a2 (ws (dX o2)).length c2) (dX o2)) :
 Pr16 w gb rest den o1 o2 v.heap.size (v.heap.size+1) ((v.alloc (dc16 o1 a1 c1)).alloc (dc16 o2 a2 c2)):=by
 have h1:Lo (v.alloc (dc16 o1 a1 c1)) v.heap.size o1:=Lo.new n1;have h2:Lo ((v.alloc (dc16 o1 a1 c1)).alloc (dc16 o2 a2 c2)) (v.alloc (dc16 o1 a1 c1)).heap.size o2:=Lo.new (n2.below (below_alloc _ _));rw [World.size_alloc] at h2;have b1:=hb.trans ((below_alloc v (dc16 o1 a1 c1)).mono hb.size);exact ⟨h1.below (below_alloc _ _),h2,b1.trans ((below_alloc _ _).mono b1.size),(hs.al _).al _⟩
theorem fin1a_16 {gA:Nat}(hb:Below w.heap.size w v) (hs:Sc16 gb rest den v) (n1:Nt 0 v (.slice a1 (ws (dX o1)).length c1) (dX o1)) (n2:Nt 0 v (.slice a2 (ws (dX o2)).length c2) (dX o2)) (z:Zb16 w v gb gA) :
 Pr16 w gb rest den o1 o2 gA v.heap.size ((sd16 v gA o1 a1 c1).alloc (dc16 o2 a2 c2)):=by
 obtain ⟨z1,z2,z3⟩:=z;have h1:Lo (sd16 v gA o1 a1 c1) gA o1:=z1.set n1;obtain ⟨a0,c0,D,_⟩:=z1;have n2':Nt 0 (sd16 v gA o1 a1 c1) (.slice a2 (ws (dX o2)).length c2) (dX o2):=n2.off12 D _ _ _;have hsz:(sd16 v gA o1 a1 c1).heap.size=v.heap.size:=by simp [World.setCell]
 have h2:=Lo.new (w:=sd16 v gA o1 a1 c1) n2';rw [hsz] at h2;have b1:Below w.heap.size w (sd16 v gA o1 a1 c1):=st3_bel12 hb hb.size z2 _ _ _;exact ⟨h1.below (below_alloc _ _),h2,b1.trans ((below_alloc _ _).mono b1.size),(hs.st z3 _ _ _).al _⟩
theorem fin2_16 {gA gB:Nat}(hb:Below w.heap.size w v) (hs:Sc16 gb rest den v) (n1:Nt 0 v (.slice a1 (ws (dX o1)).length c1) (dX o1)) (n2:Nt 0 v (.slice a2 (ws (dX o2)).length c2) (dX o2)) (z:Zb16 w v gb gA) (y:Zb16 w v gb gB) (hne:gA≠gB) :
 Pr16 w gb rest den o1 o2 gA gB (sd16 (sd16 v gA o1 a1 c1) gB o2 a2 c2):=by
 obtain ⟨z1,z2,z3⟩:=z;obtain ⟨y1,y2,y3⟩:=y;have h1:Lo (sd16 v gA o1 a1 c1) gA o1:=z1.set n1;have y1':Lo (sd16 v gA o1 a1 c1) gB o00:=y1.other z1 (Ne.symm hne) _ _ _;obtain ⟨a0,c0,D,_⟩:=z1;have n2':Nt 0 (sd16 v gA o1 a1 c1) (.slice a2 (ws (dX o2)).length c2) (dX o2):=n2.off12 D _ _ _;have b1:Below w.heap.size w (sd16 v gA o1 a1 c1):=st3_bel12 hb hb.size z2 _ _ _;exact ⟨h1.other y1' hne _ _ _,y1'.set n2',st3_bel12 b1 b1.size y2 _ _ _,(hs.st z3 _ _ _).st y3 _ _ _⟩
end
end
section
open Go.RowKit J
theorem Sc16.dr {gb:Nat}{rest den:Int}{u:World}(h:Sc16 gb rest den u):Sc16 gb rest den u.drew:=h
theorem Sc16.st' {gb g:Nat}{rest den:Int}{u:World}(h:Sc16 gb rest den u) (hg:gb<g) (x y z:Value):Sc16 gb rest den (((u.setCell ⟨g,0,none⟩ x).setCell ⟨g,1,none⟩ y).setCell ⟨g,2,none⟩ z):=h.st hg x y z
abbrev Bs16 (w:World) (gb:Nat) (rest den:Int) (u:World):Prop:=Below w.heap.size w u∧Sc16 gb rest den u
theorem Bs16.al {w u:World}{gb:Nat}{rest den:Int}(h:Bs16 w gb rest den u) (o:Obj):Bs16 w gb rest den (u.alloc o):=⟨h.1.trans ((below_alloc _ o).mono h.1.size),h.2.al o⟩
theorem Bs16.dr {w u:World}{gb:Nat}{rest den:Int}(h:Bs16 w gb rest den u):Bs16 w gb rest den u.drew:=⟨h.1.drew,h.2⟩
theorem Bs16.be {w u v:World}{gb:Nat}{rest den:Int}(h:Bs16 w gb rest den u) (hb:Below u.heap.size u v):Bs16 w gb rest den v:=⟨h.1.trans (hb.mono h.1.size),h.2.be hb⟩
theorem Bs16.new {w u:World}{gb:Nat}{rest den:Int}(h:Bs16 w gb rest den u):Zb16 w (u.alloc Zd) gb u.heap.size:=⟨Lo.zero u,h.1.size,h.2.lt⟩
theorem Zb16.dr {w u:World}{gb g:Nat}(h:Zb16 w u gb g):Zb16 w u.drew gb g:=h.be (Below.refl u.heap.size u).drew
theorem Zb16.al {w u:World}{gb g:Nat}(h:Zb16 w u gb g) (o:Obj):Zb16 w (u.alloc o) gb g:=h.be (below_alloc u o)
theorem Bs16.new2 {w u:World}{gb:Nat}{rest den:Int}(h:Bs16 w gb rest den u):Zb16 w ((u.alloc Zd).alloc Zd) gb (u.heap.size+1):=by
 have:=(h.al Zd).new;rw [World.size_alloc] at this;exact this
theorem line_core16 (low high:Nat) (at0 rest den lr:Nat) (mode:Int) (o1 o2 q dn:Option (Bool×Nat×Int)) (F1:Fm o1) (F2:Fm o2) (Fq:Fm q) (Fd:Fm dn) (sg t1 t2 t3 t4 t5 t6:Int) (z z0:Nat) (ez:Int) (w:World) (hT:Tab w) (hlr:IntKind.i64.wrap ((den:Int)-(rest:Int))=(lr:Int))
 (H1:Hid (∀ u:World,Tab u→Calls Tryz.prog 132 #[.float .f64 low,.int .i64 (lr:Nat)] u fun r w'=>DVal 0 w' r o1∧Below u.heap.size u w'))
 (H2:Hid (∀ u:World,Tab u→Calls Tryz.prog 132 #[.float .f64 high,.int .i64 (rest:Nat)] u fun r w'=>DVal 0 w' r o2∧Below u.heap.size u w'))
 (HADD:Hid (∀ (u:World) (a b:Option Addr) (c d:Nat),Tab u→Nt 0 u (.slice a (ws (dX o1)).length c) (dX o1)→Nt 0 u (.slice b (ws (dX o2)).length d) (dX o2)→Calls Tryz.prog 82 #[.agg #[.bool (dN o1),.slice a (ws (dX o1)).length c,.int .i64 (dE o1)],.agg #[.bool (dN o2),.slice b (ws (dX o2)).length d,.int .i64 (dE o2)]] u fun r w'=>(∃ v,r=.returned (.tuple #[.agg #[.bool (dN q),v,.int .i64 (dE q)],.int .i64 0])∧Nt u.heap.size w' v (dX q))∧Below u.heap.size u w'))
 (HSG:Hid (∀ (u:World) (a:Option Addr) (c:Nat),Nt 0 u (.slice a (ws (dX q)).length c) (dX q)→Calls Tryz.prog 133 #[.agg #[.bool (dN q),.slice a (ws (dX q)).length c,.int .i64 (dE q)]] u fun r w'=>r=.returned (.int .i64 sg)∧Below u.heap.size u w'))
 (HPL:Hid (∀ u:World,Calls Tryz.prog 135 #[] u fun r w'=>r=.returned (.agg #[.int .i64 0,.int .i64 0])∧Below u.heap.size u w'))
 (HSI:Hid (∀ (u:World) (b:Nat),Fs u.heap.size u (some ⟨b,0,none⟩) [low,high]→Calls Tryz.prog 134 #[.slice (some ⟨b,0,none⟩) 2 2,.agg #[.int .i64 0,.int .i64 0]] u fun r w'=>(∃ v,r=.returned (.tuple #[v,.agg #[.int .i64 t1,.int .i64 t2,.int .i64 t3,.int .i64 t4,.int .i64 t5,.int .i64 t6],.int .i64 0]))∧Below u.heap.size u w'))
 (HNO:Hid (∀ u:World,Calls Tryz.prog 136 #[.agg #[.int .i64 t1,.int .i64 t2,.int .i64 t3,.int .i64 t4,.int .i64 t5,.int .i64 t6],.int .i64 mode] u fun r w'=>r=.returned (.float .f64 z0)∧Below u.heap.size u w'))
 (HI:Hid (∀ u:World,Tab u→Calls Tryz.prog 81 #[.int .i64 (den:Nat)] u fun r w'=>(∃ v,r=.returned (.agg #[.bool (dN dn),v,.int .i64 (dE dn)])∧Nt u.heap.size w' v (dX dn))∧Below u.heap.size u w'))
 (HQT:Hid (∀ (u:World) (a b:Option Addr) (c d:Nat),Tab u→Nt 0 u (.slice a (ws (dX q)).length c) (dX q)→Nt 0 u (.slice b (ws (dX dn)).length d) (dX dn)→Calls Tryz.prog 83 #[.agg #[.bool (dN q),.slice a (ws (dX q)).length c,.int .i64 (dE q),.bool (dN dn),.slice b (ws (dX dn)).length d,.int .i64 (dE dn)],.int .i64 mode] u fun r w'=>r=.returned (.tuple #[.float .f64 z,.int .i64 ez])∧Below u.heap.size u w')) :
 Calls Tryz.prog 102 #[.agg #[.int .i64 (at0:Nat),.int .i64 (rest:Nat),.int .i64 (den:Nat)],.float .f64 low,.float .f64 high,.int .i64 mode] w fun r w'=>r=.returned (.float .f64 (if sg=0 then z0 else z))∧Below w.heap.size w w':=by
 obtain ⟨zz,hzz⟩:∃ x,x=if sg=0 then z0 else z:=⟨_,rfl⟩
 rw [←hzz];have HZ:=qsd hzz;clear hzz;obtain ⟨W0,hW0⟩:∃ W,W=w.alloc (Obj.cells #[.int .i64 (at0:Nat),.int .i64 (rest:Nat),.int .i64 (den:Nat)] 140):=⟨_,rfl⟩;obtain ⟨gb,hgb⟩:∃ g,g=w.heap.size:=⟨_,rfl⟩
 have hs:Bs16 w gb rest den W0:=by
  subst hW0 hgb;exact ⟨below_alloc _ _,by rw [World.cell?_alloc_new];rfl,by rw [World.cell?_alloc_new];rfl⟩
 have FF:=(qsd (ai F1 (ai F2 (ai hT (ai Fq Fd)))));have HW:=(qsd (ai hW0 hgb));have B0:=qsd hs;clear hW0 hgb F1 F2 hT hs Fq Fd;go_enter Tryz.func102,Tryz.ntmps102
 go_upto_region 1 with fail
 rw [←HW.out.1,←HW.out.2]
 go_cut [9,10] from 18 to 28 (fun p9 p10 wx=>∃ g9 g10,p9=.pointer (some ⟨g9,0,none⟩)∧p10=.pointer (some ⟨g10,0,none⟩)∧Aside (Pr16 w gb rest den o1 o2 g9 g10 wx))
 case first =>
  refine calm16 ?_
  go_region_held3 (fun w'=>w'.cell? ⟨gb,1,none⟩=some (.int .i64 (rest:Nat))∧w'.cell? ⟨gb,2,none⟩=some (.int .i64 (den:Nat))) (first
   | with_reducible exact B2.out.2
   | with_reducible exact B2.out.2.al _
   | with_reducible exact (B2.out.2.al _).al _
   | with_reducible exact B2.out.2.st' ZA.out.2.2 _ _ _
   | with_reducible exact B2.out.2.st' ZB.out.2.2 _ _ _
   | with_reducible exact (B2.out.2.st' ZA.out.2.2 _ _ _).st' ZB.out.2.2 _ _ _
   | with_reducible exact (B2.out.2.st' ZB.out.2.2 _ _ _).st' ZA.out.2.2 _ _ _
   | with_reducible exact (B2.out.2.st' ZA.out.2.2 _ _ _).al _
   | with_reducible exact (B2.out.2.al _).st' ZA.out.2.2 _ _ _
   | with_reducible exact B1.out.2
   | with_reducible exact B1.out.2.al _
   | with_reducible exact (B1.out.2.al _).al _
   | with_reducible exact B0.out.2.dr
   | with_reducible exact (B0.out.2.al _).dr
   | with_reducible exact ((B0.out.2.al _).al _).dr) (first
   | (go_at_call_of 132 (Value.float FloatKind.f64 low)
      first
      | (have BX:=qsd (B0.out.dr)
         with_reducible refine (H1.out _ (FF.out.2.2.1.belows BX.out.1)).mono ?_
         rintro r v1 ⟨⟨p,rfl,hN⟩,hb⟩;obtain ⟨a1,c1,rfl,hN0⟩:=Lo.shape FF.out.1 hN;have B1:=qsd (BX.out.be hb);have N1:=qsd hN0;clear hb hN hN0 BX)
      | (have BX:=qsd ((B0.out.al Zd).dr)
         with_reducible refine (H1.out _ (FF.out.2.2.1.belows BX.out.1)).mono ?_
         rintro r v1 ⟨⟨p,rfl,hN⟩,hb⟩;obtain ⟨a1,c1,rfl,hN0⟩:=Lo.shape FF.out.1 hN;have B1:=qsd (BX.out.be hb);have N1:=qsd hN0;have ZA:=qsd ((B0.out.new.dr).be hb);clear hb hN hN0 BX)
      | (have BX:=qsd (((B0.out.al Zd).al Zd).dr)
         with_reducible refine (H1.out _ (FF.out.2.2.1.belows BX.out.1)).mono ?_
         rintro r v1 ⟨⟨p,rfl,hN⟩,hb⟩;obtain ⟨a1,c1,rfl,hN0⟩:=Lo.shape FF.out.1 hN;have B1:=qsd (BX.out.be hb);have N1:=qsd hN0;have ZA:=qsd (((B0.out.new.al Zd).dr).be hb);have ZB:=qsd ((B0.out.new2.dr).be hb);have hAB:W0.heap.size≠W0.heap.size+1:=by omega
         have hBA:W0.heap.size+1≠W0.heap.size:=by omega
         clear hb hN hN0 BX))
   | (go_at_call_of 132 (Value.float FloatKind.f64 high)
      first
      | (have BX:=qsd (B1.out)
         with_reducible refine (H2.out _ (FF.out.2.2.1.belows BX.out.1)).mono ?_
         rintro r v2 ⟨⟨p,rfl,hN⟩,hb⟩;obtain ⟨a2,c2,rfl,hN0⟩:=Lo.shape FF.out.2.1 hN;have B2:=qsd (BX.out.be hb);have N1:=qsd (N1.out.below hb);have N2:=qsd hN0
         try (have ZB:=qsd (ZB.out.be hb))
         try (have ZA:=qsd (ZA.out.be hb))
         try (obtain ⟨⟨e1,e2,D7,e3⟩,e4⟩:=ZA.out;obtain ⟨y0,y1,y2,z0,z1,z2⟩:=D7.facts;have lA:=D7.lt;have nA:=Nat.ne_of_lt lA;have mA:=Nat.ne_of_gt lA;clear D7 e3 e4)
         try (obtain ⟨⟨e1,e2,D7,e3⟩,e4⟩:=ZB.out;obtain ⟨x0,x1,x2,t0,t1,t2⟩:=D7.facts;have lB:=D7.lt;have nB:=Nat.ne_of_lt lB;have mB:=Nat.ne_of_gt lB;clear D7 e3 e4)
         clear hb hN hN0 BX)
      | (have BX:=qsd ((B1.out.al Zd))
         with_reducible refine (H2.out _ (FF.out.2.2.1.belows BX.out.1)).mono ?_
         rintro r v2 ⟨⟨p,rfl,hN⟩,hb⟩;obtain ⟨a2,c2,rfl,hN0⟩:=Lo.shape FF.out.2.1 hN;have B2:=qsd (BX.out.be hb);have N1:=qsd ((N1.out.below (below_alloc _ Zd)).below hb);have N2:=qsd hN0
         first | (have hAB:=Nat.ne_of_lt ZA.out.1.lt;have hBA:=Nat.ne_of_gt ZA.out.1.lt;have ZA:=qsd ((ZA.out.al Zd).be hb);have ZB:=qsd ((B1.out.new).be hb)) | (have ZA:=qsd ((B1.out.new).be hb))
         try (obtain ⟨⟨e1,e2,D7,e3⟩,e4⟩:=ZA.out;obtain ⟨y0,y1,y2,z0,z1,z2⟩:=D7.facts;have lA:=D7.lt;have nA:=Nat.ne_of_lt lA;have mA:=Nat.ne_of_gt lA;clear D7 e3 e4)
         try (obtain ⟨⟨e1,e2,D7,e3⟩,e4⟩:=ZB.out;obtain ⟨x0,x1,x2,t0,t1,t2⟩:=D7.facts;have lB:=D7.lt;have nB:=Nat.ne_of_lt lB;have mB:=Nat.ne_of_gt lB;clear D7 e3 e4)
         clear hb hN hN0 BX)
      | (have BX:=qsd (((B1.out.al Zd).al Zd))
         with_reducible refine (H2.out _ (FF.out.2.2.1.belows BX.out.1)).mono ?_
         rintro r v2 ⟨⟨p,rfl,hN⟩,hb⟩;obtain ⟨a2,c2,rfl,hN0⟩:=Lo.shape FF.out.2.1 hN;have B2:=qsd (BX.out.be hb);have N1:=qsd (((N1.out.below (below_alloc _ Zd)).below (below_alloc _ Zd)).below hb);have N2:=qsd hN0;have ZA:=qsd (((B1.out.new.al Zd)).be hb);have ZB:=qsd ((B1.out.new2).be hb);have hAB:v1.heap.size≠v1.heap.size+1:=by omega
         have hBA:v1.heap.size+1≠v1.heap.size:=by omega
         try (obtain ⟨⟨e1,e2,D7,e3⟩,e4⟩:=ZA.out;obtain ⟨y0,y1,y2,z0,z1,z2⟩:=D7.facts;have lA:=D7.lt;have nA:=Nat.ne_of_lt lA;have mA:=Nat.ne_of_gt lA;clear D7 e3 e4)
         try (obtain ⟨⟨e1,e2,D7,e3⟩,e4⟩:=ZB.out;obtain ⟨x0,x1,x2,t0,t1,t2⟩:=D7.facts;have lB:=D7.lt;have nB:=Nat.ne_of_lt lB;have mB:=Nat.ne_of_gt lB;clear D7 e3 e4)
         clear hb hN hN0 BX)))
  all_goals
   go_wp2_with fail
   go_meet
   case rel=>first
    | with_reducible exact ⟨_,_,rfl,rfl,qsd (fin0_16 B2.out.1 B2.out.2 N1.out N2.out)⟩
    | with_reducible exact ⟨_,_,rfl,rfl,qsd ((fin0_16 B2.out.1 B2.out.2 N2.out N1.out).sw)⟩
    | with_reducible exact ⟨_,_,rfl,rfl,qsd (fin1a_16 B2.out.1 B2.out.2 N1.out N2.out ZA.out)⟩
    | with_reducible exact ⟨_,_,rfl,rfl,qsd (fin1b_16 B2.out.1 B2.out.2 N1.out N2.out ZA.out)⟩
    | with_reducible exact ⟨_,_,rfl,rfl,qsd ((fin1a_16 B2.out.1 B2.out.2 N2.out N1.out ZA.out).sw)⟩
    | with_reducible exact ⟨_,_,rfl,rfl,qsd ((fin1b_16 B2.out.1 B2.out.2 N2.out N1.out ZA.out).sw)⟩
    | with_reducible exact ⟨_,_,rfl,rfl,qsd (fin2_16 B2.out.1 B2.out.2 N1.out N2.out ZA.out ZB.out hAB)⟩
    | with_reducible exact ⟨_,_,rfl,rfl,qsd ((fin2_16 B2.out.1 B2.out.2 N2.out N1.out ZA.out ZB.out hAB).sw)⟩
    | with_reducible exact ⟨_,_,rfl,rfl,qsd (fin2_16 B2.out.1 B2.out.2 N1.out N2.out ZB.out ZA.out hBA)⟩
    | with_reducible exact ⟨_,_,rfl,rfl,qsd ((fin2_16 B2.out.1 B2.out.2 N2.out N1.out ZB.out ZA.out hBA).sw)⟩
 clear B0;obtain ⟨g9,g10,rfl,rfl,HA⟩:=hcut;obtain ⟨W1,hW⟩:∃ W,W=wc:=⟨_,rfl⟩;subst hW;obtain ⟨⟨x9,k9,D9,M9⟩,⟨x10,k10,D10,M10⟩,hb,hs⟩:=HA.out;obtain ⟨p0,p1,p2,_,_,_⟩:=D9.facts;obtain ⟨q0,q1,q2,_,_,_⟩:=D10.facts;have C:=hid (HADD.out W1 x9 x10 k9 k10 (FF.out.2.2.1.belows hb) M9 M10);have K1:Aside (Bs16 w gb rest den W1):=⟨hb,hs⟩;clear D9 M9 D10 M10 hb hs HA HADD H1 H2
 go_wp2_with fail
 refine C.out.mono ?_;rintro r v3 ⟨⟨p,rfl,hN⟩,hb⟩;obtain ⟨a3,c3,rfl,hN0⟩:=Lo.shape FF.out.2.2.2.1 hN;obtain ⟨V3,hV3⟩:∃ V,V=v3.alloc (dc16 q a3 c3):=⟨_,rfl⟩;obtain ⟨g11,hg11⟩:∃ g,g=v3.heap.size:=⟨_,rfl⟩
 have K2:Aside (Dk V3 g11 (dN q) (.slice a3 (ws (dX q)).length c3) (dE q)∧Nt 0 V3 (.slice a3 (ws (dX q)).length c3) (dX q)∧Bs16 w gb rest den V3):=by
  rw [hV3,hg11];exact ⟨Dk.new _ _ _ _,hN0.below (below_alloc _ _),(K1.out.be hb).al _⟩
 have HV:=(qsd (ai hV3 hg11));clear C hb hN hN0 K1 hV3 hg11 p0 p1 p2 q0 q1 q2
 go_upto_region 3 with fail
 rw [←HV.out.1,←HV.out.2];clear HV;obtain ⟨d0,d1,d2,_,_,_⟩:=K2.out.1.facts;have C:=hid (HSG.out V3 a3 c3 K2.out.2.1)
 go_wp2_with fail
 refine C.out.mono ?_;rintro r v4 ⟨rfl,hb⟩;have K3:Aside (Dk v4 g11 (dN q) (.slice a3 (ws (dX q)).length c3) (dE q)∧Nt 0 v4 (.slice a3 (ws (dX q)).length c3) (dX q)∧Bs16 w gb rest den v4):=⟨K2.out.1.below hb,K2.out.2.1.below hb,K2.out.2.2.be hb⟩;clear C hb K2 d0 d1 d2 HSG
 by_cases h0:sg=0
 · replace HZ:Aside (zz=z0):=qsd (by rw [HZ.out,if_pos h0])
   subst h0;obtain ⟨U0,hU0⟩:∃ U,U=v4.alloc (Obj.cells #[.float .f64 low,.float .f64 high] 27):=⟨_,rfl⟩;obtain ⟨gl,hgl⟩:∃ g,g=v4.heap.size:=⟨_,rfl⟩
   have K4:Aside (Fs U0.heap.size U0 (some ⟨gl,0,none⟩) [low,high]∧Below w.heap.size w U0):=by
    rw [hU0,hgl];exact ⟨fs_two v4 low high,K3.out.2.2.1.trans ((below_alloc _ _).mono K3.out.2.2.1.size)⟩
   have C:=hid (HPL.out U0);have HU:=(qsd (ai hU0 hgl));clear hU0 hgl K3
   go_wp2_with fail
   rw [←HU.out.1,←HU.out.2];clear HU;refine C.out.mono ?_;rintro r v5 ⟨rfl,hb⟩;have K5:Aside (Fs v5.heap.size v5 (some ⟨gl,0,none⟩) [low,high]∧Below w.heap.size w v5):=⟨(K4.out.1.below hb).mono hb.size,K4.out.2.trans (hb.mono K4.out.2.size)⟩;clear C hb K4;have C:=hid (HSI.out v5 gl K5.out.1)
   go_wp2_with fail
   refine C.out.mono ?_;rintro r v6 ⟨⟨lv,rfl⟩,hb⟩;obtain ⟨V6,hV6⟩:∃ V,V=v6.alloc (Obj.cells #[.int .i64 t1,.int .i64 t2,.int .i64 t3,.int .i64 t4,.int .i64 t5,.int .i64 t6] 168):=⟨_,rfl⟩;obtain ⟨g14,hg14⟩:∃ g,g=v6.heap.size:=⟨_,rfl⟩
   have K6:Aside (Bl V6 g14 168 [.int .i64 t1,.int .i64 t2,.int .i64 t3,.int .i64 t4,.int .i64 t5,.int .i64 t6]∧Below w.heap.size w V6):=by
    rw [hV6,hg14];have b6:=K5.out.2.trans (hb.mono K5.out.2.size);exact ⟨Bl.new _ 168 [_,_,_,_,_,_],b6.trans ((below_alloc _ _).mono b6.size)⟩
   have HV:=(qsd (ai hV6 hg14));clear C hb K5 hV6 hg14
   go_upto_region 5 with fail
   rw [←HV.out.1,←HV.out.2];clear HV;have s0:=K6.out.1.cell 0 _ rfl;have s1:=K6.out.1.cell 1 _ rfl;have s2:=K6.out.1.cell 2 _ rfl;have s3:=K6.out.1.cell 3 _ rfl;have s4:=K6.out.1.cell 4 _ rfl;have s5:=K6.out.1.cell 5 _ rfl;have C:=hid (HNO.out V6)
   go_wp2_with fail
   refine C.out.mono ?_;rintro r v7 ⟨rfl,hb⟩;have K7:=qsd (K6.out.2.trans (hb.mono K6.out.2.size));clear C hb K6 s0 s1 s2 s3 s4 s5;go_wp2;go_ret;exact ⟨by rw [HZ.out];rfl,K7.out⟩
 · have h01:(sg==0)=false:=by simp [h0]
   have h02:decide (sg=0)=false:=by simp [h0]
   replace HZ:Aside (zz=z):=qsd (by rw [HZ.out,if_neg h0])
   go_upto_region 6 with fail
   have hdr:=(Below.refl v4.heap.size v4).drew;have BB:Aside (Dk v4.drew g11 (dN q) (.slice a3 (ws (dX q)).length c3) (dE q)∧Nt 0 v4.drew (.slice a3 (ws (dX q)).length c3) (dX q)∧Bs16 w gb rest den v4.drew):=⟨K3.out.1.below hdr,K3.out.2.1.below hdr,K3.out.2.2.dr⟩;clear hdr K3;obtain ⟨d0,d1,d2,_,_,_⟩:=BB.out.1.facts;have s2:=BB.out.2.2.2.2;refine calm16 ?_
   go_region_with (first
    | (go_at_call 83
       with_reducible refine (HQT.out _ a3 a5 c3 c5 (FF.out.2.2.1.belows BB.out.2.2.1) BB.out.2.1 Q5.out).mono ?_
       rintro r v ⟨rfl,hb⟩;have BE:=qsd (BB.out.2.2.1.trans (hb.mono BB.out.2.2.1.size));clear hb d0 d1 d2 s2)
    | (go_at_call 81
       with_reducible refine (HI.out _ (FF.out.2.2.1.belows BB.out.2.2.1)).mono ?_
       rintro r v ⟨⟨p,rfl,hN⟩,hb⟩;obtain ⟨a5,c5,rfl,hN0⟩:=Lo.shape FF.out.2.2.2.2 hN;have BB:=qsd (ai (BB.out.1.below hb) (ai (BB.out.2.1.below hb) (BB.out.2.2.be hb)));have Q5:=qsd hN0;obtain ⟨d0,d1,d2,_,_,_⟩:=BB.out.1.facts;have s2:=BB.out.2.2.2.2;clear hb hN hN0))
   all_goals
    go_wp2;go_ret;exact ⟨by rw [HZ.out];rfl,BE.out⟩
end
section
open Go.RowKit J
def clx (x:Nat):Int:=B.cls (magW x/4503599627370496) (magW x%4503599627370496)
theorem class15 {x:Nat}(hx:x<18446744073709551616) (w:World):Calls Tryz.prog 126 #[.float .f64 x] w fun r w'=>r=.returned (.int .i64 (clx x))∧Below w.heap.size w w':=by
 obtain ⟨s,e,f,h1,h2,h3,h4,h5,h6⟩:=bw15 hx;have:=B.Class_any s e f h1 h2 w;rw [←h3,h5,h6] at this;exact this
theorem clx_nan {x:Nat}(hx:x<18446744073709551616):clx x=4↔nanW x=true:=by
 unfold clx B.cls nanW magW;rw [decide_eq_true_eq]
 by_cases a:x%9223372036854775808/4503599627370496=2047
 · rw [if_pos a]
   by_cases b:x%9223372036854775808%4503599627370496=0
   · rw [if_pos b];constructor <;> intro h <;> omega
   · rw [if_neg b];constructor <;> intro h <;> omega
 · rw [if_neg a]
   by_cases b:x%9223372036854775808/4503599627370496=0
   · rw [if_pos b];split <;> (constructor <;> intro h <;> omega)
   · rw [if_neg b];constructor <;> intro h <;> omega
theorem told15 {x:Nat}(hx:x<18446744073709551616) (w:World):Calls Tryz.prog 104 #[.float .f64 x] w fun r w'=>r=.returned (.float .f64 (nrm x))∧Below w.heap.size w w':=by
 have C:=hid (class15 hx w);have hk:=clx_nan hx;obtain ⟨c,hc⟩:∃ c,c=clx x:=⟨_,rfl⟩;rw [←hc] at C hk;clear hc
 by_cases h:c=4
 · subst h
   have e:nrm x=9221120237041090560:=by unfold nrm;rw [if_pos (hk.1 rfl)];rfl
   rw [e];clear e hk;go_enter Tryz.func104,Tryz.ntmps104
   go_wp2_with fail
   refine C.out.mono ?_;rintro r v ⟨rfl,hv⟩;have D:=hid (B.nan_any v)
   go_wp2_with fail
   refine D.out.mono ?_;rintro r v2 ⟨rfl,rfl⟩;go_wp2;go_ret;exact ⟨rfl,hv⟩
 · have e:nrm x=x:=by unfold nrm;rw [if_neg (fun q=>h (hk.2 q))]
   rw [e];clear e hk;have k1:(c==4)=false:=by simp [h]
   have k2:decide (c=4)=false:=by simp [h]
   go_enter Tryz.func104,Tryz.ntmps104
   go_wp2_with fail
   refine C.out.mono ?_;rintro r v ⟨rfl,hv⟩;go_wp2;go_ret;exact ⟨rfl,hv⟩
def srtTo (xs:List Nat) (k:Nat):List Nat:=(sortL xs).take k++List.replicate (xs.length-k) 0
theorem srtTo_zero (xs:List Nat):srtTo xs 0=List.replicate xs.length 0:=by simp [srtTo]
theorem srtTo_all (xs:List Nat):srtTo xs xs.length=sortL xs:=by
 unfold srtTo;rw [List.take_of_length_le (by rw [sortL_len];exact Nat.le_refl _)]
 simp
theorem srtTo_len {xs:List Nat}{k:Nat}(h:k≤xs.length):(srtTo xs k).length=xs.length:=by
 unfold srtTo;rw [List.length_append,List.length_take,List.length_replicate,sortL_len];omega
theorem srtTo_succ {xs:List Nat}{k:Nat}(h:k<xs.length):(srtTo xs k).set k ((sortL xs).getD k 0)=srtTo xs (k+1):=by
 have hl:k<(sortL xs).length:=by rw [sortL_len];exact h
 unfold srtTo;rw [List.set_append_right _ _ (by rw [List.length_take];omega),List.length_take,Nat.min_eq_left (by omega),Nat.sub_self,show xs.length-k=(xs.length-(k+1))+1 by omega,List.replicate_succ,List.set_cons_zero,List.getD_eq_getElem?_getD,List.getElem?_eq_getElem hl,List.take_add_one,List.getElem?_eq_getElem hl,List.append_assoc]
 rfl
theorem fld15 (a b:Value) (w:World):(Instr.field 145 (.agg #[a,b]) 1).run Tryz.prog w=.ok b w:=by kernel_rfl
attribute [local go_sem] fld15 st_float
theorem Sort15 (xs:List Nat) (ao:Option Addr) (n cap:Nat) (w:World) (hF:Fs w.heap.size w ao xs) (hn:n=xs.length) (hb:n≤17592186044416) (hW:W64 xs) :
 Calls Tryz.prog 75 #[.slice ao n cap] w fun r w'=>r=.returned (.slice (some ⟨w.heap.size,0,none⟩) n n)∧OwnF w' w.heap.size (sortL xs)∧Below w.heap.size w w':=by
 have mk:=make_floats n n rfl hb;obtain ⟨G,hG⟩:∃ G,G=w.heap.size:=⟨_,rfl⟩;obtain ⟨W1,hW1⟩:∃ W,W=w.alloc (.cells (madeCells #[.float .f64 0] n) 27):=⟨_,rfl⟩;have o1:OwnF W1 G (srtTo xs 0):=by rw [hW1,srtTo_zero,hG,←hn];exact OwnF.made w n
 have o2:Below w.heap.size w W1:=by rw [hW1];exact (Below.refl w.heap.size w).alloc (Nat.le_refl _) _
 have hFw:Fs w.heap.size W1 ao xs:=hF.below o2;have C:=hid (rowOf15 xs ao n cap W1 (hFw.mono o2.size) hn hb hW);have hGl:G<W1.heap.size:=o1.lt;have HN:=(qsd (ai hn (ai hW (ai hF (ai o1 (ai o2 (ai hG hGl)))))));have HW1:=qsd hW1;clear hF hFw o1 o2 hn hW hGl hG hW1;go_enter Tryz.func75,Tryz.ntmps75
 go_upto_region 2 with fail
 rw [←HW1.out,←HN.out.2.2.2.2.2.1];clear mk
 go_wp2_with fail
 refine C.out.mono ?_;rintro r v ⟨g,rfl,e1,e2,e3⟩
 have HA:Aside (OwnF v G (srtTo xs 0)∧OwnI v g (rowL xs)∧Below w.heap.size w v∧G<g∧g<v.heap.size):=by
  obtain ⟨hn,hW,hFw,o1,o2,hG,hGl⟩:=HN.out;exact ⟨o1.below e2 hGl,e1,o2.trans (e2.mono o2.size),by omega,e1.lt⟩
 clear C e1 e2 e3;go_wp2
 go_loopg [13] n (fun gk iv wr=>∃ k:Nat,gk+k=n∧iv=.int .i64 (k:Nat)∧Aside (OwnF wr G (srtTo xs k)∧OwnI wr g (rowL xs)∧Below w.heap.size w wr∧G<g∧g<wr.heap.size))
 case atStart=>exact ⟨0,rfl,by first | rfl | simp,HA.out⟩
 case round =>
  clear HA;obtain ⟨k,hgk,rfl,HA⟩:=hrel
  by_cases hk:k<n
  · have hdk:decide ((k:Int)<(n:Int))=true:=by simp;omega
    have bk:(k:Int)<(n:Int):=by omega
    obtain ⟨k1,hk1⟩:∃ x,x=k+1:=⟨_,rfl⟩;have wk:IntKind.i64.wrap ((k:Int)+1)=(k1:Int):=wrapZ (by omega) (by omega)
    obtain ⟨a1,a2,a3,a4,a5⟩:=HA.out;obtain ⟨hn,hW,hF,o1,o2,hG,hGl⟩:=HN.out;have hkx:k<xs.length:=by omega
    obtain ⟨i,hi⟩:∃ i,i=(rowL xs).getD k 0:=⟨_,rfl⟩;have c1:=a2.cell k (by rw [rowL_len];exact hkx)
    have hin:i<n:=by rw [hi,hn];exact rowL_lt hkx
    rw [←hi] at c1;have bi:(i:Int)<(n:Int):=by omega
    obtain ⟨b,off,rfl,c2⟩:=hF.at a3 i (by omega)
    have hx:xs.getD i 0<18446744073709551616:=hW _ (getD_mem15 (by omega))
    have e4:(sortL xs).getD k 0=nrm (xs.getD i 0):=by rw [hi];exact sortL_get hkx
    obtain ⟨x,hxx⟩:∃ x,x=xs.getD i 0:=⟨_,rfl⟩;rw [←hxx] at c2 hx e4;have D:=hid (told15 hx wr);obtain ⟨y,hy⟩:∃ y,y=nrm x:=⟨_,rfl⟩;rw [←hy] at D e4
    have HX:Aside (∀ v,Below wr.heap.size wr v→v.cell? ⟨G,k,none⟩=some (.float .f64 ((srtTo xs k).getD k 0))∧v.frozen? ⟨G,k,none⟩=false∧OwnF (v.setCell ⟨G,k,none⟩ (.float .f64 y)) G (srtTo xs k1)∧OwnI (v.setCell ⟨G,k,none⟩ (.float .f64 y)) g (rowL xs)∧Below w.heap.size w (v.setCell ⟨G,k,none⟩ (.float .f64 y))∧G<g∧g<(v.setCell ⟨G,k,none⟩ (.float .f64 y)).heap.size):=fun v hv=>by
     have a1':=a1.below hv (by omega)
     have a2':=a2.below hv (by omega)
     refine ⟨a1'.cell k (by rw [srtTo_len (by omega)];exact hkx),a1'.frozen k,?_,?_,?_,a4,?_⟩
     · rw [hk1,←srtTo_succ hkx,e4];exact a1'.set k y
     · have hne:g≠G:=by omega
       unfold OwnI at a2' ⊢;simp only [World.setCell,Array.getElem?_modify];rw [if_neg (fun e=>hne e.symm)];exact a2'
     · exact (a3.trans (hv.mono a3.size)).setCell (show w.heap.size≤G by omega) _
     · have:=a2'.lt
       simpa [World.setCell] using this
    have HK:=qsd hk1;clear HA a1 a2 a3 a4 a5 hn hW hF o1 o2 hG hGl hi hkx hx e4 hxx hy hk1
    go_wp2_with fail
    refine D.out.mono ?_;rintro r v ⟨rfl,hv⟩;obtain ⟨x1,x2,x3⟩:=HX.out v hv;have HY:=qsd x3;clear D HX x3 hv;obtain ⟨z,hz⟩:∃ z,z=(srtTo xs k).getD k 0:=⟨_,rfl⟩;rw [←hz] at x1;clear hz;go_wp2
    go_roundg (n-k1)
    case measure=>have:=HK.out;omega
    case rel=>exact ⟨k1,by have:=HK.out;omega,by first | rfl | simp,HY.out⟩
  · have hdk:decide ((k:Int)<(n:Int))=false:=by simp;omega
    go_wp2;go_ret;obtain ⟨a1,a2,a3,a4,a5⟩:=HA.out;obtain ⟨hn,hW,hF,o1,o2,hG,hGl⟩:=HN.out;rw [show k=xs.length by omega,srtTo_all] at a1
    exact ⟨by rw [←hG];rfl,by rw [←hG];exact a1,a3⟩
end
section
open Go.RowKit J
def knB (rule mode:Int):Bool:=decide (0≤rule∧rule≤4∧0≤mode∧mode≤4)
theorem known16 (rule mode:Int) (w:World):Calls Tryz.prog 72 #[.int .i64 rule,.int .i64 mode] w fun r w'=>r=.returned (.bool (knB rule mode))∧w'=w:=by
 obtain ⟨z,hz⟩:∃ z,z=knB rule mode:=⟨_,rfl⟩;rw [←hz];unfold knB at hz
 by_cases h1:0≤rule
 · have d1:decide (0≤rule)=true:=by simp [h1]
   by_cases h2:rule≤4
   · have d2:decide (rule≤4)=true:=by simp [h2]
     by_cases h3:0≤mode
     · have d3:decide (0≤mode)=true:=by simp [h3]
       by_cases h4:mode≤4
       · have d4:decide (mode≤4)=true:=by simp [h4]
         rw [decide_eq_true ⟨h1,h2,h3,h4⟩] at hz;subst hz;go_enter Tryz.func72,Tryz.ntmps72;go_wp2;go_ret;exact ⟨rfl,rfl⟩
       · have d4:decide (mode≤4)=false:=by simp;omega
         rw [decide_eq_false (fun h=>h4 h.2.2.2)] at hz
         subst hz;go_enter Tryz.func72,Tryz.ntmps72;go_wp2;go_ret;exact ⟨rfl,rfl⟩
     · have d3:decide (0≤mode)=false:=by simp;omega
       rw [decide_eq_false (fun h=>h3 h.2.2.1)] at hz
       subst hz;go_enter Tryz.func72,Tryz.ntmps72;go_wp2;go_ret;exact ⟨rfl,rfl⟩
   · have d2:decide (rule≤4)=false:=by simp;omega
     rw [decide_eq_false (fun h=>h2 h.2.1)] at hz
     subst hz;go_enter Tryz.func72,Tryz.ntmps72;go_wp2;go_ret;exact ⟨rfl,rfl⟩
 · have d1:decide (0≤rule)=false:=by simp;omega
   rw [decide_eq_false (fun h=>h1 h.1)] at hz
   subst hz;go_enter Tryz.func72,Tryz.ntmps72;go_wp2;go_ret;exact ⟨rfl,rfl⟩
def byB (x:Nat):Bool:=decide (9218868437227405312≤magW x)
theorem clx_by {x:Nat}(hx:x<18446744073709551616):decide ((3:Int)≤clx x)=byB x:=by
 unfold clx B.cls byB magW;have hm:x%9223372036854775808<9223372036854775808:=by omega
 by_cases a:x%9223372036854775808/4503599627370496=2047
 · rw [if_pos a,decide_eq_true (show 9218868437227405312≤x%9223372036854775808 by omega)]
   split <;> rfl
 · rw [if_neg a,decide_eq_false (show ¬ 9218868437227405312≤x%9223372036854775808 by omega)]
   by_cases b:x%9223372036854775808/4503599627370496=0
   · rw [if_pos b];split <;> rfl
   · rw [if_neg b];rfl
theorem beyond16 {x:Nat}(hx:x<18446744073709551616) (w:World):Calls Tryz.prog 98 #[.float .f64 x] w fun r w'=>r=.returned (.bool (byB x))∧Below w.heap.size w w':=by
 have C:=hid (class15 hx w);have hk:=clx_by hx;rw [←hk];obtain ⟨c,hc⟩:∃ c,c=clx x:=⟨_,rfl⟩;rw [←hc] at C ⊢;clear hc hk;go_enter Tryz.func98,Tryz.ntmps98
 go_wp2_with fail
 refine C.out.mono ?_;rintro r v ⟨rfl,hv⟩;go_wp2;go_ret;exact ⟨by first | rfl | simp,hv⟩
theorem any_take15 {xs:List Nat}{k:Nat}(h:k<xs.length):(xs.take (k+1)).any byB=((xs.take k).any byB || byB (xs.getD k 0)):=by
 rw [List.take_add_one,List.getElem?_eq_getElem h,List.getD_eq_getElem?_getD,List.getElem?_eq_getElem h,List.any_append]
 simp only [Option.toList,List.any_cons,List.any_nil,Bool.or_false,Option.getD_some]
theorem index16 (xs:List Nat) (ao:Option Addr) (n cap:Nat) (w:World) (hF:Fs w.heap.size w ao xs) (hn:n=xs.length) (hb:n≤17592186044416) (hW:W64 xs) :
 Calls Tryz.prog 125 #[.slice ao n cap,.func (.func 98) #[] #[]] w fun r w'=>∃ z:Int,r=.returned (.int .i64 z)∧(decide (0≤z)=xs.any byB)∧Below w.heap.size w w':=by
 have HN:=(qsd (ai hn (ai hW hF)));clear hF hn hW;go_enter Tryz.func125,Tryz.ntmps125;go_wp2
 go_loopg [8] n (fun gk iv wr=>∃ k:Nat,gk+k=n∧iv=.int .i64 (k:Nat)∧Aside ((xs.take k).any byB=false∧Below w.heap.size w wr))
 case atStart=>exact ⟨0,rfl,by first | rfl | simp,by simp,Below.refl _ _⟩
 case round =>
  obtain ⟨k,hgk,rfl,HA⟩:=hrel
  by_cases hk:k<n
  · have hdk:decide ((k:Int)<(n:Int))=true:=by simp;omega
    have bk:(k:Int)<(n:Int):=by omega
    obtain ⟨k1,hk1⟩:∃ x,x=k+1:=⟨_,rfl⟩;have wk:IntKind.i64.wrap ((k:Int)+1)=(k1:Int):=wrapZ (by omega) (by omega)
    obtain ⟨hn,hW,hF⟩:=HN.out;obtain ⟨b,off,rfl,c2⟩:=hF.at HA.out.2 k (by omega)
    have hx:xs.getD k 0<18446744073709551616:=hW _ (getD_mem15 (by omega))
    have ht:=any_take15 (xs:=xs) (k:=k) (by omega)
    obtain ⟨x,hxx⟩:∃ x,x=xs.getD k 0:=⟨_,rfl⟩;rw [←hxx] at c2 hx ht;have D:=hid (beyond16 hx wr);rw [HA.out.1,Bool.false_or] at ht;have HK:=(qsd (ai hk1 ht));obtain ⟨t,htt⟩:∃ t,t=byB x:=⟨_,rfl⟩;rw [←htt] at D ht;have HT:=qsd htt
    have hany:Aside (t=true→xs.any byB=true):=fun h=>by
     rw [List.any_eq_true];exact ⟨x,by rw [hxx];exact getD_mem15 (by omega),by rw [←HT.out];exact h⟩
    have HT2:=qsd ht;clear hn hW hF hx ht hxx hk1 htt
    go_wp2_with fail
    refine D.out.mono ?_;rintro r v ⟨rfl,hv⟩;have HB:=qsd (HA.out.2.trans (hv.mono HA.out.2.size));clear D hv
    cases t
    · go_wp2
      go_roundg (n-k1)
      case measure=>have:=HK.out;omega
      case rel=>exact ⟨k1,by have:=HK.out;omega,by first | rfl | simp,by rw [HK.out.1];exact HT2.out,HB.out⟩
    · go_wp2
      refine bodyPost_ret (v:=.int .i64 (k:Nat)) (by simp [results,Tryz.results125,go_sem]) rfl ?_
      exact ⟨k,rfl,by rw [hany.out (by first | rfl | trivial)];simp,HB.out⟩
  · have hdk:decide ((k:Int)<(n:Int))=false:=by simp;omega
    have E:Aside (xs.any byB=false):=by
     have h1:=HA.out.1;rw [List.take_of_length_le (by have:=HN.out.1;omega)] at h1
     exact h1
    go_wp2;refine bodyPost_ret (v:=.int .i64 (-1)) (by simp [results,Tryz.results125,go_sem]) rfl ?_
    exact ⟨-1,rfl,by rw [E.out];rfl,HA.out.2⟩
theorem contains16 (xs:List Nat) (ao:Option Addr) (n cap:Nat) (w:World) (hF:Fs w.heap.size w ao xs) (hn:n=xs.length) (hb:n≤17592186044416) (hW:W64 xs) :
 Calls Tryz.prog 97 #[.slice ao n cap,.func (.func 98) #[] #[]] w fun r w'=>r=.returned (.bool (xs.any byB))∧Below w.heap.size w w':=by
 have C:=hid (index16 xs ao n cap w hF hn hb hW);clear hF hn hW;go_enter Tryz.func97,Tryz.ntmps97
 go_wp2_with fail
 refine C.out.mono ?_;rintro r v ⟨z,rfl,hz,hv⟩;have HZ:=(qsd (ai hz hv));clear C hz hv;go_wp2;go_ret;exact ⟨by rw [←HZ.out.1];first | rfl | simp,HZ.out.2⟩
def amE (xs:List Nat) (odd:Bool):Int:=if 65536<xs.length then 2 else if odd || xs.any byB then 30 else if xs.length=0 then 3 else 0
theorem amiss16 (xs:List Nat) (odd:Bool) (ao:Option Addr) (n cap:Nat) (w:World) (hF:Fs w.heap.size w ao xs) (hn:n=xs.length) (hb:n≤17592186044416) (hW:W64 xs) :
 Calls Tryz.prog 73 #[.slice ao n cap,.bool odd] w fun r w'=>r=.returned (.int .i64 (amE xs odd))∧Below w.heap.size w w':=by
 have C:=hid (contains16 xs ao n cap w hF hn hb hW);obtain ⟨z,hz⟩:∃ z,z=amE xs odd:=⟨_,rfl⟩;rw [←hz];unfold amE at hz;rw [←hn] at hz;clear hF hn hW
 by_cases h1:65536<n
 · have d1:decide ((65536:Int)<(n:Int))=true:=by simp;omega
   rw [if_pos h1] at hz;subst hz;go_enter Tryz.func73,Tryz.ntmps73;go_wp2;go_ret;exact ⟨rfl,Below.refl _ _⟩
 · have d1:decide ((65536:Int)<(n:Int))=false:=by simp;omega
   rw [if_neg h1] at hz
   cases odd
   · rw [Bool.false_or] at hz
     obtain ⟨t,ht⟩:∃ t,t=xs.any byB:=⟨_,rfl⟩;rw [←ht] at C hz;clear ht
     cases t
     · rw [if_neg (by decide)] at hz
       by_cases h2:n=0
       · rw [if_pos h2] at hz
         subst hz h2;go_enter Tryz.func73,Tryz.ntmps73
         go_wp2_with fail
         refine C.out.mono ?_;rintro r v ⟨rfl,hv⟩;go_wp2;go_ret;exact ⟨rfl,hv⟩
       · rw [if_neg h2] at hz
         have d2:((n:Int)==0)=false:=by simp;omega
         have d3:decide ((n:Int)=0)=false:=by simp;omega
         subst hz;go_enter Tryz.func73,Tryz.ntmps73
         go_wp2_with fail
         refine C.out.mono ?_;rintro r v ⟨rfl,hv⟩;go_wp2;go_ret;exact ⟨rfl,hv⟩
     · rw [if_pos rfl] at hz
       subst hz;go_enter Tryz.func73,Tryz.ntmps73
       go_wp2_with fail
       refine C.out.mono ?_;rintro r v ⟨rfl,hv⟩;go_wp2;go_ret;exact ⟨rfl,hv⟩
   · rw [Bool.true_or,if_pos rfl] at hz
     subst hz;go_enter Tryz.func73,Tryz.ntmps73;go_wp2;go_ret;exact ⟨rfl,Below.refl _ _⟩
end
section
open Go.RowKit J
theorem plain16 (w:World):Calls Tryz.prog 135 #[] w fun r w'=>r=.returned (.agg #[.int .i64 0,.int .i64 0])∧Below w.heap.size w w':=by
 go_enter Tryz.func135,Tryz.ntmps135;go_wp2;refine bodyPost_ret (v:=.agg #[.int .i64 0,.int .i64 0]) (by simp [results,Tryz.results135,go_sem]) rfl ?_
 exact ⟨rfl,below_alloc _ _⟩
noncomputable def qR16 (V D:Option (Bool×Nat×Int)) (mode:Int):Nat×Int:=quoR rndS ⟨dN V,.bool false,dX V,dE V,dN D,.bool false,dX D,dE D⟩ mode
noncomputable def lnV (low high rest den:Nat):Int:=fvW low*((den-rest:Nat):Int)+fvW high*(rest:Int)
noncomputable def lnR (low high rest den:Nat) (mode:Int):Nat :=
 if lnV low high rest den=0 then nt (snd (sS [low,high]).n (sS [low,high]).u (sS [low,high]).d (sS [low,high]).m (sS [low,high]).p (sS [low,high]).a) (sS [low,high]).n (sS [low,high]).u (sS [low,high]).d (sS [low,high]).m (sS [low,high]).p (sS [low,high]).a mode else (qR16 (gV 1074 (lnV low high rest den)) (gV 0 (den:Int)) mode).1
theorem line16 (low high at0 rest den:Nat) (mode:Int) (hl:low<18446744073709551616) (fl:finW low) (hh:high<18446744073709551616) (fh:finW high) (hr:rest≤den) (hd:den≤2147483648) (w:World) (hT:Tab w) :
 Calls Tryz.prog 102 #[.agg #[.int .i64 (at0:Nat),.int .i64 (rest:Nat),.int .i64 (den:Nat)],.float .f64 low,.float .f64 high,.int .i64 mode] w fun r w'=>r=.returned (.float .f64 (lnR low high rest den mode))∧Below w.heap.size w w':=by
 obtain ⟨z,hz⟩:∃ z,z=2098:=⟨_,rfl⟩;obtain ⟨k,hk⟩:∃ z,z=31:=⟨_,rfl⟩;have b1:=bd_fv16 hl fl z hz;have b2:=bd_fv16 hh fh z hz;have bn:∀ n:Nat,n≤2147483648→Bd k (n:Int):=fun n hn=>by unfold Bd;rw [Int.natAbs_natCast,hk];exact hn
 have c1:=b1.mul (bn (den-rest) (by omega))
 have c2:=b2.mul (bn rest (by omega))
 have F1:=g_fm (u:=1074) (by omega) (by omega) c1
 have F2:=g_fm (u:=1074) (by omega) (by omega) c2
 have ea:=g_add (u:=1074) (by omega) (by omega) c1 c2
 have Fq:=g_fm (u:=1074) (by omega) (by omega) (c1.add c2)
 have Fd:=g_fm (u:=0) (by omega) (by omega) (bn den hd)
 have hsg:=(g_sign (u:=1074) (by omega) (by omega) (c1.add c2)).1
 have hW2:W64 [low,high]:=fun x hx=>by
  rcases List.mem_cons.1 hx with rfl|hx
  · exact hl
  · rw [List.mem_singleton.1 hx];exact hh
 obtain ⟨V,hV⟩:∃ V,V=lnV low high rest den:=⟨_,rfl⟩;have hV':fvW low*((den-rest:Nat):Int)+fvW high*(rest:Int)=V:=hV.symm;rw [hV'] at ea Fq hsg
 have:=line_core16 low high at0 rest den (den-rest) mode _ _ _ _ F1 F2 Fq Fd (sgn (dN (gV 1074 V)) (dX (gV 1074 V))) (sS [low,high]).n (sS [low,high]).u (sS [low,high]).d (sS [low,high]).m (sS [low,high]).p (sS [low,high]).a (qR16 (gV 1074 V) (gV 0 (den:Int)) mode).1 (nt (snd (sS [low,high]).n (sS [low,high]).u (sS [low,high]).d (sS [low,high]).m (sS [low,high]).p (sS [low,high]).a) (sS [low,high]).n (sS [low,high]).u (sS [low,high]).d (sS [low,high]).m (sS [low,high]).p (sS [low,high]).a mode) (qR16 (gV 1074 V) (gV 0 (den:Int)) mode).2 w hT (wrapZ (by omega) (by omega))
  (fun u hT=>times16 low (den-rest) hl fl (by omega) u hT) (fun u hT=>times16 high rest hh fh (by omega) u hT)
  (fun u a b c d hT N1 N2=>addP12' F1 F2 N1 N2 hT ea Fq)
  (fun u a c N=>by
   have:=Sign_any3 (Fq.a12 N) (dN (gV 1074 V)) (dE (gV 1074 V));rw [val_ws] at this;exact this)
  plain16
  (fun u b hF=>(Sift13 [low,high] _ 2 2 0 0 u rfl (by decide) hF hW2).mono (fun r w' h=>by
   obtain ⟨h1,h2⟩:=h;refine ⟨?_,h2⟩
   have e0:sfE 0 0 [low,high]=0:=by
    unfold sfE Ps.rf;rw [if_neg (by decide),if_neg (by simp),if_neg (by omega),if_neg (by omega)]
   rcases h1 with ⟨h1,_⟩|⟨_,a',c',rfl,_⟩
   · exact absurd e0 h1
   · exact ⟨_,rfl⟩))
  (fun u=>Nought_any _ _ _ _ _ _ _ u)
  (fun u hT=>(Int_any (den:Nat) u hT (by omega) (by omega)).mono (fun r w' h=>h))
  (fun u a b c d hT N1 N2=>Quot11 (w:=u) (n:=dN (gV 1074 V)) (m:=dN (gV 0 (den:Int))) (X:=dX (gV 1074 V)) (Y:=dX (gV 0 (den:Int))) (e:=dE (gV 1074 V)) (f:=dE (gV 0 (den:Int))) mode ⟨N1.av (Nat.le_trans Fq.len (by decide)),N2.av (Nat.le_trans Fd.len (by decide)),Fq.rng,Fd.rng⟩ hT)
 have e1:(if sgn (dN (gV 1074 V)) (dX (gV 1074 V))=0 then (nt (snd (sS [low,high]).n (sS [low,high]).u (sS [low,high]).d (sS [low,high]).m (sS [low,high]).p (sS [low,high]).a) (sS [low,high]).n (sS [low,high]).u (sS [low,high]).d (sS [low,high]).m (sS [low,high]).p (sS [low,high]).a mode) else (qR16 (gV 1074 V) (gV 0 (den:Int)) mode).1)=lnR low high rest den mode:=by
  unfold lnR;rw [←hV]
  have:sgn (dN (gV 1074 V)) (dX (gV 1074 V))=0↔V=0:=by
   rw [←hsg];unfold sgn
   by_cases h:dX (gV 1074 V)=0
   · rw [if_pos h];exact ⟨fun _=>h,fun _=>rfl⟩
   · rw [if_neg h]
     exact ⟨fun e=>by split at e <;> omega,fun e=>absurd e h⟩
  by_cases h:V=0
  · rw [if_pos (this.2 h),if_pos h]
  · rw [if_neg (fun e=>h (this.1 e)),if_neg h]
 rw [e1] at this;exact this
end
section
open Go.RowKit J
theorem placeOf16 (n num den:Nat) (hn:1≤n) (hn2:n≤65536) (hnum:num≤den) (hd1:1≤den) (hd:den≤2147483648) (w:World) :
 Calls Tryz.prog 99 #[.int .i64 (n:Nat),.int .i64 (num:Nat),.int .i64 (den:Nat)] w fun r w'=>r=.returned (.agg #[.int .i64 (((n-1)*num/den:Nat):Int),.int .i64 (((n-1)*num%den:Nat):Int),.int .i64 (den:Nat)])∧Below w.heap.size w w':=by
 obtain ⟨n1,hn1⟩:∃ x,x=n-1:=⟨_,rfl⟩;obtain ⟨s,hs⟩:∃ x,x=n1*num:=⟨_,rfl⟩;have hsb:s≤65535*2147483648:=by rw [hs];exact Nat.mul_le_mul (by omega) (by omega)
 rw [←hn1,←hs];obtain ⟨q,hq⟩:∃ x,x=s/den:=⟨_,rfl⟩;obtain ⟨m,hm⟩:∃ x,x=s%den:=⟨_,rfl⟩;rw [←hq,←hm];have hqb:q≤s:=by rw [hq];exact Nat.div_le_self _ _
 have w1:IntKind.i64.wrap ((n:Int)-1)=(n1:Int):=wrapZ (by omega) (by omega)
 have w2:IntKind.i64.wrap ((n1:Int)*(num:Int))=(s:Int):=wrapZ (by rw [hs];simp) (by omega)
 have w3:Int.tdiv (s:Int) (den:Int)=(q:Int):=by rw [hq];rfl
 have w4:Int.tmod (s:Int) (den:Int)=(m:Int):=by rw [hm];rfl
 have w5:IntKind.i64.wrap (q:Int)=(q:Int):=wrapZ rfl (by omega)
 have w6:IntKind.i64.wrap (m:Int)=(m:Int):=wrapZ rfl (by have:=Nat.mod_lt s (show 0<den by omega);omega)
 have w7:((den:Int)==0)=false:=by simp;omega
 have w8:¬ (den:Int)=0:=by omega
 have w9:¬ den=0:=by omega
 have HQ:=(qsd (ai hn1 (ai hs (ai hq hm))));clear hn1 hs hq hm;go_enter Tryz.func99,Tryz.ntmps99
 go_upto_region 2 with fail
 go_region
 all_goals
  go_wp2;refine bodyPost_ret (v:=.agg #[.int .i64 (q:Nat),.int .i64 (m:Nat),.int .i64 (den:Nat)]) (by simp [results,Tryz.results99,go_sem]) rfl ?_
  exact ⟨rfl,by first | exact (below_alloc _ _).drew | exact below_alloc _ _ | exact ((((below_alloc _ _).drew).setCell (Nat.le_refl _) _).setCell (Nat.le_refl _) _).setCell (Nat.le_refl _) _⟩
end
section
open Go.RowKit J
def nrP (at0 rest den:Nat):Nat:=if den<2*rest∨2*rest=den∧at0%2=1 then at0+1 else at0
theorem near16 (at0 rest den:Nat) (ha:at0≤65536) (hr:rest≤2147483648) (hd:den≤2147483648) (w:World) :
 Calls Tryz.prog 100 #[.agg #[.int .i64 (at0:Nat),.int .i64 (rest:Nat),.int .i64 (den:Nat)]] w fun r w'=>r=.returned (.int .i64 (nrP at0 rest den:Nat))∧Below w.heap.size w w':=by
 obtain ⟨t,ht⟩:∃ x,x=2*rest:=⟨_,rfl⟩;obtain ⟨a1,ha1⟩:∃ x,x=at0+1:=⟨_,rfl⟩;obtain ⟨m,hm⟩:∃ x,x=at0%2:=⟨_,rfl⟩;obtain ⟨z,hz⟩:∃ x,x=nrP at0 rest den:=⟨_,rfl⟩;rw [←hz];unfold nrP at hz;rw [←ht,←ha1,←hm] at hz;have w1:IntKind.i64.wrap (2*(rest:Int))=(t:Int):=wrapZ (by omega) (by omega)
 have w2:IntKind.i64.wrap ((at0:Int)+1)=(a1:Int):=wrapZ (by omega) (by omega)
 have w3:Int.tmod (at0:Int) 2=(m:Int):=by rw [hm];rfl
 have w4:IntKind.i64.wrap (m:Int)=(m:Int):=wrapZ rfl (by omega)
 have HQ:=(qsd (ai ht (ai ha1 hm)));clear ht ha1 hm
 by_cases h1:den<t
 · have d1:decide ((den:Int)<(t:Int))=true:=by simp;omega
   rw [if_pos (.inl h1)] at hz;subst hz;go_enter Tryz.func100,Tryz.ntmps100;go_wp2;go_ret;exact ⟨rfl,below_alloc _ _⟩
 · have d1:decide ((den:Int)<(t:Int))=false:=by simp;omega
   by_cases h2:t=den
   · have d2:((t:Int)==(den:Int))=true:=by simp;omega
     by_cases h3:m=1
     · rw [if_pos (.inr ⟨h2,h3⟩)] at hz
       subst hz h3 h2;go_enter Tryz.func100,Tryz.ntmps100;go_wp2;go_ret;exact ⟨rfl,below_alloc _ _⟩
     · rw [if_neg (by omega)] at hz
       have d3:((m:Int)==1)=false:=by simp;omega
       have d4:decide ((m:Int)=1)=false:=by simp;omega
       subst hz h2;go_enter Tryz.func100,Tryz.ntmps100;go_wp2;go_ret;exact ⟨rfl,below_alloc _ _⟩
   · rw [if_neg (by omega)] at hz
     have d2:((t:Int)==(den:Int))=false:=by simp;omega
     have d3:decide ((t:Int)=(den:Int))=false:=by simp;omega
     subst hz;go_enter Tryz.func100,Tryz.ntmps100;go_wp2;go_ret;exact ⟨rfl,below_alloc _ _⟩
noncomputable def telR (ys:List Nat) (num den:Nat) (rule mode:Int):Nat :=
 let s:=(ys.length-1)*num
 if s%den=0 then ys.getD (s/den) 0 else if rule=0 then ys.getD (s/den) 0 else if rule=1 then ys.getD (s/den+1) 0 else if rule=2 then ys.getD (nrP (s/den) (s%den) den) 0
 else if rule=3 then (midR (ys.getD (s/den) 0) (ys.getD (s/den+1) 0) mode).1 else lnR (ys.getD (s/den) 0) (ys.getD (s/den+1) 0) (s%den) den mode
theorem tell16 (ys:List Nat) (b:Nat) (n cap num den:Nat) (rule mode:Int) (w:World) (hT:Tab w) (hF:Fs w.heap.size w (some ⟨b,0,none⟩) ys) (hn:n=ys.length) (hn1:1≤n) (hn2:n≤65536) (hW:W64 ys) (hf:∀ x ∈ ys,finW x) (hnum:num≤den) (hd1:1≤den) (hd:den≤2147483648) (hr0:0≤rule) (hr4:rule≤4) :
 Calls Tryz.prog 74 #[.slice (some ⟨b,0,none⟩) n cap,.int .i64 (num:Nat),.int .i64 (den:Nat),.int .i64 rule,.int .i64 mode] w fun r w'=>r=.returned (.float .f64 (telR ys num den rule mode))∧Below w.heap.size w w':=by
 have C:=hid (placeOf16 n num den hn1 hn2 hnum hd1 hd w);obtain ⟨zz,hzz⟩:∃ x,x=telR ys num den rule mode:=⟨_,rfl⟩;rw [←hzz];unfold telR at hzz;simp only [←hn] at hzz;obtain ⟨s,hs⟩:∃ x,x=(n-1)*num:=⟨_,rfl⟩;rw [←hs] at C hzz;have hsb:s≤(n-1)*den:=by rw [hs];exact Nat.mul_le_mul_left _ hnum
 obtain ⟨q,hq⟩:∃ x,x=s/den:=⟨_,rfl⟩;obtain ⟨m,hm⟩:∃ x,x=s%den:=⟨_,rfl⟩;rw [←hq,←hm] at C hzz;have hdm:den*q+m=s:=by rw [hq,hm];exact Nat.div_add_mod _ _
 have hml:m<den:=by rw [hm];exact Nat.mod_lt _ (by omega)
 have hqn:q<n:=by
  have:q≤n-1:=by
   rw [hq];exact Nat.div_le_of_le_mul (by rw [Nat.mul_comm];exact hsb)
  omega
 have hq1:m≠0→q+1<n:=fun h0=>by
  have h1:den*q<(n-1)*den:=by omega
  rw [Nat.mul_comm] at h1;have:=Nat.lt_of_mul_lt_mul_right h1;omega
 have hmem:∀ i,i<n→ys.getD i 0<18446744073709551616∧finW (ys.getD i 0):=fun i hi=>⟨hW _ (getD_mem15 (by omega)),hf _ (getD_mem15 (by omega))⟩
 have HY:=(qsd (ai hF (ai hn (ai hT hmem))));have HZ:=qsd hzz;have HE:=(qsd (ai hs (ai hsb (ai hq (ai hm hdm)))));clear hF hT hmem hzz hs hsb hq hm hdm hW hf hn;go_enter Tryz.func74,Tryz.ntmps74
 go_wp2_with fail
 refine C.out.mono ?_;rintro r v0 ⟨rfl,hb⟩;obtain ⟨V,hV⟩:∃ V,V=v0.alloc (Obj.cells #[.int .i64 (q:Nat),.int .i64 (m:Nat),.int .i64 (den:Nat)] 140):=⟨_,rfl⟩;obtain ⟨g,hg⟩:∃ g,g=v0.heap.size:=⟨_,rfl⟩;have hbV:Below w.heap.size w V:=by rw [hV];exact hb.trans ((below_alloc _ _).mono hb.size)
 have p0:V.cell? ⟨g,0,none⟩=some (.int .i64 (q:Nat)):=by rw [hV,hg,World.cell?_alloc_new];rfl
 have p1:V.cell? ⟨g,1,none⟩=some (.int .i64 (m:Nat)):=by rw [hV,hg,World.cell?_alloc_new];rfl
 have p2:V.cell? ⟨g,2,none⟩=some (.int .i64 (den:Nat)):=by rw [hV,hg,World.cell?_alloc_new];rfl
 have HV:=(qsd (ai hV hg));have HB:=qsd hbV;clear C hb hV hg hbV;have bq:(q:Int)<(n:Int):=by omega
 have cell:∀ i,i<n→V.cell? ⟨b,i,none⟩=some (.float .f64 (ys.getD i 0)):=fun i hi=>by
  obtain ⟨b',off,e,c⟩:=HY.out.1.at HB.out i (by have:=HY.out.2.1;omega)
  cases e
  rw [Nat.zero_add] at c;exact c
 have HC:=qsd cell;clear cell
 go_upto_region 2 with fail
 rw [←HV.out.1,←HV.out.2];clear HV
 by_cases h0:m=0
 · replace HZ:Aside (zz=ys.getD q 0):=qsd (by rw [HZ.out,if_pos h0])
   have c0:=HC.out q hqn;obtain ⟨x,hx⟩:∃ x,x=ys.getD q 0:=⟨_,rfl⟩;rw [←hx] at c0 HZ;subst h0;clear hx;go_wp2;go_ret;exact ⟨by rw [HZ.out];rfl,HB.out⟩
 · have d0:((m:Int)==0)=false:=by simp;omega
   have d1:decide ((m:Int)=0)=false:=by simp;omega
   have hq2:=hq1 h0;obtain ⟨q1,hq1'⟩:∃ x,x=q+1:=⟨_,rfl⟩;have wq:IntKind.i64.wrap ((q:Int)+1)=(q1:Int):=wrapZ (by omega) (by omega)
   have bq1:(q1:Int)<(n:Int):=by omega
   have bq1':q1<n:=by omega
   have c0:=HC.out q hqn;have c1:=HC.out q1 bq1';obtain ⟨f0,g0⟩:=HY.out.2.2.2 q hqn;obtain ⟨f1,g1⟩:=HY.out.2.2.2 q1 bq1';replace HZ:Aside (zz=if rule=0 then ys.getD q 0 else if rule=1 then ys.getD q1 0 else if rule=2 then ys.getD (nrP q m den) 0 else if rule=3 then (midR (ys.getD q 0) (ys.getD q1 0) mode).1 else lnR (ys.getD q 0) (ys.getD q1 0) m den mode):=qsd (by rw [HZ.out,if_neg h0,hq1'])
   obtain ⟨x,hx⟩:∃ x,x=ys.getD q 0:=⟨_,rfl⟩;obtain ⟨y,hy⟩:∃ y,y=ys.getD q1 0:=⟨_,rfl⟩;rw [←hx] at c0 f0 g0 HZ;rw [←hy] at c1 f1 g1 HZ;have HXY:=(qsd (ai f0 (ai g0 (ai f1 (ai g1 hq1')))));clear hx hy f0 g0 f1 g1 hq1'
   go_upto_region 4 with fail
   go_cut [12,13] from 29 to 39 (fun lv hv wx=>lv=.float .f64 x∧hv=.float .f64 y∧wx=V.drew)
   case first =>
    go_region
    all_goals
     go_wp2_with fail
     go_meet
     case rel=>exact ⟨rfl,rfl,rfl⟩
   obtain ⟨rfl,rfl,hwc⟩:=hcut;obtain ⟨U,hU⟩:∃ U,U=V.drew:=⟨_,rfl⟩;rw [hwc,←hU]
   have HU:Aside (Below w.heap.size w U∧(∀ i,i<n→U.cell? ⟨b,i,none⟩=some (.float .f64 (ys.getD i 0)))):=by
    rw [hU];exact ⟨HB.out.drew,HC.out⟩
   have r0:U.cell? ⟨g,0,none⟩=some (.int .i64 (q:Nat)):=by rw [hU];exact p0
   have r1:U.cell? ⟨g,1,none⟩=some (.int .i64 (m:Nat)):=by rw [hU];exact p1
   have r2:U.cell? ⟨g,2,none⟩=some (.int .i64 (den:Nat)):=by rw [hU];exact p2
   clear hwc hU p0 p1 p2 c0 c1 HC HB;have hr:rule=0∨rule=1∨rule=2∨rule=3∨rule=4:=by omega
   rcases hr with rfl|rfl|rfl|rfl|rfl
   · replace HZ:Aside (zz=x):=qsd (by rw [HZ.out,if_pos rfl])
     go_wp2;go_ret;exact ⟨by rw [HZ.out];rfl,HU.out.1⟩
   · replace HZ:Aside (zz=y):=qsd (by rw [HZ.out,if_neg (by decide),if_pos rfl])
     go_wp2;go_ret;exact ⟨by rw [HZ.out];rfl,HU.out.1⟩
   · have C:=hid (near16 q m den (by omega) (by omega) hd U)
     have hk:nrP q m den<n:=by unfold nrP;have:=HXY.out.2.2.2.2;split <;> omega
     obtain ⟨k,hkk⟩:∃ k,k=nrP q m den:=⟨_,rfl⟩;rw [←hkk] at C hk;replace HZ:Aside (zz=ys.getD k 0):=qsd (by rw [HZ.out,if_neg (by decide),if_neg (by decide),if_pos rfl,hkk])
     have bk:(k:Int)<(n:Int):=by omega
     clear hkk
     go_wp2_with fail
     refine C.out.mono ?_;rintro r v ⟨rfl,hb⟩;have ck:v.cell? ⟨b,k,none⟩=some (.float .f64 (ys.getD k 0)):=(hb.cell (p:=⟨b,k,none⟩) (lt_of_cell15 (HU.out.2 k hk))).trans (HU.out.2 k hk);have HR:=qsd (HU.out.1.trans (hb.mono HU.out.1.size));obtain ⟨e,he⟩:∃ e,e=ys.getD k 0:=⟨_,rfl⟩;rw [←he] at ck HZ;clear C hb he;go_wp2;go_ret;exact ⟨by rw [HZ.out];rfl,HR.out⟩
   · have C:=hid (Middle13 x y HXY.out.1 HXY.out.2.2.1 mode U (HY.out.2.2.1.belows HU.out.1) (midR x y mode) rfl)
     obtain ⟨⟨e1,e2⟩,hmd⟩:∃ z,midR x y mode=z:=⟨_,rfl⟩;rw [hmd] at C HZ;replace HZ:Aside (zz=e1):=qsd (by rw [HZ.out,if_neg (by decide),if_neg (by decide),if_neg (by decide),if_pos rfl])
     clear hmd
     go_wp2_with fail
     refine C.out.mono ?_;rintro r v ⟨rfl,hb⟩;have HR:=qsd (HU.out.1.trans (hb.mono HU.out.1.size));clear C hb;go_wp2;go_ret;exact ⟨by rw [HZ.out];rfl,HR.out⟩
   · have C:=hid (line16 x y q m den mode HXY.out.1 HXY.out.2.1 HXY.out.2.2.1 HXY.out.2.2.2.1 (by omega) hd U (HY.out.2.2.1.belows HU.out.1))
     replace HZ:Aside (zz=lnR x y m den mode):=qsd (by rw [HZ.out,if_neg (by decide),if_neg (by decide),if_neg (by decide),if_neg (by decide)])
     obtain ⟨e,he⟩:∃ e,e=lnR x y m den mode:=⟨_,rfl⟩;rw [←he] at C HZ;clear he
     go_wp2_with fail
     refine C.out.mono ?_;rintro r v ⟨rfl,hb⟩;have HR:=qsd (HU.out.1.trans (hb.mono HU.out.1.size));clear C hb;go_wp2;go_ret;exact ⟨by rw [HZ.out];rfl,HR.out⟩
end
section
open Go.RowKit J
theorem amE_fin {xs:List Nat}{odd:Bool}(h:amE xs odd=0):odd=false∧xs.length≤65536∧xs≠[]∧∀ x ∈ xs,finW x:=by
 unfold amE at h
 by_cases h1:65536<xs.length
 · rw [if_pos h1] at h;omega
 · rw [if_neg h1] at h
   by_cases h2:(odd || xs.any byB)=true
   · rw [if_pos h2] at h;omega
   · rw [if_neg h2] at h
     by_cases h3:xs.length=0
     · rw [if_pos h3] at h;omega
     · rw [Bool.or_eq_true,not_or] at h2
       refine ⟨by simpa using h2.1,by omega,fun e=>by rw [e] at h3;exact h3 rfl,fun x hx=>?_⟩
       have:=h2.2;rw [List.any_eq_true] at this
       rcases Nat.lt_or_ge (magW x) 9218868437227405312 with q|q
       · exact q
       · exact absurd ⟨x,hx,by unfold byB;exact decide_eq_true q⟩ this
theorem nrm_fin {x:Nat}(h:finW x):nrm x=x:=by
 unfold nrm nanW;have:magW x=x%9223372036854775808:=rfl;rw [if_neg (by rw [decide_eq_true_eq];have:=h;unfold finW magW at this;omega)]
theorem sortL_mem {xs:List Nat}(hf:∀ x ∈ xs,finW x):∀ x ∈ sortL xs,x ∈ xs:=fun x hx=>by
 unfold sortL at hx;obtain ⟨i,hi,rfl⟩:=List.mem_map.1 hx;have hl:=rowL_mem.1 hi;have hm:xs.getD i 0 ∈ xs:=getD_mem15 hl;rw [nrm_fin (hf _ hm)];exact hm
noncomputable def quR (xs:List Nat) (num den rule mode:Int):Nat×Int :=
 if knB rule mode=false∨den<1∨2147483648<den∨num<0∨den<num then (0,1) else if amE xs false=0 then (telR (sortL xs) num.toNat den.toNat rule mode,0) else (0,amE xs false)
theorem Quantile16 (xs:List Nat) (ao:Option Addr) (n cap:Nat) (num den rule mode:Int) (w:World) (hT:Tab w) (hF:Fs w.heap.size w ao xs) (hn:n=xs.length) (hb:n≤17592186044416) (hW:W64 xs) (z:Nat×Int) (hz:quR xs num den rule mode=z) :
 Calls Tryz.prog 37 #[.slice ao n cap,.int .i64 num,.int .i64 den,.int .i64 rule,.int .i64 mode] w fun r w'=>r=.returned (.tuple #[.float .f64 z.1,.int .i64 z.2])∧Below w.heap.size w w':=by
 obtain ⟨z1,z2⟩:=z;simp only;have CK:=hid (known16 rule mode w);unfold quR at hz
 have hkn:knB rule mode=true→0≤rule∧rule≤4:=fun h=>by
  unfold knB at h;have:=of_decide_eq_true h;exact ⟨this.1,this.2.1⟩
 obtain ⟨kb,hkb⟩:∃ k,k=knB rule mode:=⟨_,rfl⟩;rw [←hkb] at CK hz hkn;have HY:=(qsd (ai hF (ai hn (ai hT (ai hW hkn)))));clear hF hn hT hW hkn hkb;have CA:Hid (∀ u:World,Below w.heap.size w u→Calls Tryz.prog 73 #[.slice ao n cap,.bool false] u fun r w'=>r=.returned (.int .i64 (amE xs false))∧Below u.heap.size u w'):=fun u hu=>amiss16 xs false ao n cap u ((HY.out.1.below hu).mono hu.size) HY.out.2.1 hb HY.out.2.2.2.1
 cases kb
 · rw [if_pos (.inl rfl)] at hz
   obtain ⟨rfl,rfl⟩:=Prod.mk.inj hz;go_enter Tryz.func37,Tryz.ntmps37
   go_wp2_with fail
   refine CK.out.mono ?_;rintro r v ⟨rfl,rfl⟩;go_wp2;refine bodyPost_ret (v:=.tuple #[.float .f64 0,.int .i64 1]) (by simp [results,Tryz.results37,go_sem]) rfl ?_
   exact ⟨rfl,Below.refl _ _⟩
 · by_cases h1:den<1
   · have d1:decide (den<1)=true:=by simp [h1]
     rw [if_pos (.inr (.inl h1))] at hz;obtain ⟨rfl,rfl⟩:=Prod.mk.inj hz;go_enter Tryz.func37,Tryz.ntmps37
     go_wp2_with fail
     refine CK.out.mono ?_;rintro r v ⟨rfl,rfl⟩;go_wp2;refine bodyPost_ret (v:=.tuple #[.float .f64 0,.int .i64 1]) (by simp [results,Tryz.results37,go_sem]) rfl ?_
     exact ⟨rfl,Below.refl _ _⟩
   · have d1:decide (den<1)=false:=by simp;omega
     by_cases h2:2147483648<den
     · have d2:decide (2147483648<den)=true:=by simp [h2]
       rw [if_pos (.inr (.inr (.inl h2)))] at hz;obtain ⟨rfl,rfl⟩:=Prod.mk.inj hz;go_enter Tryz.func37,Tryz.ntmps37
       go_wp2_with fail
       refine CK.out.mono ?_;rintro r v ⟨rfl,rfl⟩;go_wp2;refine bodyPost_ret (v:=.tuple #[.float .f64 0,.int .i64 1]) (by simp [results,Tryz.results37,go_sem]) rfl ?_
       exact ⟨rfl,Below.refl _ _⟩
     · have d2:decide (2147483648<den)=false:=by simp;omega
       by_cases h3:num<0
       · have d3:decide (num<0)=true:=by simp [h3]
         rw [if_pos (.inr (.inr (.inr (.inl h3))))] at hz;obtain ⟨rfl,rfl⟩:=Prod.mk.inj hz;go_enter Tryz.func37,Tryz.ntmps37
         go_wp2_with fail
         refine CK.out.mono ?_;rintro r v ⟨rfl,rfl⟩;go_wp2;refine bodyPost_ret (v:=.tuple #[.float .f64 0,.int .i64 1]) (by simp [results,Tryz.results37,go_sem]) rfl ?_
         exact ⟨rfl,Below.refl _ _⟩
       · have d3:decide (num<0)=false:=by simp;omega
         by_cases h4:den<num
         · have d4:decide (den<num)=true:=by simp [h4]
           rw [if_pos (.inr (.inr (.inr (.inr h4))))] at hz;obtain ⟨rfl,rfl⟩:=Prod.mk.inj hz;go_enter Tryz.func37,Tryz.ntmps37
           go_wp2_with fail
           refine CK.out.mono ?_;rintro r v ⟨rfl,rfl⟩;go_wp2;refine bodyPost_ret (v:=.tuple #[.float .f64 0,.int .i64 1]) (by simp [results,Tryz.results37,go_sem]) rfl ?_
           exact ⟨rfl,Below.refl _ _⟩
         · have d4:decide (den<num)=false:=by simp;omega
           rw [if_neg (by rintro (h | h | h | h | h) <;> first | exact absurd h (by decide) | omega)] at hz
           obtain ⟨dn,hdn⟩:∃ k:Nat,den=(k:Int):=⟨den.toNat,by omega⟩
           obtain ⟨nm,hnm⟩:∃ k:Nat,num=(k:Int):=⟨num.toNat,by omega⟩
           subst hdn hnm;rw [Int.toNat_natCast,Int.toNat_natCast] at hz;have hd1:1≤dn:=by omega
           have hd2:dn≤2147483648:=by omega
           have hnd:nm≤dn:=by omega
           have hfin:amE xs false=0→_:=amE_fin (xs:=xs) (odd:=false);obtain ⟨e,he⟩:∃ e,e=amE xs false:=⟨_,rfl⟩;rw [←he] at CA hz hfin;have HE:=qsd hfin;clear hfin he
           by_cases h5:e=0
           · subst h5
             rw [if_pos rfl] at hz;obtain ⟨hz1,rfl⟩:=Prod.mk.inj hz;have HZ:=qsd hz1;clear hz hz1;go_enter Tryz.func37,Tryz.ntmps37
             go_wp2_with fail
             refine CK.out.mono ?_;rintro r v ⟨rfl,rfl⟩;have C:=hid (CA.out v (Below.refl _ _))
             go_wp2_with fail
             refine C.out.mono ?_;rintro r v2 ⟨rfl,hb2⟩;have HB:=qsd hb2;have C:=hid (Sort15 xs ao n cap v2 ((HY.out.1.below hb2).mono hb2.size) HY.out.2.1 hb HY.out.2.2.2.1);clear hb2
             go_wp2_with fail
             refine C.out.mono ?_;rintro r v3 ⟨rfl,hO,hb3⟩;have hb4:=HB.out.trans (hb3.mono HB.out.size);have hl:=sortL_len xs;obtain ⟨_,e2,e3,e4⟩:=HE.out (by first|rfl|trivial)
             have hFs:Fs v3.heap.size v3 (some ⟨v2.heap.size,0,none⟩) (sortL xs):=by
              have:=hO.fs hO.lt n;rw [List.take_of_length_le (by have:=HY.out.2.1;omega)] at this
              exact this
             have hpos:0<xs.length:=List.length_pos_iff.2 e3;have C:=hid (tell16 (sortL xs) v2.heap.size n n nm dn rule mode v3 (HY.out.2.2.1.belows hb4) hFs (by have:=HY.out.2.1;omega) (by have:=HY.out.2.1;omega) (by have:=HY.out.2.1;omega) (fun x hx=>HY.out.2.2.2.1 x (sortL_mem e4 x hx)) (fun x hx=>e4 x (sortL_mem e4 x hx)) hnd hd1 hd2 (HY.out.2.2.2.2 (by first | rfl | trivial)).1 (HY.out.2.2.2.2 (by first | rfl | trivial)).2)
             rw [HZ.out] at C;have HB4:=qsd hb4;clear hO hb3 hb4 hl e2 e3 e4 hFs hpos
             go_wp2_with fail
             refine C.out.mono ?_;rintro r v4 ⟨rfl,hb5⟩;have HR:=qsd (HB4.out.trans (hb5.mono HB4.out.size));clear C hb5;go_wp2;refine bodyPost_ret (v:=.tuple #[.float .f64 z1,.int .i64 0]) (by simp [results,Tryz.results37,go_sem]) rfl ?_
             exact ⟨rfl,HR.out⟩
           · rw [if_neg h5] at hz
             obtain ⟨rfl,rfl⟩:=Prod.mk.inj hz;have k1:(e==0)=false:=by simp [h5]
             have k2:(e != 0)=true:=by simp [h5]
             have k3:decide (e=0)=false:=by simp [h5]
             go_enter Tryz.func37,Tryz.ntmps37
             go_wp2_with fail
             refine CK.out.mono ?_;rintro r v ⟨rfl,rfl⟩;have C:=hid (CA.out v (Below.refl _ _))
             go_wp2_with fail
             refine C.out.mono ?_;rintro r v2 ⟨rfl,hb2⟩;have HR:=qsd hb2;clear C hb2;go_wp2;refine bodyPost_ret (v:=.tuple #[.float .f64 0,.int .i64 e]) (by simp [results,Tryz.results37,go_sem]) rfl ?_
             exact ⟨rfl,HR.out⟩
end
section
open Go.RowKit J
def kW (x:Nat):Int:=if negW x then -1-(magW x:Int) else magW x
theorem kW_inj {x y:Nat}(hx:x<18446744073709551616) (hy:y<18446744073709551616) (h:kW x=kW y):x=y:=by
 unfold kW negW magW at h
 by_cases a:9223372036854775808≤x <;> by_cases b:9223372036854775808≤y <;> simp only [a,b,decide_true,decide_false,if_true,Bool.false_eq_true,if_false] at h <;> omega
def leK (x y:Nat):Bool:=decide (kW x≤kW y)
end
section
open Go Go.RowKit J
theorem tk_kW {x:Nat}(fx:finW x):tk x=kW x:=by
 unfold tk kW;rw [if_neg (by unfold finW at fx;omega)]
theorem map_range16 (xs:List Nat):(List.range xs.length).map (fun i=>xs.getD i 0)=xs:=by
 refine List.ext_getElem (by simp) fun i h1 h2=>?_
 simp [List.getD_eq_getElem?_getD,h2]
theorem sortL_map {xs:List Nat}(hf:∀ x ∈ xs,finW x):sortL xs=(rowL xs).map (fun i=>xs.getD i 0):=by
 unfold sortL;refine List.map_congr_left fun i hi=>nrm_fin (hf _ (getD_mem15 (rowL_mem.1 hi)))
theorem sortL_perm16 {xs:List Nat}(hf:∀ x ∈ xs,finW x):(sortL xs).Perm xs:=by
 rw [sortL_map hf];have:=(rowL_perm xs).map (fun i=>xs.getD i 0)
 rw [map_range16] at this;exact this
theorem sortL_up {xs:List Nat}(hf:∀ x ∈ xs,finW x):(sortL xs).Pairwise (fun a b=>leK a b=true):=by
 rw [sortL_map hf,List.pairwise_map];have h:=rowI_sorted xs (List.range xs.length);refine List.Pairwise.imp_of_mem ?_ (show (rowL xs).Pairwise _ from h)
 intro a b ha hb hab;have fa:=hf _ (getD_mem15 (rowL_mem.1 ha));have fb:=hf _ (getD_mem15 (rowL_mem.1 hb));unfold leI at hab;have:=of_decide_eq_true hab;unfold leK;rw [decide_eq_true_eq,←tk_kW fa,←tk_kW fb];omega
theorem sort_uniq16 {l m:List Nat}(hW:W64 l) (hp:l.Perm m) (h1:l.Pairwise (fun a b=>leK a b=true)) (h2:m.Pairwise (fun a b=>leK a b=true)):l=m:=by
 refine List.Perm.eq_of_pairwise (le:=fun a b=>leK a b=true) (fun a b ha hb q1 q2=>?_) h1 h2 hp
 have ha':=hW a ha;have hb':=hW b (hp.mem_iff.2 hb);unfold leK at q1 q2;have:=of_decide_eq_true q1;have:=of_decide_eq_true q2;exact kW_inj ha' hb' (by omega)
theorem sortL_any {xs ys:List Nat}(hW:W64 xs) (hf:∀ x ∈ xs,finW x) (hp:xs.Perm ys):sortL xs=sortL ys:=by
 have hf':∀ y ∈ ys,finW y:=fun y hy=>hf y (hp.mem_iff.2 hy)
 exact sort_uniq16 (fun x hx=>hW x (sortL_mem hf x hx)) (((sortL_perm16 hf).trans hp).trans (sortL_perm16 hf').symm) (sortL_up hf) (sortL_up hf')
theorem amE_any {xs ys:List Nat}(odd:Bool) (hp:xs.Perm ys):amE xs odd=amE ys odd:=by
 have h:xs.any byB=ys.any byB:=by
  rw [Bool.eq_iff_iff,List.any_eq_true,List.any_eq_true];exact ⟨fun ⟨x,h1,h2⟩=>⟨x,hp.mem_iff.1 h1,h2⟩,fun ⟨x,h1,h2⟩=>⟨x,hp.mem_iff.2 h1,h2⟩⟩
 unfold amE;rw [hp.length_eq,h]
theorem quR_any {xs ys:List Nat}(hW:W64 xs) (hp:xs.Perm ys) (num den rule mode:Int):quR xs num den rule mode=quR ys num den rule mode:=by
 unfold quR;rw [amE_any false hp]
 by_cases h:amE ys false=0
 · have hf:=(amE_fin (by rw [amE_any false hp];exact h:amE xs false=0)).2.2.2
   rw [sortL_any hW hf hp]
 · rw [if_neg h,if_neg h]
end
section
open Go.RowKit J
def leF (x y:Nat):Bool:=FloatKind.f64.format.order y x==some Ordering.lt || FloatKind.f64.format.order y x==some Ordering.eq
def cntS (xs:List Nat) (x:Nat):Nat:=xs.countP (leF x)
theorem cntS_take {xs:List Nat}{x k:Nat}(h:k<xs.length):cntS (xs.take (k+1)) x=cntS (xs.take k) x+(leF x (xs.getD k 0)).toNat:=by
 unfold cntS;rw [List.take_add_one,List.getElem?_eq_getElem h,List.countP_append,List.getD_eq_getElem?_getD,List.getElem?_eq_getElem h]
 simp only [Option.toList,List.countP_cons,List.countP_nil,Option.getD_some]
 cases leF x xs[k] <;> rfl
theorem cntS_le (xs:List Nat) (x:Nat):cntS xs x≤xs.length:=List.countP_le_length
theorem Share16 (xs:List Nat) (x:Nat) (ao:Option Addr) (n cap:Nat) (w:World) (hx:x<18446744073709551616) (hF:Fs w.heap.size w ao xs) (hn:n=xs.length) (hb:n≤17592186044416) (hW:W64 xs) :
 Calls Tryz.prog 70 #[.slice ao n cap,.float .f64 x] w fun r w'=>r=.returned (.tuple #[.int .i64 (if amE xs (nanW x)=0 then (cntS xs x:Int) else 0),.int .i64 (if amE xs (nanW x)=0 then (xs.length:Int) else 0),.int .i64 (amE xs (nanW x))])∧Below w.heap.size w w':=by
 have CN:=hid (isNaN_w x hx w);have CA:=hid (amiss16 xs (nanW x) ao n cap w hF hn hb hW);obtain ⟨e,he⟩:∃ e,e=amE xs (nanW x):=⟨_,rfl⟩;rw [←he] at CA ⊢;rw [←hn];obtain ⟨nb,hnb⟩:∃ b,b=nanW x:=⟨_,rfl⟩;rw [←hnb] at CN CA;have HY:=(qsd (ai hF hn));clear hF hn hW he hnb hx
 by_cases h0:e=0
 · subst h0
   rw [if_pos rfl,if_pos rfl];go_enter Tryz.func70,Tryz.ntmps70
   go_wp2_with fail
   refine CN.out.mono ?_;rintro r v ⟨rfl,rfl⟩
   go_wp2_with fail
   refine CA.out.mono ?_;rintro r v1 ⟨rfl,hb1⟩;have HB:=qsd hb1;clear hb1 CN CA;go_wp2
   go_loopg [4,17] n (fun gk cv iv wr=>∃ k:Nat,gk+k=n∧cv=.int .i64 (cntS (xs.take k) x:Nat)∧iv=.int .i64 (k:Nat)∧wr=v1)
   case atStart=>exact ⟨0,rfl,by simp [cntS],by first | rfl | simp,rfl⟩
   case round =>
    obtain ⟨k,hgk,hcv,rfl,rfl⟩:=hrel;obtain ⟨c,hc⟩:∃ c,c=cntS (xs.take k) x:=⟨_,rfl⟩
    have hcl:c≤n:=by
     rw [hc];refine Nat.le_trans (cntS_le _ _) ?_;rw [List.length_take];have:=HY.out.2;omega
    rw [←hc] at hcv;subst hcv
    by_cases hk:k<n
    · have hdk:decide ((k:Int)<(n:Int))=true:=by simp;omega
      have bk:(k:Int)<(n:Int):=by omega
      obtain ⟨k1,hk1⟩:∃ y,y=k+1:=⟨_,rfl⟩;have wk:IntKind.i64.wrap ((k:Int)+1)=(k1:Int):=wrapZ (by omega) (by omega)
      obtain ⟨cp,hcp⟩:∃ y,y=c+1:=⟨_,rfl⟩;have wc1:IntKind.i64.wrap ((c:Int)+1)=(cp:Int):=wrapZ (by omega) (by omega)
      obtain ⟨b,off,rfl,c2⟩:=HY.out.1.at HB.out k (by have:=HY.out.2;omega)
      have hst:=cntS_take (xs:=xs) (x:=x) (k:=k) (by have:=HY.out.2;omega)
      rw [←hc] at hst;obtain ⟨y,hy⟩:∃ y,y=xs.getD k 0:=⟨_,rfl⟩;rw [←hy] at c2 hst;have HK:=(qsd (ai hk1 (ai hcp (ai hst hc))));obtain ⟨t,ht⟩:∃ t,t=leF x y:=⟨_,rfl⟩;have HT:=qsd ht;have ht2:(FloatKind.f64.format.order y x==some Ordering.lt || FloatKind.f64.format.order y x==some Ordering.eq)=t:=by rw [ht];rfl
      clear hk1 hcp hst hc hy ht
      cases t
      · go_wp2
        go_roundg (n-k1)
        case measure=>have:=HK.out;omega
        case rel=>exact ⟨k1,by have:=HK.out;omega,by rw [HK.out.1,HK.out.2.2.1,←HT.out];rfl,by first | rfl | simp,rfl⟩
      · go_wp2
        go_roundg (n-k1)
        case measure=>have:=HK.out;omega
        case rel=>exact ⟨k1,by have:=HK.out;omega,by rw [HK.out.1,HK.out.2.2.1,←HT.out,HK.out.2.1];rfl,by first | rfl | simp,rfl⟩
    · have hdk:decide ((k:Int)<(n:Int))=false:=by simp;omega
      have HE:Aside (c=cntS xs x):=qsd (by rw [hc,List.take_of_length_le (by have:=HY.out.2;omega)])
      clear hc;go_wp2;refine bodyPost_ret (v:=.tuple #[.int .i64 (c:Nat),.int .i64 (n:Nat),.int .i64 0]) (by simp [results,Tryz.results70,go_sem]) rfl ?_
      exact ⟨by rw [HE.out],HB.out⟩
 · rw [if_neg h0,if_neg h0]
   have k1:(e==0)=false:=by simp [h0]
   have k2:(e != 0)=true:=by simp [h0]
   have k3:decide (e=0)=false:=by simp [h0]
   go_enter Tryz.func70,Tryz.ntmps70
   go_wp2_with fail
   refine CN.out.mono ?_;rintro r v ⟨rfl,rfl⟩
   go_wp2_with fail
   refine CA.out.mono ?_;rintro r v1 ⟨rfl,hb1⟩;go_wp2;refine bodyPost_ret (v:=.tuple #[.int .i64 0,.int .i64 0,.int .i64 e]) (by simp [results,Tryz.results70,go_sem]) rfl ?_
   exact ⟨rfl,hb1⟩
end
end Go.Proofs.YtgfemeencgjneaaGreatDoor
