import Derived.Test.YtgfemeencgjneaaGreatDoorZ26x
import Derived.Test.YtgfemeencgjneaaGreatDoorW25x
import Derived.Deep.CutRange
import Derived.Deep.RegionHeld3
import Derived.Test.YtgfemeencgjneaaGreatDoorM1x
import Derived.ProofKit
import Derived.OpenShut
import Derived.ChangeOld
import Derived.ChangeArms
import Derived.SizedLaws
import Derived.Laws.Cover2
import Derived.ChangeKeysEq
import Derived.Laws.OwnMore
import Derived.Lib.SliceRun
import Derived.Deep.RegionHeld
import Derived.Test.YtgfemeencgjneaaGreatDoorW7x
import Derived.Test.YtgfemeencgjneaaGreatDoorD5x
import Derived.OwnWalk
import Derived.Maps.AppendAt
import Derived.Test.YtgfemeencgjneaaGreatDoorD39x
import Derived.Test.YtgfemeencgjneaaGreatDoorZ5x
import Derived.Deep.LoopGhost
import Derived.Deep.RegionWith
import Derived.Test.YtgfemeencgjneaaGreatDoorD21x
import Derived.Test.YtgfemeencgjneaaGreatDoorW44x
import Derived.Test.YtgfemeencgjneaaGreatDoorD16x
import Derived.Test.YtgfemeencgjneaaGreatDoorD32cx
import Derived.Defers
import Derived.Laws.CopyOwn
import Derived.Deep.OwnRows
import Derived.Laws.MakeOwn
import Derived.ArgAppend
import Derived.WalkMore
import Derived.Deep.Cut
import Derived.KernelRfl
import Derived.Lib.Strings
import Derived.Lib.Slices
import Derived.Lib.Small
import Derived.Lib.Walk
import Derived.Lib.BitFns
import Derived.Lib.Tables
import Derived.Lib.ItoaNum
import Derived.Lib.TrailingZeros
import Derived.Laws.Closers25b
import Derived.Laws.Bits64b
import Derived.Deep.CutBlock
set_option linter.unusedVariables false
set_option linter.unusedSimpArgs false
set_option maxHeartbeats 16000000
set_option maxRecDepth 20000
namespace Go.Proofs.YtgfemeencgjneaaGreatDoor
namespace J
end J
section
open Go.RowKit J
def kd17 (lo hi x:Nat):Nat:=if nanW x then 0 else if sP x<sP lo then 1 else if sP hi<sP x then 2 else 3
def inB (E:List Nat) (k x:Nat):Bool:=decide (sP (E.getD k 0)≤sP x)&&(decide (sP x<sP (E.getD (k+1) 0)) || (decide (k+2=E.length)&&decide (sP x=sP (E.getD (k+1) 0))))
theorem inB_iff {E:List Nat}{k x:Nat}:inB E k x=true↔sP (E.getD k 0)≤sP x∧(sP x<sP (E.getD (k+1) 0)∨(k+2=E.length∧sP x=sP (E.getD (k+1) 0))):=by
 unfold inB;simp only [Bool.and_eq_true,Bool.or_eq_true,decide_eq_true_eq]
theorem inB_one {E:List Nat}(hE:Edg E) {k m x:Nat}(hk:k+1<E.length) (hm:m+1<E.length) (h1:inB E k x=true) (h2:inB E m x=true):k=m:=by
 rw [inB_iff] at h1 h2;have hs:=hE.2.2.2
 rcases Nat.lt_trichotomy k m with h|h|h
 · have:=rise_le hs (show k+1≤m by omega) (by omega)
   rcases h1.2 with q|⟨q,_⟩
   · omega
   · omega
 · exact h
 · have:=rise_le hs (show m+1≤k by omega) (by omega)
   rcases h2.2 with q|⟨q,_⟩
   · omega
   · omega
def bk (E:List Nat) (x:Nat):Nat:=((List.range (E.length-1)).find? (fun k=>inB E k x)).getD 0
theorem bk_eq {E:List Nat}(hE:Edg E) {k x:Nat}(hk:k+1<E.length) (h:inB E k x=true):bk E x=k:=by
 unfold bk
 cases e:(List.range (E.length-1)).find? (fun k=>inB E k x) with
 | none =>
   rw [List.find?_eq_none] at e;exact absurd h (e k (List.mem_range.2 (by omega)))
 | some m =>
   have h1:=List.find?_some e;have h2:=List.mem_range.1 (List.mem_of_find?_eq_some e);exact (inB_one hE hk (by omega) h h1).symm
theorem bin_math {E:List Nat}(hE:Edg E) {x i n:Nat}{b:Bool}(hn:n=E.length) (h0:sP (E.getD 0 0)≤sP x) (h1:sP x≤sP (E.getD (n-1) 0)) (hi:i≤n) (a:∀ k,k<i→sP (E.getD k 0)<sP x) (c:∀ k,i≤k→k<n→sP x≤sP (E.getD k 0)) (hb:b=true↔i<n∧sP (E.getD i 0)=sP x) :
 (b=true→min i (n-2)=bk E x)∧(b=false→1≤i∧min (i-1) (n-2)=bk E x)∧bk E x+1<n∧inB E (bk E x) x=true:=by
 have h2:=hE.1;have hs:=hE.2.2.2;have key:∀ k,k+1<n→inB E k x=true→bk E x=k:=fun k hk h=>bk_eq hE (by omega) h
 cases b with
 | true =>
   obtain ⟨p,q⟩:=hb.1 rfl
   by_cases e:i+1<n
   · have hin:inB E i x=true:=by
      rw [inB_iff];have:=hs i (by omega)
      exact ⟨by omega,.inl (by omega)⟩
     have:=key i e hin;refine ⟨fun _=>by rw [this];omega,fun h=>(by cases h),by omega,by rw [this];exact hin⟩
   · obtain rfl:i=n-1:=by omega
     have hin:inB E (n-2) x=true:=by
      rw [inB_iff];have:=a (n-2) (by omega)
      refine ⟨by omega,.inr ⟨by omega,?_⟩⟩
      rw [show n-2+1=n-1 by omega];exact q.symm
     have:=key (n-2) (by omega) hin
     refine ⟨fun _=>by rw [this];omega,fun h=>(by cases h),by omega,by rw [this];exact hin⟩
 | false =>
   have nb:¬ (i<n∧sP (E.getD i 0)=sP x):=fun h=>by have:=hb.2 h;cases this
   have i1:1≤i:=by
    rcases Nat.eq_zero_or_pos i with e|e
    · subst e
      have:=c 0 (Nat.le_refl _) (by omega)
      exact absurd ⟨by omega,by omega⟩ nb
    · exact e
   have i2:i<n:=by
    rcases Nat.lt_or_ge i n with e|e
    · exact e
    · have:=a (n-1) (by omega)
      omega
   have hin:inB E (i-1) x=true:=by
    rw [inB_iff];have q1:=a (i-1) (by omega)
    have q2:=c i (Nat.le_refl _) i2;refine ⟨by omega,.inl ?_⟩
    rw [show i-1+1=i by omega]
    by_cases e:sP (E.getD i 0)=sP x
    · exact absurd ⟨i2,e⟩ nb
    · omega
   have:=key (i-1) (by omega) hin
   refine ⟨fun h=>(by cases h),fun _=>⟨i1,by rw [this];omega⟩,by omega,by rw [this];exact hin⟩
structure Hs where
 C:List Nat
 b:Nat
 a:Nat
 o:Nat
def Hs.all (s:Hs):Nat:=s.b+s.a+s.o+s.C.sum
def Hs.put (E:List Nat) (s:Hs) (x:Nat):Hs :=
 ⟨if kd17 (E.getD 0 0) (E.getD (E.length-1) 0) x=3 then s.C.set (bk E x) (s.C.getD (bk E x) 0+1) else s.C,
  if kd17 (E.getD 0 0) (E.getD (E.length-1) 0) x=1 then s.b+1 else s.b,
  if kd17 (E.getD 0 0) (E.getD (E.length-1) 0) x=2 then s.a+1 else s.a,
  if kd17 (E.getD 0 0) (E.getD (E.length-1) 0) x=0 then s.o+1 else s.o⟩
theorem sum_set17:∀ (C:List Nat) (i v:Nat),i<C.length→(C.set i v).sum+C.getD i 0=C.sum+v
 | [],i,v,h=>by simp at h
 | c::C,0,v,h=>by simp;omega
 | c::C,i+1,v,h=>by
   have:=sum_set17 C i v (by simpa using h)
   simp only [List.set_cons_succ,List.sum_cons,List.getD_cons_succ];omega
theorem get_le_sum17:∀ (C:List Nat) (i:Nat),C.getD i 0≤C.sum
 | [],i=>by simp
 | c::C,0=>by simp
 | c::C,i+1=>by have:=get_le_sum17 C i;simp only [List.getD_cons_succ,List.sum_cons];omega
theorem kd_cases (lo hi x:Nat):kd17 lo hi x=0∨kd17 lo hi x=1∨kd17 lo hi x=2∨kd17 lo hi x=3:=by
 unfold kd17
 repeat' split
 all_goals simp
theorem put_all {E:List Nat}{s:Hs}{x:Nat}(h:bk E x<s.C.length∨kd17 (E.getD 0 0) (E.getD (E.length-1) 0) x≠3):(s.put E x).all=s.all+1:=by
 unfold Hs.put Hs.all
 rcases kd_cases (E.getD 0 0) (E.getD (E.length-1) 0) x with e|e|e|e <;> rw [e] <;> simp
 · omega
 · omega
 · omega
 · have:=sum_set17 s.C (bk E x) (s.C.getD (bk E x) 0+1) (by rcases h with h | h;exact h;exact absurd e h)
   simp only [List.getD_eq_getElem?_getD] at this ⊢;omega
theorem put_len {E:List Nat}{s:Hs}{x:Nat}:(s.put E x).C.length=s.C.length:=by
 unfold Hs.put;simp only
 split <;> simp
structure But2 (g h:Nat) (w w':World):Prop where
 os:w'.os=w.os
 tape:w'.tape=w.tape
 output:w'.output=w.output
 size:w.heap.size≤w'.heap.size
 block:∀ k,k<w.heap.size→k≠g→k≠h→w'.heap[k]?=w.heap[k]?
theorem But2.refl (g h:Nat) (w:World):But2 g h w w:=⟨rfl,rfl,rfl,Nat.le_refl _,fun _ _ _ _=>rfl⟩
theorem But2.trans {g h:Nat}{a b c:World}(p:But2 g h a b) (q:But2 g h b c):But2 g h a c :=
 ⟨q.os.trans p.os,q.tape.trans p.tape,q.output.trans p.output,Nat.le_trans p.size q.size,fun k hk h1 h2=>(q.block k (Nat.lt_of_lt_of_le hk p.size) h1 h2).trans (p.block k hk h1 h2)⟩
theorem But.two1 {g h:Nat}{a b:World}(p:But g a b):But2 g h a b:=⟨p.os,p.tape,p.output,p.size,fun k hk h1 _=>p.block k hk h1⟩
theorem But.two2 {g h:Nat}{a b:World}(p:But h a b):But2 g h a b:=⟨p.os,p.tape,p.output,p.size,fun k hk _ h2=>p.block k hk h2⟩
theorem Below.two {g h:Nat}{a b:World}(p:Below a.heap.size a b):But2 g h a b:=⟨p.os,p.tape,p.output,p.size,fun k hk _ _=>p.block k hk⟩
theorem But2.below {g h B:Nat}{a w w':World}(p:Below B a w) (q:But2 g h w w') (hB:B≤w.heap.size) (hg:B≤g) (hh:B≤h):Below B a w' :=
 ⟨q.os.trans p.os,q.tape.trans p.tape,q.output.trans p.output,Nat.le_trans p.size q.size,fun k hk=>(q.block k (by omega) (by omega) (by omega)).trans (p.block k hk)⟩
abbrev hcs (gE gC cE nE nC b a o n:Nat):List Value:=[.int .i64 (b:Nat),.int .i64 (a:Nat),.int .i64 (o:Nat),.slice (some ⟨gE,0,none⟩) nE cE,.slice (some ⟨gC,0,none⟩) nC nC,.int .i64 (n:Nat)]
structure Hm (w:World) (g gE gC cE:Nat) (E:List Nat) (s:Hs):Prop where
 bl:Bl w g 65 (hcs gE gC cE E.length s.C.length s.b s.a s.o s.all)
 cs:OwnI w gC s.C
 es:Fs w.heap.size w (some ⟨gE,0,none⟩) E
 n1:g≠gC
 n2:gE≠g
 n3:gE≠gC
 ed:Edg E
 wE:W64 E
 le:s.C.length+1=E.length
 mx:s.all≤1099511627776
theorem Fs.lt17 {B gE:Nat}{w:World}{E:List Nat}(h:Fs B w (some ⟨gE,0,none⟩) E) (hE:E≠[]):gE<B:=by
 obtain ⟨b,off,h1,e,_⟩:=h hE
 cases e;exact h1
theorem Fs.re17 {gE:Nat}{w w':World}{E:List Nat}(h:Fs w.heap.size w (some ⟨gE,0,none⟩) E) (hs:w.heap.size≤w'.heap.size) (hb:gE<w.heap.size→w'.heap[gE]?=w.heap[gE]?):Fs w'.heap.size w' (some ⟨gE,0,none⟩) E:=by
 intro hne;obtain ⟨b,off,h1,e,h3⟩:=h hne
 cases e
 refine ⟨gE,0,Nat.lt_of_lt_of_le h1 hs,rfl,fun i hi=>?_⟩
 rw [←h3 i hi];exact World.cell?_of_block (a:=⟨gE,0+i,none⟩) (hb h1)
theorem Hm.ne {w:World}{g gE gC cE:Nat}{E:List Nat}{s:Hs}(h:Hm w g gE gC cE E s):E≠[]:=by
 intro e;have:=h.ed.1;rw [e] at this;simp at this
theorem Hm.below {w w':World}{g gE gC cE:Nat}{E:List Nat}{s:Hs}(h:Hm w g gE gC cE E s) (hb:Below w.heap.size w w'):Hm w' g gE gC cE E s where
 bl:=h.bl.below hb h.bl.lt
 cs:=h.cs.below hb h.cs.lt
 es:=(h.es.below hb).mono hb.size
 n1:=h.n1
 n2:=h.n2
 n3:=h.n3
 ed:=h.ed
 wE:=h.wE
 le:=h.le
 mx:=h.mx
end
section
open Go.RowKit J
theorem Hm.cells {w:World}{g gE gC cE:Nat}{E:List Nat}{s:Hs}(h:Hm w g gE gC cE E s) :
 w.cell? ⟨g,0,none⟩=some (.int .i64 (s.b:Nat))∧w.cell? ⟨g,1,none⟩=some (.int .i64 (s.a:Nat))∧w.cell? ⟨g,2,none⟩=some (.int .i64 (s.o:Nat))∧w.cell? ⟨g,3,none⟩=some (.slice (some ⟨gE,0,none⟩) E.length cE)∧w.cell? ⟨g,4,none⟩=some (.slice (some ⟨gC,0,none⟩) s.C.length s.C.length)∧w.cell? ⟨g,5,none⟩=some (.int .i64 (s.all:Nat)) :=
 ⟨h.bl.cell 0 _ rfl,h.bl.cell 1 _ rfl,h.bl.cell 2 _ rfl,h.bl.cell 3 _ rfl,h.bl.cell 4 _ rfl,h.bl.cell 5 _ rfl⟩
theorem min17 (a b:Nat) (P:Program) (ts:Array TypeId) (t:TypeId) (w:World):(Builtin.min_ ts t #[.int .i64 (a:Nat),.int .i64 (b:Nat)]).run P w=.ok (.int .i64 ((min a b:Nat):Int)) w:=by
 by_cases h:(b:Int)<(a:Int)
 · have:min a b=b:=by omega
   simp [Builtin.min_,Builtin.min2,h,this]
   try omega
 · have:min a b=a:=by omega
   simp [Builtin.min_,Builtin.min2,h,this]
   try omega
theorem bin17 {w:World}{g gE cE nC x:Nat}{aC:Option Addr}{E:List Nat}(c3:w.cell? ⟨g,3,none⟩=some (.slice (some ⟨gE,0,none⟩) E.length cE)) (c4:w.cell? ⟨g,4,none⟩=some (.slice aC nC nC)) (es:Fs w.heap.size w (some ⟨gE,0,none⟩) E) (wE:W64 E) (ed:Edg E) (hl:nC+1=E.length) (hx:x<18446744073709551616) (nx:nnW x) (h0:sP (E.getD 0 0)≤sP x) (h1:sP x≤sP (E.getD (E.length-1) 0)) :
 Calls Tryz.prog 46 #[.pointer (some ⟨g,0,none⟩),.float .f64 x] w fun r w'=>r=.returned (.int .i64 (bk E x:Nat))∧w'=w:=by
 have C:=hid (search17 E (some ⟨gE,0,none⟩) E.length cE x w es rfl wE ed hx nx);have hE2:=ed.2.1;have hE1:=ed.1;have HX:=(qsd (ai ed (ai h0 h1)));clear ed h0 h1 hx nx es wE;obtain ⟨nE,hnE⟩:∃ n,n=E.length:=⟨_,rfl⟩;rw [←hnE] at c3 C hl hE1 hE2;have hm:=fun (a b:Nat) (ts:Array TypeId) (t:TypeId) (w:World)=>min17 a b Tryz.prog ts t w
 have wC:IntKind.i64.wrap ((nC:Int)-1)=((nE-2:Nat):Int):=wrapY (by omega) (by omega)
 obtain ⟨kC,hkC⟩:∃ k,k=nE-2:=⟨_,rfl⟩;rw [←hkC] at wC;have HN:=(qsd (ai hnE hkC));clear hnE hkC;go_enter Tryz.func46,Tryz.ntmps46
 go_wp2_with fail
 refine C.out.mono ?_;rintro r v ⟨⟨i,b,rfl,hi,ha,hc,hb⟩,rfl⟩;have hmath:=bin_math HX.out.1 (n:=nE) HN.out.1 HX.out.2.1 (by rw [HN.out.1];exact HX.out.2.2) hi ha hc hb
 clear C ha hc hb
 cases b
 · obtain ⟨i1,he⟩:=hmath.2.1 rfl
   have wi:IntKind.i64.wrap ((i:Int)-1)=((i-1:Nat):Int):=wrapY (by omega) (by omega)
   obtain ⟨j,hj⟩:∃ k,k=i-1:=⟨_,rfl⟩;rw [←hj] at wi he;rw [←HN.out.2] at he;have HR:=qsd he;clear hmath he hj i1;go_wp2;refine bodyPost_ret (v:=.int .i64 ((min j kC:Nat):Int)) (by simp [results,Tryz.results46,go_sem]) rfl ?_
   exact ⟨by rw [HR.out],rfl⟩
 · have he:=hmath.1 rfl
   rw [←HN.out.2] at he;have HR:=qsd he;clear hmath he;go_wp2;refine bodyPost_ret (v:=.int .i64 ((min i kC:Nat):Int)) (by simp [results,Tryz.results46,go_sem]) rfl ?_
   exact ⟨by rw [HR.out],rfl⟩
theorem takes17 {w:World}{g b a o:Nat}{v3 v4 v5:Value}{lo hi x:Nat}(h:Bl w g 65 [.int .i64 (b:Nat),.int .i64 (a:Nat),.int .i64 (o:Nat),v3,v4,v5]) (hx:x<18446744073709551616) (hlo:lo<18446744073709551616) (hhi:hi<18446744073709551616) (fl:nnW lo) (fh:nnW hi) (hb:b<4000000000000) (ha:a<4000000000000) (ho:o<4000000000000) :
 Calls Tryz.prog 45 #[.pointer (some ⟨g,0,none⟩),.float .f64 x,.float .f64 lo,.float .f64 hi] w fun r w'=>r=.returned (.bool (decide (kd17 lo hi x≠3)))∧Bl w' g 65 [.int .i64 ((if kd17 lo hi x=1 then b+1 else b:Nat):Int),.int .i64 ((if kd17 lo hi x=2 then a+1 else a:Nat):Int),.int .i64 ((if kd17 lo hi x=0 then o+1 else o:Nat):Int),v3,v4,v5]∧But g w w':=by
 have c0:=h.cell 0 _ rfl;have c1:=h.cell 1 _ rfl;have c2:=h.cell 2 _ rfl;have f0:=h.frozen 0;have f1:=h.frozen 1;have f2:=h.frozen 2;have wb:IntKind.i64.wrap ((b:Int)+1)=((b+1:Nat):Int):=wrapY (by omega) (by omega)
 have wa:IntKind.i64.wrap ((a:Int)+1)=((a+1:Nat):Int):=wrapY (by omega) (by omega)
 have wo:IntKind.i64.wrap ((o:Int)+1)=((o+1:Nat):Int):=wrapY (by omega) (by omega)
 have CN:=hid (isNaN_w x hx w);have HB:=qsd h;obtain ⟨k,hk⟩:∃ k,k=kd17 lo hi x:=⟨_,rfl⟩;rw [←hk];unfold kd17 at hk;obtain ⟨b1,hb1⟩:∃ k,k=b+1:=⟨_,rfl⟩;obtain ⟨a1,ha1⟩:∃ k,k=a+1:=⟨_,rfl⟩;obtain ⟨o1,ho1⟩:∃ k,k=o+1:=⟨_,rfl⟩;rw [←hb1] at wb ⊢;rw [←ha1] at wa ⊢;rw [←ho1] at wo ⊢;clear h hb1 ha1 ho1
 by_cases hn:nanW x=true
 · rw [if_pos hn] at hk
   rw [hn] at CN;subst hk;clear hx hlo hhi fl fh;go_enter Tryz.func45,Tryz.ntmps45
   go_wp2_with fail
   refine CN.out.mono ?_;rintro r v ⟨rfl,rfl⟩;go_wp2;go_ret;exact ⟨rfl,HB.out.set 2 _,(But.refl g v).set 2 _⟩
 · have hn':nanW x=false:=by simpa using hn
   rw [if_neg hn] at hk
   have nx:nnW x:=by
    unfold nanW at hn';have:=of_decide_eq_false hn'
    show x%9223372036854775808≤9218868437227405312
    omega
   rw [hn'] at CN;have e1:=lt17 hx hlo nx fl;have e2:=gt17 hx hhi nx fh;clear hx hlo hhi fl fh nx hn hn'
   by_cases h1:sP x<sP lo
   · rw [if_pos h1] at hk
     rw [decide_eq_true h1] at e1;subst hk;clear e2 h1;go_enter Tryz.func45,Tryz.ntmps45
     go_wp2_with fail
     refine CN.out.mono ?_;rintro r v ⟨rfl,rfl⟩;go_wp2;go_ret;exact ⟨rfl,HB.out.set 0 _,(But.refl g v).set 0 _⟩
   · rw [if_neg h1] at hk
     rw [decide_eq_false h1] at e1
     by_cases h2:sP hi<sP x
     · rw [if_pos h2] at hk
       rw [decide_eq_true h2] at e2;subst hk;clear h1 h2;go_enter Tryz.func45,Tryz.ntmps45
       go_wp2_with fail
       refine CN.out.mono ?_;rintro r v ⟨rfl,rfl⟩;go_wp2;go_ret;exact ⟨rfl,HB.out.set 1 _,(But.refl g v).set 1 _⟩
     · rw [if_neg h2] at hk
       rw [decide_eq_false h2] at e2;subst hk;clear h1 h2;go_enter Tryz.func45,Tryz.ntmps45
       go_wp2_with fail
       refine CN.out.mono ?_;rintro r v ⟨rfl,rfl⟩;go_wp2;go_ret;exact ⟨rfl,HB.out,But.refl g v⟩
end
section
open Go.RowKit J
theorem calm17b {P:Program}{c:Code}{K:Act→World→Prop}{Q:Exit→Act→World→Prop}{a:Act}{w:World}(h:c.wp P (Exit.then K (fun _ _ _=>False)) a w):c.wp P (Exit.then K Q) a w :=
 wp_mono h (fun e a w h=>by cases e <;> first | exact h | exact False.elim h)
theorem kd_in {lo hi x:Nat}(h:kd17 lo hi x=3):nnW x∧sP lo≤sP x∧sP x≤sP hi:=by
 unfold kd17 at h
 by_cases a:nanW x=true
 · rw [if_pos a] at h;cases h
 · rw [if_neg a] at h
   by_cases b:sP x<sP lo
   · rw [if_pos b] at h;cases h
   · rw [if_neg b] at h
     by_cases c:sP hi<sP x
     · rw [if_pos c] at h;cases h
     · refine ⟨?_,by omega,by omega⟩
       unfold nanW at a;simp only [decide_eq_true_eq] at a
       show x%9223372036854775808≤9218868437227405312
       omega
theorem bk_lt {E:List Nat}(hE:Edg E) (x:Nat):bk E x+1<E.length:=by
 unfold bk
 cases e:(List.range (E.length-1)).find? (fun k=>inB E k x) with
 | none=>have:=hE.1;simp;omega
 | some m =>
   have:=List.mem_range.1 (List.mem_of_find?_eq_some e);simp;omega
theorem Hm.outs {w wx:World}{g gE gC cE x n1:Nat}{E:List Nat}{s:Hs}(h:Hm w g gE gC cE E s) (hf:¬ 1099511627776≤s.all) (hn1:n1=s.all+1) {k:Nat}(hk:k=kd17 (E.getD 0 0) (E.getD (E.length-1) 0) x) (hk3:k≠3)
 (hb:Bl wx g 65 [.int .i64 ((if k=1 then s.b+1 else s.b:Nat):Int),.int .i64 ((if k=2 then s.a+1 else s.a:Nat):Int),.int .i64 ((if k=0 then s.o+1 else s.o:Nat):Int),.slice (some ⟨gE,0,none⟩) E.length cE,.slice (some ⟨gC,0,none⟩) s.C.length s.C.length,.int .i64 (n1:Nat)]) (hbt:But g w wx):Hm wx g gE gC cE E (s.put E x):=by
 have e:s.put E x=⟨s.C,if k=1 then s.b+1 else s.b,if k=2 then s.a+1 else s.a,if k=0 then s.o+1 else s.o⟩:=by
  unfold Hs.put;rw [←hk,if_neg hk3]
 have ha:(s.put E x).all=s.all+1:=put_all (.inr (by rw [←hk];exact hk3))
 refine ⟨?_,?_,h.es.re17 hbt.size (fun hl=>hbt.block gE hl h.n2),h.n1,h.n2,h.n3,h.ed,h.wE,?_,?_⟩
 · rw [ha,←hn1,e];exact hb
 · rw [e]
   have:=h.cs;unfold OwnI at this ⊢;rw [hbt.block gC (Array.getElem?_eq_some_iff.1 this).1 (Ne.symm h.n1)];exact this
 · rw [e];exact h.le
 · rw [ha];omega
theorem Hm.ins {w wx wy:World}{g gE gC cE x n1:Nat}{E:List Nat}{s:Hs}(h:Hm w g gE gC cE E s) (hf:¬ 1099511627776≤s.all) (hn1:n1=s.all+1) (hk:kd17 (E.getD 0 0) (E.getD (E.length-1) 0) x=3)
 (hb:Bl wx g 65 [.int .i64 (s.b:Nat),.int .i64 (s.a:Nat),.int .i64 (s.o:Nat),.slice (some ⟨gE,0,none⟩) E.length cE,.slice (some ⟨gC,0,none⟩) s.C.length s.C.length,.int .i64 (n1:Nat)]) (hbt:But g w wx) (hy:wy=wx.setCell ⟨gC,bk E x,none⟩ (.int .i64 ((s.C.getD (bk E x) 0+1:Nat):Int))):Hm wy g gE gC cE E (s.put E x)∧But2 g gC w wy:=by
 have e:s.put E x=⟨s.C.set (bk E x) (s.C.getD (bk E x) 0+1),s.b,s.a,s.o⟩:=by
  unfold Hs.put;rw [hk];rfl
 have hl:bk E x<s.C.length:=by have:=bk_lt h.ed x;have:=h.le;omega
 have ha:(s.put E x).all=s.all+1:=put_all (.inl hl)
 have hc:OwnI wx gC s.C:=by
  have:=h.cs;unfold OwnI at this ⊢;rw [hbt.block gC (Array.getElem?_eq_some_iff.1 this).1 (Ne.symm h.n1)];exact this
 have b2:But gC wx wy:=by rw [hy];exact (But.refl gC wx).set _ _
 have es1:Fs wx.heap.size wx (some ⟨gE,0,none⟩) E:=h.es.re17 hbt.size (fun hl=>hbt.block gE hl h.n2)
 refine ⟨⟨?_,?_,es1.re17 b2.size (fun hl=>b2.block gE hl h.n3),h.n1,h.n2,h.n3,h.ed,h.wE,?_,?_⟩,hbt.two1.trans b2.two2⟩
 · rw [ha,←hn1,e]
   simp only [List.length_set];exact hb.but b2 h.n1
 · rw [e,hy]
   exact hc.set _ _
 · rw [put_len];exact h.le
 · rw [ha];omega
theorem Add17 {w:World}{g gE gC cE x:Nat}{E:List Nat}{s:Hs}(h:Hm w g gE gC cE E s) (hx:x<18446744073709551616) :
 Calls Tryz.prog 15 #[.pointer (some ⟨g,0,none⟩),.float .f64 x] w fun r w'=>r=.returned (.int .i64 (if 1099511627776≤s.all then 2 else 0))∧Hm w' g gE gC cE E (if 1099511627776≤s.all then s else s.put E x)∧But2 g gC w w':=by
 obtain ⟨c0,c1,c2,c3,c4,c5⟩:=h.cells;have f5:=h.bl.frozen 5;have HH:=qsd h
 by_cases hf:1099511627776≤s.all
 · rw [if_pos hf,if_pos hf]
   obtain ⟨n,hn⟩:∃ n,n=s.all:=⟨_,rfl⟩;rw [←hn] at hf c5;have d:decide ((1099511627776:Int)≤(n:Int))=true:=by simp;omega
   clear c0 c1 c2 c3 c4 h hn hx;go_enter Tryz.func15,Tryz.ntmps15;go_wp2;go_ret;exact ⟨rfl,HH.out,But2.refl _ _ _⟩
 · rw [if_neg hf,if_neg hf]
   obtain ⟨n,hn⟩:∃ n,n=s.all:=⟨_,rfl⟩;have hbl:=h.bl;rw [←hn] at hf c5 hbl;have d:decide ((1099511627776:Int)≤(n:Int))=false:=by simp;omega
   have wn:IntKind.i64.wrap ((n:Int)+1)=((n+1:Nat):Int):=wrapY (by omega) (by omega)
   obtain ⟨n1,hn1⟩:∃ n,n=s.all+1:=⟨_,rfl⟩;rw [show n+1=n1 by omega] at wn
   obtain ⟨W,hW⟩:∃ W,W=w.setCell ⟨g,5,none⟩ (.int .i64 (n1:Nat)):=⟨_,rfl⟩;have hb1:=hbl.set 5 (.int .i64 (n1:Nat));rw [←hW] at hb1;have hbt:But g w W:=by rw [hW];exact (But.refl g w).set 5 _
   have hsz:s.b<4000000000000∧s.a<4000000000000∧s.o<4000000000000:=by
    have:=hn;unfold Hs.all at this;omega
   obtain ⟨nE,hnE⟩:∃ n,n=E.length:=⟨_,rfl⟩;obtain ⟨kE,hkE⟩:∃ n,n=E.length-1:=⟨_,rfl⟩;have he1:=h.ed.1;have he2:=h.ed.2.1;have wk:IntKind.i64.wrap ((nE:Int)-1)=(kE:Int):=wrapY (by omega) (by omega)
   have bk1:(kE:Int)<(nE:Int):=by omega
   have bk0:(0:Int)<(nE:Int):=by omega
   have bk2:0<nE:=by omega
   have bk3:kE<nE:=by omega
   have bk4:(0:Int)≤(kE:Int):=by omega
   have f0:=h.ed.2.2.1 _ (getD_mem17 (show 0<E.length by omega))
   have f1:=h.ed.2.2.1 _ (getD_mem17 (show kE<E.length by omega))
   have es0:Fs W.heap.size W (some ⟨gE,0,none⟩) E:=h.es.re17 hbt.size (fun hl=>hbt.block gE hl h.n2)
   have e0:=es0.cell (Below.refl _ _) 0 (by omega)
   have e1:=es0.cell (Below.refl _ _) kE (by omega)
   rw [Nat.zero_add] at e0 e1;have d3:=hb1.cell 3 _ rfl;rw [←hnE] at d3;have C:=hid (takes17 (w:=W.drew) (x:=x) hb1.drew hx (h.wE.get 0) (h.wE.get kE) (Nat.le_of_lt f0) (Nat.le_of_lt f1) hsz.1 hsz.2.1 hsz.2.2);obtain ⟨lo,hlo⟩:∃ y,y=E.getD 0 0:=⟨_,rfl⟩;obtain ⟨hi,hhi⟩:∃ y,y=E.getD kE 0:=⟨_,rfl⟩;rw [←hlo] at e0 C;rw [←hhi] at e1 C;have HW:=qsd hW;have HE:=(qsd (ai hnE (ai hkE (ai hlo (ai hhi (ai hbt (ai hn1 (ai hx hn))))))));have hgE:=Fs.lt17 es0 h.ne;have kS:Aside (W.drew.cell? ⟨g,3,none⟩=some (.slice (some ⟨gE,0,none⟩) nE cE)∧W.drew.cell? ⟨gE,0,none⟩=some (.float .f64 lo)∧W.drew.cell? ⟨gE,kE,none⟩=some (.float .f64 hi)):=⟨d3,e0,e1⟩;have HGE:=qsd hgE;clear h hx hbl hW hb1 hbt hsz hnE hkE he1 he2 f0 f1 es0 hlo hhi c0 c1 c2 c3 c4 hn1 hgE hn d3 e0 e1;go_enter Tryz.func15,Tryz.ntmps15
   go_upto_region 4 with fail
   rw [←HW.out];clear c5 f5 HW
   go_cut [40] from 17 to 39 (fun v wx=>v=.bool (decide (kd17 lo hi x=3))∧Aside (Bl wx g 65 [.int .i64 ((if kd17 lo hi x=1 then s.b+1 else s.b:Nat):Int),.int .i64 ((if kd17 lo hi x=2 then s.a+1 else s.a:Nat):Int),.int .i64 ((if kd17 lo hi x=0 then s.o+1 else s.o:Nat):Int),.slice (some ⟨gE,0,none⟩) E.length cE,.slice (some ⟨gC,0,none⟩) s.C.length s.C.length,.int .i64 (n1:Nat)]∧But g W.drew wx))
   case first =>
    go_region_held3 (fun w'=>w'.cell? ⟨g,3,none⟩=some (.slice (some ⟨gE,0,none⟩) nE cE)∧w'.cell? ⟨gE,0,none⟩=some (.float .f64 lo)∧w'.cell? ⟨gE,kE,none⟩=some (.float .f64 hi)) (with_reducible exact kS.out) (first
     | (go_at_call 45
        with_reducible refine C.out.mono ?_
        rintro r v ⟨rfl,hB,hbt⟩;have G:=qsd (ai hB hbt);have kS:Aside (v.cell? ⟨g,3,none⟩=some (.slice (some ⟨gE,0,none⟩) nE cE)∧v.cell? ⟨gE,0,none⟩=some (.float .f64 lo)∧v.cell? ⟨gE,kE,none⟩=some (.float .f64 hi)):=⟨by rw [HE.out.1];exact hB.cell 3 _ rfl,(World.cell?_of_block (a:=⟨gE,0,none⟩) (hbt.block gE HGE.out HH.out.n2)).trans kS.out.2.1,(World.cell?_of_block (a:=⟨gE,kE,none⟩) (hbt.block gE HGE.out HH.out.n2)).trans kS.out.2.2⟩
        clear hB hbt))
    all_goals
     go_wp2_with fail
     go_meet
     case rel=>exact ⟨by first | rfl | simp,G.out⟩
   clear kS C;obtain ⟨rfl,HA⟩:=hcut;obtain ⟨V,hV⟩:∃ W,W=wc:=⟨_,rfl⟩;subst hV
   by_cases hk:kd17 lo hi x=3
   · have dk:decide (kd17 lo hi x=3)=true:=by simp [hk]
     have hA1:=HA.out.1;rw [hk,if_neg (by decide),if_neg (by decide),if_neg (by decide)] at hA1
     have hbt:But g w V:=HE.out.2.2.2.2.1.trans ((But.refl g W).drew.trans HA.out.2)
     have hc:OwnI V gC s.C:=by
      have:=HH.out.cs;unfold OwnI at this ⊢;rw [hbt.block gC (Array.getElem?_eq_some_iff.1 this).1 (Ne.symm HH.out.n1)];exact this
     have hl:bk E x<s.C.length:=by have:=bk_lt HH.out.ed x;have:=HH.out.le;omega
     have z0:V.cell? ⟨gC,bk E x,none⟩=_:=hc.cell (bk E x) hl;have z1:V.frozen? ⟨gC,bk E x,none⟩=false:=hc.frozen (bk E x);have es1:Fs V.heap.size V (some ⟨gE,0,none⟩) E:=HH.out.es.re17 hbt.size (fun hl=>hbt.block gE hl HH.out.n2)
     have y4:V.cell? ⟨g,4,none⟩=_:=hA1.cell 4 _ rfl;have hkk:kd17 (E.getD 0 0) (E.getD (E.length-1) 0) x=3:=by rw [←HE.out.2.2.1,←HE.out.2.1,←HE.out.2.2.2.1];exact hk
     have hin:=kd_in hkk;have C:=hid (bin17 (w:=V.drew) (x:=x) (aC:=some ⟨gC,0,none⟩) (nC:=s.C.length) (hA1.cell 3 _ rfl) (hA1.cell 4 _ rfl) es1 HH.out.wE HH.out.ed HH.out.le HE.out.2.2.2.2.2.2.1 hin.1 hin.2.1 hin.2.2);have HF:=qsd (fun wy (hy:wy=V.drew.setCell ⟨gC,bk E x,none⟩ (.int .i64 ((s.C.getD (bk E x) 0+1:Nat):Int)))=>HH.out.ins (wx:=V.drew) (by rw [←HE.out.2.2.2.2.2.2.2];exact hf) HE.out.2.2.2.2.2.1 hkk hA1.drew hbt.drew hy)
     have hcb:s.C.getD (bk E x) 0<4000000000000:=by
      have q1:=get_le_sum17 s.C (bk E x);have q2:s.C.sum≤s.all:=by unfold Hs.all;omega
      have:=HE.out.2.2.2.2.2.2.2;omega
     obtain ⟨k,hkq⟩:∃ k,k=bk E x:=⟨_,rfl⟩;rw [←hkq] at hl z0 z1 C hcb HF;obtain ⟨ck,hck⟩:∃ c,c=s.C.getD k 0:=⟨_,rfl⟩;rw [←hck] at z0 hcb HF;obtain ⟨nC,hnC⟩:∃ n,n=s.C.length:=⟨_,rfl⟩;rw [←hnC] at hl y4;obtain ⟨c1,hc1⟩:∃ c,c=ck+1:=⟨_,rfl⟩;rw [←hc1] at HF;have wc1:IntKind.i64.wrap ((ck:Int)+1)=(c1:Int):=wrapY (by omega) (by omega)
     have lk1:(k:Int)<(nC:Int):=by omega
     have lk2:(0:Int)≤(k:Int):=by omega
     clear hA1 hbt hc es1 hin HA hkq hck hnC hc1 HH HE hkk
     go_upto_region 5 with fail
     refine calm17b ?_
     go_region_with (first
      | (go_at_call 46
         with_reducible refine C.out.mono ?_
         rintro r v ⟨rfl,hv⟩;rw [hv];clear hv))
     all_goals
      go_wp2;go_ret;exact ⟨rfl,HF.out _ rfl⟩
   · have dk:decide (kd17 lo hi x=3)=false:=by simp [hk]
     have HF:Aside (Hm V g gE gC cE E (s.put E x)∧But2 g gC w V):=by
      have hbt:But g w V:=HE.out.2.2.2.2.1.trans ((But.refl g W).drew.trans HA.out.2);refine ⟨HH.out.outs (by rw [←HE.out.2.2.2.2.2.2.2];exact hf) HE.out.2.2.2.2.2.1 (k:=kd17 lo hi x) ?_ hk HA.out.1 hbt,hbt.two1⟩
      rw [←HE.out.2.2.1,←HE.out.2.1,←HE.out.2.2.2.1]
     clear HA HH HE;go_wp2;go_ret;exact ⟨rfl,HF.out⟩
end
section
open Go.RowKit J
theorem drewN_drewN17 (w:World) (a b:Nat):(w.drewN a).drewN b=w.drewN (a+b):=by
 first | rfl | simp [World.drewN,Nat.add_assoc]
theorem join17 {w:World}{g b a o b2 a2 o2:Nat}{v3 v4 v5:Value}(h:Bl w g 65 [.int .i64 (b:Nat),.int .i64 (a:Nat),.int .i64 (o:Nat),v3,v4,v5]) (hb:b+b2<4000000000000) (ha:a+a2<4000000000000) (ho:o+o2<4000000000000) :
 Calls Tryz.prog 48 #[.pointer (some ⟨g,0,none⟩),.agg #[.int .i64 (b2:Nat),.int .i64 (a2:Nat),.int .i64 (o2:Nat)]] w fun r w'=>r=.returned (.tuple #[])∧Bl w' g 65 [.int .i64 ((b+b2:Nat):Int),.int .i64 ((a+a2:Nat):Int),.int .i64 ((o+o2:Nat):Int),v3,v4,v5]∧But g w w':=by
 obtain ⟨W,hW⟩:∃ W,W=w.alloc (Obj.cells #[.int .i64 (b2:Nat),.int .i64 (a2:Nat),.int .i64 (o2:Nat)] 63):=⟨_,rfl⟩;obtain ⟨g2,hg2⟩:∃ g,g=w.heap.size:=⟨_,rfl⟩;have hlt:=h.lt;have hB2:Bl W g2 63 [.int .i64 (b2:Nat),.int .i64 (a2:Nat),.int .i64 (o2:Nat)]:=by rw [hW,hg2];exact Bl.new _ _ [_,_,_]
 have hB:Bl W g 65 [.int .i64 (b:Nat),.int .i64 (a:Nat),.int .i64 (o:Nat),v3,v4,v5]:=by rw [hW];exact h.alloc _
 have hne:g≠g2:=by omega
 have hbt:But g w W:=by rw [hW];exact (But.refl g w).alloc _
 have wb:IntKind.i64.wrap ((b:Int)+(b2:Int))=((b+b2:Nat):Int):=wrapY (by omega) (by omega)
 have wa:IntKind.i64.wrap ((a:Int)+(a2:Int))=((a+a2:Nat):Int):=wrapY (by omega) (by omega)
 have wo:IntKind.i64.wrap ((o:Int)+(o2:Int))=((o+o2:Nat):Int):=wrapY (by omega) (by omega)
 obtain ⟨b3,hb3⟩:∃ k,k=b+b2:=⟨_,rfl⟩;obtain ⟨a3,ha3⟩:∃ k,k=a+a2:=⟨_,rfl⟩;obtain ⟨o3,ho3⟩:∃ k,k=o+o2:=⟨_,rfl⟩;rw [←hb3] at wb ⊢;rw [←ha3] at wa ⊢;rw [←ho3] at wo ⊢;have HW:=(qsd (ai hW hg2));have HB:=(qsd (ai hB (ai hB2 hbt)));clear h hW hg2 hB hB2 hbt hb3 ha3 ho3 hb ha ho hlt;go_enter Tryz.func48,Tryz.ntmps48
 go_upto_region 1 with fail
 rw [←HW.out.1,←HW.out.2];clear HW;have c0:W.cell? ⟨g,0,none⟩=_:=HB.out.1.cell 0 _ rfl;have e0:W.cell? ⟨g2,0,none⟩=_:=HB.out.2.1.cell 0 _ rfl;have f0:W.frozen? ⟨g,0,none⟩=false:=HB.out.1.frozen 0
 go_cut [] from 4 to 12 (fun wx=>Aside (Bl wx g 65 [.int .i64 (b3:Nat),.int .i64 (a:Nat),.int .i64 (o:Nat),v3,v4,v5]∧Bl wx g2 63 [.int .i64 (b2:Nat),.int .i64 (a2:Nat),.int .i64 (o2:Nat)]∧But g w wx))
 case first =>
  go_region
  all_goals
   go_wp2_with fail
   go_meet
   case rel=>exact ⟨HB.out.1.drew.set 0 _,(HB.out.2.1.drew).but ((But.refl g W.drew).set 0 _) (Ne.symm hne),HB.out.2.2.drew.set 0 _⟩
 clear HB c0 e0 f0;have HB:=hcut;obtain ⟨V1,hV⟩:∃ W,W=wc:=⟨_,rfl⟩;subst hV;clear hcut;have c0:V1.cell? ⟨g,1,none⟩=_:=HB.out.1.cell 1 _ rfl;have e0:V1.cell? ⟨g2,1,none⟩=_:=HB.out.2.1.cell 1 _ rfl;have f0:V1.frozen? ⟨g,1,none⟩=false:=HB.out.1.frozen 1
 go_upto_region 2 with fail
 go_cut [] from 13 to 21 (fun wx=>Aside (Bl wx g 65 [.int .i64 (b3:Nat),.int .i64 (a3:Nat),.int .i64 (o:Nat),v3,v4,v5]∧Bl wx g2 63 [.int .i64 (b2:Nat),.int .i64 (a2:Nat),.int .i64 (o2:Nat)]∧But g w wx))
 case first =>
  go_region
  all_goals
   go_wp2_with fail
   go_meet
   case rel=>exact ⟨HB.out.1.drew.set 1 _,(HB.out.2.1.drew).but ((But.refl g V1.drew).set 1 _) (Ne.symm hne),HB.out.2.2.drew.set 1 _⟩
 clear HB c0 e0 f0;have HB:=hcut;obtain ⟨V2,hV⟩:∃ W,W=wc:=⟨_,rfl⟩;subst hV;clear hcut;have c0:V2.cell? ⟨g,2,none⟩=_:=HB.out.1.cell 2 _ rfl;have e0:V2.cell? ⟨g2,2,none⟩=_:=HB.out.2.1.cell 2 _ rfl;have f0:V2.frozen? ⟨g,2,none⟩=false:=HB.out.1.frozen 2
 go_upto_region 3 with fail
 have HF:Aside (Bl (V2.drew.setCell ⟨g,2,none⟩ (.int .i64 (o3:Nat))) g 65 [.int .i64 (b3:Nat),.int .i64 (a3:Nat),.int .i64 (o3:Nat),v3,v4,v5]∧But g w (V2.drew.setCell ⟨g,2,none⟩ (.int .i64 (o3:Nat)))):=⟨HB.out.1.drew.set 2 _,HB.out.2.2.drew.set 2 _⟩;clear HB
 go_region
 all_goals
  go_wp2;refine bodyPost_end (v:=.tuple #[]) (by simp [results,Tryz.results48,go_sem]) rfl ?_
  exact ⟨rfl,HF.out⟩
theorem equal17 (xs ys:List Nat) (a1 a2:Option Addr) (n c1 m c2:Nat) (w:World) (hF:Fs w.heap.size w a1 xs) (hG:Fs w.heap.size w a2 ys) (hn:n=xs.length) (hm:m=ys.length) (hb:n≤17592186044416) (hW:W64 xs) (hV:W64 ys) (fx:∀ x ∈ xs,finW x) (fy:∀ x ∈ ys,finW x) :
 Calls Tryz.prog 47 #[.slice a1 n c1,.slice a2 m c2] w fun r w'=>(∃ b:Bool,r=.returned (.bool b)∧(b=true↔xs.map sP=ys.map sP))∧(∃ k,w'=w.drewN k):=by
 by_cases hnm:n=m
 · subst hnm
   have HN:=(qsd (ai hn (ai hW (ai hF (ai fx (ai hm (ai hV (ai hG fy))))))));clear hF hn hW hG hm hV fx fy;have d1:((n:Int) != (n:Int))=false:=by simp
   go_enter Tryz.func47,Tryz.ntmps47;go_wp2
   go_loopg [13] n (fun gk iv wr=>∃ k:Nat,gk+k=n∧iv=.int .i64 (k:Nat)∧Aside ((∀ i,i<k→sP (xs.getD i 0)=sP (ys.getD i 0))∧∃ k,wr=w.drewN k))
   case atStart=>exact ⟨0,by omega,by first | rfl | simp,fun i hi=>by omega,0,rfl⟩
   case round =>
    obtain ⟨k,hgk,rfl,HA⟩:=hrel
    by_cases hk:k<n
    · have hdk:decide ((k:Int)<(n:Int))=true:=by simp;omega
      have bk:(k:Int)<(n:Int):=by omega
      obtain ⟨k1,hk1⟩:∃ x,x=k+1:=⟨_,rfl⟩;have wk:IntKind.i64.wrap ((k:Int)+1)=(k1:Int):=wrapY (by omega) (by omega)
      obtain ⟨hn,hW,hF,fx,hm,hV,hG,fy⟩:=HN.out;obtain ⟨kk,hkk⟩:=HA.out.2;have hbel:Below w.heap.size w wr:=by rw [hkk];exact below_drewN17 (Below.refl _ _) _
      obtain ⟨b1,off1,rfl,c1'⟩:=hF.at hbel k (by omega)
      obtain ⟨b2,off2,rfl,c2'⟩:=hG.at hbel k (by omega)
      have he:=eq17 (hW.get k) (hV.get k) (Nat.le_of_lt (fx _ (getD_mem17 (show k<xs.length by omega)))) (Nat.le_of_lt (fy _ (getD_mem17 (show k<ys.length by omega))))
      obtain ⟨x,hx⟩:∃ x,x=xs.getD k 0:=⟨_,rfl⟩;obtain ⟨y,hy⟩:∃ x,x=ys.getD k 0:=⟨_,rfl⟩;rw [←hx] at c1' he;rw [←hy] at c2' he;obtain ⟨t,ht⟩:∃ t,t=decide (sP x=sP y):=⟨_,rfl⟩;rw [←ht] at he;have he2:(FloatKind.f64.format.order x y != some Ordering.eq)=!t:=by simp only [bne,he]
      have HK:Aside (k1=k+1∧t=decide (sP (xs.getD k 0)=sP (ys.getD k 0))):=⟨hk1,by rw [ht,hx,hy]⟩
      have HD:=qsd (fun q=>(⟨kk+q,by rw [hkk];exact drewN_drewN17 w kk q⟩:∃ k,wr.drewN q=w.drewN k))
      clear hn hW hF hm hV hG fx fy hx hy ht hk1 hbel hkk
      cases t
      · have HE:Aside (¬ xs.map sP=ys.map sP):=qsd (fun e=>by
         have:=of_decide_eq_false HK.out.2.symm;have e2:=congrArg (fun l=>l[k]?) e
         simp only [List.getElem?_map] at e2;rw [List.getElem?_eq_getElem (by have:=HN.out.1;omega),List.getElem?_eq_getElem (by have:=HN.out.2.2.2.2.1;omega)] at e2
         rw [List.getD_eq_getElem?_getD,List.getD_eq_getElem?_getD,List.getElem?_eq_getElem (by have:=HN.out.1;omega),List.getElem?_eq_getElem (by have:=HN.out.2.2.2.2.1;omega)] at this
         exact this (Option.some.inj e2))
        go_wp2_with fail
        go_quiet (fail)
        go_wp2;refine bodyPost_ret (v:=.bool false) (by simp [results,Tryz.results47,go_sem]) rfl ?_
        exact ⟨⟨false,rfl,fun h=>absurd h (by decide),fun h=>absurd h HE.out⟩,HD.out _⟩
      · go_wp2_with fail
        go_quiet (fail)
        go_wp2
        go_roundg (n-k1)
        case measure=>have:=HK.out;omega
        case rel=>exact ⟨k1,by have:=HK.out;omega,by first | rfl | simp,fun i hi=>by
         by_cases e:i<k
         · exact HA.out.1 i e
         · have:=HK.out
           obtain rfl:i=k:=by omega
           exact of_decide_eq_true HK.out.2.symm,HD.out _⟩
    · obtain rfl:k=n:=by omega
      have hdk:decide ((k:Int)<(k:Int))=false:=by simp
      have HE:Aside (xs.map sP=ys.map sP):=qsd (by
       refine List.ext_getElem (by simp;have:=HN.out.1;have:=HN.out.2.2.2.2.1;omega) fun i h1 h2=>?_
       have:=HA.out.1 i (by have:=HN.out.1;simp at h1;omega)
       simp at h1 h2;rw [List.getD_eq_getElem?_getD,List.getD_eq_getElem?_getD,List.getElem?_eq_getElem h1,List.getElem?_eq_getElem h2] at this
       simpa using this)
      go_wp2;refine bodyPost_ret (v:=.bool true) (by simp [results,Tryz.results47,go_sem]) rfl ?_
      exact ⟨⟨true,rfl,fun _=>HE.out,fun _=>rfl⟩,HA.out.2⟩
 · have d1:((n:Int) != (m:Int))=true:=by simp;omega
   have HE:Aside (¬ xs.map sP=ys.map sP):=qsd (fun e=>hnm (by have:=congrArg List.length e;simp at this;omega))
   clear hF hn hW hG hm hV fx fy;go_enter Tryz.func47,Tryz.ntmps47;go_wp2;go_ret;exact ⟨⟨false,rfl,fun h=>absurd h (by decide),fun h=>absurd h HE.out⟩,0,rfl⟩
end
section
open Go.RowKit
def Rf (lo:Nat) (w:World) (v:Value) (R:List Nat):Prop:=w.ownsRow lo 27 1 v R.length (R.map Fw10)
theorem Rf.shape {lo:Nat}{w:World}{v:Value}{R:List Nat}(h:Rf lo w v R) (hR:0<R.length):∃ g cap,v=.slice (some ⟨g,0,none⟩) R.length cap∧lo≤g∧g<w.heap.size∧R.length≤cap∧cap≤maxLen∧∀ i,i<R.length→w.cell? ⟨g,i,none⟩=some (.float .f64 (R.getD i 0)):=by
 have h':=h
 rcases h.2 with ⟨_,h0⟩|⟨g,cap,cur,rfl,hlo,hg,hn,hm,hs,ht⟩
 · omega
 · refine ⟨g,cap,rfl,hlo,(Array.getElem?_eq_some_iff.1 hg).1,hn,hm,fun i hi=>?_⟩
   have:=World.ownsRow.cellAt h' i (by omega)
   rw [this,List.getElem?_map,List.getElem?_eq_getElem hi,List.getD_eq_getElem?_getD,List.getElem?_eq_getElem hi]
   rfl
end
section
open Go.RowKit J
theorem Tryz.und_ints17:Tryz.prog.underlying 56=some (.slice 3):=by kernel_rfl
theorem Tryz.info_int17:(Tryz.prog.info? 3).map (fun i=>(i.zero,i.size,i.bytes))=some (some (.int .i64 0),1,8):=by kernel_rfl
theorem OwnI.but17b {w w':World}{g g':Nat}{L:List Nat}(h:OwnI w g L) (hb:But g' w w') (hg:g≠g'):OwnI w' g L:=by
 unfold OwnI at h ⊢;rw [hb.block g (Array.getElem?_eq_some_iff.1 h).1 hg];exact h
theorem make_ints17 (z:Int) (n:Nat) (hz:z=(n:Int)) (hn:n≤17592186044416) (w:World) :
 (Instr.makeSlice 56 (.int .i64 z) (.int .i64 z)).run Tryz.prog w=.ok (.slice (some ⟨w.heap.size,0,none⟩) n n) (w.alloc (.cells (madeCells #[.int .i64 0] n) 3)):=by
 subst hz;exact run_make_row' 56 3 (.int .i64 0) 8 Tryz.und_ints17 Tryz.info_int17 rfl .i64 .i64 n (by omega) (by omega) w
theorem OwnI.made17 (w:World) (n:Nat):OwnI (w.alloc (.cells (madeCells #[.int .i64 0] n) 3)) w.heap.size (List.replicate n 0):=by
 unfold OwnI;have h1:=heap_alloc_new w (.cells (madeCells #[.int .i64 0] n) 3);rw [h1]
 congr 2
 apply Array.toList_inj.1
 rw [toList_madeCells_one];simp [Iw15]
theorem clone17 (xs:List Nat) (a:Option Addr) (n c:Nat) (w:World) (hn:n=xs.length) (h0:0<n) (hF:Fs w.heap.size w a xs) (hm:n≤17592186043904) :
 Calls Tryz.prog 44 #[.slice a n c] w fun r w'=>(∃ v',r=.returned v'∧w'.ownsRow w.heap.size 27 1 v' n (xs.map Fw10))∧Below w.heap.size w w':=by
 obtain ⟨i0,hi,hz0,hz1,hz2⟩:=info_parts Tryz.info_f64;have q25:∀ (w:World) (a:Option Addr) (n c n' c':Nat),(binOp .eql 23 (.slice a n c) (.slice none n' c')).run Tryz.prog w=.ok (.bool a.isNone) w:=fun w a n c n' c'=>Lib.run_eql_slice_nil w _ _ a n c n' c' Tryz.und_floats
 obtain ⟨b,off,_,rfl,_⟩:=hF (by intro e;subst e;simp at hn;omega)
 have A:=qsd (ai hn (ai hF hm));clear hF hm hn;go_enter Tryz.func44,Tryz.ntmps44
 go_wp2_with (at_builtin;refine wpList_append_own _ rfl _ _ 23 rfl w.heap.size 27 i0 (.float .f64 0) 1 8 Tryz.und_floats hi hz0 hz1 hz2 rfl (by decide) _ _ _ rfl (World.ownsRow_made w #[] 0 (Nat.le_refl _) (Nat.zero_le _) (by simp)) ⟨b,off,none⟩ n c (xs.map Fw10) rfl ?qc1 ?qc2 ?qc3 ?qc4 ?qc5 ?qc6 ?_)
 case qc1=>simp [A.out.1]
 case qc2 =>
  intro j u hj;have hj2:j<xs.length:=by have:=(List.getElem?_eq_some_iff.1 hj).1;simpa using this
  have hc:=A.out.2.1.cell (Below.refl _ _) j hj2;rw [Addr.add_lit];refine Lib.cell?_alloc_some _ ?_
  rw [hc,←hj,List.getElem?_map,List.getElem?_eq_getElem hj2,List.getD_eq_getElem?_getD,List.getElem?_eq_getElem hj2]
  rfl
 case qc3=>intro u hu;obtain ⟨x,_,rfl⟩:=List.mem_map.1 hu;rfl
 case qc4=>have:=A.out.1;have:=A.out.2.2;unfold maxLen;omega
 case qc5=>have:=A.out.1;have:=A.out.2.2;omega
 case qc6=>simp
 intro v' w1 hown hgrow hnil;go_wp2;go_ret;refine ⟨⟨v',rfl,?_⟩,?_⟩
 · simpa using hown
 · exact ((Below.refl _ w).alloc (Nat.le_refl _) _).grown hgrow (by simp) (by intro k hk;simp [Value.ownBlock] at hk;omega)
theorem cloneI17 (L:List Nat) (g:Nat) (w:World) (h0:0<L.length) (hO:OwnI w g L) (hm:L.length≤1024) :
 Calls Tryz.prog 56 #[.slice (some ⟨g,0,none⟩) L.length L.length] w fun r w'=>(∃ v',r=.returned v'∧w'.ownsRow w.heap.size 3 1 v' L.length (L.map Iw15))∧Below w.heap.size w w':=by
 obtain ⟨i0,hi,hz0,hz1,hz2⟩:=info_parts Tryz.info_int17;have q25:∀ (w:World) (a:Option Addr) (n c n' c':Nat),(binOp .eql 56 (.slice a n c) (.slice none n' c')).run Tryz.prog w=.ok (.bool a.isNone) w:=fun w a n c n' c'=>Lib.run_eql_slice_nil w _ _ a n c n' c' Tryz.und_ints17
 obtain ⟨n,hn⟩:∃ n,n=L.length:=⟨_,rfl⟩;rw [←hn];have A:=qsd (ai hn (ai hO hm));clear hO hm hn h0;go_enter Tryz.func56,Tryz.ntmps56
 go_wp2_with (at_builtin;refine wpList_append_own _ rfl _ _ 56 rfl w.heap.size 3 i0 (.int .i64 0) 1 8 Tryz.und_ints17 hi hz0 hz1 hz2 rfl (by decide) _ _ _ rfl (World.ownsRow_made w #[] 0 (Nat.le_refl _) (Nat.zero_le _) (by simp)) ⟨g,0,none⟩ n n (L.map Iw15) rfl ?qc1 ?qc2 ?qc3 ?qc4 ?qc5 ?qc6 ?_)
 case qc1=>simp [A.out.1]
 case qc2 =>
  intro j u hj;have hj2:j<L.length:=by have:=(List.getElem?_eq_some_iff.1 hj).1;simpa using this
  have hc:=A.out.2.1.cell j hj2;rw [Addr.add_lit];refine Lib.cell?_alloc_some _ ?_
  rw [Nat.zero_add,hc,←hj,List.getElem?_map,List.getElem?_eq_getElem hj2,List.getD_eq_getElem?_getD,List.getElem?_eq_getElem hj2]
  rfl
 case qc3=>intro u hu;obtain ⟨x,_,rfl⟩:=List.mem_map.1 hu;rfl
 case qc4=>have:=A.out.1;have:=A.out.2.2;unfold maxLen;omega
 case qc5=>have:=A.out.1;have:=A.out.2.2;omega
 case qc6=>simp
 intro v' w1 hown hgrow hnil;go_wp2;go_ret;refine ⟨⟨v',rfl,?_⟩,?_⟩
 · simpa using hown
 · exact ((Below.refl _ w).alloc (Nat.le_refl _) _).grown hgrow (by simp) (by intro k hk;simp [Value.ownBlock] at hk;omega)
def Ri17 (lo:Nat) (w:World) (v:Value) (L:List Nat):Prop:=∃ g c,v=.slice (some ⟨g,0,none⟩) L.length c∧lo≤g∧g<w.heap.size∧∀ i,i<L.length→w.cell? ⟨g,i,none⟩=some (.int .i64 ((L.getD i 0:Nat):Int))
theorem ri_of17 {lo:Nat}{w:World}{v:Value}{L:List Nat}(h0:0<L.length) (h:w.ownsRow lo 3 1 v L.length (L.map Iw15)):Ri17 lo w v L:=by
 have h':=h
 rcases h.2 with ⟨_,h1⟩|⟨g,cap,cur,rfl,hlo,hg,hn,hm,hs,ht⟩
 · omega
 · refine ⟨g,cap,rfl,hlo,(Array.getElem?_eq_some_iff.1 hg).1,fun i hi=>?_⟩
   have:=World.ownsRow.cellAt h' i (by omega)
   rw [this,List.getElem?_map,List.getElem?_eq_getElem hi,List.getD_eq_getElem?_getD,List.getElem?_eq_getElem hi]
   rfl
theorem Counts17 {w:World}{g gE gC cE:Nat}{E:List Nat}{s:Hs}(h:Hm w g gE gC cE E s) :
 Calls Tryz.prog 27 #[.pointer (some ⟨g,0,none⟩)] w fun r w'=>(∃ v',r=.returned v'∧w'.ownsRow w.heap.size 3 1 v' s.C.length (s.C.map Iw15))∧Below w.heap.size w w':=by
 obtain ⟨c0,c1,c2,c3,c4,c5⟩:=h.cells;have C:=hid (cloneI17 s.C gC w (by have:=h.le;have:=h.ed.1;omega) h.cs (by have:=h.le;have:=h.ed.2.1;omega))
 clear h c0 c1 c2 c3 c5;go_enter Tryz.func27,Tryz.ntmps27
 go_wp2_with fail
 refine C.out.mono ?_;rintro r v ⟨⟨v',rfl,hO⟩,hb⟩;have HO:=(qsd (ai hO hb));clear hO hb C;go_wp2;go_ret;exact ⟨⟨v',rfl,HO.out.1⟩,HO.out.2⟩
theorem All17 {w:World}{g gE gC cE:Nat}{E:List Nat}{s:Hs}(h:Hm w g gE gC cE E s) :
 Calls Tryz.prog 17 #[.pointer (some ⟨g,0,none⟩)] w fun r w'=>r=.returned (.int .i64 (s.all:Nat))∧w'=w:=by
 obtain ⟨c0,c1,c2,c3,c4,c5⟩:=h.cells;clear h c0 c1 c2 c3 c4;go_enter Tryz.func17,Tryz.ntmps17;go_wp2;go_ret;exact ⟨rfl,rfl⟩
theorem Outside17 {w:World}{g gE gC cE:Nat}{E:List Nat}{s:Hs}(h:Hm w g gE gC cE E s) :
 Calls Tryz.prog 28 #[.pointer (some ⟨g,0,none⟩)] w fun r w'=>r=.returned (.tuple #[.int .i64 (s.b:Nat),.int .i64 (s.a:Nat),.int .i64 (s.o:Nat)])∧Below w.heap.size w w':=by
 obtain ⟨c0,c1,c2,c3,c4,c5⟩:=h.cells;clear h c3 c4 c5;go_enter Tryz.func28,Tryz.ntmps28
 go_wp2_with fail
 go_quiet (fail)
 go_wp2;refine bodyPost_ret (v:=.tuple #[.int .i64 (s.b:Nat),.int .i64 (s.a:Nat),.int .i64 (s.o:Nat)]) (by simp [results,Tryz.results28,go_sem]) rfl ?_
 exact ⟨rfl,below_drewN17 (Below.refl _ _) _⟩
end
section
open Go.RowKit J
def runL (b:Nat) (C:List Nat):List Nat:=(List.range (C.length+1)).map (fun k=>b+(C.take k).sum)
def rT (b:Nat) (C:List Nat) (n k:Nat):List Nat:=(List.range (k+1)).map (fun j=>b+(C.take j).sum)++List.replicate (n-(k+1)) 0
theorem rT_len {b n k:Nat}{C:List Nat}(h:k+1≤n):(rT b C n k).length=n:=by simp [rT];omega
theorem rT_zero {b n:Nat}{C:List Nat}(h:1≤n):(List.replicate n 0).set 0 b=rT b C n 0:=by
 obtain ⟨m,rfl⟩:∃ m,n=m+1:=⟨n-1,by omega⟩
 simp [rT,List.replicate_succ]
theorem rT_get {b n k:Nat}{C:List Nat}:(rT b C n k).getD k 0=b+(C.take k).sum:=by
 unfold rT;rw [List.getD_eq_getElem?_getD,List.getElem?_append_left (by simp),List.getElem?_map,List.getElem?_range (by omega)]
 rfl
theorem take_sum17 {C:List Nat}{k:Nat}(h:k<C.length):(C.take (k+1)).sum=(C.take k).sum+C.getD k 0:=by
 rw [List.take_add_one,List.getElem?_eq_getElem h,List.sum_append,List.getD_eq_getElem?_getD,List.getElem?_eq_getElem h]
 simp
theorem rT_set {b n k:Nat}{C:List Nat}(hk:k<C.length) (hn:k+1<n):(rT b C n k).set (k+1) (b+(C.take k).sum+C.getD k 0)=rT b C n (k+1):=by
 unfold rT;have e:n-(k+1)=(n-(k+1+1))+1:=by omega
 rw [List.set_append_right _ _ (by simp),List.length_map,List.length_range,Nat.sub_self,e,List.replicate_succ,List.set_cons_zero,List.range_succ (n:=k+1),List.map_append]
 simp only [List.map_cons,List.map_nil];rw [take_sum17 hk,List.append_assoc,Nat.add_assoc];rfl
theorem rT_all {b n k:Nat}{C:List Nat}(hk:k=C.length) (hn:n=k+1):rT b C n k=runL b C:=by
 subst hk hn;simp [rT,runL]
theorem take_le17 (C:List Nat) (k:Nat):(C.take k).sum≤C.sum:=by
 have:=congrArg List.sum (List.take_append_drop k C);rw [List.sum_append] at this;omega
theorem Running17 {w:World}{g gE gC cE:Nat}{E:List Nat}{s:Hs}(h:Hm w g gE gC cE E s) :
 Calls Tryz.prog 29 #[.pointer (some ⟨g,0,none⟩)] w fun r w'=>(∃ gl,r=.returned (.slice (some ⟨gl,0,none⟩) E.length E.length)∧w.heap.size≤gl∧OwnI w' gl (runL s.b s.C))∧Below w.heap.size w w':=by
 obtain ⟨c0,c1,c2,c3,c4,c5⟩:=h.cells;have hE1:=h.ed.1;have hE2:=h.ed.2.1;have hle:=h.le;obtain ⟨nE,hnE⟩:∃ n,n=E.length:=⟨_,rfl⟩;obtain ⟨nC,hnC⟩:∃ n,n=s.C.length:=⟨_,rfl⟩;obtain ⟨sb,hsb⟩:∃ n,n=s.b:=⟨_,rfl⟩;rw [←hnE] at c3 hle hE1 hE2 ⊢;rw [←hnC] at c4 hle;rw [←hsb] at c0 ⊢;have hall:sb+s.C.sum≤1099511627776:=by have:=h.mx;unfold Hs.all at this;omega
 obtain ⟨W,hW⟩:∃ W,W=w.alloc (.cells (madeCells #[.int .i64 0] nE) 3):=⟨_,rfl⟩;obtain ⟨gl,hgl⟩:∃ g,g=w.heap.size:=⟨_,rfl⟩;have hb:Below w.heap.size w W:=by rw [hW];exact below_alloc _ _
 have hO:OwnI W gl (List.replicate nE 0):=by rw [hW,hgl];exact OwnI.made17 w nE
 have h2:=h.below hb;have hmk:=make_ints17 ((nE:Nat):Int) nE rfl (by omega)
 have hmk':(Instr.makeSlice 56 (.int .i64 (nE:Nat)) (.int .i64 (nE:Nat))).run Tryz.prog w=.ok (.slice (some ⟨gl,0,none⟩) nE nE) W:=by rw [hgl,hW];exact hmk w
 have k0:W.cell? ⟨g,0,none⟩=some (.int .i64 (sb:Nat)):=by rw [hsb];exact h2.cells.1
 have k4:W.cell? ⟨g,4,none⟩=some (.slice (some ⟨gC,0,none⟩) nC nC):=by rw [hnC];exact h2.cells.2.2.2.2.1
 have l0:=hO.cell 0 (by simp;omega)
 have lf:=hO.frozen 0;obtain ⟨l00,hl0⟩:∃ x,x=(List.replicate nE 0).getD 0 0:=⟨_,rfl⟩;rw [←hl0] at l0;obtain ⟨V,hV⟩:∃ V,V=W.setCell ⟨gl,0,none⟩ (.int .i64 (sb:Nat)):=⟨_,rfl⟩;have hOV:OwnI V gl (rT sb s.C nE 0):=by rw [hV,←rT_zero (by omega)];exact hO.set 0 sb
 have hbt:But gl W V:=by rw [hV];exact (But.refl gl W).set 0 _
 have hgc:gC≠gl:=by have:=h.cs.lt;omega
 have hgg:g≠gl:=by have:=h.bl.lt;omega
 have hcV:OwnI V gC s.C:=by
  have:=h2.cs;unfold OwnI at this ⊢;rw [hbt.block gC (Array.getElem?_eq_some_iff.1 this).1 hgc];exact this
 have v4:V.cell? ⟨g,4,none⟩=some (.slice (some ⟨gC,0,none⟩) nC nC):=(World.cell?_of_block (a:=⟨g,4,none⟩) (hbt.block g h2.bl.lt hgg)).trans k4;have HB:=(qsd (ai hb (ai hbt (ai hgl (ai hOV (ai hcV (ai hnE hnC)))))));have b0:(0:Int)<(nE:Int):=by omega
 have b1:0<nE:=by omega
 have HV:=qsd hV;clear h h2 hb hW hO hmk hl0 hbt hV hOV hcV hgl hnE hnC c0 c1 c2 c4 c5 hsb k4;go_enter Tryz.func29,Tryz.ntmps29
 go_upto_region 3 with fail
 rw [←HV.out];clear HV k0 l0 lf hmk' c3;go_wp2
 go_loopg [24] nC (fun gk iv wr=>∃ k:Nat,gk+k=nC∧iv=.int .i64 (k:Nat)∧Aside (OwnI wr gl (rT sb s.C nE k)∧But gl V wr))
 case atStart=>exact ⟨0,by omega,by first | rfl | simp,HB.out.2.2.2.1,But.refl _ _⟩
 case round =>
  obtain ⟨k,hgk,rfl,HA⟩:=hrel;clear v4
  by_cases hk:k<nC
  · have hdk:decide ((k:Int)<(nC:Int))=true:=by simp;omega
    have lk:(k:Int)<(nC:Int):=by omega
    have lk2:(k:Int)<(nE:Int):=by omega
    have lk0:(0:Int)≤(k:Int):=by omega
    obtain ⟨k1,hk1⟩:∃ x,x=k+1:=⟨_,rfl⟩;have lk3:(k1:Int)<(nE:Int):=by omega
    have wk:IntKind.i64.wrap ((k:Int)+1)=(k1:Int):=wrapY (by omega) (by omega)
    have hkC:k<s.C.length:=by have:=HB.out.2.2.2.2.2.2;omega
    have x1:=HA.out.1.cell k (by rw [rT_len (by omega)];omega)
    rw [rT_get] at x1;have x5:=HA.out.1.cell k1 (by rw [rT_len (by omega)];omega)
    have x2:wr.cell? ⟨gC,k,none⟩=some (.int .i64 ((s.C.getD k 0:Nat):Int)):=(HB.out.2.2.2.2.1.but17b HA.out.2 hgc).cell k hkC;have x4:=HA.out.1.frozen k1;have hset:=HA.out.1.set (k+1) (sb+(s.C.take k).sum+s.C.getD k 0);rw [rT_set hkC (by omega),←hk1] at hset
    have hb1:=get_le_sum17 s.C k;have hb2:=take_le17 s.C k;obtain ⟨p,hp⟩:∃ p,p=sb+(s.C.take k).sum:=⟨_,rfl⟩;obtain ⟨q,hq⟩:∃ p,p=s.C.getD k 0:=⟨_,rfl⟩;obtain ⟨o5,ho5⟩:∃ p,p=(rT sb s.C nE k).getD k1 0:=⟨_,rfl⟩;rw [←hp] at x1 hset;rw [←hq] at x2 hset hb1;rw [←ho5] at x5;have wp:IntKind.i64.wrap ((p:Int)+(q:Int))=((p+q:Nat):Int):=wrapY (by omega) (by omega)
    obtain ⟨pq,hpq⟩:∃ p',p'=p+q:=⟨_,rfl⟩;rw [←hpq] at wp hset;have HN:Aside (OwnI (wr.setCell ⟨gl,k1,none⟩ (.int .i64 (pq:Nat))) gl (rT sb s.C nE k1)∧But gl V (wr.setCell ⟨gl,k1,none⟩ (.int .i64 (pq:Nat)))):=⟨hset,HA.out.2.set k1 _⟩;have HK:=qsd hk1;clear hset hb1 hb2 hp hq hpq hk1 HA hkC ho5;go_wp2
    go_roundg (nC-k1)
    case measure=>have:=HK.out;omega
    case rel=>exact ⟨k1,by have:=HK.out;omega,by first | rfl | simp,HN.out⟩
  · obtain rfl:k=nC:=by omega
    have hdk:decide ((k:Int)<(k:Int))=false:=by simp
    have HF:Aside (OwnI wr gl (runL sb s.C)∧w.heap.size≤gl∧Below w.heap.size w wr):=by
     refine ⟨?_,by rw [HB.out.2.2.1];exact Nat.le_refl _,?_⟩
     · have:=HA.out.1
       rw [rT_all HB.out.2.2.2.2.2.2 (by omega)] at this
       exact this
     · exact But.below HB.out.1 (HB.out.2.1.trans HA.out.2) HB.out.1.size (by rw [HB.out.2.2.1];exact Nat.le_refl _)
    clear HA;go_wp2;go_ret;exact ⟨⟨gl,rfl,HF.out.2.1,HF.out.1⟩,HF.out.2.2⟩
theorem Rf.fs17 {lo:Nat}{w:World}{v:Value}{R:List Nat}(h:Rf lo w v R) (h0:0<R.length):∃ gE cE,v=.slice (some ⟨gE,0,none⟩) R.length cE∧lo≤gE∧gE<w.heap.size∧Fs w.heap.size w (some ⟨gE,0,none⟩) R:=by
 obtain ⟨g,cap,e,h1,h2,h3,h4,h5⟩:=h.shape h0;exact ⟨g,cap,e,h1,h2,fun _=>⟨g,0,h2,rfl,fun i hi=>by rw [Nat.zero_add];exact h5 i hi⟩⟩
theorem zero_all17 (n:Nat):(Hs.mk (List.replicate n 0) 0 0 0).all=0:=by simp [Hs.all]
theorem new_hm17 {w u:World}{E:List Nat}{gE gC cE n:Nat}(hE:Edg E) (hW:W64 E) (hn:n+1=E.length) (es:Fs u.heap.size u (some ⟨gE,0,none⟩) E) (hO:OwnI u gC (List.replicate n 0)) (hne:gE≠gC) (hb:Below w.heap.size w u) (h1:w.heap.size≤gE) (h2:w.heap.size≤gC) :
 Hm (u.alloc (Obj.cells #[.int .i64 0,.int .i64 0,.int .i64 0,.slice (some ⟨gE,0,none⟩) E.length cE,.slice (some ⟨gC,0,none⟩) n n,.int .i64 0] 65)) u.heap.size gE gC cE E ⟨List.replicate n 0,0,0,0⟩∧Below w.heap.size w (u.alloc (Obj.cells #[.int .i64 0,.int .i64 0,.int .i64 0,.slice (some ⟨gE,0,none⟩) E.length cE,.slice (some ⟨gC,0,none⟩) n n,.int .i64 0] 65)):=by
 have hal:=below_alloc u (Obj.cells #[.int .i64 0,.int .i64 0,.int .i64 0,.slice (some ⟨gE,0,none⟩) E.length cE,.slice (some ⟨gC,0,none⟩) n n,.int .i64 0] 65);have hlt:=Fs.lt17 es (by intro e;subst e;simp at hn)
 refine ⟨⟨?_,hO.below hal hO.lt,(es.below hal).mono hal.size,?_,?_,hne,hE,hW,by simpa using hn,by rw [zero_all17];omega⟩,hb.trans (hal.mono hb.size)⟩
 · rw [zero_all17]
   have:=Bl.new u 65 [.int .i64 0,.int .i64 0,.int .i64 0,.slice (some ⟨gE,0,none⟩) E.length cE,.slice (some ⟨gC,0,none⟩) n n,.int .i64 0]
   show Bl _ _ _ (hcs gE gC cE E.length (List.replicate n 0).length 0 0 0 0)
   rw [List.length_replicate];exact this
 · have:=hO.lt;omega
 · omega
theorem New17 (xs:List Nat) (ao:Option Addr) (n cap:Nat) (w:World) (hF:Fs w.heap.size w ao xs) (hn:n=xs.length) (hb':n≤17592186043904) (hW:W64 xs) (hE:Edg xs) :
 Calls Tryz.prog 14 #[.slice ao n cap] w fun r w'=>(∃ g gE gC cE,r=.returned (.tuple #[.pointer (some ⟨g,0,none⟩),.int .i64 0])∧Hm w' g gE gC cE xs ⟨List.replicate (n-1) 0,0,0,0⟩∧w.heap.size≤g∧w.heap.size≤gE∧w.heap.size≤gC)∧Below w.heap.size w w':=by
 have C:=hid (rise17 xs ao n cap w hF hn (by omega) hW)
 have hE1:=hE.1;have hE2:=hE.2.1;have HX:=(qsd (ai hF (ai hn (ai hW hE))));obtain ⟨m,hm⟩:∃ m,m=n-1:=⟨_,rfl⟩;rw [←hm];have wm:IntKind.i64.wrap ((n:Int)-1)=(m:Int):=wrapY (by omega) (by omega)
 have hmk:=make_ints17 ((m:Nat):Int) m rfl (by omega)
 have HM:Aside (m+1=xs.length):=by rw [←hn];show m+1=n;omega
 clear hF hn hW hE hm hE1 hE2;go_enter Tryz.func14,Tryz.ntmps14
 go_wp2_with fail
 refine C.out.mono ?_;rintro r v ⟨⟨b,rfl,hbe⟩,hbw⟩;obtain rfl:b=true:=hbe.2 HX.out.2.2.2;have HV:Aside (Below w.heap.size w v∧Fs v.heap.size v ao xs):=⟨hbw,(HX.out.1.below hbw).mono hbw.size⟩;clear C hbe hbw;have C:=hid (fun (u:World) (hb:Below v.heap.size v u)=>clone17 xs ao n cap u HX.out.2.1 (by rw [HX.out.2.1];have:=HM.out;omega) ((HV.out.2.below hb).mono hb.size) hb')
 have HB0:Aside (Below v.heap.size v v.drew):=(Below.refl _ _).drew;have HB1:Aside (Below v.heap.size v (v.alloc (.cells (madeCells #[.int .i64 0] m) 3)).drew):=(below_alloc v _).drew
 go_upto_region 3 with fail
 refine calm17b ?_
 go_region_with (first
  | (go_at_call 44
     first
     | (with_reducible refine (C.out _ HB0.out).mono ?_
        rintro r u ⟨⟨vE,rfl,hO⟩,hb⟩;rw [HX.out.2.1] at hO;obtain ⟨gE,cE,rfl,g1,g2,g3⟩:=Rf.fs17 (R:=xs) hO (by have:=HM.out;omega)
        have HF:Aside (∃ gE' gC' cE',Hm ((u.alloc (.cells (madeCells #[.int .i64 0] m) 3)).alloc (Obj.cells #[.int .i64 0,.int .i64 0,.int .i64 0,.slice (some ⟨gE,0,none⟩) xs.length cE,.slice (some ⟨u.heap.size,0,none⟩) m m,.int .i64 0] 65)) (u.heap.size+1) gE' gC' cE' xs ⟨List.replicate m 0,0,0,0⟩∧w.heap.size≤u.heap.size+1∧w.heap.size≤gE'∧w.heap.size≤gC'∧Below w.heap.size w ((u.alloc (.cells (madeCells #[.int .i64 0] m) 3)).alloc (Obj.cells #[.int .i64 0,.int .i64 0,.int .i64 0,.slice (some ⟨gE,0,none⟩) xs.length cE,.slice (some ⟨u.heap.size,0,none⟩) m m,.int .i64 0] 65))):=by
         have b1:=HV.out.1.trans (HB0.out.mono HV.out.1.size);have b2:=b1.trans (hb.mono b1.size);have al:=below_alloc u (.cells (madeCells #[.int .i64 0] m) 3);have hsz:=b2.size;have:=new_hm17 (w:=w) (u:=u.alloc (.cells (madeCells #[.int .i64 0] m) 3)) (cE:=cE) HX.out.2.2.2 HX.out.2.2.1 HM.out ((g3.below al).mono al.size) (OwnI.made17 u m) (by omega) (b2.trans (al.mono b2.size)) (Nat.le_trans HV.out.1.size g1) hsz
         rw [World.size_alloc] at this;exact ⟨gE,u.heap.size,cE,this.1,by omega,Nat.le_trans HV.out.1.size g1,hsz,this.2⟩
        clear hO hb g1 g2 g3)
     | (with_reducible refine (C.out _ HB1.out).mono ?_
        rintro r u ⟨⟨vE,rfl,hO⟩,hb⟩;rw [HX.out.2.1] at hO;obtain ⟨gE,cE,rfl,g1,g2,g3⟩:=Rf.fs17 (R:=xs) hO (by have:=HM.out;omega)
        have HF:Aside (∃ gE' gC' cE',Hm (u.alloc (Obj.cells #[.int .i64 0,.int .i64 0,.int .i64 0,.slice (some ⟨gE,0,none⟩) xs.length cE,.slice (some ⟨v.heap.size,0,none⟩) m m,.int .i64 0] 65)) u.heap.size gE' gC' cE' xs ⟨List.replicate m 0,0,0,0⟩∧w.heap.size≤u.heap.size∧w.heap.size≤gE'∧w.heap.size≤gC'∧Below w.heap.size w (u.alloc (Obj.cells #[.int .i64 0,.int .i64 0,.int .i64 0,.slice (some ⟨gE,0,none⟩) xs.length cE,.slice (some ⟨v.heap.size,0,none⟩) m m,.int .i64 0] 65))):=by
         have b1:=HV.out.1.trans (HB1.out.mono HV.out.1.size);have b2:=b1.trans (hb.mono b1.size);have o1:=(OwnI.made17 v m).drew;have o2:=o1.below hb o1.lt
         have g1':v.heap.size+1≤gE:=by
          have:=g1;simp [World.drew] at this;omega
         have hsz:=HV.out.1.size;have:=new_hm17 (w:=w) (u:=u) (gC:=v.heap.size) (cE:=cE) HX.out.2.2.2 HX.out.2.2.1 HM.out g3 o2 (by omega) b2 (by omega) hsz
         exact ⟨gE,v.heap.size,cE,this.1,b2.size,by omega,hsz,this.2⟩
        clear hO hb g1 g2 g3)))
 all_goals
  go_wp2;refine bodyPost_ret (v:=.tuple #[.pointer (some ⟨_,0,none⟩),.int .i64 0]) (by simp [results,Tryz.results14,go_sem];rfl) rfl ?_
  obtain ⟨gE',gC',cE',h1,h2,h3,h4,h5⟩:=HF.out;exact ⟨⟨_,gE',gC',cE',rfl,h1,h2,h3,h4⟩,h5⟩
theorem NewNo17 (xs:List Nat) (ao:Option Addr) (n cap:Nat) (w:World) (hF:Fs w.heap.size w ao xs) (hn:n=xs.length) (hb':n≤17592186043904) (hW:W64 xs) (hE:¬ Edg xs) :
 Calls Tryz.prog 14 #[.slice ao n cap] w fun r w'=>r=.returned (.tuple #[.pointer none,.int .i64 170])∧Below w.heap.size w w':=by
 have C:=hid (rise17 xs ao n cap w hF hn (by omega) hW)
 have HX:=qsd hE;clear hF hn hW hE;go_enter Tryz.func14,Tryz.ntmps14
 go_wp2_with fail
 refine C.out.mono ?_;rintro r v ⟨⟨b,rfl,hbe⟩,hbw⟩
 obtain rfl:b=false:=by
  cases b
  · rfl
  · exact absurd (hbe.1 rfl) HX.out
 have HV:=qsd hbw;clear C hbe hbw;go_wp2;refine bodyPost_ret (v:=.tuple #[.pointer none,.int .i64 170]) (by simp [results,Tryz.results14,go_sem]) rfl ?_
 exact ⟨rfl,HV.out⟩
end
section
open Go.RowKit J
section
attribute [local go_sem] B.f64bits B.f64frombits
theorem same17 (x:Nat) (w:World):Calls Tryz.prog 43 #[.float .f64 x,.float .f64 x] w fun r w'=>r=.returned (.bool true)∧w'=w:=by
 go_enter Tryz.func43,Tryz.ntmps43;go_wp2;go_ret;exact ⟨by first | rfl | simp,rfl⟩
theorem turned17 (w:World):Calls Tryz.prog 39 #[.float .f64 0] w fun r w'=>r=.returned (.float .f64 9223372036854775808)∧w'=w:=by
 go_enter Tryz.func39,Tryz.ntmps39;go_wp2;go_ret;exact ⟨by first | rfl | simp | decide,rfl⟩
theorem odd17 (w:World):Calls Tryz.prog 13 #[] w fun r w'=>r=.returned (.float .f64 9221120237041090560)∧w'=w:=by
 go_enter Tryz.func13,Tryz.ntmps13;go_wp2;go_ret;exact ⟨by first | rfl | simp | decide,rfl⟩
end
theorem ints17 (L:List Nat) (g1 g2 c1 c2:Nat) (w:World) (hL:L.length≤1024) (h1:∀ i,i<L.length→w.cell? ⟨g1,i,none⟩=some (.int .i64 ((L.getD i 0:Nat):Int))) (h2:∀ i,i<L.length→w.cell? ⟨g2,i,none⟩=some (.int .i64 ((L.getD i 0:Nat):Int))) :
 Calls Tryz.prog 26 #[.slice (some ⟨g1,0,none⟩) L.length c1,.slice (some ⟨g2,0,none⟩) L.length c2] w fun r w'=>r=.returned (.bool true)∧Below w.heap.size w w':=by
 obtain ⟨n,hn⟩:∃ n,n=L.length:=⟨_,rfl⟩;rw [←hn] at hL ⊢;have HX:=(qsd (ai hn (ai h1 h2)));have d1:((n:Int) != (n:Int))=false:=by simp
 clear hn h1 h2;go_enter Tryz.func26,Tryz.ntmps26;go_wp2
 go_loopg [5] n (fun gk iv wr=>∃ k:Nat,gk+k=n∧iv=.int .i64 (k:Nat)∧Aside (Below w.heap.size w wr∧∃ q,wr=w.drewN q))
 case atStart=>exact ⟨0,by omega,by first | rfl | simp,Below.refl _ _,0,rfl⟩
 case round =>
  obtain ⟨k,hgk,rfl,HA⟩:=hrel
  by_cases hk:k<n
  · have hdk:decide ((k:Int)<(n:Int))=true:=by simp;omega
    have bk:(k:Int)<(n:Int):=by omega
    obtain ⟨k1,hk1⟩:∃ x,x=k+1:=⟨_,rfl⟩;have wk:IntKind.i64.wrap ((k:Int)+1)=(k1:Int):=wrapY (by omega) (by omega)
    have x1:wr.cell? ⟨g1,k,none⟩=some (.int .i64 ((L.getD k 0:Nat):Int)):=by obtain ⟨q,e⟩:=HA.out.2;rw [e];exact HX.out.2.1 k (by have:=HX.out.1;omega)
    have x2:wr.cell? ⟨g2,k,none⟩=some (.int .i64 ((L.getD k 0:Nat):Int)):=by obtain ⟨q,e⟩:=HA.out.2;rw [e];exact HX.out.2.2 k (by have:=HX.out.1;omega)
    obtain ⟨p,hp⟩:∃ p,p=L.getD k 0:=⟨_,rfl⟩;rw [←hp] at x1 x2;have dp:((p:Int) != (p:Int))=false:=by simp
    have HK:=qsd hk1;have HD:=qsd (fun q=>(ai (below_drewN17 HA.out.1 q) (by obtain ⟨k,e⟩:=HA.out.2;exact ⟨k+q,by rw [e];exact drewN_drewN17 w k q⟩):Below w.heap.size w (wr.drewN q)∧∃ k,wr.drewN q=w.drewN k))
    clear hk1 hp HA
    go_wp2_with fail
    go_quiet (fail)
    go_wp2
    go_roundg (n-k1)
    case measure=>have:=HK.out;omega
    case rel=>exact ⟨k1,by have:=HK.out;omega,by first | rfl | simp,HD.out _⟩
  · obtain rfl:k=n:=by omega
    have hdk:decide ((k:Int)<(k:Int))=false:=by simp
    go_wp2;refine bodyPost_ret (v:=.bool true) (by simp [results,Tryz.results26,go_sem]) rfl ?_
    exact ⟨rfl,HA.out.1⟩
theorem floats17 (L:List Nat) (a1 a2:Option Addr) (n c1 c2:Nat) (w:World) (hn:n=L.length) (hL:n≤100000) (h1:Fs w.heap.size w a1 L) (h2:Fs w.heap.size w a2 L) :
 Calls Tryz.prog 11 #[.slice a1 n c1,.slice a2 n c2] w fun r w'=>r=.returned (.bool true)∧Below w.heap.size w w':=by
 have HX:=(qsd (ai hn (ai h1 h2)));have d1:((n:Int) != (n:Int))=false:=by simp
 have CS:=hid (fun (x:Nat) (u:World)=>same17 x u)
 clear hn h1 h2;go_enter Tryz.func11,Tryz.ntmps11;go_wp2
 go_loopg [5] n (fun gk iv wr=>∃ k:Nat,gk+k=n∧iv=.int .i64 (k:Nat)∧Aside (Below w.heap.size w wr))
 case atStart=>exact ⟨0,by omega,by first | rfl | simp,Below.refl _ _⟩
 case round =>
  obtain ⟨k,hgk,rfl,HA⟩:=hrel
  by_cases hk:k<n
  · have hdk:decide ((k:Int)<(n:Int))=true:=by simp;omega
    have bk:(k:Int)<(n:Int):=by omega
    obtain ⟨k1,hk1⟩:∃ x,x=k+1:=⟨_,rfl⟩;have wk:IntKind.i64.wrap ((k:Int)+1)=(k1:Int):=wrapY (by omega) (by omega)
    obtain ⟨b1,o1,rfl,x1⟩:=HX.out.2.1.at HA.out k (by have:=HX.out.1;omega)
    obtain ⟨b2,o2,rfl,x2⟩:=HX.out.2.2.at HA.out k (by have:=HX.out.1;omega)
    obtain ⟨p,hp⟩:∃ p,p=L.getD k 0:=⟨_,rfl⟩;rw [←hp] at x1 x2;have HK:=qsd hk1;have HD:=qsd (fun q=>below_drewN17 HA.out q)
    have C:=hid (fun u=>CS.out p u)
    clear hk1 hp HA HX CS
    go_wp2_with fail
    go_quiet (first | (go_at_call 43;exact Calls.quiet_of_same (C.out _)))
    go_wp2
    go_roundg (n-k1)
    case measure=>have:=HK.out;omega
    case rel=>exact ⟨k1,by have:=HK.out;omega,by first | rfl | simp,HD.out _⟩
  · obtain rfl:k=n:=by omega
    have hdk:decide ((k:Int)<(k:Int))=false:=by simp
    go_wp2;refine bodyPost_ret (v:=.bool true) (by simp [results,Tryz.results11,go_sem]) rfl ?_
    exact ⟨rfl,HA.out⟩
theorem EdgesLow17 (lo hi:Nat) (z:Int) (w:World) (hl:lo<18446744073709551616) (fl:¬ finW lo) (h1:1≤z) (h2:z<1024) :
 Calls Tryz.prog 10 #[.float .f64 lo,.float .f64 hi,.int .i64 z] w fun r w'=>r=.returned (.tuple #[.slice none 0 0,.int .i64 30])∧Below w.heap.size w w':=by
 have d1:decide (z<1)=false:=by simp;omega
 have d2:decide ((1024:Int)≤z)=false:=by simp;omega
 have C:=hid (ofNo17 hl fl w);clear hl fl;go_enter Tryz.func10,Tryz.ntmps10
 go_wp2_with fail
 refine C.out.mono ?_;rintro r v ⟨rfl,hb⟩;have HB:=qsd (hb.trans ((below_alloc v (Obj.cells #[.bool false,.slice none 0 0,.int .i64 0] 70)).mono hb.size));clear hb C;go_wp2;refine bodyPost_ret (v:=.tuple #[.slice none 0 0,.int .i64 30]) (by simp [results,Tryz.results10,go_sem]) rfl ?_
 exact ⟨rfl,HB.out⟩
end
section
open Go.RowKit J
theorem LiesG.lies {K:Nat}{t:Bool}{m:Int}{V S:Nat}(h:LiesG vK 9218868437227405312 1 K t m V S):Lies K t m V S:=by
 obtain ⟨h1,h2,h3,h4,h5,h6⟩:=h;simp only [Nat.pow_one] at h3 h4 h5 h6;refine ⟨h1,h2,h3,h4,fun a b=>?_,fun a=>?_⟩
 · have:=h5 a b
   rw [Nat.add_mul] at this;exact this
 · rcases h6 a with q | ⟨q,r⟩
   · exact .inl q
   · exact .inr ⟨by omega,r⟩
theorem Lies.same {K K':Nat}{t t':Bool}{m m':Int}{V S:Nat}(h:Lies K t m V S) (h':Lies K' t' m' V S):K=K'∧t=t'∧(t=false→m=m'):=by
 have g:=liesG64 h;have g':=liesG64 h'
 have a1:vK K^1*S≤V:=by
  rw [Nat.pow_one]
  cases t with
  | true=>have:=h.one rfl;omega
  | false=>have:=h.low rfl;omega
 have a2:K+1=9218868437227405312∨V<vK (K+1)^1*S:=by
  rw [Nat.pow_one]
  cases t with
  | true =>
    have:=h.one rfl;have:=Nat.mul_lt_mul_of_pos_right (grid64.mono (show K<K+1 by omega)) h.pos
    omega
  | false =>
    rcases h.high rfl with q|q
    · exact .inr q
    · omega
 obtain ⟨e1,e2,e3⟩:=LiesG.doc grid64 (by decide) g' K h.fin a1 a2
 obtain ⟨_,f2,f3⟩:=LiesG.doc grid64 (by decide) g K h.fin a1 a2
 subst e1;rw [←f2] at e2;refine ⟨rfl,e2.symm,fun ht=>?_⟩
 rw [f3 ht,e3 (by rw [e2];exact ht)]
end
section
open Go.RowKit J
noncomputable def qR16 (V D:Option (Bool×Nat×Int)) (mode:Int):Nat×Int:=quoR rndS ⟨dN V,.bool false,dX V,dE V,dN D,.bool false,dX D,dE D⟩ mode
end
section
open Go.RowKit J
theorem rK_same {mode:Int}{n:Bool}{K K':Nat}{t t':Bool}{m m':Int}(h:K=K'∧t=t'∧(t=false→m=m')):rK mode n K t m=rK mode n K' t' m':=by
 obtain ⟨rfl,rfl,h⟩:=h
 cases t with
 | true=>rfl
 | false=>rw [h rfl]
end
section
open Go Go.RowKit J
theorem g_parts16 {u k:Nat}{V:Int}(hu:u≤100000) (hV:V≠0) (hk:k≤90000) (hb:Bd k V):∃ X e,gV u V=some (decide (V<0),X,e)∧X%2=1∧-(u:Int)≤e∧e≤200000∧X*2^(e+(u:Int)).toNat=V.natAbs∧bl X≤262144∧Frm (decide (V<0)) X e:=by
 obtain ⟨n,X,e,ho,F,hx⟩:=g_iv (u:=u) hu (by omega) hb
 have hm:mkS (decide (V<0)) V.natAbs (-(u:Int))=some (n,X,e):=ho;have hz:=zv_mkS hm (-(u:Int)) (.inr (by omega))
 unfold zv at hz;simp only at hz;rw [show (-(u:Int) - -(u:Int)).toNat=0 by omega,Nat.pow_zero,Nat.mul_one] at hz
 have hX0:X≠0:=by
  rintro rfl;simp [sg1] at hz
  split at hz <;> omega
 have hp:0<X*2^(e - -(u:Int)).toNat:=Nat.mul_pos (by omega) (Nat.two_pow_pos _)
 rcases hx with h|⟨h1,h2⟩
 · exact absurd h hX0
 have hn:n=decide (V<0):=by
  by_cases hs:V<0
  · rw [decide_eq_true hs] at hz ⊢
    cases n with
    | true=>rfl
    | false=>simp only [sg1,if_true,Bool.false_eq_true,if_false] at hz;omega
  · rw [decide_eq_false hs] at hz ⊢
    cases n with
    | false=>rfl
    | true=>simp only [sg1,if_true,Bool.false_eq_true,if_false] at hz;omega
 rw [hn] at hz ho F
 have hv:X*2^(e - -(u:Int)).toNat=V.natAbs:=by
  by_cases hs:V<0
  · rw [decide_eq_true hs] at hz;simp only [sg1,if_true] at hz;omega
  · rw [decide_eq_false hs] at hz;simp only [sg1,Bool.false_eq_true,if_false] at hz;omega
 refine ⟨X,e,ho,?_,h1,by omega,?_,by omega,F⟩
 · rcases F.odd with q | q
   · exact q
   · exact absurd q.1 hX0
 · rw [show (e+(u:Int)).toNat=(e - -(u:Int)).toNat by congr 1;omega]
   exact hv
theorem rat16 {x S V S' V':Nat}(hS:0<S) (hS':0<S') (e:V*S'=V'*S):(x*S<V↔x*S'<V')∧(x*S=V↔x*S'=V')∧(V<x*S↔V'<x*S'):=by
 have a1:x*S*S'=x*S'*S:=by rw [Nat.mul_assoc,Nat.mul_comm S,←Nat.mul_assoc]
 have t1:x*S<V↔x*S*S'<V*S':=(Nat.mul_lt_mul_right hS').symm;have t2:x*S'<V'↔x*S'*S<V'*S:=(Nat.mul_lt_mul_right hS).symm;have t3:V<x*S↔V*S'<x*S*S':=(Nat.mul_lt_mul_right hS').symm;have t4:V'<x*S'↔V'*S<x*S'*S:=(Nat.mul_lt_mul_right hS).symm;rw [t1,t2,t3,t4,a1,e];refine ⟨Iff.rfl,?_,Iff.rfl⟩;rw [a1,e] at t1;rw [a1,e] at t3;omega
theorem LiesG.ratio16 {v:Nat→Nat}{top n K:Nat}{t:Bool}{m:Int}{V S V' S':Nat}(h:LiesG v top n K t m V S) (hS':0<S') (e:V*S'=V'*S):LiesG v top n K t m V' S':=by
 obtain ⟨h1,h2,h3,h4,h5,h6⟩:=h;have e2:(2^n*V)*S'=(2^n*V')*S:=by rw [Nat.mul_assoc,e,Nat.mul_assoc]
 refine ⟨h1,hS',fun a=>((rat16 h2 hS' e).2.1.1 (h3 a).symm).symm,fun a=>(rat16 h2 hS' e).1.1 (h4 a),fun a b=>?_,fun a=>?_⟩
 · have:=h5 a ((rat16 h2 hS' e).2.2.2 b)
   obtain ⟨r1,r2,r3⟩:=rat16 (x:=(v K+v (K+1))^n) h2 hS' e2
   rcases this with ⟨q,r⟩|⟨q,r⟩|⟨q,r⟩
   · exact .inl ⟨q,r3.1 r⟩
   · exact .inr (.inl ⟨q,(r2.1 r.symm).symm⟩)
   · exact .inr (.inr ⟨q,r1.1 r⟩)
 · rcases h6 a with q | q
   · exact .inl ((rat16 h2 hS' e).2.2.1 q)
   · exact .inr q
theorem qR_ok16 {u v k:Nat}{V D:Int}(hu:u≤100000) (hv:v≤100000) (hk:k≤90000) (hV:V≠0) (hD:0<D) (bV:Bd k V) (bD:Bd k D) :
 ∃ K t m,(∀ j,j=1074→LiesG vK 9218868437227405312 1 K t m (V.natAbs*2^(j+v)) (D.natAbs*2^u))∧∀ mode:Int,0≤mode→mode≤4→qR16 (gV u V) (gV v D) mode=(rK mode (decide (V<0)) K t m+(if V<0 then 9223372036854775808 else 0),0):=by
 obtain ⟨Y,f,ho2,hY,hf0,hf1,hv2,hbl2,F2⟩:=g_parts16 (u:=v) (V:=D) hv (by omega) hk bD
 rw [decide_eq_false (by omega)] at ho2 F2
 obtain ⟨X,e,ho,hX,he0,he1,hvv,hbl,F⟩:=g_parts16 (u:=u) (V:=V) hu hV hk bV;have hm1:mkS (decide (V<0)) X e=some (decide (V<0),X,e):=mkS_idem F;have hm2:mkS false Y f=some (false,Y,f):=mkS_idem F2;obtain ⟨K,t,m,hL,hR⟩:=quo64 (decide (V<0)) X e Y f hX (by omega) hbl hbl2
 refine ⟨K,t,m,fun j hj=>?_,fun mode hm0 hm4=>?_⟩
 · refine hL.ratio16 (Nat.mul_pos (by omega) (Nat.two_pow_pos _)) ?_
   unfold rV11 rS11;rw [←hvv,←hv2]
   have e1:X*2^(e-f+((1*1074:Nat):Int)).toNat*(Y*2^(f+(v:Int)).toNat*2^u)=X*Y*(2^((e-f+((1*1074:Nat):Int)).toNat+((f+(v:Int)).toNat+u))):=by
    rw [Nat.pow_add,Nat.pow_add,Nat.mul_assoc Y,Nat.mul_mul_mul_comm]
   have e2:X*2^(e+(u:Int)).toNat*2^(j+v)*(Y*2^(-(e-f+((1*1074:Nat):Int))).toNat)=X*Y*(2^((e+(u:Int)).toNat+(j+v)+(-(e-f+((1*1074:Nat):Int))).toNat)):=by
    rw [Nat.pow_add _ (_+_),Nat.pow_add _ (e+(u:Int)).toNat,Nat.mul_assoc X,Nat.mul_mul_mul_comm]
   rw [e1,e2]
   congr 2
   omega
 · unfold qR16
   rw [ho,ho2]
   show quoR rndS ⟨decide (V<0),.bool false,X,e,false,.bool false,Y,f⟩ mode=_
   unfold quoR;rw [if_neg (by omega),if_pos (by rw [errL_one];show errN X (decide (V<0)) e Y false f=0;unfold errN;rw [if_neg (by unfold sgn;simp;split <;> omega),hm1,hm2];simp [dX];omega),hm1,hm2]
   have:=hR mode hm0 hm4;simp only [decide_eq_true_eq] at this;exact this
theorem lit13 (w:World) (xs:List Nat) (g:Nat) (hg:g=w.heap.size):Fs (w.alloc (Obj.cells (xs.map fun x=>Value.float .f64 x).toArray 27)).heap.size (w.alloc (Obj.cells (xs.map fun x=>Value.float .f64 x).toArray 27)) (some ⟨g,0,none⟩) xs:=by
 intro _;refine ⟨g,0,by simp;omega,rfl,fun i hi=>?_⟩
 have hB:=Bl.new w 27 (xs.map fun x=>Value.float .f64 x)
 rw [hg];refine (hB.cell (0+i) (.float .f64 (xs.getD i 0)) ?_);rw [Nat.zero_add,List.getElem?_map,List.getD_eq_getElem?_getD,List.getElem?_eq_getElem hi]
 rfl
end
section
open Go Go.RowKit J
theorem ln_bd17 {lo hi i p:Nat}(hl:lo<18446744073709551616) (fl:finW lo) (hh:hi<18446744073709551616) (fh:finW hi) (hi1:i≤p) (hp:p≤1024) (z:Nat) (hz:z=2200):Bd z (lnV17 lo hi i p):=by
 obtain ⟨y,hy⟩:∃ z,z=2098:=⟨_,rfl⟩;obtain ⟨k,hk⟩:∃ z,z=31:=⟨_,rfl⟩;have b1:=bd_fv17 hl fl y hy;have b2:=bd_fv17 hh fh y hy;have bn:∀ n:Nat,n≤2147483648→Bd k (n:Int):=fun n hn=>by unfold Bd;rw [Int.natAbs_natCast,hk];exact hn
 have c1:=b1.mul (bn (p-i) (by omega))
 have c2:=b2.mul (bn i (by omega))
 have:=c1.add c2;unfold Bd at this ⊢;exact Nat.le_trans this (Nat.pow_le_pow_right (by decide) (by omega))
theorem ed_lies {lo hi i p:Nat}(hl:lo<18446744073709551616) (fl:finW lo) (hh:hi<18446744073709551616) (fh:finW hi) (hi1:i≤p) (h1:1≤p) (hp:p≤1024) (hV:lnV17 lo hi i p≠0) :
 ∃ K t m,Lies K t m (lnV17 lo hi i p).natAbs p∧∀ mode:Int,0≤mode→mode≤4→qR17 (gV 1074 (lnV17 lo hi i p)) (gV 0 (p:Int)) mode=(rK mode (decide (lnV17 lo hi i p<0)) K t m+(if lnV17 lo hi i p<0 then 9223372036854775808 else 0),0):=by
 obtain ⟨z,hz⟩:∃ z,z=2200:=⟨_,rfl⟩;have bV:=ln_bd17 hl fl hh fh hi1 hp z hz
 have bD:Bd z (p:Int):=by
  unfold Bd;rw [Int.natAbs_natCast]
  have q:1024≤2^z:=by
   have:2^10≤2^z:=Nat.pow_le_pow_right (by decide) (by omega)
   omega
  omega
 obtain ⟨u,hu⟩:∃ u,u=1074:=⟨_,rfl⟩;obtain ⟨K,t,m,hL,hR⟩:=qR_ok16 (u:=u) (v:=0) (k:=z) (V:=lnV17 lo hi i p) (D:=(p:Int)) (by omega) (by omega) (by omega) hV (by omega) bV bD
 refine ⟨K,t,m,?_,fun mode m0 m4=>?_⟩
 · have:=hL u hu
   rw [Nat.add_zero,Int.natAbs_natCast] at this
   have h2:=this.ratio16 (V':=(lnV17 lo hi i p).natAbs) (S':=p) (by omega) (by
    rw [Nat.mul_assoc,Nat.mul_comm (2^u) p])
   exact h2.lies
 · have:=hR mode m0 m4
   rw [hu] at this;exact this
theorem ed_at {lo hi i p K:Nat}{t:Bool}{m:Int}(hl:lo<18446744073709551616) (fl:finW lo) (hh:hi<18446744073709551616) (fh:finW hi) (hi1:i≤p) (h1:1≤p) (hp:p≤1024) (hV:0<lnV17 lo hi i p) (hK:Lies K t m (lnV17 lo hi i p).natAbs p):edW lo hi i p=rK 0 false K t m:=by
 obtain ⟨K',t',m',h2,h3⟩:=ed_lies hl fl hh fh hi1 h1 hp (by omega)
 unfold edW;rw [h3 0 (by omega) (by omega),decide_eq_false (by omega),if_neg (by omega),rK_same (h2.same hK)]
 rfl
theorem ed_zero {lo hi i p:Nat}(h1:1≤p) (hp:p≤1024) (hV:lnV17 lo hi i p=0) (mode:Int) (m0:0≤mode) (m4:mode≤4):qR17 (gV 1074 (lnV17 lo hi i p)) (gV 0 (p:Int)) mode=(0,0):=by
 obtain ⟨z,hz⟩:∃ z,z=2200:=⟨_,rfl⟩
 have bD:Bd z (p:Int):=by
  unfold Bd;rw [Int.natAbs_natCast]
  have q:1024≤2^z:=by
   have:2^10≤2^z:=Nat.pow_le_pow_right (by decide) (by omega)
   omega
  omega
 obtain ⟨Y,f,ho2,hY,hf0,hf1,hv2,hbl2,F2⟩:=g_parts16 (u:=0) (V:=(p:Int)) (by omega) (by omega) (by omega:z≤90000) bD
 rw [decide_eq_false (by omega)] at ho2 F2
 have hm2:mkS false Y f=some (false,Y,f):=mkS_idem F2;rw [hV,g_zero];unfold qR17;rw [ho2]
 show quoR rndS ⟨false,.bool false,0,0,false,.bool false,Y,f⟩ mode=_
 have hm1:mkS false 0 0=some (false,0,0):=mkS_zero _ _;unfold quoR;rw [if_neg (by omega),if_pos (by rw [errL_one];show errN 0 false 0 Y false f=0;unfold errN;rw [if_neg (by unfold sgn;simp;split <;> omega),hm1,hm2];simp [dX];omega),hm1,hm2]
 show rndS (quoZ false 0 0 Y f) mode=_
 rw [quoZ_nought false 0 Y f (by omega) hbl2]
 have hc:mode=0∨mode=1∨mode=2∨mode=3∨mode=4:=by omega
 rcases hc with rfl|rfl|rfl|rfl|rfl <;> first|rfl|decide +kernel
theorem ed_none {lo hi i p:Nat}(h1:1≤p) (hp:p≤1024) (hV:lnV17 lo hi i p=0):edW lo hi i p=0:=by
 unfold edW;rw [ed_zero h1 hp hV 0 (by omega) (by omega)]
theorem rK_le17 {mode:Int}{n:Bool}{K:Nat}{t:Bool}{m:Int}:rK mode n K t m≤K+1:=by
 unfold rK
 split
 · omega
 · split <;> omega
theorem ed_W64 {lo hi i p:Nat}(hl:lo<18446744073709551616) (fl:finW lo) (hh:hi<18446744073709551616) (fh:finW hi) (hi1:i≤p) (h1:1≤p) (hp:p≤1024):edW lo hi i p<18446744073709551616:=by
 by_cases hV:lnV17 lo hi i p=0
 · rw [ed_none h1 hp hV];omega
 · obtain ⟨K,t,m,h2,h3⟩:=ed_lies hl fl hh fh hi1 h1 hp hV
   unfold edW;rw [h3 0 (by omega) (by omega)]
   have q1:=h2.fin;have q2:=rK_le17 (mode:=0) (n:=decide (lnV17 lo hi i p<0)) (K:=K) (t:=t) (m:=m);simp only
   split <;> omega
theorem edL_W64 {lo hi p:Nat}(hl:lo<18446744073709551616) (fl:finW lo) (hh:hi<18446744073709551616) (fh:finW hi) (h1:1≤p) (hp:p≤1023):W64 (edL lo hi p):=by
 intro x hx;unfold edL at hx;obtain ⟨i,hi',rfl⟩:=List.mem_map.1 hx;have:=List.mem_range.1 hi';exact ed_W64 hl fl hh fh (by omega) h1 (by omega)
abbrev one17:Nat:=4607182418800017408
theorem lies_own17 {L V S:Nat}(hL:L<9218868437227405312) (hS:0<S) (hV:V=vK L*S):Lies L true 0 V S:=⟨hL,hS,fun _=>hV,fun h=>(by cases h),fun h=>(by cases h),fun h=>(by cases h)⟩
theorem ed_own17 {lo hi i p L:Nat}(hl:lo<18446744073709551616) (fl:finW lo) (hh:hi<18446744073709551616) (fh:finW hi) (hi1:i≤p) (h1:1≤p) (hp:p≤1024) (hL:L<9218868437227405312) (hV:0<lnV17 lo hi i p) (he:(lnV17 lo hi i p).natAbs=vK L*p):edW lo hi i p=L :=
 ed_at hl fl hh fh hi1 h1 hp hV (lies_own17 hL (by omega) he)
theorem edL_quarters:edL 0 one17 4=[0,4598175219545276416,4602678819172646912,4604930618986332160,4607182418800017408]:=by
 have f0:finW 0:=by decide
 have f1:finW one17:=by decide
 have e0:edW 0 one17 0 4=0:=ed_none (by omega) (by omega) (by decide +kernel)
 have e1:edW 0 one17 1 4=4598175219545276416:=ed_own17 (by decide) f0 (by decide) f1 (by omega) (by omega) (by omega) (by omega) (by decide +kernel) (by decide +kernel)
 have e2:edW 0 one17 2 4=4602678819172646912:=ed_own17 (by decide) f0 (by decide) f1 (by omega) (by omega) (by omega) (by omega) (by decide +kernel) (by decide +kernel)
 have e3:edW 0 one17 3 4=4604930618986332160:=ed_own17 (by decide) f0 (by decide) f1 (by omega) (by omega) (by omega) (by omega) (by decide +kernel) (by decide +kernel)
 have e4:edW 0 one17 4 4=4607182418800017408:=ed_own17 (by decide) f0 (by decide) f1 (by omega) (by omega) (by omega) (by omega) (by decide +kernel) (by decide +kernel)
 show [edW 0 one17 0 4,edW 0 one17 1 4,edW 0 one17 2 4,edW 0 one17 3 4,edW 0 one17 4 4]=_
 rw [e0,e1,e2,e3,e4]
end
end Go.Proofs.YtgfemeencgjneaaGreatDoor
