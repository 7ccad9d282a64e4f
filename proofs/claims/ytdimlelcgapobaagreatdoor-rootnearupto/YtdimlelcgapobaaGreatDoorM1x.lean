import Derived.Deep.LoopGhost
import Derived.Test.YtdimlelcgapobaaGreatDoorRows
import Derived.WalkKit
import Derived.OwnWalk
import Derived.Below
import Derived.Laws.OwnMore
import Derived.Laws.CopyOwn
import Derived.Laws.Bits64b
import Derived.Lib.Strings
import Derived.Lib.Slices
import Derived.Lib.Small
import Derived.Lib.Walk
import Derived.Lib.BitFns
import Derived.Lib.Tables
import Derived.Lib.ItoaNum
import Derived.Lib.TrailingZeros
set_option linter.unusedVariables false
set_option linter.unusedSimpArgs false
set_option maxHeartbeats 16000000
set_option maxRecDepth 20000
namespace Go.Proofs.YtdimlelcgapobaaGreatDoor
theorem ai {a b:Prop} (x:a) (y:b):a∧b:=⟨x,y⟩
theorem sd {a:Prop} (x:a):Aside a:=x
section
def pw (k:Nat):Nat:=4294967296^k
theorem pw_zero:pw 0=1:=by simp [pw]
theorem pw_succ (k:Nat):pw (k+1)=4294967296*pw k:=by simp [pw,Nat.pow_succ,Nat.mul_comm]
theorem pw_add (i k:Nat):pw (i+k)=pw i*pw k:=by simp [pw,Nat.pow_add]
theorem pw_pos (k:Nat):0<pw k:=Nat.pow_pos (by decide)
theorem pw_mono {i k:Nat}(h:i≤k):pw i≤pw k:=Nat.pow_le_pow_right (by decide) h
def val:List Nat→Nat
 | []=>0
 | x::xs=>x+4294967296*val xs
def Wf (xs:List Nat):Prop:=∀ x ∈ xs,x<4294967296
theorem Wf.nil:Wf []:=by intro x hx;cases hx
theorem Wf.cons {x:Nat}{xs:List Nat}(hx:x<4294967296) (h:Wf xs):Wf (x::xs):=by
 intro y hy;cases hy with
 | head=>exact hx
 | tail _ hy=>exact h y hy
theorem Wf.head {x:Nat}{xs:List Nat}(h:Wf (x::xs)):x<4294967296:=h x (by simp)
theorem Wf.tail {x:Nat}{xs:List Nat}(h:Wf (x::xs)):Wf xs:=fun y hy=>h y (by simp [hy])
theorem Wf.get {xs:List Nat}(h:Wf xs) (k:Nat):xs.getD k 0<4294967296:=by
 by_cases hk:k<xs.length
 · rw [List.getD_eq_getElem?_getD,List.getElem?_eq_getElem hk];exact h _ (List.getElem_mem hk)
 · rw [List.getD_eq_getElem?_getD,List.getElem?_eq_none (by omega)];decide
theorem Wf.take {xs:List Nat}(h:Wf xs) (k:Nat):Wf (xs.take k):=fun y hy=>h y (List.mem_of_mem_take hy)
theorem Wf.drop {xs:List Nat}(h:Wf xs) (k:Nat):Wf (xs.drop k):=fun y hy=>h y (List.mem_of_mem_drop hy)
theorem Wf.append {xs ys:List Nat}(h:Wf xs) (k:Wf ys):Wf (xs++ys):=by
 intro y hy;rcases List.mem_append.1 hy with hy | hy
 · exact h y hy
 · exact k y hy
theorem Wf.set {xs:List Nat}(h:Wf xs) (k x:Nat) (hx:x<4294967296):Wf (xs.set k x):=by
 intro y hy;rcases List.mem_or_eq_of_mem_set hy with hy | hy
 · exact h y hy
 · omega
theorem Wf.zeros (n:Nat):Wf (List.replicate n 0):=by intro y hy;have:=List.eq_of_mem_replicate hy;omega
theorem val_append (xs ys:List Nat):val (xs++ys)=val xs+pw xs.length*val ys:=by
 induction xs with
 | nil=>simp [val,pw_zero]
 | cons x xs ih=>simp only [List.cons_append,val,ih,List.length_cons,pw_succ];grind
theorem val_zeros (n:Nat):val (List.replicate n 0)=0:=by
 induction n with
 | zero=>rfl
 | succ n ih=>simp [List.replicate_succ,val,ih]
theorem val_take_succ (xs:List Nat) (k:Nat) (hk:k<xs.length):val (xs.take (k+1))=val (xs.take k)+pw k*xs.getD k 0:=by
 rw [List.take_succ_eq_append_getElem hk,val_append,List.length_take,Nat.min_eq_left (by omega),List.getD_eq_getElem?_getD,List.getElem?_eq_getElem hk]
 simp [val]
theorem val_take_drop (xs:List Nat) (k:Nat) (hk:k≤xs.length):val xs=val (xs.take k)+pw k*val (xs.drop k):=by
 have h:=val_append (xs.take k) (xs.drop k);rw [List.take_append_drop,List.length_take,Nat.min_eq_left hk] at h;exact h
theorem val_drop_succ (xs:List Nat) (k:Nat) (hk:k<xs.length):val (xs.drop k)=xs.getD k 0+4294967296*val (xs.drop (k+1)):=by
 rw [List.drop_eq_getElem_cons hk,val,List.getD_eq_getElem?_getD,List.getElem?_eq_getElem hk]
 rfl
theorem val_lt (xs:List Nat) (h:Wf xs):val xs<pw xs.length:=by
 induction xs with
 | nil=>simp [val,pw_zero]
 | cons x xs ih =>
   have h1:=ih h.tail;have h2:=h.head;simp only [val,List.length_cons,pw_succ];omega
def ws (n:Nat):List Nat:=if h:n=0 then [] else n%4294967296::ws (n/4294967296)
termination_by n
decreasing_by omega
theorem ws_zero:ws 0=[]:=by rw [ws];simp
theorem ws_pos (n:Nat) (h:n≠0):ws n=n%4294967296::ws (n/4294967296):=by rw [ws];simp [h]
theorem val_ws (n:Nat):val (ws n)=n:=by
 induction n using Nat.strongRecOn with
 | _ n ih =>
   by_cases h:n=0
   · subst h;simp [ws_zero,val]
   · rw [ws_pos n h,val,ih (n/4294967296) (by omega)];omega
theorem wf_ws (n:Nat):Wf (ws n):=by
 induction n using Nat.strongRecOn with
 | _ n ih =>
   by_cases h:n=0
   · subst h;rw [ws_zero];exact Wf.nil
   · rw [ws_pos n h];exact Wf.cons (by omega) (ih _ (by omega))
def nl:List Nat→Nat
 | []=>0
 | x::xs=>if nl xs=0∧x=0 then 0 else nl xs+1
theorem nl_le (xs:List Nat):nl xs≤xs.length:=by
 induction xs with
 | nil=>simp [nl]
 | cons x xs ih=>simp only [nl,List.length_cons];split <;> omega
theorem nl_zero_iff (xs:List Nat):nl xs=0↔val xs=0:=by
 induction xs with
 | nil=>simp [nl,val]
 | cons x xs ih=>simp only [nl,val];split <;> omega
theorem form_eq (xs:List Nat) (h:Wf xs):xs.take (nl xs)=ws (val xs):=by
 induction xs with
 | nil=>simp [nl,val,ws_zero]
 | cons x xs ih =>
   have h1:=ih h.tail;have h2:=h.head
   by_cases h3:nl xs=0∧x=0
   · have h4:=(nl_zero_iff xs).1 h3.1
     simp [nl,h3,val,h4,ws_zero]
   · have h5:val (x::xs)≠0:=by
      intro h6;simp only [val] at h6;exact h3 ⟨(nl_zero_iff xs).2 (by omega),by omega⟩
     rw [ws_pos _ h5];simp only [nl,if_neg h3,val,List.take_succ_cons];rw [show (x+4294967296*val xs)%4294967296=x by omega,show (x+4294967296*val xs)/4294967296=val xs by omega,h1]
theorem nl_eq_length (xs:List Nat) (h:Wf xs):nl xs=(ws (val xs)).length:=by
 rw [←form_eq xs h,List.length_take,Nat.min_eq_left (nl_le xs)]
theorem val_form (xs:List Nat) (h:Wf xs):val (xs.take (nl xs))=val xs:=by rw [form_eq xs h,val_ws]
theorem nl_ws (n:Nat):nl (ws n)=(ws n).length:=by rw [nl_eq_length _ (wf_ws n),val_ws]
theorem ws_len_le (n k:Nat):(ws n).length≤k↔n<pw k:=by
 constructor
 · intro h
   have h1:=val_lt (ws n) (wf_ws n);rw [val_ws] at h1;exact Nat.lt_of_lt_of_le h1 (pw_mono h)
 · intro h
   induction k generalizing n with
   | zero=>rw [pw_zero] at h;obtain rfl:n=0:=by omega
           simp [ws_zero]
   | succ k ih =>
     by_cases h0:n=0
     · subst h0;simp [ws_zero]
     · rw [ws_pos n h0,List.length_cons]
       rw [pw_succ] at h;have:=ih (n/4294967296) (by omega)
       omega
theorem ws_len_eq (n k:Nat) (h1:pw k≤n) (h2:n<pw (k+1)):(ws n).length=k+1:=by
 have a:=(ws_len_le n (k+1)).2 h2;have b:¬ (ws n).length≤k:=fun h=>by have:=(ws_len_le n k).1 h;omega
 omega
theorem ws_len_ge (n:Nat) (h:n≠0):pw ((ws n).length-1)≤n:=by
 have h1:¬ (ws n).length≤(ws n).length-1:=by
  have:(ws n).length≠0:=by rw [ws_pos n h];simp
  omega
 rw [ws_len_le] at h1;omega
theorem ws_len_lt (n:Nat):n<pw (ws n).length:=(ws_len_le n _).1 (Nat.le_refl _)
theorem ws_len_zero (n:Nat):(ws n).length=0↔n=0:=by
 constructor
 · intro h;have:=ws_len_lt n;rw [h,pw_zero] at this;omega
 · intro h;subst h;simp [ws_zero]
theorem nl_stop (xs:List Nat) (k:Nat) (hk:k≤xs.length) (h0:∀ j,k≤j→j<xs.length→xs.getD j 0=0) (h1:k=0∨xs.getD (k-1) 0≠0):nl xs=k:=by
 induction xs generalizing k with
 | nil=>simp at hk;simp [nl,hk]
 | cons x xs ih =>
   cases k with
   | zero =>
     have hx:=h0 0 (by omega) (by simp)
     have:nl xs=0:=ih 0 (by omega) (fun j _ hj=>by have:=h0 (j+1) (by omega) (by simp;omega);simpa using this) (.inl rfl)
     simp at hx;simp [nl,this,hx]
   | succ k =>
     cases k with
     | zero =>
       have:nl xs=0:=ih 0 (by omega) (fun j _ hj=>by have:=h0 (j+1) (by omega) (by simp;omega);simpa using this) (.inl rfl)
       simp at h1;simp [nl,this,h1]
     | succ k =>
       have:nl xs=k+1:=ih (k+1) (by simpa using hk) (fun j hj hj2=>by have:=h0 (j+1) (by omega) (by simp;omega);simpa using this) (.inr (by simpa using h1))
       simp [nl,this]
theorem nl_last (xs:List Nat) (h:nl xs≠0):xs.getD (nl xs-1) 0≠0:=by
 induction xs with
 | nil=>simp [nl] at h
 | cons x xs ih =>
   by_cases h1:nl xs=0
   · have hx:x≠0:=by intro hx;simp [nl,h1,hx] at h
     simp [nl,h1,hx]
   · have h2:¬ (nl xs=0∧x=0):=by omega
     have:=ih h1;simp only [nl,if_neg h2];obtain ⟨m,hm⟩:∃ m,nl xs=m+1:=⟨nl xs-1,by omega⟩
     rw [hm] at this ⊢;simpa using this
end
section
open Go.RowKit
theorem hid {p:Prop}(h:p):Hid p:=h
def U (n:Nat):Value:=.int .u32 (n:Int)
def Own (w:World) (g:Nat) (L:List Nat):Prop:=w.heap[g]?=some (.cells (L.map U).toArray 23 (0,0))
theorem Own.lt {w:World}{g:Nat}{L:List Nat}(h:Own w g L):g<w.heap.size:=(Array.getElem?_eq_some_iff.1 h).1
theorem Own.cell {w:World}{g:Nat}{L:List Nat}(h:Own w g L) (i:Nat) (hi:i<L.length):w.cell? ⟨g,i,none⟩=some (.int .u32 ((L.getD i 0:Nat):Int)):=by
 unfold Own at h;simp [World.cell?,h,U,hi]
theorem Own.frozen {w:World}{g:Nat}{L:List Nat}(h:Own w g L) (i:Nat):w.frozen? ⟨g,i,none⟩=false:=by
 unfold Own at h;simp [World.frozen?,h]
theorem Own.set {w:World}{g:Nat}{L:List Nat}(h:Own w g L) (i x:Nat):Own (w.setCell ⟨g,i,none⟩ (.int .u32 (x:Int))) g (L.set i x):=by
 unfold Own at h ⊢;simp only [World.setCell,Array.getElem?_modify,h];simp [U,List.map_set]
theorem Own.setOther {w:World}{g:Nat}{L:List Nat}(h:Own w g L) {a:Addr}(ha:a.block≠g) (u:Value):Own (w.setCell a u) g L:=by
 unfold Own at h ⊢;rw [Below.heap_setCell _ _ _ _ (fun e=>ha e.symm)]
 exact h
theorem Own.alloc {w:World}{g:Nat}{L:List Nat}(h:Own w g L) (o:Obj):Own (w.alloc o) g L:=by
 have:=h.lt;unfold Own at h ⊢;rw [Below.heap_alloc _ _ _ this];exact h
theorem Own.drew {w:World}{g:Nat}{L:List Nat}(h:Own w g L):Own w.drew g L:=h
theorem Own.below {w w':World}{g B:Nat}{L:List Nat}(h:Own w g L) (hb:Below B w w') (hg:g<B):Own w' g L:=by
 unfold Own at h ⊢;rw [hb.block g hg];exact h
structure But (g:Nat) (w w':World):Prop where
 os:w'.os=w.os
 tape:w'.tape=w.tape
 output:w'.output=w.output
 size:w.heap.size≤w'.heap.size
 block:∀ k,k<w.heap.size→k≠g→w'.heap[k]?=w.heap[k]?
theorem But.refl (g:Nat) (w:World):But g w w:=⟨rfl,rfl,rfl,Nat.le_refl _,fun _ _ _=>rfl⟩
theorem But.trans {g:Nat}{a b c:World}(h:But g a b) (k:But g b c):But g a c :=
 ⟨k.os.trans h.os,k.tape.trans h.tape,k.output.trans h.output,Nat.le_trans h.size k.size,fun i hi hg=>(k.block i (Nat.lt_of_lt_of_le hi h.size) hg).trans (h.block i hi hg)⟩
theorem But.drew {g:Nat}{a w:World}(h:But g a w):But g a w.drew:=⟨h.os,h.tape,h.output,h.size,h.block⟩
theorem But.set {g:Nat}{a w:World}(h:But g a w) (i:Nat) (u:Value):But g a (w.setCell ⟨g,i,none⟩ u) :=
 h.trans ⟨rfl,rfl,rfl,by simp [World.setCell],fun k _ hk=>Below.heap_setCell _ _ _ _ hk⟩
theorem But.of_below {g:Nat}{a w w':World}(h:But g a w) (hb:Below w.heap.size w w'):But g a w' :=
 h.trans ⟨hb.os,hb.tape,hb.output,hb.size,fun k hk _=>hb.block k hk⟩
theorem But.below {g B:Nat}{a w w':World}(h:Below B a w) (hb:But g w w') (hB:B≤w.heap.size) (hg:B≤g):Below B a w' :=
 h.trans ⟨hb.os,hb.tape,hb.output,hb.size,fun k hk=>hb.block k (by omega) (by omega)⟩
def Rd (B:Nat) (w:World) (ao:Option Addr) (xs:List Nat):Prop :=
 xs≠[]→∃ b off,b<B∧ao=some ⟨b,off,none⟩∧∀ i,i<xs.length→w.cell? ⟨b,off+i,none⟩=some (.int .u32 ((xs.getD i 0:Nat):Int))
theorem Rd.nil (B:Nat) (w:World) (ao:Option Addr):Rd B w ao []:=fun h=>absurd rfl h
theorem Rd.below {B:Nat}{w w':World}{ao:Option Addr}{xs:List Nat}(h:Rd B w ao xs) (hb:Below B w w'):Rd B w' ao xs:=by
 intro hx;obtain ⟨b,off,hlt,rfl,hc⟩:=h hx;exact ⟨b,off,hlt,rfl,fun i hi=>(hb.cell (p:=⟨b,off+i,none⟩) hlt).trans (hc i hi)⟩
theorem Rd.but {B g:Nat}{w w':World}{ao:Option Addr}{xs:List Nat}(h:Rd B w ao xs) (hb:But g w w') (hB:B≤w.heap.size) (hg:B≤g):Rd B w' ao xs :=
 h.below (But.below (Below.refl _ _) hb hB hg)
theorem Rd.mono {B B':Nat}{w:World}{ao:Option Addr}{xs:List Nat}(h:Rd B w ao xs) (hB:B≤B'):Rd B' w ao xs:=by
 intro hx;obtain ⟨b,off,hlt,rfl,hc⟩:=h hx;exact ⟨b,off,by omega,rfl,hc⟩
theorem Rd.take {B:Nat}{w:World}{ao:Option Addr}{xs:List Nat}(h:Rd B w ao xs) (k:Nat):Rd B w ao (xs.take k):=by
 intro hx;have hx':xs≠[]:=by intro e;subst e;simp at hx
 obtain ⟨b,off,hlt,rfl,hc⟩:=h hx';refine ⟨b,off,hlt,rfl,fun i hi=>?_⟩
 simp only [List.length_take] at hi;rw [hc i (by omega)]
 simp [List.getD_eq_getElem?_getD,show i<k by omega]
theorem Rd.ofOwn {w:World}{g:Nat}{L:List Nat}(h:Own w g L) (off n:Nat):Rd (g+1) w (some ⟨g,off,none⟩) ((L.drop off).take n):=by
 intro _;refine ⟨g,off,by omega,rfl,fun i hi=>?_⟩
 simp only [List.length_take,List.length_drop] at hi;rw [h.cell _ (by omega)]
 simp [List.getD_eq_getElem?_getD,show i<n by omega]
def Nt (lo:Nat) (w:World) (v:Value) (X:Nat):Prop:=w.ownsRow lo 23 1 v (ws X).length ((ws X).map U)
theorem Nt.nil (lo:Nat) (w:World):Nt lo w (.slice none 0 0) 0:=by
 unfold Nt;rw [ws_zero];exact World.ownsRow_nil _ _ _ _
theorem Nt.ofOwn {lo:Nat}{w:World}{g:Nat}{L:List Nat}(h:Own w g L) (hlo:lo≤g) (hL:Wf L) (hm:L.length≤maxLen) :
 Nt lo w (.slice (some ⟨g,0,none⟩) (nl L) L.length) (val L):=by
 unfold Nt;have e:=form_eq L hL;have hn:=nl_le L;rw [←e];refine ⟨by simp,.inr ⟨g,L.length,(L.map U).toArray,?_,hlo,h,?_,hm,by simp,by simp⟩⟩
 · simp [Nat.min_eq_left hn]
 · simp;omega
theorem Nt.shape {lo:Nat}{w:World}{v:Value}{X:Nat}(h:Nt lo w v X):∃ ao cap,v=.slice ao (ws X).length cap∧(ws X).length≤cap∧cap≤maxLen∧Rd w.heap.size w ao (ws X):=by
 rcases h.2 with ⟨rfl,h0⟩|⟨g,cap,cur,rfl,hlo,hg,hn,hm,hs,ht⟩
 · refine ⟨none,0,by rw [h0],by omega,by unfold maxLen;omega,?_⟩
   have:ws X=[]:=List.length_eq_zero_iff.1 h0;rw [this];exact Rd.nil _ _ _
 · refine ⟨_,cap,rfl,hn,hm,fun _=>⟨g,0,(Array.getElem?_eq_some_iff.1 hg).1,rfl,fun i hi=>?_⟩⟩
   have:=h.cells (g:=g) (by simp [Value.ownBlock]) i (U ((ws X).getD i 0)) (by simp [hi])
   have e:(⟨g,0,none⟩:Addr).add i=⟨g,0+i,none⟩:=by unfold Addr.add;split <;> simp_all
   rw [e] at this;simpa [U] using this
theorem Nt.below {lo:Nat}{w w':World}{v:Value}{X:Nat}(h:Nt lo w v X) (hb:Below w.heap.size w w'):Nt lo w' v X:=by
 refine ⟨h.1,?_⟩
 rcases h.2 with hn|⟨g,cap,cur,rfl,hlo,hg,rest⟩
 · exact .inl hn
 · refine .inr ⟨g,cap,cur,rfl,hlo,?_,rest⟩
   rw [hb.block g (Array.getElem?_eq_some_iff.1 hg).1];exact hg
theorem Nt.mono {lo lo':Nat}{w:World}{v:Value}{X:Nat}(h:Nt lo w v X) (hl:lo'≤lo):Nt lo' w v X:=by
 refine ⟨h.1,?_⟩
 rcases h.2 with hn|⟨g,cap,cur,rfl,hlo,rest⟩
 · exact .inl hn
 · exact .inr ⟨g,cap,cur,rfl,by omega,rest⟩
theorem Tryz.info23:(Tryz.prog.info? 23).map (fun i=>(i.zero,i.size,i.bytes))=some (some (.int .u32 0),1,4):=by kernel_rfl
end
section
open Go.RowKit
theorem trim_any (xs:List Nat) (ao:Option Addr) (n cap B:Nat) (w:World) (hn:n=xs.length) (hc:n≤cap) (hm:n≤9223372036854775807) (hR:Rd B w ao xs) :
 Calls Tryz.prog 119 #[.slice ao n cap] w fun r w'=>r=.returned (.slice ao (nl xs) cap)∧w'=w:=by
 by_cases hx:xs=[]
 · subst hx
   simp at hn;subst hn;go_enter Tryz.func119,Tryz.ntmps119;go_wp2
   go_loopg [0] 0 (fun g s wr=>s=.slice ao 0 cap∧wr=w)
   case atStart=>exact ⟨rfl,rfl⟩
   case round =>
    obtain ⟨rfl,rfl⟩:=hrel;go_wp2;go_ret;exact ⟨rfl,rfl⟩
 · obtain ⟨b,off,hB,rfl,hcell⟩:=hR hx
   have HN:Aside (n=xs.length):=hn;clear hn hR hx;go_enter Tryz.func119,Tryz.ntmps119;go_wp2
   go_loopg [0] n (fun g s wr=>g≤n∧s=.slice (some ⟨b,off,none⟩) g cap∧wr=w∧Aside (∀ j,g≤j→j<n→xs.getD j 0=0))
   case atStart=>exact ⟨Nat.le_refl _,rfl,rfl,fun j h1 h2=>by omega⟩
   case round =>
    obtain ⟨hk,rfl,rfl,hz⟩:=hrel
    by_cases hk0:gk=0
    · subst hk0
      go_wp2;go_ret;rw [nl_stop xs 0 (by omega) (fun j h1 h2=>hz.out j h1 (by have:=HN.out;omega)) (.inl rfl)]
      exact ⟨rfl,rfl⟩
    · obtain ⟨k,rfl⟩:∃ k,gk=k+1:=⟨gk-1,by omega⟩
      have hcx:=hcell k (by have:=HN.out;omega)
      obtain ⟨x,hxx⟩:∃ x:Nat,xs.getD k 0=x:=⟨_,rfl⟩;rw [hxx] at hcx;have HX:Aside (xs.getD k 0=x):=hxx;clear hxx hcell hk0
      by_cases h0:x=0
      · subst h0
        go_wp2
        go_roundg k
        case measure=>omega
        case rel =>
         refine ⟨by omega,rfl,rfl,fun j h1 h2=>?_⟩
         by_cases hj:j=k
         · subst hj;exact HX.out
         · exact hz.out j (by omega) h2
      · go_wp2
        go_ret;rw [nl_stop xs (k+1) (by have:=HN.out;omega) (fun j h1 h2=>hz.out j h1 (by have:=HN.out;omega)) (.inr (by have:=HX.out;rw [Nat.add_sub_cancel,this];exact h0))]
        exact ⟨rfl,rfl⟩
theorem size_any (xs:List Nat) (ao:Option Addr) (n cap B:Nat) (w:World) (hn:n=xs.length) (hm:n≤9223372036854775807) (hR:Rd B w ao xs) :
 Calls Tryz.prog 74 #[.slice ao n cap] w fun r w'=>r=.returned (.int .i64 (nl xs:Nat))∧w'=w:=by
 by_cases hx:xs=[]
 · subst hx
   simp at hn;subst hn;go_enter Tryz.func74,Tryz.ntmps74;go_wp2
   go_loopg [3] 0 (fun g s wr=>s=.int .i64 0∧wr=w)
   case atStart=>exact ⟨rfl,rfl⟩
   case round =>
    obtain ⟨rfl,rfl⟩:=hrel;go_wp2;go_ret;exact ⟨rfl,rfl⟩
 · obtain ⟨b,off,hB,rfl,hcell⟩:=hR hx
   have HN:Aside (n=xs.length):=hn;clear hn hR hx;go_enter Tryz.func74,Tryz.ntmps74;go_wp2
   go_loopg [3] n (fun g s wr=>g≤n∧s=.int .i64 (g:Nat)∧wr=w∧Aside (∀ j,g≤j→j<n→xs.getD j 0=0))
   case atStart=>exact ⟨Nat.le_refl _,rfl,rfl,fun j h1 h2=>by omega⟩
   case round =>
    obtain ⟨hk,rfl,rfl,hz⟩:=hrel
    by_cases hk0:gk=0
    · subst hk0
      go_wp2;go_ret;rw [nl_stop xs 0 (by omega) (fun j h1 h2=>hz.out j h1 (by have:=HN.out;omega)) (.inl rfl)]
      exact ⟨rfl,rfl⟩
    · obtain ⟨k,rfl⟩:∃ k,gk=k+1:=⟨gk-1,by omega⟩
      have hcx:=hcell k (by have:=HN.out;omega)
      obtain ⟨x,hxx⟩:∃ x:Nat,xs.getD k 0=x:=⟨_,rfl⟩;rw [hxx] at hcx;have HX:Aside (xs.getD k 0=x):=hxx;clear hxx hcell hk0
      by_cases h0:x=0
      · subst h0
        go_wp2
        go_roundg k
        case measure=>omega
        case rel =>
         refine ⟨by omega,by go_num,rfl,fun j h1 h2=>?_⟩
         by_cases hj:j=k
         · subst hj;exact HX.out
         · exact hz.out j (by omega) h2
      · go_wp2
        go_ret;rw [nl_stop xs (k+1) (by have:=HN.out;omega) (fun j h1 h2=>hz.out j h1 (by have:=HN.out;omega)) (.inr (by have:=HX.out;rw [Nat.add_sub_cancel,this];exact h0))]
        exact ⟨rfl,rfl⟩
end
section
open Go.RowKit
theorem wrap_u32n (n:Int):IntKind.u32.wrap n=n%4294967296:=by simp [IntKind.wrap,IntKind.signed,IntKind.bits]
theorem ofInt32 (a:Nat) (ha:a<4294967296):(BitVec.ofInt 32 (a:Int)).toNat=a:=by
 rw [BitVec.ofInt_natCast,BitVec.toNat_ofNat];exact Nat.mod_eq_of_lt (by omega)
theorem and32 (a b:Nat) (ha:a<4294967296) (hb:b<4294967296):bits .and .u32 (a:Int) (b:Int)=((a &&& b:Nat):Int):=by
 have hx:a &&& b<2^32:=Nat.and_lt_two_pow _ (by omega)
 show IntKind.u32.wrap ((BitVec.ofInt 32 (a:Int) &&& BitVec.ofInt 32 (b:Int)).toNat:Int)=_
 rw [BitVec.toNat_and,ofInt32 a ha,ofInt32 b hb,wrap_u32n];omega
theorem or32 (a b:Nat) (ha:a<4294967296) (hb:b<4294967296):bits .or .u32 (a:Int) (b:Int)=((a ||| b:Nat):Int):=by
 have hx:a ||| b<2^32:=Nat.or_lt_two_pow (by omega) (by omega)
 show IntKind.u32.wrap ((BitVec.ofInt 32 (a:Int) ||| BitVec.ofInt 32 (b:Int)).toNat:Int)=_
 rw [BitVec.toNat_or,ofInt32 a ha,ofInt32 b hb,wrap_u32n];omega
theorem xor32 (a b:Nat) (ha:a<4294967296) (hb:b<4294967296):bits .xor .u32 (a:Int) (b:Int)=((a ^^^ b:Nat):Int):=by
 have hx:a ^^^ b<2^32:=Nat.xor_lt_two_pow (by omega) (by omega)
 show IntKind.u32.wrap ((BitVec.ofInt 32 (a:Int) ^^^ BitVec.ofInt 32 (b:Int)).toNat:Int)=_
 rw [BitVec.toNat_xor,ofInt32 a ha,ofInt32 b hb,wrap_u32n];omega
theorem borrow_nat (x y c d:Nat) (hx:x<4294967296) (hy:y<4294967296) (hc:c≤1) (hd:(d:Int)=((x:Int)-y-c)%4294967296) :
 (((4294967295 ^^^ x) &&& y) ||| ((4294967295 ^^^ (x ^^^ y)) &&& d))/2147483648=if x<y+c then 1 else 0:=by
 have e:∀ n:Nat,n/2147483648=n >>> 31:=fun n=>by rw [Nat.shiftRight_eq_div_pow]
 rw [e,Nat.shiftRight_or_distrib,Nat.shiftRight_and_distrib,Nat.shiftRight_and_distrib,Nat.shiftRight_xor_distrib,Nat.shiftRight_xor_distrib,Nat.shiftRight_xor_distrib,←e,←e,←e,←e];have hd2:d<4294967296:=by omega
 have h1:x/2147483648=0∨x/2147483648=1:=by omega
 have h2:y/2147483648=0∨y/2147483648=1:=by omega
 have h3:d/2147483648=0∨d/2147483648=1:=by omega
 rw [show 4294967295/2147483648=1 from rfl]
 rcases h1 with h1|h1 <;> rcases h2 with h2|h2 <;> rcases h3 with h3|h3 <;> rw [h1,h2,h3] <;> split <;> first|rfl|(exfalso;omega)
theorem borrow_int (x y c:Nat) (hx:x<4294967296) (hy:y<4294967296) (hc:c≤1) :
 bits BinOp.or IntKind.u32 (bits BinOp.and IntKind.u32 (bits BinOp.xor IntKind.u32 IntKind.u32.max x) y)
  (bits BinOp.and IntKind.u32
   (bits BinOp.xor IntKind.u32 IntKind.u32.max (bits BinOp.xor IntKind.u32 x y))
   (((x:Int)-y-c)%4294967296)) /
  2147483648=((if x<y+c then 1 else 0:Nat):Int):=by
 obtain ⟨d,hd⟩:∃ d:Nat,(d:Int)=((x:Int)-y-c)%4294967296:=⟨(((x:Int)-y-c)%4294967296).toNat,by omega⟩
 have hd2:d<4294967296:=by omega
 have hm:IntKind.u32.max=((4294967295:Nat):Int):=by decide
 have hn:∀ a b:Nat,a<4294967296→b<4294967296→a ^^^ b<4294967296:=fun a b ha hb=>Nat.xor_lt_two_pow (n:=32) ha hb
 have ha:∀ a b:Nat,b<4294967296→a &&& b<4294967296:=fun a b hb=>Nat.and_lt_two_pow (n:=32) a hb
 rw [hm,xor32 x y hx hy,xor32 _ _ (by decide) hx,xor32 _ _ (by decide) (hn _ _ hx hy),and32 _ _ (hn _ _ (by decide) hx) hy,←hd,and32 _ _ (hn _ _ (by decide) (hn _ _ hx hy)) hd2,
  or32 _ _ (ha _ _ hy) (ha _ _ hd2),←borrow_nat x y c d hx hy hc hd]
 omega
end
section
open Go.RowKit
theorem add32_int (x y c:Int) (w:World) (hx:0≤x) (hx2:x<4294967296) (hy:0≤y) (hy2:y<4294967296) (hc:0≤c) (hc2:c≤1) :
 Calls Tryz.prog 179 #[.int .u32 x,.int .u32 y,.int .u32 c] w fun r w'=>r=.returned (.tuple #[.int .u32 ((x+y+c)%4294967296),.int .u32 ((x+y+c)/4294967296)])∧w'=w:=by
 go_enter Tryz.func179,Tryz.ntmps179;go_wp2
 go_ret2
 exact ⟨rfl,rfl⟩
theorem add32_nat (x y c s d:Nat) (w:World) (hx:x<4294967296) (hy:y<4294967296) (hc:c≤1) (hs:s=(x+y+c)%4294967296) (hd:d=(x+y+c)/4294967296) :
 Calls Tryz.prog 179 #[.int .u32 (x:Int),.int .u32 (y:Int),.int .u32 (c:Int)] w fun r w'=>r=.returned (.tuple #[.int .u32 (s:Int),.int .u32 (d:Int)])∧w'=w:=by
 have h:=add32_int x y c w (by omega) (by omega) (by omega) (by omega) (by omega) (by omega)
 rw [show ((x:Int)+y+c)%4294967296=(s:Int) by omega,show ((x:Int)+y+c)/4294967296=(d:Int) by omega] at h
 exact h
theorem sub32_int (x y c bo:Int) (w:World) (hx:0≤x) (hx2:x<4294967296) (hy:0≤y) (hy2:y<4294967296) (hc:0≤c) (hc2:c≤1)
 (hb:bits BinOp.or IntKind.u32 (bits BinOp.and IntKind.u32 (bits BinOp.xor IntKind.u32 IntKind.u32.max x) y)
  (bits BinOp.and IntKind.u32
   (bits BinOp.xor IntKind.u32 IntKind.u32.max (bits BinOp.xor IntKind.u32 x y))
   ((x-y-c)%4294967296)) /
  2147483648=bo) :
 Calls Tryz.prog 158 #[.int .u32 x,.int .u32 y,.int .u32 c] w fun r w'=>r=.returned (.tuple #[.int .u32 ((x-y-c)%4294967296),.int .u32 bo])∧w'=w:=by
 go_enter Tryz.func158,Tryz.ntmps158;go_wp2
 all_goals first | (go_ret2;exact ⟨rfl,rfl⟩) | skip
theorem sub32_nat (x y c s d:Nat) (w:World) (hx:x<4294967296) (hy:y<4294967296) (hc:c≤1) (hs:(s:Int)=((x:Int)-y-c)%4294967296) (hd:d=if x<y+c then 1 else 0) :
 Calls Tryz.prog 158 #[.int .u32 (x:Int),.int .u32 (y:Int),.int .u32 (c:Int)] w fun r w'=>r=.returned (.tuple #[.int .u32 (s:Int),.int .u32 (d:Int)])∧w'=w:=by
 have h:=sub32_int x y c d w (by omega) (by omega) (by omega) (by omega) (by omega) (by omega) (by rw [borrow_int x y c hx hy hc,←hd])
 rw [←hs] at h;exact h
theorem long_any (n:Nat) (ao:Option Addr) (cap:Nat) (w:World) :
 Calls Tryz.prog 134 #[.slice ao n cap] w fun r w'=>r=.returned (.bool (decide ((8192:Int)<(n:Int))))∧w'=w:=by
 go_enter Tryz.func134,Tryz.ntmps134;go_wp2;go_ret;exact ⟨rfl,rfl⟩
theorem unlessLong_any (n:Nat) (ao:Option Addr) (cap:Nat) (w:World) :
 Calls Tryz.prog 147 #[.slice ao n cap] w fun r w'=>r=.returned (if 8192<n then .tuple #[.slice none 0 0,.int .i64 2] else .tuple #[.slice ao n cap,.int .i64 0])∧w'=w:=by
 by_cases h:8192<n
 · rw [if_pos h]
   have hl:=long_any n ao cap;have h':(8192:Int)<(n:Int):=by omega
   simp only [h',decide_true] at hl;have H:Hid (∀ w,_):=hl;clear hl;go_enter Tryz.func147,Tryz.ntmps147
   go_wp2_with fail
   refine (H.out _).mono ?_;rintro r w1 ⟨rfl,rfl⟩;go_wp2
   go_ret2
   exact ⟨rfl,rfl⟩
 · rw [if_neg h]
   have hl:=long_any n ao cap;have h':¬ (8192:Int)<(n:Int):=by omega
   simp only [h',decide_false] at hl;have H:Hid (∀ w,_):=hl;clear hl;go_enter Tryz.func147,Tryz.ntmps147
   go_wp2_with fail
   refine (H.out _).mono ?_;rintro r w1 ⟨rfl,rfl⟩;go_wp2
   go_ret2
   exact ⟨rfl,rfl⟩
theorem isNaN_i (x:Int) (w:World):Calls Tryz.prog 138 #[.int .i64 x] w fun r w'=>r=.returned (.bool false)∧w'=w:=by
 go_enter Tryz.func138,Tryz.ntmps138;go_wp2;go_ret;exact ⟨rfl,rfl⟩
theorem isNaN_u (x:Int) (w:World):Calls Tryz.prog 176 #[.int .u32 x] w fun r w'=>r=.returned (.bool false)∧w'=w:=by
 go_enter Tryz.func176,Tryz.ntmps176;go_wp2;go_ret;exact ⟨rfl,rfl⟩
def cmpI (x y:Nat):Int:=if x<y then -1 else if y<x then 1 else 0
theorem compare_i (x y:Nat) (w:World):Calls Tryz.prog 95 #[.int .i64 (x:Int),.int .i64 (y:Int)] w fun r w'=>r=.returned (.int .i64 (cmpI x y))∧w'=w:=by
 have H:Hid (∀ x w,_):=isNaN_i
 by_cases h:x<y
 · have e:cmpI x y=-1:=by simp [cmpI,h]
   rw [e];clear e;go_enter Tryz.func95,Tryz.ntmps95
   go_wp2_with fail
   refine (H.out _ _).mono ?_;rintro r w1 ⟨rfl,rfl⟩
   go_wp2_with fail
   refine (H.out _ _).mono ?_;rintro r w1 ⟨rfl,rfl⟩;go_wp2;go_ret;exact ⟨rfl,rfl⟩
 · by_cases h2:y<x
   · have e:cmpI x y=1:=by simp [cmpI,h,h2]
     rw [e];clear e;go_enter Tryz.func95,Tryz.ntmps95
     go_wp2_with fail
     refine (H.out _ _).mono ?_;rintro r w1 ⟨rfl,rfl⟩
     go_wp2_with fail
     refine (H.out _ _).mono ?_;rintro r w1 ⟨rfl,rfl⟩;go_wp2;go_ret;exact ⟨rfl,rfl⟩
   · have e:cmpI x y=0:=by simp [cmpI,h,h2]
     rw [e];clear e;go_enter Tryz.func95,Tryz.ntmps95
     go_wp2_with fail
     refine (H.out _ _).mono ?_;rintro r w1 ⟨rfl,rfl⟩
     go_wp2_with fail
     refine (H.out _ _).mono ?_;rintro r w1 ⟨rfl,rfl⟩;go_wp2;go_ret;exact ⟨rfl,rfl⟩
theorem compare_u (x y:Nat) (w:World):Calls Tryz.prog 157 #[.int .u32 (x:Int),.int .u32 (y:Int)] w fun r w'=>r=.returned (.int .i64 (cmpI x y))∧w'=w:=by
 have H:Hid (∀ x w,_):=isNaN_u
 by_cases h:x<y
 · have e:cmpI x y=-1:=by simp [cmpI,h]
   rw [e];clear e;go_enter Tryz.func157,Tryz.ntmps157
   go_wp2_with fail
   refine (H.out _ _).mono ?_;rintro r w1 ⟨rfl,rfl⟩
   go_wp2_with fail
   refine (H.out _ _).mono ?_;rintro r w1 ⟨rfl,rfl⟩;go_wp2;go_ret;exact ⟨rfl,rfl⟩
 · by_cases h2:y<x
   · have e:cmpI x y=1:=by simp [cmpI,h,h2]
     rw [e];clear e;go_enter Tryz.func157,Tryz.ntmps157
     go_wp2_with fail
     refine (H.out _ _).mono ?_;rintro r w1 ⟨rfl,rfl⟩
     go_wp2_with fail
     refine (H.out _ _).mono ?_;rintro r w1 ⟨rfl,rfl⟩;go_wp2;go_ret;exact ⟨rfl,rfl⟩
   · have e:cmpI x y=0:=by simp [cmpI,h,h2]
     rw [e];clear e;go_enter Tryz.func157,Tryz.ntmps157
     go_wp2_with fail
     refine (H.out _ _).mono ?_;rintro r w1 ⟨rfl,rfl⟩
     go_wp2_with fail
     refine (H.out _ _).mono ?_;rintro r w1 ⟨rfl,rfl⟩;go_wp2;go_ret;exact ⟨rfl,rfl⟩
end
section
open Go.RowKit
def bl (n:Nat):Nat:=if n=0 then 0 else n.log2+1
theorem bl_zero:bl 0=0:=rfl
theorem bl_lt (n:Nat):n<2^bl n:=by
 unfold bl
 split
 · next h=>subst h;decide
 · exact Nat.lt_log2_self
theorem bl_ge (n:Nat) (h:n≠0):2^(bl n-1)≤n:=by
 unfold bl;rw [if_neg h];exact Nat.log2_self_le h
theorem bl_pos (n:Nat) (h:n≠0):0<bl n:=by unfold bl;rw [if_neg h];omega
theorem bl_eq (n k:Nat) (h1:2^k≤n) (h2:n<2^(k+1)):bl n=k+1:=by
 have hn:n≠0:=by have:=Nat.two_pow_pos k;omega
 have a:k<bl n:=(Nat.pow_lt_pow_iff_right (a:=2) (by decide)).1 (Nat.lt_of_le_of_lt h1 (bl_lt n))
 have b:bl n-1<k+1:=(Nat.pow_lt_pow_iff_right (a:=2) (by decide)).1 (Nat.lt_of_le_of_lt (bl_ge n hn) h2)
 omega
theorem bitLen_bl (x:Nat) (h:x<18446744073709551616):Lib.bitLen x=bl x:=by
 by_cases h0:x=0
 · subst h0;decide
 · obtain ⟨h1,h2,h3⟩:=Lib.bitLenAux_bounds 64 x h h0
   obtain ⟨k,hk⟩:∃ k,Lib.bitLen x=k+1:=⟨Lib.bitLen x-1,by unfold Lib.bitLen;omega⟩
   have hk':Lib.bitLenAux 64 x=k+1:=hk;rw [hk'] at h2 h3;rw [hk,bl_eq x k h2 h3]
theorem tab8 (n:Nat) (h:n<Lib.len8tab.size):(Lib.len8tab[n]'h).toNat=Lib.bitLen n:=by
 have hn:n<256:=by rw [Lib.len8tab_size] at h;exact h
 have e:=Lib.len8_eq ⟨n,hn⟩;simp only [Lib.len8,Int.toNat_natCast] at e;rw [getElem?_pos Lib.len8tab n h] at e;exact Int.natCast_inj.1 (by simpa using e)
theorem fin_len (x i:Int) (c:Nat) (hc:c≤56) (hi:i<256) (hs:Lib.bitLen x.toNat=c+Lib.bitLen i.toNat) (hh:i.toNat<Lib.len8tab.size) (hi0:0≤i) :
 wrap64 ((c:Int)+wrap64 ((Lib.len8tab[i.toNat]'hh).toNat:Int))=(Lib.bitLen x.toNat:Int):=by
 have l:=Lib.bitLen_le8 ⟨i.toNat,by omega⟩
 simp only at l;rw [tab8,hs];unfold wrap64;omega
theorem fin_len0 (x:Int) (hi:x<256) (hi0:0≤x) (hh:x.toNat<Lib.len8tab.size) :
 wrap64 (wrap64 ((Lib.len8tab[x.toNat]'hh).toNat:Int))=(Lib.bitLen x.toNat:Int):=by
 have l:=Lib.bitLen_le8 ⟨x.toNat,by omega⟩
 simp only at l;rw [tab8];unfold wrap64;omega
set_option maxRecDepth 100000 in
theorem len32_int (x:Int) (w:World) (h0:0≤x) (h1:x≤4294967295) :
 Calls Tryz.prog 124 #[.int .u32 x] w fun e w'=>e=.returned (.int .i64 (Lib.bitLen x.toNat))∧w'=w:=by
 have hsz:Lib.len8tab.size=256:=Lib.len8tab_size;go_enter Tryz.func124,Tryz.ntmps124;go_wp2
 all_goals (go_ret;refine ⟨congrArg (fun z=>Ending.returned (Value.int IntKind.i64 z)) ?_,rfl⟩)
 · exact fin_len x (x/65536/256) 24 (by omega) (by omega) (by rw [Lib.bitLen_shift24 x.toNat (by omega) (by omega),show (x/65536/256).toNat=x.toNat/16777216 by omega]) (by omega) (by omega)
 · exact fin_len x (x/65536) 16 (by omega) (by omega) (by rw [Lib.bitLen_shift16 x.toNat (by omega) (by omega),show (x/65536).toNat=x.toNat/65536 by omega]) (by omega) (by omega)
 · exact fin_len x (x/256) 8 (by omega) (by omega) (by rw [Lib.bitLen_shift8 x.toNat (by omega) (by omega),show (x/256).toNat=x.toNat/256 by omega]) (by omega) (by omega)
 · exact fin_len0 x (by omega) (by omega) (by omega)
theorem len32_any (x:Nat) (w:World) (h:x<4294967296):Calls Tryz.prog 124 #[.int .u32 (x:Int)] w fun e w'=>e=.returned (.int .i64 (bl x:Nat))∧w'=w:=by
 have:=len32_int x w (by omega) (by omega)
 rw [Int.toNat_natCast,bitLen_bl x (by omega)] at this
 exact this
theorem bl_le32 (x:Nat) (h:x<4294967296):bl x≤32:=by
 by_cases h0:x=0
 · subst h0;decide
 · have:=bl_ge x h0
   have:2^(bl x-1)<2^32:=by omega
   have:=(Nat.pow_lt_pow_iff_right (a:=2) (by decide)).1 this
   omega
theorem lead32_any (x:Nat) (w:World) (h:x<4294967296):Calls Tryz.prog 169 #[.int .u32 (x:Int)] w fun e w'=>e=.returned (.int .i64 ((32-bl x:Nat):Int))∧w'=w:=by
 have H:=hid (len32_any x w h);have hb:=bl_le32 x h;obtain ⟨k,hk⟩:∃ k,bl x=k:=⟨_,rfl⟩;rw [hk] at H hb ⊢;clear hk;obtain ⟨z,hz⟩:∃ z,z=32-k:=⟨_,rfl⟩;have e:(32:Int)-(k:Int)=(z:Int):=by omega
 rw [←hz];clear hz;go_enter Tryz.func169,Tryz.ntmps169
 go_wp2_with fail
 refine H.out.mono ?_;rintro r w1 ⟨rfl,rfl⟩;go_wp2;go_ret;exact ⟨by first | rfl | rw [e],rfl⟩
set_option maxRecDepth 100000 in
theorem len64_int (x:Int) (w:World) (h0:0≤x) (h1:x≤18446744073709551615) :
 Calls Tryz.prog 175 #[.int .u64 x] w fun e w'=>e=.returned (.int .i64 (Lib.bitLen x.toNat))∧w'=w:=by
 have hsz:Lib.len8tab.size=256:=Lib.len8tab_size;go_enter Tryz.func175,Tryz.ntmps175;go_wp2
 all_goals (go_ret;refine ⟨congrArg (fun z=>Ending.returned (Value.int IntKind.i64 z)) ?_,rfl⟩)
 · exact fin_len x (x/4294967296/65536/256) 56 (by omega) (by omega) (by rw [Lib.bitLen_shift56 x.toNat (by omega) (by omega),show (x/4294967296/65536/256).toNat=x.toNat/72057594037927936 by omega]) (by omega) (by omega)
 · exact fin_len x (x/4294967296/65536) 48 (by omega) (by omega) (by rw [Lib.bitLen_shift48 x.toNat (by omega) (by omega),show (x/4294967296/65536).toNat=x.toNat/281474976710656 by omega]) (by omega) (by omega)
 · exact fin_len x (x/4294967296/256) 40 (by omega) (by omega) (by rw [Lib.bitLen_shift40 x.toNat (by omega) (by omega),show (x/4294967296/256).toNat=x.toNat/1099511627776 by omega]) (by omega) (by omega)
 · exact fin_len x (x/4294967296) 32 (by omega) (by omega) (by rw [Lib.bitLen_shift32 x.toNat (by omega) (by omega),show (x/4294967296).toNat=x.toNat/4294967296 by omega]) (by omega) (by omega)
 · exact fin_len x (x/65536/256) 24 (by omega) (by omega) (by rw [Lib.bitLen_shift24 x.toNat (by omega) (by omega),show (x/65536/256).toNat=x.toNat/16777216 by omega]) (by omega) (by omega)
 · exact fin_len x (x/65536) 16 (by omega) (by omega) (by rw [Lib.bitLen_shift16 x.toNat (by omega) (by omega),show (x/65536).toNat=x.toNat/65536 by omega]) (by omega) (by omega)
 · exact fin_len x (x/256) 8 (by omega) (by omega) (by rw [Lib.bitLen_shift8 x.toNat (by omega) (by omega),show (x/256).toNat=x.toNat/256 by omega]) (by omega) (by omega)
 · exact fin_len0 x (by omega) (by omega) (by omega)
theorem blen_any (x:Nat) (w:World) (h:x<18446744073709551616):Calls Tryz.prog 155 #[.int .u64 (x:Int)] w fun e w'=>e=.returned (.int .i64 (bl x:Nat))∧w'=w:=by
 have:=len64_int x w (by omega) (by omega)
 rw [Int.toNat_natCast,bitLen_bl x (by omega)] at this
 have H:=hid this;clear this;go_enter Tryz.func155,Tryz.ntmps155
 go_wp2_with fail
 refine H.out.mono ?_;rintro r w1 ⟨rfl,rfl⟩;go_wp2;go_ret;exact ⟨rfl,rfl⟩
end
section
def sg (L:List Nat) (off k:Nat):Nat:=val ((L.drop off).take k)
theorem sg_zero (L:List Nat) (off:Nat):sg L off 0=0:=by simp [sg,val]
theorem sg_succ (L:List Nat) (off k:Nat) (h:off+k<L.length):sg L off (k+1)=sg L off k+pw k*L.getD (off+k) 0:=by
 unfold sg;rw [val_take_succ _ _ (by simp;omega)]
 simp [List.getD_eq_getElem?_getD]
theorem sg_front (L:List Nat) (off k:Nat) (h:off<L.length):sg L off (k+1)=L.getD off 0+4294967296*sg L (off+1) k:=by
 unfold sg;rw [List.drop_eq_getElem_cons h,List.take_succ_cons,val,List.getD_eq_getElem?_getD,List.getElem?_eq_getElem h]
 rfl
theorem sg_all (L:List Nat):sg L 0 L.length=val L:=by simp [sg]
theorem sg_add (L:List Nat) (off k m:Nat) (h:off+k+m≤L.length):sg L off (k+m)=sg L off k+pw k*sg L (off+k) m:=by
 induction m with
 | zero=>simp [sg_zero]
 | succ m ih =>
   rw [←Nat.add_assoc,sg_succ L off (k+m) (by omega),sg_succ L (off+k) m (by omega),ih (by omega),pw_add,Nat.mul_add,←Nat.add_assoc off k m]
   simp only [Nat.mul_assoc,Nat.add_assoc]
theorem sg_congr (L M:List Nat) (off k:Nat) (hl:M.length=L.length) (h:off+k≤L.length) (he:∀ j,off≤j→j<off+k→M.getD j 0=L.getD j 0):sg M off k=sg L off k:=by
 induction k with
 | zero=>simp [sg_zero]
 | succ k ih=>rw [sg_succ M off k (by omega),sg_succ L off k (by omega),ih (by omega) (fun j h1 h2=>he j h1 (by omega)),he (off+k) (by omega) (by omega)]
theorem getD_set (L:List Nat) (i j x:Nat):(L.set i x).getD j 0=if i=j∧j<L.length then x else L.getD j 0:=by
 simp only [List.getD_eq_getElem?_getD,List.getElem?_set]
 by_cases h:i=j
 · subst h
   by_cases h2:i<L.length
   · simp [h2]
   · simp [h2]
 · simp [h]
theorem getD_set_same (L:List Nat) (i x:Nat) (h:i<L.length):(L.set i x).getD i 0=x:=by rw [getD_set,if_pos ⟨rfl,h⟩]
theorem getD_set_ne (L:List Nat) (i j x:Nat) (h:i≠j):(L.set i x).getD j 0=L.getD j 0:=by rw [getD_set,if_neg (fun e=>h e.1)]
theorem sg_set_above (L:List Nat) (off k i x:Nat) (h:off+k≤i) (hl:off+k≤L.length):sg (L.set i x) off k=sg L off k :=
 sg_congr L _ off k (by simp) hl (fun j _ h2=>getD_set_ne _ _ _ _ (by omega))
theorem sg_set_below (L:List Nat) (off k i x:Nat) (h:i<off) (hl:off+k≤L.length):sg (L.set i x) off k=sg L off k :=
 sg_congr L _ off k (by simp) hl (fun j h1 _=>getD_set_ne _ _ _ _ (by omega))
theorem sg_set_last (L:List Nat) (off k x:Nat) (h:off+k<L.length):sg (L.set (off+k) x) off (k+1)=sg L off k+pw k*x:=by
 rw [sg_succ _ _ _ (by simp;omega),getD_set_same _ _ _ h,sg_set_above _ _ _ _ _ (by omega) (by omega)]
theorem sg_lt (L:List Nat) (off k:Nat) (hw:Wf L) (h:off+k≤L.length):sg L off k<pw k:=by
 have:=val_lt _ ((hw.drop off).take k);simp only [List.length_take,List.length_drop] at this;rw [Nat.min_eq_left (by omega)] at this
 exact this
theorem sg_val_take (L:List Nat) (k:Nat):sg L 0 k=val (L.take k):=by simp [sg]
theorem getD_zeros (n i:Nat):(List.replicate n 0).getD i 0=0:=by
 simp only [List.getD_eq_getElem?_getD,List.getElem?_replicate];split <;> rfl
theorem sg_zeros (n off k:Nat):sg (List.replicate n 0) off k=0:=by
 unfold sg;rw [List.drop_replicate,List.take_replicate,val_zeros]
def Out (L M:List Nat) (off n:Nat):Prop:=M.length=L.length∧∀ j,(j<off∨off+n≤j)→M.getD j 0=L.getD j 0
theorem Out.refl (L:List Nat) (off n:Nat):Out L L off n:=⟨rfl,fun _ _=>rfl⟩
theorem Out.set {L M:List Nat}{off n:Nat}(h:Out L M off n) (i x:Nat) (h1:off≤i) (h2:i<off+n):Out L (M.set i x) off n :=
 ⟨by simp [h.1],fun j hj=>by rw [getD_set_ne _ _ _ _ (by omega)];exact h.2 j hj⟩
theorem Out.mono {L M:List Nat}{off n k:Nat}(h:Out L M off n) (hk:n≤k):Out L M off k:=⟨h.1,fun j hj=>h.2 j (by omega)⟩
theorem Out.trans {L M K:List Nat}{off n:Nat}(h:Out L M off n) (k:Out M K off n):Out L K off n:=⟨k.1.trans h.1,fun j hj=>(k.2 j hj).trans (h.2 j hj)⟩
theorem Out.below {L M:List Nat}{off n:Nat}(h:Out L M off n) (a k:Nat) (h1:a+k≤off) (h2:a+k≤L.length):sg M a k=sg L a k:=sg_congr L M a k h.1 h2 (fun j _ hj=>h.2 j (by omega))
theorem Out.above {L M:List Nat}{off n:Nat}(h:Out L M off n) (a k:Nat) (h1:off+n≤a) (h2:a+k≤L.length):sg M a k=sg L a k:=sg_congr L M a k h.1 h2 (fun j hj _=>h.2 j (by omega))
theorem carry_step (p a b V c x y s d:Nat) (h:V+c*p=a+b) (e:s+d*4294967296=x+y+c):V+p*s+d*(4294967296*p)=(a+p*x)+(b+p*y):=by
 have:p*(s+d*4294967296)=p*(x+y+c):=by rw [e]
 grind
theorem seg_rest {L M:List Nat}{off k n V:Nat}(hk:k≤n) (hn:off+n≤L.length) (ho:Out L M off k) (h:sg M off k=sg L off k+V):sg M off n=sg L off n+V:=by
 obtain ⟨d,rfl⟩:∃ d,n=k+d:=⟨n-k,by omega⟩
 have h1:=sg_add M off k d (by rw [ho.1];omega)
 have h2:=sg_add L off k d (by omega)
 have h3:=ho.above (off+k) d (by omega) (by omega)
 rw [h1,h2,h3];omega
theorem times_step (p a b V c x y q s d:Nat) (h:V+c*p=a+b*q) (e:s+d*4294967296=y*q+x+c):V+p*s+d*(4294967296*p)=(a+p*x)+(b+p*y)*q:=by
 have:p*(s+d*4294967296)=p*(y*q+x+c):=by rw [e]
 grind
theorem mul_bound (x y:Nat) (hx:x<4294967296) (hy:y<4294967296):x*y≤18446744065119617025:=by
 have:x*y≤4294967295*4294967295:=Nat.mul_le_mul (by omega) (by omega)
 omega
theorem takes_step (p a b V c x y q s d:Nat) (h:V+b*q=a+c*p) (e:s+y*q+c=x+d*4294967296):V+p*s+(b+p*y)*q=(a+p*x)+d*(4294967296*p):=by
 have:p*(s+y*q+c)=p*(x+d*4294967296):=by rw [e]
 grind
theorem cut_step (X Q q x d l l2:Nat) (h:X=Q*d+l) (e:l*4294967296+x=q*d+l2):x+4294967296*X=(q+4294967296*Q)*d+l2:=by
 subst h
 grind
theorem borrow_step (p a b V c x y s d:Nat) (h:V+b=a+c*p) (e:s+y+c=x+d*4294967296):V+p*s+(b+p*y)=(a+p*x)+d*(4294967296*p):=by
 have:p*(s+y+c)=p*(x+d*4294967296):=by rw [e]
 grind
theorem seg_rest2 {L M:List Nat}{off k n V:Nat}(hk:k≤n) (hn:off+n≤L.length) (ho:Out L M off k) (h:sg M off k+V=sg L off k):sg M off n+V=sg L off n:=by
 obtain ⟨d,rfl⟩:∃ d,n=k+d:=⟨n-k,by omega⟩
 have h1:=sg_add M off k d (by rw [ho.1];omega)
 have h2:=sg_add L off k d (by omega)
 have h3:=ho.above (off+k) d (by omega) (by omega)
 rw [h1,h2,h3];omega
end
section
theorem amgm (u v:Nat):4*u*v≤(u+v)*(u+v):=by
 rcases Nat.le_total u v with h|h
 · obtain ⟨d,rfl⟩:∃ d,v=u+d:=⟨v-u,by omega⟩
   have:(u+(u+d))*(u+(u+d))=4*u*(u+d)+d*d:=by grind
   omega
 · obtain ⟨d,rfl⟩:∃ d,u=v+d:=⟨u-v,by omega⟩
   have:(v+d+v)*(v+d+v)=4*(v+d)*v+d*d:=by grind
   omega
theorem newton (N A p q:Nat) (hp:0<p) (hA:p≤A) (h1:4*p*p*((A-1)*(A-1))<N) (h2:N<4*p*p*((A+1)*(A+1))) (hq:q=N/(4*p*A)) :
 N<(p*A+q+1)*(p*A+q+1)∧(p*A+q-1)*(p*A+q-1)<N:=by
 obtain ⟨u,hu⟩:∃ u,u=p*A:=⟨_,rfl⟩;have hup:p*p≤u:=by rw [hu];exact Nat.mul_le_mul_left _ hA
 have hu0:0<u:=by rw [hu];exact Nat.mul_pos hp (by omega)
 have e4:4*p*A=4*u:=by rw [hu,Nat.mul_assoc]
 rw [e4] at hq;have hq1:4*u*q≤N:=by rw [hq];exact Nat.mul_div_le N (4*u)
 have hq2:N<4*u*(q+1):=by
  have:=Nat.lt_mul_div_succ N (show 0<4*u by omega)
  rw [hq];exact this
 rw [←hu]
 constructor
 · have:=amgm u (q+1)
   rw [show u+q+1=u+(q+1) by omega]
   omega
 · obtain ⟨b,hb⟩:∃ b,b=u+q-1:=⟨_,rfl⟩
   rw [←hb]
   by_cases hlt:b*b<N
   · exact hlt
   · exfalso
     have hq':q+u=b+1:=by omega
     have g1:4*p*p*((A-1)*(A-1))=2*(p*(A-1))*(2*(p*(A-1))):=by grind
     have g2:4*p*p*((A+1)*(A+1))=4*u*u+8*u*p+4*(p*p):=by rw [hu];grind
     have g3:p*(A-1)+p=u:=by
      rw [hu];obtain ⟨a,rfl⟩:∃ a,A=a+1:=⟨A-1,by omega⟩
      rw [Nat.add_sub_cancel,Nat.mul_add];omega
     rw [g1] at h1;rw [g2] at h2
     by_cases hc:b≤2*(p*(A-1))
     · have:=Nat.mul_le_mul hc hc
       omega
     · -- above 2 (u-p)
       by_cases hc2:2*u+2*p≤b
       · have h5:u+2*p+1≤q:=by omega
         have h6:4*u*(u+2*p+1)≤4*u*q:=Nat.mul_le_mul_left _ h5;have h7:4*u*(u+2*p+1)=4*u*u+8*u*p+4*u:=by grind
         omega
       · -- between: (b-2u)^2<4 p^2 <= 4 u
         rcases Nat.le_total b (2*u) with hl|hl
         · obtain ⟨d,hd⟩:∃ d,2*u=b+d:=⟨2*u-b,by omega⟩
           have hd2:d<2*p:=by omega
           have h8:d*d<2*p*(2*p):=Nat.mul_lt_mul'' hd2 hd2;have h9:2*p*(2*p)=4*(p*p):=by grind
           have h10:b*b+4*u*u=4*u*b+d*d:=by
            have:b=2*u-d:=by omega
            have e:4*u*u=2*u*(2*u):=by grind
            rw [e,hd];have e2:4*u*b=2*(2*u)*b:=by grind
            rw [e2,hd]
            grind
           have h11:4*u*q+4*u*u=4*u*b+4*u:=by
            have:4*u*(q+u)=4*u*(b+1):=by rw [hq']
            rw [Nat.mul_add,Nat.mul_add] at this;omega
           omega
         · obtain ⟨d,hd⟩:∃ d,b=2*u+d:=⟨b-2*u,by omega⟩
           have hd2:d<2*p:=by omega
           have h8:d*d<2*p*(2*p):=Nat.mul_lt_mul'' hd2 hd2;have h9:2*p*(2*p)=4*(p*p):=by grind
           have h10:b*b+4*u*u=4*u*b+d*d:=by rw [hd];grind
           have h11:4*u*q+4*u*u=4*u*b+4*u:=by
            have:4*u*(q+u)=4*u*(b+1):=by rw [hq']
            rw [Nat.mul_add,Nat.mul_add] at this;omega
           omega
def Near (X c e A:Nat):Prop:=(A-1)*(A-1)<X/4^(c-e)∧X/4^(c-e)<(A+1)*(A+1)∧2^e≤A∧0<A
theorem near_ge (X c e A:Nat) (he:e≤c) (hX:4^c≤X) (h:X/4^(c-e)<(A+1)*(A+1)):2^e≤A:=by
 have h1:4^e≤X/4^(c-e):=by
  rw [Nat.le_div_iff_mul_le (Nat.pow_pos (by decide)),←Nat.pow_add,show e+(c-e)=c by omega];exact hX
 have h2:4^e=2^e*2^e:=by rw [←Nat.mul_pow]
 by_cases hlt:2^e≤A
 · exact hlt
 · exfalso
   have:=Nat.mul_le_mul (show A+1≤2^e by omega) (show A+1≤2^e by omega)
   omega
theorem near_start (X c:Nat) (h1:4^c≤X) (h2:X<4^(c+1)):Near X c 0 1:=by
 have hp:0<4^c:=Nat.pow_pos (by decide)
 have a:1≤X/4^c:=(Nat.le_div_iff_mul_le hp).2 (by omega)
 have b:X/4^c<4:=(Nat.div_lt_iff_lt_mul hp).2 (by rw [Nat.pow_succ] at h2;omega)
 exact ⟨by simpa using (by omega:0<X/4^c),by simpa using b,by simp,by omega⟩
theorem near_step (X c e d A q:Nat) (hX:4^c≤X) (hed:e<d) (hd2:d≤2*e+1) (hdc:d≤c) (h:Near X c e A) (hq:q=X/2^(2*c-e-d+1)/A):Near X c d (A*2^(d-e-1)+q):=by
 obtain ⟨h1,h2,h3,h4⟩:=h;obtain ⟨k,hk⟩:∃ k,d=e+k+1:=⟨d-e-1,by omega⟩
 obtain ⟨p,hp⟩:∃ p,p=2^k:=⟨_,rfl⟩;obtain ⟨N,hN⟩:∃ N,N=X/4^(c-d):=⟨_,rfl⟩;have hp0:0<p:=by rw [hp];exact Nat.two_pow_pos _
 have e1:4^(k+1)=4*p*p:=by
  rw [hp,Nat.pow_succ,Nat.mul_comm,Nat.mul_assoc,←Nat.mul_pow]
 have hNe:X/4^(c-e)=N/(4*p*p):=by
  rw [hN,←e1,Nat.div_div_eq_div_mul,←Nat.pow_add];congr 2;omega
 have hpp:0<4*p*p:=Nat.mul_pos (Nat.mul_pos (by decide) hp0) hp0
 rw [hNe] at h1 h2
 have g1:4*p*p*((A-1)*(A-1))<N:=by
  have:=(Nat.le_div_iff_mul_le hpp).1 h1;rw [Nat.mul_comm];rw [Nat.succ_mul] at this;omega
 have g2:N<4*p*p*((A+1)*(A+1)):=by
  rw [Nat.mul_comm];exact (Nat.div_lt_iff_lt_mul hpp).1 h2
 have hq':q=N/(4*p*A):=by
  have e2:2^(2*c-e-d+1)=4^(c-d)*(4*p):=by
   have:(4:Nat)=2^2:=rfl;rw [hp,this,←Nat.pow_mul,←Nat.pow_add,←Nat.pow_add];congr 1;omega
  rw [hq,e2,hN,Nat.div_div_eq_div_mul,Nat.div_div_eq_div_mul]
  congr 1;rw [Nat.mul_assoc]
 have hpA:p≤A:=Nat.le_trans (by rw [hp];exact Nat.pow_le_pow_right (by decide) (by omega)) h3
 obtain ⟨r1,r2⟩:=newton N A p q hp0 hpA g1 g2 hq';have ea:A*2^(d-e-1)+q=p*A+q:=by rw [show d-e-1=k by omega,←hp,Nat.mul_comm]
 rw [ea];refine ⟨by rw [←hN];exact r2,by rw [←hN];exact r1,near_ge X c d _ hdc hX (by rw [←hN];exact r1),?_⟩
 have:=Nat.mul_pos hp0 h4;omega
theorem near_le (X c e A:Nat) (h:Near X c e A):A≤X:=by
 obtain ⟨h1,h2,h3,h4⟩:=h;have a:X/4^(c-e)≤X:=Nat.div_le_self _ _
 rcases A with _|A
 · omega
 · rw [Nat.add_sub_cancel] at h1
   have:A≤A*A:=by
    rcases A with _|A
    · omega
    · exact Nat.le_mul_of_pos_left _ (by omega)
   omega
theorem near_end (X c A:Nat) (h:Near X c c A):(A-1)*(A-1)<X∧X<(A+1)*(A+1):=by
 obtain ⟨h1,h2,h3,h4⟩:=h;rw [Nat.sub_self,Nat.pow_zero,Nat.div_one] at h1 h2;exact ⟨h1,h2⟩
def IsRoot (X r:Nat):Prop:=r*r≤X∧X<(r+1)*(r+1)
theorem IsRoot.unique {X r s:Nat}(h:IsRoot X r) (k:IsRoot X s):r=s:=by
 rcases Nat.lt_trichotomy r s with h1|h1|h1
 · exfalso;have:=Nat.mul_le_mul (show r+1≤s from h1) (show r+1≤s from h1);have:=h.2;have:=k.1;omega
 · exact h1
 · exfalso;have:=Nat.mul_le_mul (show s+1≤r from h1) (show s+1≤r from h1);have:=k.2;have:=h.1;omega
end
section
open Go.RowKit
theorem pow_lt_iff {n a b:Nat}(hn:0<n):a^n<b^n↔a<b:=Nat.pow_lt_pow_iff_left (by omega)
theorem pow_inj_iff {n a b:Nat}(hn:0<n):a^n=b^n↔a=b:=by
 constructor
 · intro h
   rcases Nat.lt_trichotomy a b with k|k|k
   · have:=(pow_lt_iff hn).2 k;omega
   · exact k
   · have:=(pow_lt_iff hn).2 k;omega
 · intro h;rw [h]
structure Grid (v:Nat→Nat) (top:Nat):Prop where
 one:1<top
 zero:v 0=0
 mono:∀ {k l},k<l→v k<v l
 step:∀ k,k<top→∃ c j,v k=c*2^j∧v (k+1)=(c+1)*2^j∧c<9007199254740992∧j≤2045
structure LiesG (v:Nat→Nat) (top n:Nat) (K:Nat) (t:Bool) (m:Int) (V S:Nat):Prop where
 fin:K<top
 pos:0<S
 one:t=true→V=v K^n*S
 low:t=false→v K^n*S<V
 mids:t=false→V<v (K+1)^n*S→(m=-1∧2^n*V<(v K+v (K+1))^n*S∨m=0∧2^n*V=(v K+v (K+1))^n*S∨m=1∧(v K+v (K+1))^n*S<2^n*V)
 high:t=false→V<v (K+1)^n*S∨(K+1=top∧m=1)
def Alike (n P Q V S:Nat):Prop:=∀ c j,c≤18014398509481984→j≤2046→((c*2^j)*Q<2*P↔(c*2^j)^n*S<2^n*V)∧((c*2^j)*Q=2*P↔(c*2^j)^n*S=2^n*V)
theorem two_mul_pow (n a S V:Nat):((2*a)^n*S<2^n*V↔a^n*S<V)∧((2*a)^n*S=2^n*V↔a^n*S=V):=by
 have h:(2*a)^n*S=2^n*(a^n*S):=by rw [Nat.mul_pow,Nat.mul_assoc]
 have hp:0<2^n:=Nat.two_pow_pos n;rw [h];exact ⟨Nat.mul_lt_mul_left hp,⟨fun h=>Nat.eq_of_mul_eq_mul_left hp h,fun h=>by rw [h]⟩⟩
theorem LiesG.of_alike {v:Nat→Nat}{top n K:Nat}{t:Bool}{m:Int}{P Q V S:Nat}(G:Grid v top) (hn:0<n) (h:LiesG v top 1 K t m P Q) (hS:0<S) (hA:Alike n P Q V S):LiesG v top n K t m V S:=by
 obtain ⟨c,j,e1,e2,hc,hj⟩:=G.step K h.fin;have a1:=hA (2*c) j (by omega) (by omega)
 have a2:=hA (2*(c+1)) j (by omega) (by omega)
 have a3:=hA (2*c+1) j (by omega) (by omega)
 have g1:2*c*2^j=2*v K:=by rw [e1,Nat.mul_assoc]
 have g2:2*(c+1)*2^j=2*v (K+1):=by rw [e2,Nat.mul_assoc]
 have g3:(2*c+1)*2^j=v K+v (K+1):=by rw [e1,e2,←Nat.add_mul];congr 1;omega
 rw [g1] at a1;rw [g2] at a2;rw [g3] at a3;have b1:=two_mul_pow n (v K) S V;have b2:=two_mul_pow n (v (K+1)) S V;rw [b1.1,b1.2] at a1;rw [b2.1,b2.2] at a2;have d1:2*v K*Q=2*(v K*Q):=Nat.mul_assoc _ _ _;have d2:2*v (K+1)*Q=2*(v (K+1)*Q):=Nat.mul_assoc _ _ _;rw [d1] at a1;rw [d2] at a2;have h1:=h.one;have h2:=h.low;have h3:=h.mids;have h4:=h.high;simp only [Nat.pow_one] at h1 h2 h3 h4;generalize v K*Q=A at *;generalize v (K+1)*Q=B at *;generalize (v K+v (K+1))*Q=C at *
 have ge:∀ {x y x' y':Nat},((x<y↔x'<y')∧(x=y↔x'=y'))→(y<x↔y'<x'):=by
  intro x y x' y' ⟨p,q⟩
  constructor
  · intro hh
    rcases Nat.lt_trichotomy x' y' with k|k|k
    · have:=p.2 k;omega
    · have:=q.2 k;omega
    · exact k
  · intro hh
    rcases Nat.lt_trichotomy x y with k|k|k
    · have:=p.1 k;omega
    · have:=q.1 k;omega
    · exact k
 have a2':=ge a2;have a3':=ge a3;refine ⟨h.fin,hS,fun ht=>?_,fun ht=>?_,fun ht hlt=>?_,fun ht=>?_⟩
 · have:=h1 ht
   exact (a1.2.1 (by omega)).symm
 · exact a1.1.1 (by have:=h2 ht;omega)
 · have hb:P<B:=by have:=a2'.2 hlt;omega
   rcases h3 ht hb with ⟨q,r⟩|⟨q,r⟩|⟨q,r⟩
   · exact .inl ⟨q,a3'.1 r⟩
   · exact .inr (.inl ⟨q,(a3.2.1 r.symm).symm⟩)
   · exact .inr (.inr ⟨q,a3.1.1 r⟩)
 · rcases h4 ht with q | q
   · exact .inl (a2'.1 (by omega))
   · exact .inr q
theorem alike_span (n R p q V S d:Nat) (hn:0<n) (hS:0<S) (hR:9007199254740992≤R) (hd:d≤1)
 (h0:d=0→V*(2^q)^n=(R*2^p)^n*S) (h1:d=1→(R*2^p)^n*S<V*(2^q)^n∧V*(2^q)^n<((R+1)*2^p)^n*S) :
 Alike n ((2*R+d)*2^p) (2*2^q) V S:=by
 intro c j hc hj;have hq:0<(2^q)^n:=Nat.pow_pos (Nat.two_pow_pos q)
 -- both sides times 2^q
 have f1:(c*2^j)^n*S<2^n*V↔(c*2^(j+q))^n*S<2^n*(V*(2^q)^n):=by
  rw [←Nat.mul_lt_mul_right hq]
  have:(c*2^j)^n*S*(2^q)^n=(c*2^(j+q))^n*S:=by
   rw [Nat.mul_right_comm,←Nat.mul_pow,Nat.mul_assoc c,←Nat.pow_add]
  rw [this,Nat.mul_assoc]
 have f2:(c*2^j)^n*S=2^n*V↔(c*2^(j+q))^n*S=2^n*(V*(2^q)^n):=by
  have e:(c*2^j)^n*S*(2^q)^n=(c*2^(j+q))^n*S:=by
   rw [Nat.mul_right_comm,←Nat.mul_pow,Nat.mul_assoc c,←Nat.pow_add]
  rw [←e,←Nat.mul_assoc (2^n)];exact ⟨fun h=>by rw [h],fun h=>Nat.eq_of_mul_eq_mul_right hq h⟩
 have f3:c*2^j*(2*2^q)=2*(c*2^(j+q)):=by rw [Nat.pow_add,←Nat.mul_assoc c,Nat.mul_left_comm]
 rw [f1,f2,f3];generalize V*(2^q)^n=U at *;have g0:∀ a:Nat,(2*a)^n*S=2^n*(a^n*S):=fun a=>by rw [Nat.mul_pow,Nat.mul_assoc]
 have hp2:0<2^n:=Nat.two_pow_pos n;have hlt2:(c*2^(j+q)<(2*R+d)*2^p↔2*(c*2^(j+q))<2*((2*R+d)*2^p)):=by omega
 have heq2:(c*2^(j+q)=(2*R+d)*2^p↔2*(c*2^(j+q))=2*((2*R+d)*2^p)):=by omega
 rw [←hlt2,←heq2]
 -- powers times S
 have L:∀ a b:Nat,(a^n*S<b^n*S↔a<b):=fun a b=>by rw [Nat.mul_lt_mul_right hS,pow_lt_iff hn]
 have E:∀ a b:Nat,(a^n*S=b^n*S↔a=b):=fun a b=>⟨fun h=>(pow_inj_iff hn).1 (Nat.eq_of_mul_eq_mul_right hS h),fun h=>by rw [h]⟩
 rcases Nat.eq_zero_or_pos d with hd0|hd1
 · subst hd0
   have hU:=h0 rfl;have k1:(2*(R*2^p))^n*S=2^n*U:=by rw [g0,←hU]
   have k2:(2*R+0)*2^p=2*(R*2^p):=by rw [Nat.add_zero,Nat.mul_assoc]
   rw [k2,←k1,L,E];exact ⟨Iff.rfl,Iff.rfl⟩
 · obtain rfl:d=1:=by omega
   obtain ⟨u1,u2⟩:=h1 rfl;have k1:(2*(R*2^p))^n*S<2^n*U:=by rw [g0];exact Nat.mul_lt_mul_of_pos_left u1 hp2
   have k2:2^n*U<(2*((R+1)*2^p))^n*S:=by rw [g0];exact Nat.mul_lt_mul_of_pos_left u2 hp2
   have below:∀ x,x≤2*(R*2^p)→(x<(2*R+1)*2^p↔x^n*S<2^n*U)∧(x=(2*R+1)*2^p↔x^n*S=2^n*U):=by
    intro x hx
    have y1:x<(2*R+1)*2^p:=by
     have:=Nat.two_pow_pos p;rw [Nat.add_mul,Nat.mul_assoc,Nat.one_mul];omega
    have y2:x^n*S<2^n*U:=by
     refine Nat.lt_of_le_of_lt ?_ k1;exact Nat.mul_le_mul_right _ (Nat.pow_le_pow_left hx n)
    exact ⟨⟨fun _=>y2,fun _=>y1⟩,⟨fun h=>by omega,fun h=>by omega⟩⟩
   have above:∀ x,2*((R+1)*2^p)≤x→(x<(2*R+1)*2^p↔x^n*S<2^n*U)∧(x=(2*R+1)*2^p↔x^n*S=2^n*U):=by
    intro x hx
    have y1:(2*R+1)*2^p<x:=by
     have:=Nat.two_pow_pos p;refine Nat.lt_of_lt_of_le ?_ hx;rw [←Nat.mul_assoc];exact Nat.mul_lt_mul_of_pos_right (by omega) this
    have y2:2^n*U<x^n*S:=by
     refine Nat.lt_of_lt_of_le k2 ?_;exact Nat.mul_le_mul_right _ (Nat.pow_le_pow_left hx n)
    exact ⟨⟨fun h=>by omega,fun h=>by omega⟩,⟨fun h=>by omega,fun h=>by omega⟩⟩
   by_cases hjp:p<j+q
   · obtain ⟨i,hi⟩:∃ i,j+q=i+1+p:=⟨j+q-1-p,by omega⟩
     have e:c*2^(j+q)=2*((c*2^i)*2^p):=by
      rw [hi,Nat.pow_add,Nat.pow_succ,←Nat.mul_assoc,←Nat.mul_assoc,Nat.mul_comm (c*2^i) 2,Nat.mul_assoc 2]
     rw [e]
     rcases Nat.lt_or_ge R (c*2^i) with k|k
     · exact above _ (Nat.mul_le_mul_left _ (Nat.mul_le_mul_right _ k))
     · exact below _ (Nat.mul_le_mul_left _ (Nat.mul_le_mul_right _ k))
   · refine below _ ?_
     calc c*2^(j+q)≤18014398509481984*2^p:=Nat.mul_le_mul hc (Nat.pow_le_pow_right (by decide) (by omega))
      _≤(2*R)*2^p:=Nat.mul_le_mul_right _ (by omega)
      _=2*(R*2^p):=Nat.mul_assoc _ _ _
theorem alike_far (n P Q V S:Nat) (hn:0<n) (hP:∀ c j,c≤18014398509481984→j≤2046→c*2^j*Q<2*P) (hV:∀ c j,c≤18014398509481984→j≤2046→(c*2^j)^n*S<2^n*V):Alike n P Q V S:=by
 intro c j hc hj;have h1:=hP c j hc hj;have h2:=hV c j hc hj;exact ⟨⟨fun _=>h2,fun _=>h1⟩,⟨fun h=>by omega,fun h=>by omega⟩⟩
theorem alike_near (n P Q V S:Nat) (hn:0<n) (hP0:0<P) (hV0:0<V) (hS:0<S) (hP:2*P<Q) (hV:2^n*V<S):Alike n P Q V S:=by
 intro c j hc hj
 rcases Nat.eq_zero_or_pos (c*2^j) with h0|h0
 · rw [h0,Nat.zero_mul,Nat.zero_pow hn,Nat.zero_mul]
   have:=Nat.mul_pos (Nat.two_pow_pos n) hV0;exact ⟨⟨fun _=>this,fun _=>by omega⟩,⟨fun h=>by omega,fun h=>by omega⟩⟩
 · have h1:Q≤c*2^j*Q:=Nat.le_mul_of_pos_left _ h0
   have h2:S≤(c*2^j)^n*S:=Nat.le_mul_of_pos_left _ (Nat.pow_pos h0);exact ⟨⟨fun h=>by omega,fun h=>by omega⟩,⟨fun h=>by omega,fun h=>by omega⟩⟩
theorem scale_lt (a b i k i' k':Nat) (h:i'+k=k'+i):a*2^i<b*2^k↔a*2^i'<b*2^k':=by
 rcases Nat.le_total i i' with q|q
 · obtain ⟨d,rfl⟩:∃ d,i'=i+d:=⟨i'-i,by omega⟩
   obtain rfl:k'=k+d:=by omega
   rw [Nat.pow_add,Nat.pow_add,←Nat.mul_assoc,←Nat.mul_assoc,Nat.mul_lt_mul_right (Nat.two_pow_pos d)]
 · obtain ⟨d,rfl⟩:∃ d,i=i'+d:=⟨i-i',by omega⟩
   obtain rfl:k=k'+d:=by omega
   rw [Nat.pow_add,Nat.pow_add,←Nat.mul_assoc,←Nat.mul_assoc,Nat.mul_lt_mul_right (Nat.two_pow_pos d)]
theorem scale_eq (a b i k i' k':Nat) (h:i'+k=k'+i):a*2^i=b*2^k↔a*2^i'=b*2^k':=by
 have h1:=scale_lt a b i k i' k' h;have h2:=scale_lt b a k i k' i' (by omega)
 generalize a*2^i=A at *;generalize a*2^i'=A' at *;generalize b*2^k=B at *;generalize b*2^k'=B' at *
 constructor
 · intro e;rcases Nat.lt_trichotomy A' B' with q | q | q
   · have:=h1.2 q;omega
   · exact q
   · have:=h2.2 q;omega
 · intro e;rcases Nat.lt_trichotomy A B with q | q | q
   · have:=h1.1 q;omega
   · exact q
   · have:=h2.1 q;omega
def cutS (Y size:Nat):Nat:=bl Y+size-262144
def higS (Y size:Nat):Nat:=Y/2^cutS Y size
def byS (X Y size:Nat):Int:=(bl (higS Y size):Int)+size-bl X
def levS (X Y size:Nat):Nat:=if byS X Y size<0 then X/2^(-byS X Y size).toNat else X*2^(byS X Y size).toNat
def who0 (X Y size:Nat):Nat:=levS X Y size/higS Y size
def lefS (X Y size:Nat):Nat:=levS X Y size%higS Y size
def lowS (Y size:Nat):Nat:=Y-higS Y size*2^cutS Y size
def hasS (X Y size:Nat):Nat:=lefS X Y size*2^cutS Y size
def takS (X Y size:Nat):Nat:=who0 X Y size*lowS Y size
def whoS (X Y size:Nat):Nat:=if hasS X Y size<takS X Y size then who0 X Y size-1 else who0 X Y size
def atS (X Y size:Nat):Bool:=decide (hasS X Y size=takS X Y size)&&decide (0≤byS X Y size)
structure DivS (X Y size:Nat):Prop where
 one:atS X Y size=true→X*2^((byS X Y size).toNat+cutS Y size)=whoS X Y size*Y*2^(-byS X Y size).toNat
 low:atS X Y size=false→whoS X Y size*Y*2^(-byS X Y size).toNat<X*2^((byS X Y size).toNat+cutS Y size)
 high:atS X Y size=false→X*2^((byS X Y size).toNat+cutS Y size)<(whoS X Y size+1)*Y*2^(-byS X Y size).toNat
 least:X≠0→2^(size-1)≤whoS X Y size+1
 most:whoS X Y size<2^(size+1)
 less:hasS X Y size<takS X Y size→1≤who0 X Y size
 hig:higS Y size≠0
 low':higS Y size*2^cutS Y size≤Y
 lowlt:lowS Y size<2^cutS Y size
 w0:who0 X Y size<2^(size+1)
 blh:bl (higS Y size)=bl Y-cutS Y size
 lev:levS X Y size<2^(bl (higS Y size)+size)
 lef:lefS X Y size<higS Y size
theorem bl_unique {X k:Nat}(h1:2^k≤X) (h2:X<2^(k+1)):bl X=k+1:=by
 have h0:X≠0:=by have:=Nat.two_pow_pos k;omega
 have a:=bl_lt X;have b:=bl_ge X h0;have c:=bl_pos X h0;have d1:=(Nat.pow_lt_pow_iff_right (a:=2) (by decide)).1 (Nat.lt_of_le_of_lt h1 a)
 have d2:=(Nat.pow_lt_pow_iff_right (a:=2) (by decide)).1 (Nat.lt_of_le_of_lt b h2)
 omega
theorem divS_facts (X Y size:Nat) (hX:X=0∨X%2=1) (hY:Y≠0) (hs0:1≤size) (hs:size≤1000) (hbX:bl X≤262144) (hbY:bl Y≤262144):DivS X Y size:=by
 obtain ⟨cut,ecut⟩:∃ c,cutS Y size=c:=⟨_,rfl⟩;obtain ⟨H,eH⟩:∃ c,higS Y size=c:=⟨_,rfl⟩;have eH':Y/2^cut=H:=by rw [←eH,←ecut];rfl
 have hD:0<2^cut:=Nat.two_pow_pos cut;have hYlt:=bl_lt Y;have hYge:=bl_ge Y hY;have hYpos:=bl_pos Y hY;have hcut:cut<bl Y∧(0<cut→cut=bl Y+size-262144):=by unfold cutS at ecut;omega
 have hH1:2^(bl Y-1-cut)≤H:=by
  rw [←eH',Nat.le_div_iff_mul_le hD,←Nat.pow_add,show bl Y-1-cut+cut=bl Y-1 by omega];exact hYge
 have hH2:H<2^(bl Y-1-cut+1):=by
  rw [←eH',Nat.div_lt_iff_lt_mul hD,←Nat.pow_add,show bl Y-1-cut+1+cut=bl Y by omega];exact hYlt
 have hblH:bl H=bl Y-cut:=by rw [bl_unique hH1 hH2];omega
 have hH0:0<H:=Nat.lt_of_lt_of_le (Nat.two_pow_pos _) hH1;have hHD:H*2^cut≤Y:=by rw [←eH'];exact Nat.div_mul_le_self _ _
 have hYdm:H*2^cut+Y%2^cut=Y:=by rw [←eH',Nat.mul_comm];exact Nat.div_add_mod Y _
 have hYm:=Nat.mod_lt Y hD;obtain ⟨Lo,eLo⟩:∃ c,lowS Y size=c:=⟨_,rfl⟩;have eLo':Y-H*2^cut=Lo:=by rw [←eLo];unfold lowS;rw [eH,ecut]
 have hLo:Lo<2^cut:=by omega
 have hYs:Y=H*2^cut+Lo:=by omega
 obtain ⟨b,eb⟩:∃ b,byS X Y size=b:=⟨_,rfl⟩;have eb':(bl H:Int)+size-bl X=b:=by rw [←eb];unfold byS;rw [eH]
 obtain ⟨lev,elev⟩:∃ c,levS X Y size=c:=⟨_,rfl⟩;have elev':(if b<0 then X/2^(-b).toNat else X*2^b.toNat)=lev:=by rw [←elev];unfold levS;rw [eb]
 obtain ⟨W0,eW0⟩:∃ c,who0 X Y size=c:=⟨_,rfl⟩;have eW0':lev/H=W0:=by rw [←eW0];unfold who0;rw [elev,eH]
 obtain ⟨Lf,eLf⟩:∃ c,lefS X Y size=c:=⟨_,rfl⟩;have eLf':lev%H=Lf:=by rw [←eLf];unfold lefS;rw [elev,eH]
 have hdm:H*W0+Lf=lev:=by rw [←eW0',←eLf'];exact Nat.div_add_mod lev H
 have hLf:Lf<H:=by rw [←eLf'];exact Nat.mod_lt _ hH0
 have eHas:hasS X Y size=Lf*2^cut:=by unfold hasS;rw [eLf,ecut]
 have eTak:takS X Y size=W0*Lo:=by unfold takS;rw [eW0,eLo]
 have hXlt:=bl_lt X
 have hlevlt:lev<2^(bl H+size):=by
  rw [←elev']
  split
  · rename_i hb
    rw [Nat.div_lt_iff_lt_mul (Nat.two_pow_pos _),←Nat.pow_add,show bl H+size+(-b).toNat=bl X by omega];exact hXlt
  · rename_i hb
    refine Nat.lt_of_lt_of_le (Nat.mul_lt_mul_of_pos_right hXlt (Nat.two_pow_pos _)) ?_;rw [←Nat.pow_add];exact Nat.pow_le_pow_right (by decide) (by omega)
 have hW0lt:W0<2^(size+1):=by
  rw [←eW0',Nat.div_lt_iff_lt_mul hH0];refine Nat.lt_of_lt_of_le hlevlt ?_;have:2^(size+1)*2^(bl Y-1-cut)≤2^(size+1)*H:=Nat.mul_le_mul_left _ hH1;rw [←Nat.pow_add,show size+1+(bl Y-1-cut)=bl H+size by omega] at this
  exact this
 have hW0ge:X≠0→2^(size-1)≤W0:=by
  intro h0;have hXge:=bl_ge X h0;have hXp:=bl_pos X h0
  have hl:2^(bl H+size-1)≤lev:=by
   rw [←elev']
   split
   · rename_i hb
     rw [Nat.le_div_iff_mul_le (Nat.two_pow_pos _),←Nat.pow_add,show bl H+size-1+(-b).toNat=bl X-1 by omega];exact hXge
   · rename_i hb
     refine Nat.le_trans ?_ (Nat.mul_le_mul_right _ hXge);rw [←Nat.pow_add];exact Nat.pow_le_pow_right (by decide) (by omega)
  rw [←eW0',Nat.le_div_iff_mul_le hH0];refine Nat.le_trans ?_ hl;have:2^(size-1)*H≤2^(size-1)*2^(bl H):=Nat.mul_le_mul_left _ (Nat.le_of_lt (bl_lt H));rw [←Nat.pow_add,show size-1+bl H=bl H+size-1 by omega] at this
  exact this
 -- whole times the low end is below Y
 have hWL:W0*Lo<Y:=by
  by_cases hc:cut=0
  · subst hc
    have:Lo=0:=by simpa using hLo
    rw [this,Nat.mul_zero];omega
  · have h1:W0*Lo<2^(size+1)*2^cut:=Nat.mul_lt_mul'' hW0lt hLo
    rw [←Nat.pow_add] at h1;refine Nat.lt_of_lt_of_le h1 (Nat.le_trans ?_ hYge);exact Nat.pow_le_pow_right (by decide) (by omega)
 -- what the level is,by whole
 have hsum:lev*2^cut+W0*Lo=W0*Y+Lf*2^cut:=by
  rw [←hdm,hYs,Nat.add_mul,Nat.mul_add,Nat.mul_comm H W0,Nat.mul_assoc];omega
 have hLfD:Lf*2^cut<Y:=Nat.lt_of_lt_of_le (Nat.mul_lt_mul_of_pos_right hLf hD) hHD
 have hless:hasS X Y size<takS X Y size→1≤W0:=by
  intro h;rw [eHas,eTak] at h
  rcases Nat.eq_zero_or_pos W0 with q|q
  · rw [q,Nat.zero_mul] at h;omega
  · exact q
 have eWho:whoS X Y size=if Lf*2^cut<W0*Lo then W0-1 else W0:=by unfold whoS;rw [eHas,eTak,eW0]
 have eAt:atS X Y size=(decide (Lf*2^cut=W0*Lo)&&decide (0≤b)):=by unfold atS;rw [eHas,eTak,eb]
 have key:(atS X Y size=true→X*2^(b.toNat+cut)=whoS X Y size*Y*2^(-b).toNat)∧(atS X Y size=false→whoS X Y size*Y*2^(-b).toNat<X*2^(b.toNat+cut)∧X*2^(b.toNat+cut)<(whoS X Y size+1)*Y*2^(-b).toNat):=by
  rw [eAt,eWho]
  by_cases hb:b<0
  · have hc0:cut=0:=by omega
    have hX0:X≠0:=by intro h;rw [h,bl_zero] at eb';omega
    have hXo:X%2=1:=by omega
    rw [if_pos hb] at elev';subst hc0;have hL0:Lo=0:=by simpa using hLo
    have hb1:b.toNat=0:=by omega
    rw [hL0,Nat.mul_zero,if_neg (by omega),hb1,Nat.add_zero,Nat.pow_zero,Nat.mul_one]
    rw [hL0,Nat.pow_zero,Nat.mul_one,Nat.mul_one,Nat.mul_zero] at hsum;rw [decide_eq_false (show ¬ 0≤b by omega),Bool.and_false]
    refine ⟨fun h=>(by cases h),fun _=>?_⟩
    obtain ⟨k,hk⟩:∃ k,(-b).toNat=k:=⟨_,rfl⟩;have hk0:0<k:=by omega
    rw [hk] at elev' ⊢;have hP:=Nat.two_pow_pos k;have hxm:2^k*lev+X%2^k=X:=by rw [←elev'];exact Nat.div_add_mod X _
    have hxl:=Nat.mod_lt X hP
    have hx0:X%2^k≠0:=by
     intro h;rw [h] at hxm;rw [show k=k-1+1 by omega,Nat.pow_succ,Nat.mul_comm _ 2,Nat.mul_assoc] at hxm
     omega
    have h1:W0*Y≤lev:=by omega
    have h2:lev+1≤(W0+1)*Y:=by
     rw [Nat.add_mul,Nat.one_mul];rw [Nat.pow_zero,Nat.mul_one] at hLfD;omega
    have h3:=Nat.mul_le_mul_right (2^k) h1;have h4:=Nat.mul_le_mul_right (2^k) h2;rw [Nat.add_mul,Nat.one_mul] at h4;rw [Nat.mul_comm] at hxm;omega
  · rw [if_neg hb] at elev'
    have hb1:(-b).toNat=0:=by omega
    rw [hb1,Nat.pow_zero,Nat.mul_one,Nat.mul_one,decide_eq_true (show 0≤b by omega),Bool.and_true]
    have e1:X*2^(b.toNat+cut)=lev*2^cut:=by rw [Nat.pow_add,←Nat.mul_assoc,elev']
    rw [e1];generalize lev*2^cut=L at *;generalize Lf*2^cut=A at *;generalize hT:W0*Lo=T at *
    by_cases hlt:A<T
    · rw [if_pos hlt]
      have hW1:1≤W0:=hless (by rw [eHas,eTak];exact hlt)
      obtain ⟨W,rfl⟩:∃ W,W0=W+1:=⟨W0-1,by omega⟩
      rw [Nat.add_sub_cancel];rw [Nat.add_mul,Nat.one_mul] at hsum ⊢;refine ⟨fun h=>?_,fun _=>by omega⟩
      have:=of_decide_eq_true h;omega
    · rw [if_neg hlt]
      rw [Nat.add_mul,Nat.one_mul];refine ⟨fun h=>?_,fun h=>?_⟩
      · have:=of_decide_eq_true h;omega
      · have:=of_decide_eq_false h;omega
 refine ⟨?_,?_,?_,?_,?_,?_,?_,?_,?_,?_,?_,?_,?_⟩
 · rw [eb,ecut];exact key.1
 · rw [eb,ecut];exact fun h=>(key.2 h).1
 · rw [eb,ecut];exact fun h=>(key.2 h).2
 · intro h
   have:=hW0ge h;rw [eWho];split <;> omega
 · rw [eWho];split <;> omega
 · rw [eW0];exact hless
 · rw [eH];omega
 · rw [eH,ecut];exact hHD
 · rw [eLo,ecut];exact hLo
 · rw [eW0];exact hW0lt
 · rw [eH,ecut];exact hblH
 · rw [elev,eH];exact hlevlt
 · rw [eLf,eH];exact hLf
theorem Alike.scale {n P Q P' Q' V S:Nat}(h:Alike n P' Q' V S) (hQ:0<Q) (hQ':0<Q') (e:P*Q'=P'*Q):Alike n P Q V S:=by
 intro c j hc hj;obtain ⟨h1,h2⟩:=h c j hc hj;rw [←h1,←h2];generalize c*2^j=g;have e1:g*Q*Q'=g*Q'*Q:=Nat.mul_right_comm _ _ _;have e2:2*P*Q'=2*P'*Q:=by rw [Nat.mul_assoc,e,Nat.mul_assoc]
 constructor
 · rw [←Nat.mul_lt_mul_right hQ',e1,e2,Nat.mul_lt_mul_right hQ]
 · constructor
   · intro k
     have:=congrArg (·*Q') k
     simp only [e1,e2] at this;exact Nat.eq_of_mul_eq_mul_right hQ this
   · intro k
     have:=congrArg (·*Q) k
     simp only [←e1,←e2] at this;exact Nat.eq_of_mul_eq_mul_right hQ' this
structure InSpan (n R d V S u:Nat) (h:Int):Prop where
 pos:0<S
 one:d=0→V*(2^(-(h+u)).toNat)^n=(R*2^(h+u).toNat)^n*S
 in':d=1→(R*2^(h+u).toNat)^n*S<V*(2^(-(h+u)).toNat)^n∧V*(2^(-(h+u)).toNat)^n<((R+1)*2^(h+u).toNat)^n*S
def clampE (h:Int):Int:=min (max (h-1) (-4096)) 4096
theorem alike_clamp (n R d V S u:Nat) (h:Int) (hn:0<n) (hR1:9007199254740992≤R) (hR2:R<2^100) (hd:d≤1) (hu0:149≤u) (hu1:u≤1074) (hI:InSpan n R d V S u h) :
 Alike n ((2*R+d)*2^(clampE h+u).toNat) (2^(-(clampE h+u)).toNat) V S:=by
 have hS:=hI.pos
 have hlo:(R*2^(h+u).toNat)^n*S≤V*(2^(-(h+u)).toNat)^n:=by
  rcases Nat.eq_zero_or_pos d with q|q
  · rw [hI.one q];exact Nat.le_refl _
  · exact Nat.le_of_lt (hI.in' (by omega)).1
 have hhi:V*(2^(-(h+u)).toNat)^n<((R+1)*2^(h+u).toNat)^n*S:=by
  rcases Nat.eq_zero_or_pos d with q|q
  · rw [hI.one q]
    exact Nat.mul_lt_mul_of_pos_right ((pow_lt_iff hn).2 (Nat.mul_lt_mul_of_pos_right (by omega) (Nat.two_pow_pos _))) hS
  · exact (hI.in' (by omega)).2
 by_cases h1:h-1 < -4096
 · have hc:clampE h=-4096:=by unfold clampE;omega
   rw [hc];have e1:((-4096:Int)+u).toNat=0:=by omega
   have e2:(h+u).toNat=0:=by omega
   rw [e1,Nat.pow_zero,Nat.mul_one];rw [e2,Nat.pow_zero,Nat.mul_one] at hlo hhi;obtain ⟨q,hq⟩:∃ q,(-(h+u)).toNat=q:=⟨_,rfl⟩;have hq1:3000≤q:=by omega
   rw [hq] at hlo hhi;obtain ⟨q',hq'⟩:∃ q',(-((-4096:Int)+u)).toNat=q':=⟨_,rfl⟩;have hq'1:3000≤q':=by omega
   rw [hq'];have hbig:∀ k,103≤k→2^103≤2^k:=fun k hk=>Nat.pow_le_pow_right (by decide) hk
   have b1:=hbig q (by omega)
   have b2:=hbig q' (by omega)
   have e103:(2:Nat)^103=8*2^100:=by decide
   have hqn:0<(2^q)^n:=Nat.pow_pos (Nat.two_pow_pos q);refine alike_near n _ _ V S hn (by omega) ?_ hS (by omega) ?_
   · rcases Nat.eq_zero_or_pos V with z | z
     · rw [z,Nat.zero_mul] at hlo
       have:=Nat.mul_pos (Nat.pow_pos (n:=n) (show 0<R by omega)) hS
       omega
     · exact z
   · have s1:2^n*V*(2^q)^n<(2*(R+1))^n*S:=by
      rw [Nat.mul_pow,Nat.mul_assoc,Nat.mul_assoc];exact Nat.mul_lt_mul_of_pos_left hhi (Nat.two_pow_pos n)
     have s2:(2*(R+1))^n*S≤(2^q)^n*S:=Nat.mul_le_mul_right _ (Nat.pow_le_pow_left (by omega) n)
     have s3:2^n*V*(2^q)^n<S*(2^q)^n:=by rw [Nat.mul_comm S];exact Nat.lt_of_lt_of_le s1 s2
     exact (Nat.mul_lt_mul_right hqn).1 s3
 · by_cases h2:4096<h-1
   · have hc:clampE h=4096:=by unfold clampE;omega
     rw [hc];have e1:(-((4096:Int)+u)).toNat=0:=by omega
     have e2:(-(h+u)).toNat=0:=by omega
     rw [e1,Nat.pow_zero];rw [e2,Nat.pow_zero,Nat.one_pow,Nat.mul_one] at hlo hhi;obtain ⟨A,hA⟩:∃ A,((4096:Int)+u).toNat=A:=⟨_,rfl⟩;obtain ⟨p,hp⟩:∃ p,(h+u).toNat=p:=⟨_,rfl⟩;rw [hA];rw [hp] at hlo hhi;have hA1:2101≤A:=by omega
     have hp1:2101≤p:=by omega
     have top:∀ c j k,c≤18014398509481984→j≤2046→2101≤k→c*2^j<2^k:=by
      intro c j k hcc hj hk;have h54:(18014398509481984:Nat)=2^54:=by decide
      calc c*2^j≤2^54*2^j:=Nat.mul_le_mul_right _ (by omega)
       _=2^(54+j):=(Nat.pow_add _ _ _).symm
       _<2^k:=Nat.pow_lt_pow_right (by decide) (by omega)
     refine alike_far n _ _ V S hn ?_ ?_
     · intro c j hcc hj
       have t:=top c j A hcc hj hA1;have:2^A≤(2*R+d)*2^A:=Nat.le_mul_of_pos_left _ (by omega)
       rw [Nat.mul_one];omega
     · intro c j hcc hj
       have t:=top c j p hcc hj hp1;have t2:2^p≤R*2^p:=Nat.le_mul_of_pos_left _ (by omega)
       have t3:(c*2^j)^n*S<(R*2^p)^n*S:=Nat.mul_lt_mul_of_pos_right ((pow_lt_iff hn).2 (by omega)) hS
       have t4:V≤2^n*V:=Nat.le_mul_of_pos_left _ (Nat.two_pow_pos n);omega
   · have hc:clampE h=h-1:=by unfold clampE;omega
     rw [hc];have sp:=alike_span n R (h+u).toNat (-(h+u)).toNat V S d hn hS hR1 hd hI.one hI.in';refine sp.scale (Nat.two_pow_pos _) (Nat.mul_pos (by decide) (Nat.two_pow_pos _)) ?_
     have e:∀ a b c k:Nat,a+1+b=c+k→(2*R+d)*2^a*(2*2^b)=(2*R+d)*2^c*2^k:=by
      intro a b c k hh;rw [Nat.mul_assoc,Nat.mul_assoc,←Nat.pow_add,←hh,Nat.pow_add,Nat.pow_succ,Nat.mul_assoc (2^a)]
     exact e _ _ _ _ (by omega)
def rV11 (X:Nat) (e f:Int) (u n:Nat):Nat:=X*2^(e-f+(n*u:Nat)).toNat
def rS11 (Y:Nat) (e f:Int) (u n:Nat):Nat:=Y*2^(-(e-f+(n*u:Nat))).toNat
theorem quo_span (X Y:Nat) (e f:Int) (u:Nat) (hY:Y≠0) (hD:DivS X Y 64) :
 InSpan 1 (whoS X Y 64) (if atS X Y 64 then 0 else 1) (rV11 X e f u 1) (rS11 Y e f u 1) u (e-f-byS X Y 64-cutS Y 64):=by
 have h1:=hD.one;have h2:=hD.low;have h3:=hD.high;generalize whoS X Y 64=W at *;generalize byS X Y 64=b at *;generalize cutS Y 64=cut at *;generalize atS X Y 64=t at *;have hY0:0<Y:=by omega
 have sides:∀ R:Nat,(R*2^(e-f-b-cut+u).toNat)^1*rS11 Y e f u 1=R*Y*2^((e-f-b-cut+u).toNat+(-(e-f+(1*u:Nat))).toNat):=by
  intro R;unfold rS11;rw [Nat.pow_one,Nat.pow_add,Nat.mul_assoc R,Nat.mul_assoc R,←Nat.mul_assoc (2^_) Y,Nat.mul_comm (2^_) Y,Nat.mul_assoc Y]
 have left:rV11 X e f u 1*(2^(-(e-f-b-cut+u)).toNat)^1=X*2^((e-f+(1*u:Nat)).toNat+(-(e-f-b-cut+u)).toNat):=by
  unfold rV11;rw [Nat.pow_one,Nat.pow_add,Nat.mul_assoc]
 refine ⟨Nat.mul_pos hY0 (Nat.two_pow_pos _),fun hd=>?_,fun hd=>?_⟩
 · have ht:t=true:=by cases t with
    | true=>rfl
    | false=>simp at hd
   rw [left,sides];exact (scale_eq X (W*Y) _ _ _ _ (by omega)).1 (h1 ht)
 · have ht:t=false:=by cases t with
    | true=>simp at hd
    | false=>rfl
   rw [left,sides,sides];exact ⟨(scale_lt (W*Y) X _ _ _ _ (by omega)).1 (h2 ht),(scale_lt X ((W+1)*Y) _ _ _ _ (by omega)).1 (h3 ht)⟩
theorem dbl (W Y k:Nat):W*Y*2^(k+1)=2*W*Y*2^k:=by
 rw [Nat.pow_succ,Nat.mul_comm (2^k) 2,←Nat.mul_assoc,Nat.mul_comm (W*Y) 2,←Nat.mul_assoc]
def hvW (W:Nat) (x:Int):Nat:=if x%2=0 then W else W/2
def hvX (x:Int):Int:=if x%2=0 then x else x+1
def hvA (W:Nat) (x:Int) (t:Bool):Bool:=if x%2=0 then t else t&&decide (W%2=0)
theorem root_span (X Y:Nat) (e f:Int) (u R:Nat) (hY:Y≠0) (hD:DivS X Y 129) (x:Int) (hx:x=e-f-byS X Y 129-cutS Y 129) (hR:IsRoot (hvW (whoS X Y 129) x) R) :
 InSpan 2 R (if hvA (whoS X Y 129) x (atS X Y 129)&&decide (hvW (whoS X Y 129) x=R*R) then 0 else 1) (rV11 X e f u 2) (rS11 Y e f u 2) u (hvX x/2):=by
 have h1:=hD.one;have h2:=hD.low;have h3:=hD.high;generalize whoS X Y 129=W at *;generalize byS X Y 129=b at *;generalize cutS Y 129=cut at *;generalize atS X Y 129=t at *;have hY0:0<Y:=by omega
 -- the halved span
 obtain ⟨W',hW'⟩:∃ W',hvW W x=W':=⟨_,rfl⟩;obtain ⟨t',ht'⟩:∃ t',hvA W x t=t':=⟨_,rfl⟩;obtain ⟨hh,ehh⟩:∃ hh,hvX x/2=hh:=⟨_,rfl⟩;rw [hW'] at hR;rw [hW',ht',ehh]
 -- V (2^q)^2 against W' (2^p)^2 S,all as powers
 have sides:∀ R:Nat,R*((2^(hh+u).toNat)^2)*rS11 Y e f u 2=R*Y*2^(2*(hh+u).toNat+(-(e-f+(2*u:Nat))).toNat):=by
  intro R;unfold rS11;rw [←Nat.pow_mul,Nat.mul_comm (hh+u).toNat 2,Nat.pow_add,Nat.mul_assoc R,Nat.mul_assoc R,←Nat.mul_assoc (2^_) Y,Nat.mul_comm (2^_) Y,Nat.mul_assoc Y]
 have left:rV11 X e f u 2*(2^(-(hh+u)).toNat)^2=X*2^((e-f+(2*u:Nat)).toNat+2*(-(hh+u)).toNat):=by
  unfold rV11;rw [←Nat.pow_mul,Nat.mul_comm (-(hh+u)).toNat 2,Nat.pow_add,Nat.mul_assoc]
 have base:(t'=true→rV11 X e f u 2*(2^(-(hh+u)).toNat)^2=W'*((2^(hh+u).toNat)^2)*rS11 Y e f u 2) ∧
  (t'=false→W'*((2^(hh+u).toNat)^2)*rS11 Y e f u 2<rV11 X e f u 2*(2^(-(hh+u)).toNat)^2∧rV11 X e f u 2*(2^(-(hh+u)).toNat)^2<(W'+1)*((2^(hh+u).toNat)^2)*rS11 Y e f u 2):=by
  rw [left,sides,sides]
  by_cases hev:x%2=0
  · have q1:W=W':=by rw [←hW'];unfold hvW;rw [if_pos hev]
    have q2:t=t':=by rw [←ht'];unfold hvA;rw [if_pos hev]
    have q3:2*hh=x:=by rw [←ehh];unfold hvX;rw [if_pos hev];omega
    subst q1 q2;refine ⟨fun ht=>(scale_eq X (W*Y) _ _ _ _ (by omega)).1 (h1 ht),fun ht=>⟨(scale_lt (W*Y) X _ _ _ _ (by omega)).1 (h2 ht),(scale_lt X ((W+1)*Y) _ _ _ _ (by omega)).1 (h3 ht)⟩⟩
  · have q1:W/2=W':=by rw [←hW'];unfold hvW;rw [if_neg hev]
    have q2:(t&&decide (W%2=0))=t':=by rw [←ht'];unfold hvA;rw [if_neg hev]
    have q3:2*hh=x+1:=by rw [←ehh];unfold hvX;rw [if_neg hev];omega
    have two:∀ R,R*Y*2^(2*(hh+u).toNat+(-(e-f+(2*u:Nat))).toNat)=R*Y*2^(2*(hh+u).toNat+(-(e-f+(2*u:Nat))).toNat):=fun R=>rfl
    refine ⟨fun ht=>?_,fun ht=>?_⟩
    · rw [←q2] at ht
      simp only [Bool.and_eq_true,decide_eq_true_eq] at ht;have hw:W=2*W':=by omega
      have b1:=h1 ht.1;rw [hw,show 2*W'*Y*2^(-b).toNat=W'*Y*2^((-b).toNat+1) from (dbl _ _ _).symm] at b1
      exact (scale_eq X (W'*Y) _ _ _ _ (by omega)).1 b1
    · have lo:W'*Y*2^((-b).toNat+1)≤W*Y*2^(-b).toNat:=by
       rw [show W'*Y*2^((-b).toNat+1)=2*W'*Y*2^(-b).toNat from dbl _ _ _]
       exact Nat.mul_le_mul_right _ (Nat.mul_le_mul_right _ (by omega))
      have hi:(W+1)*Y*2^(-b).toNat≤(W'+1)*Y*2^((-b).toNat+1):=by
       rw [show (W'+1)*Y*2^((-b).toNat+1)=2*(W'+1)*Y*2^(-b).toNat from dbl _ _ _]
       exact Nat.mul_le_mul_right _ (Nat.mul_le_mul_right _ (by omega))
      have key:W'*Y*2^((-b).toNat+1)<X*2^(b.toNat+cut)∧X*2^(b.toNat+cut)<(W'+1)*Y*2^((-b).toNat+1):=by
       cases ht2:t with
       | false=>have k1:=h2 ht2;have k2:=h3 ht2;omega
       | true =>
         have k1:=h1 ht2;rw [ht2] at q2
         have hodd:W%2=1:=by
          rw [←q2] at ht;simp at ht;omega
         have st1:W'*Y*2^((-b).toNat+1)<W*Y*2^(-b).toNat:=by
          rw [show W'*Y*2^((-b).toNat+1)=2*W'*Y*2^(-b).toNat from dbl _ _ _]
          exact Nat.mul_lt_mul_of_pos_right (Nat.mul_lt_mul_of_pos_right (by omega) hY0) (Nat.two_pow_pos _)
         have st2:W*Y*2^(-b).toNat<(W'+1)*Y*2^((-b).toNat+1):=by
          rw [show (W'+1)*Y*2^((-b).toNat+1)=2*(W'+1)*Y*2^(-b).toNat from dbl _ _ _]
          exact Nat.mul_lt_mul_of_pos_right (Nat.mul_lt_mul_of_pos_right (by omega) hY0) (Nat.two_pow_pos _)
         omega
      exact ⟨(scale_lt (W'*Y) X _ _ _ _ (by omega)).1 key.1,(scale_lt X ((W'+1)*Y) _ _ _ _ (by omega)).1 key.2⟩
 have hSpos:0<rS11 Y e f u 2:=Nat.mul_pos hY0 (Nat.two_pow_pos _);obtain ⟨hR1,hR2⟩:=hR;have hpp:0<(2^(hh+u).toNat)^2:=Nat.pow_pos (Nat.two_pow_pos _)
 have sq:∀ a:Nat,(a*2^(hh+u).toNat)^2*rS11 Y e f u 2=a*a*((2^(hh+u).toNat)^2)*rS11 Y e f u 2:=by
  intro a;rw [Nat.mul_pow,Nat.pow_two a]
 have mono:∀ a b:Nat,a≤b→a*((2^(hh+u).toNat)^2)*rS11 Y e f u 2≤b*((2^(hh+u).toNat)^2)*rS11 Y e f u 2:=fun a b q=>Nat.mul_le_mul_right _ (Nat.mul_le_mul_right _ q)
 have smono:∀ a b:Nat,a<b→a*((2^(hh+u).toNat)^2)*rS11 Y e f u 2<b*((2^(hh+u).toNat)^2)*rS11 Y e f u 2:=fun a b q=>Nat.mul_lt_mul_of_pos_right (Nat.mul_lt_mul_of_pos_right q hpp) hSpos
 refine ⟨hSpos,fun hd=>?_,fun hd=>?_⟩
 · have hc:t'=true∧W'=R*R:=by
    by_cases q:(t'&&decide (W'=R*R))=true
    · simpa using q
    · rw [if_neg q] at hd;omega
   rw [sq,←hc.2];exact base.1 hc.1
 · have hc:¬ (t'=true∧W'=R*R):=by
    intro q;rw [if_pos (by simp [q.1,q.2])] at hd
    omega
   rw [sq,sq]
   cases ht2:t' with
   | false =>
     obtain ⟨k1,k2⟩:=base.2 ht2;have k3:=mono (R*R) W' hR1;have k4:=mono (W'+1) ((R+1)*(R+1)) hR2;omega
   | true =>
     have k1:=base.1 ht2
     have hne:R*R<W':=by
      rcases Nat.lt_or_ge (R*R) W' with q|q
      · exact q
      · exact absurd ⟨ht2,by omega⟩ hc
     rw [k1];exact ⟨smono _ _ hne,smono _ _ hR2⟩
end
section
open Go.RowKit
theorem or64_join (l x:Nat) (hl:l<4294967296) (hx:x<4294967296):bits BinOp.or IntKind.u64 ((l:Int)*4294967296) (x:Int)=((l*4294967296+x:Nat):Int):=by
 have e:((l:Int)*4294967296)=((l*4294967296:Nat):Int):=by simp only [Int.natCast_mul];rfl
 rw [e,bits_or_u64_nat _ _ (by omega) (by omega)]
 have:=Nat.two_pow_add_eq_or_of_lt (i:=32) (b:=x) (by omega) l
 have e2:2^32*l=l*4294967296:=by rw [Nat.mul_comm]
 rw [e2] at this;rw [this]
theorem cut_any (L:List Nat) (g off n cap q:Nat) (w:World)
 (hO:Own w g L) (hoff:off+n≤L.length) (hcap:n≤cap) (hbig:n≤4611686018427387904) (hL:Wf L) (hq:q<4294967296) (hq0:0<q) :
 Calls Tryz.prog 168 #[.slice (some ⟨g,off,none⟩) n cap,.int .u32 (q:Nat)] w fun r w' =>
  ∃ M,∃ c:Nat,r=.returned (.int .u32 (c:Nat))∧c<q∧Own w' g M∧Wf M∧Out L M off n∧sg L off n=sg M off n*q+c∧But g w w':=by
 have HR:Aside (Wf L∧off+n≤L.length):=⟨hL,hoff⟩;have HO:Hid (Own w g L):=hO;clear hL hO hoff;go_enter Tryz.func168,Tryz.ntmps168;go_wp2
 go_loopg [5,6] n (fun k c i wr=>∃ (cv:Nat) (M:List Nat),k≤n∧c=.int .u64 (cv:Nat)∧cv<q∧i=.int .i64 ((k:Int)-1) ∧
  Hid (Own wr g M)∧Aside (Wf M∧Out L M (off+k) (n-k)∧sg L (off+k) (n-k)=sg M (off+k) (n-k)*q+cv∧But g w wr))
 case atStart=>exact ⟨0,L,Nat.le_refl _,rfl,hq0,rfl,HO,HR.out.1,Out.refl _ _ _,by simp [sg_zero],But.refl _ _⟩
 case round =>
  obtain ⟨cv,M,hk,rfl,hcv,rfl,HM,HA⟩:=hrel
  by_cases hk0:gk=0
  · subst hk0
    go_wp2;go_ret;obtain ⟨hMw,hMo,hMs,hbut⟩:=HA.out;exact ⟨M,cv,rfl,hcv,HM.out,hMw,hMo,hMs,hbut⟩
  · obtain ⟨k,rfl⟩:∃ k,gk=k+1:=⟨gk-1,by omega⟩
    obtain ⟨hL,hoff⟩:=HR.out;obtain ⟨hMw,hMo,hMs,hbut⟩:=HA.out;have hgc:=HM.out.cell (off+k) (by rw [hMo.1];omega)
    have hgf:=HM.out.frozen (off+k);obtain ⟨x,hx⟩:∃ x:Nat,M.getD (off+k) 0=x:=⟨_,rfl⟩;have hxl:x<4294967296:=hx ▸ hMw.get _;rw [hx] at hgc;obtain ⟨t,ht⟩:∃ t:Nat,t=cv*4294967296+x:=⟨_,rfl⟩;have e1:bits BinOp.or IntKind.u64 ((cv:Int)*4294967296) (x:Int)=(t:Int):=by rw [or64_join cv x (by omega) hxl,ht]
    have ht2:(t:Int)<18446744073709551616:=by omega
    have hqlt:t/q<4294967296:=by
     rw [Nat.div_lt_iff_lt_mul hq0];have:cv*4294967296+4294967296≤q*4294967296:=by omega
     omega
    obtain ⟨s,hs⟩:∃ s:Nat,s=t/q:=⟨_,rfl⟩;obtain ⟨d,hd⟩:∃ d:Nat,d=t%q:=⟨_,rfl⟩;have e2:(t:Int)/(q:Int)=(s:Int):=by rw [hs];simp
    have e3:(t:Int)%(q:Int)=(d:Int):=by rw [hd];simp
    have hs2:s<4294967296:=by omega
    have hdq:d<q:=by rw [hd];exact Nat.mod_lt _ hq0
    have HX:Aside (M.getD (off+k) 0=x∧cv*4294967296+x=s*q+d):=⟨hx,by rw [hs,hd,←ht,Nat.mul_comm];exact (Nat.div_add_mod t q).symm⟩
    clear hx hs hd hL hoff hMw hMo hMs hbut ht hk0 hqlt;go_wp2
    go_region
    all_goals (
     go_wp2
     go_roundg k
     case measure=>omega
     case rel =>
      obtain ⟨hx,he⟩:=HX.out;obtain ⟨hL,hoff⟩:=HR.out;obtain ⟨hMw,hMo,hMs,hbut⟩:=HA.out;have hx2:L.getD (off+k) 0=x:=by rw [←hx];exact (hMo.2 _ (by omega)).symm
      refine ⟨d,M.set (off+k) s,by omega,by first | rfl | rw [e3],hdq,by first | go_num | (congr 1;omega),(HM.out.set (off+k) s).drew,hMw.set _ _ hs2,⟨by simp [hMo.1],fun j hj=>?_⟩,?_,(hbut.set (off+k) _).drew⟩
      · by_cases hj2:j=off+k
        · omega
        · rw [getD_set_ne _ _ _ _ (fun e=>hj2 e.symm)];exact hMo.2 j (by omega)
      · obtain ⟨r,hr⟩:∃ r,n-k=r+1:=⟨n-(k+1),by omega⟩
        have hr2:n-(k+1)=r:=by omega
        rw [hr2] at hMs;rw [hr,sg_front L _ _ (by omega),sg_front _ _ _ (by simp [hMo.1];omega),getD_set_same _ _ _ (by rw [hMo.1];omega),sg_set_below _ _ _ _ _ (by omega) (by rw [hMo.1];omega),hx2]
        exact cut_step _ _ _ _ _ _ _ hMs he)
end
end Go.Proofs.YtdimlelcgapobaaGreatDoor
