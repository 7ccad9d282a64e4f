import Derived.Deep.LoopGhost
import Derived.Test.YthejkolknalpaaaGreatDoorProg
import Derived.WalkKit
import Derived.OwnWalk
import Derived.Below
import Derived.Laws.OwnMore
import Derived.Laws.CopyOwn
import Derived.Laws.Bits64b
import Derived.Deep.RegionWith
import Derived.Lib.Strings
import Derived.Lib.Slices
import Derived.Lib.Small
import Derived.Lib.Walk
import Derived.Lib.BitFns
import Derived.Lib.Tables
import Derived.Lib.ItoaNum
import Derived.Lib.TrailingZeros
set_option linter.unusedVariables false
set_option linter.unusedSimpArgs false
set_option maxHeartbeats 16000000
set_option maxRecDepth 20000
namespace Go.Proofs.YthejkolknalpaaaGreatDoor
theorem ai {a b:Prop} (x:a) (y:b):a∧b:=⟨x,y⟩
theorem qsd {a:Prop} (x:a):Aside a:=x
section
def pw (k:Nat):Nat:=4294967296^k
theorem pw_zero:pw 0=1:=by simp [pw]
theorem pw_succ (k:Nat):pw (k+1)=4294967296*pw k:=by simp [pw,Nat.pow_succ,Nat.mul_comm]
theorem pw_add (i k:Nat):pw (i+k)=pw i*pw k:=by simp [pw,Nat.pow_add]
theorem pw_pos (k:Nat):0<pw k:=Nat.pow_pos (by decide)
theorem pw_mono {i k:Nat}(h:i≤k):pw i≤pw k:=Nat.pow_le_pow_right (by decide) h
def val:List Nat→Nat
 | []=>0
 | x::xs=>x+4294967296*val xs
def Wf (xs:List Nat):Prop:=∀ x ∈ xs,x<4294967296
theorem Wf.nil:Wf []:=by intro x hx;cases hx
theorem Wf.cons {x:Nat}{xs:List Nat}(hx:x<4294967296) (h:Wf xs):Wf (x::xs):=by
 intro y hy;cases hy with
 | head=>exact hx
 | tail _ hy=>exact h y hy
theorem Wf.head {x:Nat}{xs:List Nat}(h:Wf (x::xs)):x<4294967296:=h x (by simp)
theorem Wf.tail {x:Nat}{xs:List Nat}(h:Wf (x::xs)):Wf xs:=fun y hy=>h y (by simp [hy])
theorem Wf.get {xs:List Nat}(h:Wf xs) (k:Nat):xs.getD k 0<4294967296:=by
 by_cases hk:k<xs.length
 · rw [List.getD_eq_getElem?_getD,List.getElem?_eq_getElem hk];exact h _ (List.getElem_mem hk)
 · rw [List.getD_eq_getElem?_getD,List.getElem?_eq_none (by omega)];decide
theorem Wf.take {xs:List Nat}(h:Wf xs) (k:Nat):Wf (xs.take k):=fun y hy=>h y (List.mem_of_mem_take hy)
theorem Wf.drop {xs:List Nat}(h:Wf xs) (k:Nat):Wf (xs.drop k):=fun y hy=>h y (List.mem_of_mem_drop hy)
theorem Wf.append {xs ys:List Nat}(h:Wf xs) (k:Wf ys):Wf (xs++ys):=by
 intro y hy;rcases List.mem_append.1 hy with hy | hy
 · exact h y hy
 · exact k y hy
theorem Wf.set {xs:List Nat}(h:Wf xs) (k x:Nat) (hx:x<4294967296):Wf (xs.set k x):=by
 intro y hy;rcases List.mem_or_eq_of_mem_set hy with hy | hy
 · exact h y hy
 · omega
theorem Wf.zeros (n:Nat):Wf (List.replicate n 0):=by intro y hy;have:=List.eq_of_mem_replicate hy;omega
theorem val_append (xs ys:List Nat):val (xs++ys)=val xs+pw xs.length*val ys:=by
 induction xs with
 | nil=>simp [val,pw_zero]
 | cons x xs ih=>simp only [List.cons_append,val,ih,List.length_cons,pw_succ];grind
theorem val_zeros (n:Nat):val (List.replicate n 0)=0:=by
 induction n with
 | zero=>rfl
 | succ n ih=>simp [List.replicate_succ,val,ih]
theorem val_take_succ (xs:List Nat) (k:Nat) (hk:k<xs.length):val (xs.take (k+1))=val (xs.take k)+pw k*xs.getD k 0:=by
 rw [List.take_succ_eq_append_getElem hk,val_append,List.length_take,Nat.min_eq_left (by omega),List.getD_eq_getElem?_getD,List.getElem?_eq_getElem hk]
 simp [val]
theorem val_take_drop (xs:List Nat) (k:Nat) (hk:k≤xs.length):val xs=val (xs.take k)+pw k*val (xs.drop k):=by
 have h:=val_append (xs.take k) (xs.drop k);rw [List.take_append_drop,List.length_take,Nat.min_eq_left hk] at h;exact h
theorem val_drop_succ (xs:List Nat) (k:Nat) (hk:k<xs.length):val (xs.drop k)=xs.getD k 0+4294967296*val (xs.drop (k+1)):=by
 rw [List.drop_eq_getElem_cons hk,val,List.getD_eq_getElem?_getD,List.getElem?_eq_getElem hk]
 rfl
theorem val_lt (xs:List Nat) (h:Wf xs):val xs<pw xs.length:=by
 induction xs with
 | nil=>simp [val,pw_zero]
 | cons x xs ih =>
   have h1:=ih h.tail;have h2:=h.head;simp only [val,List.length_cons,pw_succ];omega
def ws (n:Nat):List Nat:=if h:n=0 then [] else n%4294967296::ws (n/4294967296)
termination_by n
decreasing_by omega
theorem ws_zero:ws 0=[]:=by rw [ws];simp
theorem ws_pos (n:Nat) (h:n≠0):ws n=n%4294967296::ws (n/4294967296):=by rw [ws];simp [h]
theorem val_ws (n:Nat):val (ws n)=n:=by
 induction n using Nat.strongRecOn with
 | _ n ih =>
   by_cases h:n=0
   · subst h;simp [ws_zero,val]
   · rw [ws_pos n h,val,ih (n/4294967296) (by omega)];omega
theorem wf_ws (n:Nat):Wf (ws n):=by
 induction n using Nat.strongRecOn with
 | _ n ih =>
   by_cases h:n=0
   · subst h;rw [ws_zero];exact Wf.nil
   · rw [ws_pos n h];exact Wf.cons (by omega) (ih _ (by omega))
def nl:List Nat→Nat
 | []=>0
 | x::xs=>if nl xs=0∧x=0 then 0 else nl xs+1
theorem nl_le (xs:List Nat):nl xs≤xs.length:=by
 induction xs with
 | nil=>simp [nl]
 | cons x xs ih=>simp only [nl,List.length_cons];split <;> omega
theorem nl_zero_iff (xs:List Nat):nl xs=0↔val xs=0:=by
 induction xs with
 | nil=>simp [nl,val]
 | cons x xs ih=>simp only [nl,val];split <;> omega
theorem form_eq (xs:List Nat) (h:Wf xs):xs.take (nl xs)=ws (val xs):=by
 induction xs with
 | nil=>simp [nl,val,ws_zero]
 | cons x xs ih =>
   have h1:=ih h.tail;have h2:=h.head
   by_cases h3:nl xs=0∧x=0
   · have h4:=(nl_zero_iff xs).1 h3.1
     simp [nl,h3,val,h4,ws_zero]
   · have h5:val (x::xs)≠0:=by
      intro h6;simp only [val] at h6;exact h3 ⟨(nl_zero_iff xs).2 (by omega),by omega⟩
     rw [ws_pos _ h5];simp only [nl,if_neg h3,val,List.take_succ_cons];rw [show (x+4294967296*val xs)%4294967296=x by omega,show (x+4294967296*val xs)/4294967296=val xs by omega,h1]
theorem nl_eq_length (xs:List Nat) (h:Wf xs):nl xs=(ws (val xs)).length:=by
 rw [←form_eq xs h,List.length_take,Nat.min_eq_left (nl_le xs)]
theorem val_form (xs:List Nat) (h:Wf xs):val (xs.take (nl xs))=val xs:=by rw [form_eq xs h,val_ws]
theorem nl_ws (n:Nat):nl (ws n)=(ws n).length:=by rw [nl_eq_length _ (wf_ws n),val_ws]
theorem ws_len_le (n k:Nat):(ws n).length≤k↔n<pw k:=by
 constructor
 · intro h
   have h1:=val_lt (ws n) (wf_ws n);rw [val_ws] at h1;exact Nat.lt_of_lt_of_le h1 (pw_mono h)
 · intro h
   induction k generalizing n with
   | zero=>rw [pw_zero] at h;obtain rfl:n=0:=by omega
           simp [ws_zero]
   | succ k ih =>
     by_cases h0:n=0
     · subst h0;simp [ws_zero]
     · rw [ws_pos n h0,List.length_cons]
       rw [pw_succ] at h;have:=ih (n/4294967296) (by omega)
       omega
theorem ws_len_eq (n k:Nat) (h1:pw k≤n) (h2:n<pw (k+1)):(ws n).length=k+1:=by
 have a:=(ws_len_le n (k+1)).2 h2;have b:¬ (ws n).length≤k:=fun h=>by have:=(ws_len_le n k).1 h;omega
 omega
theorem ws_len_ge (n:Nat) (h:n≠0):pw ((ws n).length-1)≤n:=by
 have h1:¬ (ws n).length≤(ws n).length-1:=by
  have:(ws n).length≠0:=by rw [ws_pos n h];simp
  omega
 rw [ws_len_le] at h1;omega
theorem ws_len_lt (n:Nat):n<pw (ws n).length:=(ws_len_le n _).1 (Nat.le_refl _)
theorem ws_len_zero (n:Nat):(ws n).length=0↔n=0:=by
 constructor
 · intro h;have:=ws_len_lt n;rw [h,pw_zero] at this;omega
 · intro h;subst h;simp [ws_zero]
theorem nl_stop (xs:List Nat) (k:Nat) (hk:k≤xs.length) (h0:∀ j,k≤j→j<xs.length→xs.getD j 0=0) (h1:k=0∨xs.getD (k-1) 0≠0):nl xs=k:=by
 induction xs generalizing k with
 | nil=>simp at hk;simp [nl,hk]
 | cons x xs ih =>
   cases k with
   | zero =>
     have hx:=h0 0 (by omega) (by simp)
     have:nl xs=0:=ih 0 (by omega) (fun j _ hj=>by have:=h0 (j+1) (by omega) (by simp;omega);simpa using this) (.inl rfl)
     simp at hx;simp [nl,this,hx]
   | succ k =>
     cases k with
     | zero =>
       have:nl xs=0:=ih 0 (by omega) (fun j _ hj=>by have:=h0 (j+1) (by omega) (by simp;omega);simpa using this) (.inl rfl)
       simp at h1;simp [nl,this,h1]
     | succ k =>
       have:nl xs=k+1:=ih (k+1) (by simpa using hk) (fun j hj hj2=>by have:=h0 (j+1) (by omega) (by simp;omega);simpa using this) (.inr (by simpa using h1))
       simp [nl,this]
theorem nl_last (xs:List Nat) (h:nl xs≠0):xs.getD (nl xs-1) 0≠0:=by
 induction xs with
 | nil=>simp [nl] at h
 | cons x xs ih =>
   by_cases h1:nl xs=0
   · have hx:x≠0:=by intro hx;simp [nl,h1,hx] at h
     simp [nl,h1,hx]
   · have h2:¬ (nl xs=0∧x=0):=by omega
     have:=ih h1;simp only [nl,if_neg h2];obtain ⟨m,hm⟩:∃ m,nl xs=m+1:=⟨nl xs-1,by omega⟩
     rw [hm] at this ⊢;simpa using this
end
section
open Go.RowKit
theorem hid {p:Prop}(h:p):Hid p:=h
def U (n:Nat):Value:=.int .u32 (n:Int)
def Own (w:World) (g:Nat) (L:List Nat):Prop:=w.heap[g]?=some (.cells (L.map U).toArray 89 (0,0))
theorem Own.lt {w:World}{g:Nat}{L:List Nat}(h:Own w g L):g<w.heap.size:=(Array.getElem?_eq_some_iff.1 h).1
theorem Own.cell {w:World}{g:Nat}{L:List Nat}(h:Own w g L) (i:Nat) (hi:i<L.length):w.cell? ⟨g,i,none⟩=some (.int .u32 ((L.getD i 0:Nat):Int)):=by
 unfold Own at h;simp [World.cell?,h,U,hi]
theorem Own.frozen {w:World}{g:Nat}{L:List Nat}(h:Own w g L) (i:Nat):w.frozen? ⟨g,i,none⟩=false:=by
 unfold Own at h;simp [World.frozen?,h]
theorem Own.set {w:World}{g:Nat}{L:List Nat}(h:Own w g L) (i x:Nat):Own (w.setCell ⟨g,i,none⟩ (.int .u32 (x:Int))) g (L.set i x):=by
 unfold Own at h ⊢;simp only [World.setCell,Array.getElem?_modify,h];simp [U,List.map_set]
theorem Own.setOther {w:World}{g:Nat}{L:List Nat}(h:Own w g L) {a:Addr}(ha:a.block≠g) (u:Value):Own (w.setCell a u) g L:=by
 unfold Own at h ⊢;rw [Below.heap_setCell _ _ _ _ (fun e=>ha e.symm)]
 exact h
theorem Own.alloc {w:World}{g:Nat}{L:List Nat}(h:Own w g L) (o:Obj):Own (w.alloc o) g L:=by
 have:=h.lt;unfold Own at h ⊢;rw [Below.heap_alloc _ _ _ this];exact h
theorem Own.drew {w:World}{g:Nat}{L:List Nat}(h:Own w g L):Own w.drew g L:=h
theorem Own.below {w w':World}{g B:Nat}{L:List Nat}(h:Own w g L) (hb:Below B w w') (hg:g<B):Own w' g L:=by
 unfold Own at h ⊢;rw [hb.block g hg];exact h
structure But (g:Nat) (w w':World):Prop where
 os:w'.os=w.os
 tape:w'.tape=w.tape
 output:w'.output=w.output
 size:w.heap.size≤w'.heap.size
 block:∀ k,k<w.heap.size→k≠g→w'.heap[k]?=w.heap[k]?
theorem But.refl (g:Nat) (w:World):But g w w:=⟨rfl,rfl,rfl,Nat.le_refl _,fun _ _ _=>rfl⟩
theorem But.trans {g:Nat}{a b c:World}(h:But g a b) (k:But g b c):But g a c :=
 ⟨k.os.trans h.os,k.tape.trans h.tape,k.output.trans h.output,Nat.le_trans h.size k.size,fun i hi hg=>(k.block i (Nat.lt_of_lt_of_le hi h.size) hg).trans (h.block i hi hg)⟩
theorem But.drew {g:Nat}{a w:World}(h:But g a w):But g a w.drew:=⟨h.os,h.tape,h.output,h.size,h.block⟩
theorem But.set {g:Nat}{a w:World}(h:But g a w) (i:Nat) (u:Value):But g a (w.setCell ⟨g,i,none⟩ u) :=
 h.trans ⟨rfl,rfl,rfl,by simp [World.setCell],fun k _ hk=>Below.heap_setCell _ _ _ _ hk⟩
theorem But.of_below {g:Nat}{a w w':World}(h:But g a w) (hb:Below w.heap.size w w'):But g a w' :=
 h.trans ⟨hb.os,hb.tape,hb.output,hb.size,fun k hk _=>hb.block k hk⟩
theorem But.below {g B:Nat}{a w w':World}(h:Below B a w) (hb:But g w w') (hB:B≤w.heap.size) (hg:B≤g):Below B a w' :=
 h.trans ⟨hb.os,hb.tape,hb.output,hb.size,fun k hk=>hb.block k (by omega) (by omega)⟩
def Rd (B:Nat) (w:World) (ao:Option Addr) (xs:List Nat):Prop :=
 xs≠[]→∃ b off,b<B∧ao=some ⟨b,off,none⟩∧∀ i,i<xs.length→w.cell? ⟨b,off+i,none⟩=some (.int .u32 ((xs.getD i 0:Nat):Int))
theorem Rd.nil (B:Nat) (w:World) (ao:Option Addr):Rd B w ao []:=fun h=>absurd rfl h
theorem Rd.below {B:Nat}{w w':World}{ao:Option Addr}{xs:List Nat}(h:Rd B w ao xs) (hb:Below B w w'):Rd B w' ao xs:=by
 intro hx;obtain ⟨b,off,hlt,rfl,hc⟩:=h hx;exact ⟨b,off,hlt,rfl,fun i hi=>(hb.cell (p:=⟨b,off+i,none⟩) hlt).trans (hc i hi)⟩
theorem Rd.but {B g:Nat}{w w':World}{ao:Option Addr}{xs:List Nat}(h:Rd B w ao xs) (hb:But g w w') (hB:B≤w.heap.size) (hg:B≤g):Rd B w' ao xs :=
 h.below (But.below (Below.refl _ _) hb hB hg)
theorem Rd.mono {B B':Nat}{w:World}{ao:Option Addr}{xs:List Nat}(h:Rd B w ao xs) (hB:B≤B'):Rd B' w ao xs:=by
 intro hx;obtain ⟨b,off,hlt,rfl,hc⟩:=h hx;exact ⟨b,off,by omega,rfl,hc⟩
theorem Rd.take {B:Nat}{w:World}{ao:Option Addr}{xs:List Nat}(h:Rd B w ao xs) (k:Nat):Rd B w ao (xs.take k):=by
 intro hx;have hx':xs≠[]:=by intro e;subst e;simp at hx
 obtain ⟨b,off,hlt,rfl,hc⟩:=h hx';refine ⟨b,off,hlt,rfl,fun i hi=>?_⟩
 simp only [List.length_take] at hi;rw [hc i (by omega)]
 simp [List.getD_eq_getElem?_getD,show i<k by omega]
theorem Rd.ofOwn {w:World}{g:Nat}{L:List Nat}(h:Own w g L) (off n:Nat):Rd (g+1) w (some ⟨g,off,none⟩) ((L.drop off).take n):=by
 intro _;refine ⟨g,off,by omega,rfl,fun i hi=>?_⟩
 simp only [List.length_take,List.length_drop] at hi;rw [h.cell _ (by omega)]
 simp [List.getD_eq_getElem?_getD,show i<n by omega]
def Nt (lo:Nat) (w:World) (v:Value) (X:Nat):Prop:=w.ownsRow lo 89 1 v (ws X).length ((ws X).map U)
theorem Nt.nil (lo:Nat) (w:World):Nt lo w (.slice none 0 0) 0:=by
 unfold Nt;rw [ws_zero];exact World.ownsRow_nil _ _ _ _
theorem Nt.ofOwn {lo:Nat}{w:World}{g:Nat}{L:List Nat}(h:Own w g L) (hlo:lo≤g) (hL:Wf L) (hm:L.length≤maxLen) :
 Nt lo w (.slice (some ⟨g,0,none⟩) (nl L) L.length) (val L):=by
 unfold Nt;have e:=form_eq L hL;have hn:=nl_le L;rw [←e];refine ⟨by simp,.inr ⟨g,L.length,(L.map U).toArray,?_,hlo,h,?_,hm,by simp,by simp⟩⟩
 · simp [Nat.min_eq_left hn]
 · simp;omega
theorem Nt.shape {lo:Nat}{w:World}{v:Value}{X:Nat}(h:Nt lo w v X):∃ ao cap,v=.slice ao (ws X).length cap∧(ws X).length≤cap∧cap≤maxLen∧Rd w.heap.size w ao (ws X):=by
 rcases h.2 with ⟨rfl,h0⟩|⟨g,cap,cur,rfl,hlo,hg,hn,hm,hs,ht⟩
 · refine ⟨none,0,by rw [h0],by omega,by unfold maxLen;omega,?_⟩
   have:ws X=[]:=List.length_eq_zero_iff.1 h0;rw [this];exact Rd.nil _ _ _
 · refine ⟨_,cap,rfl,hn,hm,fun _=>⟨g,0,(Array.getElem?_eq_some_iff.1 hg).1,rfl,fun i hi=>?_⟩⟩
   have:=h.cells (g:=g) (by simp [Value.ownBlock]) i (U ((ws X).getD i 0)) (by simp [hi])
   have e:(⟨g,0,none⟩:Addr).add i=⟨g,0+i,none⟩:=by unfold Addr.add;split <;> simp_all
   rw [e] at this;simpa [U] using this
theorem Nt.below {lo:Nat}{w w':World}{v:Value}{X:Nat}(h:Nt lo w v X) (hb:Below w.heap.size w w'):Nt lo w' v X:=by
 refine ⟨h.1,?_⟩
 rcases h.2 with hn|⟨g,cap,cur,rfl,hlo,hg,rest⟩
 · exact .inl hn
 · refine .inr ⟨g,cap,cur,rfl,hlo,?_,rest⟩
   rw [hb.block g (Array.getElem?_eq_some_iff.1 hg).1];exact hg
theorem Nt.mono {lo lo':Nat}{w:World}{v:Value}{X:Nat}(h:Nt lo w v X) (hl:lo'≤lo):Nt lo' w v X:=by
 refine ⟨h.1,?_⟩
 rcases h.2 with hn|⟨g,cap,cur,rfl,hlo,rest⟩
 · exact .inl hn
 · exact .inr ⟨g,cap,cur,rfl,by omega,rest⟩
theorem Tryz.info89:(Tryz.prog.info? 89).map (fun i=>(i.zero,i.size,i.bytes))=some (some (.int .u32 0),1,4):=by kernel_rfl
def Fs (B:Nat) (w:World) (ao:Option Addr) (xs:List Nat):Prop :=
 xs≠[]→∃ b off,b<B∧ao=some ⟨b,off,none⟩∧∀ i,i<xs.length→w.cell? ⟨b,off+i,none⟩=some (.float .f64 (xs.getD i 0))
theorem Fs.at {B:Nat}{w w':World}{ao:Option Addr}{xs:List Nat}(h:Fs B w ao xs) (hb:Below B w w') (i:Nat) (hi:i<xs.length):∃ b off,ao=some ⟨b,off,none⟩∧w'.cell? ⟨b,off+i,none⟩=some (.float .f64 (xs.getD i 0)):=by
 obtain ⟨b,off,h1,h2,h3⟩:=h (by intro e;subst e;simp at hi)
 exact ⟨b,off,h2,(hb.cell (p:=⟨b,off+i,none⟩) h1).trans (h3 i hi)⟩
theorem Fs.below {B:Nat}{w w':World}{ao:Option Addr}{xs:List Nat}(h:Fs B w ao xs) (hb:Below B w w'):Fs B w' ao xs:=by
 intro hne;obtain ⟨b,off,h1,h2,h3⟩:=h hne;exact ⟨b,off,h1,h2,fun i hi=>(hb.cell (p:=⟨b,off+i,none⟩) h1).trans (h3 i hi)⟩
theorem Fs.mono {B B':Nat}{w:World}{ao:Option Addr}{xs:List Nat}(h:Fs B w ao xs) (hb:B≤B'):Fs B' w ao xs:=by
 intro hne;obtain ⟨b,off,h1,h2,h3⟩:=h hne;exact ⟨b,off,Nat.lt_of_lt_of_le h1 hb,h2,h3⟩
theorem Fs.piece {B:Nat}{w:World}{b off:Nat}{xs:List Nat}(h:Fs B w (some ⟨b,off,none⟩) xs) (i n:Nat) (hn:i+n≤xs.length):Fs B w (some ⟨b,off+i,none⟩) ((xs.drop i).take n):=by
 intro hne;have hx:xs≠[]:=by intro e;subst e;simp at hne
 obtain ⟨b',off',h1,e,h3⟩:=h hx
 cases e
 refine ⟨b,off+i,h1,rfl,fun j hj=>?_⟩
 have hl:j<n:=by rw [List.length_take] at hj;omega
 rw [Nat.add_assoc,h3 (i+j) (by omega)]
 congr 2
 rw [List.getD_eq_getElem?_getD,List.getD_eq_getElem?_getD,List.getElem?_take,if_pos hl,List.getElem?_drop]
def W64 (xs:List Nat):Prop:=∀ x ∈ xs,x<18446744073709551616
theorem W64.get {xs:List Nat}(h:W64 xs) (i:Nat):xs.getD i 0<18446744073709551616:=by
 by_cases hi:i<xs.length
 · rw [List.getD_eq_getElem?_getD,List.getElem?_eq_getElem hi];exact h _ (List.getElem_mem hi)
 · rw [List.getD_eq_getElem?_getD,List.getElem?_eq_none (by omega)];simp
theorem trim_any (xs:List Nat) (ao:Option Addr) (n cap B:Nat) (w:World) (hn:n=xs.length) (hc:n≤cap) (hm:n≤9223372036854775807) (hR:Rd B w ao xs) :
 Calls Tryz.prog 101 #[.slice ao n cap] w fun r w'=>r=.returned (.slice ao (nl xs) cap)∧w'=w:=by
 by_cases hx:xs=[]
 · subst hx
   simp at hn;subst hn;go_enter Tryz.func101,Tryz.ntmps101;go_wp2
   go_loopg [0] 0 (fun g s wr=>s=.slice ao 0 cap∧wr=w)
   case atStart=>exact ⟨rfl,rfl⟩
   case round =>
    obtain ⟨rfl,rfl⟩:=hrel;go_wp2;go_ret;exact ⟨rfl,rfl⟩
 · obtain ⟨b,off,hB,rfl,hcell⟩:=hR hx
   have HN:Aside (n=xs.length):=hn;clear hn hR hx;go_enter Tryz.func101,Tryz.ntmps101;go_wp2
   go_loopg [0] n (fun g s wr=>g≤n∧s=.slice (some ⟨b,off,none⟩) g cap∧wr=w∧Aside (∀ j,g≤j→j<n→xs.getD j 0=0))
   case atStart=>exact ⟨Nat.le_refl _,rfl,rfl,fun j h1 h2=>by omega⟩
   case round =>
    obtain ⟨hk,rfl,rfl,hz⟩:=hrel
    by_cases hk0:gk=0
    · subst hk0
      go_wp2;go_ret;rw [nl_stop xs 0 (by omega) (fun j h1 h2=>hz.out j h1 (by have:=HN.out;omega)) (.inl rfl)]
      exact ⟨rfl,rfl⟩
    · obtain ⟨k,rfl⟩:∃ k,gk=k+1:=⟨gk-1,by omega⟩
      have hcx:=hcell k (by have:=HN.out;omega)
      obtain ⟨x,hxx⟩:∃ x:Nat,xs.getD k 0=x:=⟨_,rfl⟩;rw [hxx] at hcx;have HX:Aside (xs.getD k 0=x):=hxx;clear hxx hcell hk0
      by_cases h0:x=0
      · subst h0
        go_wp2
        go_roundg k
        case measure=>omega
        case rel =>
         refine ⟨by omega,rfl,rfl,fun j h1 h2=>?_⟩
         by_cases hj:j=k
         · subst hj;exact HX.out
         · exact hz.out j (by omega) h2
      · go_wp2
        go_ret;rw [nl_stop xs (k+1) (by have:=HN.out;omega) (fun j h1 h2=>hz.out j h1 (by have:=HN.out;omega)) (.inr (by have:=HX.out;rw [Nat.add_sub_cancel,this];exact h0))]
        exact ⟨rfl,rfl⟩
theorem wrap_u32n (n:Int):IntKind.u32.wrap n=n%4294967296:=by simp [IntKind.wrap,IntKind.signed,IntKind.bits]
theorem ofInt32 (a:Nat) (ha:a<4294967296):(BitVec.ofInt 32 (a:Int)).toNat=a:=by
 rw [BitVec.ofInt_natCast,BitVec.toNat_ofNat];exact Nat.mod_eq_of_lt (by omega)
theorem and32 (a b:Nat) (ha:a<4294967296) (hb:b<4294967296):bits .and .u32 (a:Int) (b:Int)=((a &&& b:Nat):Int):=by
 have hx:a &&& b<2^32:=Nat.and_lt_two_pow _ (by omega)
 show IntKind.u32.wrap ((BitVec.ofInt 32 (a:Int) &&& BitVec.ofInt 32 (b:Int)).toNat:Int)=_
 rw [BitVec.toNat_and,ofInt32 a ha,ofInt32 b hb,wrap_u32n];omega
theorem or32 (a b:Nat) (ha:a<4294967296) (hb:b<4294967296):bits .or .u32 (a:Int) (b:Int)=((a ||| b:Nat):Int):=by
 have hx:a ||| b<2^32:=Nat.or_lt_two_pow (by omega) (by omega)
 show IntKind.u32.wrap ((BitVec.ofInt 32 (a:Int) ||| BitVec.ofInt 32 (b:Int)).toNat:Int)=_
 rw [BitVec.toNat_or,ofInt32 a ha,ofInt32 b hb,wrap_u32n];omega
theorem xor32 (a b:Nat) (ha:a<4294967296) (hb:b<4294967296):bits .xor .u32 (a:Int) (b:Int)=((a ^^^ b:Nat):Int):=by
 have hx:a ^^^ b<2^32:=Nat.xor_lt_two_pow (by omega) (by omega)
 show IntKind.u32.wrap ((BitVec.ofInt 32 (a:Int) ^^^ BitVec.ofInt 32 (b:Int)).toNat:Int)=_
 rw [BitVec.toNat_xor,ofInt32 a ha,ofInt32 b hb,wrap_u32n];omega
theorem borrow_nat (x y c d:Nat) (hx:x<4294967296) (hy:y<4294967296) (hc:c≤1) (hd:(d:Int)=((x:Int)-y-c)%4294967296) :
 (((4294967295 ^^^ x) &&& y) ||| ((4294967295 ^^^ (x ^^^ y)) &&& d))/2147483648=if x<y+c then 1 else 0:=by
 have e:∀ n:Nat,n/2147483648=n >>> 31:=fun n=>by rw [Nat.shiftRight_eq_div_pow]
 rw [e,Nat.shiftRight_or_distrib,Nat.shiftRight_and_distrib,Nat.shiftRight_and_distrib,Nat.shiftRight_xor_distrib,Nat.shiftRight_xor_distrib,Nat.shiftRight_xor_distrib,←e,←e,←e,←e];have hd2:d<4294967296:=by omega
 have h1:x/2147483648=0∨x/2147483648=1:=by omega
 have h2:y/2147483648=0∨y/2147483648=1:=by omega
 have h3:d/2147483648=0∨d/2147483648=1:=by omega
 rw [show 4294967295/2147483648=1 from rfl]
 rcases h1 with h1|h1 <;> rcases h2 with h2|h2 <;> rcases h3 with h3|h3 <;> rw [h1,h2,h3] <;> split <;> first|rfl|(exfalso;omega)
theorem borrow_int (x y c:Nat) (hx:x<4294967296) (hy:y<4294967296) (hc:c≤1) :
 bits BinOp.or IntKind.u32 (bits BinOp.and IntKind.u32 (bits BinOp.xor IntKind.u32 IntKind.u32.max x) y)
  (bits BinOp.and IntKind.u32
   (bits BinOp.xor IntKind.u32 IntKind.u32.max (bits BinOp.xor IntKind.u32 x y))
   (((x:Int)-y-c)%4294967296)) /
  2147483648=((if x<y+c then 1 else 0:Nat):Int):=by
 obtain ⟨d,hd⟩:∃ d:Nat,(d:Int)=((x:Int)-y-c)%4294967296:=⟨(((x:Int)-y-c)%4294967296).toNat,by omega⟩
 have hd2:d<4294967296:=by omega
 have hm:IntKind.u32.max=((4294967295:Nat):Int):=by decide
 have hn:∀ a b:Nat,a<4294967296→b<4294967296→a ^^^ b<4294967296:=fun a b ha hb=>Nat.xor_lt_two_pow (n:=32) ha hb
 have ha:∀ a b:Nat,b<4294967296→a &&& b<4294967296:=fun a b hb=>Nat.and_lt_two_pow (n:=32) a hb
 rw [hm,xor32 x y hx hy,xor32 _ _ (by decide) hx,xor32 _ _ (by decide) (hn _ _ hx hy),and32 _ _ (hn _ _ (by decide) hx) hy,←hd,and32 _ _ (hn _ _ (by decide) (hn _ _ hx hy)) hd2,
  or32 _ _ (ha _ _ hy) (ha _ _ hd2),←borrow_nat x y c d hx hy hc hd]
 omega
theorem add32_int (x y c:Int) (w:World) (hx:0≤x) (hx2:x<4294967296) (hy:0≤y) (hy2:y<4294967296) (hc:0≤c) (hc2:c≤1) :
 Calls Tryz.prog 172 #[.int .u32 x,.int .u32 y,.int .u32 c] w fun r w'=>r=.returned (.tuple #[.int .u32 ((x+y+c)%4294967296),.int .u32 ((x+y+c)/4294967296)])∧w'=w:=by
 go_enter Tryz.func172,Tryz.ntmps172;go_wp2
 go_ret2
 exact ⟨rfl,rfl⟩
theorem add32_nat (x y c s d:Nat) (w:World) (hx:x<4294967296) (hy:y<4294967296) (hc:c≤1) (hs:s=(x+y+c)%4294967296) (hd:d=(x+y+c)/4294967296) :
 Calls Tryz.prog 172 #[.int .u32 (x:Int),.int .u32 (y:Int),.int .u32 (c:Int)] w fun r w'=>r=.returned (.tuple #[.int .u32 (s:Int),.int .u32 (d:Int)])∧w'=w:=by
 have h:=add32_int x y c w (by omega) (by omega) (by omega) (by omega) (by omega) (by omega)
 rw [show ((x:Int)+y+c)%4294967296=(s:Int) by omega,show ((x:Int)+y+c)/4294967296=(d:Int) by omega] at h
 exact h
theorem sub32_int (x y c bo:Int) (w:World) (hx:0≤x) (hx2:x<4294967296) (hy:0≤y) (hy2:y<4294967296) (hc:0≤c) (hc2:c≤1)
 (hb:bits BinOp.or IntKind.u32 (bits BinOp.and IntKind.u32 (bits BinOp.xor IntKind.u32 IntKind.u32.max x) y)
  (bits BinOp.and IntKind.u32
   (bits BinOp.xor IntKind.u32 IntKind.u32.max (bits BinOp.xor IntKind.u32 x y))
   ((x-y-c)%4294967296)) /
  2147483648=bo) :
 Calls Tryz.prog 171 #[.int .u32 x,.int .u32 y,.int .u32 c] w fun r w'=>r=.returned (.tuple #[.int .u32 ((x-y-c)%4294967296),.int .u32 bo])∧w'=w:=by
 go_enter Tryz.func171,Tryz.ntmps171;go_wp2
 all_goals first | (go_ret2;exact ⟨rfl,rfl⟩) | skip
theorem sub32_nat (x y c s d:Nat) (w:World) (hx:x<4294967296) (hy:y<4294967296) (hc:c≤1) (hs:(s:Int)=((x:Int)-y-c)%4294967296) (hd:d=if x<y+c then 1 else 0) :
 Calls Tryz.prog 171 #[.int .u32 (x:Int),.int .u32 (y:Int),.int .u32 (c:Int)] w fun r w'=>r=.returned (.tuple #[.int .u32 (s:Int),.int .u32 (d:Int)])∧w'=w:=by
 have h:=sub32_int x y c d w (by omega) (by omega) (by omega) (by omega) (by omega) (by omega) (by rw [borrow_int x y c hx hy hc,←hd])
 rw [←hs] at h;exact h
theorem long_any (n:Nat) (ao:Option Addr) (cap:Nat) (w:World) :
 Calls Tryz.prog 144 #[.slice ao n cap] w fun r w'=>r=.returned (.bool (decide ((8192:Int)<(n:Int))))∧w'=w:=by
 go_enter Tryz.func144,Tryz.ntmps144;go_wp2;go_ret;exact ⟨rfl,rfl⟩
theorem unlessLong_any (n:Nat) (ao:Option Addr) (cap:Nat) (w:World) :
 Calls Tryz.prog 145 #[.slice ao n cap] w fun r w'=>r=.returned (if 8192<n then .tuple #[.slice none 0 0,.int .i64 2] else .tuple #[.slice ao n cap,.int .i64 0])∧w'=w:=by
 by_cases h:8192<n
 · rw [if_pos h]
   have hl:=long_any n ao cap;have h':(8192:Int)<(n:Int):=by omega
   simp only [h',decide_true] at hl;have H:Hid (∀ w,_):=hl;clear hl;go_enter Tryz.func145,Tryz.ntmps145
   go_wp2_with fail
   refine (H.out _).mono ?_;rintro r w1 ⟨rfl,rfl⟩;go_wp2
   go_ret2
   exact ⟨rfl,rfl⟩
 · rw [if_neg h]
   have hl:=long_any n ao cap;have h':¬ (8192:Int)<(n:Int):=by omega
   simp only [h',decide_false] at hl;have H:Hid (∀ w,_):=hl;clear hl;go_enter Tryz.func145,Tryz.ntmps145
   go_wp2_with fail
   refine (H.out _).mono ?_;rintro r w1 ⟨rfl,rfl⟩;go_wp2
   go_ret2
   exact ⟨rfl,rfl⟩
theorem isNaN_i (x:Int) (w:World):Calls Tryz.prog 175 #[.int .i64 x] w fun r w'=>r=.returned (.bool false)∧w'=w:=by
 go_enter Tryz.func175,Tryz.ntmps175;go_wp2;go_ret;exact ⟨rfl,rfl⟩
theorem isNaN_u (x:Int) (w:World):Calls Tryz.prog 176 #[.int .u32 x] w fun r w'=>r=.returned (.bool false)∧w'=w:=by
 go_enter Tryz.func176,Tryz.ntmps176;go_wp2;go_ret;exact ⟨rfl,rfl⟩
def cmpI (x y:Nat):Int:=if x<y then -1 else if y<x then 1 else 0
theorem compare_i (x y:Nat) (w:World):Calls Tryz.prog 169 #[.int .i64 (x:Int),.int .i64 (y:Int)] w fun r w'=>r=.returned (.int .i64 (cmpI x y))∧w'=w:=by
 have H:Hid (∀ x w,_):=isNaN_i
 by_cases h:x<y
 · have e:cmpI x y=-1:=by simp [cmpI,h]
   rw [e];clear e;go_enter Tryz.func169,Tryz.ntmps169
   go_wp2_with fail
   refine (H.out _ _).mono ?_;rintro r w1 ⟨rfl,rfl⟩
   go_wp2_with fail
   refine (H.out _ _).mono ?_;rintro r w1 ⟨rfl,rfl⟩;go_wp2;go_ret;exact ⟨rfl,rfl⟩
 · by_cases h2:y<x
   · have e:cmpI x y=1:=by simp [cmpI,h,h2]
     rw [e];clear e;go_enter Tryz.func169,Tryz.ntmps169
     go_wp2_with fail
     refine (H.out _ _).mono ?_;rintro r w1 ⟨rfl,rfl⟩
     go_wp2_with fail
     refine (H.out _ _).mono ?_;rintro r w1 ⟨rfl,rfl⟩;go_wp2;go_ret;exact ⟨rfl,rfl⟩
   · have e:cmpI x y=0:=by simp [cmpI,h,h2]
     rw [e];clear e;go_enter Tryz.func169,Tryz.ntmps169
     go_wp2_with fail
     refine (H.out _ _).mono ?_;rintro r w1 ⟨rfl,rfl⟩
     go_wp2_with fail
     refine (H.out _ _).mono ?_;rintro r w1 ⟨rfl,rfl⟩;go_wp2;go_ret;exact ⟨rfl,rfl⟩
theorem compare_u (x y:Nat) (w:World):Calls Tryz.prog 170 #[.int .u32 (x:Int),.int .u32 (y:Int)] w fun r w'=>r=.returned (.int .i64 (cmpI x y))∧w'=w:=by
 have H:Hid (∀ x w,_):=isNaN_u
 by_cases h:x<y
 · have e:cmpI x y=-1:=by simp [cmpI,h]
   rw [e];clear e;go_enter Tryz.func170,Tryz.ntmps170
   go_wp2_with fail
   refine (H.out _ _).mono ?_;rintro r w1 ⟨rfl,rfl⟩
   go_wp2_with fail
   refine (H.out _ _).mono ?_;rintro r w1 ⟨rfl,rfl⟩;go_wp2;go_ret;exact ⟨rfl,rfl⟩
 · by_cases h2:y<x
   · have e:cmpI x y=1:=by simp [cmpI,h,h2]
     rw [e];clear e;go_enter Tryz.func170,Tryz.ntmps170
     go_wp2_with fail
     refine (H.out _ _).mono ?_;rintro r w1 ⟨rfl,rfl⟩
     go_wp2_with fail
     refine (H.out _ _).mono ?_;rintro r w1 ⟨rfl,rfl⟩;go_wp2;go_ret;exact ⟨rfl,rfl⟩
   · have e:cmpI x y=0:=by simp [cmpI,h,h2]
     rw [e];clear e;go_enter Tryz.func170,Tryz.ntmps170
     go_wp2_with fail
     refine (H.out _ _).mono ?_;rintro r w1 ⟨rfl,rfl⟩
     go_wp2_with fail
     refine (H.out _ _).mono ?_;rintro r w1 ⟨rfl,rfl⟩;go_wp2;go_ret;exact ⟨rfl,rfl⟩
end
section
def sg (L:List Nat) (off k:Nat):Nat:=val ((L.drop off).take k)
theorem sg_zero (L:List Nat) (off:Nat):sg L off 0=0:=by simp [sg,val]
theorem sg_succ (L:List Nat) (off k:Nat) (h:off+k<L.length):sg L off (k+1)=sg L off k+pw k*L.getD (off+k) 0:=by
 unfold sg;rw [val_take_succ _ _ (by simp;omega)]
 simp [List.getD_eq_getElem?_getD]
theorem sg_front (L:List Nat) (off k:Nat) (h:off<L.length):sg L off (k+1)=L.getD off 0+4294967296*sg L (off+1) k:=by
 unfold sg;rw [List.drop_eq_getElem_cons h,List.take_succ_cons,val,List.getD_eq_getElem?_getD,List.getElem?_eq_getElem h]
 rfl
theorem sg_all (L:List Nat):sg L 0 L.length=val L:=by simp [sg]
theorem sg_add (L:List Nat) (off k m:Nat) (h:off+k+m≤L.length):sg L off (k+m)=sg L off k+pw k*sg L (off+k) m:=by
 induction m with
 | zero=>simp [sg_zero]
 | succ m ih =>
   rw [←Nat.add_assoc,sg_succ L off (k+m) (by omega),sg_succ L (off+k) m (by omega),ih (by omega),pw_add,Nat.mul_add,←Nat.add_assoc off k m]
   simp only [Nat.mul_assoc,Nat.add_assoc]
theorem sg_congr (L M:List Nat) (off k:Nat) (hl:M.length=L.length) (h:off+k≤L.length) (he:∀ j,off≤j→j<off+k→M.getD j 0=L.getD j 0):sg M off k=sg L off k:=by
 induction k with
 | zero=>simp [sg_zero]
 | succ k ih=>rw [sg_succ M off k (by omega),sg_succ L off k (by omega),ih (by omega) (fun j h1 h2=>he j h1 (by omega)),he (off+k) (by omega) (by omega)]
theorem getD_set (L:List Nat) (i j x:Nat):(L.set i x).getD j 0=if i=j∧j<L.length then x else L.getD j 0:=by
 simp only [List.getD_eq_getElem?_getD,List.getElem?_set]
 by_cases h:i=j
 · subst h
   by_cases h2:i<L.length
   · simp [h2]
   · simp [h2]
 · simp [h]
theorem getD_set_same (L:List Nat) (i x:Nat) (h:i<L.length):(L.set i x).getD i 0=x:=by rw [getD_set,if_pos ⟨rfl,h⟩]
theorem getD_set_ne (L:List Nat) (i j x:Nat) (h:i≠j):(L.set i x).getD j 0=L.getD j 0:=by rw [getD_set,if_neg (fun e=>h e.1)]
theorem sg_set_above (L:List Nat) (off k i x:Nat) (h:off+k≤i) (hl:off+k≤L.length):sg (L.set i x) off k=sg L off k :=
 sg_congr L _ off k (by simp) hl (fun j _ h2=>getD_set_ne _ _ _ _ (by omega))
theorem sg_set_below (L:List Nat) (off k i x:Nat) (h:i<off) (hl:off+k≤L.length):sg (L.set i x) off k=sg L off k :=
 sg_congr L _ off k (by simp) hl (fun j h1 _=>getD_set_ne _ _ _ _ (by omega))
theorem sg_set_last (L:List Nat) (off k x:Nat) (h:off+k<L.length):sg (L.set (off+k) x) off (k+1)=sg L off k+pw k*x:=by
 rw [sg_succ _ _ _ (by simp;omega),getD_set_same _ _ _ h,sg_set_above _ _ _ _ _ (by omega) (by omega)]
theorem sg_lt (L:List Nat) (off k:Nat) (hw:Wf L) (h:off+k≤L.length):sg L off k<pw k:=by
 have:=val_lt _ ((hw.drop off).take k);simp only [List.length_take,List.length_drop] at this;rw [Nat.min_eq_left (by omega)] at this
 exact this
theorem sg_val_take (L:List Nat) (k:Nat):sg L 0 k=val (L.take k):=by simp [sg]
theorem getD_zeros (n i:Nat):(List.replicate n 0).getD i 0=0:=by
 simp only [List.getD_eq_getElem?_getD,List.getElem?_replicate];split <;> rfl
theorem sg_zeros (n off k:Nat):sg (List.replicate n 0) off k=0:=by
 unfold sg;rw [List.drop_replicate,List.take_replicate,val_zeros]
def Out (L M:List Nat) (off n:Nat):Prop:=M.length=L.length∧∀ j,(j<off∨off+n≤j)→M.getD j 0=L.getD j 0
theorem Out.refl (L:List Nat) (off n:Nat):Out L L off n:=⟨rfl,fun _ _=>rfl⟩
theorem Out.set {L M:List Nat}{off n:Nat}(h:Out L M off n) (i x:Nat) (h1:off≤i) (h2:i<off+n):Out L (M.set i x) off n :=
 ⟨by simp [h.1],fun j hj=>by rw [getD_set_ne _ _ _ _ (by omega)];exact h.2 j hj⟩
theorem Out.mono {L M:List Nat}{off n k:Nat}(h:Out L M off n) (hk:n≤k):Out L M off k:=⟨h.1,fun j hj=>h.2 j (by omega)⟩
theorem Out.trans {L M K:List Nat}{off n:Nat}(h:Out L M off n) (k:Out M K off n):Out L K off n:=⟨k.1.trans h.1,fun j hj=>(k.2 j hj).trans (h.2 j hj)⟩
theorem Out.below {L M:List Nat}{off n:Nat}(h:Out L M off n) (a k:Nat) (h1:a+k≤off) (h2:a+k≤L.length):sg M a k=sg L a k:=sg_congr L M a k h.1 h2 (fun j _ hj=>h.2 j (by omega))
theorem Out.above {L M:List Nat}{off n:Nat}(h:Out L M off n) (a k:Nat) (h1:off+n≤a) (h2:a+k≤L.length):sg M a k=sg L a k:=sg_congr L M a k h.1 h2 (fun j hj _=>h.2 j (by omega))
theorem carry_step (p a b V c x y s d:Nat) (h:V+c*p=a+b) (e:s+d*4294967296=x+y+c):V+p*s+d*(4294967296*p)=(a+p*x)+(b+p*y):=by
 have:p*(s+d*4294967296)=p*(x+y+c):=by rw [e]
 grind
theorem seg_rest {L M:List Nat}{off k n V:Nat}(hk:k≤n) (hn:off+n≤L.length) (ho:Out L M off k) (h:sg M off k=sg L off k+V):sg M off n=sg L off n+V:=by
 obtain ⟨d,rfl⟩:∃ d,n=k+d:=⟨n-k,by omega⟩
 have h1:=sg_add M off k d (by rw [ho.1];omega)
 have h2:=sg_add L off k d (by omega)
 have h3:=ho.above (off+k) d (by omega) (by omega)
 rw [h1,h2,h3];omega
theorem times_step (p a b V c x y q s d:Nat) (h:V+c*p=a+b*q) (e:s+d*4294967296=y*q+x+c):V+p*s+d*(4294967296*p)=(a+p*x)+(b+p*y)*q:=by
 have:p*(s+d*4294967296)=p*(y*q+x+c):=by rw [e]
 grind
theorem mul_bound (x y:Nat) (hx:x<4294967296) (hy:y<4294967296):x*y≤18446744065119617025:=by
 have:x*y≤4294967295*4294967295:=Nat.mul_le_mul (by omega) (by omega)
 omega
theorem takes_step (p a b V c x y q s d:Nat) (h:V+b*q=a+c*p) (e:s+y*q+c=x+d*4294967296):V+p*s+(b+p*y)*q=(a+p*x)+d*(4294967296*p):=by
 have:p*(s+y*q+c)=p*(x+d*4294967296):=by rw [e]
 grind
theorem cut_step (X Q q x d l l2:Nat) (h:X=Q*d+l) (e:l*4294967296+x=q*d+l2):x+4294967296*X=(q+4294967296*Q)*d+l2:=by
 subst h
 grind
theorem borrow_step (p a b V c x y s d:Nat) (h:V+b=a+c*p) (e:s+y+c=x+d*4294967296):V+p*s+(b+p*y)=(a+p*x)+d*(4294967296*p):=by
 have:p*(s+y+c)=p*(x+d*4294967296):=by rw [e]
 grind
theorem seg_rest2 {L M:List Nat}{off k n V:Nat}(hk:k≤n) (hn:off+n≤L.length) (ho:Out L M off k) (h:sg M off k+V=sg L off k):sg M off n+V=sg L off n:=by
 obtain ⟨d,rfl⟩:∃ d,n=k+d:=⟨n-k,by omega⟩
 have h1:=sg_add M off k d (by rw [ho.1];omega)
 have h2:=sg_add L off k d (by omega)
 have h3:=ho.above (off+k) d (by omega) (by omega)
 rw [h1,h2,h3];omega
end
section
open Go.RowKit
theorem or64_join (l x:Nat) (hl:l<4294967296) (hx:x<4294967296):bits BinOp.or IntKind.u64 ((l:Int)*4294967296) (x:Int)=((l*4294967296+x:Nat):Int):=by
 have e:((l:Int)*4294967296)=((l*4294967296:Nat):Int):=by simp only [Int.natCast_mul];rfl
 rw [e,bits_or_u64_nat _ _ (by omega) (by omega)]
 have:=Nat.two_pow_add_eq_or_of_lt (i:=32) (b:=x) (by omega) l
 have e2:2^32*l=l*4294967296:=by rw [Nat.mul_comm]
 rw [e2] at this;rw [this]
theorem cut_any (L:List Nat) (g off n cap q:Nat) (w:World)
 (hO:Own w g L) (hoff:off+n≤L.length) (hcap:n≤cap) (hbig:n≤4611686018427387904) (hL:Wf L) (hq:q<4294967296) (hq0:0<q) :
 Calls Tryz.prog 166 #[.slice (some ⟨g,off,none⟩) n cap,.int .u32 (q:Nat)] w fun r w' =>
  ∃ M,∃ c:Nat,r=.returned (.int .u32 (c:Nat))∧c<q∧Own w' g M∧Wf M∧Out L M off n∧sg L off n=sg M off n*q+c∧But g w w':=by
 have HR:Aside (Wf L∧off+n≤L.length):=⟨hL,hoff⟩;have HO:Hid (Own w g L):=hO;clear hL hO hoff;go_enter Tryz.func166,Tryz.ntmps166;go_wp2
 go_loopg [5,6] n (fun k c i wr=>∃ (cv:Nat) (M:List Nat),k≤n∧c=.int .u64 (cv:Nat)∧cv<q∧i=.int .i64 ((k:Int)-1) ∧
  Hid (Own wr g M)∧Aside (Wf M∧Out L M (off+k) (n-k)∧sg L (off+k) (n-k)=sg M (off+k) (n-k)*q+cv∧But g w wr))
 case atStart=>exact ⟨0,L,Nat.le_refl _,rfl,hq0,rfl,HO,HR.out.1,Out.refl _ _ _,by simp [sg_zero],But.refl _ _⟩
 case round =>
  obtain ⟨cv,M,hk,rfl,hcv,rfl,HM,HA⟩:=hrel
  by_cases hk0:gk=0
  · subst hk0
    go_wp2;go_ret;obtain ⟨hMw,hMo,hMs,hbut⟩:=HA.out;exact ⟨M,cv,rfl,hcv,HM.out,hMw,hMo,hMs,hbut⟩
  · obtain ⟨k,rfl⟩:∃ k,gk=k+1:=⟨gk-1,by omega⟩
    obtain ⟨hL,hoff⟩:=HR.out;obtain ⟨hMw,hMo,hMs,hbut⟩:=HA.out;have hgc:=HM.out.cell (off+k) (by rw [hMo.1];omega)
    have hgf:=HM.out.frozen (off+k);obtain ⟨x,hx⟩:∃ x:Nat,M.getD (off+k) 0=x:=⟨_,rfl⟩;have hxl:x<4294967296:=hx ▸ hMw.get _;rw [hx] at hgc;obtain ⟨t,ht⟩:∃ t:Nat,t=cv*4294967296+x:=⟨_,rfl⟩;have e1:bits BinOp.or IntKind.u64 ((cv:Int)*4294967296) (x:Int)=(t:Int):=by rw [or64_join cv x (by omega) hxl,ht]
    have ht2:(t:Int)<18446744073709551616:=by omega
    have hqlt:t/q<4294967296:=by
     rw [Nat.div_lt_iff_lt_mul hq0];have:cv*4294967296+4294967296≤q*4294967296:=by omega
     omega
    obtain ⟨s,hs⟩:∃ s:Nat,s=t/q:=⟨_,rfl⟩;obtain ⟨d,hd⟩:∃ d:Nat,d=t%q:=⟨_,rfl⟩;have e2:(t:Int)/(q:Int)=(s:Int):=by rw [hs];simp
    have e3:(t:Int)%(q:Int)=(d:Int):=by rw [hd];simp
    have hs2:s<4294967296:=by omega
    have hdq:d<q:=by rw [hd];exact Nat.mod_lt _ hq0
    have HX:Aside (M.getD (off+k) 0=x∧cv*4294967296+x=s*q+d):=⟨hx,by rw [hs,hd,←ht,Nat.mul_comm];exact (Nat.div_add_mod t q).symm⟩
    clear hx hs hd hL hoff hMw hMo hMs hbut ht hk0 hqlt;go_wp2
    go_region
    all_goals (
     go_wp2
     go_roundg k
     case measure=>omega
     case rel =>
      obtain ⟨hx,he⟩:=HX.out;obtain ⟨hL,hoff⟩:=HR.out;obtain ⟨hMw,hMo,hMs,hbut⟩:=HA.out;have hx2:L.getD (off+k) 0=x:=by rw [←hx];exact (hMo.2 _ (by omega)).symm
      refine ⟨d,M.set (off+k) s,by omega,by first | rfl | rw [e3],hdq,by first | go_num | (congr 1;omega),(HM.out.set (off+k) s).drew,hMw.set _ _ hs2,⟨by simp [hMo.1],fun j hj=>?_⟩,?_,(hbut.set (off+k) _).drew⟩
      · by_cases hj2:j=off+k
        · omega
        · rw [getD_set_ne _ _ _ _ (fun e=>hj2 e.symm)];exact hMo.2 j (by omega)
      · obtain ⟨r,hr⟩:∃ r,n-k=r+1:=⟨n-(k+1),by omega⟩
        have hr2:n-(k+1)=r:=by omega
        rw [hr2] at hMs;rw [hr,sg_front L _ _ (by omega),sg_front _ _ _ (by simp [hMo.1];omega),getD_set_same _ _ _ (by rw [hMo.1];omega),sg_set_below _ _ _ _ _ (by omega) (by rw [hMo.1];omega),hx2]
        exact cut_step _ _ _ _ _ _ _ hMs he)
theorem two_pow_rest (rest:Nat) (h:rest<32):2^rest*2^(32-rest)=4294967296:=by
 rw [←Nat.pow_add,show rest+(32-rest)=32 by omega]
theorem or_low (x y rest:Nat) (hr:rest<32) (hx:x<2^rest):x ||| (y*2^rest%4294967296)=x+y*2^rest%4294967296:=by
 have e:y*2^rest%4294967296=2^rest*(y%2^(32-rest)):=by
  rw [←two_pow_rest rest hr,Nat.mul_comm y,Nat.mul_mod_mul_left]
 rw [e,Nat.or_comm,←Nat.two_pow_add_eq_or_of_lt hx,Nat.add_comm]
theorem up_top (y rest:Nat) (hy:y<4294967296):y*2^rest/4294967296<2^rest:=by
 rw [Nat.div_lt_iff_lt_mul (by decide),Nat.mul_comm]
 exact Nat.mul_lt_mul_of_pos_left hy (Nat.two_pow_pos _)
theorem two_pow_lt (rest:Nat) (h:rest<32):2^rest≤2147483648:=by
 have:2^rest≤2^31:=Nat.pow_le_pow_right (by decide) (by omega)
 omega
theorem up_lt (y rest:Nat) (hy:y<4294967296) (hr:rest<32):y*2^rest<18446744073709551616:=by
 have h:=two_pow_lt rest hr;have:y*2^rest≤4294967295*2147483648:=Nat.mul_le_mul (by omega) h
 omega
theorem wrap_u64n (n:Int) (h0:0≤n) (h1:n<18446744073709551616):IntKind.u64.wrap n=n:=by
 rw [IntKind.wrap_u64];omega
theorem pw_two (words rest:Nat):2^(32*words+rest)=pw words*2^rest:=by
 rw [Nat.pow_add,Nat.pow_mul];rfl
theorem up_step (p S x t q b s d y r:Nat) (hS:S+p*x=b*r) (ht:t=y*r) (hs:s=x+t%4294967296) (hd:d=t/4294967296):S+p*s+4294967296*p*d=(b+p*y)*r:=by
 have e:t%4294967296+4294967296*d=t:=by rw [hd];exact Nat.mod_add_div _ _
 have e2:p*s+4294967296*p*d=p*x+p*t:=by
  have:p*(s+4294967296*d)=p*(x+t):=by rw [hs];congr 1;omega
  grind
 have e3:(b+p*y)*r=b*r+p*t:=by rw [ht];grind
 omega
def Wb (w:World) (g:Nat) (L:List Nat):Prop:=w.heap[g]?=some (.cells (L.map U).toArray 91 (0,0))
theorem Wb.lt {w:World}{g:Nat}{L:List Nat}(h:Wb w g L):g<w.heap.size:=(Array.getElem?_eq_some_iff.1 h).1
theorem Wb.cell {w:World}{g:Nat}{L:List Nat}(h:Wb w g L) (i:Nat) (hi:i<L.length):w.cell? ⟨g,i,none⟩=some (.int .u32 ((L.getD i 0:Nat):Int)):=by
 unfold Wb at h;simp only [World.cell?,h];simp [U,List.getD_eq_getElem?_getD,List.getElem?_eq_getElem hi]
theorem Wb.frozen {w:World}{g:Nat}{L:List Nat}(h:Wb w g L) (i:Nat):w.frozen? ⟨g,i,none⟩=false:=by
 unfold Wb at h;simp [World.frozen?,h]
theorem Wb.set {w:World}{g:Nat}{L:List Nat}(h:Wb w g L) (i x:Nat):Wb (w.setCell ⟨g,i,none⟩ (.int .u32 (x:Int))) g (L.set i x):=by
 unfold Wb at h ⊢;simp [World.setCell,Array.getElem?_modify,h,List.map_set,U]
theorem Wb.drew {w:World}{g:Nat}{L:List Nat}(h:Wb w g L):Wb w.drew g L:=h
def PB:Nat:=pw 133
theorem PB_pos:0<PB:=pw_pos 133
attribute [irreducible] PB
theorem val_lt_PB {L:List Nat}(hl:L.length=133) (hw:Wf L):val L<PB:=by
 have:=val_lt L hw;rw [hl] at this;unfold PB;exact this
theorem val_set (L:List Nat) (i x:Nat) (h:i<L.length):val (L.set i x)+L.getD i 0*pw i=val L+x*pw i:=by
 have h1:=val_take_drop L i (Nat.le_of_lt h);have h2:=val_take_drop (L.set i x) i (by simp;omega)
 rw [val_drop_succ L i h] at h1;rw [val_drop_succ (L.set i x) i (by simp;omega),getD_set_same _ _ _ h] at h2
 have e1:(L.set i x).take i=L.take i:=by rw [List.take_set];exact List.set_eq_of_length_le (by simp;omega)
 have e2:(L.set i x).drop (i+1)=L.drop (i+1):=by rw [List.drop_set,if_pos (by omega)]
 rw [e1,e2] at h2;rw [h2,h1]
 grind
theorem add_step (M:List Nat) (i c T s d:Nat) (h:i<M.length) (e:s+d*4294967296=c+M.getD i 0) (hT:val M+c*pw i=T):val (M.set i s)+d*pw (i+1)=T:=by
 have h1:=val_set M i s h;rw [pw_succ];have e2:(s+d*4294967296)*pw i=(c+M.getD i 0)*pw i:=by rw [e]
 rw [Nat.add_mul,Nat.add_mul,Nat.mul_assoc] at e2;omega
theorem take_step (M:List Nat) (i c T R s lo hi b:Nat) (h:i<M.length) (e:s+lo=M.getD i 0+b*4294967296) (hc:c=lo+hi*4294967296) (hT:val M+T=R+c*pw i):val (M.set i s)+T=R+(hi+b)*pw (i+1):=by
 have h1:=val_set M i s h;rw [pw_succ];have e2:(s+lo)*pw i=(M.getD i 0+b*4294967296)*pw i:=by rw [e]
 have e3:c*pw i=(lo+hi*4294967296)*pw i:=by rw [hc]
 rw [Nat.add_mul,Nat.add_mul,Nat.mul_assoc] at e2;rw [Nat.add_mul,Nat.mul_assoc] at e3;rw [Nat.add_mul];omega
theorem pw_pow (i:Nat):pw i=2^(32*i):=by unfold pw;rw [Nat.pow_mul]
theorem place_split (n p:Nat):n*2^(p%32)*pw (p/32)=n*2^p:=by
 rw [pw_pow,Nat.mul_assoc,←Nat.pow_add,Nat.mod_add_div]
theorem add_end (M:List Nat) (c T:Nat) (hl:M.length=133) (hw:Wf M) (h:val M+c*pw 133=T):val M=T%PB:=by
 have:=val_lt_PB hl hw;have e:pw 133=PB:=by unfold PB;rfl
 rw [←h,e,Nat.mul_comm,Nat.add_mul_mod_self_left,Nat.mod_eq_of_lt this]
theorem take_end (M:List Nat) (c T R:Nat) (hl:M.length=133) (hw:Wf M) (h:val M+T=R+c*pw 133):(val M:Int)=((R:Int)-(T:Int))%(PB:Int):=by
 have h1:=val_lt_PB hl hw;have e:pw 133=PB:=by unfold PB;rfl
 rw [e] at h
 have h2:(R:Int)-(T:Int)=(val M:Int)+(PB:Int)*(-(c:Int)):=by
  have:((val M+T:Nat):Int)=((R+c*PB:Nat):Int):=by rw [h]
  simp only [Int.natCast_add,Int.natCast_mul] at this;rw [Int.mul_neg,Int.mul_comm];omega
 rw [h2,Int.add_mul_emod_self_left,Int.emod_eq_of_lt (by omega) (by omega)]
theorem shl_small (n q:Nat) (hn:n<4294967296) (hq:q<32):n*2^q<9223372036854775808:=by
 have h1:2^q≤2147483648:=by
  have:=Nat.pow_le_pow_right (n:=2) (by decide) (show q≤31 by omega)
  simpa using this
 calc n*2^q≤4294967295*2147483648:=Nat.mul_le_mul (by omega) h1
  _<_:=by decide
theorem shl_wrap (n p:Nat) (hn:n<4294967296):IntKind.u64.wrap ((n:Int)*2^(p%32))=((n*2^(p%32):Nat):Int):=by
 have h1:=shl_small n (p%32) hn (Nat.mod_lt _ (by decide))
 have e:((n:Int)*2^(p%32))=((n*2^(p%32):Nat):Int):=by simp
 rw [e];exact wrap_u64n _ (by omega) (by omega)
theorem wadd_any (L:List Nat) (g n p:Nat) (w:World) (hW:Wb w g L) (hl:L.length=133) (hL:Wf L) (hn:n<4294967296) (hp:p<4256) :
 Calls Tryz.prog 134 #[.pointer (some ⟨g,0,none⟩),.int .u32 (n:Nat),.int .i64 (p:Nat)] w fun r w' =>
  r=.returned (.tuple #[])∧∃ M,Wb w' g M∧M.length=133∧Wf M∧val M=(val L+n*2^p)%PB∧But g w w':=by
 have HR:Aside (Wf L∧L.length=133):=⟨hL,hl⟩;have HO:Hid (Wb w g L):=hW;clear hL hW hl;go_enter Tryz.func134,Tryz.ntmps134;go_wp2
 go_loopg [6,7] 133 (fun k c i wr=>∃ (cv iv:Nat) (M:List Nat),133≤k+iv∧iv≤133∧c=.int .u64 (cv:Nat)∧cv<9223372036854775808∧i=.int .i64 (iv:Nat) ∧
  Hid (Wb wr g M)∧Aside (Wf M∧M.length=133∧val M+cv*pw iv=val L+n*2^p∧But g w wr))
 case atStart =>
  exact ⟨n*2^(p%32),p/32,L,by omega,by omega,by rw [shl_wrap n p hn],shl_small n _ hn (Nat.mod_lt _ (by decide)),by simp,HO,HR.out.1,HR.out.2,by rw [place_split],But.refl _ _⟩
 case round =>
  obtain ⟨cv,iv,M,hk,hi,rfl,hcv,rfl,HM,HA⟩:=hrel
  by_cases h1:iv=133
  · subst h1
    go_wp2;refine bodyPost_end (v:=.tuple #[]) (by simp [results,Tryz.results134,go_sem]) rfl ?_
    obtain ⟨hMw,hMl,hMs,hbut⟩:=HA.out;exact ⟨rfl,M,HM.out,hMl,hMw,add_end M cv _ hMl hMw hMs,hbut⟩
  by_cases h2:cv=0
  · subst h2
    have h3:(iv:Int)<133:=by omega
    go_wp2;refine bodyPost_end (v:=.tuple #[]) (by simp [results,Tryz.results134,go_sem]) rfl ?_
    obtain ⟨hMw,hMl,hMs,hbut⟩:=HA.out;exact ⟨rfl,M,HM.out,hMl,hMw,add_end M 0 _ hMl hMw (by rw [←hMs];simp),hbut⟩
  · have h3:iv<133:=by omega
    have h4:0<cv:=by omega
    obtain ⟨hMw,hMl,hMs,hbut⟩:=HA.out;have hgc:=HM.out.cell iv (by omega)
    have hgf:=HM.out.frozen iv;obtain ⟨x,hx⟩:∃ x:Nat,M.getD iv 0=x:=⟨_,rfl⟩;have hxl:x<4294967296:=hx ▸ hMw.get _;rw [hx] at hgc;have HX:Aside (M.getD iv 0=x):=hx;clear hx hMw hMl hMs hbut h1 h2;obtain ⟨k,rfl⟩:∃ k,gk=k+1:=⟨gk-1,by omega⟩
    go_wp2
    go_roundg k
    case measure=>omega
    case rel =>
     obtain ⟨hMw,hMl,hMs,hbut⟩:=HA.out;have e1:((cv:Int)+(x:Int))%4294967296=(((cv+x)%4294967296:Nat):Int):=by omega
     have e2:((cv:Int)+(x:Int))/4294967296=(((cv+x)/4294967296:Nat):Int):=by omega
     rw [e1];exact ⟨(cv+x)/4294967296,iv+1,M.set iv ((cv+x)%4294967296),by omega,by omega,by rw [e2],by omega,by simp,HM.out.set iv _,hMw.set _ _ (Nat.mod_lt _ (by decide)),by simp [hMl],add_step M iv cv _ _ _ (by omega) (by rw [HX.out];omega) hMs,hbut.set iv _⟩
theorem wtake_any (L:List Nat) (g n p:Nat) (w:World) (hW:Wb w g L) (hl:L.length=133) (hL:Wf L) (hn:n<4294967296) (hp:p<4256) :
 Calls Tryz.prog 133 #[.pointer (some ⟨g,0,none⟩),.int .u32 (n:Nat),.int .i64 (p:Nat)] w fun r w' =>
  r=.returned (.tuple #[])∧∃ M,Wb w' g M∧M.length=133∧Wf M∧(val M:Int)=((val L:Int)-((n*2^p:Nat):Int))%(PB:Int)∧But g w w':=by
 have HR:Aside (Wf L∧L.length=133):=⟨hL,hl⟩;have HO:Hid (Wb w g L):=hW;clear hL hW hl;go_enter Tryz.func133,Tryz.ntmps133;go_wp2
 go_loopg [6,7] 133 (fun k c i wr=>∃ (cv iv:Nat) (M:List Nat),133≤k+iv∧iv≤133∧c=.int .u64 (cv:Nat)∧cv<9223372036854775808∧i=.int .i64 (iv:Nat) ∧
  Hid (Wb wr g M)∧Aside (Wf M∧M.length=133∧val M+n*2^p=val L+cv*pw iv∧But g w wr))
 case atStart =>
  exact ⟨n*2^(p%32),p/32,L,by omega,by omega,by rw [shl_wrap n p hn],shl_small n _ hn (Nat.mod_lt _ (by decide)),by simp,HO,HR.out.1,HR.out.2,by rw [place_split],But.refl _ _⟩
 case round =>
  obtain ⟨cv,iv,M,hk,hi,rfl,hcv,rfl,HM,HA⟩:=hrel
  by_cases h1:iv=133
  · subst h1
    go_wp2;refine bodyPost_end (v:=.tuple #[]) (by simp [results,Tryz.results133,go_sem]) rfl ?_
    obtain ⟨hMw,hMl,hMs,hbut⟩:=HA.out;exact ⟨rfl,M,HM.out,hMl,hMw,take_end M cv _ _ hMl hMw hMs,hbut⟩
  by_cases h2:cv=0
  · subst h2
    have h3:(iv:Int)<133:=by omega
    go_wp2;refine bodyPost_end (v:=.tuple #[]) (by simp [results,Tryz.results133,go_sem]) rfl ?_
    obtain ⟨hMw,hMl,hMs,hbut⟩:=HA.out;exact ⟨rfl,M,HM.out,hMl,hMw,take_end M 0 _ _ hMl hMw (by rw [hMs];simp),hbut⟩
  · have h3:iv<133:=by omega
    have h4:0<cv:=by omega
    obtain ⟨hMw,hMl,hMs,hbut⟩:=HA.out;have hgc:=HM.out.cell iv (by omega)
    have hgf:=HM.out.frozen iv;obtain ⟨x,hx⟩:∃ x:Nat,M.getD iv 0=x:=⟨_,rfl⟩;have hxl:x<4294967296:=hx ▸ hMw.get _;rw [hx] at hgc;obtain ⟨lo,hlo⟩:∃ lo:Nat,cv%4294967296=lo:=⟨_,rfl⟩;obtain ⟨hi',hhi⟩:∃ hi':Nat,cv/4294967296=hi':=⟨_,rfl⟩;have e1:(cv:Int)%4294967296=(lo:Int):=by omega
    have e2:(cv:Int)/4294967296=(hi':Int):=by omega
    have b1:lo<4294967296:=by omega
    have b2:hi'<2147483648:=by omega
    have HX:Aside (M.getD iv 0=x∧cv=lo+hi'*4294967296):=⟨hx,by omega⟩
    clear hx hMw hMl hMs hbut h1 h2 hlo hhi;obtain ⟨k,rfl⟩:∃ k,gk=k+1:=⟨gk-1,by omega⟩
    by_cases hlt:x<lo
    · have h5:decide (x<lo)=true:=by simp [hlt]
      go_wp2
      go_region
      all_goals (
       go_wp2
       go_roundg k
       case measure=>omega
       case rel =>
        obtain ⟨hMw,hMl,hMs,hbut⟩:=HA.out;have e3:((x:Int)-(lo:Int))%4294967296=((x+4294967296-lo:Nat):Int):=by omega
        rw [e3];exact ⟨hi'+1,iv+1,M.set iv (x+4294967296-lo),by omega,by omega,by simp,by omega,by simp,(HM.out.set iv _).drew,hMw.set _ _ (by omega),by simp [hMl],take_step M iv cv _ _ _ lo hi' 1 (by omega) (by rw [HX.out.1];omega) HX.out.2 hMs,(hbut.set iv _).drew⟩)
    · have h5:decide (x<lo)=false:=by simp [hlt]
      go_wp2
      go_region
      all_goals (
       go_wp2
       go_roundg k
       case measure=>omega
       case rel =>
        obtain ⟨hMw,hMl,hMs,hbut⟩:=HA.out;have e3:((x:Int)-(lo:Int))=((x-lo:Nat):Int):=by omega
        rw [e3];exact ⟨hi',iv+1,M.set iv (x-lo),by omega,by omega,by simp,by omega,by simp,(HM.out.set iv _).drew,hMw.set _ _ (by omega),by simp [hMl],by have:=take_step M iv cv _ _ (x-lo) lo hi' 0 (by omega) (by rw [HX.out.1];omega) HX.out.2 hMs;simpa using this,(hbut.set iv _).drew⟩)
end
section
theorem guess_end (b o t1 t2 l u2 T:Nat) (hT:o*t1+l=T) (h:o*t2≤l*b+u2):o*(t1*b+t2)≤T*b+u2:=by
 subst hT;have e:o*(t1*b+t2)=o*t1*b+o*t2:=by grind
 have e2:(o*t1+l)*b=o*t1*b+l*b:=by grind
 omega
theorem guess_no (b o t1 t2 l u2 T:Nat) (hT:o*t1+l=T) (h:l*b+u2<o*t2):T*b+u2<o*(t1*b+t2):=by
 subst hT;have e:o*(t1*b+t2)=o*t1*b+o*t2:=by grind
 have e2:(o*t1+l)*b=o*t1*b+l*b:=by grind
 omega
theorem guess_first (b t1 t2 u2 T:Nat) (h1:0<t1) (h2:u2<b):T*b+u2<(T/t1+1)*(t1*b+t2):=by
 have h:=Nat.lt_div_mul_add (a:=T) (b:=t1) h1;have h3:T+1≤(T/t1+1)*t1:=by rw [Nat.add_mul,Nat.one_mul];omega
 have h4:(T+1)*b≤(T/t1+1)*t1*b:=Nat.mul_le_mul_right _ h3;have e:(T/t1+1)*(t1*b+t2)=(T/t1+1)*t1*b+(T/t1+1)*t2:=by grind
 rw [Nat.add_mul,Nat.one_mul] at h4;omega
theorem guess_break (b o t1 t2 l u2 T:Nat) (hT:o*t1+l=T) (hl:b≤l) (hT2:T<t1*b+b) (ht:t2<b) (h1:0<t1):o<b∧o*t2≤l*b+u2:=by
 have ho:o<b:=by
  by_cases h:o<b
  · exact h
  · exfalso
    have:b*t1≤o*t1:=Nat.mul_le_mul_right _ (by omega)
    rw [Nat.mul_comm b] at this;omega
 have h2:o*t2≤b*b:=Nat.mul_le_mul (by omega) (by omega)
 have h3:b*b≤l*b:=Nat.mul_le_mul_right _ hl;exact ⟨ho,by omega⟩
theorem guess_good (b o D W P u v U V:Nat) (hP:0<P) (hU:U=W*P+u) (hu:u<P) (hV:V=D*P+v) (hv:v<P) (h1:o*D≤W) (h2:b≤o+1∨W<(o+1)*D) (hlt:U<V*b) (ho:o<b) (hD:b≤D) :
 U<(o+1)*V∧o*V≤U+V:=by
 constructor
 · rcases h2 with h2 | h2
   · obtain rfl:b=o+1:=by omega
     rw [Nat.mul_comm];exact hlt
   · have h3:(W+1)*P≤(o+1)*D*P:=Nat.mul_le_mul_right _ h2
     have h4:(o+1)*V=(o+1)*D*P+(o+1)*v:=by rw [hV];grind
     rw [Nat.add_mul] at h3;omega
 · rcases o with _ | o
   · omega
   · have h3:(o+1)*D*P≤W*P:=Nat.mul_le_mul_right _ h1
     have h4:(o+1)*V=(o+1)*D*P+o*v+v:=by rw [hV];grind
     have h5:o*v≤D*P:=Nat.mul_le_mul (by omega) (by omega)
     omega
theorem guess_top (b P t1 t2 u0 u1 u2 u v U V:Nat) (hU:U=((u0*b+u1)*b+u2)*P+u) (hV:V=(t1*b+t2)*P+v) (hv:v<P) (ht:t2<b) (hlt:U<V*b):u0≤t1:=by
 by_cases h:u0≤t1
 · exact h
 · exfalso
   have h1:(t1*b+t2+1)*P≤(t1+1)*b*P:=Nat.mul_le_mul_right _ (by rw [Nat.add_mul,Nat.one_mul];omega)
   have h2:V<(t1+1)*b*P:=by
    rw [Nat.add_mul,Nat.one_mul] at h1;omega
   have h3:V*b≤(t1+1)*b*P*b:=Nat.mul_le_mul_right _ (by omega)
   have h4:(t1+1)*(b*P*b)≤u0*(b*P*b):=Nat.mul_le_mul_right _ (by omega)
   have h5:(t1+1)*b*P*b=(t1+1)*(b*P*b):=by grind
   have h6:U=u0*(b*P*b)+(u1*b+u2)*P+u:=by rw [hU];grind
   omega
theorem top_two (L:List Nat) (off k:Nat) (hL:Wf L) (h:off+(k+2)≤L.length):sg L off (k+2)=(L.getD (off+(k+1)) 0*4294967296+L.getD (off+k) 0)*pw k+sg L off k∧sg L off k<pw k:=by
 refine ⟨?_,sg_lt L off k hL (by omega)⟩
 rw [show k+2=k+1+1 by omega,sg_succ L off (k+1) (by omega),sg_succ L off k (by omega),pw_succ]
 grind
theorem top_three (L:List Nat) (off k:Nat) (hL:Wf L) (h:off+(k+3)≤L.length):sg L off (k+3)=((L.getD (off+(k+2)) 0*4294967296+L.getD (off+(k+1)) 0)*4294967296+L.getD (off+k) 0)*pw k+sg L off k∧sg L off k<pw k:=by
 refine ⟨?_,sg_lt L off k hL (by omega)⟩
 rw [show k+3=k+2+1 by omega,sg_succ L off (k+2) (by omega),(top_two L off k hL (by omega)).1,show k+2=k+1+1 by omega,pw_succ,pw_succ]
 grind
end
section
open Go.RowKit
set_option maxRecDepth 20000 in
theorem guess_any (L bs:List Nat) (g off cap:Nat) (ao:Option Addr) (n capb B:Nat) (w:World) (k:Nat) (hnk:n=k+2)
 (hO:Own w g L) (hoff:off+(k+3)≤L.length) (hm:k+2=bs.length) (hcap:n+1≤cap) (hbig:n≤4611686018427387904) (hL:Wf L) (hb:Wf bs) (hR:Rd B w ao bs)
 (htop:2147483648≤bs.getD (k+1) 0) (hlt:sg L off (k+3)<val bs*4294967296) :
 Calls Tryz.prog 173 #[.slice (some ⟨g,off,none⟩) (n+1) cap,.slice ao n capb] w fun r w' =>
  ∃ o:Nat,r=.returned (.int .u32 (o:Nat))∧o<4294967296∧sg L off (k+3)<(o+1)*val bs∧o*val bs≤sg L off (k+3)+val bs∧Below w.heap.size w w':=by
 obtain ⟨b,boff,hbB,rfl,hbc⟩:=hR (by intro e;subst e;simp at hm)
 have c1:=hbc (k+1) (by omega)
 have c2:=hbc k (by omega)
 have d0:=hO.cell (off+(k+2)) (by omega)
 have d1:=hO.cell (off+(k+1)) (by omega)
 have d2:=hO.cell (off+k) (by omega)
 have en1:k+1=n-1:=by omega
 have en2:boff+k=boff+(n-2):=by omega
 have en3:off+k=off+(n-2):=by omega
 have en4:off+(k+2)=off+n:=by omega
 have en5:off+(k+1)=off+(n-1):=by omega
 have en6:boff+(k+1)=boff+(n-1):=by omega
 have hn2:2≤n:=by omega
 have b1:=hb.get (k+1);have b2:=hb.get k;have l0:=hL.get (off+(k+2));have l1:=hL.get (off+(k+1));have l2:=hL.get (off+k);obtain ⟨eU,hu⟩:=top_three L off k hL hoff;obtain ⟨eV,hv⟩:=top_two bs 0 k hb (by omega)
 rw [Nat.zero_add,Nat.zero_add,show k+2=bs.length from hm,sg_all] at eV
 have HN:=(qsd hnk);clear en1;generalize bs.getD (k+1) 0=t1 at *;generalize bs.getD k 0=t2 at *;generalize L.getD (off+(k+2)) 0=u0 at *;generalize L.getD (off+(k+1)) 0=u1 at *;generalize L.getD (off+k) 0=u2 at *;generalize sg L off (k+3)=U at *;generalize val bs=V at *;generalize sg L off k=u at *;generalize sg bs 0 k=v at *;rw [en6] at c1;rw [en2] at c2;rw [en4] at d0;rw [en5] at d1;rw [en3] at d2;have hu0:u0≤t1:=guess_top 4294967296 (pw k) t1 t2 u0 u1 u2 u v U V eU eV hv b2 hlt;have hlt1:0<t1:=by omega
 obtain ⟨T,hT⟩:∃ T,T=u0*4294967296+u1:=⟨_,rfl⟩;have eT:bits BinOp.or IntKind.u64 ((u0:Int)*4294967296) (u1:Int)=(T:Int):=by rw [or64_join u0 u1 l0 l1,hT]
 obtain ⟨o0,ho0⟩:∃ o,o=T/t1:=⟨_,rfl⟩;obtain ⟨r0,hr0⟩:∃ r,r=T%t1:=⟨_,rfl⟩;have eo:(T:Int)/(t1:Int)=(o0:Int):=by rw [ho0];simp
 have er:(T:Int)%(t1:Int)=(r0:Int):=by rw [hr0];simp
 have hTl:(T:Int)<18446744073709551616:=by omega
 have hr0l:r0<t1:=by rw [hr0];exact Nat.mod_lt _ hlt1
 have hsum0:o0*t1+r0=T:=by rw [ho0,hr0,Nat.mul_comm];exact Nat.div_add_mod T t1
 have hmax0:T*4294967296+u2<(o0+1)*(t1*4294967296+t2):=by rw [ho0];exact guess_first 4294967296 t1 t2 u2 T hlt1 l2
 have ho0l:(o0:Int)<18446744073709551616:=by have:o0≤T:=by rw [ho0];exact Nat.div_le_self _ _
                                             omega
 have HH:=(qsd (ai hu0 (ai hT (ai eU (ai hu (ai eV (ai hv (ai hsum0 (ai hmax0 (ai hlt htop))))))))));clear en2 en3 en4 en5 en6 hnk;clear hT ho0 hr0 eU hu eV hv hsum0 hmax0 hlt hR hbc hm hb hL hO hoff htop;go_enter Tryz.func173,Tryz.ntmps173;go_wp2
 go_big_region
 go_wp2
 go_big_region
 go_wp2;have hbw:=World.block_lt_of_cell? w _ c2;have hgw:=World.block_lt_of_cell? w _ d2
 go_loopg [8,9] o0 (fun gk o l wr=>∃ lv:Nat,o=.int .u64 (gk:Nat)∧l=.int .u64 (lv:Nat)∧lv<4294967296∧Hid (Below w.heap.size w wr) ∧
  Aside (gk*t1+lv=T∧(4294967296≤gk+1∨T*4294967296+u2<(gk+1)*(t1*4294967296+t2))))
 case atStart=>exact ⟨r0,by first | rfl | rw [eo],by first | rfl | rw [er],by omega,by first | exact (Below.refl _ _).drew.drew | exact (Below.refl _ _).drew | exact Below.refl _ _,HH.out.2.2.2.2.2.2.1,.inr HH.out.2.2.2.2.2.2.2.1⟩
 case round =>
  obtain ⟨lv,rfl,rfl,hlv,HB,HA⟩:=hrel;have c2':wr.cell? ⟨b,boff+(n-2),none⟩=some (.int .u32 (t2:Int)):=(HB.out.cell (p:=⟨b,boff+(n-2),none⟩) hbw).trans c2;have d2':wr.cell? ⟨g,off+(n-2),none⟩=some (.int .u32 (u2:Int)):=(HB.out.cell (p:=⟨g,off+(n-2),none⟩) hgw).trans d2;clear c2 d2 c1 d0 d1 hTl eo er;obtain ⟨hu0,hT,eU,hu,eV,hv,hsum0,hmax0,hlt,htop⟩:=HH.out;obtain ⟨hsum,hmax⟩:=HA.out;have hTb:T<t1*4294967296+4294967296:=by omega
  have hgb:gk≤4294967297:=by
   by_cases h:gk≤4294967297
   · exact h
   · exfalso
     have:4294967298*t1≤gk*t1:=Nat.mul_le_mul_right _ (by omega)
     omega
  have HE:Aside (∀ o l,o*t1+l=T→o*t2≤l*4294967296+u2→o<4294967296→(4294967296≤o+1∨T*4294967296+u2<(o+1)*(t1*4294967296+t2))→U<(o+1)*V∧o*V≤U+V):=by
   intro o l h1 h2 h3 h4;rw [←hT] at eU;exact guess_good 4294967296 o _ _ (pw k) u v U V (pw_pos k) eU hu eV hv (guess_end 4294967296 o t1 t2 l u2 T h1 h2) h4 hlt h3 (by omega)
  have HT:=(qsd hTb);clear hu0 hT eU hu eV hv hsum0 hmax0 hlt htop hsum hmax hTb;have hgbi:(gk:Int)≤4294967297:=by omega
  by_cases hbig2:4294967295<gk
  · have hg1:(4294967295:Int)<(gk:Int):=by omega
    by_cases hl2:lv+t1≤4294967295
    · have hl3:(lv:Int)+(t1:Int)≤4294967295:=by omega
      have hl4:decide ((4294967295:Int)<(lv:Int)+(t1:Int))=false:=decide_eq_false (by omega)
      have HG:=(qsd (ai hbig2 (ai hl2 (ai hgb hlv))));clear hbig2 hl2 hgb;go_wp2
      go_big_region
      all_goals (
       go_wp2
       go_roundg (gk-1)
       case measure=>have:=HG.out.1;omega
       case rel =>
        obtain ⟨hsum,hmax⟩:=HA.out;obtain ⟨hbig2,hl2,hgb,hlv⟩:=HG.out;refine ⟨lv+t1,by first | go_num | (congr 1;omega),by first | rfl | go_num,by omega,HB.out.drew,?_,.inl (by omega)⟩
        obtain ⟨o,rfl⟩:∃ o,gk=o+1:=⟨gk-1,by omega⟩
        rw [Nat.add_sub_cancel];rw [Nat.add_mul] at hsum
        omega)
    · have hl3:(4294967295:Int)<(lv:Int)+(t1:Int):=by omega
      go_wp2
      go_big_region
      all_goals (
       go_wp2;go_ret;obtain ⟨hsum,hmax⟩:=HA.out;obtain ⟨o,rfl⟩:∃ o,gk=o+1:=⟨gk-1,by omega⟩
       have hs2:o*t1+(lv+t1)=T:=by rw [Nat.add_mul] at hsum;omega
       obtain ⟨hb1,hb2⟩:=guess_break 4294967296 o t1 t2 (lv+t1) u2 T hs2 (by omega) HT.out b2 hlt1
       obtain ⟨h1,h2⟩:=HE.out o (lv+t1) hs2 hb2 hb1 (.inl (by omega))
       refine ⟨o,?_,hb1,h1,h2,HB.out.drew⟩;exact congrArg (fun z=>Ending.returned (Value.int IntKind.u32 z)) (by omega))
  · have hg1:(gk:Int)≤4294967295:=by omega
    have hg2:decide ((4294967295:Int)<(gk:Int))=false:=by simp;omega
    have hp0:gk*t2≤4294967295*4294967295:=Nat.mul_le_mul (by omega) (by omega)
    have hp2:(gk:Int)*(t2:Int)≤18446744065119617025:=by rw [←Int.natCast_mul];omega
    have hp1:0≤(gk:Int)*(t2:Int):=by rw [←Int.natCast_mul];omega
    obtain ⟨lu,hlu⟩:∃ lu,lu=lv*4294967296+u2:=⟨_,rfl⟩;have eL:bits BinOp.or IntKind.u64 ((lv:Int)*4294967296) (u2:Int)=(lu:Int):=by rw [or64_join lv u2 hlv l2,hlu]
    have HL:=(qsd hlu)
    by_cases hmore:lu<gk*t2
    · have hm1:(lu:Int)<(gk:Int)*(t2:Int):=by rw [←Int.natCast_mul];omega
      have hgk0:0<gk:=by
       rcases Nat.eq_zero_or_pos gk with h|h
       · subst h;rw [Nat.zero_mul] at hmore;omega
       · exact h
      by_cases hl2:lv+t1≤4294967295
      · have hl3:(lv:Int)+(t1:Int)≤4294967295:=by omega
        have hl4:decide ((4294967295:Int)<(lv:Int)+(t1:Int))=false:=decide_eq_false (by omega)
        have HG:=(qsd (ai hbig2 (ai hl2 (ai hgb (ai hlv hmore)))));clear hlu hp0 hbig2 hl2 hgb hmore;go_wp2
        go_big_region
        all_goals (
         go_wp2
         go_roundg (gk-1)
         case measure=>omega
         case rel =>
          obtain ⟨hsum,hmax⟩:=HA.out;obtain ⟨hbig2,hl2,hgb,hlv,hmore⟩:=HG.out;have hno:=guess_no 4294967296 gk t1 t2 lv u2 T hsum (by rw [←HL.out];exact hmore)
          refine ⟨lv+t1,by first | go_num | (congr 1;omega),by first | rfl | go_num,by omega,HB.out.drew,?_,.inr ?_⟩
          · obtain ⟨o,rfl⟩:∃ o,gk=o+1:=⟨gk-1,by omega⟩
            rw [Nat.add_sub_cancel];rw [Nat.add_mul] at hsum;omega
          · rw [show gk-1+1=gk by omega];exact hno)
      · have hl3:(4294967295:Int)<(lv:Int)+(t1:Int):=by omega
        clear hlu hp0;go_wp2
        go_big_region
        all_goals (
         go_wp2;go_ret;obtain ⟨hsum,hmax⟩:=HA.out;have hno:=guess_no 4294967296 gk t1 t2 lv u2 T hsum (by rw [←HL.out];exact hmore)
         obtain ⟨o,rfl⟩:∃ o,gk=o+1:=⟨gk-1,by omega⟩
         have hs2:o*t1+(lv+t1)=T:=by rw [Nat.add_mul] at hsum;omega
         obtain ⟨hb1,hb2⟩:=guess_break 4294967296 o t1 t2 (lv+t1) u2 T hs2 (by omega) HT.out b2 hlt1
         obtain ⟨h1,h2⟩:=HE.out o (lv+t1) hs2 hb2 hb1 (.inr hno);refine ⟨o,?_,hb1,h1,h2,HB.out.drew⟩;exact congrArg (fun z=>Ending.returned (Value.int IntKind.u32 z)) (by omega))
    · have hm1:(gk:Int)*(t2:Int)≤(lu:Int):=by rw [←Int.natCast_mul];omega
      have hm2:decide ((lu:Int)<(gk:Int)*(t2:Int))=false:=decide_eq_false (by omega)
      have HG:=(qsd (ai hbig2 (ai hgb (ai hlv hmore))));clear hlu hp0 hbig2 hgb hmore;go_wp2
      go_big_region
      all_goals (
       go_wp2;go_ret;obtain ⟨hsum,hmax⟩:=HA.out;obtain ⟨hbig2,hgb,hlv,hmore⟩:=HG.out;obtain ⟨h1,h2⟩:=HE.out gk lv hsum (by rw [←HL.out];omega) (by omega) hmax
       refine ⟨gk,?_,by omega,h1,h2,HB.out.drew⟩
       first | rfl | exact congrArg (fun z=>Ending.returned (Value.int IntKind.u32 z)) (by omega))
theorem addTo_any (L bs:List Nat) (g off n cap:Nat) (ao:Option Addr) (m capb B:Nat) (w:World)
 (hO:Own w g L) (hoff:off+n≤L.length) (hm:m=bs.length) (hmn:m≤n) (hcap:n≤cap) (hbig:n≤4611686018427387904) (hL:Wf L) (hb:Wf bs) (hR:Rd B w ao bs) (hB:B≤g) :
 Calls Tryz.prog 164 #[.slice (some ⟨g,off,none⟩) n cap,.slice ao m capb] w fun r w' =>
  ∃ M c,r=.returned (.int .u32 (c:Nat))∧c≤1∧Own w' g M∧Wf M∧Out L M off n∧sg M off n+c*pw n=sg L off n+val bs∧But g w w':=by
 have HR:Aside (Rd B w ao bs∧m=bs.length∧Wf bs∧Wf L∧off+n≤L.length):=⟨hR,hm,hb,hL,hoff⟩;have HO:Hid (Own w g L):=hO;have HA32:Hid (∀ x y c s d w,_→_→_→_→_→_):=add32_nat;clear hR hm hb hL hO hoff;go_enter Tryz.func164,Tryz.ntmps164;go_wp2
 go_loopg [5,11] m (fun gk c i wr=>∃ (k cv:Nat) (M:List Nat),gk+k=m∧c=.int .u32 (cv:Nat)∧cv≤1∧i=.int .i64 (k:Nat) ∧
  Hid (Own wr g M)∧Aside (Wf M∧Out L M off k∧sg M off k+cv*pw k=sg L off k+sg bs 0 k∧But g w wr))
 case atStart=>exact ⟨0,0,L,by omega,rfl,by omega,rfl,HO,HR.out.2.2.2.1,Out.refl _ _ _,by simp [sg_zero],But.refl _ _⟩
 case round =>
  obtain ⟨k,cv,M,hgk,rfl,hcv,rfl,HM,HA⟩:=hrel
  by_cases hk:k<m
  · obtain ⟨hR,hm,hb,hL,hoff⟩:=HR.out
    obtain ⟨hMw,hMo,hMs,hbut⟩:=HA.out;obtain ⟨b,boff,hbB,rfl,hbc⟩:=hR (by intro e;subst e;simp at hm;omega)
    have hbk:wr.cell? ⟨b,boff+k,none⟩=some (.int .u32 ((bs.getD k 0:Nat):Int)):=by
     have h1:=hbut.block b (World.block_lt_of_cell? w ⟨b,boff+k,none⟩ (hbc k (by omega))) (by omega)
     exact (World.cell?_of_block (a:=⟨b,boff+k,none⟩) h1).trans (hbc k (by omega))
    have hgc:=HM.out.cell (off+k) (by rw [hMo.1];omega)
    have hgf:=HM.out.frozen (off+k);obtain ⟨x,hx⟩:∃ x:Nat,M.getD (off+k) 0=x:=⟨_,rfl⟩;obtain ⟨y,hy⟩:∃ y:Nat,bs.getD k 0=y:=⟨_,rfl⟩;have hxl:x<4294967296:=hx ▸ hMw.get _;have hyl:y<4294967296:=hy ▸ hb.get _;rw [hx] at hgc;rw [hy] at hbk;obtain ⟨s,hs⟩:∃ s:Nat,s=(x+y+cv)%4294967296:=⟨_,rfl⟩;obtain ⟨d,hd⟩:∃ d:Nat,d=(x+y+cv)/4294967296:=⟨_,rfl⟩;have HX:Aside (M.getD (off+k) 0=x∧bs.getD k 0=y∧s=(x+y+cv)%4294967296∧d=(x+y+cv)/4294967296):=⟨hx,hy,hs,hd⟩;clear hx hy hs hd hR hm hb hL hoff hMw hMo hMs hbut hbc
    go_wp2_with fail
    refine (HA32.out x y cv s d _ hxl hyl hcv HX.out.2.2.1 HX.out.2.2.2).mono ?_;rintro r w1 ⟨rfl,rfl⟩;go_wp2
    go_roundg (gk-1)
    case measure=>omega
    case rel =>
     obtain ⟨hx,hy,hs,hd⟩:=HX.out;obtain ⟨hR,hm,hb,hL,hoff⟩:=HR.out;obtain ⟨hMw,hMo,hMs,hbut⟩:=HA.out;refine ⟨k+1,d,M.set (off+k) s,by omega,rfl,by omega,by go_num,HM.out.set _ _,hMw.set _ _ (by omega),(hMo.mono (by omega)).set _ _ (by omega) (by omega),?_,hbut.set _ _⟩
     rw [sg_set_last _ _ _ _ (by rw [hMo.1];omega),sg_succ L off k (by omega),sg_succ bs 0 k (by omega),Nat.zero_add,hy,pw_succ]
     have e:L.getD (off+k) 0=x:=by rw [←hx];exact (hMo.2 _ (by omega)).symm
     rw [e];exact carry_step _ _ _ _ _ _ _ _ _ hMs (by omega)
  · obtain rfl:k=m:=by omega
    have HA2:Aside (Wf M∧Out L M off k∧sg M off k+cv*pw k=sg L off k+val bs∧But g w wr):=by
     obtain ⟨hR,hm,hb,hL,hoff⟩:=HR.out;obtain ⟨hMw,hMo,hMs,hbut⟩:=HA.out;refine ⟨hMw,hMo,?_,hbut⟩;rw [hMs,hm,sg_all]
    clear HA hgk HO hk;go_wp2
    go_loopg [5,8] (n-k) (fun g2 c i w2=>∃ (j cv:Nat) (M:List Nat),g2+j=n∧k≤j∧c=.int .u32 (cv:Nat)∧cv≤1∧i=.int .i64 (j:Nat) ∧
     Hid (Own w2 g M)∧Aside (Wf M∧Out L M off j∧sg M off j+cv*pw j=sg L off j+val bs∧But g w w2))
    case atStart=>exact ⟨k,cv,M,by omega,Nat.le_refl _,rfl,hcv,rfl,HM,HA2.out⟩
    case round =>
     clear HM HA2 hcv;obtain ⟨j,cv,M,hgj,hkj,rfl,hcv,rfl,HM,HA⟩:=hrel
     by_cases hj:j<n
     · by_cases h0:cv=0
       · subst h0
         go_wp2;go_ret;obtain ⟨hR,hm,hb,hL,hoff⟩:=HR.out;obtain ⟨hMw,hMo,hMs,hbut⟩:=HA.out;refine ⟨M,0,rfl,by omega,HM.out,hMw,hMo.mono (by omega),?_,hbut⟩
         rw [Nat.zero_mul,Nat.add_zero] at hMs ⊢;exact seg_rest (by omega) (by omega) hMo hMs
       · obtain rfl:cv=1:=by omega
         obtain ⟨hR,hm,hb,hL,hoff⟩:=HR.out;obtain ⟨hMw,hMo,hMs,hbut⟩:=HA.out;have hgc:=HM.out.cell (off+j) (by rw [hMo.1];omega)
         have hgf:=HM.out.frozen (off+j);obtain ⟨x,hx⟩:∃ x:Nat,M.getD (off+j) 0=x:=⟨_,rfl⟩;have hxl:x<4294967296:=hx ▸ hMw.get _;rw [hx] at hgc;obtain ⟨s,hs⟩:∃ s:Nat,s=(x+0+1)%4294967296:=⟨_,rfl⟩;obtain ⟨d,hd⟩:∃ d:Nat,d=(x+0+1)/4294967296:=⟨_,rfl⟩;have HX:Aside (M.getD (off+j) 0=x∧s=(x+0+1)%4294967296∧d=(x+0+1)/4294967296):=⟨hx,hs,hd⟩;clear hx hs hd hR hm hb hL hoff hMw hMo hMs hbut h0
         go_wp2_with fail
         refine (HA32.out x 0 1 s d _ hxl (by omega) (by omega) HX.out.2.1 HX.out.2.2).mono ?_
         rintro r w1 ⟨rfl,rfl⟩;go_wp2
         go_roundg (gk-1)
         case measure=>omega
         case rel =>
          obtain ⟨hx,hs,hd⟩:=HX.out;obtain ⟨hR,hm,hb,hL,hoff⟩:=HR.out;obtain ⟨hMw,hMo,hMs,hbut⟩:=HA.out;refine ⟨j+1,d,M.set (off+j) s,by omega,by omega,rfl,by omega,by go_num,HM.out.set _ _,hMw.set _ _ (by omega),(hMo.mono (by omega)).set _ _ (by omega) (by omega),?_,hbut.set _ _⟩
          rw [sg_set_last _ _ _ _ (by rw [hMo.1];omega),sg_succ L off j (by omega),pw_succ]
          have e:L.getD (off+j) 0=x:=by rw [←hx];exact (hMo.2 _ (by omega)).symm
          rw [e];have:=carry_step (pw j) _ _ _ _ x 0 s d hMs (by omega)
          omega
     · obtain rfl:j=n:=by omega
       go_wp2;go_ret;obtain ⟨hMw,hMo,hMs,hbut⟩:=HA.out;exact ⟨M,cv,rfl,hcv,HM.out,hMw,hMo,hMs,hbut⟩
theorem takeTimes_any (L bs:List Nat) (g off n cap:Nat) (ao:Option Addr) (m capb B q:Nat) (w:World)
 (hO:Own w g L) (hoff:off+n≤L.length) (hm:m=bs.length) (hmn:n=m+1) (hcap:n≤cap) (hbig:n≤4611686018427387904) (hL:Wf L) (hb:Wf bs) (hR:Rd B w ao bs) (hB:B≤g) (hq:q<4294967296) :
 Calls Tryz.prog 174 #[.slice (some ⟨g,off,none⟩) n cap,.slice ao m capb,.int .u32 (q:Nat)] w fun r w' =>
  ∃ M,∃ c:Nat,r=.returned (.bool (decide (0<c)))∧c≤1∧Own w' g M∧Wf M∧Out L M off n∧sg M off n+val bs*q=sg L off n+c*pw n∧But g w w':=by
 have HR:Aside (Rd B w ao bs∧m=bs.length∧Wf bs∧Wf L∧off+n≤L.length∧n=m+1):=⟨hR,hm,hb,hL,hoff,hmn⟩;have HO:Hid (Own w g L):=hO;have HA32:Hid (∀ x y c s d w,_→_→_→_→_→_):=sub32_nat;have hmn1:m<n:=by omega
 clear hR hm hb hL hO hoff hmn;go_enter Tryz.func174,Tryz.ntmps174;go_wp2
 go_loopg [7,8,14] m (fun gk c bo i wr=>∃ (k cv bv:Nat) (M:List Nat),gk+k=m∧c=.int .u64 (cv:Nat)∧cv<4294967296∧bo=.int .u32 (bv:Nat)∧bv≤1∧i=.int .i64 (k:Nat) ∧
  Hid (Own wr g M)∧Aside (Wf M∧Out L M off k∧sg M off k+sg bs 0 k*q=sg L off k+(cv+bv)*pw k∧But g w wr))
 case atStart=>exact ⟨0,0,0,L,by omega,rfl,by omega,rfl,by omega,rfl,HO,HR.out.2.2.2.1,Out.refl _ _ _,by simp [sg_zero],But.refl _ _⟩
 case round =>
  obtain ⟨k,cv,bv,M,hgk,rfl,hcv,rfl,hbv,rfl,HM,HA⟩:=hrel
  by_cases hk:k<m
  · obtain ⟨hR,hm,hb,hL,hoff,hmn⟩:=HR.out
    obtain ⟨hMw,hMo,hMs,hbut⟩:=HA.out;obtain ⟨b,boff,hbB,rfl,hbc⟩:=hR (by intro e;subst e;simp at hm;omega)
    have hbk:wr.cell? ⟨b,boff+k,none⟩=some (.int .u32 ((bs.getD k 0:Nat):Int)):=by
     have h1:=hbut.block b (World.block_lt_of_cell? w ⟨b,boff+k,none⟩ (hbc k (by omega))) (by omega)
     exact (World.cell?_of_block (a:=⟨b,boff+k,none⟩) h1).trans (hbc k (by omega))
    have hgc:=HM.out.cell (off+k) (by rw [hMo.1];omega)
    have hgf:=HM.out.frozen (off+k);obtain ⟨x,hx⟩:∃ x:Nat,M.getD (off+k) 0=x:=⟨_,rfl⟩;obtain ⟨y,hy⟩:∃ y:Nat,bs.getD k 0=y:=⟨_,rfl⟩;have hxl:x<4294967296:=hx ▸ hMw.get _;have hyl:y<4294967296:=hy ▸ hb.get _;rw [hx] at hgc;rw [hy] at hbk;have hp0:=mul_bound y q hyl hq;have hp2:(y:Int)*(q:Int)≤18446744065119617025:=by rw [←Int.natCast_mul];omega
    have hp1:0≤(y:Int)*(q:Int):=by rw [←Int.natCast_mul];omega
    obtain ⟨tl,htl⟩:∃ s:Nat,s=(y*q+cv)%4294967296:=⟨_,rfl⟩;obtain ⟨d,hd⟩:∃ d:Nat,d=(y*q+cv)/4294967296:=⟨_,rfl⟩;have e0:((y*q+cv:Nat):Int)=(y:Int)*q+cv:=by simp only [Int.natCast_add,Int.natCast_mul]
    have e1:((y:Int)*q+cv)%4294967296=(tl:Int):=by rw [←e0];omega
    have e2:((y:Int)*q+cv)/4294967296=(d:Int):=by rw [←e0];omega
    obtain ⟨s,hs⟩:∃ s:Nat,(s:Int)=((x:Int)-tl-bv)%4294967296:=⟨(((x:Int)-tl-bv)%4294967296).toNat,by omega⟩
    obtain ⟨bn,hbn⟩:∃ bn:Nat,bn=if x<tl+bv then 1 else 0:=⟨_,rfl⟩
    have htl2:tl<4294967296:=by omega
    have HX:Aside (M.getD (off+k) 0=x∧bs.getD k 0=y∧tl+d*4294967296=y*q+cv∧d<4294967296∧(s:Int)=((x:Int)-tl-bv)%4294967296∧bn=if x<tl+bv then 1 else 0):=⟨hx,hy,by omega,by omega,hs,hbn⟩
    clear hx hy hs hd hR hm hb hL hoff hMw hMo hMs hbut hbc e0 hp0 hbn htl hmn
    go_wp2_with fail
    refine (HA32.out x tl bv s bn _ hxl htl2 hbv HX.out.2.2.2.2.1 HX.out.2.2.2.2.2).mono ?_;rintro r w1 ⟨rfl,rfl⟩;go_wp2
    go_roundg (gk-1)
    case measure=>omega
    case rel =>
     obtain ⟨hx,hy,he,hd,hs,hbn⟩:=HX.out;obtain ⟨hR,hm,hb,hL,hoff,hmn⟩:=HR.out;obtain ⟨hMw,hMo,hMs,hbut⟩:=HA.out;have hbn1:bn≤1:=by rw [hbn];split <;> omega
     have hsum:s+tl+bv=x+bn*4294967296:=by rw [hbn];split <;> omega
     refine ⟨k+1,d,bn,M.set (off+k) s,by omega,rfl,hd,rfl,hbn1,by go_num,HM.out.set _ _,hMw.set _ _ (by omega),(hMo.mono (by omega)).set _ _ (by omega) (by omega),?_,hbut.set _ _⟩
     rw [sg_set_last _ _ _ _ (by rw [hMo.1];omega),sg_succ L off k (by omega),sg_succ bs 0 k (by omega),Nat.zero_add,hy,pw_succ]
     have e:L.getD (off+k) 0=x:=by rw [←hx];exact (hMo.2 _ (by omega)).symm
     rw [e];exact takes_step _ _ _ _ _ _ _ _ _ _ hMs (by rw [Nat.add_mul];omega)
  · obtain rfl:k=m:=by omega
    obtain ⟨hR,hm,hb,hL,hoff,hmn⟩:=HR.out;obtain ⟨hMw,hMo,hMs,hbut⟩:=HA.out;have hgc:=HM.out.cell (off+k) (by rw [hMo.1];omega)
    have hgf:=HM.out.frozen (off+k);obtain ⟨x,hx⟩:∃ x:Nat,M.getD (off+k) 0=x:=⟨_,rfl⟩;have hxl:x<4294967296:=hx ▸ hMw.get _;rw [hx] at hgc;obtain ⟨s,hs⟩:∃ s:Nat,(s:Int)=((x:Int)-cv-bv)%4294967296:=⟨(((x:Int)-cv-bv)%4294967296).toNat,by omega⟩
    obtain ⟨bn,hbn⟩:∃ bn:Nat,bn=if x<cv+bv then 1 else 0:=⟨_,rfl⟩
    have HX:Aside (M.getD (off+k) 0=x∧(s:Int)=((x:Int)-cv-bv)%4294967296∧bn=if x<cv+bv then 1 else 0):=⟨hx,hs,hbn⟩
    clear hx hs hR hm hb hL hoff hMw hMo hMs hbut hbn hmn
    go_wp2_with fail
    refine (HA32.out x cv bv s bn _ hxl hcv hbv HX.out.2.1 HX.out.2.2).mono ?_;rintro r w1 ⟨rfl,rfl⟩;go_wp2;go_ret;obtain ⟨hx,hs,hbn⟩:=HX.out;obtain ⟨hR,hm,hb,hL,hoff,hmn⟩:=HR.out;obtain ⟨hMw,hMo,hMs,hbut⟩:=HA.out;have hbn1:bn≤1:=by rw [hbn];split <;> omega
    have hsum:s+cv+bv=x+bn*4294967296:=by rw [hbn];split <;> omega
    refine ⟨M.set (off+k) s,bn,rfl,hbn1,HM.out.set _ _,hMw.set _ _ (by omega),(hMo.mono (by omega)).set _ _ (by omega) (by omega),?_,hbut.set _ _⟩
    subst hmn;rw [sg_set_last _ _ _ _ (by rw [hMo.1];omega),sg_succ L off k (by omega),pw_succ]
    have e:L.getD (off+k) 0=x:=by rw [←hx];exact (hMo.2 _ (by omega)).symm
    rw [e];have h2:=takes_step (pw k) _ _ _ _ x 0 q s bn hMs (by omega)
    rw [Nat.mul_zero,Nat.add_zero,hm,sg_all] at h2;exact hm ▸ h2
theorem take_low (U V P o c m:Nat) (h1:m+V*o=U+c*P) (hc:c≤1) (h2:U<(o+1)*V) (h3:o*V≤U+V) (hm:m<P) (hV:V≤P) (h0:c=0):m=U-o*V∧m<V∧U=o*V+m:=by
 subst h0;rw [Nat.mul_comm V] at h1;rw [Nat.add_mul,Nat.one_mul] at h2;refine ⟨by omega,by omega,by omega⟩
theorem take_back (U V P o c m M d:Nat) (h1:m+V*(o+1)=U+1*P) (h2:U<(o+1+1)*V) (h3:(o+1)*V≤U+V) (hm:m<P) (hM:M<P) (hb:M+d*P=m+V) (hd:d≤1) (hU:U<V*4294967296) (hVP:V*4294967296≤P*4294967296) (hV:V≤P) :
 U=o*V+M∧M<V:=by
 rw [Nat.one_mul] at h1;have e:V*(o+1)=o*V+V:=by grind
 rw [e] at h1;rw [Nat.add_mul,Nat.one_mul] at h3
 rcases (by omega:d=0∨d=1) with rfl|rfl
 · exfalso
   rw [Nat.zero_mul] at hb;omega
 · rw [Nat.one_mul] at hb
   constructor
   · omega
   · omega
theorem takeOut_any (L bs:List Nat) (g off cap:Nat) (ao:Option Addr) (n capb B:Nat) (w:World) (k:Nat) (hnk:n=k+2)
 (hO:Own w g L) (hoff:off+(k+3)≤L.length) (hm:k+2=bs.length) (hcap:n+1≤cap) (hbig:n+1≤4611686018427387904) (hL:Wf L) (hb:Wf bs) (hR:Rd B w ao bs) (hB:B≤g)
 (htop:2147483648≤bs.getD (k+1) 0) (hlt:sg L off (k+3)<val bs*4294967296) :
 Calls Tryz.prog 168 #[.slice (some ⟨g,off,none⟩) (n+1) cap,.slice ao n capb] w fun r w' =>
  ∃ o:Nat,∃ M,r=.returned (.int .u32 (o:Nat))∧o<4294967296∧Own w' g M∧Wf M∧Out L M off (n+1)∧sg L off (n+1)=o*val bs+sg M off (n+1)∧sg M off (n+1)<val bs∧But g w w':=by
 have G:=hid (guess_any L bs g off cap ao n capb B w k hnk hO hoff hm hcap (by omega) hL hb hR htop hlt)
 have HH:=(qsd (ai hO (ai hoff (ai hm (ai hL (ai hb (ai hR (ai hlt hnk))))))));clear hO hoff hm hL hb hR hlt hnk htop;go_enter Tryz.func168,Tryz.ntmps168
 go_wp2_with fail
 refine G.out.mono ?_;rintro r w1 ⟨o,rfl,ho,h2,h3,hbel⟩;obtain ⟨hO,hoff,hm,hL,hb,hR,hlt,hnk⟩:=HH.out;have hg:=hO.lt;have hO1:=hO.below hbel hg;have hR1:Rd B w1 ao bs:=hR.below (hbel.mono (by omega))
 have T:=hid (takeTimes_any L bs g off (n+1) cap ao n capb B o w1 hO1 (by omega) (by omega) rfl hcap hbig hL hb hR1 hB ho)
 have HI:=(qsd (ai h2 (ai h3 hbel)));clear hO hoff hm hL hb hR hlt hnk hg hO1 hR1 h2 h3 hbel G
 go_wp2_with fail
 refine T.out.mono ?_;rintro r w2 ⟨M,c,rfl,hc,hO2,hM,hout,hsum,hbut⟩;obtain ⟨hO,hoff,hm,hL,hb,hR,hlt,hnk⟩:=HH.out;obtain ⟨h2,h3,hbel⟩:=HI.out;have e3:k+3=n+1:=by omega
 rw [e3] at h2 h3 hlt;have hml:=sg_lt M off (n+1) hM (by rw [hout.1];omega)
 have hVl:=val_lt bs hb
 have hVP:val bs≤pw (n+1):=by
  have:=pw_mono (show bs.length≤n+1 by omega)
  omega
 by_cases h0:c=0
 · obtain ⟨e,hlt2,hU⟩:=take_low _ _ _ _ _ _ hsum hc h2 h3 hml hVP h0
   have HJ:=(qsd (ai hO2 (ai hM (ai hout (ai hU (ai hlt2 (ai hbut hbel)))))));subst h0;clear hO hoff hm hL hb hR hlt hnk h2 h3 hbel hO2 hM hout hsum hbut hml hVl hVP e hlt2 hU T HI e3 hc;go_wp2;go_ret;obtain ⟨hO2,hM,hout,hU,hlt2,hbut,hbel⟩:=HJ.out;exact ⟨o,M,rfl,ho,hO2,hM,hout,hU,hlt2,(But.refl _ _).of_below hbel |>.trans hbut⟩
 · obtain rfl:c=1:=by omega
   have ho1:1≤o:=by
    rcases Nat.eq_zero_or_pos o with h|h
    · subst h;rw [Nat.mul_zero] at hsum;have:=sg_lt L off (n+1) hL (by omega);omega
    · exact h
   obtain ⟨p,hp⟩:∃ p,o=p+1:=⟨o-1,by omega⟩
   have hR2:Rd B w2 ao bs:=(hR.below (hbel.mono (by have:=hO.lt;omega))).but hbut (by have:=hbel.size;have:=hO.lt;omega) hB
   have A:=hid (addTo_any M bs g off (n+1) cap ao n capb B w2 hO2 (by rw [hout.1];omega) (by omega) (by omega) hcap hbig hM hb hR2 hB)
   have HJ:=(qsd (ai hM (ai hout (ai hsum (ai hbut (ai hbel (ai h2 (ai h3 (ai hml (ai hVP (ai hlt hp)))))))))));clear hO hoff hm hL hb hR hlt hnk h2 h3 hbel hO2 hM hout hsum hbut hml hVl hVP T HI hR2 h0 hp e3 hc
   go_wp2_with fail
   refine A.out.mono ?_;rintro r w3 ⟨M2,d,rfl,hd,hO3,hM2,hout2,hsum2,hbut2⟩;have HK:=(qsd (ai hd (ai hO3 (ai hM2 (ai hout2 (ai hsum2 hbut2))))));clear hd hO3 hM2 hout2 hsum2 hbut2 A;go_wp2;go_ret;obtain ⟨hM,hout,hsum,hbut,hbel,h2,h3,hml,hVP,hlt,hp⟩:=HJ.out;obtain ⟨hd,hO3,hM2,hout2,hsum2,hbut2⟩:=HK.out;obtain ⟨hO,hoff,hm,hL,hb,hR,hlt',hnk⟩:=HH.out;have hm2:=sg_lt M2 off (n+1) hM2 (by rw [hout2.1,hout.1];omega)
   subst hp;obtain ⟨hU,hlt2⟩:=take_back _ _ _ p 1 _ _ d hsum h2 h3 hml hm2 hsum2 hd hlt (Nat.mul_le_mul_right _ hVP) hVP;refine ⟨p,M2,?_,by omega,hO3,hM2,hout.trans hout2,hU,hlt2,(((But.refl _ _).of_below hbel).trans hbut).trans hbut2⟩
   exact congrArg (fun z=>Ending.returned (Value.int IntKind.u32 z)) (by omega)
def bl (n:Nat):Nat:=if n=0 then 0 else n.log2+1
theorem bl_zero:bl 0=0:=rfl
theorem bl_lt (n:Nat):n<2^bl n:=by
 unfold bl
 split
 · next h=>subst h;decide
 · exact Nat.lt_log2_self
theorem bl_ge (n:Nat) (h:n≠0):2^(bl n-1)≤n:=by
 unfold bl;rw [if_neg h];exact Nat.log2_self_le h
theorem bl_pos (n:Nat) (h:n≠0):0<bl n:=by unfold bl;rw [if_neg h];omega
theorem bl_eq (n k:Nat) (h1:2^k≤n) (h2:n<2^(k+1)):bl n=k+1:=by
 have hn:n≠0:=by have:=Nat.two_pow_pos k;omega
 have a:k<bl n:=(Nat.pow_lt_pow_iff_right (a:=2) (by decide)).1 (Nat.lt_of_le_of_lt h1 (bl_lt n))
 have b:bl n-1<k+1:=(Nat.pow_lt_pow_iff_right (a:=2) (by decide)).1 (Nat.lt_of_le_of_lt (bl_ge n hn) h2)
 omega
theorem bitLen_bl (x:Nat) (h:x<18446744073709551616):Lib.bitLen x=bl x:=by
 by_cases h0:x=0
 · subst h0;decide
 · obtain ⟨h1,h2,h3⟩:=Lib.bitLenAux_bounds 64 x h h0
   obtain ⟨k,hk⟩:∃ k,Lib.bitLen x=k+1:=⟨Lib.bitLen x-1,by unfold Lib.bitLen;omega⟩
   have hk':Lib.bitLenAux 64 x=k+1:=hk;rw [hk'] at h2 h3;rw [hk,bl_eq x k h2 h3]
theorem tab8 (n:Nat) (h:n<Lib.len8tab.size):(Lib.len8tab[n]'h).toNat=Lib.bitLen n:=by
 have hn:n<256:=by rw [Lib.len8tab_size] at h;exact h
 have e:=Lib.len8_eq ⟨n,hn⟩;simp only [Lib.len8,Int.toNat_natCast] at e;rw [getElem?_pos Lib.len8tab n h] at e;exact Int.natCast_inj.1 (by simpa using e)
theorem fin_len (x i:Int) (c:Nat) (hc:c≤56) (hi:i<256) (hs:Lib.bitLen x.toNat=c+Lib.bitLen i.toNat) (hh:i.toNat<Lib.len8tab.size) (hi0:0≤i) :
 wrap64 ((c:Int)+wrap64 ((Lib.len8tab[i.toNat]'hh).toNat:Int))=(Lib.bitLen x.toNat:Int):=by
 have l:=Lib.bitLen_le8 ⟨i.toNat,by omega⟩
 simp only at l;rw [tab8,hs];unfold wrap64;omega
theorem fin_len0 (x:Int) (hi:x<256) (hi0:0≤x) (hh:x.toNat<Lib.len8tab.size) :
 wrap64 (wrap64 ((Lib.len8tab[x.toNat]'hh).toNat:Int))=(Lib.bitLen x.toNat:Int):=by
 have l:=Lib.bitLen_le8 ⟨x.toNat,by omega⟩
 simp only at l;rw [tab8];unfold wrap64;omega
set_option maxRecDepth 100000 in
theorem len32_int (x:Int) (w:World) (h0:0≤x) (h1:x≤4294967295) :
 Calls Tryz.prog 102 #[.int .u32 x] w fun e w'=>e=.returned (.int .i64 (Lib.bitLen x.toNat))∧w'=w:=by
 have hsz:Lib.len8tab.size=256:=Lib.len8tab_size;go_enter Tryz.func102,Tryz.ntmps102;go_wp2
 all_goals (go_ret;refine ⟨congrArg (fun z=>Ending.returned (Value.int IntKind.i64 z)) ?_,rfl⟩)
 · exact fin_len x (x/65536/256) 24 (by omega) (by omega) (by rw [Lib.bitLen_shift24 x.toNat (by omega) (by omega),show (x/65536/256).toNat=x.toNat/16777216 by omega]) (by omega) (by omega)
 · exact fin_len x (x/65536) 16 (by omega) (by omega) (by rw [Lib.bitLen_shift16 x.toNat (by omega) (by omega),show (x/65536).toNat=x.toNat/65536 by omega]) (by omega) (by omega)
 · exact fin_len x (x/256) 8 (by omega) (by omega) (by rw [Lib.bitLen_shift8 x.toNat (by omega) (by omega),show (x/256).toNat=x.toNat/256 by omega]) (by omega) (by omega)
 · exact fin_len0 x (by omega) (by omega) (by omega)
theorem len32_any (x:Nat) (w:World) (h:x<4294967296):Calls Tryz.prog 102 #[.int .u32 (x:Int)] w fun e w'=>e=.returned (.int .i64 (bl x:Nat))∧w'=w:=by
 have:=len32_int x w (by omega) (by omega)
 rw [Int.toNat_natCast,bitLen_bl x (by omega)] at this
 exact this
theorem bl_le32 (x:Nat) (h:x<4294967296):bl x≤32:=by
 by_cases h0:x=0
 · subst h0;decide
 · have:=bl_ge x h0
   have:2^(bl x-1)<2^32:=by omega
   have:=(Nat.pow_lt_pow_iff_right (a:=2) (by decide)).1 this
   omega
theorem lead32_any (x:Nat) (w:World) (h:x<4294967296):Calls Tryz.prog 167 #[.int .u32 (x:Int)] w fun e w'=>e=.returned (.int .i64 ((32-bl x:Nat):Int))∧w'=w:=by
 have H:=hid (len32_any x w h);have hb:=bl_le32 x h;obtain ⟨k,hk⟩:∃ k,bl x=k:=⟨_,rfl⟩;rw [hk] at H hb ⊢;clear hk;obtain ⟨z,hz⟩:∃ z,z=32-k:=⟨_,rfl⟩;have e:(32:Int)-(k:Int)=(z:Int):=by omega
 rw [←hz];clear hz;go_enter Tryz.func167,Tryz.ntmps167
 go_wp2_with fail
 refine H.out.mono ?_;rintro r w1 ⟨rfl,rfl⟩;go_wp2;go_ret;exact ⟨by first | rfl | rw [e],rfl⟩
end
end Go.Proofs.YthejkolknalpaaaGreatDoor
