import Derived.Deep.LoopGhost
import Derived.Test.YthfkleadcnkglaaGreatDoorRows
import Derived.WalkKit
import Derived.OwnWalk
import Derived.Below
import Derived.Laws.OwnMore
import Derived.Laws.CopyOwn
import Derived.Laws.Bits64b
import Derived.Lib.Strings
import Derived.Lib.Slices
import Derived.Lib.Small
import Derived.Lib.Walk
import Derived.Lib.BitFns
import Derived.Lib.Tables
import Derived.Lib.ItoaNum
import Derived.Lib.TrailingZeros
import Derived.Deep.OwnRows
import Derived.BigQuiet
import Derived.Deep.RegionWith
set_option linter.unusedVariables false
set_option linter.unusedSimpArgs false
set_option maxHeartbeats 16000000
set_option maxRecDepth 20000
namespace Go.Proofs.YthfkleadcnkglaaGreatDoor
theorem ai {a b:Prop} (x:a) (y:b):a∧b:=⟨x,y⟩
theorem qsd {a:Prop} (x:a):Aside a:=x
section
def pw (k:Nat):Nat:=4294967296^k
theorem pw_zero:pw 0=1:=by simp [pw]
theorem pw_succ (k:Nat):pw (k+1)=4294967296*pw k:=by simp [pw,Nat.pow_succ,Nat.mul_comm]
theorem pw_add (i k:Nat):pw (i+k)=pw i*pw k:=by simp [pw,Nat.pow_add]
theorem pw_pos (k:Nat):0<pw k:=Nat.pow_pos (by decide)
theorem pw_mono {i k:Nat}(h:i≤k):pw i≤pw k:=Nat.pow_le_pow_right (by decide) h
def val:List Nat→Nat
 | []=>0
 | x::xs=>x+4294967296*val xs
def Wf (xs:List Nat):Prop:=∀ x ∈ xs,x<4294967296
theorem Wf.nil:Wf []:=by intro x hx;cases hx
theorem Wf.cons {x:Nat}{xs:List Nat}(hx:x<4294967296) (h:Wf xs):Wf (x::xs):=by
 intro y hy;cases hy with
 | head=>exact hx
 | tail _ hy=>exact h y hy
theorem Wf.head {x:Nat}{xs:List Nat}(h:Wf (x::xs)):x<4294967296:=h x (by simp)
theorem Wf.tail {x:Nat}{xs:List Nat}(h:Wf (x::xs)):Wf xs:=fun y hy=>h y (by simp [hy])
theorem Wf.get {xs:List Nat}(h:Wf xs) (k:Nat):xs.getD k 0<4294967296:=by
 by_cases hk:k<xs.length
 · rw [List.getD_eq_getElem?_getD,List.getElem?_eq_getElem hk];exact h _ (List.getElem_mem hk)
 · rw [List.getD_eq_getElem?_getD,List.getElem?_eq_none (by omega)];decide
theorem Wf.take {xs:List Nat}(h:Wf xs) (k:Nat):Wf (xs.take k):=fun y hy=>h y (List.mem_of_mem_take hy)
theorem Wf.drop {xs:List Nat}(h:Wf xs) (k:Nat):Wf (xs.drop k):=fun y hy=>h y (List.mem_of_mem_drop hy)
theorem Wf.append {xs ys:List Nat}(h:Wf xs) (k:Wf ys):Wf (xs++ys):=by
 intro y hy;rcases List.mem_append.1 hy with hy | hy
 · exact h y hy
 · exact k y hy
theorem Wf.set {xs:List Nat}(h:Wf xs) (k x:Nat) (hx:x<4294967296):Wf (xs.set k x):=by
 intro y hy;rcases List.mem_or_eq_of_mem_set hy with hy | hy
 · exact h y hy
 · omega
theorem Wf.zeros (n:Nat):Wf (List.replicate n 0):=by intro y hy;have:=List.eq_of_mem_replicate hy;omega
theorem val_append (xs ys:List Nat):val (xs++ys)=val xs+pw xs.length*val ys:=by
 induction xs with
 | nil=>simp [val,pw_zero]
 | cons x xs ih=>simp only [List.cons_append,val,ih,List.length_cons,pw_succ];grind
theorem val_zeros (n:Nat):val (List.replicate n 0)=0:=by
 induction n with
 | zero=>rfl
 | succ n ih=>simp [List.replicate_succ,val,ih]
theorem val_take_succ (xs:List Nat) (k:Nat) (hk:k<xs.length):val (xs.take (k+1))=val (xs.take k)+pw k*xs.getD k 0:=by
 rw [List.take_succ_eq_append_getElem hk,val_append,List.length_take,Nat.min_eq_left (by omega),List.getD_eq_getElem?_getD,List.getElem?_eq_getElem hk]
 simp [val]
theorem val_take_drop (xs:List Nat) (k:Nat) (hk:k≤xs.length):val xs=val (xs.take k)+pw k*val (xs.drop k):=by
 have h:=val_append (xs.take k) (xs.drop k);rw [List.take_append_drop,List.length_take,Nat.min_eq_left hk] at h;exact h
theorem val_drop_succ (xs:List Nat) (k:Nat) (hk:k<xs.length):val (xs.drop k)=xs.getD k 0+4294967296*val (xs.drop (k+1)):=by
 rw [List.drop_eq_getElem_cons hk,val,List.getD_eq_getElem?_getD,List.getElem?_eq_getElem hk]
 rfl
theorem val_lt (xs:List Nat) (h:Wf xs):val xs<pw xs.length:=by
 induction xs with
 | nil=>simp [val,pw_zero]
 | cons x xs ih =>
   have h1:=ih h.tail;have h2:=h.head;simp only [val,List.length_cons,pw_succ];omega
def ws (n:Nat):List Nat:=if h:n=0 then [] else n%4294967296::ws (n/4294967296)
termination_by n
decreasing_by omega
theorem ws_zero:ws 0=[]:=by rw [ws];simp
theorem ws_pos (n:Nat) (h:n≠0):ws n=n%4294967296::ws (n/4294967296):=by rw [ws];simp [h]
theorem val_ws (n:Nat):val (ws n)=n:=by
 induction n using Nat.strongRecOn with
 | _ n ih =>
   by_cases h:n=0
   · subst h;simp [ws_zero,val]
   · rw [ws_pos n h,val,ih (n/4294967296) (by omega)];omega
theorem wf_ws (n:Nat):Wf (ws n):=by
 induction n using Nat.strongRecOn with
 | _ n ih =>
   by_cases h:n=0
   · subst h;rw [ws_zero];exact Wf.nil
   · rw [ws_pos n h];exact Wf.cons (by omega) (ih _ (by omega))
def nl:List Nat→Nat
 | []=>0
 | x::xs=>if nl xs=0∧x=0 then 0 else nl xs+1
theorem nl_le (xs:List Nat):nl xs≤xs.length:=by
 induction xs with
 | nil=>simp [nl]
 | cons x xs ih=>simp only [nl,List.length_cons];split <;> omega
theorem nl_zero_iff (xs:List Nat):nl xs=0↔val xs=0:=by
 induction xs with
 | nil=>simp [nl,val]
 | cons x xs ih=>simp only [nl,val];split <;> omega
theorem form_eq (xs:List Nat) (h:Wf xs):xs.take (nl xs)=ws (val xs):=by
 induction xs with
 | nil=>simp [nl,val,ws_zero]
 | cons x xs ih =>
   have h1:=ih h.tail;have h2:=h.head
   by_cases h3:nl xs=0∧x=0
   · have h4:=(nl_zero_iff xs).1 h3.1
     simp [nl,h3,val,h4,ws_zero]
   · have h5:val (x::xs)≠0:=by
      intro h6;simp only [val] at h6;exact h3 ⟨(nl_zero_iff xs).2 (by omega),by omega⟩
     rw [ws_pos _ h5];simp only [nl,if_neg h3,val,List.take_succ_cons];rw [show (x+4294967296*val xs)%4294967296=x by omega,show (x+4294967296*val xs)/4294967296=val xs by omega,h1]
theorem nl_eq_length (xs:List Nat) (h:Wf xs):nl xs=(ws (val xs)).length:=by
 rw [←form_eq xs h,List.length_take,Nat.min_eq_left (nl_le xs)]
theorem val_form (xs:List Nat) (h:Wf xs):val (xs.take (nl xs))=val xs:=by rw [form_eq xs h,val_ws]
theorem nl_ws (n:Nat):nl (ws n)=(ws n).length:=by rw [nl_eq_length _ (wf_ws n),val_ws]
theorem ws_len_le (n k:Nat):(ws n).length≤k↔n<pw k:=by
 constructor
 · intro h
   have h1:=val_lt (ws n) (wf_ws n);rw [val_ws] at h1;exact Nat.lt_of_lt_of_le h1 (pw_mono h)
 · intro h
   induction k generalizing n with
   | zero=>rw [pw_zero] at h;obtain rfl:n=0:=by omega
           simp [ws_zero]
   | succ k ih =>
     by_cases h0:n=0
     · subst h0;simp [ws_zero]
     · rw [ws_pos n h0,List.length_cons]
       rw [pw_succ] at h;have:=ih (n/4294967296) (by omega)
       omega
theorem ws_len_ge (n:Nat) (h:n≠0):pw ((ws n).length-1)≤n:=by
 have h1:¬ (ws n).length≤(ws n).length-1:=by
  have:(ws n).length≠0:=by rw [ws_pos n h];simp
  omega
 rw [ws_len_le] at h1;omega
theorem ws_len_lt (n:Nat):n<pw (ws n).length:=(ws_len_le n _).1 (Nat.le_refl _)
theorem ws_len_zero (n:Nat):(ws n).length=0↔n=0:=by
 constructor
 · intro h;have:=ws_len_lt n;rw [h,pw_zero] at this;omega
 · intro h;subst h;simp [ws_zero]
theorem nl_stop (xs:List Nat) (k:Nat) (hk:k≤xs.length) (h0:∀ j,k≤j→j<xs.length→xs.getD j 0=0) (h1:k=0∨xs.getD (k-1) 0≠0):nl xs=k:=by
 induction xs generalizing k with
 | nil=>simp at hk;simp [nl,hk]
 | cons x xs ih =>
   cases k with
   | zero =>
     have hx:=h0 0 (by omega) (by simp)
     have:nl xs=0:=ih 0 (by omega) (fun j _ hj=>by have:=h0 (j+1) (by omega) (by simp;omega);simpa using this) (.inl rfl)
     simp at hx;simp [nl,this,hx]
   | succ k =>
     cases k with
     | zero =>
       have:nl xs=0:=ih 0 (by omega) (fun j _ hj=>by have:=h0 (j+1) (by omega) (by simp;omega);simpa using this) (.inl rfl)
       simp at h1;simp [nl,this,h1]
     | succ k =>
       have:nl xs=k+1:=ih (k+1) (by simpa using hk) (fun j hj hj2=>by have:=h0 (j+1) (by omega) (by simp;omega);simpa using this) (.inr (by simpa using h1))
       simp [nl,this]
theorem nl_last (xs:List Nat) (h:nl xs≠0):xs.getD (nl xs-1) 0≠0:=by
 induction xs with
 | nil=>simp [nl] at h
 | cons x xs ih =>
   by_cases h1:nl xs=0
   · have hx:x≠0:=by intro hx;simp [nl,h1,hx] at h
     simp [nl,h1,hx]
   · have h2:¬ (nl xs=0∧x=0):=by omega
     have:=ih h1;simp only [nl,if_neg h2];obtain ⟨m,hm⟩:∃ m,nl xs=m+1:=⟨nl xs-1,by omega⟩
     rw [hm] at this ⊢;simpa using this
end
section
open Go.RowKit
theorem hid {p:Prop}(h:p):Hid p:=h
def U (n:Nat):Value:=.int .u32 (n:Int)
def Own (w:World) (g:Nat) (L:List Nat):Prop:=w.heap[g]?=some (.cells (L.map U).toArray 133 (0,0))
theorem Own.lt {w:World}{g:Nat}{L:List Nat}(h:Own w g L):g<w.heap.size:=(Array.getElem?_eq_some_iff.1 h).1
theorem Own.cell {w:World}{g:Nat}{L:List Nat}(h:Own w g L) (i:Nat) (hi:i<L.length):w.cell? ⟨g,i,none⟩=some (.int .u32 ((L.getD i 0:Nat):Int)):=by
 unfold Own at h;simp [World.cell?,h,U,hi]
theorem Own.frozen {w:World}{g:Nat}{L:List Nat}(h:Own w g L) (i:Nat):w.frozen? ⟨g,i,none⟩=false:=by
 unfold Own at h;simp [World.frozen?,h]
theorem Own.set {w:World}{g:Nat}{L:List Nat}(h:Own w g L) (i x:Nat):Own (w.setCell ⟨g,i,none⟩ (.int .u32 (x:Int))) g (L.set i x):=by
 unfold Own at h ⊢;simp only [World.setCell,Array.getElem?_modify,h];simp [U,List.map_set]
theorem Own.below {w w':World}{g B:Nat}{L:List Nat}(h:Own w g L) (hb:Below B w w') (hg:g<B):Own w' g L:=by
 unfold Own at h ⊢;rw [hb.block g hg];exact h
structure But (g:Nat) (w w':World):Prop where
 os:w'.os=w.os
 tape:w'.tape=w.tape
 output:w'.output=w.output
 size:w.heap.size≤w'.heap.size
 block:∀ k,k<w.heap.size→k≠g→w'.heap[k]?=w.heap[k]?
theorem But.refl (g:Nat) (w:World):But g w w:=⟨rfl,rfl,rfl,Nat.le_refl _,fun _ _ _=>rfl⟩
theorem But.trans {g:Nat}{a b c:World}(h:But g a b) (k:But g b c):But g a c :=
 ⟨k.os.trans h.os,k.tape.trans h.tape,k.output.trans h.output,Nat.le_trans h.size k.size,fun i hi hg=>(k.block i (Nat.lt_of_lt_of_le hi h.size) hg).trans (h.block i hi hg)⟩
theorem But.drew {g:Nat}{a w:World}(h:But g a w):But g a w.drew:=⟨h.os,h.tape,h.output,h.size,h.block⟩
theorem But.set {g:Nat}{a w:World}(h:But g a w) (i:Nat) (u:Value):But g a (w.setCell ⟨g,i,none⟩ u) :=
 h.trans ⟨rfl,rfl,rfl,by simp [World.setCell],fun k _ hk=>Below.heap_setCell _ _ _ _ hk⟩
theorem But.below {g B:Nat}{a w w':World}(h:Below B a w) (hb:But g w w') (hB:B≤w.heap.size) (hg:B≤g):Below B a w' :=
 h.trans ⟨hb.os,hb.tape,hb.output,hb.size,fun k hk=>hb.block k (by omega) (by omega)⟩
def Rd (B:Nat) (w:World) (ao:Option Addr) (xs:List Nat):Prop :=
 xs≠[]→∃ b off,b<B∧ao=some ⟨b,off,none⟩∧∀ i,i<xs.length→w.cell? ⟨b,off+i,none⟩=some (.int .u32 ((xs.getD i 0:Nat):Int))
theorem Rd.nil (B:Nat) (w:World) (ao:Option Addr):Rd B w ao []:=fun h=>absurd rfl h
theorem Rd.below {B:Nat}{w w':World}{ao:Option Addr}{xs:List Nat}(h:Rd B w ao xs) (hb:Below B w w'):Rd B w' ao xs:=by
 intro hx;obtain ⟨b,off,hlt,rfl,hc⟩:=h hx;exact ⟨b,off,hlt,rfl,fun i hi=>(hb.cell (p:=⟨b,off+i,none⟩) hlt).trans (hc i hi)⟩
theorem Rd.but {B g:Nat}{w w':World}{ao:Option Addr}{xs:List Nat}(h:Rd B w ao xs) (hb:But g w w') (hB:B≤w.heap.size) (hg:B≤g):Rd B w' ao xs :=
 h.below (But.below (Below.refl _ _) hb hB hg)
theorem Rd.mono {B B':Nat}{w:World}{ao:Option Addr}{xs:List Nat}(h:Rd B w ao xs) (hB:B≤B'):Rd B' w ao xs:=by
 intro hx;obtain ⟨b,off,hlt,rfl,hc⟩:=h hx;exact ⟨b,off,by omega,rfl,hc⟩
theorem Rd.take {B:Nat}{w:World}{ao:Option Addr}{xs:List Nat}(h:Rd B w ao xs) (k:Nat):Rd B w ao (xs.take k):=by
 intro hx;have hx':xs≠[]:=by intro e;subst e;simp at hx
 obtain ⟨b,off,hlt,rfl,hc⟩:=h hx';refine ⟨b,off,hlt,rfl,fun i hi=>?_⟩
 simp only [List.length_take] at hi;rw [hc i (by omega)]
 simp [List.getD_eq_getElem?_getD,show i<k by omega]
theorem Rd.ofOwn {w:World}{g:Nat}{L:List Nat}(h:Own w g L) (off n:Nat):Rd (g+1) w (some ⟨g,off,none⟩) ((L.drop off).take n):=by
 intro _;refine ⟨g,off,by omega,rfl,fun i hi=>?_⟩
 simp only [List.length_take,List.length_drop] at hi;rw [h.cell _ (by omega)]
 simp [List.getD_eq_getElem?_getD,show i<n by omega]
def Nt (lo:Nat) (w:World) (v:Value) (X:Nat):Prop:=w.ownsRow lo 133 1 v (ws X).length ((ws X).map U)
theorem Nt.nil (lo:Nat) (w:World):Nt lo w (.slice none 0 0) 0:=by
 unfold Nt;rw [ws_zero];exact World.ownsRow_nil _ _ _ _
theorem Nt.ofOwn {lo:Nat}{w:World}{g:Nat}{L:List Nat}(h:Own w g L) (hlo:lo≤g) (hL:Wf L) (hm:L.length≤maxLen) :
 Nt lo w (.slice (some ⟨g,0,none⟩) (nl L) L.length) (val L):=by
 unfold Nt;have e:=form_eq L hL;have hn:=nl_le L;rw [←e];refine ⟨by simp,.inr ⟨g,L.length,(L.map U).toArray,?_,hlo,h,?_,hm,by simp,by simp⟩⟩
 · simp [Nat.min_eq_left hn]
 · simp;omega
theorem Nt.shape {lo:Nat}{w:World}{v:Value}{X:Nat}(h:Nt lo w v X):∃ ao cap,v=.slice ao (ws X).length cap∧(ws X).length≤cap∧cap≤maxLen∧Rd w.heap.size w ao (ws X):=by
 rcases h.2 with ⟨rfl,h0⟩|⟨g,cap,cur,rfl,hlo,hg,hn,hm,hs,ht⟩
 · refine ⟨none,0,by rw [h0],by omega,by unfold maxLen;omega,?_⟩
   have:ws X=[]:=List.length_eq_zero_iff.1 h0;rw [this];exact Rd.nil _ _ _
 · refine ⟨_,cap,rfl,hn,hm,fun _=>⟨g,0,(Array.getElem?_eq_some_iff.1 hg).1,rfl,fun i hi=>?_⟩⟩
   have:=h.cells (g:=g) (by simp [Value.ownBlock]) i (U ((ws X).getD i 0)) (by simp [hi])
   have e:(⟨g,0,none⟩:Addr).add i=⟨g,0+i,none⟩:=by unfold Addr.add;split <;> simp_all
   rw [e] at this;simpa [U] using this
theorem Nt.below {lo:Nat}{w w':World}{v:Value}{X:Nat}(h:Nt lo w v X) (hb:Below w.heap.size w w'):Nt lo w' v X:=by
 refine ⟨h.1,?_⟩
 rcases h.2 with hn|⟨g,cap,cur,rfl,hlo,hg,rest⟩
 · exact .inl hn
 · refine .inr ⟨g,cap,cur,rfl,hlo,?_,rest⟩
   rw [hb.block g (Array.getElem?_eq_some_iff.1 hg).1];exact hg
theorem Nt.mono {lo lo':Nat}{w:World}{v:Value}{X:Nat}(h:Nt lo w v X) (hl:lo'≤lo):Nt lo' w v X:=by
 refine ⟨h.1,?_⟩
 rcases h.2 with hn|⟨g,cap,cur,rfl,hlo,rest⟩
 · exact .inl hn
 · exact .inr ⟨g,cap,cur,rfl,by omega,rest⟩
theorem Tryz.info133:(Tryz.prog.info? 133).map (fun i=>(i.zero,i.size,i.bytes))=some (some (.int .u32 0),1,4):=by kernel_rfl
end
section
open Go.RowKit
def Fs (B:Nat) (w:World) (ao:Option Addr) (xs:List Nat):Prop :=
 xs≠[]→∃ b off,b<B∧ao=some ⟨b,off,none⟩∧∀ i,i<xs.length→w.cell? ⟨b,off+i,none⟩=some (.float .f64 (xs.getD i 0))
theorem Fs.at {B:Nat}{w w':World}{ao:Option Addr}{xs:List Nat}(h:Fs B w ao xs) (hb:Below B w w') (i:Nat) (hi:i<xs.length):∃ b off,ao=some ⟨b,off,none⟩∧w'.cell? ⟨b,off+i,none⟩=some (.float .f64 (xs.getD i 0)):=by
 obtain ⟨b,off,h1,h2,h3⟩:=h (by intro e;subst e;simp at hi)
 exact ⟨b,off,h2,(hb.cell (p:=⟨b,off+i,none⟩) h1).trans (h3 i hi)⟩
theorem Fs.below {B:Nat}{w w':World}{ao:Option Addr}{xs:List Nat}(h:Fs B w ao xs) (hb:Below B w w'):Fs B w' ao xs:=by
 intro hne;obtain ⟨b,off,h1,h2,h3⟩:=h hne;exact ⟨b,off,h1,h2,fun i hi=>(hb.cell (p:=⟨b,off+i,none⟩) h1).trans (h3 i hi)⟩
theorem Fs.mono {B B':Nat}{w:World}{ao:Option Addr}{xs:List Nat}(h:Fs B w ao xs) (hb:B≤B'):Fs B' w ao xs:=by
 intro hne;obtain ⟨b,off,h1,h2,h3⟩:=h hne;exact ⟨b,off,Nat.lt_of_lt_of_le h1 hb,h2,h3⟩
theorem Fs.cell {B:Nat}{w w':World}{b off:Nat}{xs:List Nat}(h:Fs B w (some ⟨b,off,none⟩) xs) (hb:Below B w w') (i:Nat) (hi:i<xs.length):w'.cell? ⟨b,off+i,none⟩=some (.float .f64 (xs.getD i 0)):=by
 obtain ⟨b',off',e,hc⟩:=h.at hb i hi
 cases e
 exact hc
def W64 (xs:List Nat):Prop:=∀ x ∈ xs,x<18446744073709551616
theorem W64.get {xs:List Nat}(h:W64 xs) (i:Nat):xs.getD i 0<18446744073709551616:=by
 by_cases hi:i<xs.length
 · rw [List.getD_eq_getElem?_getD,List.getElem?_eq_getElem hi];exact h _ (List.getElem_mem hi)
 · rw [List.getD_eq_getElem?_getD,List.getElem?_eq_none (by omega)];simp
end
section
open Go.RowKit
theorem trim_any (xs:List Nat) (ao:Option Addr) (n cap B:Nat) (w:World) (hn:n=xs.length) (hc:n≤cap) (hm:n≤9223372036854775807) (hR:Rd B w ao xs) :
 Calls Tryz.prog 150 #[.slice ao n cap] w fun r w'=>r=.returned (.slice ao (nl xs) cap)∧w'=w:=by
 by_cases hx:xs=[]
 · subst hx
   simp at hn;subst hn;go_enter Tryz.func150,Tryz.ntmps150;go_wp2
   go_loopg [0] 0 (fun g s wr=>s=.slice ao 0 cap∧wr=w)
   case atStart=>exact ⟨rfl,rfl⟩
   case round =>
    obtain ⟨rfl,rfl⟩:=hrel;go_wp2;go_ret;exact ⟨rfl,rfl⟩
 · obtain ⟨b,off,hB,rfl,hcell⟩:=hR hx
   have HN:Aside (n=xs.length):=hn;clear hn hR hx;go_enter Tryz.func150,Tryz.ntmps150;go_wp2
   go_loopg [0] n (fun g s wr=>g≤n∧s=.slice (some ⟨b,off,none⟩) g cap∧wr=w∧Aside (∀ j,g≤j→j<n→xs.getD j 0=0))
   case atStart=>exact ⟨Nat.le_refl _,rfl,rfl,fun j h1 h2=>by omega⟩
   case round =>
    obtain ⟨hk,rfl,rfl,hz⟩:=hrel
    by_cases hk0:gk=0
    · subst hk0
      go_wp2;go_ret;rw [nl_stop xs 0 (by omega) (fun j h1 h2=>hz.out j h1 (by have:=HN.out;omega)) (.inl rfl)]
      exact ⟨rfl,rfl⟩
    · obtain ⟨k,rfl⟩:∃ k,gk=k+1:=⟨gk-1,by omega⟩
      have hcx:=hcell k (by have:=HN.out;omega)
      obtain ⟨x,hxx⟩:∃ x:Nat,xs.getD k 0=x:=⟨_,rfl⟩;rw [hxx] at hcx;have HX:Aside (xs.getD k 0=x):=hxx;clear hxx hcell hk0
      by_cases h0:x=0
      · subst h0
        go_wp2
        go_roundg k
        case measure=>omega
        case rel =>
         refine ⟨by omega,rfl,rfl,fun j h1 h2=>?_⟩
         by_cases hj:j=k
         · subst hj;exact HX.out
         · exact hz.out j (by omega) h2
      · go_wp2
        go_ret;rw [nl_stop xs (k+1) (by have:=HN.out;omega) (fun j h1 h2=>hz.out j h1 (by have:=HN.out;omega)) (.inr (by have:=HX.out;rw [Nat.add_sub_cancel,this];exact h0))]
        exact ⟨rfl,rfl⟩
theorem size_any (xs:List Nat) (ao:Option Addr) (n cap B:Nat) (w:World) (hn:n=xs.length) (hm:n≤9223372036854775807) (hR:Rd B w ao xs) :
 Calls Tryz.prog 123 #[.slice ao n cap] w fun r w'=>r=.returned (.int .i64 (nl xs:Nat))∧w'=w:=by
 by_cases hx:xs=[]
 · subst hx
   simp at hn;subst hn;go_enter Tryz.func123,Tryz.ntmps123;go_wp2
   go_loopg [3] 0 (fun g s wr=>s=.int .i64 0∧wr=w)
   case atStart=>exact ⟨rfl,rfl⟩
   case round =>
    obtain ⟨rfl,rfl⟩:=hrel;go_wp2;go_ret;exact ⟨rfl,rfl⟩
 · obtain ⟨b,off,hB,rfl,hcell⟩:=hR hx
   have HN:Aside (n=xs.length):=hn;clear hn hR hx;go_enter Tryz.func123,Tryz.ntmps123;go_wp2
   go_loopg [3] n (fun g s wr=>g≤n∧s=.int .i64 (g:Nat)∧wr=w∧Aside (∀ j,g≤j→j<n→xs.getD j 0=0))
   case atStart=>exact ⟨Nat.le_refl _,rfl,rfl,fun j h1 h2=>by omega⟩
   case round =>
    obtain ⟨hk,rfl,rfl,hz⟩:=hrel
    by_cases hk0:gk=0
    · subst hk0
      go_wp2;go_ret;rw [nl_stop xs 0 (by omega) (fun j h1 h2=>hz.out j h1 (by have:=HN.out;omega)) (.inl rfl)]
      exact ⟨rfl,rfl⟩
    · obtain ⟨k,rfl⟩:∃ k,gk=k+1:=⟨gk-1,by omega⟩
      have hcx:=hcell k (by have:=HN.out;omega)
      obtain ⟨x,hxx⟩:∃ x:Nat,xs.getD k 0=x:=⟨_,rfl⟩;rw [hxx] at hcx;have HX:Aside (xs.getD k 0=x):=hxx;clear hxx hcell hk0
      by_cases h0:x=0
      · subst h0
        go_wp2
        go_roundg k
        case measure=>omega
        case rel =>
         refine ⟨by omega,by go_num,rfl,fun j h1 h2=>?_⟩
         by_cases hj:j=k
         · subst hj;exact HX.out
         · exact hz.out j (by omega) h2
      · go_wp2
        go_ret;rw [nl_stop xs (k+1) (by have:=HN.out;omega) (fun j h1 h2=>hz.out j h1 (by have:=HN.out;omega)) (.inr (by have:=HX.out;rw [Nat.add_sub_cancel,this];exact h0))]
        exact ⟨rfl,rfl⟩
end
section
open Go.RowKit
theorem wrap_u32n (n:Int):IntKind.u32.wrap n=n%4294967296:=by simp [IntKind.wrap,IntKind.signed,IntKind.bits]
theorem ofInt32 (a:Nat) (ha:a<4294967296):(BitVec.ofInt 32 (a:Int)).toNat=a:=by
 rw [BitVec.ofInt_natCast,BitVec.toNat_ofNat];exact Nat.mod_eq_of_lt (by omega)
theorem and32 (a b:Nat) (ha:a<4294967296) (hb:b<4294967296):bits .and .u32 (a:Int) (b:Int)=((a &&& b:Nat):Int):=by
 have hx:a &&& b<2^32:=Nat.and_lt_two_pow _ (by omega)
 show IntKind.u32.wrap ((BitVec.ofInt 32 (a:Int) &&& BitVec.ofInt 32 (b:Int)).toNat:Int)=_
 rw [BitVec.toNat_and,ofInt32 a ha,ofInt32 b hb,wrap_u32n];omega
theorem or32 (a b:Nat) (ha:a<4294967296) (hb:b<4294967296):bits .or .u32 (a:Int) (b:Int)=((a ||| b:Nat):Int):=by
 have hx:a ||| b<2^32:=Nat.or_lt_two_pow (by omega) (by omega)
 show IntKind.u32.wrap ((BitVec.ofInt 32 (a:Int) ||| BitVec.ofInt 32 (b:Int)).toNat:Int)=_
 rw [BitVec.toNat_or,ofInt32 a ha,ofInt32 b hb,wrap_u32n];omega
end
section
open Go.RowKit
theorem long_any (n:Nat) (ao:Option Addr) (cap:Nat) (w:World) :
 Calls Tryz.prog 187 #[.slice ao n cap] w fun r w'=>r=.returned (.bool (decide ((8192:Int)<(n:Int))))∧w'=w:=by
 go_enter Tryz.func187,Tryz.ntmps187;go_wp2;go_ret;exact ⟨rfl,rfl⟩
theorem unlessLong_any (n:Nat) (ao:Option Addr) (cap:Nat) (w:World) :
 Calls Tryz.prog 188 #[.slice ao n cap] w fun r w'=>r=.returned (if 8192<n then .tuple #[.slice none 0 0,.int .i64 2] else .tuple #[.slice ao n cap,.int .i64 0])∧w'=w:=by
 by_cases h:8192<n
 · rw [if_pos h]
   have hl:=long_any n ao cap;have h':(8192:Int)<(n:Int):=by omega
   simp only [h',decide_true] at hl;have H:Hid (∀ w,_):=hl;clear hl;go_enter Tryz.func188,Tryz.ntmps188
   go_wp2_with fail
   refine (H.out _).mono ?_;rintro r w1 ⟨rfl,rfl⟩;go_wp2
   go_ret2
   exact ⟨rfl,rfl⟩
 · rw [if_neg h]
   have hl:=long_any n ao cap;have h':¬ (8192:Int)<(n:Int):=by omega
   simp only [h',decide_false] at hl;have H:Hid (∀ w,_):=hl;clear hl;go_enter Tryz.func188,Tryz.ntmps188
   go_wp2_with fail
   refine (H.out _).mono ?_;rintro r w1 ⟨rfl,rfl⟩;go_wp2
   go_ret2
   exact ⟨rfl,rfl⟩
def cmpI (x y:Nat):Int:=if x<y then -1 else if y<x then 1 else 0
end
section
def sg (L:List Nat) (off k:Nat):Nat:=val ((L.drop off).take k)
theorem sg_zero (L:List Nat) (off:Nat):sg L off 0=0:=by simp [sg,val]
theorem sg_succ (L:List Nat) (off k:Nat) (h:off+k<L.length):sg L off (k+1)=sg L off k+pw k*L.getD (off+k) 0:=by
 unfold sg;rw [val_take_succ _ _ (by simp;omega)]
 simp [List.getD_eq_getElem?_getD]
theorem sg_front (L:List Nat) (off k:Nat) (h:off<L.length):sg L off (k+1)=L.getD off 0+4294967296*sg L (off+1) k:=by
 unfold sg;rw [List.drop_eq_getElem_cons h,List.take_succ_cons,val,List.getD_eq_getElem?_getD,List.getElem?_eq_getElem h]
 rfl
theorem sg_all (L:List Nat):sg L 0 L.length=val L:=by simp [sg]
theorem sg_add (L:List Nat) (off k m:Nat) (h:off+k+m≤L.length):sg L off (k+m)=sg L off k+pw k*sg L (off+k) m:=by
 induction m with
 | zero=>simp [sg_zero]
 | succ m ih =>
   rw [←Nat.add_assoc,sg_succ L off (k+m) (by omega),sg_succ L (off+k) m (by omega),ih (by omega),pw_add,Nat.mul_add,←Nat.add_assoc off k m]
   simp only [Nat.mul_assoc,Nat.add_assoc]
theorem sg_congr (L M:List Nat) (off k:Nat) (hl:M.length=L.length) (h:off+k≤L.length) (he:∀ j,off≤j→j<off+k→M.getD j 0=L.getD j 0):sg M off k=sg L off k:=by
 induction k with
 | zero=>simp [sg_zero]
 | succ k ih=>rw [sg_succ M off k (by omega),sg_succ L off k (by omega),ih (by omega) (fun j h1 h2=>he j h1 (by omega)),he (off+k) (by omega) (by omega)]
theorem getD_set (L:List Nat) (i j x:Nat):(L.set i x).getD j 0=if i=j∧j<L.length then x else L.getD j 0:=by
 simp only [List.getD_eq_getElem?_getD,List.getElem?_set]
 by_cases h:i=j
 · subst h
   by_cases h2:i<L.length
   · simp [h2]
   · simp [h2]
 · simp [h]
theorem getD_set_same (L:List Nat) (i x:Nat) (h:i<L.length):(L.set i x).getD i 0=x:=by rw [getD_set,if_pos ⟨rfl,h⟩]
theorem getD_set_ne (L:List Nat) (i j x:Nat) (h:i≠j):(L.set i x).getD j 0=L.getD j 0:=by rw [getD_set,if_neg (fun e=>h e.1)]
theorem sg_set_above (L:List Nat) (off k i x:Nat) (h:off+k≤i) (hl:off+k≤L.length):sg (L.set i x) off k=sg L off k :=
 sg_congr L _ off k (by simp) hl (fun j _ h2=>getD_set_ne _ _ _ _ (by omega))
theorem sg_set_last (L:List Nat) (off k x:Nat) (h:off+k<L.length):sg (L.set (off+k) x) off (k+1)=sg L off k+pw k*x:=by
 rw [sg_succ _ _ _ (by simp;omega),getD_set_same _ _ _ h,sg_set_above _ _ _ _ _ (by omega) (by omega)]
theorem sg_lt (L:List Nat) (off k:Nat) (hw:Wf L) (h:off+k≤L.length):sg L off k<pw k:=by
 have:=val_lt _ ((hw.drop off).take k);simp only [List.length_take,List.length_drop] at this;rw [Nat.min_eq_left (by omega)] at this
 exact this
theorem sg_val_take (L:List Nat) (k:Nat):sg L 0 k=val (L.take k):=by simp [sg]
theorem getD_zeros (n i:Nat):(List.replicate n 0).getD i 0=0:=by
 simp only [List.getD_eq_getElem?_getD,List.getElem?_replicate];split <;> rfl
theorem sg_zeros (n off k:Nat):sg (List.replicate n 0) off k=0:=by
 unfold sg;rw [List.drop_replicate,List.take_replicate,val_zeros]
def Out (L M:List Nat) (off n:Nat):Prop:=M.length=L.length∧∀ j,(j<off∨off+n≤j)→M.getD j 0=L.getD j 0
theorem Out.refl (L:List Nat) (off n:Nat):Out L L off n:=⟨rfl,fun _ _=>rfl⟩
theorem Out.set {L M:List Nat}{off n:Nat}(h:Out L M off n) (i x:Nat) (h1:off≤i) (h2:i<off+n):Out L (M.set i x) off n :=
 ⟨by simp [h.1],fun j hj=>by rw [getD_set_ne _ _ _ _ (by omega)];exact h.2 j hj⟩
theorem Out.mono {L M:List Nat}{off n k:Nat}(h:Out L M off n) (hk:n≤k):Out L M off k:=⟨h.1,fun j hj=>h.2 j (by omega)⟩
theorem Out.below {L M:List Nat}{off n:Nat}(h:Out L M off n) (a k:Nat) (h1:a+k≤off) (h2:a+k≤L.length):sg M a k=sg L a k:=sg_congr L M a k h.1 h2 (fun j _ hj=>h.2 j (by omega))
theorem carry_step (p a b V c x y s d:Nat) (h:V+c*p=a+b) (e:s+d*4294967296=x+y+c):V+p*s+d*(4294967296*p)=(a+p*x)+(b+p*y):=by
 have:p*(s+d*4294967296)=p*(x+y+c):=by rw [e]
 grind
theorem times_step (p a b V c x y q s d:Nat) (h:V+c*p=a+b*q) (e:s+d*4294967296=y*q+x+c):V+p*s+d*(4294967296*p)=(a+p*x)+(b+p*y)*q:=by
 have:p*(s+d*4294967296)=p*(y*q+x+c):=by rw [e]
 grind
theorem mul_bound (x y:Nat) (hx:x<4294967296) (hy:y<4294967296):x*y≤18446744065119617025:=by
 have:x*y≤4294967295*4294967295:=Nat.mul_le_mul (by omega) (by omega)
 omega
theorem borrow_step (p a b V c x y s d:Nat) (h:V+b=a+c*p) (e:s+y+c=x+d*4294967296):V+p*s+(b+p*y)=(a+p*x)+d*(4294967296*p):=by
 have:p*(s+y+c)=p*(x+d*4294967296):=by rw [e]
 grind
end
section
open Go.RowKit
theorem or64_join (l x:Nat) (hl:l<4294967296) (hx:x<4294967296):bits BinOp.or IntKind.u64 ((l:Int)*4294967296) (x:Int)=((l*4294967296+x:Nat):Int):=by
 have e:((l:Int)*4294967296)=((l*4294967296:Nat):Int):=by simp only [Int.natCast_mul];rfl
 rw [e,bits_or_u64_nat _ _ (by omega) (by omega)]
 have:=Nat.two_pow_add_eq_or_of_lt (i:=32) (b:=x) (by omega) l
 have e2:2^32*l=l*4294967296:=by rw [Nat.mul_comm]
 rw [e2] at this;rw [this]
end
section
open Go.RowKit
theorem two_pow_rest (rest:Nat) (h:rest<32):2^rest*2^(32-rest)=4294967296:=by
 rw [←Nat.pow_add,show rest+(32-rest)=32 by omega]
theorem or_low (x y rest:Nat) (hr:rest<32) (hx:x<2^rest):x ||| (y*2^rest%4294967296)=x+y*2^rest%4294967296:=by
 have e:y*2^rest%4294967296=2^rest*(y%2^(32-rest)):=by
  rw [←two_pow_rest rest hr,Nat.mul_comm y,Nat.mul_mod_mul_left]
 rw [e,Nat.or_comm,←Nat.two_pow_add_eq_or_of_lt hx,Nat.add_comm]
theorem up_top (y rest:Nat) (hy:y<4294967296):y*2^rest/4294967296<2^rest:=by
 rw [Nat.div_lt_iff_lt_mul (by decide),Nat.mul_comm]
 exact Nat.mul_lt_mul_of_pos_left hy (Nat.two_pow_pos _)
theorem two_pow_lt (rest:Nat) (h:rest<32):2^rest≤2147483648:=by
 have:2^rest≤2^31:=Nat.pow_le_pow_right (by decide) (by omega)
 omega
theorem up_lt (y rest:Nat) (hy:y<4294967296) (hr:rest<32):y*2^rest<18446744073709551616:=by
 have h:=two_pow_lt rest hr;have:y*2^rest≤4294967295*2147483648:=Nat.mul_le_mul (by omega) h
 omega
theorem wrap_u64n (n:Int) (h0:0≤n) (h1:n<18446744073709551616):IntKind.u64.wrap n=n:=by
 rw [IntKind.wrap_u64];omega
theorem pw_two (words rest:Nat):2^(32*words+rest)=pw words*2^rest:=by
 rw [Nat.pow_add,Nat.pow_mul];rfl
theorem up_step (p S x t q b s d y r:Nat) (hS:S+p*x=b*r) (ht:t=y*r) (hs:s=x+t%4294967296) (hd:d=t/4294967296):S+p*s+4294967296*p*d=(b+p*y)*r:=by
 have e:t%4294967296+4294967296*d=t:=by rw [hd];exact Nat.mod_add_div _ _
 have e2:p*s+4294967296*p*d=p*x+p*t:=by
  have:p*(s+4294967296*d)=p*(x+t):=by rw [hs];congr 1;omega
  grind
 have e3:(b+p*y)*r=b*r+p*t:=by rw [ht];grind
 omega
end
section
open Go.RowKit
def Wb (w:World) (g:Nat) (L:List Nat):Prop:=w.heap[g]?=some (.cells (L.map U).toArray 135 (0,0))
theorem Wb.lt {w:World}{g:Nat}{L:List Nat}(h:Wb w g L):g<w.heap.size:=(Array.getElem?_eq_some_iff.1 h).1
theorem Wb.cell {w:World}{g:Nat}{L:List Nat}(h:Wb w g L) (i:Nat) (hi:i<L.length):w.cell? ⟨g,i,none⟩=some (.int .u32 ((L.getD i 0:Nat):Int)):=by
 unfold Wb at h;simp only [World.cell?,h];simp [U,List.getD_eq_getElem?_getD,List.getElem?_eq_getElem hi]
theorem Wb.frozen {w:World}{g:Nat}{L:List Nat}(h:Wb w g L) (i:Nat):w.frozen? ⟨g,i,none⟩=false:=by
 unfold Wb at h;simp [World.frozen?,h]
theorem Wb.set {w:World}{g:Nat}{L:List Nat}(h:Wb w g L) (i x:Nat):Wb (w.setCell ⟨g,i,none⟩ (.int .u32 (x:Int))) g (L.set i x):=by
 unfold Wb at h ⊢;simp [World.setCell,Array.getElem?_modify,h,List.map_set,U]
theorem Wb.drew {w:World}{g:Nat}{L:List Nat}(h:Wb w g L):Wb w.drew g L:=h
def PB:Nat:=pw 133
theorem PB_pos:0<PB:=pw_pos 133
attribute [irreducible] PB
theorem val_lt_PB {L:List Nat}(hl:L.length=133) (hw:Wf L):val L<PB:=by
 have:=val_lt L hw;rw [hl] at this;unfold PB;exact this
theorem val_set (L:List Nat) (i x:Nat) (h:i<L.length):val (L.set i x)+L.getD i 0*pw i=val L+x*pw i:=by
 have h1:=val_take_drop L i (Nat.le_of_lt h);have h2:=val_take_drop (L.set i x) i (by simp;omega)
 rw [val_drop_succ L i h] at h1;rw [val_drop_succ (L.set i x) i (by simp;omega),getD_set_same _ _ _ h] at h2
 have e1:(L.set i x).take i=L.take i:=by rw [List.take_set];exact List.set_eq_of_length_le (by simp;omega)
 have e2:(L.set i x).drop (i+1)=L.drop (i+1):=by rw [List.drop_set,if_pos (by omega)]
 rw [e1,e2] at h2;rw [h2,h1]
 grind
theorem add_step (M:List Nat) (i c T s d:Nat) (h:i<M.length) (e:s+d*4294967296=c+M.getD i 0) (hT:val M+c*pw i=T):val (M.set i s)+d*pw (i+1)=T:=by
 have h1:=val_set M i s h;rw [pw_succ];have e2:(s+d*4294967296)*pw i=(c+M.getD i 0)*pw i:=by rw [e]
 rw [Nat.add_mul,Nat.add_mul,Nat.mul_assoc] at e2;omega
theorem take_step (M:List Nat) (i c T R s lo hi b:Nat) (h:i<M.length) (e:s+lo=M.getD i 0+b*4294967296) (hc:c=lo+hi*4294967296) (hT:val M+T=R+c*pw i):val (M.set i s)+T=R+(hi+b)*pw (i+1):=by
 have h1:=val_set M i s h;rw [pw_succ];have e2:(s+lo)*pw i=(M.getD i 0+b*4294967296)*pw i:=by rw [e]
 have e3:c*pw i=(lo+hi*4294967296)*pw i:=by rw [hc]
 rw [Nat.add_mul,Nat.add_mul,Nat.mul_assoc] at e2;rw [Nat.add_mul,Nat.mul_assoc] at e3;rw [Nat.add_mul];omega
theorem pw_pow (i:Nat):pw i=2^(32*i):=by unfold pw;rw [Nat.pow_mul]
theorem place_split (n p:Nat):n*2^(p%32)*pw (p/32)=n*2^p:=by
 rw [pw_pow,Nat.mul_assoc,←Nat.pow_add,Nat.mod_add_div]
theorem add_end (M:List Nat) (c T:Nat) (hl:M.length=133) (hw:Wf M) (h:val M+c*pw 133=T):val M=T%PB:=by
 have:=val_lt_PB hl hw;have e:pw 133=PB:=by unfold PB;rfl
 rw [←h,e,Nat.mul_comm,Nat.add_mul_mod_self_left,Nat.mod_eq_of_lt this]
theorem take_end (M:List Nat) (c T R:Nat) (hl:M.length=133) (hw:Wf M) (h:val M+T=R+c*pw 133):(val M:Int)=((R:Int)-(T:Int))%(PB:Int):=by
 have h1:=val_lt_PB hl hw;have e:pw 133=PB:=by unfold PB;rfl
 rw [e] at h
 have h2:(R:Int)-(T:Int)=(val M:Int)+(PB:Int)*(-(c:Int)):=by
  have:((val M+T:Nat):Int)=((R+c*PB:Nat):Int):=by rw [h]
  simp only [Int.natCast_add,Int.natCast_mul] at this;rw [Int.mul_neg,Int.mul_comm];omega
 rw [h2,Int.add_mul_emod_self_left,Int.emod_eq_of_lt (by omega) (by omega)]
end
section
open Go.RowKit
theorem shl_small (n q:Nat) (hn:n<4294967296) (hq:q<32):n*2^q<9223372036854775808:=by
 have h1:2^q≤2147483648:=by
  have:=Nat.pow_le_pow_right (n:=2) (by decide) (show q≤31 by omega)
  simpa using this
 calc n*2^q≤4294967295*2147483648:=Nat.mul_le_mul (by omega) h1
  _<_:=by decide
theorem shl_wrap (n p:Nat) (hn:n<4294967296):IntKind.u64.wrap ((n:Int)*2^(p%32))=((n*2^(p%32):Nat):Int):=by
 have h1:=shl_small n (p%32) hn (Nat.mod_lt _ (by decide))
 have e:((n:Int)*2^(p%32))=((n*2^(p%32):Nat):Int):=by simp
 rw [e];exact wrap_u64n _ (by omega) (by omega)
theorem wadd_any (L:List Nat) (g n p:Nat) (w:World) (hW:Wb w g L) (hl:L.length=133) (hL:Wf L) (hn:n<4294967296) (hp:p<4256) :
 Calls Tryz.prog 201 #[.pointer (some ⟨g,0,none⟩),.int .u32 (n:Nat),.int .i64 (p:Nat)] w fun r w' =>
  r=.returned (.tuple #[])∧∃ M,Wb w' g M∧M.length=133∧Wf M∧val M=(val L+n*2^p)%PB∧But g w w':=by
 have HR:Aside (Wf L∧L.length=133):=⟨hL,hl⟩;have HO:Hid (Wb w g L):=hW;clear hL hW hl;go_enter Tryz.func201,Tryz.ntmps201;go_wp2
 go_loopg [6,7] 133 (fun k c i wr=>∃ (cv iv:Nat) (M:List Nat),133≤k+iv∧iv≤133∧c=.int .u64 (cv:Nat)∧cv<9223372036854775808∧i=.int .i64 (iv:Nat) ∧
  Hid (Wb wr g M)∧Aside (Wf M∧M.length=133∧val M+cv*pw iv=val L+n*2^p∧But g w wr))
 case atStart =>
  exact ⟨n*2^(p%32),p/32,L,by omega,by omega,by rw [shl_wrap n p hn],shl_small n _ hn (Nat.mod_lt _ (by decide)),by simp,HO,HR.out.1,HR.out.2,by rw [place_split],But.refl _ _⟩
 case round =>
  obtain ⟨cv,iv,M,hk,hi,rfl,hcv,rfl,HM,HA⟩:=hrel
  by_cases h1:iv=133
  · subst h1
    go_wp2;refine bodyPost_end (v:=.tuple #[]) (by simp [results,Tryz.results201,go_sem]) rfl ?_
    obtain ⟨hMw,hMl,hMs,hbut⟩:=HA.out;exact ⟨rfl,M,HM.out,hMl,hMw,add_end M cv _ hMl hMw hMs,hbut⟩
  by_cases h2:cv=0
  · subst h2
    have h3:(iv:Int)<133:=by omega
    go_wp2;refine bodyPost_end (v:=.tuple #[]) (by simp [results,Tryz.results201,go_sem]) rfl ?_
    obtain ⟨hMw,hMl,hMs,hbut⟩:=HA.out;exact ⟨rfl,M,HM.out,hMl,hMw,add_end M 0 _ hMl hMw (by rw [←hMs];simp),hbut⟩
  · have h3:iv<133:=by omega
    have h4:0<cv:=by omega
    obtain ⟨hMw,hMl,hMs,hbut⟩:=HA.out;have hgc:=HM.out.cell iv (by omega)
    have hgf:=HM.out.frozen iv;obtain ⟨x,hx⟩:∃ x:Nat,M.getD iv 0=x:=⟨_,rfl⟩;have hxl:x<4294967296:=hx ▸ hMw.get _;rw [hx] at hgc;have HX:Aside (M.getD iv 0=x):=hx;clear hx hMw hMl hMs hbut h1 h2;obtain ⟨k,rfl⟩:∃ k,gk=k+1:=⟨gk-1,by omega⟩
    go_wp2
    go_roundg k
    case measure=>omega
    case rel =>
     obtain ⟨hMw,hMl,hMs,hbut⟩:=HA.out;have e1:((cv:Int)+(x:Int))%4294967296=(((cv+x)%4294967296:Nat):Int):=by omega
     have e2:((cv:Int)+(x:Int))/4294967296=(((cv+x)/4294967296:Nat):Int):=by omega
     rw [e1];exact ⟨(cv+x)/4294967296,iv+1,M.set iv ((cv+x)%4294967296),by omega,by omega,by rw [e2],by omega,by simp,HM.out.set iv _,hMw.set _ _ (Nat.mod_lt _ (by decide)),by simp [hMl],add_step M iv cv _ _ _ (by omega) (by rw [HX.out];omega) hMs,hbut.set iv _⟩
theorem wtake_any (L:List Nat) (g n p:Nat) (w:World) (hW:Wb w g L) (hl:L.length=133) (hL:Wf L) (hn:n<4294967296) (hp:p<4256) :
 Calls Tryz.prog 200 #[.pointer (some ⟨g,0,none⟩),.int .u32 (n:Nat),.int .i64 (p:Nat)] w fun r w' =>
  r=.returned (.tuple #[])∧∃ M,Wb w' g M∧M.length=133∧Wf M∧(val M:Int)=((val L:Int)-((n*2^p:Nat):Int))%(PB:Int)∧But g w w':=by
 have HR:Aside (Wf L∧L.length=133):=⟨hL,hl⟩;have HO:Hid (Wb w g L):=hW;clear hL hW hl;go_enter Tryz.func200,Tryz.ntmps200;go_wp2
 go_loopg [6,7] 133 (fun k c i wr=>∃ (cv iv:Nat) (M:List Nat),133≤k+iv∧iv≤133∧c=.int .u64 (cv:Nat)∧cv<9223372036854775808∧i=.int .i64 (iv:Nat) ∧
  Hid (Wb wr g M)∧Aside (Wf M∧M.length=133∧val M+n*2^p=val L+cv*pw iv∧But g w wr))
 case atStart =>
  exact ⟨n*2^(p%32),p/32,L,by omega,by omega,by rw [shl_wrap n p hn],shl_small n _ hn (Nat.mod_lt _ (by decide)),by simp,HO,HR.out.1,HR.out.2,by rw [place_split],But.refl _ _⟩
 case round =>
  obtain ⟨cv,iv,M,hk,hi,rfl,hcv,rfl,HM,HA⟩:=hrel
  by_cases h1:iv=133
  · subst h1
    go_wp2;refine bodyPost_end (v:=.tuple #[]) (by simp [results,Tryz.results200,go_sem]) rfl ?_
    obtain ⟨hMw,hMl,hMs,hbut⟩:=HA.out;exact ⟨rfl,M,HM.out,hMl,hMw,take_end M cv _ _ hMl hMw hMs,hbut⟩
  by_cases h2:cv=0
  · subst h2
    have h3:(iv:Int)<133:=by omega
    go_wp2;refine bodyPost_end (v:=.tuple #[]) (by simp [results,Tryz.results200,go_sem]) rfl ?_
    obtain ⟨hMw,hMl,hMs,hbut⟩:=HA.out;exact ⟨rfl,M,HM.out,hMl,hMw,take_end M 0 _ _ hMl hMw (by rw [hMs];simp),hbut⟩
  · have h3:iv<133:=by omega
    have h4:0<cv:=by omega
    obtain ⟨hMw,hMl,hMs,hbut⟩:=HA.out;have hgc:=HM.out.cell iv (by omega)
    have hgf:=HM.out.frozen iv;obtain ⟨x,hx⟩:∃ x:Nat,M.getD iv 0=x:=⟨_,rfl⟩;have hxl:x<4294967296:=hx ▸ hMw.get _;rw [hx] at hgc;obtain ⟨lo,hlo⟩:∃ lo:Nat,cv%4294967296=lo:=⟨_,rfl⟩;obtain ⟨hi',hhi⟩:∃ hi':Nat,cv/4294967296=hi':=⟨_,rfl⟩;have e1:(cv:Int)%4294967296=(lo:Int):=by omega
    have e2:(cv:Int)/4294967296=(hi':Int):=by omega
    have b1:lo<4294967296:=by omega
    have b2:hi'<2147483648:=by omega
    have HX:Aside (M.getD iv 0=x∧cv=lo+hi'*4294967296):=⟨hx,by omega⟩
    clear hx hMw hMl hMs hbut h1 h2 hlo hhi;obtain ⟨k,rfl⟩:∃ k,gk=k+1:=⟨gk-1,by omega⟩
    by_cases hlt:x<lo
    · have h5:decide (x<lo)=true:=by simp [hlt]
      go_wp2
      go_region
      all_goals (
       go_wp2
       go_roundg k
       case measure=>omega
       case rel =>
        obtain ⟨hMw,hMl,hMs,hbut⟩:=HA.out;have e3:((x:Int)-(lo:Int))%4294967296=((x+4294967296-lo:Nat):Int):=by omega
        rw [e3];exact ⟨hi'+1,iv+1,M.set iv (x+4294967296-lo),by omega,by omega,by simp,by omega,by simp,(HM.out.set iv _).drew,hMw.set _ _ (by omega),by simp [hMl],take_step M iv cv _ _ _ lo hi' 1 (by omega) (by rw [HX.out.1];omega) HX.out.2 hMs,(hbut.set iv _).drew⟩)
    · have h5:decide (x<lo)=false:=by simp [hlt]
      go_wp2
      go_region
      all_goals (
       go_wp2
       go_roundg k
       case measure=>omega
       case rel =>
        obtain ⟨hMw,hMl,hMs,hbut⟩:=HA.out;have e3:((x:Int)-(lo:Int))=((x-lo:Nat):Int):=by omega
        rw [e3];exact ⟨hi',iv+1,M.set iv (x-lo),by omega,by omega,by simp,by omega,by simp,(HM.out.set iv _).drew,hMw.set _ _ (by omega),by simp [hMl],by have:=take_step M iv cv _ _ (x-lo) lo hi' 0 (by omega) (by rw [HX.out.1];omega) HX.out.2 hMs;simpa using this,(hbut.set iv _).drew⟩)
end
section
open Go.RowKit
def bl (n:Nat):Nat:=if n=0 then 0 else n.log2+1
theorem bl_zero:bl 0=0:=rfl
theorem bl_lt (n:Nat):n<2^bl n:=by
 unfold bl
 split
 · next h=>subst h;decide
 · exact Nat.lt_log2_self
theorem bl_ge (n:Nat) (h:n≠0):2^(bl n-1)≤n:=by
 unfold bl;rw [if_neg h];exact Nat.log2_self_le h
theorem bl_pos (n:Nat) (h:n≠0):0<bl n:=by unfold bl;rw [if_neg h];omega
theorem bl_eq (n k:Nat) (h1:2^k≤n) (h2:n<2^(k+1)):bl n=k+1:=by
 have hn:n≠0:=by have:=Nat.two_pow_pos k;omega
 have a:k<bl n:=(Nat.pow_lt_pow_iff_right (a:=2) (by decide)).1 (Nat.lt_of_le_of_lt h1 (bl_lt n))
 have b:bl n-1<k+1:=(Nat.pow_lt_pow_iff_right (a:=2) (by decide)).1 (Nat.lt_of_le_of_lt (bl_ge n hn) h2)
 omega
theorem bitLen_bl (x:Nat) (h:x<18446744073709551616):Lib.bitLen x=bl x:=by
 by_cases h0:x=0
 · subst h0;decide
 · obtain ⟨h1,h2,h3⟩:=Lib.bitLenAux_bounds 64 x h h0
   obtain ⟨k,hk⟩:∃ k,Lib.bitLen x=k+1:=⟨Lib.bitLen x-1,by unfold Lib.bitLen;omega⟩
   have hk':Lib.bitLenAux 64 x=k+1:=hk;rw [hk'] at h2 h3;rw [hk,bl_eq x k h2 h3]
theorem tab8 (n:Nat) (h:n<Lib.len8tab.size):(Lib.len8tab[n]'h).toNat=Lib.bitLen n:=by
 have hn:n<256:=by rw [Lib.len8tab_size] at h;exact h
 have e:=Lib.len8_eq ⟨n,hn⟩;simp only [Lib.len8,Int.toNat_natCast] at e;rw [getElem?_pos Lib.len8tab n h] at e;exact Int.natCast_inj.1 (by simpa using e)
theorem fin_len (x i:Int) (c:Nat) (hc:c≤56) (hi:i<256) (hs:Lib.bitLen x.toNat=c+Lib.bitLen i.toNat) (hh:i.toNat<Lib.len8tab.size) (hi0:0≤i) :
 wrap64 ((c:Int)+wrap64 ((Lib.len8tab[i.toNat]'hh).toNat:Int))=(Lib.bitLen x.toNat:Int):=by
 have l:=Lib.bitLen_le8 ⟨i.toNat,by omega⟩
 simp only at l;rw [tab8,hs];unfold wrap64;omega
theorem fin_len0 (x:Int) (hi:x<256) (hi0:0≤x) (hh:x.toNat<Lib.len8tab.size) :
 wrap64 (wrap64 ((Lib.len8tab[x.toNat]'hh).toNat:Int))=(Lib.bitLen x.toNat:Int):=by
 have l:=Lib.bitLen_le8 ⟨x.toNat,by omega⟩
 simp only at l;rw [tab8];unfold wrap64;omega
set_option maxRecDepth 100000 in
theorem len32_int (x:Int) (w:World) (h0:0≤x) (h1:x≤4294967295) :
 Calls Tryz.prog 184 #[.int .u32 x] w fun e w'=>e=.returned (.int .i64 (Lib.bitLen x.toNat))∧w'=w:=by
 have hsz:Lib.len8tab.size=256:=Lib.len8tab_size;go_enter Tryz.func184,Tryz.ntmps184;go_wp2
 all_goals (go_ret;refine ⟨congrArg (fun z=>Ending.returned (Value.int IntKind.i64 z)) ?_,rfl⟩)
 · exact fin_len x (x/65536/256) 24 (by omega) (by omega) (by rw [Lib.bitLen_shift24 x.toNat (by omega) (by omega),show (x/65536/256).toNat=x.toNat/16777216 by omega]) (by omega) (by omega)
 · exact fin_len x (x/65536) 16 (by omega) (by omega) (by rw [Lib.bitLen_shift16 x.toNat (by omega) (by omega),show (x/65536).toNat=x.toNat/65536 by omega]) (by omega) (by omega)
 · exact fin_len x (x/256) 8 (by omega) (by omega) (by rw [Lib.bitLen_shift8 x.toNat (by omega) (by omega),show (x/256).toNat=x.toNat/256 by omega]) (by omega) (by omega)
 · exact fin_len0 x (by omega) (by omega) (by omega)
theorem len32_any (x:Nat) (w:World) (h:x<4294967296):Calls Tryz.prog 184 #[.int .u32 (x:Int)] w fun e w'=>e=.returned (.int .i64 (bl x:Nat))∧w'=w:=by
 have:=len32_int x w (by omega) (by omega)
 rw [Int.toNat_natCast,bitLen_bl x (by omega)] at this
 exact this
theorem bl_le32 (x:Nat) (h:x<4294967296):bl x≤32:=by
 by_cases h0:x=0
 · subst h0;decide
 · have:=bl_ge x h0
   have:2^(bl x-1)<2^32:=by omega
   have:=(Nat.pow_lt_pow_iff_right (a:=2) (by decide)).1 this
   omega
end
section
open Go.RowKit
def Tab (w:World):Prop:=∀ j,j<32→w.cell? ⟨1,j,none⟩=some (.int .u8 (Lib.deBruijn32tab.getD j 0))
theorem Tab.below {B:Nat}{w w':World}(h:Tab w) (hb:Below B w w') (hB:1<B):Tab w':=fun j hj=>(hb.cell (p:=⟨1,j,none⟩) hB).trans (h j hj)
theorem Tab.pos {w:World}(h:Tab w):1<w.heap.size:=World.block_lt_of_cell? w ⟨1,0,none⟩ (h 0 (by decide))
theorem Tab.belows {w w':World}(h:Tab w) (hb:Below w.heap.size w w'):Tab w':=h.below hb h.pos
theorem tz_core (x k idx:Nat) (w:World) (hx0:((x:Int)==0)=false)
 (key:bits BinOp.and IntKind.u32 (x:Int) (-(x:Int)%4294967296)*125613361%4294967296/134217728=(idx:Int))
 (hi:idx<32) (hk:k<32) (hcell:w.cell? ⟨1,idx,none⟩=some (.int .u8 k)) :
 Calls Tryz.prog 185 #[.int .u32 x] w fun e w'=>e=.returned (.int .i64 k)∧w'=w:=by
 go_enter Tryz.func185,Tryz.ntmps185
 go_wp2_with (simp only [key])
 go_ret;exact ⟨rfl,rfl⟩
theorem tz_key (x a:Nat) (hx:x<4294967296) (hx0:x≠0) (hlow:x &&& (4294967296-x)=a) :
 bits BinOp.and IntKind.u32 (x:Int) (-(x:Int)%4294967296)*125613361%4294967296/134217728=((a*125613361%4294967296/134217728:Nat):Int):=by
 rw [show -(x:Int)%4294967296=((4294967296-x:Nat):Int) by omega,and32 x _ hx (by omega),hlow]
 omega
theorem tz_any (x:Nat) (hx:x<4294967296) (hx0:x≠0) (w:World) (hT:Tab w) :
 Calls Tryz.prog 185 #[.int .u32 (x:Int)] w fun e w'=>e=.returned (.int .i64 (Lib.ctz 32 x:Nat))∧w'=w:=by
 obtain ⟨hlow,hk⟩:=Lib.lowest_bit 32 x hx0 hx;obtain ⟨hi,htab⟩:=Lib.deBruijn32_at _ hk;have hcell:=hT _ hi;rw [htab] at hcell;exact tz_core x _ _ w (by simp;omega) (tz_key x _ hx hx0 hlow) hi hk hcell
def lo (n:Nat):Nat:=if h:n=0 then 0 else if n%2=1 then 0 else lo (n/2)+1
termination_by n
decreasing_by omega
theorem lo_zero:lo 0=0:=by rw [lo];simp
theorem lo_odd (m:Nat):lo (2*m+1)=0:=by rw [lo];simp
theorem lo_eq (i m:Nat):lo (2^i*(2*m+1))=i:=by
 induction i with
 | zero=>rw [Nat.pow_zero,Nat.one_mul];exact lo_odd m
 | succ i ih =>
   have h:2^(i+1)*(2*m+1)=2*(2^i*(2*m+1)):=by rw [Nat.pow_succ];grind
   have hp:0<2^i*(2*m+1):=Nat.mul_pos (Nat.two_pow_pos i) (by omega)
   rw [h,lo,dif_neg (by omega),if_neg (by omega),Nat.mul_div_cancel_left _ (by decide),ih]
theorem lo_words (xs:List Nat) (k:Nat) (hx:Wf xs) (hk:k<xs.length) (h0:sg xs 0 k=0) (hw:xs.getD k 0≠0):lo (val xs)=32*k+Lib.ctz 32 (xs.getD k 0):=by
 have hl:=hx.get k;obtain ⟨m,hm,hc⟩:=Lib.ctzFrom_spec 32 (xs.getD k 0) (by omega) hl
 have hcz:Lib.ctz 32 (xs.getD k 0)=Lib.ctzFrom 32 (xs.getD k 0):=by simp only [Lib.ctz,if_neg hw]
 rw [hcz];obtain ⟨c,hc'⟩:∃ c,Lib.ctzFrom 32 (xs.getD k 0)=c:=⟨_,rfl⟩;rw [hc'] at hm hc ⊢;have e:=val_take_drop xs k (by omega)
 rw [←sg_val_take,h0,Nat.zero_add,val_drop_succ xs k hk,hm] at e
 have e2:4294967296=2^c*(2*2^(31-c)):=by
  rw [←Nat.mul_assoc,Nat.mul_comm (2^c) 2,Nat.mul_assoc,←Nat.pow_add,show c+(31-c)=31 by omega]
 have e3:val xs=2^(32*k+c)*(2*(m+2^(31-c)*val (xs.drop (k+1)))+1):=by
  rw [e,Nat.pow_add,Nat.pow_mul];have:(2^32:Nat)^k=pw k:=rfl;rw [this];have:4294967296*val (xs.drop (k+1))=2^c*(2*2^(31-c))*val (xs.drop (k+1)):=by rw [←e2]
  rw [this]
  grind
 rw [e3,lo_eq]
theorem low_any (xs:List Nat) (ao:Option Addr) (n cap B:Nat) (w:World) (hn:n=xs.length) (hm:n≤70368744177664) (hx:Wf xs) (hR:Rd B w ao xs) (hT:Tab w) :
 Calls Tryz.prog 148 #[.slice ao n cap] w fun r w'=>r=.returned (.int .i64 (lo (val xs):Nat))∧w'=w:=by
 have HT:=(hid hT);have HR:=(qsd (ai hR (ai hn hx)));clear hR hn hx hT;go_enter Tryz.func148,Tryz.ntmps148;go_wp2
 go_loopg [7] n (fun gk i wr=>∃ k:Nat,gk+k=n∧i=.int .i64 (k:Nat)∧wr=w∧Aside (sg xs 0 k=0))
 case atStart=>exact ⟨0,by omega,rfl,rfl,sg_zero _ _⟩
 case round =>
  obtain ⟨k,hgk,rfl,rfl,HA⟩:=hrel
  by_cases hk:k<n
  · obtain ⟨hR,hn,hx⟩:=HR.out
    obtain ⟨b,boff,hbB,rfl,hbc⟩:=hR (by intro e;subst e;simp at hn;omega)
    have hbk:=hbc k (by omega)
    obtain ⟨x,hxx⟩:∃ x:Nat,xs.getD k 0=x:=⟨_,rfl⟩;have hxl:x<4294967296:=hxx ▸ hx.get _;rw [hxx] at hbk
    by_cases h0:x=0
    · subst h0
      have HX:=(qsd hxx);clear hxx hR hn hx hbc;go_wp2
      go_roundg (gk-1)
      case measure=>omega
      case rel =>
       obtain ⟨hR,hn,hx⟩:=HR.out;refine ⟨k+1,by omega,by go_num,rfl,?_⟩
       have h1:=HA.out;rw [Aside,sg_succ xs 0 k (by omega),Nat.zero_add,HX.out,h1]
       omega
    · have hz:=lo_words xs k hx (by omega) HA.out (by rw [hxx];exact h0)
      rw [hxx] at hz;obtain ⟨hc,hc32⟩:=Lib.lowest_bit 32 x h0 hxl;have H:=hid (tz_any x hxl h0 wr HT.out);obtain ⟨c,hcc⟩:∃ c,Lib.ctz 32 x=c:=⟨_,rfl⟩;rw [hcc] at H hz hc32;have HZ:=(qsd hz);clear hxx hR hn hx hbc hc hz hcc
      go_wp2_with fail
      refine H.out.mono ?_;rintro r w1 ⟨rfl,rfl⟩;go_wp2;go_ret;rw [HZ.out];exact ⟨congrArg (fun z=>Ending.returned (Value.int IntKind.i64 z)) (by omega),rfl⟩
  · obtain rfl:k=n:=by omega
    obtain ⟨hR,hn,hx⟩:=HR.out;have h1:=HA.out;have h2:val xs=0:=by rw [←sg_all,←hn];exact h1
    have H2:=(qsd h2);clear hR hn hx h1 h2 HA HR;go_wp2;go_ret;rw [H2.out,lo_zero];exact ⟨rfl,rfl⟩
end
section
open Go.RowKit
theorem make_words (z:Int) (n:Nat) (hz:z=(n:Int)) (hn:n≤70368744177664) (w:World) :
 (Instr.makeSlice 45 (.int .i64 z) (.int .i64 z)).run Tryz.prog w=.ok (.slice (some ⟨w.heap.size,0,none⟩) n n) (w.alloc (.cells (madeCells #[.int .u32 0] n) 133)):=by
 subst hz;exact run_make_row' 45 133 (.int .u32 0) 4 Tryz.underlying45 Tryz.info133 rfl .i64 .i64 n (by omega) (by omega) w
theorem Own.made (w:World) (n:Nat):Own (w.alloc (.cells (madeCells #[.int .u32 0] n) 133)) w.heap.size (List.replicate n 0):=by
 unfold Own;have h1:=heap_alloc_new w (.cells (madeCells #[.int .u32 0] n) 133);rw [h1]
 congr 2
 apply Array.toList_inj.1
 rw [toList_madeCells_one];simp [U]
theorem Rd.drop {B:Nat}{w:World}{b off:Nat}{xs:List Nat}(h:Rd B w (some ⟨b,off,none⟩) xs) (k:Nat):Rd B w (some ⟨b,off+k,none⟩) (xs.drop k):=by
 intro hx;have hx':xs≠[]:=by intro e;subst e;simp at hx
 obtain ⟨b',off',hlt,e,hc⟩:=h hx'
 cases e
 refine ⟨b,off+k,hlt,rfl,fun i hi=>?_⟩
 simp only [List.length_drop] at hi;rw [Nat.add_assoc,hc (k+i) (by omega)]
 simp [List.getD_eq_getElem?_getD]
theorem copy_words (w:World) (g dLen dCap:Nat) (ao:Option Addr) (sLen sCap B:Nat) (ty:TypeId)
 (L xs:List Nat) (hO:Own w g L) (hL:dLen≤L.length) (hx:sLen=xs.length) (hR:Rd B w ao xs) (hle:sLen≤dLen) :
 ∃ w',(Builtin.copy_ #[45,45] ty #[.slice (some ⟨g,0,none⟩) dLen dCap,.slice ao sLen sCap]).run Tryz.prog w=.ok (.int .i64 (sLen:Int)) w'∧Own w' g (xs++L.drop sLen)∧But g w w':=by
 subst hx;have hmin:Nat.min xs.length dLen=xs.length:=Nat.min_eq_left hle
 by_cases h0:xs=[]
 · subst h0
   exact ⟨w,run_copy_none (P:=Tryz.prog) w 45 45 ty 133 _ _ _ _ _ _ Tryz.underlying45 (by kernel_rfl) (by simp at hmin ⊢),by simpa using hO,But.refl _ _⟩
 · obtain ⟨b,off,hlt,rfl,hc⟩:=hR h0
   have hadd:∀ j,(⟨b,off,none⟩:Addr).add j=⟨b,off+j,none⟩:=by intro j;unfold Addr.add;split <;> simp_all
   have hrun:=run_copy_row (P:=Tryz.prog) w 45 45 ty 133 g 0 dLen dCap ⟨b,off,none⟩ xs.length sCap (L.map U).toArray 133 (xs.map U) Tryz.underlying45 (by kernel_rfl) hO (by rw [hmin];simp) (by
    intro j v hv;rw [hadd]
    have hj:j<xs.length:=by
     have:=(List.getElem?_eq_some_iff.1 hv).1;simpa using this
    rw [hc j hj];simp [hj,U] at hv;simp [hj,←hv]) (by simp;omega) (by
    intro v hv;obtain ⟨n,_,rfl⟩:=List.mem_map.1 hv
    rfl)
   refine ⟨w.setRow g (((xs++L.drop xs.length).map U)).toArray,?_,setRow_heap w g _ _ 133 _ hO,⟨rfl,rfl,rfl,by simp [World.setRow],fun k _ hk=>setRow_other w g k _ hk⟩⟩
   simpa [List.map_append,List.map_drop,goInt] using hrun
end
section
open Go.RowKit
theorem form_top (xs:List Nat) (hx:Wf xs) (k:Nat) (hk:nl xs=k+1):val xs=sg xs 0 k+pw k*xs.getD k 0∧sg xs 0 k<pw k∧xs.getD k 0≠0∧k<xs.length:=by
 have hl:=nl_le xs;have h1:=val_form xs hx;rw [hk,val_take_succ xs k (by omega),←sg_val_take] at h1
 have h2:=nl_last xs (by omega)
 rw [hk,Nat.add_sub_cancel] at h2;exact ⟨h1.symm,sg_lt xs 0 k hx (by omega),h2,by omega⟩
theorem bl_words (xs:List Nat) (hx:Wf xs) (k:Nat) (hk:nl xs=k+1):bl (val xs)=32*k+bl (xs.getD k 0):=by
 obtain ⟨e,hlt,h0,hl⟩:=form_top xs hx k hk;obtain ⟨t,ht⟩:∃ t,xs.getD k 0=t:=⟨_,rfl⟩;rw [ht] at e h0 ⊢;obtain ⟨c,hc⟩:∃ c,bl t=c+1:=⟨bl t-1,by have:=bl_pos t h0;omega⟩
 have h1:=bl_ge t h0;have h2:=bl_lt t;rw [hc] at h1 h2 ⊢;rw [Nat.add_sub_cancel] at h1;have p1:2^(32*k+c)=pw k*2^c:=pw_two k c;have p2:2^(32*k+c+1)=pw k*2^(c+1):=by rw [Nat.add_assoc,pw_two]
 have:=bl_eq (val xs) (32*k+c) (by
  rw [p1,e];have:=Nat.mul_le_mul_left (pw k) h1
  omega) (by
  rw [p2,e];have:pw k*(t+1)≤pw k*2^(c+1):=Nat.mul_le_mul_left (pw k) (by omega)
  rw [Nat.mul_add] at this
  omega)
 omega
theorem len_any (xs:List Nat) (ao:Option Addr) (n cap B:Nat) (w:World) (hn:n=xs.length) (hc:n≤cap) (hm:n≤70368744177664) (hx:Wf xs) (hR:Rd B w ao xs) :
 Calls Tryz.prog 147 #[.slice ao n cap] w fun r w'=>r=.returned (.int .i64 (bl (val xs):Nat))∧w'=w:=by
 have H:=hid (trim_any xs ao n cap B w hn hc (by omega) hR)
 have hl:=nl_le xs
 rcases hk:nl xs with _|k
 · rw [(nl_zero_iff xs).1 hk,bl_zero]
   rw [hk] at H;clear hk hl hn hx hR;go_enter Tryz.func147,Tryz.ntmps147
   go_wp2_with fail
   refine H.out.mono ?_;rintro r w1 ⟨rfl,rfl⟩;go_wp2;go_ret;exact ⟨rfl,rfl⟩
 · rw [bl_words xs hx k hk]
   rw [hk] at H hl;obtain ⟨e,hlt,h0,hl2⟩:=form_top xs hx k hk;obtain ⟨b,off,hB,rfl,hcell⟩:=hR (by intro e;subst e;simp at hl)
   have hck:=hcell k hl2;obtain ⟨t,ht⟩:∃ t,xs.getD k 0=t:=⟨_,rfl⟩;have htl:t<4294967296:=ht ▸ hx.get k;rw [ht] at hck ⊢;have H2:=hid (len32_any t w htl);have hb:=bl_le32 t htl;obtain ⟨c,hc'⟩:∃ c,bl t=c:=⟨_,rfl⟩;rw [hc'] at H2 hb ⊢;have hkn:k<n:=by omega
   clear hk hl hn hx hR e hlt h0 hl2 hcell ht hc';go_enter Tryz.func147,Tryz.ntmps147
   go_wp2_with fail
   refine H.out.mono ?_;rintro r w1 ⟨rfl,rfl⟩
   go_wp2_with fail
   refine H2.out.mono ?_;rintro r w1 ⟨rfl,rfl⟩;go_wp2;go_ret;exact ⟨congrArg (fun z=>Ending.returned (Value.int IntKind.i64 z)) (by omega),rfl⟩
theorem of_any (x:Nat) (w:World) (hx:x<18446744073709551616) :
 Calls Tryz.prog 109 #[.int .u64 (x:Int)] w fun r w'=>∃ v,r=.returned v∧Nt w.heap.size w' v x∧Below w.heap.size w w':=by
 obtain ⟨a,ha⟩:∃ a,a=x%4294967296:=⟨_,rfl⟩;obtain ⟨b,hb⟩:∃ b,b=x/4294967296:=⟨_,rfl⟩;have e1:(x:Int)%4294967296=(a:Int):=by omega
 have e2:(x:Int)/4294967296=(b:Int):=by omega
 have hx2:(x:Int)<18446744073709551616:=by omega
 have hO:Own (w.alloc (.cells #[.int .u32 (a:Int),.int .u32 (b:Int)] 133)) w.heap.size [a,b]:=by
  unfold Own;rw [heap_alloc_new];rfl
 have hW:Wf [a,b]:=Wf.cons (by omega) (Wf.cons (by omega) Wf.nil)
 have hv:val [a,b]=x:=by simp only [val];omega
 have T:=hid (trim_any [a,b] (some ⟨w.heap.size,0,none⟩) 2 2 (w.heap.size+1) _ rfl (by omega) (by omega) (by simpa using Rd.ofOwn hO 0 2))
 have HH:=(qsd (ai hO (ai hW hv)));clear hO hW hv ha hb hx;go_enter Tryz.func109,Tryz.ntmps109
 go_wp2_with fail
 refine T.out.mono ?_;rintro r w1 ⟨rfl,rfl⟩;go_wp2;go_ret;obtain ⟨hO,hW,hv⟩:=HH.out;refine ⟨_,rfl,?_,(Below.refl _ _).alloc (Nat.le_refl _) _⟩;have N:=Nt.ofOwn (lo:=w.heap.size) hO (Nat.le_refl _) hW (by simp [maxLen])
 rw [hv] at N;exact N
end
section
open Go.RowKit
theorem Nt.lt {lo:Nat}{w:World}{v:Value}{X:Nat}(h:Nt lo w v X):∀ g,v.ownBlock=some g→lo≤g∧g<w.heap.size:=fun g hg=>World.ownsRow.lt h g hg
end
section
open Go.RowKit
theorem up_any (xs:List Nat) (ao:Option Addr) (n cap B by' words rest:Nat) (w:World) (hn:n=xs.length) (hc:n≤cap) (hby:by'=32*words+rest) (hrest:rest<32) (hbig:words+n≤70368744177663)
 (hx:Wf xs) (hR:Rd B w ao xs) (hB:B≤w.heap.size) :
 Calls Tryz.prog 191 #[.slice ao n cap,.int .i64 (by':Nat)] w fun r w'=>∃ v,r=.returned v∧Nt w.heap.size w' v (val xs*2^by')∧Below w.heap.size w w':=by
 obtain ⟨W1,hW1⟩:∃ W,W=w.alloc (.cells (madeCells #[.int .u32 0] (words+n+1)) 133):=⟨_,rfl⟩;have hO1:Own W1 w.heap.size (List.replicate (words+n+1) 0):=by rw [hW1];exact Own.made w _
 have hB1:Below w.heap.size w W1:=by rw [hW1];exact (Below.refl _ _).alloc (Nat.le_refl _) _
 have hmk:=make_words ((words:Int)+n+1) (words+n+1) (by omega) (by omega) w
 rw [←hW1] at hmk;have hR1:Rd B W1 ao xs:=hR.below (hB1.mono hB);have e1:(by':Int)/32=(words:Int):=by omega
 have e2:(by':Int)%32=(rest:Int):=by omega
 obtain ⟨g,hg⟩:∃ g,g=w.heap.size:=⟨_,rfl⟩;rw [←hg] at hO1 hmk hB1 hB;have HR:=(qsd (ai hR1 (ai hx (ai hn (ai hB1 (ai hg hby))))));have HO:=hid hO1;clear hn hx hR hO1 hB1 hW1 hR1 hg hby;go_enter Tryz.func191,Tryz.ntmps191;go_wp2
 go_loopg [23] n (fun gk i wr=>∃ (k:Nat) (M:List Nat),gk+k=n∧i=.int .i64 (k:Nat) ∧
  Hid (Own wr g M)∧Aside (Wf M∧M.length=words+n+1∧sg M 0 words=0∧M.getD (words+k) 0<2^rest∧sg M words (k+1)=sg xs 0 k*2^rest∧But g W1 wr))
 case atStart=>exact ⟨0,_,by omega,rfl,HO,Wf.zeros _,by simp,sg_zeros _ _ _,by rw [getD_zeros];exact Nat.two_pow_pos _,by rw [sg_zeros,sg_zero];simp,But.refl _ _⟩
 case round =>
  obtain ⟨k,M,hgk,rfl,HM,HA⟩:=hrel
  by_cases hk:k<n
  · obtain ⟨hR,hx,hn,hB1,hg,hby⟩:=HR.out
    obtain ⟨hMw,hMl,hM0,hMt,hMs,hbut⟩:=HA.out;have hW1s:g≤W1.heap.size:=by have:=hB1.size;omega
    obtain ⟨b,boff,hbB,rfl,hbc⟩:=hR (by intro e;subst e;simp at hn;omega)
    have hbk:wr.cell? ⟨b,boff+k,none⟩=some (.int .u32 ((xs.getD k 0:Nat):Int)):=by
     have h1:=hbut.block b (World.block_lt_of_cell? W1 ⟨b,boff+k,none⟩ (hbc k (by omega))) (by omega)
     exact (World.cell?_of_block (a:=⟨b,boff+k,none⟩) h1).trans (hbc k (by omega))
    obtain ⟨y,hy⟩:∃ y:Nat,xs.getD k 0=y:=⟨_,rfl⟩;have hyl:y<4294967296:=hy ▸ hx.get _;rw [hy] at hbk;have hgc:=HM.out.cell (words+k) (by omega)
    have hgf:=HM.out.frozen (words+k);have hgf2:=HM.out.frozen (words+k+1);have hgc2:=HM.out.cell (words+k+1) (by omega)
    obtain ⟨x,hxx⟩:∃ x:Nat,M.getD (words+k) 0=x:=⟨_,rfl⟩;have hxl:x<4294967296:=hxx ▸ hMw.get _;rw [hxx] at hgc;obtain ⟨t,ht⟩:∃ t:Nat,t=y*2^rest:=⟨_,rfl⟩;have htl:t<18446744073709551616:=by rw [ht];exact up_lt y rest hyl hrest
    have e3:IntKind.u64.wrap ((y:Int)*2^rest)=(t:Int):=by
     have ec:(y:Int)*2^rest=(t:Int):=by rw [ht,Int.natCast_mul,Int.natCast_pow];rfl
     rw [ec];exact wrap_u64n _ (by omega) (by omega)
    obtain ⟨s,hs⟩:∃ s:Nat,s=x+t%4294967296:=⟨_,rfl⟩;obtain ⟨d,hd⟩:∃ d:Nat,d=t/4294967296:=⟨_,rfl⟩;have e4':x ||| (t%4294967296)=s:=by rw [hs,ht];exact or_low x y rest hrest (by rw [←hxx];exact hMt)
    have e4:bits BinOp.or IntKind.u32 (x:Int) ((t:Int)%4294967296)=(s:Int):=by
     have:=or32 x (t%4294967296) hxl (by omega)
     rw [e4'] at this;rw [←this];simp
    have e5:(t:Int)/4294967296=(d:Int):=by omega
    have htl':(t:Int)<18446744073709551616:=by omega
    have hsl:s<4294967296:=by rw [←e4'];exact Nat.or_lt_two_pow (n:=32) hxl (by omega)
    have HX:=(qsd (ai hy (ai hn (ai hxx (ai ht (ai hs (ai hd hsl)))))));clear hy hxx hR hx hn hB1 hg hMw hMl hM0 hMt hMs hbut hbc hW1s hby ht hs hd htl e4' hsl;go_wp2
    go_roundg (gk-1)
    case measure=>omega
    case rel =>
     obtain ⟨hy,hn,hxx,ht,hs,hd,hsl⟩:=HX.out;obtain ⟨hMw,hMl,hM0,hMt,hMs,hbut⟩:=HA.out;have hdl:d<2^rest:=by rw [hd,ht];exact up_top y rest hyl
     have h2:=two_pow_lt rest hrest;refine ⟨k+1,(M.set (words+k) s).set (words+k+1) d,by omega,by go_num,(HM.out.set _ _).set _ _,(hMw.set _ _ hsl).set _ _ (by omega),by simp [hMl],?_,?_,?_,(hbut.set _ _).set _ _⟩
     · rw [sg_set_above _ _ _ _ _ (by omega) (by simp;omega),sg_set_above _ _ _ _ _ (by omega) (by omega)];exact hM0
     · rw [show words+(k+1)=words+k+1 by omega,getD_set_same _ _ _ (by simp;omega)];exact hdl
     · have e1:=sg_set_last (M.set (words+k) s) words (k+1) d (by simp;omega)
       rw [show words+(k+1)=words+k+1 by omega] at e1
       rw [e1,sg_set_last _ _ _ _ (by omega),sg_succ xs 0 k (by omega),Nat.zero_add,hy,pw_succ]
       rw [sg_succ _ _ _ (by omega),hxx] at hMs
       exact up_step (pw k) _ x t 0 _ s d y _ hMs ht hs hd
  · obtain rfl:k=n:=by omega
    obtain ⟨hMw,hMl,hM0,hMt,hMs,hbut⟩:=HA.out;have T:=hid (trim_any M (some ⟨g,0,none⟩) (words+k+1) (words+k+1) (g+1) wr hMl.symm (Nat.le_refl _) (by omega) (by simpa [hMl,List.take_of_length_le] using Rd.ofOwn HM.out 0 (words+k+1)))
    clear hMw hMl hM0 hMt hMs hbut
    go_wp2_with fail
    refine T.out.mono ?_;rintro r w1 ⟨rfl,rfl⟩;go_wp2;go_ret;obtain ⟨hR,hx,hn,hB1,hg,hby⟩:=HR.out;obtain ⟨hMw,hMl,hM0,hMt,hMs,hbut⟩:=HA.out;have e3:sg xs 0 k=val xs:=by rw [hn];exact sg_all xs
    have e4:val M=val xs*2^by':=by
     rw [←sg_all M,hMl,show words+k+1=words+(k+1) by omega,sg_add M 0 words (k+1) (by omega),hM0,Nat.zero_add,Nat.zero_add,hMs,e3,hby,pw_two]
     grind
    refine ⟨_,rfl,?_,?_⟩
    · have N:=Nt.ofOwn (lo:=g) HM.out (Nat.le_refl _) hMw (by rw [hMl];unfold maxLen;omega)
      rw [←e4,←hg];rw [hMl] at N;exact N
    · rw [←hg]
      exact But.below hB1 hbut (by have:=hB1.size;omega) (Nat.le_refl _)
end
section
open Go.RowKit
theorem or64_join2 (l x:Nat) (hl:l<4294967296) (hx:x<4294967296):bits BinOp.or IntKind.u64 (x:Int) ((l:Int)*4294967296)=((x+l*4294967296:Nat):Int):=by
 have e:((l:Int)*4294967296)=((l*4294967296:Nat):Int):=by simp only [Int.natCast_mul];rfl
 rw [e,bits_or_u64_nat _ _ (by omega) (by omega)]
 have:=Nat.two_pow_add_eq_or_of_lt (i:=32) (b:=x) (by omega) l
 have e2:2^32*l=l*4294967296:=by rw [Nat.mul_comm]
 rw [e2] at this;rw [Nat.or_comm,←this,Nat.add_comm]
theorem down_word (L:List Nat) (i rest:Nat) (hL:Wf L) (hr:rest<32) (hi:i<L.length) :
 (val L/2^rest/pw i)%4294967296=((L.getD i 0+L.getD (i+1) 0*4294967296)/2^rest)%4294967296:=by
 have h1:val L/2^rest/pw i=val (L.drop i)/2^rest:=by
  rw [Nat.div_div_eq_div_mul,Nat.mul_comm,←Nat.div_div_eq_div_mul,val_take_drop L i (by omega)]
  have:=val_lt (L.take i) (hL.take i);rw [List.length_take,Nat.min_eq_left (by omega)] at this
  rw [Nat.add_mul_div_left _ _ (pw_pos i),Nat.div_eq_of_lt this,Nat.zero_add]
 rw [h1,val_drop_succ L i hi]
 obtain ⟨R,hR⟩:∃ R,val (L.drop (i+1))=L.getD (i+1) 0+4294967296*R:=by
  by_cases h:i+1<L.length
  · exact ⟨_,val_drop_succ L (i+1) h⟩
  · refine ⟨0,?_⟩
    rw [List.drop_of_length_le (by omega),List.getD_eq_getElem?_getD,List.getElem?_eq_none (by omega)]
    rfl
 rw [hR]
 have e:L.getD i 0+4294967296*(L.getD (i+1) 0+4294967296*R)=(L.getD i 0+L.getD (i+1) 0*4294967296)+2^rest*(4294967296*(2^(32-rest)*R)):=by
  have:=two_pow_rest rest hr;have:2^rest*(4294967296*(2^(32-rest)*R))=4294967296*(4294967296*R):=by rw [←this];grind
  rw [this];omega
 rw [e,Nat.add_mul_div_left _ _ (Nat.two_pow_pos _),Nat.add_mul_mod_self_left]
theorem low_step (V p:Nat) (hp:0<p):V%p+p*(V/p%4294967296)=V%(4294967296*p):=by
 rw [Nat.mul_comm 4294967296,Nat.mod_mul]
theorem down_any (xs:List Nat) (ao:Option Addr) (n cap B by' words rest:Nat) (w:World) (hn:n=xs.length) (hc:n≤cap) (hby:by'=32*words+rest) (hrest:rest<32) (hbig:n≤70368744177663) (hby2:by'≤9223372036854775807)
 (hx:Wf xs) (hR:Rd B w ao xs) (hB:B≤w.heap.size) :
 Calls Tryz.prog 190 #[.slice ao n cap,.int .i64 (by':Nat)] w fun r w'=>∃ v,r=.returned v∧Nt w.heap.size w' v (val xs/2^by')∧Below w.heap.size w w':=by
 have e1:(by':Int)/32=(words:Int):=by omega
 have e2:(by':Int)%32=(rest:Int):=by omega
 by_cases hw:n≤words
 · have hv:val xs/2^by'=0:=by
    have h1:=val_lt xs hx;rw [←hn] at h1
    have h2:pw n≤2^by':=by
     rw [hby,pw_two];have:=pw_mono hw;have:=Nat.mul_le_mul this (Nat.two_pow_pos rest);omega
    exact Nat.div_eq_of_lt (by omega)
   rw [hv];clear hv hn hx hR hby;go_enter Tryz.func190,Tryz.ntmps190;go_wp2;go_ret;exact ⟨_,rfl,Nt.nil _ _,Below.refl _ _⟩
 · have hwn:words<n:=by omega
   obtain ⟨b,boff,hbB,rfl,hbc⟩:=hR (by intro e;subst e;simp at hn;omega)
   obtain ⟨k0,hk0⟩:∃ k0,k0=n-words:=⟨_,rfl⟩;obtain ⟨W1,hW1⟩:∃ W,W=w.alloc (.cells (madeCells #[.int .u32 0] (n-words)) 133):=⟨_,rfl⟩;have hO1:Own W1 w.heap.size (List.replicate (n-words) 0):=by rw [hW1];exact Own.made w _
   have hB1:Below w.heap.size w W1:=by rw [hW1];exact (Below.refl _ _).alloc (Nat.le_refl _) _
   have hmk:=make_words ((n:Int)-words) (n-words) (by omega) (by omega) w
   rw [←hW1] at hmk;obtain ⟨W2,hcp,hO2,hb2⟩:=copy_words W1 w.heap.size (n-words) (n-words) (some ⟨b,boff+words,none⟩) (n-words) (cap-words) B 3 (List.replicate (n-words) 0) (xs.drop words) hO1 (by simp) (by simp;omega) ((hR.below (hB1.mono hB)).drop words) (by omega)
   have ed:(List.replicate (n-words) 0).drop (n-words)=([]:List Nat):=by simp
   rw [ed,List.append_nil] at hO2;clear ed;have hB2:Below w.heap.size w W2:=But.below hB1 hb2 hB1.size (Nat.le_refl _);obtain ⟨g,hg⟩:∃ g,g=w.heap.size:=⟨_,rfl⟩;rw [←hg] at hO2 hmk hB2 hB hcp;obtain ⟨L,hL⟩:∃ L,L=xs.drop words:=⟨_,rfl⟩;have hLl:L.length=n-words:=by rw [hL];simp;omega
   have hLw:Wf L:=by rw [hL];exact hx.drop words
   rw [←hL] at hO2;have HR:=(qsd (ai hLw (ai hLl (ai hn (ai hB2 (ai hg (ai hby hL)))))));have hxw:=hid hx;have HO:=hid hO2;clear hn hx hR hO1 hB1 hW1 hg hby hO2 hB2 hL hLl hLw hb2 hbc hk0;go_enter Tryz.func190,Tryz.ntmps190;go_wp2
   go_loopg [30] (n-words) (fun gk i wr=>∃ (k:Nat) (M:List Nat),gk+k=n-words∧i=.int .i64 (k:Nat) ∧
    Hid (Own wr g M)∧Aside (Wf M∧M.length=n-words∧(∀ j,k≤j→M.getD j 0=L.getD j 0)∧sg M 0 k=val L/2^rest%pw k∧But g W2 wr))
   case atStart=>exact ⟨0,_,by omega,rfl,HO,HR.out.1,HR.out.2.1,fun _ _=>rfl,by rw [sg_zero,pw_zero,Nat.mod_one],But.refl _ _⟩
   case round =>
    obtain ⟨k,M,hgk,rfl,HM,HA⟩:=hrel
    by_cases hk:k<n-words
    · obtain ⟨hLw,hLl,hn,hB2,hg,hby,hL⟩:=HR.out
      obtain ⟨hMw,hMl,hMr,hMs,hbut⟩:=HA.out;have hgc:=HM.out.cell k (by omega)
      have hgf:=HM.out.frozen k;obtain ⟨x,hxx⟩:∃ x:Nat,M.getD k 0=x:=⟨_,rfl⟩;have hxl:x<4294967296:=hxx ▸ hMw.get _;rw [hxx] at hgc
      by_cases hk1:k+1<n-words
      · have hgc1:=HM.out.cell (k+1) (by omega)
        obtain ⟨y,hyy⟩:∃ y:Nat,M.getD (k+1) 0=y:=⟨_,rfl⟩;have hyl:y<4294967296:=hyy ▸ hMw.get _;rw [hyy] at hgc1;obtain ⟨t,ht⟩:∃ t:Nat,t=x+y*4294967296:=⟨_,rfl⟩;have e3:bits BinOp.or IntKind.u64 (x:Int) ((y:Int)*4294967296)=(t:Int):=by rw [or64_join2 y x hyl hxl,ht]
        obtain ⟨s,hs⟩:∃ s:Nat,s=t/2^rest%4294967296:=⟨_,rfl⟩;have e4:(t:Int)/2^rest%4294967296=(s:Int):=by rw [hs];simp
        have hs2:s=(L.getD k 0+L.getD (k+1) 0*4294967296)/2^rest%4294967296:=by
         rw [hs,ht,←hxx,←hyy,hMr k (by omega),hMr (k+1) (by omega)]
        have hsl:s<4294967296:=by omega
        have HX:=(qsd (ai hs2 hsl));clear hxx hyy hLw hLl hn hB2 hg hby hL hMw hMl hMr hMs hbut hs hs2 hsl ht;go_wp2
        go_roundg (gk-1)
        case measure=>omega
        case rel =>
         obtain ⟨hLw,hLl,hn,hB2,hg,hby,hL⟩:=HR.out;obtain ⟨hMw,hMl,hMr,hMs,hbut⟩:=HA.out;obtain ⟨hs,hsl⟩:=HX.out;refine ⟨k+1,M.set k s,by omega,by go_num,HM.out.set _ _,hMw.set _ _ hsl,by simp [hMl],fun j hj=>?_,?_,hbut.set _ _⟩
         · rw [getD_set_ne _ _ _ _ (by omega)];exact hMr j (by omega)
         · have e1:=sg_set_last M 0 k s (by omega)
           rw [Nat.zero_add] at e1;rw [e1,hMs,hs,←down_word L k rest hLw hrest (by omega),pw_succ]
           exact low_step _ _ (pw_pos k)
      · obtain ⟨s,hs⟩:∃ s:Nat,s=x/2^rest:=⟨_,rfl⟩
        have e4:(x:Int)/2^rest=(s:Int):=by rw [hs];simp
        have hsx:s≤x:=by rw [hs];exact Nat.div_le_self _ _
        have hs2:s=(L.getD k 0+L.getD (k+1) 0*4294967296)/2^rest%4294967296:=by
         have:L.getD (k+1) 0=0:=by rw [List.getD_eq_getElem?_getD,List.getElem?_eq_none (by omega)];rfl
         rw [this,Nat.zero_mul,Nat.add_zero,←hMr k (by omega),hxx,←hs]
         omega
        have hsl:s<4294967296:=by omega
        have HX:=(qsd (ai hs2 hsl));have e5:(s:Int)%4294967296=(s:Int):=by omega
        clear hxx hLw hLl hn hB2 hg hby hL hMw hMl hMr hMs hbut hs hs2;go_wp2
        go_roundg (gk-1)
        case measure=>omega
        case rel =>
         obtain ⟨hLw,hLl,hn,hB2,hg,hby,hL⟩:=HR.out;obtain ⟨hMw,hMl,hMr,hMs,hbut⟩:=HA.out;obtain ⟨hs,hsl⟩:=HX.out;refine ⟨k+1,M.set k s,by omega,by go_num,HM.out.set _ _,hMw.set _ _ hsl,by simp [hMl],fun j hj=>?_,?_,hbut.set _ _⟩
         · rw [getD_set_ne _ _ _ _ (by omega)];exact hMr j (by omega)
         · have e1:=sg_set_last M 0 k s (by omega)
           rw [Nat.zero_add] at e1;rw [e1,hMs,hs,←down_word L k rest hLw hrest (by omega),pw_succ]
           exact low_step _ _ (pw_pos k)
    · obtain rfl:k=n-words:=by omega
      obtain ⟨hMw,hMl,hMr,hMs,hbut⟩:=HA.out;have T:=hid (trim_any M (some ⟨g,0,none⟩) (n-words) (n-words) (g+1) wr hMl.symm (Nat.le_refl _) (by omega) (by simpa [hMl,List.take_of_length_le] using Rd.ofOwn HM.out 0 (n-words)))
      clear hMw hMl hMr hMs hbut
      go_wp2_with fail
      refine T.out.mono ?_;rintro r w1 ⟨rfl,rfl⟩;go_wp2;go_ret;obtain ⟨hLw,hLl,hn,hB2,hg,hby,hL⟩:=HR.out;obtain ⟨hMw,hMl,hMr,hMs,hbut⟩:=HA.out
      have e4:val M=val xs/2^by':=by
       have h1:val L<pw (n-words):=by rw [←hLl];exact val_lt L hLw
       have h2:val L/2^rest<pw (n-words):=Nat.lt_of_le_of_lt (Nat.div_le_self _ _) h1;rw [Nat.mod_eq_of_lt h2] at hMs;rw [←sg_all M,hMl,hMs,hby,pw_two,←Nat.div_div_eq_div_mul]
       congr 1
       have h3:=val_take_drop xs words (by omega)
       have h4:val (xs.take words)<pw words:=by
        have:(xs.take words).length=words:=by rw [List.length_take];omega
        have h5:Wf xs:=hxw.out;have:=val_lt _ (h5.take words);rwa [‹(xs.take words).length=words›] at this
       rw [h3,Nat.add_mul_div_left _ _ (pw_pos words),Nat.div_eq_of_lt h4,Nat.zero_add,hL]
      refine ⟨_,rfl,?_,?_⟩
      · have N:=Nt.ofOwn (lo:=g) HM.out (Nat.le_refl _) hMw (by rw [hMl];unfold maxLen;omega)
        rw [←e4,←hg];rw [hMl] at N;exact N
      · rw [←hg]
        exact But.below hB2 hbut (by have:=hB2.size;omega) (Nat.le_refl _)
end
section
open Go.RowKit
theorem ws_len_mono {X Y:Nat}(h:X≤Y):(ws X).length≤(ws Y).length:=(ws_len_le X _).2 (Nat.lt_of_le_of_lt h (ws_len_lt Y))
end
section
open Go.RowKit
theorem addTimes_any (L bs:List Nat) (g off n cap:Nat) (ao:Option Addr) (m capb B q:Nat) (w:World)
 (hO:Own w g L) (hoff:off+n≤L.length) (hm:m=bs.length) (hmn:m≤n) (hcap:n≤cap) (hbig:n≤4611686018427387904) (hL:Wf L) (hb:Wf bs) (hR:Rd B w ao bs) (hB:B≤g) (hq:q<4294967296) :
 Calls Tryz.prog 211 #[.slice (some ⟨g,off,none⟩) n cap,.slice ao m capb,.int .u32 (q:Nat)] w fun r w' =>
  ∃ M c,r=.returned (.int .u32 (c:Nat))∧c<4294967296∧Own w' g M∧Wf M∧Out L M off m∧sg M off m+c*pw m=sg L off m+val bs*q∧But g w w':=by
 have HR:Aside (Rd B w ao bs∧m=bs.length∧Wf bs∧Wf L∧off+n≤L.length):=⟨hR,hm,hb,hL,hoff⟩;have HO:Hid (Own w g L):=hO;clear hR hm hb hL hO hoff;go_enter Tryz.func211,Tryz.ntmps211;go_wp2
 go_loopg [7,13] m (fun gk c i wr=>∃ (k cv:Nat) (M:List Nat),gk+k=m∧c=.int .u64 (cv:Nat)∧cv<4294967296∧i=.int .i64 (k:Nat) ∧
  Hid (Own wr g M)∧Aside (Wf M∧Out L M off k∧sg M off k+cv*pw k=sg L off k+sg bs 0 k*q∧But g w wr))
 case atStart=>exact ⟨0,0,L,by omega,rfl,by omega,rfl,HO,HR.out.2.2.2.1,Out.refl _ _ _,by simp [sg_zero],But.refl _ _⟩
 case round =>
  obtain ⟨k,cv,M,hgk,rfl,hcv,rfl,HM,HA⟩:=hrel
  by_cases hk:k<m
  · obtain ⟨hR,hm,hb,hL,hoff⟩:=HR.out
    obtain ⟨hMw,hMo,hMs,hbut⟩:=HA.out;obtain ⟨b,boff,hbB,rfl,hbc⟩:=hR (by intro e;subst e;simp at hm;omega)
    have hbk:wr.cell? ⟨b,boff+k,none⟩=some (.int .u32 ((bs.getD k 0:Nat):Int)):=by
     have h1:=hbut.block b (World.block_lt_of_cell? w ⟨b,boff+k,none⟩ (hbc k (by omega))) (by omega)
     exact (World.cell?_of_block (a:=⟨b,boff+k,none⟩) h1).trans (hbc k (by omega))
    have hgc:=HM.out.cell (off+k) (by rw [hMo.1];omega)
    have hgf:=HM.out.frozen (off+k);obtain ⟨x,hx⟩:∃ x:Nat,M.getD (off+k) 0=x:=⟨_,rfl⟩;obtain ⟨y,hy⟩:∃ y:Nat,bs.getD k 0=y:=⟨_,rfl⟩;have hxl:x<4294967296:=hx ▸ hMw.get _;have hyl:y<4294967296:=hy ▸ hb.get _;rw [hx] at hgc;rw [hy] at hbk;have hp0:=mul_bound y q hyl hq;have hp2:(y:Int)*(q:Int)≤18446744065119617025:=by rw [←Int.natCast_mul];omega
    have hp1:0≤(y:Int)*(q:Int):=by rw [←Int.natCast_mul];omega
    obtain ⟨s,hs⟩:∃ s:Nat,s=(y*q+x+cv)%4294967296:=⟨_,rfl⟩;obtain ⟨d,hd⟩:∃ d:Nat,d=(y*q+x+cv)/4294967296:=⟨_,rfl⟩;have e0:((y*q+x+cv:Nat):Int)=(y:Int)*q+x+cv:=by simp only [Int.natCast_add,Int.natCast_mul]
    have e1:((y:Int)*q+x+cv)%4294967296=(s:Int):=by rw [←e0];omega
    have e2:((y:Int)*q+x+cv)/4294967296=(d:Int):=by rw [←e0];omega
    have HX:Aside (M.getD (off+k) 0=x∧bs.getD k 0=y∧s+d*4294967296=y*q+x+cv∧s<4294967296∧d<4294967296):=⟨hx,hy,by omega,by omega,by omega⟩
    clear hx hy hs hd hR hm hb hL hoff hMw hMo hMs hbut hbc e0 hp0;go_wp2
    go_roundg (gk-1)
    case measure=>omega
    case rel =>
     obtain ⟨hx,hy,he,hs,hd⟩:=HX.out;obtain ⟨hR,hm,hb,hL,hoff⟩:=HR.out;obtain ⟨hMw,hMo,hMs,hbut⟩:=HA.out;refine ⟨k+1,d,M.set (off+k) s,by omega,rfl,hd,by go_num,HM.out.set _ _,hMw.set _ _ hs,(hMo.mono (by omega)).set _ _ (by omega) (by omega),?_,hbut.set _ _⟩
     rw [sg_set_last _ _ _ _ (by rw [hMo.1];omega),sg_succ L off k (by omega),sg_succ bs 0 k (by omega),Nat.zero_add,hy,pw_succ]
     have e:L.getD (off+k) 0=x:=by rw [←hx];exact (hMo.2 _ (by omega)).symm
     rw [e];exact times_step _ _ _ _ _ _ _ _ _ _ hMs he
  · obtain rfl:k=m:=by omega
    go_wp2;go_ret;obtain ⟨hR,hm,hb,hL,hoff⟩:=HR.out;obtain ⟨hMw,hMo,hMs,hbut⟩:=HA.out;refine ⟨M,cv,rfl,hcv,HM.out,hMw,hMo,?_,hbut⟩;rw [hMs,hm,sg_all]
end
section
open Go.RowKit
theorem mul_step (p V b x r q c:Nat) (h:V+p*r=b*q):V+p*(r+q*x)=(b+p*x)*q:=by grind
theorem mul_any (xs bs:List Nat) (ao bo:Option Addr) (n cap m capb B:Nat) (w:World) (hn:n=xs.length) (hm:m=bs.length) (hc:n≤cap) (hcb:m≤capb) (hbig:n+m≤70368744177664)
 (hx:Wf xs) (hb:Wf bs) (hR:Rd B w ao xs) (hS:Rd B w bo bs) (hB:B≤w.heap.size) :
 Calls Tryz.prog 189 #[.slice ao n cap,.slice bo m capb] w fun r w'=>∃ v,r=.returned v∧Nt w.heap.size w' v (val xs*val bs)∧Below w.heap.size w w':=by
 obtain ⟨W1,hW1⟩:∃ W,W=w.alloc (.cells (madeCells #[.int .u32 0] (n+m)) 133):=⟨_,rfl⟩;have hO1:Own W1 w.heap.size (List.replicate (n+m) 0):=by rw [hW1];exact Own.made w (n+m)
 have hB1:Below w.heap.size w W1:=by rw [hW1];exact (Below.refl _ _).alloc (Nat.le_refl _) _
 have hmk:=make_words ((n:Int)+m) (n+m) (by omega) (by omega) w
 rw [←hW1] at hmk;have hR1:Rd B W1 ao xs:=hR.below (hB1.mono hB);have hS1:Rd B W1 bo bs:=hS.below (hB1.mono hB);obtain ⟨g,hg⟩:∃ g,g=w.heap.size:=⟨_,rfl⟩;rw [←hg] at hO1 hmk hB1 hB;have HR:=(qsd (ai hR1 (ai hS1 (ai hm (ai hb (ai hx (ai hn (ai hB1 hg))))))));have HO:=hid hO1;clear hn hm hx hb hR hS hO1 hB1 hW1 hR1 hS1 hg;go_enter Tryz.func189,Tryz.ntmps189;go_wp2
 go_loopg [16] n (fun gk i wr=>∃ (k:Nat) (M:List Nat),gk+k=n∧i=.int .i64 (k:Nat) ∧
  Hid (Own wr g M)∧Aside (Wf M∧M.length=n+m∧sg M 0 (k+m)=sg xs 0 k*val bs∧But g W1 wr))
 case atStart=>exact ⟨0,_,by omega,rfl,HO,Wf.zeros _,by simp,by rw [sg_zeros,sg_zero];simp,But.refl _ _⟩
 case round =>
  obtain ⟨k,M,hgk,rfl,HM,HA⟩:=hrel
  by_cases hk:k<n
  · obtain ⟨hR,hS,hm,hb,hx,hn,hB1,hg⟩:=HR.out
    obtain ⟨hMw,hMl,hMs,hbut⟩:=HA.out;have hW1s:g≤W1.heap.size:=by have:=hB1.size;omega
    obtain ⟨b,boff,hbB,rfl,hbc⟩:=hR (by intro e;subst e;simp at hn;omega)
    have hbk:wr.cell? ⟨b,boff+k,none⟩=some (.int .u32 ((xs.getD k 0:Nat):Int)):=by
     have h1:=hbut.block b (World.block_lt_of_cell? W1 ⟨b,boff+k,none⟩ (hbc k (by omega))) (by omega)
     exact (World.cell?_of_block (a:=⟨b,boff+k,none⟩) h1).trans (hbc k (by omega))
    obtain ⟨y,hy⟩:∃ y:Nat,xs.getD k 0=y:=⟨_,rfl⟩;have hyl:y<4294967296:=hy ▸ hx.get _;rw [hy] at hbk;have H:=hid (addTimes_any M bs g k m (n+m-k) bo m capb B y wr HM.out (by omega) hm (Nat.le_refl _) (by omega) (by omega) hMw hb (hS.but hbut (by omega) hB) hB hyl)
    have HX:=(qsd (ai hy hn));clear hy hR hS hm hb hx hn hB1 hg hMw hMl hMs hbut hbc hW1s
    go_wp2_with fail
    refine H.out.mono ?_;rintro r W3 ⟨M2,c,rfl,hc1,hO3,hM2,hout,hsum,hbut2⟩;obtain ⟨hMw,hMl,hMs,hbut⟩:=HA.out;have hgc:=hO3.cell (k+m) (by rw [hout.1];omega)
    have hgf:=hO3.frozen (k+m);have HI:=(qsd (ai hc1 (ai hO3 (ai hM2 (ai hout (ai hsum hbut2))))));clear hc1 hO3 hM2 hout hsum hbut2 hMw hMl hMs hbut H;go_wp2
    go_roundg (gk-1)
    case measure=>omega
    case rel =>
     obtain ⟨hy,hn⟩:=HX.out;obtain ⟨hMw,hMl,hMs,hbut⟩:=HA.out;obtain ⟨hc1,hO3,hM2,hout,hsum,hbut2⟩:=HI.out;refine ⟨k+1,M2.set (k+m) c,by omega,by go_num,hO3.set _ _,hM2.set _ _ hc1,by simp [hout.1,hMl],?_,(hbut.trans hbut2).set _ _⟩
     have e1:=sg_set_last M2 0 (k+m) c (by rw [hout.1];omega)
     rw [Nat.zero_add] at e1;have e2:=sg_add M2 0 k m (by rw [hout.1];omega)
     have e3:=sg_add M 0 k m (by omega)
     rw [Nat.zero_add] at e2 e3;have e4:=hout.below 0 k (by omega) (by omega)
     rw [show k+1+m=k+m+1 by omega,e1,e2,e4,sg_succ xs 0 k (by omega),Nat.zero_add,hy,pw_add]
     rw [e3] at hMs;rw [Nat.mul_comm c] at hsum;have:=mul_step (pw k) _ _ y _ _ c hMs;rw [←hsum] at this;rw [←this,Nat.mul_add,Nat.mul_assoc,Nat.add_assoc]
  · obtain rfl:k=n:=by omega
    obtain ⟨hMw,hMl,hMs,hbut⟩:=HA.out;have T:=hid (trim_any M (some ⟨g,0,none⟩) (k+m) (k+m) (g+1) wr hMl.symm (Nat.le_refl _) (by omega) (by simpa [hMl,List.take_of_length_le] using Rd.ofOwn HM.out 0 (k+m)))
    clear hMw hMl hMs hbut
    go_wp2_with fail
    refine T.out.mono ?_;rintro r w1 ⟨rfl,rfl⟩;go_wp2;go_ret;obtain ⟨hR,hS,hm,hb,hx,hn,hB1,hg⟩:=HR.out;obtain ⟨hMw,hMl,hMs,hbut⟩:=HA.out;have e1:sg M 0 (k+m)=val M:=by rw [←hMl];exact sg_all M
    have e2:sg xs 0 k=val xs:=by rw [hn];exact sg_all xs
    rw [e1,e2] at hMs;refine ⟨_,rfl,?_,?_⟩
    · have N:=Nt.ofOwn (lo:=g) HM.out (Nat.le_refl _) hMw (by rw [hMl];unfold maxLen;omega)
      rw [←hMs,←hg];rw [hMl] at N;exact N
    · rw [←hg]
      exact But.below hB1 hbut (by have:=hB1.size;omega) (Nat.le_refl _)
end
section
open Go.RowKit
theorem cmp_words (xs ys:List Nat) (hx:Wf xs) (hy:Wf ys) (j d:Nat) (h1:j+1+d≤xs.length) (h2:j+1+d≤ys.length) (ht:sg xs (j+1) d=sg ys (j+1) d) (hlt:xs.getD j 0<ys.getD j 0) :
 sg xs 0 (j+1+d)<sg ys 0 (j+1+d):=by
 rw [sg_add xs 0 (j+1) d (by omega),sg_add ys 0 (j+1) d (by omega),Nat.zero_add,ht,sg_succ xs 0 j (by omega),sg_succ ys 0 j (by omega),Nat.zero_add]
 have h3:=sg_lt xs 0 j hx (by omega)
 have h4:pw j*(xs.getD j 0+1)≤pw j*ys.getD j 0:=Nat.mul_le_mul_left _ hlt;rw [Nat.mul_add] at h4;omega
theorem cmp_len (xs ys:List Nat) (hx:Wf xs) (hy:Wf ys) (h:nl xs<nl ys):val xs<val ys:=by
 rw [nl_eq_length xs hx,nl_eq_length ys hy] at h;have h1:=ws_len_lt (val xs);have h2:val ys≠0:=by intro e;rw [e,ws_zero] at h;simp at h
 have h3:=ws_len_ge (val ys) h2;have h4:=pw_mono (show (ws (val xs)).length≤(ws (val ys)).length-1 by omega)
 omega
theorem cmpI_lt {x y:Nat}(h:x<y):cmpI x y=-1:=by simp [cmpI,h]
theorem cmpI_gt {x y:Nat}(h:y<x):cmpI x y=1:=by simp [cmpI,h];omega
theorem cmpI_eq {x y:Nat}(h:x=y):cmpI x y=0:=by simp [cmpI,h]
end
section
open Go.RowKit
abbrev LG (X:Nat):Prop:=8192<(ws X).length
def mulS (X Y:Nat):Nat×Int:=if LG X∨LG Y then (0,2) else if LG (X*Y) then (0,2) else (X*Y,0)
def shiftS (X:Nat) (by':Int):Nat×Int:=if LG X then (0,2) else if X=0 then (0,0) else if by'<0 then (X/2^(-by').toNat,0) else if 262144-(bl X:Int)<by' then (0,2) else (X*2^by'.toNat,0)
def One (lo:Nat) (w:World) (r:Ending) (a:Nat×Int):Prop:=∃ v,r=.returned (.tuple #[v,.int .i64 a.2])∧Nt lo w v a.1
theorem trimX (xs:List Nat) (ao:Option Addr) (n cap B:Nat) (w:World) (hn:n=xs.length) (hc:n≤cap) (hm:n≤70368744177664) (hx:Wf xs) (hR:Rd B w ao xs) :
 (Calls Tryz.prog 150 #[.slice ao n cap] w fun r w'=>r=.returned (.slice ao (ws (val xs)).length cap)∧w'=w)∧Rd B w ao (ws (val xs))∧(ws (val xs)).length≤n:=by
 have T:=trim_any xs ao n cap B w hn hc (by omega) hR
 have hl:=nl_le xs;have hf:=form_eq xs hx;have hlen:=nl_eq_length xs hx;rw [hlen] at T hl hf;exact ⟨T,by rw [←hf];exact hR.take _,by omega⟩
theorem longb (n:Nat) (ao:Option Addr) (cap:Nat) (w:World) (b:Bool) (hb:decide (8192<n)=b) :
 Calls Tryz.prog 187 #[.slice ao n cap] w fun r w'=>r=.returned (.bool b)∧w'=w:=by
 have h:=long_any n ao cap w;have e:decide ((8192:Int)<(n:Int))=b:=by rw [←hb];simp only [decide_eq_decide];omega
 rw [e] at h;exact h
end
end Go.Proofs.YthfkleadcnkglaaGreatDoor
