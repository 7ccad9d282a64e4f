import Derived.Test.YtjldfhecnaiinaaGreatDoorZ14x
import Derived.Deep.RegionWith
import Derived.Deep.Cut
import Derived.Test.YtjldfhecnaiinaaGreatDoorD38x
import Derived.Test.YtjldfhecnaiinaaGreatDoorD21x
import Derived.Test.YtjldfhecnaiinaaGreatDoorP2x
import Derived.Deep.RegionHeld3
import Derived.Test.YtjldfhecnaiinaaGreatDoorM1x
import Derived.Test.YtjldfhecnaiinaaGreatDoorS7x
import Derived.Test.YtjldfhecnaiinaaGreatDoorW45x
import Derived.BigQuiet
set_option linter.unusedVariables false
set_option linter.unusedSimpArgs false
set_option maxHeartbeats 16000000
set_option maxRecDepth 20000
namespace Go.Proofs.YtjldfhecnaiinaaGreatDoor
namespace J
end J
namespace Ps
open Go.RowKit
open Go.Proofs.YtjldfhecnaiinaaGreatDoor.B (f64bits f64frombits bw)
attribute [local go_sem] f64bits f64frombits
theorem kd_le (b:Nat):kd b≤5:=by unfold kd;(repeat' split) <;> omega
open Go.RowKit
open Go.Proofs.YtjldfhecnaiinaaGreatDoor.B (f64bits f64frombits bw bcell)
attribute [local go_sem] f64bits f64frombits
def cn (k:Nat) (xs:List Nat):Nat:=xs.countP (fun x=>kd x==k)
theorem cn_append (k:Nat) (xs ys:List Nat):cn k (xs++ys)=cn k xs+cn k ys:=by simp [cn,List.countP_append]
def one (k x:Nat):Nat:=if kd x=k then 1 else 0
theorem cn_one (k x:Nat):cn k [x]=one k x:=by unfold cn one;by_cases h:kd x=k <;> simp [h]
theorem take_succ' (xs:List Nat) (i:Nat) (h:i<xs.length):xs.take (i+1)=xs.take i++[xs.getD i 0]:=by
 rw [List.take_succ_eq_append_getElem h,List.getD_eq_getElem?_getD,List.getElem?_eq_getElem h];rfl
theorem cn_succ (k:Nat) (xs:List Nat) (i:Nat) (h:i<xs.length):cn k (xs.take (i+1))=cn k (xs.take i)+one k (xs.getD i 0):=by
 rw [take_succ' xs i h,cn_append,cn_one]
theorem cn_le (k:Nat) (xs:List Nat):cn k xs≤xs.length:=List.countP_le_length
def SpB (w:World) (g:Nat) (n u d m p a:Int):Prop:=w.heap[g]?=some (.cells #[.int .i64 n,.int .i64 u,.int .i64 d,.int .i64 m,.int .i64 p,.int .i64 a] 51 (0,0))
theorem SpB.lt {w:World}{g:Nat}{n u d m p a:Int}(h:SpB w g n u d m p a):g<w.heap.size:=(Array.getElem?_eq_some_iff.1 h).1
theorem SpB.c0 {w:World}{g:Nat}{n u d m p a:Int}(h:SpB w g n u d m p a):w.cell? ⟨g,0,none⟩=some (.int .i64 n):=by unfold SpB at h;simp [World.cell?,h]
theorem SpB.c1 {w:World}{g:Nat}{n u d m p a:Int}(h:SpB w g n u d m p a):w.cell? ⟨g,1,none⟩=some (.int .i64 u):=by unfold SpB at h;simp [World.cell?,h]
theorem SpB.c2 {w:World}{g:Nat}{n u d m p a:Int}(h:SpB w g n u d m p a):w.cell? ⟨g,2,none⟩=some (.int .i64 d):=by unfold SpB at h;simp [World.cell?,h]
theorem SpB.c3 {w:World}{g:Nat}{n u d m p a:Int}(h:SpB w g n u d m p a):w.cell? ⟨g,3,none⟩=some (.int .i64 m):=by unfold SpB at h;simp [World.cell?,h]
theorem SpB.c4 {w:World}{g:Nat}{n u d m p a:Int}(h:SpB w g n u d m p a):w.cell? ⟨g,4,none⟩=some (.int .i64 p):=by unfold SpB at h;simp [World.cell?,h]
theorem SpB.c5 {w:World}{g:Nat}{n u d m p a:Int}(h:SpB w g n u d m p a):w.cell? ⟨g,5,none⟩=some (.int .i64 a):=by unfold SpB at h;simp [World.cell?,h]
theorem SpB.frozen {w:World}{g:Nat}{n u d m p a:Int}(h:SpB w g n u d m p a) (i:Nat):w.frozen? ⟨g,i,none⟩=false:=by unfold SpB at h;simp [World.frozen?,h]
theorem SpB.below {w w':World}{g B:Nat}{n u d m p a:Int}(h:SpB w g n u d m p a) (hb:Below B w w') (hg:g<B):SpB w' g n u d m p a:=by
 unfold SpB at h ⊢;rw [hb.block g hg];exact h
theorem count_any (k g:Nat) (n u d m p a:Int) (w:World) (hk:k≤5) (hB:SpB w g n u d m p a) (hn:0≤n∧n≤65536) (hu:0≤u∧u≤65536) (hd:0≤d∧d≤65536) (hm:0≤m∧m≤65536) (hp:0≤p∧p≤65536) :
 Calls Tryz.prog 66 #[.pointer (some ⟨g,0,none⟩),.int .i64 (k:Nat)] w fun r w'=>r=.returned (.tuple #[]) ∧
  SpB w' g (if k=0 then n+1 else n) (if k=1 then u+1 else u) (if k=2 then d+1 else d) (if k=3 then m+1 else m) (if k=4 then p+1 else p) a∧But g w w':=by
 have hc0:=hB.c0;have hc1:=hB.c1;have hc2:=hB.c2;have hc3:=hB.c3;have hc4:=hB.c4;have hf0:=hB.frozen 0;have hf1:=hB.frozen 1;have hf2:=hB.frozen 2;have hf3:=hB.frozen 3;have hf4:=hB.frozen 4;have HB:=qsd hB;clear hB;obtain rfl|rfl|rfl|rfl|rfl|rfl:k=0∨k=1∨k=2∨k=3∨k=4∨k=5:=by omega
 · go_enter Tryz.func66,Tryz.ntmps66
   go_wp2
   go_end0
   refine ⟨rfl,?_,(But.refl _ _).set _ _⟩;have h:=HB.out;unfold SpB at h ⊢;simp [World.setCell,Array.getElem?_modify,h]
 · go_enter Tryz.func66,Tryz.ntmps66
   go_wp2
   go_end0
   refine ⟨rfl,?_,(But.refl _ _).set _ _⟩;have h:=HB.out;unfold SpB at h ⊢;simp [World.setCell,Array.getElem?_modify,h]
 · go_enter Tryz.func66,Tryz.ntmps66
   go_wp2
   go_end0
   refine ⟨rfl,?_,(But.refl _ _).set _ _⟩;have h:=HB.out;unfold SpB at h ⊢;simp [World.setCell,Array.getElem?_modify,h]
 · go_enter Tryz.func66,Tryz.ntmps66
   go_wp2
   go_end0
   refine ⟨rfl,?_,(But.refl _ _).set _ _⟩;have h:=HB.out;unfold SpB at h ⊢;simp [World.setCell,Array.getElem?_modify,h]
 · go_enter Tryz.func66,Tryz.ntmps66
   go_wp2
   go_end0
   refine ⟨rfl,?_,(But.refl _ _).set _ _⟩;have h:=HB.out;unfold SpB at h ⊢;simp [World.setCell,Array.getElem?_modify,h]
 · go_enter Tryz.func66,Tryz.ntmps66
   go_wp2
   go_end0
   exact ⟨rfl,HB.out,But.refl _ _⟩
def rf (n u d a b:Int):Int:=if 0<n∧a=2 then 60 else if 0<u+d∧b=2 then 61 else 0
theorem refusal_any (n u d m p l a b:Int) (w:World) (hu:0≤u∧u≤65536) (hd:0≤d∧d≤65536) :
 Calls Tryz.prog 67 #[.agg #[.int .i64 n,.int .i64 u,.int .i64 d,.int .i64 m,.int .i64 p,.int .i64 l],.agg #[.int .i64 a,.int .i64 b]] w fun r w'=>r=.returned (.int .i64 (rf n u d a b))∧Below w.heap.size w w':=by
 have below:∀ o o',Below w.heap.size w ((w.alloc o).alloc o'):=fun o o'=>((Below.refl _ _).alloc (Nat.le_refl _) _).alloc (by simp) _
 obtain ⟨t,ht⟩:∃ t,u+d=t:=⟨_,rfl⟩;have ht2:-9223372036854775808≤t∧t≤9223372036854775807:=by omega
 unfold rf;rw [ht]
 by_cases h1:0<n
 · by_cases h2:a=2
   · rw [if_pos ⟨h1,h2⟩]
     subst h2;go_enter Tryz.func67,Tryz.ntmps67;go_wp2;go_ret;exact ⟨rfl,below _ _⟩
   · have h2':(a==2)=false:=by rw [beq_eq_false_iff_ne];exact h2
     rw [if_neg (fun h=>h2 h.2)]
     by_cases h3:0<t
     · by_cases h4:b=2
       · rw [if_pos ⟨h3,h4⟩]
         subst h4;go_enter Tryz.func67,Tryz.ntmps67;go_wp2;go_ret;exact ⟨rfl,below _ _⟩
       · have h4':(b==2)=false:=by rw [beq_eq_false_iff_ne];exact h4
         rw [if_neg (fun h=>h4 h.2)]
         go_enter Tryz.func67,Tryz.ntmps67;go_wp2;go_ret;exact ⟨rfl,below _ _⟩
     · have h3':decide (0<t)=false:=decide_eq_false h3
       rw [if_neg (fun h=>h3 h.1)]
       go_enter Tryz.func67,Tryz.ntmps67;go_wp2;go_ret;exact ⟨rfl,below _ _⟩
 · have h1':decide (0<n)=false:=decide_eq_false h1
   rw [if_neg (fun h=>h1 h.1)]
   by_cases h3:0<t
   · by_cases h4:b=2
     · rw [if_pos ⟨h3,h4⟩]
       subst h4;go_enter Tryz.func67,Tryz.ntmps67;go_wp2;go_ret;exact ⟨rfl,below _ _⟩
     · have h4':(b==2)=false:=by rw [beq_eq_false_iff_ne];exact h4
       rw [if_neg (fun h=>h4 h.2)]
       go_enter Tryz.func67,Tryz.ntmps67;go_wp2;go_ret;exact ⟨rfl,below _ _⟩
   · have h3':decide (0<t)=false:=decide_eq_false h3
     rw [if_neg (fun h=>h3 h.1)]
     go_enter Tryz.func67,Tryz.ntmps67;go_wp2;go_ret;exact ⟨rfl,below _ _⟩
open Go.RowKit
open Go.Proofs.YtjldfhecnaiinaaGreatDoor.B (f64bits f64frombits bw bcell)
attribute [local go_sem] f64bits f64frombits
theorem SpB.made (w:World) (n u d m p a:Int):SpB (w.alloc (.cells #[.int .i64 n,.int .i64 u,.int .i64 d,.int .i64 m,.int .i64 p,.int .i64 a] 51)) w.heap.size n u d m p a:=heap_alloc_new w _
def SpT (w:World) (g:Nat) (xs:List Nat) (a:Int):Prop:=SpB w g (cn 5 xs:Nat) (cn 3 xs:Nat) (cn 4 xs:Nat) (cn 1 xs:Nat) (cn 2 xs:Nat) a
theorem cn_bd (k:Nat) (xs:List Nat) (n:Nat) (h:xs.length≤n) (hn:n≤65536):0≤((cn k xs:Nat):Int)∧((cn k xs:Nat):Int)≤65536:=by have:=cn_le k xs;omega
theorem But.set6 {a w:World}{g:Nat}(h:But g a w) (u0 u1 u2 u3 u4 u5:Value) :
 But g a ((((((w.setCell ⟨g,0,none⟩ u0).setCell ⟨g,1,none⟩ u1).setCell ⟨g,2,none⟩ u2).setCell ⟨g,3,none⟩ u3).setCell ⟨g,4,none⟩ u4).setCell ⟨g,5,none⟩ u5) :=
 ((((((h.set 0 u0).set 1 u1).set 2 u2).set 3 u3).set 4 u4).set 5 u5)
theorem cset {w:World}{b o:Nat}{u:Value}(h:w.cell? ⟨b,o,none⟩=some u) (v:Value):(w.setCell ⟨b,o,none⟩ v).cell? ⟨b,o,none⟩=some v:=by
 simp only [World.cell?] at h ⊢;simp only [World.setCell,Array.getElem?_modify]
 cases hb:w.heap[b]? with
 | none=>rw [hb] at h;simp at h
 | some ob =>
   rw [hb] at h
   cases ob <;> simp_all
   rename_i cs _ _
   by_cases hl:o<cs.size
   · simp [hl]
   · rw [Array.getElem?_eq_none (by omega)] at h;cases h
theorem csetm (w:World) (b o:Nat) (v:Value):(w.setCell ⟨b,o,none⟩ v).cell? ⟨b,o,none⟩=(w.cell? ⟨b,o,none⟩).map (fun _=>v):=by
 cases h:w.cell? ⟨b,o,none⟩ with
 | some u=>rw [cset h v];rfl
 | none =>
   simp only [World.cell?] at h ⊢;simp only [World.setCell,Array.getElem?_modify]
   cases hb:w.heap[b]? with
   | none=>simp
   | some ob =>
     rw [hb] at h
     cases ob <;> simp_all
open Go.RowKit
open Go.Proofs.YtjldfhecnaiinaaGreatDoor.B (f64bits f64frombits bw bcell)
attribute [local go_sem] f64bits f64frombits
def fin (xs:List Nat):List Nat:=xs.filter (fun x=>decide (kd x≤2))
theorem fin_append (xs ys:List Nat):fin (xs++ys)=fin xs++fin ys:=by simp [fin,List.filter_append]
theorem fin_le (xs:List Nat):(fin xs).length≤xs.length:=List.length_filter_le _ _
theorem fin_in (xs:List Nat) (i:Nat) (h:i<xs.length) (hk:kd (xs.getD i 0)≤2):fin (xs.take (i+1))=fin (xs.take i)++[xs.getD i 0]:=by
 rw [take_succ' xs i h,fin_append];simp [fin];simpa [List.getD_eq_getElem?_getD] using hk
theorem fin_out (xs:List Nat) (i:Nat) (h:i<xs.length) (hk:¬ kd (xs.getD i 0)≤2):fin (xs.take (i+1))=fin (xs.take i):=by
 rw [take_succ' xs i h,fin_append];simp [fin];simpa [List.getD_eq_getElem?_getD] using hk
def siftE (a b:Int) (xs:List Nat):Int:=if may a b=false then 1 else if 65536<xs.length then 2 else rf (cn 5 xs:Nat) (cn 3 xs:Nat) (cn 4 xs:Nat) a b
def siftL (a b:Int) (xs:List Nat):List Nat:=if siftE a b xs=0 then fin xs else []
def siftS (a b:Int) (xs:List Nat):Value:=if siftE a b xs=0 then .agg #[.int .i64 (cn 5 xs:Nat),.int .i64 (cn 3 xs:Nat),.int .i64 (cn 4 xs:Nat),.int .i64 (cn 1 xs:Nat),.int .i64 (cn 2 xs:Nat),.int .i64 (xs.length:Nat)] else .agg #[.int .i64 0,.int .i64 0,.int .i64 0,.int .i64 0,.int .i64 0,.int .i64 0]
def SiftAns (w:World) (a b:Int) (xs:List Nat) (r:Ending) (w':World):Prop:=∃ v,r=.returned (.tuple #[v,siftS a b xs,.int .i64 (siftE a b xs)])∧Lt w.heap.size w' v (siftL a b xs)∧Below w.heap.size w w'
theorem SiftAns.no {w w':World}{a b:Int}{xs:List Nat}(e:Int) (he:siftE a b xs=e) (h0:e≠0) (hb:Below w.heap.size w w'):SiftAns w a b xs (.returned (.tuple #[.slice none 0 0,.agg #[.int .i64 0,.int .i64 0,.int .i64 0,.int .i64 0,.int .i64 0,.int .i64 0],.int .i64 e])) w':=by
 subst he;refine ⟨.slice none 0 0,?_,?_,hb⟩
 · unfold siftS;rw [if_neg h0]
 · unfold siftL;rw [if_neg h0];exact Lt.nil _ _
theorem SiftAns.yes {w w':World}{a b:Int}{xs:List Nat}{v:Value}(he:siftE a b xs=0) (hv:Rw w.heap.size w' v (fin xs).length ((fin xs).map U)) (hb:Below w.heap.size w w') :
 SiftAns w a b xs (.returned (.tuple #[v,.agg #[.int .i64 (cn 5 xs:Nat),.int .i64 (cn 3 xs:Nat),.int .i64 (cn 4 xs:Nat),.int .i64 (cn 1 xs:Nat),.int .i64 (cn 2 xs:Nat),.int .i64 (xs.length:Nat)],.int .i64 0])) w':=by
 refine ⟨v,?_,?_,hb⟩
 · rw [he];unfold siftS;rw [if_pos he]
 · unfold siftL;rw [if_pos he];exact hv
theorem Rw.below {lo:Nat}{w w':World}{v:Value}{n:Nat}{ys:List Value}(h:Rw lo w v n ys) (hb:Below w.heap.size w w'):Rw lo w' v n ys :=
 Keep.row h (Keep.below hb)
theorem Rw.but {lo g:Nat}{w w':World}{v:Value}{n:Nat}{ys:List Value}(h:Rw lo w v n ys) (hb:But g w w') {cur:Array Value}{e:TypeId}(he:e≠24) (hg:w.heap[g]?=some (.cells cur e (0,0))):Rw lo w' v n ys:=by
 refine row_other h fun k hk=>?_
 rcases h.2 with ⟨rfl,_⟩|⟨g2,cap,c2,rfl,_,hg2,_⟩
 · cases hk
 · cases hk
   refine hb.block _ (Array.getElem?_eq_some_iff.1 hg2).1 (fun e2=>?_)
   subst e2;rw [hg] at hg2
   cases hg2
   exact he rfl
theorem Rw.mono {lo lo':Nat}{w:World}{v:Value}{n:Nat}{ys:List Value}(h:Rw lo w v n ys) (hl:lo'≤lo):Rw lo' w v n ys:=by
 refine ⟨h.1,?_⟩
 rcases h.2 with hn|⟨g,cap,cur,rfl,hlo,rest⟩
 · exact .inl hn
 · exact .inr ⟨g,cap,cur,rfl,by omega,rest⟩
theorem Rw.low {lo:Nat}{w:World}{v:Value}{n:Nat}{ys:List Value}(h:Rw lo w v n ys):∀ b,v.ownBlock=some b→lo≤b:=by
 intro b hb
 rcases h.2 with ⟨rfl,_⟩|⟨g,cap,cur,rfl,hlo,_⟩
 · cases hb
 · cases hb;exact hlo
theorem make_room (n:Nat) (hn:n≤65536) (w:World) :
 (Instr.makeSlice 23 (.int .i64 0) (.int .i64 (n:Nat))).run Tryz.prog w=.ok (.slice (some ⟨w.heap.size,0,none⟩) 0 n) (w.alloc (.cells (madeCells #[.float .f64 0] n) 24)):=by
 obtain ⟨i0,hi,hz0,hz1,hz2⟩:=info_parts Tryz.info24;have hr:=run_make (P:=Tryz.prog) w 23 24 i0 (.float .f64 0) Tryz.underlying23 hi hz0 .i64 .i64 0 (n:Int) (Int.le_refl _) (by omega) (by rw [hz2];omega) (by omega)
 rw [hz1,Nat.mul_one] at hr;simp only [Int.toNat_natCast,Int.toNat_zero] at hr;exact hr
theorem row_made (lo:Nat) (w:World) (n:Nat) (hn:n≤65536) (hlo:lo≤w.heap.size):Rw lo (w.alloc (.cells (madeCells #[.float .f64 0] n) 24)) (.slice (some ⟨w.heap.size,0,none⟩) 0 n) 0 []:=by
 refine ⟨rfl,.inr ⟨w.heap.size,n,madeCells #[.float .f64 0] n,rfl,hlo,heap_alloc_new w _,by omega,by unfold maxLen;omega,?_,?_⟩⟩
 · have:=congrArg List.length (toList_madeCells_one (.float .f64 0) n)
   simpa using this
 · simp
theorem push (lo:Nat) (w:World) (v:Value) (ys:List Nat) (x:Nat) (hrow:Rw lo w v ys.length (ys.map U)) (hn:ys.length≤65536) (hlo:lo≤w.heap.size) :
 ∃ v' w',(Builtin.append_ #[23,23] 23 #[v,.slice (some ⟨w.heap.size,0,none⟩) 1 1]).run Tryz.prog (w.alloc (.cells #[.float .f64 x] 24))=.ok v' w'∧Rw lo w' v' (ys++[x]).length ((ys++[x]).map U) ∧
   Below lo w w'∧(∀ (g:Nat) (cur:Array Value) (e:TypeId),e≠24→w.heap[g]?=some (.cells cur e (0,0))→w'.heap[g]?=some (.cells cur e (0,0)))∧w.heap.size≤w'.heap.size:=by
 obtain ⟨v',w',h1,h2,h3,_,_⟩:=append_word (w.alloc (.cells #[.float .f64 x] 24)) lo v ys.length (ys.map U) (.float .f64 x) w.heap.size 23 (hrow.alloc _) (by unfold World.cell?;simp only [heap_alloc_new];rfl) rfl (by omega) (by simp;omega)
 refine ⟨v',w',h1,by simpa [U] using h2,((Below.refl lo w).alloc hlo _).grown h3 (by simp;omega) hrow.low,?_,by have:=h3.size;simp at this;omega⟩
 intro g cur e he hg;have hgl:=(Array.getElem?_eq_some_iff.1 hg).1;rw [h3.block g (by simp;omega) (fun e2=>?_),Below.heap_alloc _ _ _ hgl]
 · exact hg
 · rcases hrow.2 with ⟨rfl,_⟩ | ⟨g2,cap,c2,rfl,_,hg2,_⟩
   · cases e2
   · cases e2
     rw [hg] at hg2
     cases hg2
     exact he rfl
structure SI (lo sb:Nat) (W1:World) (xs:List Nat) (i:Nat) (a:Int) (v:Value) (wr:World):Prop where
 row:Rw lo wr v (fin (xs.take i)).length ((fin (xs.take i)).map U)
 sp:SpT wr sb (xs.take i) a
 bel:Below lo W1 wr
 size:W1.heap.size≤wr.heap.size
theorem SI.kind {lo sb:Nat}{W1:World}{xs:List Nat}{i:Nat}{a:Int}{v:Value}{wr w1:World}(h:SI lo sb W1 xs i a v wr) (hb:Below wr.heap.size wr w1) (hlo:lo≤wr.heap.size):SI lo sb W1 xs i a v w1 :=
 ⟨h.row.below hb,SpB.below h.sp hb (SpB.lt h.sp),h.bel.trans (hb.mono hlo),Nat.le_trans h.size hb.size⟩
theorem SI.out {lo sb:Nat}{W1:World}{xs:List Nat}{i:Nat}{a:Int}{v:Value}{wr w2:World}(h:SI lo sb W1 xs i a v wr) (hi:i<xs.length) (hs:SpT w2 sb (xs.take (i+1)) a) (hb:But sb wr w2) (hlo:lo≤sb) (hl:lo≤wr.heap.size) (hk:¬ kd (xs.getD i 0)≤2):SI lo sb W1 xs (i+1) a v w2 :=
 ⟨by rw [fin_out xs i hi hk];exact h.row.but hb (by decide) h.sp,hs,But.below h.bel hb hl hlo,Nat.le_trans h.size hb.size⟩
theorem SI.row2 {lo sb:Nat}{W1:World}{xs:List Nat}{i:Nat}{a:Int}{v:Value}{wr w2:World}(h:SI lo sb W1 xs i a v wr) (hb:But sb wr w2):Rw lo w2 v (fin (xs.take i)).length ((fin (xs.take i)).map U):=h.row.but hb (by decide) h.sp
theorem SpB.keep {w w':World}{g:Nat}{n u d m p a:Int}(h:SpB w g n u d m p a) (hk:∀ (g:Nat) (cur:Array Value) (e:TypeId),e≠24→w.heap[g]?=some (.cells cur e (0,0))→w'.heap[g]?=some (.cells cur e (0,0))):SpB w' g n u d m p a :=
 hk _ _ _ (by decide) h
theorem SI.into {lo sb:Nat}{W1:World}{xs:List Nat}{i:Nat}{a:Int}{v v':Value}{wr w2 w3:World}(h:SI lo sb W1 xs i a v wr) (hi:i<xs.length) (hs:SpT w2 sb (xs.take (i+1)) a) (hb:But sb wr w2) (hlo:lo≤sb) (hl:lo≤wr.heap.size) (hk:kd (xs.getD i 0)≤2)
 (hrow:Rw lo w3 v' (fin (xs.take i)++[xs.getD i 0]).length ((fin (xs.take i)++[xs.getD i 0]).map U)) (hb3:Below lo w2 w3) (hkeep:∀ (g:Nat) (cur:Array Value) (e:TypeId),e≠24→w2.heap[g]?=some (.cells cur e (0,0))→w3.heap[g]?=some (.cells cur e (0,0))) (hsz:w2.heap.size≤w3.heap.size):SI lo sb W1 xs (i+1) a v' w3 :=
 ⟨by rw [fin_in xs i hi hk];exact hrow,SpB.keep hs hkeep,(But.below h.bel hb hl hlo).trans hb3,Nat.le_trans (Nat.le_trans h.size hb.size) hsz⟩
theorem kp_one (x:Nat) (n u d m p:Nat):(if kp (kd x)=0 then ((n:Nat):Int)+1 else n)=((n+one 5 x:Nat):Int)∧(if kp (kd x)=1 then ((u:Nat):Int)+1 else u)=((u+one 3 x:Nat):Int)∧(if kp (kd x)=2 then ((d:Nat):Int)+1 else d)=((d+one 4 x:Nat):Int) ∧
 (if kp (kd x)=3 then ((m:Nat):Int)+1 else m)=((m+one 1 x:Nat):Int)∧(if kp (kd x)=4 then ((p:Nat):Int)+1 else p)=((p+one 2 x:Nat):Int):=by
 have hk:=kd_le x;unfold one;generalize kd x=k at hk;obtain rfl|rfl|rfl|rfl|rfl|rfl:k=0∨k=1∨k=2∨k=3∨k=4∨k=5:=by omega
 all_goals simp [kp]
theorem kp_ge (x:Nat):3≤kp (kd x)↔kd x≤2:=by
 have hk:=kd_le x;generalize kd x=k at hk;obtain rfl|rfl|rfl|rfl|rfl|rfl:k=0∨k=1∨k=2∨k=3∨k=4∨k=5:=by omega
 all_goals simp [kp]
theorem kp_le (x:Nat):kp (kd x)≤5:=by unfold kp;(repeat' split) <;> omega
theorem SpT.counted {w w':World}{sb:Nat}{xs:List Nat}{i:Nat}{a:Int}(hi:i<xs.length)
 (h:SpB w' sb (if kp (kd (xs.getD i 0))=0 then ((cn 5 (xs.take i):Nat):Int)+1 else ((cn 5 (xs.take i):Nat):Int)) (if kp (kd (xs.getD i 0))=1 then ((cn 3 (xs.take i):Nat):Int)+1 else ((cn 3 (xs.take i):Nat):Int)) (if kp (kd (xs.getD i 0))=2 then ((cn 4 (xs.take i):Nat):Int)+1 else ((cn 4 (xs.take i):Nat):Int)) (if kp (kd (xs.getD i 0))=3 then ((cn 1 (xs.take i):Nat):Int)+1 else ((cn 1 (xs.take i):Nat):Int)) (if kp (kd (xs.getD i 0))=4 then ((cn 2 (xs.take i):Nat):Int)+1 else ((cn 2 (xs.take i):Nat):Int)) a) :
 SpT w' sb (xs.take (i+1)) a:=by
 obtain ⟨h1,h2,h3,h4,h5⟩:=kp_one (xs.getD i 0) (cn 5 (xs.take i)) (cn 3 (xs.take i)) (cn 4 (xs.take i)) (cn 1 (xs.take i)) (cn 2 (xs.take i));rw [h1,h2,h3,h4,h5] at h;unfold SpT;rw [cn_succ 5 xs i hi,cn_succ 3 xs i hi,cn_succ 4 xs i hi,cn_succ 1 xs i hi,cn_succ 2 xs i hi];exact h
end Ps
namespace Ps
open Go.RowKit
open Go.Proofs.YtjldfhecnaiinaaGreatDoor.B (f64bits f64frombits bw bcell)
attribute [local go_sem] f64bits f64frombits
theorem Sift_arg (xs:List Nat) (ao:Option Addr) (n cap:Nat) (a b:Int) (w:World) (hm:may a b=false) :
 Calls Tryz.prog 28 #[.slice ao n cap,.agg #[.int .i64 a,.int .i64 b]] w (SiftAns w a b xs):=by
 have H:=hid (May_any a b);rw [hm] at H;have HE:Aside (siftE a b xs=1):=by unfold siftE;rw [hm];rfl
 clear hm;go_enter Tryz.func28,Tryz.ntmps28
 go_wp2_with fail
 refine (H.out _).mono ?_;rintro r w1 ⟨rfl,hb⟩;have hsz:=hb.size;simp at hsz;obtain ⟨hc,hf⟩:=bcell hb;have HB:=qsd hb;clear hb;go_wp2;refine bodyPost_ret (v:=.tuple #[.slice none 0 0,.agg #[.int .i64 0,.int .i64 0,.int .i64 0,.int .i64 0,.int .i64 0,.int .i64 0],.int .i64 1]) (by simp [results,Tryz.results28,go_sem,csetm,hc]) rfl (SiftAns.no 1 HE.out (by decide) ?_)
 exact But.below ((((Below.refl _ w).alloc (Nat.le_refl _) _).alloc (by simp) _).trans (HB.out.mono (by simp;omega))) (But.set6 (But.refl (w.heap.size+1) _) _ _ _ _ _ _) (by omega) (by omega)
theorem Sift_long (xs:List Nat) (ao:Option Addr) (n cap:Nat) (a b:Int) (w:World) (hn:n=xs.length) (hm:may a b=true) (hl:65536<n) (hn2:n≤35184372088832) :
 Calls Tryz.prog 28 #[.slice ao n cap,.agg #[.int .i64 a,.int .i64 b]] w (SiftAns w a b xs):=by
 have H:=hid (May_any a b);rw [hm] at H;have HE:Aside (siftE a b xs=2):=by unfold siftE;rw [if_neg (by rw [hm];decide),if_pos (by omega),Aside]
 clear hm hn;go_enter Tryz.func28,Tryz.ntmps28
 go_wp2_with fail
 refine (H.out _).mono ?_;rintro r w1 ⟨rfl,hb⟩;have hsz:=hb.size;simp at hsz;obtain ⟨hc,hf⟩:=bcell hb;have HB:=qsd hb;clear hb;go_wp2;refine bodyPost_ret (v:=.tuple #[.slice none 0 0,.agg #[.int .i64 0,.int .i64 0,.int .i64 0,.int .i64 0,.int .i64 0,.int .i64 0],.int .i64 2]) (by simp [results,Tryz.results28,go_sem,csetm,hc]) rfl (SiftAns.no 2 HE.out (by decide) ?_)
 exact But.below ((((Below.refl _ w).alloc (Nat.le_refl _) _).alloc (by simp) _).trans (HB.out.mono (by simp;omega))) (But.set6 (But.refl (w.heap.size+1) _) _ _ _ _ _ _) (by omega) (by omega)
set_option maxRecDepth 100000 in
theorem Sift_rest (xs:List Nat) (ao:Option Addr) (n cap B:Nat) (a b:Int) (w:World) (hn:n=xs.length) (hm:may a b=true) (hl:n≤65536) (hx:Wf xs) (hR:Rd B w ao xs) (hB:B≤w.heap.size) :
 Calls Tryz.prog 28 #[.slice ao n cap,.agg #[.int .i64 a,.int .i64 b]] w (SiftAns w a b xs):=by
 have H:=hid (May_any a b);rw [hm] at H;have HE:Aside (siftE a b xs=rf (cn 5 xs:Nat) (cn 3 xs:Nat) (cn 4 xs:Nat) a b):=by unfold siftE;rw [if_neg (by rw [hm];decide),if_neg (by omega),Aside]
 have hmk:=make_room n hl;have HX:=(qsd (ai hn (ai hx (ai hR hB))));clear hm hn hx hR hB;go_enter Tryz.func28,Tryz.ntmps28
 go_wp2_with fail
 refine (H.out _).mono ?_;rintro r w1 ⟨rfl,hb⟩;have hsz:=hb.size;simp at hsz;obtain ⟨hc,hf⟩:=bcell hb;have HB:=qsd hb
 have HZ:Aside (SpB w1 (w.heap.size+1) 0 0 0 0 0 0):=by
  have h1:=SpB.made (w.alloc (.cells #[.int .i64 a,.int .i64 b] 29)) 0 0 0 0 0 0;simp only [World.size_alloc] at h1;exact h1.below hb (by simp)
 clear hb;go_wp2
 go_loopg [7,28] n (fun gk lv cv wr=>∃ (i:Nat),gk+i=n∧cv=.int .i64 (i:Nat)∧Aside (SI w1.heap.size (w1.heap.size+1) w1 xs i (n:Nat) lv wr))
 case atStart =>
  refine ⟨0,by omega,rfl,?_⟩
  have h1:=(row_made w1.heap.size w1 n hl (Nat.le_refl _)).alloc (.cells #[.int .i64 0,.int .i64 0,.int .i64 0,.int .i64 0,.int .i64 0,.int .i64 (n:Nat)] 51);have h2:=SpB.made (w1.alloc (.cells (madeCells #[.float .f64 0] n) 24)) 0 0 0 0 0 (n:Nat);simp only [World.size_alloc] at h2;exact ⟨h1,h2,((Below.refl _ _).alloc (Nat.le_refl _) _).alloc (by simp) _,by simp;omega⟩
 case round =>
  obtain ⟨i,hi,rfl,HA⟩:=hrel
  by_cases hin:i=n
  · obtain rfl:gk=0:=by omega
    obtain ⟨hn,hx,hR,hB⟩:=HX.out;have hS:=HA.out;have e:xs.take i=xs:=List.take_of_length_le (by omega)
    have hT:=hS.sp;unfold SpT at hT;rw [e] at hT;have hc0:=hT.c0;have hc1:=hT.c1;have hc2:=hT.c2;have hc3:=hT.c3;have hc4:=hT.c4;have hc5:=hT.c5;have hlt:=hT.lt;have hcb:∀ b o,b<w1.heap.size→wr.cell? ⟨b,o,none⟩=w1.cell? ⟨b,o,none⟩:=fun b o h=>hS.bel.cell (p:=⟨b,o,none⟩) h
    have hp0:wr.cell? ⟨w.heap.size,0,none⟩=some (.int .i64 a):=by rw [hcb _ _ (by omega),hc _ _ (by simp;omega)];simp [go_sem]
    have hp1:wr.cell? ⟨w.heap.size,1,none⟩=some (.int .i64 b):=by rw [hcb _ _ (by omega),hc _ _ (by simp;omega)];simp [go_sem]
    have hZ:SpB wr (w.heap.size+1) 0 0 0 0 0 0:=HZ.out.below hS.bel (by omega)
    have hbd:=fun k=>cn_bd k xs n (by omega) hl
    have HRF:=hid (fun w=>refusal_any (cn 5 xs:Nat) (cn 3 xs:Nat) (cn 4 xs:Nat) (cn 1 xs:Nat) (cn 2 xs:Nat) (n:Nat) a b w (hbd 3) (hbd 4))
    obtain ⟨ee,hee⟩:∃ ee,rf (cn 5 xs:Nat) (cn 3 xs:Nat) (cn 4 xs:Nat) a b=ee:=⟨_,rfl⟩;have HEE:Aside (siftE a b xs=ee):=by rw [Aside,HE.out,hee]
    rw [hee] at HRF;obtain ⟨c5,e5⟩:∃ c,cn 5 xs=c:=⟨_,rfl⟩;obtain ⟨c3,e3⟩:∃ c,cn 3 xs=c:=⟨_,rfl⟩;obtain ⟨c4,e4⟩:∃ c,cn 4 xs=c:=⟨_,rfl⟩;obtain ⟨c1,e1⟩:∃ c,cn 1 xs=c:=⟨_,rfl⟩;obtain ⟨c2,e2⟩:∃ c,cn 2 xs=c:=⟨_,rfl⟩;rw [e5,e3,e4,e1,e2] at hT HRF;rw [e5] at hc0;rw [e3] at hc1;rw [e4] at hc2;rw [e1] at hc3;rw [e2] at hc4;have HY:=(qsd (ai hZ (ai hT (ai e (ai e1 (ai e2 (ai e3 (ai e4 e5))))))));have hBs:=hS.size;clear hn hx hR hB hS hT e hcb hbd hee e1 e2 e3 e4 e5 hZ;subst hin
    go_wp2_with fail
    refine (HRF.out _).mono ?_;rintro r w5 ⟨rfl,hb5⟩;obtain ⟨hZ,hT,e,e1,e2,e3,e4,e5⟩:=HY.out;have hZ5:=hZ.below hb5 hZ.lt;have hT5:=hT.below hb5 hT.lt;have hr5:=HA.out.row.below hb5;have hZf:=hZ5.frozen;have hz0:=hZ5.c0;have hz1:=hZ5.c1;have hz2:=hZ5.c2;have hz3:=hZ5.c3;have hz4:=hZ5.c4;have hz5:=hZ5.c5;have ht0:=hT5.c0;have ht1:=hT5.c1;have ht2:=hT5.c2;have ht3:=hT5.c3;have ht4:=hT5.c4;have ht5:=hT5.c5;have hzl:=hZ5.lt;have hbel5:Below w.heap.size w w5:=((((Below.refl _ w).alloc (Nat.le_refl _) _).alloc (by simp) _).trans (HB.out.mono (by simp;omega))).trans ((HA.out.bel.mono (by omega)).trans (hb5.mono (by omega)))
    have HV:=(qsd (ai hbel5 (ai hr5 (ai hZ5 (ai hT5 (ai e (ai e1 (ai e2 (ai e3 (ai e4 e5))))))))));clear hZ hT e e1 e2 e3 e4 e5 hb5 hZ5 hT5 hr5 hbel5 hc0 hc1 hc2 hc3 hc4 hc5 hp0 hp1 HY
    by_cases h0:ee=0
    · subst h0
      go_wp2
      go_region
      all_goals
       go_wp2;refine bodyPost_ret (v:=.tuple #[u7,.agg #[.int .i64 (c5:Nat),.int .i64 (c3:Nat),.int .i64 (c4:Nat),.int .i64 (c1:Nat),.int .i64 (c2:Nat),.int .i64 (i:Nat)],.int .i64 0]) (by simp [results,Tryz.results28,go_sem,csetm,hz0,hz1,hz2,hz3,hz4,hz5]) rfl ?_
       obtain ⟨hbel5,hr5,hZ5,hT5,e,e1,e2,e3,e4,e5⟩:=HV.out;have hbut:But (w.heap.size+1) w5 _:=(But.set6 (But.refl (w.heap.size+1) w5) (.int .i64 (c5:Nat)) (.int .i64 (c3:Nat)) (.int .i64 (c4:Nat)) (.int .i64 (c1:Nat)) (.int .i64 (c2:Nat)) (.int .i64 (i:Nat))).drew;have hR6:=Rw.mono (Rw.but hr5 hbut (by decide) hZ5) (show w.heap.size≤w1.heap.size by omega)
       rw [e] at hR6;have hans:=SiftAns.yes HEE.out hR6 (But.below hbel5 hbut (by omega) (by omega))
       rw [←HX.out.1,e1,e2,e3,e4,e5] at hans;exact hans
    · have h0':(ee==0)=false:=by rw [beq_eq_false_iff_ne];exact h0
      go_wp2;refine bodyPost_ret (v:=.tuple #[.slice none 0 0,.agg #[.int .i64 0,.int .i64 0,.int .i64 0,.int .i64 0,.int .i64 0,.int .i64 0],.int .i64 ee]) (by simp [results,Tryz.results28,go_sem,csetm,hz0,hz1,hz2,hz3,hz4,hz5]) rfl (SiftAns.no ee HEE.out h0 ?_)
      exact But.below HV.out.1 (But.set6 (But.refl (w.heap.size+1) _) _ _ _ _ _ _) (by omega) (by omega)
  · have hil:i<n:=by omega
    obtain ⟨hn,hx,hR,hB⟩:=HX.out;have hS:=HA.out;have hbw:Below w.heap.size w wr:=((((Below.refl _ w).alloc (Nat.le_refl _) _).alloc (by simp) _).trans (HB.out.mono (by simp;omega))).trans (hS.bel.mono (by omega))
    have hRw:Rd w.heap.size wr ao xs:=(hR.mono hB).below hbw;obtain ⟨bb,off,hlt2,rfl,hcell⟩:=hRw (by intro e;rw [e] at hn;simp at hn;omega)
    have hxc:=hcell i (by omega)
    have hxw:=hx.get i;obtain ⟨x,hxx⟩:∃ x,xs.getD i 0=x:=⟨_,rfl⟩;rw [hxx] at hxc hxw;have HK:=hid (kind_any x hxw);have hk5:=kp_le x;have hk3:=kp_ge x;obtain ⟨kk,hkk⟩:∃ kk,kp (kd x)=kk:=⟨_,rfl⟩;rw [hkk] at HK hk5 hk3;have l1:(xs.take i).length≤65536:=by rw [List.length_take];omega
    have hbd:=fun k=>cn_bd k (xs.take i) 65536 l1 (Nat.le_refl _)
    have hwl:=hS.size;have HY:=(qsd (ai hxx (ai hkk (ai hk3 (ai hbd (ai hn hlt2))))));clear hn hx hR hB hS hbw hRw hcell hxx hkk hk3 hbd l1 hin
    go_wp2_with fail
    refine (HK.out _).mono ?_;rintro r w2 ⟨rfl,hb2⟩;have HS2:=qsd (SI.kind HA.out hb2 hwl);have hxc2:w2.cell? ⟨bb,off+i,none⟩=some (.float .f64 x):=by rw [hb2.cell (p:=⟨bb,off+i,none⟩) (by have:=HY.out.2.2.2.2.2;simp;omega)];exact hxc
    have hsz2:=hb2.size;have HC:=hid (count_any kk (w1.heap.size+1) _ _ _ _ _ _ w2 hk5 HS2.out.sp (HY.out.2.2.2.1 5) (HY.out.2.2.2.1 3) (HY.out.2.2.2.1 4) (HY.out.2.2.2.1 1) (HY.out.2.2.2.1 2));clear hb2 hxc
    go_wp2_with fail
    refine Calls.mono HC.out ?_;rintro r w3 ⟨rfl,hs3,hbut3⟩;obtain ⟨hxx,hkk,hk3,hbd,hn,hlt2⟩:=HY.out;have hs3':SpT w3 (w1.heap.size+1) (xs.take (i+1)) (n:Nat):=SpT.counted (w:=w2) (by omega) (by rw [hxx,hkk];exact hs3)
    have hsz3:=hbut3.size
    have hxc3:w3.cell? ⟨bb,off+i,none⟩=some (.float .f64 x):=by
     have h9:=(But.below (Below.refl w1.heap.size w2) hbut3 (by omega) (by omega)).cell (p:=⟨bb,off+i,none⟩) (by simp;omega)
     rw [h9];exact hxc2
    by_cases hk2:kd x≤2
    · have hge:(3:Int)≤(kk:Int):=by have:=hk3.2 hk2;omega
      obtain ⟨v',w4,hap,hrow4,hb4,hkeep4,hsz4⟩:=push w1.heap.size w3 u7 (fin (xs.take i)) x (SI.row2 HS2.out hbut3) (by have h1:=fin_le (xs.take i);rw [List.length_take] at h1;omega) (by omega)
      have HI:=qsd (SI.into (v':=v') HS2.out (by omega) hs3' hbut3 (by omega) (by omega) (by rw [hxx];exact hk2) (by rw [hxx];exact hrow4) hb4 hkeep4 hsz4)
      have HAP:=hid hap;clear hap hrow4 hb4 hkeep4 hsz4 hs3 hs3' hbut3 hxx hkk hk3 hbd hn hlt2 hk2 hxc2
      go_wp2_with (at_builtin;refine wpList_append_run2 rfl (.tmp 40) (.tmp 45) 23 rfl _ _ rfl rfl _ _ HAP.out ?_)
      go_roundg (n-(i+1))
      case measure=>omega
      case rel=>exact ⟨i+1,by omega,by first | go_num | (congr 1;omega),HI⟩
    · have hge:decide ((3:Int)≤(kk:Int))=false:=decide_eq_false (fun h=>hk2 (hk3.1 (by omega)))
      have HI:=qsd (SI.out HS2.out (by omega) hs3' hbut3 (by omega) (by omega) (by rw [hxx];exact hk2))
      clear hs3 hs3' hbut3 hxx hkk hk3 hbd hn hlt2 hk2 hxc2;go_wp2
      go_roundg (n-(i+1))
      case measure=>omega
      case rel=>exact ⟨i+1,by omega,by first | go_num | (congr 1;omega),HI⟩
theorem Sift_any (xs:List Nat) (ao:Option Addr) (n cap B:Nat) (a b:Int) (w:World) (hn:n=xs.length) (hm:n≤35184372088832) (hx:Wf xs) (hR:Rd B w ao xs) (hB:B≤w.heap.size) :
 Calls Tryz.prog 28 #[.slice ao n cap,.agg #[.int .i64 a,.int .i64 b]] w (SiftAns w a b xs):=by
 rcases h:may a b with _|_
 · exact Sift_arg xs ao n cap a b w h
 · by_cases hl:65536<n
   · exact Sift_long xs ao n cap a b w hn h hl hm
   · exact Sift_rest xs ao n cap B a b w hn h (by omega) hx hR hB
end Ps
section
open Go.RowKit J
def kO13 (k:Nat):Nat:=if k=5 then 1 else if k=3 then 2 else if k=4 then 3 else if k=1 then 4 else if k=2 then 5 else 0
theorem m42:max (4:Int) 2=4:=by decide
theorem m32:max (3:Int) 2=3:=by decide
theorem m02:max (0:Int) 2=2:=by decide
theorem n42:min (4:Int) 2=2:=by decide
theorem n32:min (3:Int) 2=2:=by decide
theorem n02:min (0:Int) 2=0:=by decide
theorem pK_one13 {x:Nat}(hx:x<18446744073709551616):pK x 4607182418800017408=kO13 (kd x)∧(kd x≤2↔finW x):=by
 have c1:clW 4607182418800017408=2:=by decide +kernel
 have n1:ngW 4607182418800017408=false:=by decide +kernel
 have em:magW x=x%9223372036854775808:=rfl;have en:negW x=decide (9223372036854775808≤x):=rfl;unfold pK kO13;rw [c1,n1]
 rcases Nat.lt_trichotomy 9218868437227405312 (magW x) with h|h|h
 · have hk:kd x=5:=by unfold kd;rw [if_pos (by omega)]
   rw [cl_nan h,hk];refine ⟨by unfold pk;simp [m42,m32,m02,n42,n32,n02],?_⟩
   constructor
   · intro q;omega
   · intro q;exact absurd (show magW x<9218868437227405312 from q) (by omega)
 · obtain ⟨h1,h2⟩:=cl_inf h.symm
   rw [h1,h2];have hf:¬ finW x:=fun q=>absurd (show magW x<9218868437227405312 from q) (by omega)
   by_cases hs:9223372036854775808≤x
   · have hk:kd x=4:=by unfold kd;rw [if_neg (by omega),if_pos (by omega),if_pos (by omega)]
     rw [hk,en,decide_eq_true hs];refine ⟨by unfold pk;simp [m42,m32,m02,n42,n32,n02],?_⟩
     exact ⟨fun q=>by omega,fun q=>absurd q hf⟩
   · have hk:kd x=3:=by unfold kd;rw [if_neg (by omega),if_pos (by omega),if_neg (by omega)]
     rw [hk,en,decide_eq_false hs];refine ⟨by unfold pk;simp [m42,m32,m02,n42,n32,n02],?_⟩
     exact ⟨fun q=>by omega,fun q=>absurd q hf⟩
 · have fx:finW x:=h
   obtain ⟨p1,p2,p3,p4⟩:=fin_parts hx fx;rw [p1]
   by_cases h0:magW x=0
   · rw [h0,vK_zero] at p2
     have hfr:frW x=0:=by
      rcases Nat.mul_eq_zero.1 p2.symm with q|q
      · exact q
      · have:=Nat.two_pow_pos (xpW x+1074).toNat;omega
     have hc:clW x=0:=by
      rcases p4 with q|q
      · exact q.1
      · exact absurd hfr q.2
     rw [hc]
     by_cases hs:9223372036854775808≤x
     · have hk:kd x=1:=by unfold kd;rw [if_neg (by omega),if_neg (by omega),if_pos (by omega),if_pos (by omega)]
       rw [hk,en,decide_eq_true hs];exact ⟨by unfold pk;simp [m42,m32,m02,n42,n32,n02],fun _=>fx,fun _=>by omega⟩
     · have hk:kd x=2:=by unfold kd;rw [if_neg (by omega),if_neg (by omega),if_pos (by omega),if_neg (by omega)]
       rw [hk,en,decide_eq_false hs];exact ⟨by unfold pk;simp [m42,m32,m02,n42,n32,n02],fun _=>fx,fun _=>by omega⟩
   · have hk:kd x=0:=by unfold kd;rw [if_neg (by omega),if_neg (by omega),if_neg (by omega)]
     have hfr:frW x≠0:=by
      intro q;rw [q,Nat.zero_mul] at p2;have:=grid64.mono (show 0<magW x by omega)
      omega
     have hc:clW x=1∨clW x=2:=by
      rcases p4 with q|q
      · exact absurd q.2 hfr
      · exact q.1
     rw [hk];refine ⟨?_,fun _=>fx,fun _=>by omega⟩
     rcases hc with q|q
     · rw [q,show max (1:Int) 2=2 by decide,show min (1:Int) 2=1 by decide];unfold pk;simp
     · rw [q,show max (2:Int) 2=2 by decide,show min (2:Int) 2=2 by decide];unfold pk;simp
theorem kd5 (x:Nat):kd x≤5:=by unfold kd;(repeat' split) <;> omega
theorem cnt_fold13:∀ (xs:List Nat) (s:Sp),W64 xs→xs.foldl (fun s x=>s.cnt (pK x 4607182418800017408) 1) s=⟨s.n+Ps.cn 5 xs,s.u+Ps.cn 3 xs,s.d+Ps.cn 4 xs,s.m+Ps.cn 1 xs,s.p+Ps.cn 2 xs,s.a+xs.length⟩
 | [],s,_=>by simp [Ps.cn]
 | x::xs,s,h=>by
   rw [List.foldl_cons,cnt_fold13 xs _ (fun z hz=>h z (List.mem_cons_of_mem _ hz)),(pK_one13 (h x List.mem_cons_self)).1]
   have hk:=kd5 x;unfold Sp.cnt kO13 Ps.cn;simp only [List.countP_cons,List.length_cons];obtain q|q|q|q|q|q:kd x=0∨kd x=1∨kd x=2∨kd x=3∨kd x=4∨kd x=5:=by omega
   all_goals (rw [q];simp;(repeat' constructor) <;> omega)
theorem sS_cn {xs:List Nat}(h:W64 xs):sS xs=⟨(Ps.cn 5 xs:Nat),(Ps.cn 3 xs:Nat),(Ps.cn 4 xs:Nat),(Ps.cn 1 xs:Nat),(Ps.cn 2 xs:Nat),(xs.length:Nat)⟩:=by
 unfold sS;rw [cnt_fold13 xs _ h];simp
theorem fin_W64 {xs:List Nat}(h:W64 xs):W64 (Ps.fin xs):=fun x hx=>h x (List.mem_filter.1 hx).1
def sfE (pa pb:Int) (xs:List Nat):Int:=if may pa pb=false then 1 else if 65536<xs.length then 2 else Ps.rf (sS xs).n (sS xs).u (sS xs).d pa pb
def agg0:Value:=.agg #[.int .i64 0,.int .i64 0,.int .i64 0,.int .i64 0,.int .i64 0,.int .i64 0]
theorem ps_rd {B:Nat}{w:World}{a:Option Addr}{xs:List Nat}(h:Fs B w a xs):Ps.Rd B w a xs:=h
theorem lt_fs {lo:Nat}{w:World}{v:Value}{xs:List Nat}(h:Ps.Lt lo w v xs):∃ a c,v=.slice a xs.length c∧Fs w.heap.size w a xs∧∀ b o p,a=some ⟨b,o,p⟩→lo≤b:=by
 have h2:=h.2;unfold Ps.Lt at h
 rcases h2 with ⟨rfl,h0⟩|⟨g,cap,cur,rfl,hlo,hg,rest⟩
 · refine ⟨none,0,by rw [h0],fun hne=>absurd (List.eq_nil_of_length_eq_zero h0) hne,fun b o p h=>by cases h⟩
 · refine ⟨_,cap,rfl,fun _=>⟨g,0,(Array.getElem?_eq_some_iff.1 hg).1,rfl,fun i hi=>?_⟩,fun b o p h=>by cases h;exact hlo⟩
   have h1:=h.cells (g:=g) (by simp [Value.ownBlock]) i (.float .f64 (xs.getD i 0)) (by simp [Ps.U,hi])
   have e:(⟨g,0,none⟩:Addr).add i=⟨g,0+i,none⟩:=by unfold Addr.add;split <;> simp_all
   rw [e] at h1;exact h1
theorem Sift13 (xs:List Nat) (a:Option Addr) (n c:Nat) (pa pb:Int) (w:World) (hn:n=xs.length) (hm:n≤35184372088832) (hF:Fs w.heap.size w a xs) (hW:W64 xs) :
 Calls Tryz.prog 28 #[.slice a n c,.agg #[.int .i64 pa,.int .i64 pb]] w fun r w' =>
  ((sfE pa pb xs≠0∧∃ a' c',r=.returned (.tuple #[.slice a' 0 c',agg0,.int .i64 (sfE pa pb xs)])) ∨
   (sfE pa pb xs=0∧∃ a' c',r=.returned (.tuple #[.slice a' (Ps.fin xs).length c',(sS xs).agg,.int .i64 0])∧Fs w'.heap.size w' a' (Ps.fin xs)∧∀ b o p,a'=some ⟨b,o,p⟩→w.heap.size≤b))∧Below w.heap.size w w':=by
 have e1:Ps.siftE pa pb xs=sfE pa pb xs:=by unfold Ps.siftE sfE;rw [sS_cn hW]
 refine (Ps.Sift_any xs a n c w.heap.size pa pb w hn hm hW (ps_rd hF) (Nat.le_refl _)).mono ?_;rintro r w' ⟨v,rfl,hL,hb⟩;refine ⟨?_,hb⟩;unfold Ps.siftS;unfold Ps.siftL at hL;rw [e1] at hL ⊢
 by_cases h0:sfE pa pb xs=0
 · rw [if_pos h0] at hL ⊢
   obtain ⟨a',c',rfl,hF',hlo⟩:=lt_fs hL;exact .inr ⟨h0,a',c',by rw [h0,sS_cn hW];rfl,hF',hlo⟩
 · rw [if_neg h0] at hL ⊢
   obtain ⟨a',c',rfl,_⟩:=lt_fs hL;exact .inl ⟨h0,a',c',rfl⟩
theorem sfE_len {pa pb:Int}{xs:List Nat}(h:sfE pa pb xs=0):xs.length≤65536∧may pa pb=true:=by
 unfold sfE at h
 cases hm:may pa pb with
 | false=>rw [hm] at h;simp at h
 | true =>
   rw [hm,if_neg (by decide)] at h
   by_cases hl:65536<xs.length
   · rw [if_pos hl] at h;exact absurd h (by decide)
   · exact ⟨by omega,rfl⟩
theorem Fs.but' {B:Nat}{w w':World}{ao:Option Addr}{xs:List Nat}{g:Nat}(h:Fs B w ao xs) (hb:But g w w') (hg:∀ b o p,ao=some ⟨b,o,p⟩→b≠g):Fs B w' ao xs:=by
 intro hne;obtain ⟨b,off,h1,h2,h3⟩:=h hne;have hbg:b≠g:=hg _ _ _ h2;refine ⟨b,off,h1,h2,fun i hi=>?_⟩
 have hc:=h3 i hi
 have hlt:b<w.heap.size:=by
  rcases Nat.lt_or_ge b w.heap.size with q|q
  · exact q
  · unfold World.cell? at hc
    simp [Array.getElem?_eq_none q] at hc
 rw [World.cell?_of_block (a:=⟨b,off+i,none⟩) (hb.block b hlt hbg)];exact hc
end
section
open Go.RowKit J
attribute [local go_sem] st_float
noncomputable def meanR (xs:List Nat) (mode pa pb:Int):Nat×Int :=
 if askE mode=0 then
  if sfE pa pb xs=0 then
   if (vd (snd (sS xs).n (sS xs).u (sS xs).d (sS xs).m (sS xs).p (sS xs).a&&may pa pb) (sS xs).n (sS xs).u (sS xs).d pa pb).2=true then ((vd (snd (sS xs).n (sS xs).u (sS xs).d (sS xs).m (sS xs).p (sS xs).a&&may pa pb) (sS xs).n (sS xs).u (sS xs).d pa pb).1,0)
   else (bsd (levR (Ps.fin xs) (sS xs) mode).2 (levR (Ps.fin xs) (sS xs) mode).1,(levR (Ps.fin xs) (sS xs) mode).2)
  else (0,sfE pa pb xs)
 else (0,askE mode)
theorem bsd_zero (e:Int):bsd e 0=0:=by unfold bsd;split <;> rfl
theorem Mean13 (xs:List Nat) (a:Option Addr) (n c:Nat) (mode pa pb:Int) (w:World) (hn:n=xs.length) (hF:Fs w.heap.size w a xs) (hW:W64 xs) (hT:Tab w) (hl:n≤35184372088832) (z:Nat×Int) (hz:meanR xs mode pa pb=z) :
 Calls Tryz.prog 10 #[.slice a n c,.int .i64 mode,.agg #[.int .i64 pa,.int .i64 pb]] w fun r w'=>r=.returned (.tuple #[.float .f64 z.1,.int .i64 z.2])∧Below w.heap.size w w':=by
 obtain ⟨X,E⟩:=z;simp only;have hmf:∀ (fn:Fn) (first cap:Array Value) (w:World),(Instr.makeFunc fn first cap).run Tryz.prog w=.ok (.func fn first cap) w:=fun _ _ _ _=>rfl
 have HA:=hid (fun u:World=>asked13 mode u)
 unfold meanR at hz;obtain ⟨ea,hea⟩:∃ e,askE mode=e:=⟨_,rfl⟩;rw [hea] at HA hz;obtain ⟨W,hWW⟩:∃ W,W=((w.alloc (Obj.cells #[.int .i64 pa,.int .i64 pb] 29)).alloc (Obj.cells #[.float .f64 0] 24)).alloc (Obj.cells #[.int .i64 0] 25):=⟨_,rfl⟩;obtain ⟨gp,hgp⟩:∃ g,g=w.heap.size:=⟨_,rfl⟩;obtain ⟨gx,hgx⟩:∃ g,g=w.heap.size+1:=⟨_,rfl⟩;obtain ⟨ge,hge⟩:∃ g,g=w.heap.size+2:=⟨_,rfl⟩
 have B0:Aside (Bl W gp 29 [.int .i64 pa,.int .i64 pb]∧Bl W gx 24 [.float .f64 0]∧Bl W ge 25 [.int .i64 0]∧Below w.heap.size w W∧W.heap.size=w.heap.size+3):=by
  rw [hWW,hgp,hgx,hge];have z1:=Bl.new (w.alloc (Obj.cells #[.int .i64 pa,.int .i64 pb] 29)) 24 [.float .f64 0];have z2:=Bl.new ((w.alloc (Obj.cells #[.int .i64 pa,.int .i64 pb] 29)).alloc (Obj.cells #[.float .f64 0] 24)) 25 [.int .i64 0];rw [World.size_alloc] at z1;rw [World.size_alloc,World.size_alloc] at z2;exact ⟨((Bl.new w 29 [_,_]).below (bel_alloc _ _) (by simp)).below (bel_alloc _ _) (by simp;omega),z1.below (bel_alloc _ _) (by simp),z2,((bel_alloc _ _).trans ((bel_alloc _ _).mono (by simp))).trans ((bel_alloc _ _).mono (by simp;omega)),by simp⟩
 have HG:Aside (gp=w.heap.size∧gx=w.heap.size+1∧ge=w.heap.size+2):=⟨hgp,hgx,hge⟩;have HWW:=qsd hWW;have HX:=qsd (ai hn (ai hF (ai hW (ai hT hl))));clear hn hF hW hT hl hWW hea hgp hgx hge;go_enter_defers Tryz.func10,Tryz.ntmps10
 go_wp2_with fail
 rw [←HWW.out]
 try rw [show w.heap.size+1+1=ge by have:=HG.out.2.2;omega]
 try rw [show w.heap.size+2=ge by have:=HG.out.2.2;omega]
 try rw [show w.heap.size+1=gx by have:=HG.out.2.1;omega]
 try rw [show w.heap.size=gp by have:=HG.out.1;omega]
 clear HWW;refine (HA.out _).mono ?_;rintro r v ⟨rfl,hv⟩;rw [hv];clear hv v;have c1:=B0.out.2.2.1.cell 0 _ rfl;have f1:=B0.out.2.2.1.frozen 0;have hne:=qsd (show ge≠gx by have:=HG.out.2;omega)
 have B1:Aside (Bl (W.setCell ⟨ge,0,none⟩ (.int .i64 ea)) gp 29 [.int .i64 pa,.int .i64 pb]∧Bl (W.setCell ⟨ge,0,none⟩ (.int .i64 ea)) gx 24 [.float .f64 0]∧Bl (W.setCell ⟨ge,0,none⟩ (.int .i64 ea)) ge 25 [.int .i64 ea]∧Below w.heap.size w (W.setCell ⟨ge,0,none⟩ (.int .i64 ea))):=by
  have hb:But ge W (W.setCell ⟨ge,0,none⟩ (.int .i64 ea)):=(But.refl _ _).set 0 _;exact ⟨B0.out.1.but hb (by have:=HG.out;omega),B0.out.2.1.but hb (by have:=HG.out;omega),B0.out.2.2.1.set 0 _,But.below B0.out.2.2.2.1 hb B0.out.2.2.2.1.size (by have:=HG.out;omega)⟩
 by_cases h0:ea=0
 · subst h0
   rw [if_pos rfl] at hz;obtain ⟨V,hV⟩:∃ V,V=W.setCell ⟨ge,0,none⟩ (.int .i64 0):=⟨_,rfl⟩;rw [←hV] at B1;have HV:=qsd hV;have hTV:Tab V:=HX.out.2.2.2.1.belows B1.out.2.2.2;have HS:=hid (Sift13 xs a n c pa pb V HX.out.1 HX.out.2.2.2.2 ((HX.out.2.1.below B1.out.2.2.2).mono B1.out.2.2.2.size) HX.out.2.2.1);obtain ⟨es,hes⟩:∃ e,sfE pa pb xs=e:=⟨_,rfl⟩;rw [hes] at HS hz;have HES:=qsd hes;obtain ⟨⟨sn,su,sd,sm,sp,sa⟩,hs⟩:∃ s,sS xs=s:=⟨_,rfl⟩;rw [hs] at HS hz;simp only [Sp.agg] at HS hz;obtain ⟨fl,hfl⟩:∃ f,Ps.fin xs=f:=⟨_,rfl⟩;rw [hfl] at HS hz;have HFL:=qsd hfl;clear hs hfl;have HTV:=qsd hTV;have p0:=B1.out.1.cell 0 _ rfl;have p1:=B1.out.1.cell 1 _ rfl;have q1:=B1.out.2.2.1.cell 0 _ rfl;have q2:=B1.out.2.2.1.frozen 0;rw [hV] at p0 p1 q1 q2;clear hV HA hTV hes
   go_wp2_with fail
   rw [←HV.out] at p0 p1 q1 q2 ⊢;refine HS.out.mono ?_;rintro r v ⟨hr,hb⟩
   have B2:Aside (Bl v gp 29 [.int .i64 pa,.int .i64 pb]∧Bl v gx 24 [.float .f64 0]∧Bl v ge 25 [.int .i64 0]∧Below w.heap.size w v∧Tab v) :=
    ⟨B1.out.1.below hb B1.out.1.lt,B1.out.2.1.below hb B1.out.2.1.lt,B1.out.2.2.1.below hb B1.out.2.2.1.lt,B1.out.2.2.2.trans (hb.mono B1.out.2.2.2.size),HTV.out.belows hb⟩
   have q1:=B2.out.2.2.1.cell 0 _ rfl;have q2:=B2.out.2.2.1.frozen 0;have BVs:Aside (ge<V.heap.size∧gx<V.heap.size):=⟨B1.out.2.2.1.lt,B1.out.2.1.lt⟩;clear hb B1 HV HS p0 p1 HTV c1 f1 B0
   have BU:Aside (∀ (e:Int) (t1 t2 t3 t4 t5 t6:Int) (U:World),U=(v.setCell ⟨ge,0,none⟩ (.int .i64 e)).alloc (Obj.cells #[.int .i64 t1,.int .i64 t2,.int .i64 t3,.int .i64 t4,.int .i64 t5,.int .i64 t6] 51) →
    Bl U gp 29 [.int .i64 pa,.int .i64 pb]∧Bl U gx 24 [.float .f64 0]∧Bl U ge 25 [.int .i64 e]∧Bl U v.heap.size 51 [.int .i64 t1,.int .i64 t2,.int .i64 t3,.int .i64 t4,.int .i64 t5,.int .i64 t6]∧Below w.heap.size w U∧Tab U∧(∀ ao (ys:List Nat),Fs v.heap.size v ao ys→(∀ b o p,ao=some ⟨b,o,p⟩→b≠ge)→Fs U.heap.size U ao ys)):=by
    intro e t1 t2 t3 t4 t5 t6 U hU;have hb:But ge v (v.setCell ⟨ge,0,none⟩ (.int .i64 e)):=(But.refl _ _).set 0 _;have hbb:=But.below B2.out.2.2.2.1 hb B2.out.2.2.2.1.size (by have:=HG.out;omega)
    have hsz:(v.setCell ⟨ge,0,none⟩ (.int .i64 e)).heap.size=v.heap.size:=by simp
    have z1:=Bl.new (v.setCell ⟨ge,0,none⟩ (.int .i64 e)) 51 [.int .i64 t1,.int .i64 t2,.int .i64 t3,.int .i64 t4,.int .i64 t5,.int .i64 t6];rw [hsz] at z1;rw [hU];refine ⟨(B2.out.1.but hb (by have:=HG.out;omega)).alloc _,(B2.out.2.1.but hb (by have:=HG.out;omega)).alloc _,(B2.out.2.2.1.set 0 _).alloc _,z1,hbb.trans ((bel_alloc _ _).mono hbb.size),HX.out.2.2.2.1.belows (hbb.trans ((bel_alloc _ _).mono hbb.size)),?_⟩
    intro ao ys hF hg;exact ((hF.but' hb hg).below ((bel_alloc _ _).mono (by simp))).mono (by simp)
   rcases hr with ⟨he,a',c',rfl⟩|⟨he,a',c',rfl,hF',hlo⟩
   · have hlt:=B2.out.2.2.1.lt
     have h1:(es==0)=false:=by simp [he]
     rw [if_neg he] at hz;obtain ⟨rfl,rfl⟩:=Prod.mk.inj hz;unfold agg0;obtain ⟨U,hU⟩:∃ U,U=(v.setCell ⟨ge,0,none⟩ (.int .i64 es)).alloc (Obj.cells #[.int .i64 0,.int .i64 0,.int .i64 0,.int .i64 0,.int .i64 0,.int .i64 0] 51):=⟨_,rfl⟩;obtain ⟨u1,u2,u3,u4,u5,u6,_⟩:=BU.out _ _ _ _ _ _ _ _ hU;have B3:=(qsd (ai u2 (ai u3 u5)));have r1:=u3.cell 0 _ rfl;have HU:=qsd hU;clear u1 u2 u3 u4 u5 u6 hU BU hz
     go_upto_region 5 with fail
     rw [←HU.out];go_wp2;refine door13 Tryz.results10 ?_ (Mean1_d gx ge 0 es _ (B3.out.1.cell 0 _ rfl) (B3.out.2.1.cell 0 _ rfl) (B3.out.1.frozen 0)) rfl rfl (B3.out.1.cell 0 _ rfl) (B3.out.2.1.cell 0 _ rfl) hne.out ?_
     · simp [go_sem]
     · rw [bsd_zero]
       exact ⟨rfl,But.below B3.out.2.2 ((But.refl gx _).set 0 _) B3.out.2.2.size (by have:=HG.out;omega)⟩
   · have hlt:=B2.out.2.2.1.lt
     subst he;rw [if_pos rfl] at hz;obtain ⟨U,hU⟩:∃ U,U=(v.setCell ⟨ge,0,none⟩ (.int .i64 0)).alloc (Obj.cells #[.int .i64 sn,.int .i64 su,.int .i64 sd,.int .i64 sm,.int .i64 sp,.int .i64 sa] 51):=⟨_,rfl⟩;obtain ⟨u1,u2,u3,u4,u5,u6,u7⟩:=BU.out _ _ _ _ _ _ _ _ hU;obtain ⟨gs,hgs⟩:∃ g,v.heap.size=g:=⟨_,rfl⟩;have hlo2:∀ b o p,a'=some ⟨b,o,p⟩→b≠ge∧b≠gx:=fun b o p h=>by have:=hlo b o p h;have:=BVs.out;omega
     have B3:=(qsd (ai u1 (ai u2 (ai u3 (ai u4 (ai u5 (ai u6 (ai (u7 _ _ hF' (fun b o p h=>(hlo2 b o p h).1)) hlo2))))))))
     rw [hgs] at B3 u4;have s0:=u4.cell 0 _ rfl;have s1:=u4.cell 1 _ rfl;have s2:=u4.cell 2 _ rfl;have s3:=u4.cell 3 _ rfl;have s4:=u4.cell 4 _ rfl;have s5:=u4.cell 5 _ rfl;have p0:=u1.cell 0 _ rfl;have p1:=u1.cell 1 _ rfl;have r1:=u3.cell 0 _ rfl;have HGS:=qsd hgs;have HU:=qsd hU;clear u1 u2 u3 u4 u5 u6 u7 hU BU hF' hgs hlo hlo2
     go_upto_region 5 with fail
     rw [←HU.out,HGS.out];clear HU HGS;have HVd:=hid (fun u:World=>Verdict_any sn su sd sm sp sa pa pb u)
     obtain ⟨⟨xv,tv⟩,hvd⟩:∃ z,vd (snd sn su sd sm sp sa&&may pa pb) sn su sd pa pb=z:=⟨_,rfl⟩;rw [hvd] at HVd hz;simp only at HVd hz;clear hvd q1 q2
     go_wp2_with fail
     refine (HVd.out _).mono ?_;rintro r v2 ⟨rfl,hb⟩;obtain ⟨V3,hV3⟩:∃ V,V=v2.setCell ⟨gx,0,none⟩ (.float .f64 xv):=⟨_,rfl⟩;have B4:Aside (Bl v2 gx 24 [.float .f64 0]):=B3.out.2.1.below hb B3.out.2.1.lt
     have B5:Aside (Bl V3 gx 24 [.float .f64 xv]∧Bl V3 ge 25 [.int .i64 0]∧Bl V3 gs 51 [.int .i64 sn,.int .i64 su,.int .i64 sd,.int .i64 sm,.int .i64 sp,.int .i64 sa]∧Below w.heap.size w V3∧Tab V3∧(tv=false→Fs V3.heap.size V3 a' fl)):=by
      have hbt:But gx v2 V3:=by rw [hV3];exact (But.refl _ _).set 0 _
      have hbw:=B3.out.2.2.2.2.1.trans (hb.mono B3.out.2.2.2.2.1.size);have hb3:=But.below hbw hbt hbw.size (by have:=HG.out;omega)
      have hgsl:gx≠gs:=by
       rintro rfl;have:=B3.out.2.1.symm.trans B3.out.2.2.2.1;simp at this
      refine ⟨by rw [hV3];exact B4.out.set 0 _,(B3.out.2.2.1.below hb B3.out.2.2.1.lt).but hbt (by have:=HG.out;omega),(B3.out.2.2.2.1.below hb B3.out.2.2.2.1.lt).but hbt (fun h=>hgsl h.symm),hb3,HX.out.2.2.2.1.belows hb3,fun _=>?_⟩
      have hF3:=(((B3.out.2.2.2.2.2.2.1.below hb).mono hb.size).but' hbt (fun b o p h=>(B3.out.2.2.2.2.2.2.2 b o p h).2)).mono hbt.size
      exact hF3
     have t1:=B4.out.cell 0 _ rfl;have t2:=B4.out.frozen 0;have HV3:=qsd hV3;clear hb B3 B4 HVd hV3 s0 s1 s2 s3 s4 s5 p0 p1 r1
     cases tv with
     | true =>
       simp only [if_true] at hz;obtain ⟨hX,hE⟩:=Prod.mk.inj hz;subst hX hE;go_wp2;rw [←HV3.out];refine door13 Tryz.results10 ?_ (Mean1_d gx ge xv 0 _ (B5.out.1.cell 0 _ rfl) (B5.out.2.1.cell 0 _ rfl) (B5.out.1.frozen 0)) rfl rfl (B5.out.1.cell 0 _ rfl) (B5.out.2.1.cell 0 _ rfl) hne.out ?_
       · simp [go_sem]
       · exact ⟨rfl,But.below B5.out.2.2.2.1 ((But.refl gx _).set 0 _) B5.out.2.2.2.1.size (by have:=HG.out;omega)⟩
     | false =>
       simp only [Bool.false_eq_true,if_false] at hz;obtain ⟨⟨xl,el⟩,hl⟩:∃ z,levR fl ⟨sn,su,sd,sm,sp,sa⟩ mode=z:=⟨_,rfl⟩;rw [hl] at hz;simp only at hz;obtain ⟨hX,hE⟩:=Prod.mk.inj hz;have HL:=hid (level13 fl a' fl.length c' sn su sd sm sp sa mode V3 rfl (B5.out.2.2.2.2.2 rfl) (by rw [←HFL.out];exact fin_W64 HX.out.2.2.1) B5.out.2.2.2.2.1 (by rw [←HFL.out];exact Nat.le_trans (List.length_filter_le _ _) (sfE_len HES.out).1) (xl,el) hl)
       simp only at HL;have s0:=B5.out.2.2.1.cell 0 _ rfl;have s1:=B5.out.2.2.1.cell 1 _ rfl;have s2:=B5.out.2.2.1.cell 2 _ rfl;have s3:=B5.out.2.2.1.cell 3 _ rfl;have s4:=B5.out.2.2.1.cell 4 _ rfl;have s5:=B5.out.2.2.1.cell 5 _ rfl;have HXE:=qsd (ai hX hE);clear hz hX hE hl
       go_upto_region 7 with fail
       rw [←HV3.out];clear t1 t2
       go_wp2_with fail
       refine HL.out.mono ?_;rintro r v4 ⟨rfl,hb⟩
       have B6:Aside (Bl v4 gx 24 [.float .f64 xv]∧Bl v4 ge 25 [.int .i64 0]∧Below w.heap.size w v4) :=
        ⟨B5.out.1.below hb B5.out.1.lt,B5.out.2.1.below hb B5.out.2.1.lt,B5.out.2.2.2.1.trans (hb.mono B5.out.2.2.2.1.size)⟩
       have t1:=B6.out.1.cell 0 _ rfl;have t2:=B6.out.1.frozen 0;have t3:=B6.out.2.1.cell 0 _ rfl;have t4:=B6.out.2.1.frozen 0;have hne1:ge≠gx:=hne.out;have hne2:gx≠ge:=fun h=>hne.out h.symm
       clear hb B5 HL s0 s1 s2 s3 s4 s5 HV3;go_wp2;have bt:But gx v4 (v4.setCell ⟨gx,0,none⟩ (.float .f64 xl)):=(But.refl _ _).set 0 _;have k1:=(B6.out.1.set 0 (.float .f64 xl)).but ((But.refl ge (v4.setCell ⟨gx,0,none⟩ (.float .f64 xl))).set 0 (.int .i64 el)) hne2;have k2:=(B6.out.2.1.but bt hne1).set 0 (.int .i64 el);have k0:Below w.heap.size w (v4.setCell ⟨gx,0,none⟩ (.float .f64 xl)):=But.below B6.out.2.2 bt B6.out.2.2.size (by have:=HG.out;omega)
       have k3:Below w.heap.size w ((v4.setCell ⟨gx,0,none⟩ (.float .f64 xl)).setCell ⟨ge,0,none⟩ (.int .i64 el)):=But.below k0 ((But.refl ge (v4.setCell ⟨gx,0,none⟩ (.float .f64 xl))).set 0 (.int .i64 el)) k0.size (by have:=HG.out;omega)
       refine door13 Tryz.results10 ?_ (Mean1_d gx ge xl el _ (k1.cell 0 _ rfl) (k2.cell 0 _ rfl) (k1.frozen 0)) rfl rfl (k1.cell 0 _ rfl) (k2.cell 0 _ rfl) hne.out ?_
       · simp [go_sem]
       · rw [HXE.out.1,HXE.out.2]
         have kb:But gx ((v4.setCell ⟨gx,0,none⟩ (.float .f64 xl)).setCell ⟨ge,0,none⟩ (.int .i64 el)) (((v4.setCell ⟨gx,0,none⟩ (.float .f64 xl)).setCell ⟨ge,0,none⟩ (.int .i64 el)).setCell ⟨gx,0,none⟩ (.float .f64 X)):=(But.refl gx _).set 0 _;have hgl:w.heap.size≤gx:=by have:=HG.out;omega
         first | exact ⟨rfl,But.below k3 kb k3.size hgl⟩ | (rw [HXE.out.2] at k3 kb;exact ⟨rfl,But.below k3 kb k3.size hgl⟩)
 · rw [if_neg h0] at hz
   obtain ⟨rfl,rfl⟩:=Prod.mk.inj hz;have h1:(ea==0)=false:=by simp [h0]
   clear hz HA;go_wp2;refine door13 Tryz.results10 ?_ (Mean1_d gx ge 0 ea _ (B1.out.2.1.cell 0 _ rfl) (B1.out.2.2.1.cell 0 _ rfl) (B1.out.2.1.frozen 0)) rfl rfl (B1.out.2.1.cell 0 _ rfl) (B1.out.2.2.1.cell 0 _ rfl) hne.out ?_
   · simp [go_sem]
   · rw [bsd_zero]
     exact ⟨rfl,But.below B1.out.2.2.2 ((But.refl gx _).set 0 _) B1.out.2.2.2.size (by have:=HG.out;omega)⟩
end
section
open Go.RowKit J
attribute [local go_sem] B.f64bits B.f64frombits st_float
theorem rOf10 (b:Nat) (w:World):Calls Tryz.prog 32 #[.int .u64 (b:Nat)] w fun r w'=>r=.returned (.float .f64 b)∧w'=w:=by
 go_enter Tryz.func32,Tryz.ntmps32;go_wp2;exact bodyPost_ret (v:=.float .f64 b) (by simp [results,Tryz.results32,go_sem]) rfl ⟨rfl,rfl⟩
theorem rOf10z (w:World):Calls Tryz.prog 32 #[.int .u64 0] w fun r w'=>r=.returned (.float .f64 0)∧w'=w:=rOf10 0 w
end
section
open Go.RowKit
theorem Nt.al' {lo:Nat}{w:World}{v:Value}{X:Nat}(h:Nt lo w v X) (hl:(ws X).length≤2000000):Al w v X:=by
 obtain ⟨a,c,rfl,hA⟩:=h.arg (by omega)
 exact ⟨a,_,c,_,rfl,hA,val_ws _,hl⟩
theorem times_al {w:World}{v u:Value}{X Y:Nat}(h1:Al w v X) (h2:Al w u Y):Calls Tryz.prog 93 #[v,u] w fun r w'=>∃ p,r=.returned p∧Nt w.heap.size w' p (X*Y)∧Below w.heap.size w w':=by
 obtain ⟨a,l,c,xs,rfl,hA,rfl,hl⟩:=h1;obtain ⟨b,k,d,ys,rfl,hB,rfl,hk⟩:=h2;exact rTimes_arg hA hB (by omega) rfl
theorem against_al {w:World}{v u:Value}{X Y:Nat}{e f:Int}(h1:Al w v X) (h2:Al w u Y) (be:-9223372036854775808≤e∧e≤9223372036854775807) (bf:-9223372036854775808≤f∧f≤9223372036854775807) :
 Calls Tryz.prog 198 #[v,.int .i64 e,u,.int .i64 f] w fun r w'=>r=.returned (.int .i64 (agV X e Y f))∧Below w.heap.size w w':=by
 obtain ⟨a,l,c,xs,rfl,hA,rfl,hl⟩:=h1;obtain ⟨b,k,d,ys,rfl,hB,rfl,hk⟩:=h2;exact against_any hA hB hl hk e f be.1 be.2 bf.1 bf.2
theorem against11_q {w:World}{n m:Bool}{p a b:Option Addr}{lp cp la ca lb cb A X Y:Nat}{g e f:Int}(hA:Al w (.slice p lp cp) A) (hN:Al w (.slice a la ca) X) (hD:Al w (.slice b lb cb) Y) (he:-9223372036854775808≤e∧e≤9223372036854775807) (h g2:Int) (e2:IntKind.i64.wrap (g+f)=h) (hh:-9223372036854775808≤h∧h≤9223372036854775807) (P:Nat) (hP:A*Y=P) (hl:(ws P).length≤2000000) :
 Calls Tryz.prog 169 #[.slice p lp cp,.int .i64 g,.agg #[.bool n,.slice a la ca,.int .i64 e,.bool m,.slice b lb cb,.int .i64 f],.bool false] w fun r w'=>r=.returned (.int .i64 (agV P h X e))∧Below w.heap.size w w':=by
 obtain ⟨W1,hW1⟩:∃ W,W=w.alloc (.cells #[.bool n,.slice a la ca,.int .i64 e,.bool m,.slice b lb cb,.int .i64 f] 71):=⟨_,rfl⟩;have hB:Below w.heap.size w W1:=by rw [hW1];exact below_alloc _ _
 have QR0:Rq W1 w.heap.size n (.slice a la ca) e m (.slice b lb cb) f:=by rw [hW1];exact Rq.new _ _ _ _ _ _ _
 have S0:=(qsd (ai hB (ai QR0 (ai (hA.below hB) (ai (hN.below hB) (hD.below hB))))));have BD:=(qsd (ai he (ai hh (ai hl hP))));clear hB QR0 hA hN hD he hh hl hP;go_enter Tryz.func169,Tryz.ntmps169
 go_upto_region 1 with fail
 rw [←hW1];clear hW1;obtain ⟨x0,x1,x2,x3,x4,x5⟩:=S0.out.2.1.facts
 go_upto_region 6 with fail
 have dr:Below W1.heap.size W1 W1.drew:=(Below.refl _ _).drew;have T1:=hid (times_al S0.out.2.2.1 S0.out.2.2.2.2);have T2:=hid (times_al (S0.out.2.2.1.below dr) (S0.out.2.2.2.2.below dr));rw [BD.out.2.2.2] at T1 T2;clear dr
 go_region_held3 (fun w'=>w'.cell? ⟨w.heap.size,0,none⟩=some (.bool n)∧w'.cell? ⟨w.heap.size,1,none⟩=some (.slice a la ca)∧w'.cell? ⟨w.heap.size,2,none⟩=some (.int .i64 e)∧w'.cell? ⟨w.heap.size,3,none⟩=some (.bool m)∧w'.cell? ⟨w.heap.size,4,none⟩=some (.slice b lb cb)∧w'.cell? ⟨w.heap.size,5,none⟩=some (.int .i64 f)) (go_keep) (first
  | (go_at_call 93
     first | with_reducible refine T1.out.mono ?_ | with_reducible refine T2.out.mono ?_
     rintro r v1 ⟨pv,rfl,hN,hb⟩;obtain ⟨q1,d1,rfl,-⟩:=hN.shape;have hb1:Below W1.heap.size W1 v1:=by first | exact hb | exact ((Below.refl _ W1).drew).trans (hb.mono (Nat.le_refl _))
     obtain ⟨bel,QR,AX,AN,AD⟩:=S0.out;obtain ⟨m0,m1,m2,m3,m4,m5⟩:=(QR.below hb1).facts;have T3:=hid (against_al (hN.al' BD.out.2.2.1) (AN.below hb1) BD.out.2.1 BD.out.1);have S4:=(qsd (ai (bel.trans (hb1.mono bel.size)) (QR.below hb1)));clear hN hb hb1 bel QR AX AN AD)
  | (go_at_call 198
     with_reducible refine T3.out.mono ?_
     rintro r v2 ⟨rfl,hb⟩;obtain ⟨bel,QR⟩:=S4.out;obtain ⟨k0,k1,k2,k3,k4,k5⟩:=(QR.below hb).facts;have S5:=qsd (bel.trans (hb.mono bel.size));clear hb bel QR))
 all_goals (
  go_wp2;go_ret;exact ⟨rfl,S5.out⟩)
theorem against11_s {w:World}{n m:Bool}{p a b:Option Addr}{lp cp la ca lb cb A X Y:Nat}{g e f:Int}(hA:Al w (.slice p lp cp) A) (hN:Al w (.slice a la ca) X) (hD:Al w (.slice b lb cb) Y) (he:-9223372036854775808≤e∧e≤9223372036854775807) (h g2:Int) (e1:IntKind.i64.wrap (2*g)=g2) (e2:IntKind.i64.wrap (g2+f)=h) (hh:-9223372036854775808≤h∧h≤9223372036854775807) (P:Nat) (hP:(A*A)*Y=P) (hl:(ws P).length≤2000000) (hl2:(ws (A*A)).length≤2000000) :
 Calls Tryz.prog 169 #[.slice p lp cp,.int .i64 g,.agg #[.bool n,.slice a la ca,.int .i64 e,.bool m,.slice b lb cb,.int .i64 f],.bool true] w fun r w'=>r=.returned (.int .i64 (agV P h X e))∧Below w.heap.size w w':=by
 obtain ⟨W1,hW1⟩:∃ W,W=w.alloc (.cells #[.bool n,.slice a la ca,.int .i64 e,.bool m,.slice b lb cb,.int .i64 f] 71):=⟨_,rfl⟩;have hB:Below w.heap.size w W1:=by rw [hW1];exact below_alloc _ _
 have QR0:Rq W1 w.heap.size n (.slice a la ca) e m (.slice b lb cb) f:=by rw [hW1];exact Rq.new _ _ _ _ _ _ _
 have S0:=(qsd (ai hB (ai QR0 (ai (hA.below hB) (ai (hN.below hB) (hD.below hB))))));have BD:=(qsd (ai he (ai hh (ai hl hP))));clear hB QR0 hA hN hD he hh hl hP;go_enter Tryz.func169,Tryz.ntmps169
 go_upto_region 1 with fail
 rw [←hW1];clear hW1;have HC:=hid (times_al S0.out.2.2.1 S0.out.2.2.1);have HL2:=qsd hl2;clear hl2
 go_wp2_with fail
 refine HC.out.mono ?_;rintro r U ⟨v,rfl,hN,hb⟩;obtain ⟨q2,d2,rfl,-⟩:=hN.shape;have S1:=(qsd (ai (S0.out.1.trans (hb.mono S0.out.1.size)) (ai (S0.out.2.1.below hb) (ai (hN.al' HL2.out) (ai (S0.out.2.2.2.1.below hb) (S0.out.2.2.2.2.below hb))))));clear HC hN hb S0 HL2;obtain ⟨x0,x1,x2,x3,x4,x5⟩:=S1.out.2.1.facts
 go_upto_region 6 with fail
 have dr:Below U.heap.size U U.drew:=(Below.refl _ _).drew;have T1:=hid (times_al S1.out.2.2.1 S1.out.2.2.2.2);have T2:=hid (times_al (S1.out.2.2.1.below dr) (S1.out.2.2.2.2.below dr));rw [BD.out.2.2.2] at T1 T2;clear dr
 go_region_held3 (fun w'=>w'.cell? ⟨w.heap.size,0,none⟩=some (.bool n)∧w'.cell? ⟨w.heap.size,1,none⟩=some (.slice a la ca)∧w'.cell? ⟨w.heap.size,2,none⟩=some (.int .i64 e)∧w'.cell? ⟨w.heap.size,3,none⟩=some (.bool m)∧w'.cell? ⟨w.heap.size,4,none⟩=some (.slice b lb cb)∧w'.cell? ⟨w.heap.size,5,none⟩=some (.int .i64 f)) (go_keep) (first
  | (go_at_call 93
     first | with_reducible refine T1.out.mono ?_ | with_reducible refine T2.out.mono ?_
     rintro r v1 ⟨pv,rfl,hN,hb⟩;obtain ⟨q1,d1,rfl,-⟩:=hN.shape;have hb1:Below U.heap.size U v1:=by first | exact hb | exact ((Below.refl _ U).drew).trans (hb.mono (Nat.le_refl _))
     obtain ⟨bel,QR,AX,AN,AD⟩:=S1.out;obtain ⟨m0,m1,m2,m3,m4,m5⟩:=(QR.below hb1).facts;have T3:=hid (against_al (hN.al' BD.out.2.2.1) (AN.below hb1) BD.out.2.1 BD.out.1);have S4:=(qsd (ai (bel.trans (hb1.mono bel.size)) (QR.below hb1)));clear hN hb hb1 bel QR AX AN AD)
  | (go_at_call 198
     with_reducible refine T3.out.mono ?_
     rintro r v2 ⟨rfl,hb⟩;obtain ⟨bel,QR⟩:=S4.out;obtain ⟨k0,k1,k2,k3,k4,k5⟩:=(QR.below hb).facts;have S5:=qsd (bel.trans (hb.mono bel.size));clear hb bel QR))
 all_goals (
  go_wp2;go_ret;exact ⟨rfl,S5.out⟩)
end
section
open Go.RowKit
def nbyD11 (mode:Int) (n:Bool) (k:Nat) (z hv:Int):Nat:=if z=0 then k else if outS mode k hv n then k+1 else k
theorem plus_al {w:World}{v u:Value}{X Y:Nat}(h1:Al w v X) (h2:Al w u Y):Calls Tryz.prog 95 #[v,u] w fun r w'=>∃ p,r=.returned p∧Nt w.heap.size w' p (X+Y)∧Below w.heap.size w w':=by
 obtain ⟨a,l,c,xs,rfl,hA,rfl,hl⟩:=h1;obtain ⟨b,k,d,ys,rfl,hB,rfl,hk⟩:=h2;exact rPlus_arg hA hB (by omega) (by omega) rfl
theorem two_boxes (w:World) (dg ls:Int) (En:Nat) (n:Bool) (v:Value) (e:Int) (m:Bool) (u:Value) (f:Int) (W:World) (hW:W=(w.alloc (.cells #[.int .i64 dg,.int .i64 ls,.int .u64 (En:Nat)] 110)).alloc (.cells #[.bool n,v,.int .i64 e,.bool m,u,.int .i64 f] 71)) :
 Below w.heap.size w W∧Zk W w.heap.size dg ls En∧Rq W (w.heap.size+1) n v e m u f:=by
 rw [hW];refine ⟨(below_alloc w _).alloc (by simp) _,?_,?_⟩
 · have h:Zk (w.alloc (.cells #[.int .i64 dg,.int .i64 ls,.int .u64 (En:Nat)] 110)) w.heap.size dg ls En:=heap_alloc_new _ _
   exact h.below (below_alloc _ _)
 · have:=Rq.new (w.alloc (.cells #[.int .i64 dg,.int .i64 ls,.int .u64 (En:Nat)] 110)) n v e m u f
   rw [World.size_alloc] at this;exact this
theorem half11 {w:World}{n m:Bool}{a b:Option Addr}{la ca lb cb:Nat}{e f:Int}(dg ls:Int) (En:Nat) (k k1 g h q fm hv:Int) (A Bv SM:Nat) (sq:Bool)
 (hk1:IntKind.u64.wrap (k+1)=k1) (hq:IntKind.i64.wrap (h-g)=q) (hq0:0≤q) (hq1:q≤1) (hfm:IntKind.i64.wrap (g-1)=fm) (hS:A+Bv*2^q.toNat=SM) (hB0:Bv≠0) (lA:(ws A).length≤8192) (lB:(ws Bv).length≤8192) (lM:(ws (Bv*2^q.toNat)).length≤8192) (lS:(ws SM).length≤8192)
 (HN1:Hid (∀ u:World,Calls Tryz.prog 130 #[.agg #[.int .i64 dg,.int .i64 ls,.int .u64 (En:Nat)],.int .u64 k] u fun r w'=>∃ v,r=.returned (.tuple #[v,.int .i64 g])∧Nt u.heap.size w' v A∧Below u.heap.size u w'))
 (HN2:Hid (∀ u:World,Calls Tryz.prog 130 #[.agg #[.int .i64 dg,.int .i64 ls,.int .u64 (En:Nat)],.int .u64 k1] u fun r w'=>∃ v,r=.returned (.tuple #[v,.int .i64 h])∧Nt u.heap.size w' v Bv∧Below u.heap.size u w'))
 (HA:Hid (∀ (u:World) (p:Option Addr) (l c:Nat),Below w.heap.size w u→Al u (.slice p l c) SM→Calls Tryz.prog 169 #[.slice p l c,.int .i64 fm,.agg #[.bool n,.slice a la ca,.int .i64 e,.bool m,.slice b lb cb,.int .i64 f],.bool sq] u fun r w'=>r=.returned (.int .i64 hv)∧Below u.heap.size u w')) :
 Calls Tryz.prog 170 #[.agg #[.int .i64 dg,.int .i64 ls,.int .u64 (En:Nat)],.int .u64 k,.agg #[.bool n,.slice a la ca,.int .i64 e,.bool m,.slice b lb cb,.int .i64 f],.bool sq] w fun r w'=>r=.returned (.int .i64 hv)∧Below w.heap.size w w':=by
 obtain ⟨W1,hW1⟩:∃ W,W=(w.alloc (.cells #[.int .i64 dg,.int .i64 ls,.int .u64 (En:Nat)] 110)).alloc (.cells #[.bool n,.slice a la ca,.int .i64 e,.bool m,.slice b lb cb,.int .i64 f] 71):=⟨_,rfl⟩;obtain ⟨hB,Z,QR⟩:=two_boxes w dg ls En n _ e m _ f W1 hW1;obtain ⟨p0,p1,p2⟩:=Z.facts;have S0:=(qsd (ai hB (ai Z QR)));have LN:=(qsd (ai lA (ai lB (ai lM (ai lS (ai hB0 (ai hS (ai hq0 hq1))))))));have H1:=hid (HN1.out W1);clear hB Z QR lA lB lM lS hB0 hS hq0 hq1 HN1;go_enter Tryz.func170,Tryz.ntmps170
 go_upto_region 1 with fail
 rw [←hW1];clear hW1
 go_wp2_with fail
 clear p0 p1 p2;refine H1.out.mono ?_;rintro r u1 ⟨v,rfl,hN,hb⟩;obtain ⟨a1,c1,rfl,-⟩:=hN.shape;have S1:=(qsd (ai (S0.out.1.trans (hb.mono S0.out.1.size)) (ai (S0.out.2.1.below hb) (ai (S0.out.2.2.below hb) (hN.al' (Nat.le_trans LN.out.1 (by decide)))))))
 clear hN hb S0 H1;obtain ⟨p0,p1,p2⟩:=S1.out.2.1.facts;have H2:=hid (HN2.out u1);clear HN2
 go_wp2_with fail
 clear p0 p1 p2;refine H2.out.mono ?_;rintro r u2 ⟨v,rfl,hN,hb⟩;have H3:=hid (moved_any hN q (by have:=LN.out;omega) (by have:=LN.out;omega) LN.out.2.2.2.2.1 (Nat.le_trans LN.out.2.1 (by decide)))
 obtain ⟨a2,c2,rfl,-⟩:=hN.shape;have S2:=(qsd (ai (S1.out.1.trans (hb.mono S1.out.1.size)) (ai (S1.out.2.2.1.below hb) (S1.out.2.2.2.below hb))));clear hN hb S1 H2;rw [if_neg (by have:=LN.out;omega)] at H3
 go_wp2_with fail
 refine H3.out.mono ?_;rintro r u3 ⟨v,rfl,hN,hb⟩;obtain ⟨a3,c3,rfl,-⟩:=hN.shape;have S3:=(qsd (ai (S2.out.1.trans (hb.mono S2.out.1.size)) (S2.out.2.1.below hb)));have H4:=hid (plus_al (S2.out.2.2.below hb) (hN.al' (Nat.le_trans LN.out.2.2.1 (by decide))))
 rw [LN.out.2.2.2.2.2.1] at H4;clear hN hb S2 H3
 go_wp2_with fail
 refine H4.out.mono ?_;rintro r u4 ⟨v,rfl,hN,hb⟩;obtain ⟨a4,c4,rfl,-⟩:=hN.shape;have S4:=(qsd (ai (S3.out.1.trans (hb.mono S3.out.1.size)) (S3.out.2.below hb)));obtain ⟨x0,x1,x2,x3,x4,x5⟩:=S4.out.2.facts;have H5:=hid (HA.out u4 _ _ _ S4.out.1 (hN.al' (Nat.le_trans LN.out.2.2.2.1 (by decide))))
 clear hN hb S3 H4 HA
 go_wp2_with fail
 clear x0 x1 x2 x3 x4 x5;refine H5.out.mono ?_;rintro r u5 ⟨rfl,hb⟩;have S5:=qsd (S4.out.1.trans (hb.mono S4.out.1.size));clear hb S4 H5 LN;go_wp2;go_ret;exact ⟨rfl,S5.out⟩
structure Half11 (w:World) (dg ls:Int) (En:Nat) (ag:Nat→Int) (n:Bool) (v:Value) (e:Int) (m:Bool) (x:Value) (y:Int) (f t:Nat) (u:World):Prop where
 bel:Below w.heap.size w u
 sz:Zk u w.heap.size dg ls En
 rq:Rq u (w.heap.size+1) n v e m x y
 ft:f<t
 tE:t≤En
 lo:f=0∨ag f≤0
 hi:t=En∨0<ag t
theorem Half11.to {w:World}{dg ls:Int}{En:Nat}{ag:Nat→Int}{n:Bool}{v:Value}{e:Int}{m:Bool}{x:Value}{y:Int}{f t:Nat}{u u':World}(h:Half11 w dg ls En ag n v e m x y f t u) (hb:Below u.heap.size u u'):Half11 w dg ls En ag n v e m x y f t u' :=
 ⟨h.bel.trans (hb.mono h.bel.size),h.sz.below hb,h.rq.below hb,h.ft,h.tE,h.lo,h.hi⟩
theorem nearby11 {w:World}{n m:Bool}{a b:Option Addr}{la ca lb cb:Nat}{e f:Int}(dg ls:Int) (En:Nat) (hE:0<En) (hE2:En<9223372036854775808) (num:Nat→Nat×Int) (ag hf:Nat→Int) (sq:Bool) (mode:Int) (hm0:0≤mode) (hm4:mode≤4) (lnum:∀ k,(ws (num k).1).length≤8192) (hv3:∀ k,hf k=-1∨hf k=0∨hf k=1)
 (HN:Hid (∀ (k:Nat) (u:World),k<En→Calls Tryz.prog 130 #[.agg #[.int .i64 dg,.int .i64 ls,.int .u64 (En:Nat)],.int .u64 (k:Nat)] u fun r w'=>∃ v,r=.returned (.tuple #[v,.int .i64 (num k).2])∧Nt u.heap.size w' v (num k).1∧Below u.heap.size u w'))
 (HA:Hid (∀ (k:Nat) (u:World) (p:Option Addr) (l c:Nat),k<En→Below w.heap.size w u→Al u (.slice p l c) (num k).1→Calls Tryz.prog 169 #[.slice p l c,.int .i64 (num k).2,.agg #[.bool n,.slice a la ca,.int .i64 e,.bool m,.slice b lb cb,.int .i64 f],.bool sq] u fun r w'=>r=.returned (.int .i64 (ag k))∧Below u.heap.size u w'))
 (HH:Hid (∀ (k:Nat) (u:World),k<En→Below w.heap.size w u→Calls Tryz.prog 170 #[.agg #[.int .i64 dg,.int .i64 ls,.int .u64 (En:Nat)],.int .u64 (k:Nat),.agg #[.bool n,.slice a la ca,.int .i64 e,.bool m,.slice b lb cb,.int .i64 f],.bool sq] u fun r w'=>r=.returned (.int .i64 (hf k))∧Below u.heap.size u w')) :
 Calls Tryz.prog 137 #[.agg #[.int .i64 dg,.int .i64 ls,.int .u64 (En:Nat)],.agg #[.bool n,.slice a la ca,.int .i64 e,.bool m,.slice b lb cb,.int .i64 f],.bool sq,.int .i64 mode] w fun r w'=>(∃ k:Nat,r=.returned (.int .u64 (nbyD11 mode n k (ag k) (-(hf k)):Nat))∧k<En∧(k=0∨ag k≤0)∧(k+1=En∨0<ag (k+1)))∧Below w.heap.size w w':=by
 obtain ⟨W1,hW1⟩:∃ W,W=(w.alloc (.cells #[.int .i64 dg,.int .i64 ls,.int .u64 (En:Nat)] 110)).alloc (.cells #[.bool n,.slice a la ca,.int .i64 e,.bool m,.slice b lb cb,.int .i64 f] 71):=⟨_,rfl⟩;obtain ⟨hB,Z,QR⟩:=two_boxes w dg ls En n _ e m _ f W1 hW1;obtain ⟨p0,p1,p2⟩:=Z.facts;have S0:Aside (Half11 w dg ls En ag n (.slice a la ca) e m (.slice b lb cb) f 0 En W1):=qsd ⟨hB,Z,QR,hE,Nat.le_refl _,.inl rfl,.inl rfl⟩;have LN:=(qsd (ai lnum hv3));clear Z hB QR lnum hv3;have hw:∀ n:Int,0≤n→n<18446744073709551616→IntKind.u64.wrap n=n:=fun n h1 h2=>by simp [IntKind.wrap,IntKind.bits,IntKind.signed];omega
 have HW:=qsd hw;clear hw;go_enter Tryz.func137,Tryz.ntmps137
 go_upto_region 1 with fail
 rw [←hW1];clear hW1
 go_wp2_with fail
 clear p0 p1 p2
 go_loopg [9,10] En (fun gk fv tv wr=>∃ f0 t:Nat,gk+f0=t∧fv=.int .u64 (f0:Nat)∧tv=.int .u64 (t:Nat)∧f0<t∧t≤En∧Aside (Half11 w dg ls En ag n (.slice a la ca) e m (.slice b lb cb) f f0 t wr))
 case atStart=>exact ⟨0,En,by omega,rfl,rfl,hE,Nat.le_refl _,S0⟩
 case round =>
  obtain ⟨f0,t,hgk,rfl,rfl,hft,htE,S1⟩:=hrel;have e1:=HW.out ((t:Int)-(f0:Int)) (by omega) (by omega)
  by_cases hone:1<(t:Int)-(f0:Int)
  · obtain ⟨mi,hm⟩:∃ mi,(f0+t)/2=mi:=⟨_,rfl⟩
    have e2:=HW.out ((f0:Int)+(t:Int)) (by omega) (by omega)
    have e3:((f0:Int)+(t:Int))/2=(mi:Nat):=by omega
    have e4:IntKind.u64.wrap ((mi:Nat):Int)=(mi:Nat):=HW.out _ (by omega) (by omega)
    have hmE:mi<En:=by omega
    obtain ⟨p0,p1,p2⟩:=S1.out.sz.facts;obtain ⟨X,hX⟩:∃ X,(num mi).1=X:=⟨_,rfl⟩;obtain ⟨y,hy⟩:∃ y,(num mi).2=y:=⟨_,rfl⟩;have H1:=hid (HN.out mi wr hmE);have H2:=hid fun u p l c=>HA.out mi u p l c hmE
    have lX:=LN.out.1 mi;rw [hX,hy] at H1 H2;rw [hX] at lX;have LX:=qsd lX;clear lX hX hy
    go_wp2_with fail
    clear p0 p1 p2;refine H1.out.mono ?_;rintro r u1 ⟨v,rfl,hN,hb⟩;obtain ⟨b1,c1,rfl,-⟩:=hN.shape;have S2:=qsd (S1.out.to hb);have H3:=hid (H2.out u1 b1 _ c1 S2.out.bel (hN.al' (Nat.le_trans LX.out (by decide))))
    clear hb hN S1 H1 H2;obtain ⟨x0,x1,x2,x3,x4,x5⟩:=S2.out.rq.facts
    go_wp2_with fail
    clear x0 x1 x2 x3 x4 x5;refine H3.out.mono ?_;rintro r u2 ⟨rfl,hb⟩;have S3:=qsd (S2.out.to hb);clear hb H3 S2
    by_cases hag:ag mi≤0
    · go_wp2_with fail
      go_roundg (t-mi)
      case measure=>omega
      case rel=>exact ⟨mi,t,by omega,rfl,rfl,by omega,htE,qsd ⟨S3.out.bel,S3.out.sz,S3.out.rq,by omega,htE,.inr hag,S3.out.hi⟩⟩
    · have hag':decide (ag mi≤0)=false:=decide_eq_false hag
      go_wp2_with fail
      go_roundg (mi-f0)
      case measure=>omega
      case rel=>exact ⟨f0,mi,by omega,rfl,rfl,by omega,by omega,qsd ⟨S3.out.bel,S3.out.sz,S3.out.rq,by omega,by omega,S3.out.lo,.inr (by omega)⟩⟩
  · have hone':decide (1<(t:Int)-(f0:Int))=false:=decide_eq_false hone
    obtain ⟨k,hk⟩:∃ k,k=f0:=⟨_,rfl⟩;subst hk;have hkE:k<En:=by omega
    have KK:Aside (k<En∧(k=0∨ag k≤0)∧(k+1=En∨0<ag (k+1))):=by
     obtain rfl:t=k+1:=by omega
     exact qsd ⟨hkE,S1.out.lo,S1.out.hi⟩
    have ek:IntKind.u64.wrap ((k:Int)+1)=(k:Int)+1:=HW.out _ (by omega) (by omega)
    obtain ⟨p0,p1,p2⟩:=S1.out.sz.facts;obtain ⟨X,hX⟩:∃ X,(num k).1=X:=⟨_,rfl⟩;obtain ⟨y,hy⟩:∃ y,(num k).2=y:=⟨_,rfl⟩;obtain ⟨z,hz⟩:∃ z,ag k=z:=⟨_,rfl⟩;obtain ⟨hv,hhv⟩:∃ z,hf k=z:=⟨_,rfl⟩;have hv3:=LN.out.2 k;obtain ⟨R,hR⟩:∃ R,nbyD11 mode n k z (-hv)=R:=⟨_,rfl⟩;have H1:=hid (HN.out k wr hkE);have H2:=hid fun u p l c=>HA.out k u p l c hkE
    have H5:=hid fun u=>HH.out k u hkE
    have lX:=LN.out.1 k;rw [hX,hy] at H1 H2;rw [hz] at H2;rw [hhv] at H5 hv3;rw [hX] at lX;have LX:=qsd lX;have HE:Aside (nbyD11 mode n k (ag k) (-(hf k))=R):=qsd (by rw [hz,hhv,hR])
    clear lX hX hy hz hhv LN HN HA HH S0 HW
    go_wp2_with fail
    clear p0 p1 p2;refine H1.out.mono ?_;rintro r u1 ⟨v,rfl,hN,hb⟩;obtain ⟨b1,c1,rfl,-⟩:=hN.shape;have S2:=qsd (S1.out.to hb);have H3:=hid (H2.out u1 b1 _ c1 S2.out.bel (hN.al' (Nat.le_trans LX.out (by decide))))
    clear hb hN S1 H1 H2 LX;obtain ⟨x0,x1,x2,x3,x4,x5⟩:=S2.out.rq.facts
    go_wp2_with fail
    clear x0 x1 x2 x3 x4 x5;refine H3.out.mono ?_;rintro r u2 ⟨rfl,hb⟩;have S3:=qsd (S2.out.to hb);clear hb H3 S2
    by_cases hz:z=0
    · subst hz
      obtain rfl:k=R:=by rw [←hR];unfold nbyD11;rw [if_pos rfl]
      clear hR
      go_wp2_with fail
      go_ret;exact ⟨⟨k,by rw [HE.out];first | rfl | simp,KK.out⟩,S3.out.bel⟩
    · have hz':(z==0)=false:=by simpa using hz
      have hR2:(if outS mode k (-hv) n then k+1 else k)=R:=by rw [←hR];unfold nbyD11;rw [if_neg hz]
      have H6:=hid (H5.out u2 S3.out.bel);obtain ⟨p0,p1,p2⟩:=S3.out.sz.facts;obtain ⟨x0,x1,x2,x3,x4,x5⟩:=S3.out.rq.facts;have HR2:=qsd hR2;clear hR hz hR2 H5
      go_wp2_with fail
      clear p0 p1 p2 x0 x1 x2 x3 x4 x5;refine H6.out.mono ?_;rintro r u4 ⟨rfl,hb⟩;have S4:=qsd (S3.out.to hb);obtain ⟨x0,x1,x2,x3,x4,x5⟩:=S4.out.rq.facts;clear hb S3 H6 hz';have hc:mode=0∨mode=1∨mode=2∨mode=3∨mode=4:=by omega
      clear hm0 hm4
      rcases hc with rfl|rfl|rfl|rfl|rfl
      · rcases hv3 with rfl | rfl | rfl
        · go_wp2
          go_ret;exact ⟨⟨k,by rw [HE.out,←HR2.out];simp [outS],KK.out⟩,S4.out.bel⟩
        · by_cases hp:k%2=1
          · have hp':(k:Int)%2=1:=by omega
            go_wp2;go_ret;exact ⟨⟨k,by rw [HE.out,←HR2.out];simp [outS,hp],KK.out⟩,S4.out.bel⟩
          · have hp':(k:Int)%2=0:=by omega
            go_wp2;go_ret;exact ⟨⟨k,by rw [HE.out,←HR2.out];simp [outS,hp],KK.out⟩,S4.out.bel⟩
        · go_wp2
          go_ret;exact ⟨⟨k,by rw [HE.out,←HR2.out];simp [outS],KK.out⟩,S4.out.bel⟩
      · go_wp2
        go_ret;exact ⟨⟨k,by rw [HE.out,←HR2.out];simp [outS],KK.out⟩,S4.out.bel⟩
      · cases n
        all_goals (
         go_wp2;go_ret;exact ⟨⟨k,by rw [HE.out,←HR2.out];simp [outS],KK.out⟩,S4.out.bel⟩)
      · cases n
        all_goals (
         go_wp2;go_ret;exact ⟨⟨k,by rw [HE.out,←HR2.out];simp [outS],KK.out⟩,S4.out.bel⟩)
      · rcases hv3 with rfl | rfl | rfl
        all_goals (
         go_wp2;go_ret;exact ⟨⟨k,by rw [HE.out,←HR2.out];simp [outS],KK.out⟩,S4.out.bel⟩)
end
section
open Go.RowKit
theorem cmpZ_scale11' (x y c:Nat) (hc:0<c):cmpZ ((x*c:Nat):Int) ((y*c:Nat):Int)=cmpZ (x:Int) (y:Int):=by
 rw [Int.natCast_mul,Int.natCast_mul];exact cmpZ_scale11 _ _ _ (by omega)
theorem ag_gen (A v X Y:Nat) (g e f B:Int) (u n:Nat) (hB1:B≤g) (hB2:B≤-((n*u:Nat):Int)) (hA:A*2^(g-B).toNat=v*2^(-((n*u:Nat):Int)-B).toNat) :
 agV (A*Y) (g+f) X e=cmpZ ((v*rS11 Y e f u n:Nat):Int) ((rV11 X e f u n:Nat):Int):=by
 generalize hU:n*u=U at hB2 hA;obtain ⟨D,hD1,hD2⟩:∃ D:Int,D≤f∧B+D≤e:=⟨min f (e-B),Int.min_le_left _ _,by have:=Int.min_le_right f (e-B);omega⟩
 rw [agV_z (A*Y) (g+f) X e (B+D) (by omega) hD2]
 obtain ⟨c,hc⟩:∃ c:Nat,(-(U:Int)-B).toNat+(f-D).toNat=(-(e-f+(U:Int))).toNat+c:=⟨(-(U:Int)-B).toNat+(f-D).toNat-(-(e-f+(U:Int))).toNat,by omega⟩
 have hd:(e-(B+D)).toNat=(e-f+(U:Int)).toNat+c:=by omega
 have e1:A*Y*2^(g+f-(B+D)).toNat=v*rS11 Y e f u n*2^c:=by
  rw [show (g+f-(B+D)).toNat=(g-B).toNat+(f-D).toNat by omega,Nat.pow_add,Nat.mul_mul_mul_comm,hA,Nat.mul_mul_mul_comm,←Nat.pow_add,hc,Nat.pow_add]
  unfold rS11;rw [hU];simp only [Nat.mul_assoc]
 have e2:X*2^(e-(B+D)).toNat=rV11 X e f u n*2^c:=by
  rw [hd,Nat.pow_add];unfold rV11;rw [hU];simp only [Nat.mul_assoc]
 rw [e1,e2];exact cmpZ_scale11' _ _ _ (Nat.two_pow_pos c)
theorem half_units (v X Y:Nat) (e f:Int) (u n:Nat):cmpZ ((v*rS11 Y e f (u+1) n:Nat):Int) ((rV11 X e f (u+1) n:Nat):Int)=cmpZ ((v*rS11 Y e f u n:Nat):Int) ((2^n*rV11 X e f u n:Nat):Int):=by
 generalize hU:n*u=U;have hU':n*(u+1)=U+n:=by rw [Nat.mul_add,Nat.mul_one,hU]
 rw [←cmpZ_scale11' (v*rS11 Y e f (u+1) n) (rV11 X e f (u+1) n) (2^(-(e-f+(U:Int))).toNat) (Nat.two_pow_pos _),←cmpZ_scale11' (v*rS11 Y e f u n) (2^n*rV11 X e f u n) (2^(-(e-f+((U+n:Nat):Int))).toNat) (Nat.two_pow_pos _)]
 congr 2
 · unfold rS11
   rw [hU,hU'];simp only [Nat.mul_assoc];rw [Nat.mul_comm (2^_) (2^_)]
 · unfold rV11
   rw [hU,hU',Nat.mul_assoc,←Nat.pow_add,Nat.mul_comm (2^n),Nat.mul_assoc,Nat.mul_assoc,←Nat.pow_add,←Nat.pow_add]
   congr 2
   omega
theorem pow_units {A v:Nat}{g B:Int}{u n:Nat}(h1:B≤g) (h2:B≤-(u:Int)) (hA:A*2^(g-B).toNat=v*2^(-(u:Int)-B).toNat) (hn:n=1∨n=2):A^n*2^((n:Int)*g-(n:Int)*B).toNat=v^n*2^(-((n*u:Nat):Int)-(n:Int)*B).toNat:=by
 rcases hn with rfl|rfl
 · rw [Nat.pow_one,Nat.pow_one,Nat.one_mul]
   simpa using hA
 · rw [show (((2:Nat):Int)*g-((2:Nat):Int)*B).toNat=(g-B).toNat+(g-B).toNat by omega,show (-((2*u:Nat):Int)-((2:Nat):Int)*B).toNat=(-(u:Int)-B).toNat+(-(u:Int)-B).toNat by omega,Nat.pow_add,Nat.pow_add,Nat.pow_two,Nat.pow_two,Nat.mul_mul_mul_comm,hA,Nat.mul_mul_mul_comm]
theorem mid_units {A Bv v v1 SM:Nat}{g h q B:Int}{u:Nat}(h1:B≤g-1) (h2:B≤-((u+1:Nat):Int)) (hq:q=h-g) (hq0:0≤q) (hA:A*2^(g-B).toNat=v*2^(-(u:Int)-B).toNat) (hBv:Bv*2^(h-B).toNat=v1*2^(-(u:Int)-B).toNat) (hS:A+Bv*2^q.toNat=SM) :
 SM*2^(g-1-B).toNat=(v+v1)*2^(-((u+1:Nat):Int)-B).toNat:=by
 have k1:(g-B).toNat=(g-1-B).toNat+1:=by omega
 have k2:(-(u:Int)-B).toNat=(-((u+1:Nat):Int)-B).toNat+1:=by omega
 have k3:(h-B).toNat=q.toNat+((g-1-B).toNat+1):=by omega
 rw [k1,k2,Nat.pow_succ,Nat.pow_succ,←Nat.mul_assoc,←Nat.mul_assoc] at hA;rw [k3,k2,Nat.pow_add,Nat.pow_succ,Nat.pow_succ,←Nat.mul_assoc,←Nat.mul_assoc,←Nat.mul_assoc] at hBv;have e1:=Nat.eq_of_mul_eq_mul_right (by omega:0<2) hA
 have e2:=Nat.eq_of_mul_eq_mul_right (by omega:0<2) hBv
 rw [←hS,Nat.add_mul,Nat.add_mul,e1,e2]
end
end Go.Proofs.YtjldfhecnaiinaaGreatDoor
