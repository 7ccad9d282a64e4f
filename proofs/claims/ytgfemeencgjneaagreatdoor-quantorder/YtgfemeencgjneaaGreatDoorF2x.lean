import Derived.Test.YtgfemeencgjneaaGreatDoorZ14x
import Derived.Deep.RegionWith
import Derived.Deep.Cut
import Derived.Test.YtgfemeencgjneaaGreatDoorS15x
import Derived.Test.YtgfemeencgjneaaGreatDoorD4x
import Derived.Deep.LoopGhost
import Derived.Deep.CutRange
import Derived.Test.YtgfemeencgjneaaGreatDoorM1x
import Derived.OwnWalk
set_option linter.unusedVariables false
set_option linter.unusedSimpArgs false
set_option maxHeartbeats 16000000
set_option maxRecDepth 20000
namespace Go.Proofs.YtgfemeencgjneaaGreatDoor
namespace J
end J
namespace Ps
open Go.RowKit
open Go.Proofs.YtgfemeencgjneaaGreatDoor.B (f64bits f64frombits bw)
attribute [local go_sem] f64bits f64frombits
theorem kd_le (b:Nat):kd b≤5:=by unfold kd;(repeat' split) <;> omega
open Go.RowKit
open Go.Proofs.YtgfemeencgjneaaGreatDoor.B (f64bits f64frombits bw bcell)
attribute [local go_sem] f64bits f64frombits
def cn (k:Nat) (xs:List Nat):Nat:=xs.countP (fun x=>kd x==k)
theorem cn_append (k:Nat) (xs ys:List Nat):cn k (xs++ys)=cn k xs+cn k ys:=by simp [cn,List.countP_append]
def one (k x:Nat):Nat:=if kd x=k then 1 else 0
theorem cn_one (k x:Nat):cn k [x]=one k x:=by unfold cn one;by_cases h:kd x=k <;> simp [h]
theorem take_succ' (xs:List Nat) (i:Nat) (h:i<xs.length):xs.take (i+1)=xs.take i++[xs.getD i 0]:=by
 rw [List.take_succ_eq_append_getElem h,List.getD_eq_getElem?_getD,List.getElem?_eq_getElem h];rfl
theorem cn_succ (k:Nat) (xs:List Nat) (i:Nat) (h:i<xs.length):cn k (xs.take (i+1))=cn k (xs.take i)+one k (xs.getD i 0):=by
 rw [take_succ' xs i h,cn_append,cn_one]
theorem cn_le (k:Nat) (xs:List Nat):cn k xs≤xs.length:=List.countP_le_length
def SpB (w:World) (g:Nat) (n u d m p a:Int):Prop:=w.heap[g]?=some (.cells #[.int .i64 n,.int .i64 u,.int .i64 d,.int .i64 m,.int .i64 p,.int .i64 a] 168 (0,0))
theorem SpB.lt {w:World}{g:Nat}{n u d m p a:Int}(h:SpB w g n u d m p a):g<w.heap.size:=(Array.getElem?_eq_some_iff.1 h).1
theorem SpB.c0 {w:World}{g:Nat}{n u d m p a:Int}(h:SpB w g n u d m p a):w.cell? ⟨g,0,none⟩=some (.int .i64 n):=by unfold SpB at h;simp [World.cell?,h]
theorem SpB.c1 {w:World}{g:Nat}{n u d m p a:Int}(h:SpB w g n u d m p a):w.cell? ⟨g,1,none⟩=some (.int .i64 u):=by unfold SpB at h;simp [World.cell?,h]
theorem SpB.c2 {w:World}{g:Nat}{n u d m p a:Int}(h:SpB w g n u d m p a):w.cell? ⟨g,2,none⟩=some (.int .i64 d):=by unfold SpB at h;simp [World.cell?,h]
theorem SpB.c3 {w:World}{g:Nat}{n u d m p a:Int}(h:SpB w g n u d m p a):w.cell? ⟨g,3,none⟩=some (.int .i64 m):=by unfold SpB at h;simp [World.cell?,h]
theorem SpB.c4 {w:World}{g:Nat}{n u d m p a:Int}(h:SpB w g n u d m p a):w.cell? ⟨g,4,none⟩=some (.int .i64 p):=by unfold SpB at h;simp [World.cell?,h]
theorem SpB.c5 {w:World}{g:Nat}{n u d m p a:Int}(h:SpB w g n u d m p a):w.cell? ⟨g,5,none⟩=some (.int .i64 a):=by unfold SpB at h;simp [World.cell?,h]
theorem SpB.frozen {w:World}{g:Nat}{n u d m p a:Int}(h:SpB w g n u d m p a) (i:Nat):w.frozen? ⟨g,i,none⟩=false:=by unfold SpB at h;simp [World.frozen?,h]
theorem SpB.below {w w':World}{g B:Nat}{n u d m p a:Int}(h:SpB w g n u d m p a) (hb:Below B w w') (hg:g<B):SpB w' g n u d m p a:=by
 unfold SpB at h ⊢;rw [hb.block g hg];exact h
theorem count_any (k g:Nat) (n u d m p a:Int) (w:World) (hk:k≤5) (hB:SpB w g n u d m p a) (hn:0≤n∧n≤65536) (hu:0≤u∧u≤65536) (hd:0≤d∧d≤65536) (hm:0≤m∧m≤65536) (hp:0≤p∧p≤65536) :
 Calls Tryz.prog 164 #[.pointer (some ⟨g,0,none⟩),.int .i64 (k:Nat)] w fun r w'=>r=.returned (.tuple #[]) ∧
  SpB w' g (if k=0 then n+1 else n) (if k=1 then u+1 else u) (if k=2 then d+1 else d) (if k=3 then m+1 else m) (if k=4 then p+1 else p) a∧But g w w':=by
 have hc0:=hB.c0;have hc1:=hB.c1;have hc2:=hB.c2;have hc3:=hB.c3;have hc4:=hB.c4;have hf0:=hB.frozen 0;have hf1:=hB.frozen 1;have hf2:=hB.frozen 2;have hf3:=hB.frozen 3;have hf4:=hB.frozen 4;have HB:=qsd hB;clear hB;obtain rfl|rfl|rfl|rfl|rfl|rfl:k=0∨k=1∨k=2∨k=3∨k=4∨k=5:=by omega
 · go_enter Tryz.func164,Tryz.ntmps164
   go_wp2
   go_end0
   refine ⟨rfl,?_,(But.refl _ _).set _ _⟩;have h:=HB.out;unfold SpB at h ⊢;simp [World.setCell,Array.getElem?_modify,h]
 · go_enter Tryz.func164,Tryz.ntmps164
   go_wp2
   go_end0
   refine ⟨rfl,?_,(But.refl _ _).set _ _⟩;have h:=HB.out;unfold SpB at h ⊢;simp [World.setCell,Array.getElem?_modify,h]
 · go_enter Tryz.func164,Tryz.ntmps164
   go_wp2
   go_end0
   refine ⟨rfl,?_,(But.refl _ _).set _ _⟩;have h:=HB.out;unfold SpB at h ⊢;simp [World.setCell,Array.getElem?_modify,h]
 · go_enter Tryz.func164,Tryz.ntmps164
   go_wp2
   go_end0
   refine ⟨rfl,?_,(But.refl _ _).set _ _⟩;have h:=HB.out;unfold SpB at h ⊢;simp [World.setCell,Array.getElem?_modify,h]
 · go_enter Tryz.func164,Tryz.ntmps164
   go_wp2
   go_end0
   refine ⟨rfl,?_,(But.refl _ _).set _ _⟩;have h:=HB.out;unfold SpB at h ⊢;simp [World.setCell,Array.getElem?_modify,h]
 · go_enter Tryz.func164,Tryz.ntmps164
   go_wp2
   go_end0
   exact ⟨rfl,HB.out,But.refl _ _⟩
def rf (n u d a b:Int):Int:=if 0<n∧a=2 then 60 else if 0<u+d∧b=2 then 61 else 0
theorem refusal_any (n u d m p l a b:Int) (w:World) (hu:0≤u∧u≤65536) (hd:0≤d∧d≤65536) :
 Calls Tryz.prog 165 #[.agg #[.int .i64 n,.int .i64 u,.int .i64 d,.int .i64 m,.int .i64 p,.int .i64 l],.agg #[.int .i64 a,.int .i64 b]] w fun r w'=>r=.returned (.int .i64 (rf n u d a b))∧Below w.heap.size w w':=by
 have below:∀ o o',Below w.heap.size w ((w.alloc o).alloc o'):=fun o o'=>((Below.refl _ _).alloc (Nat.le_refl _) _).alloc (by simp) _
 obtain ⟨t,ht⟩:∃ t,u+d=t:=⟨_,rfl⟩;have ht2:-9223372036854775808≤t∧t≤9223372036854775807:=by omega
 unfold rf;rw [ht]
 by_cases h1:0<n
 · by_cases h2:a=2
   · rw [if_pos ⟨h1,h2⟩]
     subst h2;go_enter Tryz.func165,Tryz.ntmps165;go_wp2;go_ret;exact ⟨rfl,below _ _⟩
   · have h2':(a==2)=false:=by rw [beq_eq_false_iff_ne];exact h2
     rw [if_neg (fun h=>h2 h.2)]
     by_cases h3:0<t
     · by_cases h4:b=2
       · rw [if_pos ⟨h3,h4⟩]
         subst h4;go_enter Tryz.func165,Tryz.ntmps165;go_wp2;go_ret;exact ⟨rfl,below _ _⟩
       · have h4':(b==2)=false:=by rw [beq_eq_false_iff_ne];exact h4
         rw [if_neg (fun h=>h4 h.2)]
         go_enter Tryz.func165,Tryz.ntmps165;go_wp2;go_ret;exact ⟨rfl,below _ _⟩
     · have h3':decide (0<t)=false:=decide_eq_false h3
       rw [if_neg (fun h=>h3 h.1)]
       go_enter Tryz.func165,Tryz.ntmps165;go_wp2;go_ret;exact ⟨rfl,below _ _⟩
 · have h1':decide (0<n)=false:=decide_eq_false h1
   rw [if_neg (fun h=>h1 h.1)]
   by_cases h3:0<t
   · by_cases h4:b=2
     · rw [if_pos ⟨h3,h4⟩]
       subst h4;go_enter Tryz.func165,Tryz.ntmps165;go_wp2;go_ret;exact ⟨rfl,below _ _⟩
     · have h4':(b==2)=false:=by rw [beq_eq_false_iff_ne];exact h4
       rw [if_neg (fun h=>h4 h.2)]
       go_enter Tryz.func165,Tryz.ntmps165;go_wp2;go_ret;exact ⟨rfl,below _ _⟩
   · have h3':decide (0<t)=false:=decide_eq_false h3
     rw [if_neg (fun h=>h3 h.1)]
     go_enter Tryz.func165,Tryz.ntmps165;go_wp2;go_ret;exact ⟨rfl,below _ _⟩
open Go.RowKit
open Go.Proofs.YtgfemeencgjneaaGreatDoor.B (f64bits f64frombits bw bcell)
attribute [local go_sem] f64bits f64frombits
theorem SpB.made (w:World) (n u d m p a:Int):SpB (w.alloc (.cells #[.int .i64 n,.int .i64 u,.int .i64 d,.int .i64 m,.int .i64 p,.int .i64 a] 168)) w.heap.size n u d m p a:=heap_alloc_new w _
def SpT (w:World) (g:Nat) (xs:List Nat) (a:Int):Prop:=SpB w g (cn 5 xs:Nat) (cn 3 xs:Nat) (cn 4 xs:Nat) (cn 1 xs:Nat) (cn 2 xs:Nat) a
theorem cn_bd (k:Nat) (xs:List Nat) (n:Nat) (h:xs.length≤n) (hn:n≤65536):0≤((cn k xs:Nat):Int)∧((cn k xs:Nat):Int)≤65536:=by have:=cn_le k xs;omega
theorem But.set6 {a w:World}{g:Nat}(h:But g a w) (u0 u1 u2 u3 u4 u5:Value) :
 But g a ((((((w.setCell ⟨g,0,none⟩ u0).setCell ⟨g,1,none⟩ u1).setCell ⟨g,2,none⟩ u2).setCell ⟨g,3,none⟩ u3).setCell ⟨g,4,none⟩ u4).setCell ⟨g,5,none⟩ u5) :=
 ((((((h.set 0 u0).set 1 u1).set 2 u2).set 3 u3).set 4 u4).set 5 u5)
theorem cset {w:World}{b o:Nat}{u:Value}(h:w.cell? ⟨b,o,none⟩=some u) (v:Value):(w.setCell ⟨b,o,none⟩ v).cell? ⟨b,o,none⟩=some v:=by
 simp only [World.cell?] at h ⊢;simp only [World.setCell,Array.getElem?_modify]
 cases hb:w.heap[b]? with
 | none=>rw [hb] at h;simp at h
 | some ob =>
   rw [hb] at h
   cases ob <;> simp_all
   rename_i cs _ _
   by_cases hl:o<cs.size
   · simp [hl]
   · rw [Array.getElem?_eq_none (by omega)] at h;cases h
theorem csetm (w:World) (b o:Nat) (v:Value):(w.setCell ⟨b,o,none⟩ v).cell? ⟨b,o,none⟩=(w.cell? ⟨b,o,none⟩).map (fun _=>v):=by
 cases h:w.cell? ⟨b,o,none⟩ with
 | some u=>rw [cset h v];rfl
 | none =>
   simp only [World.cell?] at h ⊢;simp only [World.setCell,Array.getElem?_modify]
   cases hb:w.heap[b]? with
   | none=>simp
   | some ob =>
     rw [hb] at h
     cases ob <;> simp_all
open Go.RowKit
open Go.Proofs.YtgfemeencgjneaaGreatDoor.B (f64bits f64frombits bw bcell)
attribute [local go_sem] f64bits f64frombits
def fin (xs:List Nat):List Nat:=xs.filter (fun x=>decide (kd x≤2))
theorem fin_append (xs ys:List Nat):fin (xs++ys)=fin xs++fin ys:=by simp [fin,List.filter_append]
theorem fin_le (xs:List Nat):(fin xs).length≤xs.length:=List.length_filter_le _ _
theorem fin_in (xs:List Nat) (i:Nat) (h:i<xs.length) (hk:kd (xs.getD i 0)≤2):fin (xs.take (i+1))=fin (xs.take i)++[xs.getD i 0]:=by
 rw [take_succ' xs i h,fin_append];simp [fin];simpa [List.getD_eq_getElem?_getD] using hk
theorem fin_out (xs:List Nat) (i:Nat) (h:i<xs.length) (hk:¬ kd (xs.getD i 0)≤2):fin (xs.take (i+1))=fin (xs.take i):=by
 rw [take_succ' xs i h,fin_append];simp [fin];simpa [List.getD_eq_getElem?_getD] using hk
def siftE (a b:Int) (xs:List Nat):Int:=if may a b=false then 1 else if 65536<xs.length then 2 else rf (cn 5 xs:Nat) (cn 3 xs:Nat) (cn 4 xs:Nat) a b
def siftL (a b:Int) (xs:List Nat):List Nat:=if siftE a b xs=0 then fin xs else []
def siftS (a b:Int) (xs:List Nat):Value:=if siftE a b xs=0 then .agg #[.int .i64 (cn 5 xs:Nat),.int .i64 (cn 3 xs:Nat),.int .i64 (cn 4 xs:Nat),.int .i64 (cn 1 xs:Nat),.int .i64 (cn 2 xs:Nat),.int .i64 (xs.length:Nat)] else .agg #[.int .i64 0,.int .i64 0,.int .i64 0,.int .i64 0,.int .i64 0,.int .i64 0]
def SiftAns (w:World) (a b:Int) (xs:List Nat) (r:Ending) (w':World):Prop:=∃ v,r=.returned (.tuple #[v,siftS a b xs,.int .i64 (siftE a b xs)])∧Lt w.heap.size w' v (siftL a b xs)∧Below w.heap.size w w'
theorem SiftAns.no {w w':World}{a b:Int}{xs:List Nat}(e:Int) (he:siftE a b xs=e) (h0:e≠0) (hb:Below w.heap.size w w'):SiftAns w a b xs (.returned (.tuple #[.slice none 0 0,.agg #[.int .i64 0,.int .i64 0,.int .i64 0,.int .i64 0,.int .i64 0,.int .i64 0],.int .i64 e])) w':=by
 subst he;refine ⟨.slice none 0 0,?_,?_,hb⟩
 · unfold siftS;rw [if_neg h0]
 · unfold siftL;rw [if_neg h0];exact Lt.nil _ _
theorem SiftAns.yes {w w':World}{a b:Int}{xs:List Nat}{v:Value}(he:siftE a b xs=0) (hv:Rw w.heap.size w' v (fin xs).length ((fin xs).map U)) (hb:Below w.heap.size w w') :
 SiftAns w a b xs (.returned (.tuple #[v,.agg #[.int .i64 (cn 5 xs:Nat),.int .i64 (cn 3 xs:Nat),.int .i64 (cn 4 xs:Nat),.int .i64 (cn 1 xs:Nat),.int .i64 (cn 2 xs:Nat),.int .i64 (xs.length:Nat)],.int .i64 0])) w':=by
 refine ⟨v,?_,?_,hb⟩
 · rw [he];unfold siftS;rw [if_pos he]
 · unfold siftL;rw [if_pos he];exact hv
theorem Rw.below {lo:Nat}{w w':World}{v:Value}{n:Nat}{ys:List Value}(h:Rw lo w v n ys) (hb:Below w.heap.size w w'):Rw lo w' v n ys :=
 Keep.row h (Keep.below hb)
theorem Rw.but {lo g:Nat}{w w':World}{v:Value}{n:Nat}{ys:List Value}(h:Rw lo w v n ys) (hb:But g w w') {cur:Array Value}{e:TypeId}(he:e≠27) (hg:w.heap[g]?=some (.cells cur e (0,0))):Rw lo w' v n ys:=by
 refine row_other h fun k hk=>?_
 rcases h.2 with ⟨rfl,_⟩|⟨g2,cap,c2,rfl,_,hg2,_⟩
 · cases hk
 · cases hk
   refine hb.block _ (Array.getElem?_eq_some_iff.1 hg2).1 (fun e2=>?_)
   subst e2;rw [hg] at hg2
   cases hg2
   exact he rfl
theorem Rw.mono {lo lo':Nat}{w:World}{v:Value}{n:Nat}{ys:List Value}(h:Rw lo w v n ys) (hl:lo'≤lo):Rw lo' w v n ys:=by
 refine ⟨h.1,?_⟩
 rcases h.2 with hn|⟨g,cap,cur,rfl,hlo,rest⟩
 · exact .inl hn
 · exact .inr ⟨g,cap,cur,rfl,by omega,rest⟩
theorem Rw.low {lo:Nat}{w:World}{v:Value}{n:Nat}{ys:List Value}(h:Rw lo w v n ys):∀ b,v.ownBlock=some b→lo≤b:=by
 intro b hb
 rcases h.2 with ⟨rfl,_⟩|⟨g,cap,cur,rfl,hlo,_⟩
 · cases hb
 · cases hb;exact hlo
theorem make_room (n:Nat) (hn:n≤65536) (w:World) :
 (Instr.makeSlice 23 (.int .i64 0) (.int .i64 (n:Nat))).run Tryz.prog w=.ok (.slice (some ⟨w.heap.size,0,none⟩) 0 n) (w.alloc (.cells (madeCells #[.float .f64 0] n) 27)):=by
 obtain ⟨i0,hi,hz0,hz1,hz2⟩:=info_parts Tryz.info27;have hr:=run_make (P:=Tryz.prog) w 23 27 i0 (.float .f64 0) Tryz.underlying23 hi hz0 .i64 .i64 0 (n:Int) (Int.le_refl _) (by omega) (by rw [hz2];omega) (by omega)
 rw [hz1,Nat.mul_one] at hr;simp only [Int.toNat_natCast,Int.toNat_zero] at hr;exact hr
theorem row_made (lo:Nat) (w:World) (n:Nat) (hn:n≤65536) (hlo:lo≤w.heap.size):Rw lo (w.alloc (.cells (madeCells #[.float .f64 0] n) 27)) (.slice (some ⟨w.heap.size,0,none⟩) 0 n) 0 []:=by
 refine ⟨rfl,.inr ⟨w.heap.size,n,madeCells #[.float .f64 0] n,rfl,hlo,heap_alloc_new w _,by omega,by unfold maxLen;omega,?_,?_⟩⟩
 · have:=congrArg List.length (toList_madeCells_one (.float .f64 0) n)
   simpa using this
 · simp
theorem push (lo:Nat) (w:World) (v:Value) (ys:List Nat) (x:Nat) (hrow:Rw lo w v ys.length (ys.map U)) (hn:ys.length≤65536) (hlo:lo≤w.heap.size) :
 ∃ v' w',(Builtin.append_ #[23,23] 23 #[v,.slice (some ⟨w.heap.size,0,none⟩) 1 1]).run Tryz.prog (w.alloc (.cells #[.float .f64 x] 27))=.ok v' w'∧Rw lo w' v' (ys++[x]).length ((ys++[x]).map U) ∧
   Below lo w w'∧(∀ (g:Nat) (cur:Array Value) (e:TypeId),e≠27→w.heap[g]?=some (.cells cur e (0,0))→w'.heap[g]?=some (.cells cur e (0,0)))∧w.heap.size≤w'.heap.size:=by
 obtain ⟨v',w',h1,h2,h3,_,_⟩:=append_word (w.alloc (.cells #[.float .f64 x] 27)) lo v ys.length (ys.map U) (.float .f64 x) w.heap.size 23 (hrow.alloc _) (by unfold World.cell?;simp only [heap_alloc_new];rfl) rfl (by omega) (by simp;omega)
 refine ⟨v',w',h1,by simpa [U] using h2,((Below.refl lo w).alloc hlo _).grown h3 (by simp;omega) hrow.low,?_,by have:=h3.size;simp at this;omega⟩
 intro g cur e he hg;have hgl:=(Array.getElem?_eq_some_iff.1 hg).1;rw [h3.block g (by simp;omega) (fun e2=>?_),Below.heap_alloc _ _ _ hgl]
 · exact hg
 · rcases hrow.2 with ⟨rfl,_⟩ | ⟨g2,cap,c2,rfl,_,hg2,_⟩
   · cases e2
   · cases e2
     rw [hg] at hg2
     cases hg2
     exact he rfl
structure SI (lo sb:Nat) (W1:World) (xs:List Nat) (i:Nat) (a:Int) (v:Value) (wr:World):Prop where
 row:Rw lo wr v (fin (xs.take i)).length ((fin (xs.take i)).map U)
 sp:SpT wr sb (xs.take i) a
 bel:Below lo W1 wr
 size:W1.heap.size≤wr.heap.size
theorem SI.kind {lo sb:Nat}{W1:World}{xs:List Nat}{i:Nat}{a:Int}{v:Value}{wr w1:World}(h:SI lo sb W1 xs i a v wr) (hb:Below wr.heap.size wr w1) (hlo:lo≤wr.heap.size):SI lo sb W1 xs i a v w1 :=
 ⟨h.row.below hb,SpB.below h.sp hb (SpB.lt h.sp),h.bel.trans (hb.mono hlo),Nat.le_trans h.size hb.size⟩
theorem SI.out {lo sb:Nat}{W1:World}{xs:List Nat}{i:Nat}{a:Int}{v:Value}{wr w2:World}(h:SI lo sb W1 xs i a v wr) (hi:i<xs.length) (hs:SpT w2 sb (xs.take (i+1)) a) (hb:But sb wr w2) (hlo:lo≤sb) (hl:lo≤wr.heap.size) (hk:¬ kd (xs.getD i 0)≤2):SI lo sb W1 xs (i+1) a v w2 :=
 ⟨by rw [fin_out xs i hi hk];exact h.row.but hb (by decide) h.sp,hs,But.below h.bel hb hl hlo,Nat.le_trans h.size hb.size⟩
theorem SI.row2 {lo sb:Nat}{W1:World}{xs:List Nat}{i:Nat}{a:Int}{v:Value}{wr w2:World}(h:SI lo sb W1 xs i a v wr) (hb:But sb wr w2):Rw lo w2 v (fin (xs.take i)).length ((fin (xs.take i)).map U):=h.row.but hb (by decide) h.sp
theorem SpB.keep {w w':World}{g:Nat}{n u d m p a:Int}(h:SpB w g n u d m p a) (hk:∀ (g:Nat) (cur:Array Value) (e:TypeId),e≠27→w.heap[g]?=some (.cells cur e (0,0))→w'.heap[g]?=some (.cells cur e (0,0))):SpB w' g n u d m p a :=
 hk _ _ _ (by decide) h
theorem SI.into {lo sb:Nat}{W1:World}{xs:List Nat}{i:Nat}{a:Int}{v v':Value}{wr w2 w3:World}(h:SI lo sb W1 xs i a v wr) (hi:i<xs.length) (hs:SpT w2 sb (xs.take (i+1)) a) (hb:But sb wr w2) (hlo:lo≤sb) (hl:lo≤wr.heap.size) (hk:kd (xs.getD i 0)≤2)
 (hrow:Rw lo w3 v' (fin (xs.take i)++[xs.getD i 0]).length ((fin (xs.take i)++[xs.getD i 0]).map U)) (hb3:Below lo w2 w3) (hkeep:∀ (g:Nat) (cur:Array Value) (e:TypeId),e≠27→w2.heap[g]?=some (.cells cur e (0,0))→w3.heap[g]?=some (.cells cur e (0,0))) (hsz:w2.heap.size≤w3.heap.size):SI lo sb W1 xs (i+1) a v' w3 :=
 ⟨by rw [fin_in xs i hi hk];exact hrow,SpB.keep hs hkeep,(But.below h.bel hb hl hlo).trans hb3,Nat.le_trans (Nat.le_trans h.size hb.size) hsz⟩
theorem kp_one (x:Nat) (n u d m p:Nat):(if kp (kd x)=0 then ((n:Nat):Int)+1 else n)=((n+one 5 x:Nat):Int)∧(if kp (kd x)=1 then ((u:Nat):Int)+1 else u)=((u+one 3 x:Nat):Int)∧(if kp (kd x)=2 then ((d:Nat):Int)+1 else d)=((d+one 4 x:Nat):Int) ∧
 (if kp (kd x)=3 then ((m:Nat):Int)+1 else m)=((m+one 1 x:Nat):Int)∧(if kp (kd x)=4 then ((p:Nat):Int)+1 else p)=((p+one 2 x:Nat):Int):=by
 have hk:=kd_le x;unfold one;generalize kd x=k at hk;obtain rfl|rfl|rfl|rfl|rfl|rfl:k=0∨k=1∨k=2∨k=3∨k=4∨k=5:=by omega
 all_goals simp [kp]
theorem kp_ge (x:Nat):3≤kp (kd x)↔kd x≤2:=by
 have hk:=kd_le x;generalize kd x=k at hk;obtain rfl|rfl|rfl|rfl|rfl|rfl:k=0∨k=1∨k=2∨k=3∨k=4∨k=5:=by omega
 all_goals simp [kp]
theorem kp_le (x:Nat):kp (kd x)≤5:=by unfold kp;(repeat' split) <;> omega
theorem SpT.counted {w w':World}{sb:Nat}{xs:List Nat}{i:Nat}{a:Int}(hi:i<xs.length)
 (h:SpB w' sb (if kp (kd (xs.getD i 0))=0 then ((cn 5 (xs.take i):Nat):Int)+1 else ((cn 5 (xs.take i):Nat):Int)) (if kp (kd (xs.getD i 0))=1 then ((cn 3 (xs.take i):Nat):Int)+1 else ((cn 3 (xs.take i):Nat):Int)) (if kp (kd (xs.getD i 0))=2 then ((cn 4 (xs.take i):Nat):Int)+1 else ((cn 4 (xs.take i):Nat):Int)) (if kp (kd (xs.getD i 0))=3 then ((cn 1 (xs.take i):Nat):Int)+1 else ((cn 1 (xs.take i):Nat):Int)) (if kp (kd (xs.getD i 0))=4 then ((cn 2 (xs.take i):Nat):Int)+1 else ((cn 2 (xs.take i):Nat):Int)) a) :
 SpT w' sb (xs.take (i+1)) a:=by
 obtain ⟨h1,h2,h3,h4,h5⟩:=kp_one (xs.getD i 0) (cn 5 (xs.take i)) (cn 3 (xs.take i)) (cn 4 (xs.take i)) (cn 1 (xs.take i)) (cn 2 (xs.take i));rw [h1,h2,h3,h4,h5] at h;unfold SpT;rw [cn_succ 5 xs i hi,cn_succ 3 xs i hi,cn_succ 4 xs i hi,cn_succ 1 xs i hi,cn_succ 2 xs i hi];exact h
end Ps
namespace Ps
open Go.RowKit
open Go.Proofs.YtgfemeencgjneaaGreatDoor.B (f64bits f64frombits bw bcell)
attribute [local go_sem] f64bits f64frombits
theorem Sift_arg (xs:List Nat) (ao:Option Addr) (n cap:Nat) (a b:Int) (w:World) (hm:may a b=false) :
 Calls Tryz.prog 134 #[.slice ao n cap,.agg #[.int .i64 a,.int .i64 b]] w (SiftAns w a b xs):=by
 have H:=hid (May_any a b);rw [hm] at H;have HE:Aside (siftE a b xs=1):=by unfold siftE;rw [hm];rfl
 clear hm;go_enter Tryz.func134,Tryz.ntmps134
 go_wp2_with fail
 refine (H.out _).mono ?_;rintro r w1 ⟨rfl,hb⟩;have hsz:=hb.size;simp at hsz;obtain ⟨hc,hf⟩:=bcell hb;have HB:=qsd hb;clear hb;go_wp2;refine bodyPost_ret (v:=.tuple #[.slice none 0 0,.agg #[.int .i64 0,.int .i64 0,.int .i64 0,.int .i64 0,.int .i64 0,.int .i64 0],.int .i64 1]) (by simp [results,Tryz.results134,go_sem,csetm,hc]) rfl (SiftAns.no 1 HE.out (by decide) ?_)
 exact But.below ((((Below.refl _ w).alloc (Nat.le_refl _) _).alloc (by simp) _).trans (HB.out.mono (by simp;omega))) (But.set6 (But.refl (w.heap.size+1) _) _ _ _ _ _ _) (by omega) (by omega)
theorem Sift_long (xs:List Nat) (ao:Option Addr) (n cap:Nat) (a b:Int) (w:World) (hn:n=xs.length) (hm:may a b=true) (hl:65536<n) (hn2:n≤35184372088832) :
 Calls Tryz.prog 134 #[.slice ao n cap,.agg #[.int .i64 a,.int .i64 b]] w (SiftAns w a b xs):=by
 have H:=hid (May_any a b);rw [hm] at H;have HE:Aside (siftE a b xs=2):=by unfold siftE;rw [if_neg (by rw [hm];decide),if_pos (by omega),Aside]
 clear hm hn;go_enter Tryz.func134,Tryz.ntmps134
 go_wp2_with fail
 refine (H.out _).mono ?_;rintro r w1 ⟨rfl,hb⟩;have hsz:=hb.size;simp at hsz;obtain ⟨hc,hf⟩:=bcell hb;have HB:=qsd hb;clear hb;go_wp2;refine bodyPost_ret (v:=.tuple #[.slice none 0 0,.agg #[.int .i64 0,.int .i64 0,.int .i64 0,.int .i64 0,.int .i64 0,.int .i64 0],.int .i64 2]) (by simp [results,Tryz.results134,go_sem,csetm,hc]) rfl (SiftAns.no 2 HE.out (by decide) ?_)
 exact But.below ((((Below.refl _ w).alloc (Nat.le_refl _) _).alloc (by simp) _).trans (HB.out.mono (by simp;omega))) (But.set6 (But.refl (w.heap.size+1) _) _ _ _ _ _ _) (by omega) (by omega)
set_option maxRecDepth 100000 in
theorem Sift_rest (xs:List Nat) (ao:Option Addr) (n cap B:Nat) (a b:Int) (w:World) (hn:n=xs.length) (hm:may a b=true) (hl:n≤65536) (hx:Wf xs) (hR:Rd B w ao xs) (hB:B≤w.heap.size) :
 Calls Tryz.prog 134 #[.slice ao n cap,.agg #[.int .i64 a,.int .i64 b]] w (SiftAns w a b xs):=by
 have H:=hid (May_any a b);rw [hm] at H;have HE:Aside (siftE a b xs=rf (cn 5 xs:Nat) (cn 3 xs:Nat) (cn 4 xs:Nat) a b):=by unfold siftE;rw [if_neg (by rw [hm];decide),if_neg (by omega),Aside]
 have hmk:=make_room n hl;have HX:=(qsd (ai hn (ai hx (ai hR hB))));clear hm hn hx hR hB;go_enter Tryz.func134,Tryz.ntmps134
 go_wp2_with fail
 refine (H.out _).mono ?_;rintro r w1 ⟨rfl,hb⟩;have hsz:=hb.size;simp at hsz;obtain ⟨hc,hf⟩:=bcell hb;have HB:=qsd hb
 have HZ:Aside (SpB w1 (w.heap.size+1) 0 0 0 0 0 0):=by
  have h1:=SpB.made (w.alloc (.cells #[.int .i64 a,.int .i64 b] 176)) 0 0 0 0 0 0;simp only [World.size_alloc] at h1;exact h1.below hb (by simp)
 clear hb;go_wp2
 go_loopg [7,28] n (fun gk lv cv wr=>∃ (i:Nat),gk+i=n∧cv=.int .i64 (i:Nat)∧Aside (SI w1.heap.size (w1.heap.size+1) w1 xs i (n:Nat) lv wr))
 case atStart =>
  refine ⟨0,by omega,rfl,?_⟩
  have h1:=(row_made w1.heap.size w1 n hl (Nat.le_refl _)).alloc (.cells #[.int .i64 0,.int .i64 0,.int .i64 0,.int .i64 0,.int .i64 0,.int .i64 (n:Nat)] 168);have h2:=SpB.made (w1.alloc (.cells (madeCells #[.float .f64 0] n) 27)) 0 0 0 0 0 (n:Nat);simp only [World.size_alloc] at h2;exact ⟨h1,h2,((Below.refl _ _).alloc (Nat.le_refl _) _).alloc (by simp) _,by simp;omega⟩
 case round =>
  obtain ⟨i,hi,rfl,HA⟩:=hrel
  by_cases hin:i=n
  · obtain rfl:gk=0:=by omega
    obtain ⟨hn,hx,hR,hB⟩:=HX.out;have hS:=HA.out;have e:xs.take i=xs:=List.take_of_length_le (by omega)
    have hT:=hS.sp;unfold SpT at hT;rw [e] at hT;have hc0:=hT.c0;have hc1:=hT.c1;have hc2:=hT.c2;have hc3:=hT.c3;have hc4:=hT.c4;have hc5:=hT.c5;have hlt:=hT.lt;have hcb:∀ b o,b<w1.heap.size→wr.cell? ⟨b,o,none⟩=w1.cell? ⟨b,o,none⟩:=fun b o h=>hS.bel.cell (p:=⟨b,o,none⟩) h
    have hp0:wr.cell? ⟨w.heap.size,0,none⟩=some (.int .i64 a):=by rw [hcb _ _ (by omega),hc _ _ (by simp;omega)];simp [go_sem]
    have hp1:wr.cell? ⟨w.heap.size,1,none⟩=some (.int .i64 b):=by rw [hcb _ _ (by omega),hc _ _ (by simp;omega)];simp [go_sem]
    have hZ:SpB wr (w.heap.size+1) 0 0 0 0 0 0:=HZ.out.below hS.bel (by omega)
    have hbd:=fun k=>cn_bd k xs n (by omega) hl
    have HRF:=hid (fun w=>refusal_any (cn 5 xs:Nat) (cn 3 xs:Nat) (cn 4 xs:Nat) (cn 1 xs:Nat) (cn 2 xs:Nat) (n:Nat) a b w (hbd 3) (hbd 4))
    obtain ⟨ee,hee⟩:∃ ee,rf (cn 5 xs:Nat) (cn 3 xs:Nat) (cn 4 xs:Nat) a b=ee:=⟨_,rfl⟩;have HEE:Aside (siftE a b xs=ee):=by rw [Aside,HE.out,hee]
    rw [hee] at HRF;obtain ⟨c5,e5⟩:∃ c,cn 5 xs=c:=⟨_,rfl⟩;obtain ⟨c3,e3⟩:∃ c,cn 3 xs=c:=⟨_,rfl⟩;obtain ⟨c4,e4⟩:∃ c,cn 4 xs=c:=⟨_,rfl⟩;obtain ⟨c1,e1⟩:∃ c,cn 1 xs=c:=⟨_,rfl⟩;obtain ⟨c2,e2⟩:∃ c,cn 2 xs=c:=⟨_,rfl⟩;rw [e5,e3,e4,e1,e2] at hT HRF;rw [e5] at hc0;rw [e3] at hc1;rw [e4] at hc2;rw [e1] at hc3;rw [e2] at hc4;have HY:=(qsd (ai hZ (ai hT (ai e (ai e1 (ai e2 (ai e3 (ai e4 e5))))))));have hBs:=hS.size;clear hn hx hR hB hS hT e hcb hbd hee e1 e2 e3 e4 e5 hZ;subst hin
    go_wp2_with fail
    refine (HRF.out _).mono ?_;rintro r w5 ⟨rfl,hb5⟩;obtain ⟨hZ,hT,e,e1,e2,e3,e4,e5⟩:=HY.out;have hZ5:=hZ.below hb5 hZ.lt;have hT5:=hT.below hb5 hT.lt;have hr5:=HA.out.row.below hb5;have hZf:=hZ5.frozen;have hz0:=hZ5.c0;have hz1:=hZ5.c1;have hz2:=hZ5.c2;have hz3:=hZ5.c3;have hz4:=hZ5.c4;have hz5:=hZ5.c5;have ht0:=hT5.c0;have ht1:=hT5.c1;have ht2:=hT5.c2;have ht3:=hT5.c3;have ht4:=hT5.c4;have ht5:=hT5.c5;have hzl:=hZ5.lt;have hbel5:Below w.heap.size w w5:=((((Below.refl _ w).alloc (Nat.le_refl _) _).alloc (by simp) _).trans (HB.out.mono (by simp;omega))).trans ((HA.out.bel.mono (by omega)).trans (hb5.mono (by omega)))
    have HV:=(qsd (ai hbel5 (ai hr5 (ai hZ5 (ai hT5 (ai e (ai e1 (ai e2 (ai e3 (ai e4 e5))))))))));clear hZ hT e e1 e2 e3 e4 e5 hb5 hZ5 hT5 hr5 hbel5 hc0 hc1 hc2 hc3 hc4 hc5 hp0 hp1 HY
    by_cases h0:ee=0
    · subst h0
      go_wp2
      go_region
      all_goals
       go_wp2;refine bodyPost_ret (v:=.tuple #[u7,.agg #[.int .i64 (c5:Nat),.int .i64 (c3:Nat),.int .i64 (c4:Nat),.int .i64 (c1:Nat),.int .i64 (c2:Nat),.int .i64 (i:Nat)],.int .i64 0]) (by simp [results,Tryz.results134,go_sem,csetm,hz0,hz1,hz2,hz3,hz4,hz5]) rfl ?_
       obtain ⟨hbel5,hr5,hZ5,hT5,e,e1,e2,e3,e4,e5⟩:=HV.out;have hbut:But (w.heap.size+1) w5 _:=(But.set6 (But.refl (w.heap.size+1) w5) (.int .i64 (c5:Nat)) (.int .i64 (c3:Nat)) (.int .i64 (c4:Nat)) (.int .i64 (c1:Nat)) (.int .i64 (c2:Nat)) (.int .i64 (i:Nat))).drew;have hR6:=Rw.mono (Rw.but hr5 hbut (by decide) hZ5) (show w.heap.size≤w1.heap.size by omega)
       rw [e] at hR6;have hans:=SiftAns.yes HEE.out hR6 (But.below hbel5 hbut (by omega) (by omega))
       rw [←HX.out.1,e1,e2,e3,e4,e5] at hans;exact hans
    · have h0':(ee==0)=false:=by rw [beq_eq_false_iff_ne];exact h0
      go_wp2;refine bodyPost_ret (v:=.tuple #[.slice none 0 0,.agg #[.int .i64 0,.int .i64 0,.int .i64 0,.int .i64 0,.int .i64 0,.int .i64 0],.int .i64 ee]) (by simp [results,Tryz.results134,go_sem,csetm,hz0,hz1,hz2,hz3,hz4,hz5]) rfl (SiftAns.no ee HEE.out h0 ?_)
      exact But.below HV.out.1 (But.set6 (But.refl (w.heap.size+1) _) _ _ _ _ _ _) (by omega) (by omega)
  · have hil:i<n:=by omega
    obtain ⟨hn,hx,hR,hB⟩:=HX.out;have hS:=HA.out;have hbw:Below w.heap.size w wr:=((((Below.refl _ w).alloc (Nat.le_refl _) _).alloc (by simp) _).trans (HB.out.mono (by simp;omega))).trans (hS.bel.mono (by omega))
    have hRw:Rd w.heap.size wr ao xs:=(hR.mono hB).below hbw;obtain ⟨bb,off,hlt2,rfl,hcell⟩:=hRw (by intro e;rw [e] at hn;simp at hn;omega)
    have hxc:=hcell i (by omega)
    have hxw:=hx.get i;obtain ⟨x,hxx⟩:∃ x,xs.getD i 0=x:=⟨_,rfl⟩;rw [hxx] at hxc hxw;have HK:=hid (kind_any x hxw);have hk5:=kp_le x;have hk3:=kp_ge x;obtain ⟨kk,hkk⟩:∃ kk,kp (kd x)=kk:=⟨_,rfl⟩;rw [hkk] at HK hk5 hk3;have l1:(xs.take i).length≤65536:=by rw [List.length_take];omega
    have hbd:=fun k=>cn_bd k (xs.take i) 65536 l1 (Nat.le_refl _)
    have hwl:=hS.size;have HY:=(qsd (ai hxx (ai hkk (ai hk3 (ai hbd (ai hn hlt2))))));clear hn hx hR hB hS hbw hRw hcell hxx hkk hk3 hbd l1 hin
    go_wp2_with fail
    refine (HK.out _).mono ?_;rintro r w2 ⟨rfl,hb2⟩;have HS2:=qsd (SI.kind HA.out hb2 hwl);have hxc2:w2.cell? ⟨bb,off+i,none⟩=some (.float .f64 x):=by rw [hb2.cell (p:=⟨bb,off+i,none⟩) (by have:=HY.out.2.2.2.2.2;simp;omega)];exact hxc
    have hsz2:=hb2.size;have HC:=hid (count_any kk (w1.heap.size+1) _ _ _ _ _ _ w2 hk5 HS2.out.sp (HY.out.2.2.2.1 5) (HY.out.2.2.2.1 3) (HY.out.2.2.2.1 4) (HY.out.2.2.2.1 1) (HY.out.2.2.2.1 2));clear hb2 hxc
    go_wp2_with fail
    refine Calls.mono HC.out ?_;rintro r w3 ⟨rfl,hs3,hbut3⟩;obtain ⟨hxx,hkk,hk3,hbd,hn,hlt2⟩:=HY.out;have hs3':SpT w3 (w1.heap.size+1) (xs.take (i+1)) (n:Nat):=SpT.counted (w:=w2) (by omega) (by rw [hxx,hkk];exact hs3)
    have hsz3:=hbut3.size
    have hxc3:w3.cell? ⟨bb,off+i,none⟩=some (.float .f64 x):=by
     have h9:=(But.below (Below.refl w1.heap.size w2) hbut3 (by omega) (by omega)).cell (p:=⟨bb,off+i,none⟩) (by simp;omega)
     rw [h9];exact hxc2
    by_cases hk2:kd x≤2
    · have hge:(3:Int)≤(kk:Int):=by have:=hk3.2 hk2;omega
      obtain ⟨v',w4,hap,hrow4,hb4,hkeep4,hsz4⟩:=push w1.heap.size w3 u7 (fin (xs.take i)) x (SI.row2 HS2.out hbut3) (by have h1:=fin_le (xs.take i);rw [List.length_take] at h1;omega) (by omega)
      have HI:=qsd (SI.into (v':=v') HS2.out (by omega) hs3' hbut3 (by omega) (by omega) (by rw [hxx];exact hk2) (by rw [hxx];exact hrow4) hb4 hkeep4 hsz4)
      have HAP:=hid hap;clear hap hrow4 hb4 hkeep4 hsz4 hs3 hs3' hbut3 hxx hkk hk3 hbd hn hlt2 hk2 hxc2
      go_wp2_with (at_builtin;refine wpList_append_run2 rfl (.tmp 40) (.tmp 45) 23 rfl _ _ rfl rfl _ _ HAP.out ?_)
      go_roundg (n-(i+1))
      case measure=>omega
      case rel=>exact ⟨i+1,by omega,by first | go_num | (congr 1;omega),HI⟩
    · have hge:decide ((3:Int)≤(kk:Int))=false:=decide_eq_false (fun h=>hk2 (hk3.1 (by omega)))
      have HI:=qsd (SI.out HS2.out (by omega) hs3' hbut3 (by omega) (by omega) (by rw [hxx];exact hk2))
      clear hs3 hs3' hbut3 hxx hkk hk3 hbd hn hlt2 hk2 hxc2;go_wp2
      go_roundg (n-(i+1))
      case measure=>omega
      case rel=>exact ⟨i+1,by omega,by first | go_num | (congr 1;omega),HI⟩
theorem Sift_any (xs:List Nat) (ao:Option Addr) (n cap B:Nat) (a b:Int) (w:World) (hn:n=xs.length) (hm:n≤35184372088832) (hx:Wf xs) (hR:Rd B w ao xs) (hB:B≤w.heap.size) :
 Calls Tryz.prog 134 #[.slice ao n cap,.agg #[.int .i64 a,.int .i64 b]] w (SiftAns w a b xs):=by
 rcases h:may a b with _|_
 · exact Sift_arg xs ao n cap a b w h
 · by_cases hl:65536<n
   · exact Sift_long xs ao n cap a b w hn h hl hm
   · exact Sift_rest xs ao n cap B a b w hn h (by omega) hx hR hB
end Ps
section
open Go.RowKit J
def kO13 (k:Nat):Nat:=if k=5 then 1 else if k=3 then 2 else if k=4 then 3 else if k=1 then 4 else if k=2 then 5 else 0
theorem m42:max (4:Int) 2=4:=by decide
theorem m32:max (3:Int) 2=3:=by decide
theorem m02:max (0:Int) 2=2:=by decide
theorem n42:min (4:Int) 2=2:=by decide
theorem n32:min (3:Int) 2=2:=by decide
theorem n02:min (0:Int) 2=0:=by decide
theorem pK_one13 {x:Nat}(hx:x<18446744073709551616):pK x 4607182418800017408=kO13 (kd x)∧(kd x≤2↔finW x):=by
 have c1:clW 4607182418800017408=2:=by decide +kernel
 have n1:ngW 4607182418800017408=false:=by decide +kernel
 have em:magW x=x%9223372036854775808:=rfl;have en:negW x=decide (9223372036854775808≤x):=rfl;unfold pK kO13;rw [c1,n1]
 rcases Nat.lt_trichotomy 9218868437227405312 (magW x) with h|h|h
 · have hk:kd x=5:=by unfold kd;rw [if_pos (by omega)]
   rw [cl_nan h,hk];refine ⟨by unfold pk;simp [m42,m32,m02,n42,n32,n02],?_⟩
   constructor
   · intro q;omega
   · intro q;exact absurd (show magW x<9218868437227405312 from q) (by omega)
 · obtain ⟨h1,h2⟩:=cl_inf h.symm
   rw [h1,h2];have hf:¬ finW x:=fun q=>absurd (show magW x<9218868437227405312 from q) (by omega)
   by_cases hs:9223372036854775808≤x
   · have hk:kd x=4:=by unfold kd;rw [if_neg (by omega),if_pos (by omega),if_pos (by omega)]
     rw [hk,en,decide_eq_true hs];refine ⟨by unfold pk;simp [m42,m32,m02,n42,n32,n02],?_⟩
     exact ⟨fun q=>by omega,fun q=>absurd q hf⟩
   · have hk:kd x=3:=by unfold kd;rw [if_neg (by omega),if_pos (by omega),if_neg (by omega)]
     rw [hk,en,decide_eq_false hs];refine ⟨by unfold pk;simp [m42,m32,m02,n42,n32,n02],?_⟩
     exact ⟨fun q=>by omega,fun q=>absurd q hf⟩
 · have fx:finW x:=h
   obtain ⟨p1,p2,p3,p4⟩:=fin_parts hx fx;rw [p1]
   by_cases h0:magW x=0
   · rw [h0,vK_zero] at p2
     have hfr:frW x=0:=by
      rcases Nat.mul_eq_zero.1 p2.symm with q|q
      · exact q
      · have:=Nat.two_pow_pos (xpW x+1074).toNat;omega
     have hc:clW x=0:=by
      rcases p4 with q|q
      · exact q.1
      · exact absurd hfr q.2
     rw [hc]
     by_cases hs:9223372036854775808≤x
     · have hk:kd x=1:=by unfold kd;rw [if_neg (by omega),if_neg (by omega),if_pos (by omega),if_pos (by omega)]
       rw [hk,en,decide_eq_true hs];exact ⟨by unfold pk;simp [m42,m32,m02,n42,n32,n02],fun _=>fx,fun _=>by omega⟩
     · have hk:kd x=2:=by unfold kd;rw [if_neg (by omega),if_neg (by omega),if_pos (by omega),if_neg (by omega)]
       rw [hk,en,decide_eq_false hs];exact ⟨by unfold pk;simp [m42,m32,m02,n42,n32,n02],fun _=>fx,fun _=>by omega⟩
   · have hk:kd x=0:=by unfold kd;rw [if_neg (by omega),if_neg (by omega),if_neg (by omega)]
     have hfr:frW x≠0:=by
      intro q;rw [q,Nat.zero_mul] at p2;have:=grid64.mono (show 0<magW x by omega)
      omega
     have hc:clW x=1∨clW x=2:=by
      rcases p4 with q|q
      · exact absurd q.2 hfr
      · exact q.1
     rw [hk];refine ⟨?_,fun _=>fx,fun _=>by omega⟩
     rcases hc with q|q
     · rw [q,show max (1:Int) 2=2 by decide,show min (1:Int) 2=1 by decide];unfold pk;simp
     · rw [q,show max (2:Int) 2=2 by decide,show min (2:Int) 2=2 by decide];unfold pk;simp
theorem kd5 (x:Nat):kd x≤5:=by unfold kd;(repeat' split) <;> omega
theorem cnt_fold13:∀ (xs:List Nat) (s:Sp),W64 xs→xs.foldl (fun s x=>s.cnt (pK x 4607182418800017408) 1) s=⟨s.n+Ps.cn 5 xs,s.u+Ps.cn 3 xs,s.d+Ps.cn 4 xs,s.m+Ps.cn 1 xs,s.p+Ps.cn 2 xs,s.a+xs.length⟩
 | [],s,_=>by simp [Ps.cn]
 | x::xs,s,h=>by
   rw [List.foldl_cons,cnt_fold13 xs _ (fun z hz=>h z (List.mem_cons_of_mem _ hz)),(pK_one13 (h x List.mem_cons_self)).1]
   have hk:=kd5 x;unfold Sp.cnt kO13 Ps.cn;simp only [List.countP_cons,List.length_cons];obtain q|q|q|q|q|q:kd x=0∨kd x=1∨kd x=2∨kd x=3∨kd x=4∨kd x=5:=by omega
   all_goals (rw [q];simp;(repeat' constructor) <;> omega)
theorem sS_cn {xs:List Nat}(h:W64 xs):sS xs=⟨(Ps.cn 5 xs:Nat),(Ps.cn 3 xs:Nat),(Ps.cn 4 xs:Nat),(Ps.cn 1 xs:Nat),(Ps.cn 2 xs:Nat),(xs.length:Nat)⟩:=by
 unfold sS;rw [cnt_fold13 xs _ h];simp
def sfE (pa pb:Int) (xs:List Nat):Int:=if may pa pb=false then 1 else if 65536<xs.length then 2 else Ps.rf (sS xs).n (sS xs).u (sS xs).d pa pb
def agg0:Value:=.agg #[.int .i64 0,.int .i64 0,.int .i64 0,.int .i64 0,.int .i64 0,.int .i64 0]
theorem ps_rd {B:Nat}{w:World}{a:Option Addr}{xs:List Nat}(h:Fs B w a xs):Ps.Rd B w a xs:=h
theorem lt_fs {lo:Nat}{w:World}{v:Value}{xs:List Nat}(h:Ps.Lt lo w v xs):∃ a c,v=.slice a xs.length c∧Fs w.heap.size w a xs∧∀ b o p,a=some ⟨b,o,p⟩→lo≤b:=by
 have h2:=h.2;unfold Ps.Lt at h
 rcases h2 with ⟨rfl,h0⟩|⟨g,cap,cur,rfl,hlo,hg,rest⟩
 · refine ⟨none,0,by rw [h0],fun hne=>absurd (List.eq_nil_of_length_eq_zero h0) hne,fun b o p h=>by cases h⟩
 · refine ⟨_,cap,rfl,fun _=>⟨g,0,(Array.getElem?_eq_some_iff.1 hg).1,rfl,fun i hi=>?_⟩,fun b o p h=>by cases h;exact hlo⟩
   have h1:=h.cells (g:=g) (by simp [Value.ownBlock]) i (.float .f64 (xs.getD i 0)) (by simp [Ps.U,hi])
   have e:(⟨g,0,none⟩:Addr).add i=⟨g,0+i,none⟩:=by unfold Addr.add;split <;> simp_all
   rw [e] at h1;exact h1
theorem Sift13 (xs:List Nat) (a:Option Addr) (n c:Nat) (pa pb:Int) (w:World) (hn:n=xs.length) (hm:n≤35184372088832) (hF:Fs w.heap.size w a xs) (hW:W64 xs) :
 Calls Tryz.prog 134 #[.slice a n c,.agg #[.int .i64 pa,.int .i64 pb]] w fun r w' =>
  ((sfE pa pb xs≠0∧∃ a' c',r=.returned (.tuple #[.slice a' 0 c',agg0,.int .i64 (sfE pa pb xs)])) ∨
   (sfE pa pb xs=0∧∃ a' c',r=.returned (.tuple #[.slice a' (Ps.fin xs).length c',(sS xs).agg,.int .i64 0])∧Fs w'.heap.size w' a' (Ps.fin xs)∧∀ b o p,a'=some ⟨b,o,p⟩→w.heap.size≤b))∧Below w.heap.size w w':=by
 have e1:Ps.siftE pa pb xs=sfE pa pb xs:=by unfold Ps.siftE sfE;rw [sS_cn hW]
 refine (Ps.Sift_any xs a n c w.heap.size pa pb w hn hm hW (ps_rd hF) (Nat.le_refl _)).mono ?_;rintro r w' ⟨v,rfl,hL,hb⟩;refine ⟨?_,hb⟩;unfold Ps.siftS;unfold Ps.siftL at hL;rw [e1] at hL ⊢
 by_cases h0:sfE pa pb xs=0
 · rw [if_pos h0] at hL ⊢
   obtain ⟨a',c',rfl,hF',hlo⟩:=lt_fs hL;exact .inr ⟨h0,a',c',by rw [h0,sS_cn hW];rfl,hF',hlo⟩
 · rw [if_neg h0] at hL ⊢
   obtain ⟨a',c',rfl,_⟩:=lt_fs hL;exact .inl ⟨h0,a',c',rfl⟩
theorem Fs.but' {B:Nat}{w w':World}{ao:Option Addr}{xs:List Nat}{g:Nat}(h:Fs B w ao xs) (hb:But g w w') (hg:∀ b o p,ao=some ⟨b,o,p⟩→b≠g):Fs B w' ao xs:=by
 intro hne;obtain ⟨b,off,h1,h2,h3⟩:=h hne;have hbg:b≠g:=hg _ _ _ h2;refine ⟨b,off,h1,h2,fun i hi=>?_⟩
 have hc:=h3 i hi
 have hlt:b<w.heap.size:=by
  rcases Nat.lt_or_ge b w.heap.size with q|q
  · exact q
  · unfold World.cell? at hc
    simp [Array.getElem?_eq_none q] at hc
 rw [World.cell?_of_block (a:=⟨b,off+i,none⟩) (hb.block b hlt hbg)];exact hc
end
section
open Go.RowKit J
attribute [local go_sem] st_float
theorem bsd_zero (e:Int):bsd e 0=0:=by unfold bsd;split <;> rfl
end
section
open Go.RowKit J
attribute [local go_sem] st_float
def plE (xs:List Nat):Int:=if 65536<xs.length then 2 else if 0<(sS xs).n∨0<(sS xs).u+(sS xs).d then 30 else 0
theorem sf22 (xs:List Nat):(sfE 2 2 xs=0∧plE xs=0)∨(sfE 2 2 xs=2∧plE xs=2)∨((sfE 2 2 xs=60∨sfE 2 2 xs=61)∧plE xs=30):=by
 have hm:may 2 2=true:=by decide
 unfold sfE plE Ps.rf;rw [hm,if_neg (by decide)]
 by_cases hl:65536<xs.length
 · rw [if_pos hl,if_pos hl];exact .inr (.inl ⟨rfl,rfl⟩)
 · rw [if_neg hl,if_neg hl]
   by_cases h1:0<(sS xs).n
   · rw [if_pos ⟨h1,rfl⟩,if_pos (.inl h1)];exact .inr (.inr ⟨.inl rfl,rfl⟩)
   · rw [if_neg (fun h=>h1 h.1)]
     by_cases h2:0<(sS xs).u+(sS xs).d
     · rw [if_pos ⟨h2,rfl⟩,if_pos (.inr h2)];exact .inr (.inr ⟨.inr rfl,rfl⟩)
     · rw [if_neg (fun h=>h2 h.1),if_neg (by omega)];exact .inl ⟨rfl,rfl⟩
theorem close6 {fn:Func}{p q:Tmp}(hfn:fn.results=#[.cell p 168,.tmp q]) {tmps:Array Value}{w:World}{g:Nat}{t1 t2 t3 t4 t5 t6 e:Int}{R:Ending→World→Prop}
 (h1:tmps.getD p undef=.pointer (some ⟨g,0,none⟩)) (h2:tmps.getD q undef=.int .i64 e) (hB:Bl w g 168 [.int .i64 t1,.int .i64 t2,.int .i64 t3,.int .i64 t4,.int .i64 t5,.int .i64 t6])
 (hR:R (.returned (.tuple #[.agg #[.int .i64 t1,.int .i64 t2,.int .i64 t3,.int .i64 t4,.int .i64 t5,.int .i64 t6],.int .i64 e])) w) :
 bodyPost Tryz.prog fn R .ret ⟨tmps,[]⟩ w:=by
 have c0:=hB.cell 0 _ rfl;have c1:=hB.cell 1 _ rfl;have c2:=hB.cell 2 _ rfl;have c3:=hB.cell 3 _ rfl;have c4:=hB.cell 4 _ rfl;have c5:=hB.cell 5 _ rfl;rw [Array.getD_eq_getD_getElem?] at h1 h2;exact bodyPost_ret (v:=.tuple #[.agg #[.int .i64 t1,.int .i64 t2,.int .i64 t3,.int .i64 t4,.int .i64 t5,.int .i64 t6],.int .i64 e]) (by simp [results,hfn,go_sem,Ps.csetm,h1,h2,c0,c1,c2,c3,c4,c5]) rfl hR
theorem plain13 (xs:List Nat) (a:Option Addr) (n c:Nat) (w:World) (hn:n=xs.length) (hF:Fs w.heap.size w a xs) (hW:W64 xs) (hl:n≤35184372088832) :
 Calls Tryz.prog 130 #[.slice a n c] w fun r w'=>((plE xs≠0∧r=.returned (.tuple #[agg0,.int .i64 (plE xs)]))∨(plE xs=0∧r=.returned (.tuple #[(sS xs).agg,.int .i64 0])))∧Below w.heap.size w w':=by
 obtain ⟨W,hWW⟩:∃ W,W=w.alloc (Obj.cells #[.int .i64 0,.int .i64 0,.int .i64 0,.int .i64 0,.int .i64 0,.int .i64 0] 168):=⟨_,rfl⟩
 have B0:Aside (Bl W w.heap.size 168 [.int .i64 0,.int .i64 0,.int .i64 0,.int .i64 0,.int .i64 0,.int .i64 0]∧Below w.heap.size w W):=by
  rw [hWW];exact ⟨Bl.new _ 168 [_,_,_,_,_,_],bel_alloc _ _⟩
 have HS:=hid (Sift13 xs a n c 2 2 W hn hl ((hF.below B0.out.2).mono B0.out.2.size) hW);have hsf:=sf22 xs;obtain ⟨es,hes⟩:∃ e,sfE 2 2 xs=e:=⟨_,rfl⟩;obtain ⟨ep,hep⟩:∃ e,plE xs=e:=⟨_,rfl⟩;obtain ⟨⟨sn,su,sd,sm,sp,sa⟩,hs⟩:∃ s,sS xs=s:=⟨_,rfl⟩;obtain ⟨fl,hfl⟩:∃ f,Ps.fin xs=f:=⟨_,rfl⟩;rw [hs,hes,hfl] at HS;rw [hes,hep] at hsf;rw [hep,hs];simp only [Sp.agg] at HS ⊢;have HSF:=qsd hsf;have HWW:=qsd hWW;clear hn hF hW hl hWW hes hep hs hfl hsf;go_enter Tryz.func130,Tryz.ntmps130
 go_wp2_with fail
 rw [←HWW.out];clear HWW;refine HS.out.mono ?_;rintro r v ⟨hr,hb⟩;have B1:Aside (Bl v w.heap.size 168 [.int .i64 0,.int .i64 0,.int .i64 0,.int .i64 0,.int .i64 0,.int .i64 0]∧Below w.heap.size w v):=⟨B0.out.1.below hb B0.out.1.lt,B0.out.2.trans (hb.mono B0.out.2.size)⟩
 have BU:Aside (∀ (t1 t2 t3 t4 t5 t6:Int) (U:World),U=v.alloc (Obj.cells #[.int .i64 t1,.int .i64 t2,.int .i64 t3,.int .i64 t4,.int .i64 t5,.int .i64 t6] 168) →
  Bl U w.heap.size 168 [.int .i64 0,.int .i64 0,.int .i64 0,.int .i64 0,.int .i64 0,.int .i64 0]∧Bl U v.heap.size 168 [.int .i64 t1,.int .i64 t2,.int .i64 t3,.int .i64 t4,.int .i64 t5,.int .i64 t6]∧Below w.heap.size w U∧w.heap.size<v.heap.size):=by
  intro t1 t2 t3 t4 t5 t6 U hU;rw [hU];exact ⟨B1.out.1.alloc _,Bl.new _ 168 [_,_,_,_,_,_],B1.out.2.trans ((bel_alloc _ _).mono B1.out.2.size),B1.out.1.lt⟩
 clear hb B0 HS
 rcases hr with ⟨he,a',c',rfl⟩|⟨he,a',c',rfl,hF',hlo⟩
 · unfold agg0
   obtain ⟨U,hU⟩:∃ U,U=v.alloc (Obj.cells #[.int .i64 0,.int .i64 0,.int .i64 0,.int .i64 0,.int .i64 0,.int .i64 0] 168):=⟨_,rfl⟩;obtain ⟨u1,u2,u3,u4⟩:=BU.out _ _ _ _ _ _ _ hU;obtain ⟨gs,hgs⟩:∃ g,v.heap.size=g:=⟨_,rfl⟩;rw [hgs] at u2 u4;have B3:=(qsd (ai u1 (ai u2 (ai u3 u4))));have s0:=u2.cell 0 _ rfl;have s1:=u2.cell 1 _ rfl;have s2:=u2.cell 2 _ rfl;have s3:=u2.cell 3 _ rfl;have s4:=u2.cell 4 _ rfl;have s5:=u2.cell 5 _ rfl;have z0:=u1.cell 0 _ rfl;have z1:=u1.cell 1 _ rfl;have z2:=u1.cell 2 _ rfl;have z3:=u1.cell 3 _ rfl;have z4:=u1.cell 4 _ rfl;have z5:=u1.cell 5 _ rfl;have y0:=u1.frozen 0;have y1:=u1.frozen 1;have y2:=u1.frozen 2;have y3:=u1.frozen 3;have y4:=u1.frozen 4;have y5:=u1.frozen 5;have HGS:=qsd hgs;have HU:=qsd hU;clear u1 u2 u3 u4 hU BU hgs
   go_upto_region 2 with fail
   rw [←HU.out,HGS.out];clear HU HGS;obtain ⟨h1,h2⟩|⟨h1,h2⟩|⟨h1|h1,h2⟩:=HSF.out
   · exact absurd h1 he
   all_goals
    subst h1 h2;clear he HSF;go_wp2;refine close6 Tryz.results130 ?_ ?_ ((((((B3.out.1.set 0 _).set 1 _).set 2 _).set 3 _).set 4 _).set 5 _) ⟨by first | exact .inl ⟨by decide,rfl⟩ | rfl,?_⟩
    · rfl
    · rfl
    · exact But.below B3.out.2.2.1 (Ps.But.set6 (But.refl w.heap.size _) _ _ _ _ _ _) B3.out.2.2.1.size (Nat.le_refl _)
 · subst he
   obtain rfl:ep=0:=by rcases HSF.out with ⟨h1,h2⟩|⟨h1,h2⟩|⟨h1|h1,h2⟩ <;> omega
   obtain ⟨U,hU⟩:∃ U,U=v.alloc (Obj.cells #[.int .i64 sn,.int .i64 su,.int .i64 sd,.int .i64 sm,.int .i64 sp,.int .i64 sa] 168):=⟨_,rfl⟩;obtain ⟨u1,u2,u3,u4⟩:=BU.out _ _ _ _ _ _ _ hU;obtain ⟨gs,hgs⟩:∃ g,v.heap.size=g:=⟨_,rfl⟩;rw [hgs] at u2 u4;have B3:=(qsd (ai u1 (ai u2 (ai u3 u4))));have s0:=u2.cell 0 _ rfl;have s1:=u2.cell 1 _ rfl;have s2:=u2.cell 2 _ rfl;have s3:=u2.cell 3 _ rfl;have s4:=u2.cell 4 _ rfl;have s5:=u2.cell 5 _ rfl;have z0:=u1.cell 0 _ rfl;have z1:=u1.cell 1 _ rfl;have z2:=u1.cell 2 _ rfl;have z3:=u1.cell 3 _ rfl;have z4:=u1.cell 4 _ rfl;have z5:=u1.cell 5 _ rfl;have y0:=u1.frozen 0;have y1:=u1.frozen 1;have y2:=u1.frozen 2;have y3:=u1.frozen 3;have y4:=u1.frozen 4;have y5:=u1.frozen 5;have HGS:=qsd hgs;have HU:=qsd hU;clear u1 u2 u3 u4 hU BU hgs hF' hlo
   go_upto_region 2 with fail
   rw [←HU.out,HGS.out];clear HU HGS HSF;go_wp2;refine close6 Tryz.results130 ?_ ?_ ((((((B3.out.1.set 0 _).set 1 _).set 2 _).set 3 _).set 4 _).set 5 _) ⟨by first | exact .inr ⟨rfl,rfl⟩ | rfl,?_⟩
   · rfl
   · rfl
   · exact But.below B3.out.2.2.1 (Ps.But.set6 (But.refl w.heap.size _) _ _ _ _ _ _) B3.out.2.2.1.size (Nat.le_refl _)
end
section
open Go.RowKit J
attribute [local go_sem] st_float
abbrev ClD (f:FuncId):Prop:=∀ (gx ge x:Nat) (e:Int) (w:World),w.cell? ⟨gx,0,none⟩=some (.float .f64 x)→w.cell? ⟨ge,0,none⟩=some (.int .i64 e)→w.frozen? ⟨gx,0,none⟩=false→∀ (u:FrameMode),
 CallsD Tryz.prog f #[.pointer (some ⟨ge,0,none⟩),.pointer (some ⟨gx,0,none⟩)] u w fun r u' w'=>u'=u∧(r=.returned (.tuple #[])∧w'=w.setCell ⟨gx,0,none⟩ (.float .f64 (bsd e x)))
theorem early13 {fn:Func}{f:FuncId}{px pe:Tmp}(hres:fn.results=#[.cell px 27,.cell pe 24]) (HC:ClD f) {tmps:Array Value}{gx ge x X:Nat}{e E:Int}{w v:World}
 (b1:Bl v gx 27 [.float .f64 x]) (b2:Bl v ge 24 [.int .i64 e]) (hb:Below w.heap.size w v) (hgx:w.heap.size≤gx) (hne:ge≠gx) (hX:bsd e x=X) (hE:e=E)
 (hi:(callFunc f #[.pointer (some ⟨ge,0,none⟩),.pointer (some ⟨gx,0,none⟩)]).run Tryz.prog v=.ok (.enter f #[.pointer (some ⟨ge,0,none⟩),.pointer (some ⟨gx,0,none⟩)]) v)
 (h1:tmps.getD px undef=.pointer (some ⟨gx,0,none⟩)) (h2:tmps.getD pe undef=.pointer (some ⟨ge,0,none⟩)) :
 Leaves Tryz.prog fn tmps (fun r w'=>r=.returned (.tuple #[.float .f64 X,.int .i64 E])∧Below w.heap.size w w') [{ target:=.fn (.func f) #[.pointer (some ⟨ge,0,none⟩),.pointer (some ⟨gx,0,none⟩)],args:=#[] }] .returning v:=by
 subst hX hE;refine door13 hres hi (HC gx ge x e v (b1.cell 0 _ rfl) (b2.cell 0 _ rfl) (b1.frozen 0)) h1 h2 (b1.cell 0 _ rfl) (b2.cell 0 _ rfl) hne ?_;have kb:But gx v (v.setCell ⟨gx,0,none⟩ (.float .f64 (bsd e x))):=(But.refl gx _).set 0 _;exact ⟨rfl,But.below hb kb hb.size hgx⟩
theorem finish13 {fn:Func}{f:FuncId}{px pe:Tmp}(hres:fn.results=#[.cell px 27,.cell pe 24]) (HC:ClD f) {tmps:Array Value}{gx ge x0 x X:Nat}{e0 e E:Int}{w v:World}
 (b1:Bl v gx 27 [.float .f64 x0]) (b2:Bl v ge 24 [.int .i64 e0]) (hb:Below w.heap.size w v) (hgx:w.heap.size≤gx) (hge:w.heap.size≤ge) (hne:ge≠gx) (hX:bsd e x=X) (hE:e=E)
 (hi:∀ v:World,(callFunc f #[.pointer (some ⟨ge,0,none⟩),.pointer (some ⟨gx,0,none⟩)]).run Tryz.prog v=.ok (.enter f #[.pointer (some ⟨ge,0,none⟩),.pointer (some ⟨gx,0,none⟩)]) v)
 (h1:tmps.getD px undef=.pointer (some ⟨gx,0,none⟩)) (h2:tmps.getD pe undef=.pointer (some ⟨ge,0,none⟩)) :
 Leaves Tryz.prog fn tmps (fun r w'=>r=.returned (.tuple #[.float .f64 X,.int .i64 E])∧Below w.heap.size w w') [{ target:=.fn (.func f) #[.pointer (some ⟨ge,0,none⟩),.pointer (some ⟨gx,0,none⟩)],args:=#[] }] .returning ((v.setCell ⟨gx,0,none⟩ (.float .f64 x)).setCell ⟨ge,0,none⟩ (.int .i64 e)):=by
 have bt:But gx v (v.setCell ⟨gx,0,none⟩ (.float .f64 x)):=(But.refl _ _).set 0 _;have be:But ge (v.setCell ⟨gx,0,none⟩ (.float .f64 x)) ((v.setCell ⟨gx,0,none⟩ (.float .f64 x)).setCell ⟨ge,0,none⟩ (.int .i64 e)):=(But.refl _ _).set 0 _;have k0:=But.below hb bt hb.size hgx;exact early13 hres HC ((b1.set 0 (.float .f64 x)).but be (fun h=>hne h.symm)) ((b2.but bt hne).set 0 (.int .i64 e)) (But.below k0 be k0.size hge) hgx hne hX hE (hi _) h1 h2
theorem two13 (w:World):Bl ((w.alloc (Obj.cells #[.float .f64 0] 27)).alloc (Obj.cells #[.int .i64 0] 24)) w.heap.size 27 [.float .f64 0]∧Bl ((w.alloc (Obj.cells #[.float .f64 0] 27)).alloc (Obj.cells #[.int .i64 0] 24)) (w.heap.size+1) 24 [.int .i64 0]∧Below w.heap.size w ((w.alloc (Obj.cells #[.float .f64 0] 27)).alloc (Obj.cells #[.int .i64 0] 24)):=by
 have z2:=Bl.new (w.alloc (Obj.cells #[.float .f64 0] 27)) 24 [.int .i64 0];rw [World.size_alloc] at z2;exact ⟨(Bl.new w 27 [_]).below (bel_alloc _ _) (by simp),z2,(bel_alloc _ _).trans ((bel_alloc _ _).mono (by simp))⟩
theorem seterr13 {w v:World}{gx ge x:Nat}{e0:Int}(e:Int) (b1:Bl v gx 27 [.float .f64 x]) (b2:Bl v ge 24 [.int .i64 e0]) (hb:Below w.heap.size w v) (hge:w.heap.size≤ge) (hne:ge≠gx) :
 Bl (v.setCell ⟨ge,0,none⟩ (.int .i64 e)) gx 27 [.float .f64 x]∧Bl (v.setCell ⟨ge,0,none⟩ (.int .i64 e)) ge 24 [.int .i64 e]∧Below w.heap.size w (v.setCell ⟨ge,0,none⟩ (.int .i64 e)):=by
 have be:But ge v (v.setCell ⟨ge,0,none⟩ (.int .i64 e)):=(But.refl _ _).set 0 _;exact ⟨b1.but be (fun h=>hne h.symm),b2.set 0 _,But.below hb be hb.size hge⟩
theorem stored13 {w v:World}{gx ge x:Nat}{e0:Int}{ao:Option Addr}{xs:List Nat}(b1:Bl v gx 27 [.float .f64 x]) (b2:Bl v ge 24 [.int .i64 e0]) (hb:Below w.heap.size w v) (hge:w.heap.size≤ge) (hne:ge≠gx) (hT:Tab w) (hF:Fs v.heap.size v ao xs) (hg:∀ b o p,ao=some ⟨b,o,p⟩→b≠ge) (e t1 t2 t3 t4 t5 t6:Int) (Z:World) (hZ:Z=(v.setCell ⟨ge,0,none⟩ (.int .i64 e)).alloc (Obj.cells #[.int .i64 t1,.int .i64 t2,.int .i64 t3,.int .i64 t4,.int .i64 t5,.int .i64 t6] 168)) :
 Bl Z gx 27 [.float .f64 x]∧Bl Z ge 24 [.int .i64 e]∧Bl Z v.heap.size 168 [.int .i64 t1,.int .i64 t2,.int .i64 t3,.int .i64 t4,.int .i64 t5,.int .i64 t6]∧Below w.heap.size w Z∧Tab Z∧Fs Z.heap.size Z ao xs:=by
 obtain ⟨k1,k2,k3⟩:=seterr13 (w:=w) e b1 b2 hb hge hne;have be:But ge v (v.setCell ⟨ge,0,none⟩ (.int .i64 e)):=(But.refl _ _).set 0 _;have hsz:(v.setCell ⟨ge,0,none⟩ (.int .i64 e)).heap.size=v.heap.size:=by simp
 have z1:=Bl.new (v.setCell ⟨ge,0,none⟩ (.int .i64 e)) 168 [.int .i64 t1,.int .i64 t2,.int .i64 t3,.int .i64 t4,.int .i64 t5,.int .i64 t6];rw [hsz] at z1;rw [hZ];have hbb:=k3.trans ((bel_alloc (v.setCell ⟨ge,0,none⟩ (.int .i64 e)) (Obj.cells #[.int .i64 t1,.int .i64 t2,.int .i64 t3,.int .i64 t4,.int .i64 t5,.int .i64 t6] 168)).mono k3.size);exact ⟨k1.alloc _,k2.alloc _,z1,hbb,hT.belows hbb,((hF.but' be hg).below ((bel_alloc _ _).mono (by simp))).mono (by simp)⟩
noncomputable def plnR (xs:List Nat) (mode:Int):Nat×Int:=if plE xs=0 then (bsd (levR xs (sS xs) mode).2 (levR xs (sS xs) mode).1,(levR xs (sS xs) mode).2) else (0,plE xs)
noncomputable def midR (x y:Nat) (mode:Int):Nat×Int:=if askE mode=0 then plnR [x,y] mode else (0,askE mode)
theorem fs_two (w:World) (x y:Nat):Fs (w.alloc (Obj.cells #[.float .f64 x,.float .f64 y] 27)).heap.size (w.alloc (Obj.cells #[.float .f64 x,.float .f64 y] 27)) (some ⟨w.heap.size,0,none⟩) [x,y]:=by
 intro _;refine ⟨w.heap.size,0,by simp,rfl,fun i hi=>?_⟩
 have hB:=Bl.new w 27 [.float .f64 x,.float .f64 y]
 match i,hi with
 | 0,_=>exact hB.cell 0 _ rfl
 | 1,_=>exact hB.cell 1 _ rfl
theorem Middle13 (x y:Nat) (hx:x<18446744073709551616) (hy:y<18446744073709551616) (mode:Int) (w:World) (hT:Tab w) (z:Nat×Int) (hz:midR x y mode=z) :
 Calls Tryz.prog 101 #[.float .f64 x,.float .f64 y,.int .i64 mode] w fun r w'=>r=.returned (.tuple #[.float .f64 z.1,.int .i64 z.2])∧Below w.heap.size w w':=by
 obtain ⟨X,E⟩:=z;simp only;have hmf:∀ (fn:Fn) (first cap:Array Value) (w:World),(Instr.makeFunc fn first cap).run Tryz.prog w=.ok (.func fn first cap) w:=fun _ _ _ _=>rfl
 have HA:=hid (fun u:World=>asked13 mode u)
 unfold midR at hz;obtain ⟨ea,hea⟩:∃ e,askE mode=e:=⟨_,rfl⟩;rw [hea] at HA hz;obtain ⟨W,hWW⟩:∃ W,W=(w.alloc (Obj.cells #[.float .f64 0] 27)).alloc (Obj.cells #[.int .i64 0] 24):=⟨_,rfl⟩;obtain ⟨gx,hgx⟩:∃ g,g=w.heap.size:=⟨_,rfl⟩;obtain ⟨ge,hge⟩:∃ g,g=w.heap.size+1:=⟨_,rfl⟩;have HG:Aside (gx=w.heap.size∧ge=w.heap.size+1∧w.heap.size≤gx∧w.heap.size≤ge∧ge≠gx):=⟨hgx,hge,by omega,by omega,by omega⟩
 have B0:=two13 w;rw [←hWW,←hge] at B0;have B1:=qsd (seterr13 ea (show Bl W gx 27 [.float .f64 0] by rw [hgx];exact B0.1) B0.2.1 B0.2.2 HG.out.2.2.2.1 HG.out.2.2.2.2)
 have c1:=B0.2.1.cell 0 _ rfl;have f1:=B0.2.1.frozen 0;have HWW:=qsd hWW;have HX:=qsd (ai hx (ai hy hT));clear hx hy hT hWW hea hgx hge B0;go_enter_defers Tryz.func101,Tryz.ntmps101
 go_wp2_with fail
 rw [←HWW.out]
 try rw [show w.heap.size+1=ge by have:=HG.out;omega]
 try rw [show w.heap.size=gx by have:=HG.out;omega]
 clear HWW;refine (HA.out _).mono ?_;rintro r v ⟨rfl,hv⟩;rw [hv];clear hv v
 by_cases h0:ea=0
 · subst h0
   rw [if_pos rfl] at hz;obtain ⟨V,hV⟩:∃ V,V=W.setCell ⟨ge,0,none⟩ (.int .i64 0):=⟨_,rfl⟩;rw [←hV] at B1;have r1:=B1.out.2.1.cell 0 _ rfl;obtain ⟨U,hU⟩:∃ U,U=V.alloc (Obj.cells #[.float .f64 x,.float .f64 y] 27):=⟨_,rfl⟩;obtain ⟨ga,hga⟩:∃ g,V.heap.size=g:=⟨_,rfl⟩
   have B2:Aside (Bl U gx 27 [.float .f64 0]∧Bl U ge 24 [.int .i64 0]∧Below w.heap.size w U∧Fs U.heap.size U (some ⟨ga,0,none⟩) [x,y]∧Tab U∧W64 [x,y]):=by
    have hbU:Below w.heap.size w U:=by rw [hU];exact B1.out.2.2.trans ((bel_alloc _ _).mono B1.out.2.2.size)
    refine ⟨by rw [hU];exact B1.out.1.alloc _,by rw [hU];exact B1.out.2.1.alloc _,hbU,by rw [hU,←hga];exact fs_two V x y,HX.out.2.2.belows hbU,?_⟩
    intro q hq;simp at hq
    rcases hq with rfl|rfl
    · exact HX.out.1
    · exact HX.out.2.1
   have HP:=hid (plain13 [x,y] (some ⟨ga,0,none⟩) 2 2 U rfl B2.out.2.2.2.1 B2.out.2.2.2.2.2 (by decide))
   have HW2:=qsd B2.out.2.2.2.2.2;have HGN:Aside (ga≠ge):=by have:=B1.out.2.1.lt;rw [Aside,←hga];omega
   obtain ⟨ep,hep⟩:∃ e,plE [x,y]=e:=⟨_,rfl⟩;obtain ⟨⟨sn,su,sd,sm,sp,sa⟩,hs⟩:∃ s,sS [x,y]=s:=⟨_,rfl⟩;unfold plnR at hz;rw [hep,hs] at HP hz;simp only [Sp.agg] at HP;have HV:=qsd hV;have HU:=qsd hU;have HGA:=qsd hga;clear hV hU hga hep hs HA
   go_upto_region 3 with fail
   rw [←HV.out];clear HV
   go_upto_region 5 with fail
   rw [←HU.out,HGA.out];clear HU HGA
   go_wp2_with fail
   refine HP.out.mono ?_;rintro r v ⟨hr,hb⟩;have B3:Aside (Bl v gx 27 [.float .f64 0]∧Bl v ge 24 [.int .i64 0]∧Below w.heap.size w v∧Fs v.heap.size v (some ⟨ga,0,none⟩) [x,y]∧ga≠ge):=⟨B2.out.1.below hb B2.out.1.lt,B2.out.2.1.below hb B2.out.2.1.lt,B2.out.2.2.1.trans (hb.mono B2.out.2.2.1.size),(B2.out.2.2.2.1.below hb).mono hb.size,HGN.out⟩;have q1:=B3.out.2.1.cell 0 _ rfl;have q2:=B3.out.2.1.frozen 0;have hlt:=B3.out.2.1.lt;have BU:=qsd (stored13 B3.out.1 B3.out.2.1 B3.out.2.2.1 HG.out.2.2.2.1 HG.out.2.2.2.2 HX.out.2.2 B3.out.2.2.2.1 (fun b o p h=>by cases h;exact B3.out.2.2.2.2))
   clear hb HP B2
   rcases hr with ⟨he,rfl⟩|⟨he,rfl⟩
   · unfold agg0
     rw [if_neg he] at hz;have HXE:=qsd (Prod.mk.inj hz);have h1:(ep==0)=false:=by simp [he]
     obtain ⟨Z,hZ⟩:∃ U,U=(v.setCell ⟨ge,0,none⟩ (.int .i64 ep)).alloc (Obj.cells #[.int .i64 0,.int .i64 0,.int .i64 0,.int .i64 0,.int .i64 0,.int .i64 0] 168):=⟨_,rfl⟩;have B4:=qsd (BU.out _ _ _ _ _ _ _ _ hZ);have r1:=B4.out.2.1.cell 0 _ rfl;have HZ:=qsd hZ;clear hZ BU hz
     go_upto_region 6 with fail
     rw [←HZ.out];clear HZ;go_wp2;refine early13 Tryz.results101 Middle1_d B4.out.1 B4.out.2.1 B4.out.2.2.2.1 HG.out.2.2.1 HG.out.2.2.2.2 ((bsd_zero _).trans HXE.out.1) HXE.out.2 (by simp [go_sem]) ?_ ?_ <;> rfl
   · subst he
     rw [if_pos rfl] at hz;obtain ⟨Z,hZ⟩:∃ U,U=(v.setCell ⟨ge,0,none⟩ (.int .i64 0)).alloc (Obj.cells #[.int .i64 sn,.int .i64 su,.int .i64 sd,.int .i64 sm,.int .i64 sp,.int .i64 sa] 168):=⟨_,rfl⟩;have B4:=qsd (BU.out _ _ _ _ _ _ _ _ hZ);obtain ⟨gs,hgs⟩:∃ g,v.heap.size=g:=⟨_,rfl⟩;rw [hgs] at B4;have r1:=B4.out.2.1.cell 0 _ rfl;have s0:=B4.out.2.2.1.cell 0 _ rfl;have s1:=B4.out.2.2.1.cell 1 _ rfl;have s2:=B4.out.2.2.1.cell 2 _ rfl;have s3:=B4.out.2.2.1.cell 3 _ rfl;have s4:=B4.out.2.2.1.cell 4 _ rfl;have s5:=B4.out.2.2.1.cell 5 _ rfl;obtain ⟨⟨xl,el⟩,hl⟩:∃ z,levR [x,y] ⟨sn,su,sd,sm,sp,sa⟩ mode=z:=⟨_,rfl⟩;rw [hl] at hz;have hz1:(bsd el xl,el)=(X,E):=hz;obtain ⟨hX,hE⟩:=Prod.mk.inj hz1;have HL:=hid (level13 [x,y] (some ⟨ga,0,none⟩) 2 2 sn su sd sm sp sa mode Z rfl B4.out.2.2.2.2.2 HW2.out B4.out.2.2.2.2.1 (by decide) (xl,el) hl)
     simp only at HL;have HXE:=qsd (ai hX hE);have HZ:=qsd hZ;have HGS:=qsd hgs;clear hZ BU hz hz1 hX hE hl hgs
     go_upto_region 6 with fail
     rw [←HZ.out,HGS.out];clear HZ HGS q1 q2 hlt
     go_wp2_with fail
     refine HL.out.mono ?_;rintro r v4 ⟨rfl,hb⟩
     have B6:Aside (Bl v4 gx 27 [.float .f64 0]∧Bl v4 ge 24 [.int .i64 0]∧Below w.heap.size w v4) :=
      ⟨B4.out.1.below hb B4.out.1.lt,B4.out.2.1.below hb B4.out.2.1.lt,B4.out.2.2.2.1.trans (hb.mono B4.out.2.2.2.1.size)⟩
     have t1:=B6.out.1.cell 0 _ rfl;have t2:=B6.out.1.frozen 0;have t3:=B6.out.2.1.cell 0 _ rfl;have t4:=B6.out.2.1.frozen 0;have hne1:ge≠gx:=HG.out.2.2.2.2;have hne2:gx≠ge:=fun h=>HG.out.2.2.2.2 h.symm
     clear hb B4 HL s0 s1 s2 s3 s4 s5;go_wp2;refine finish13 Tryz.results101 Middle1_d B6.out.1 B6.out.2.1 B6.out.2.2 HG.out.2.2.1 HG.out.2.2.2.1 HG.out.2.2.2.2 HXE.out.1 HXE.out.2 (fun _=>by simp [go_sem]) ?_ ?_ <;> rfl
 · rw [if_neg h0] at hz
   have HXE:=qsd (Prod.mk.inj hz);have h1:(ea==0)=false:=by simp [h0]
   clear hz HA;go_wp2;refine early13 Tryz.results101 Middle1_d B1.out.1 B1.out.2.1 B1.out.2.2 HG.out.2.2.1 HG.out.2.2.2.2 ((bsd_zero _).trans HXE.out.1) HXE.out.2 (by simp [go_sem]) ?_ ?_ <;> rfl
end
section
open Go.RowKit J
theorem calm16 {P:Program}{c:Code}{K:Act→World→Prop}{Q:Exit→Act→World→Prop}{a:Act}{w:World}(h:c.wp P (Exit.then K (fun _ _ _=>False)) a w):c.wp P (Exit.then K Q) a w :=
 wp_mono h (fun e a w h=>by cases e <;> first | exact h | exact False.elim h)
theorem times_core16 (x:Nat) (n:Int) (o p q:Option (Bool×Nat×Int)) (Fo:Fm o) (Fp:Fm p) (Fq:Fm q) (w:World) (hT:Tab w)
 (HO:Hid (∀ u:World,Tab u→Calls Tryz.prog 40 #[.float .f64 x] u fun r w'=>(∃ v,r=.returned (.tuple #[.agg #[.bool (dN o),v,.int .i64 (dE o)],.int .i64 0])∧Nt u.heap.size w' v (dX o))∧Below u.heap.size u w'))
 (HI:Hid (∀ u:World,Tab u→Calls Tryz.prog 81 #[.int .i64 n] u fun r w'=>(∃ v,r=.returned (.agg #[.bool (dN p),v,.int .i64 (dE p)])∧Nt u.heap.size w' v (dX p))∧Below u.heap.size u w'))
 (HM:Hid (∀ (u:World) (a b:Option Addr) (c d:Nat),Tab u→Nt 0 u (.slice a (ws (dX o)).length c) (dX o)→Nt 0 u (.slice b (ws (dX p)).length d) (dX p)→Calls Tryz.prog 80 #[.agg #[.bool (dN o),.slice a (ws (dX o)).length c,.int .i64 (dE o)],.agg #[.bool (dN p),.slice b (ws (dX p)).length d,.int .i64 (dE p)]] u fun r w'=>(∃ v,r=.returned (.tuple #[.agg #[.bool (dN q),v,.int .i64 (dE q)],.int .i64 0])∧Nt u.heap.size w' v (dX q))∧Below u.heap.size u w')) :
 Calls Tryz.prog 132 #[.float .f64 x,.int .i64 n] w fun r w'=>DVal 0 w' r q∧Below w.heap.size w w':=by
 have FF:=(qsd (ai Fo (ai Fp (ai Fq hT))));clear Fo Fp Fq hT;obtain ⟨W0,hW0⟩:∃ W,W=w.alloc (Obj.cells #[.bool false,.slice none 0 0,.int .i64 0] 70):=⟨_,rfl⟩
 have H0:Aside (Lo W0 w.heap.size o00∧Below w.heap.size w W0):=by
  subst hW0;exact ⟨Lo.zero w,below_alloc _ _⟩
 have HW:=qsd hW0;have C:=hid (HO.out W0 (FF.out.2.2.2.belows H0.out.2));clear hW0;go_enter Tryz.func132,Tryz.ntmps132
 go_upto_region 1 with fail
 rw [←HW.out];clear HW
 go_wp2_with fail
 refine C.out.mono ?_;rintro r v0 ⟨⟨s0,rfl,hN⟩,hb⟩;obtain ⟨a0,c0,rfl,hN0⟩:=Lo.shape FF.out.1 hN;obtain ⟨V,hV⟩:∃ V,V=v0.alloc (Obj.cells #[.bool (dN o),.slice a0 (ws (dX o)).length c0,.int .i64 (dE o)] 70):=⟨_,rfl⟩;obtain ⟨gd,hgd⟩:∃ g,g=v0.heap.size:=⟨_,rfl⟩
 have H1:Aside (Lo V w.heap.size o00∧Below w.heap.size w V∧Dk V gd (dN o) (.slice a0 (ws (dX o)).length c0) (dE o)∧Nt 0 V (.slice a0 (ws (dX o)).length c0) (dX o)):=by
  subst hV hgd;have hbv:=H0.out.2.trans (hb.mono H0.out.2.size);exact ⟨(H0.out.1.below hb).below (below_alloc _ _),hbv.trans ((below_alloc _ _).mono hbv.size),Dk.new _ _ _ _,hN0.below (below_alloc _ _)⟩
 have HV:=(qsd (ai hV hgd));clear C H0 hb hN hN0 hV hgd
 go_upto_region 2 with fail
 rw [←HV.out.1,←HV.out.2];clear HV
 go_cut [7,8] from 14 to 20 (fun pv ev wx=>∃ g7,pv=.pointer (some ⟨g7,0,none⟩)∧ev=.int .i64 0∧Aside (Lo wx g7 q∧Lo wx w.heap.size o00∧Below w.heap.size w wx))
 case first =>
  have hdr:=(Below.refl V.heap.size V).drew;have BB:=qsd (ai (H1.out.1.below hdr) (ai (H1.out.2.1.trans (hdr.mono H1.out.2.1.size)) (ai (H1.out.2.2.1.below hdr) (H1.out.2.2.2.below hdr))));clear hdr H1;obtain ⟨p0,p1,p2,f0,f1,f2⟩:=BB.out.2.2.1.facts;have hlt0:gd<V.heap.size:=BB.out.2.2.1.lt;have q0:V.cell? ⟨gd,0,none⟩=some (.bool (dN o)):=p0;have q1:V.cell? ⟨gd,1,none⟩=some (.slice a0 (ws (dX o)).length c0):=p1;have q2:V.cell? ⟨gd,2,none⟩=some (.int .i64 (dE o)):=p2;have hne0:gd≠V.heap.size:=by omega
  refine calm16 ?_
  go_region_with (first
   | (go_at_call 81
      first
      | (with_reducible refine (HI.out _ (FF.out.2.2.2.belows BB.out.2.1)).mono ?_
         rintro r v ⟨⟨p,rfl,hN⟩,hb⟩;obtain ⟨a2,c2,rfl,hN0⟩:=Lo.shape FF.out.2.1 hN;have BB:=qsd (ai (BB.out.1.below hb) (ai (BB.out.2.1.trans (hb.mono BB.out.2.1.size)) (ai (BB.out.2.2.1.below hb) (BB.out.2.2.2.below hb))));have Q2:=qsd hN0;obtain ⟨p0,p1,p2,f0,f1,f2⟩:=BB.out.2.2.1.facts;have hlt:=BB.out.2.2.1.lt;have hne:=Nat.ne_of_lt hlt;clear hb hN hN0)
      | (have G7l:=qsd BB.out.1.lt
         have BB:=qsd (ai (BB.out.1.below (below_alloc _ (Obj.cells #[.bool false,.slice none 0 0,.int .i64 0] 70))) (ai (BB.out.2.1.trans ((below_alloc _ (Obj.cells #[.bool false,.slice none 0 0,.int .i64 0] 70)).mono BB.out.2.1.size)) (ai (BB.out.2.2.1.below (below_alloc _ (Obj.cells #[.bool false,.slice none 0 0,.int .i64 0] 70))) (BB.out.2.2.2.below (below_alloc _ (Obj.cells #[.bool false,.slice none 0 0,.int .i64 0] 70))))));refine (HI.out _ (FF.out.2.2.2.belows BB.out.2.1)).mono ?_;rintro r v ⟨⟨p,rfl,hN⟩,hb⟩;obtain ⟨a2,c2,rfl,hN0⟩:=Lo.shape FF.out.2.1 hN;have G7:=qsd ((Lo.zero _).below hb);have BB:=qsd (ai (BB.out.1.below hb) (ai (BB.out.2.1.trans (hb.mono BB.out.2.1.size)) (ai (BB.out.2.2.1.below hb) (BB.out.2.2.2.below hb))));have Q2:=qsd hN0;obtain ⟨p0,p1,p2,f0,f1,f2⟩:=BB.out.2.2.1.facts;have hlt:=BB.out.2.2.1.lt;have hne:=Nat.ne_of_lt hlt;clear hb hN hN0))
   | (go_at_call 80
      first
      | (with_reducible refine (HM.out _ a0 a2 c0 c2 (FF.out.2.2.2.belows BB.out.2.1) BB.out.2.2.2 Q2.out).mono ?_
         rintro r v ⟨⟨p,rfl,hN⟩,hb⟩;obtain ⟨a3,c3,rfl,hN0⟩:=Lo.shape FF.out.2.2.1 hN
         try (have G7:=qsd (G7.out.below hb);obtain ⟨e1,e2,D7,e3⟩:=G7.out;obtain ⟨y0,y1,y2,z0,z1,z2⟩:=D7.facts;try dsimp only [World.drew] at y0 y1 y2 z0 z1 z2;clear D7 e3)
         have BB:=qsd (ai (BB.out.1.below hb) (ai (BB.out.2.1.trans (hb.mono BB.out.2.1.size)) hN0));clear hb hN hN0 p0 p1 p2 f0 f1 f2)
      | (have G7l:=qsd BB.out.1.lt
         have BB:=qsd (ai (BB.out.1.below (below_alloc _ (Obj.cells #[.bool false,.slice none 0 0,.int .i64 0] 70))) (ai (BB.out.2.1.trans ((below_alloc _ (Obj.cells #[.bool false,.slice none 0 0,.int .i64 0] 70)).mono BB.out.2.1.size)) (ai (BB.out.2.2.1.below (below_alloc _ (Obj.cells #[.bool false,.slice none 0 0,.int .i64 0] 70))) (BB.out.2.2.2.below (below_alloc _ (Obj.cells #[.bool false,.slice none 0 0,.int .i64 0] 70))))));have Q2:=qsd (Q2.out.below (below_alloc _ (Obj.cells #[.bool false,.slice none 0 0,.int .i64 0] 70)));refine (HM.out _ a0 a2 c0 c2 (FF.out.2.2.2.belows BB.out.2.1) BB.out.2.2.2 Q2.out).mono ?_;rintro r v ⟨⟨p,rfl,hN⟩,hb⟩;obtain ⟨a3,c3,rfl,hN0⟩:=Lo.shape FF.out.2.2.1 hN;have G7:=qsd ((Lo.zero _).below hb);obtain ⟨e1,e2,D7,e3⟩:=G7.out;obtain ⟨y0,y1,y2,z0,z1,z2⟩:=D7.facts
         try dsimp only [World.drew] at y0 y1 y2 z0 z1 z2
         clear D7 e3;have BB:=qsd (ai (BB.out.1.below hb) (ai (BB.out.2.1.trans (hb.mono BB.out.2.1.size)) hN0));clear hb hN hN0 p0 p1 p2 f0 f1 f2)))
  all_goals
   go_wp2_with fail
   go_meet
   case rel=>first
    | exact ⟨_,rfl,rfl,Lo.new BB.out.2.2,BB.out.1.below (below_alloc _ _),BB.out.2.1.trans ((below_alloc _ _).mono BB.out.2.1.size)⟩
    | exact ⟨_,rfl,rfl,G7.out.set BB.out.2.2,BB.out.1.other G7.out (Nat.ne_of_lt G7l.out) _ _ _,st3_bel12 BB.out.2.1 BB.out.2.1.size (Nat.le_of_lt G7l.out) _ _ _⟩
 clear H1;obtain ⟨g7,rfl,rfl,HA⟩:=hcut;obtain ⟨W2,hW⟩:∃ W,W=wc:=⟨_,rfl⟩;subst hW;obtain ⟨⟨a3,c3,D3,N3⟩,⟨a4,c4,D4,N4⟩,hb⟩:=HA.out;obtain ⟨p0,p1,p2,f0,f1,f2⟩:=D3.facts;obtain ⟨y0,y1,y2,z0,z1,z2⟩:=D4.facts;have HN:=(qsd (ai N3 hb));clear D3 N3 D4 N4 hb;go_wp2;exact end14 Tryz.results132 rfl HA.out.2.1 HN.out.2 (Nat.le_refl _) HN.out.1
end
section
def sw (L:List Nat) (i j:Nat):List Nat:=(L.set i (L.getD j 0)).set j (L.getD i 0)
theorem sw_len (L:List Nat) (i j:Nat):(sw L i j).length=L.length:=by unfold sw;simp
theorem sw_get {L:List Nat}{i j:Nat}(hi:i<L.length) (hj:j<L.length) (k:Nat):(sw L i j).getD k 0=if k=j then L.getD i 0 else if k=i then L.getD j 0 else L.getD k 0:=by
 unfold sw;simp only [List.getD_eq_getElem?_getD,List.getElem?_set,List.length_set]
 by_cases h1:k=j
 · subst h1;simp [hj]
 · rw [if_neg (fun h=>h1 h.symm),if_neg h1]
   by_cases h2:k=i
   · subst h2;simp [hi]
   · rw [if_neg (fun h=>h2 h.symm),if_neg h2]
theorem sw_perm {L:List Nat}{i j:Nat}(hi:i<L.length) (hj:j<L.length):(sw L i j).Perm L:=by
 unfold sw;have e1:L.getD i 0=L[i]:=by rw [List.getD_eq_getElem?_getD,List.getElem?_eq_getElem hi];rfl
 have e2:L.getD j 0=L[j]:=by rw [List.getD_eq_getElem?_getD,List.getElem?_eq_getElem hj];rfl
 rw [e1,e2];exact List.set_set_perm hi hj
structure Pm (a b:Nat) (L L':List Nat):Prop where
 len:L'.length=L.length
 perm:L'.Perm L
 out:∀ k,k<a∨b≤k→L'.getD k 0=L.getD k 0
 inn:∀ k,a≤k→k<b→∃ j,a≤j∧j<b∧L'.getD k 0=L.getD j 0
theorem Pm.refl (a b:Nat) (L:List Nat):Pm a b L L:=⟨rfl,List.Perm.refl _,fun _ _=>rfl,fun k h1 h2=>⟨k,h1,h2,rfl⟩⟩
theorem Pm.trans {a b:Nat}{L M N:List Nat}(h:Pm a b L M) (g:Pm a b M N):Pm a b L N :=
 ⟨g.len.trans h.len,g.perm.trans h.perm,fun k hk=>(g.out k hk).trans (h.out k hk),fun k h1 h2=>by
  obtain ⟨j,j1,j2,j3⟩:=g.inn k h1 h2;obtain ⟨i,i1,i2,i3⟩:=h.inn j j1 j2;exact ⟨i,i1,i2,j3.trans i3⟩⟩
theorem Pm.mono {a b c d:Nat}{L M:List Nat}(h:Pm a b L M) (h1:c≤a) (h2:b≤d):Pm c d L M :=
 ⟨h.len,h.perm,fun k hk=>h.out k (by omega),fun k k1 k2=>by
  by_cases q:a≤k∧k<b
  · obtain ⟨j,j1,j2,j3⟩:=h.inn k q.1 q.2
    exact ⟨j,by omega,by omega,j3⟩
  · exact ⟨k,k1,k2,h.out k (by omega)⟩⟩
theorem Pm.swap {a b i j:Nat}{L:List Nat}(hb:b≤L.length) (i1:a≤i) (i2:i<b) (j1:a≤j) (j2:j<b):Pm a b L (sw L i j):=by
 refine ⟨sw_len _ _ _,sw_perm (by omega) (by omega),fun k hk=>?_,fun k k1 k2=>?_⟩
 · rw [sw_get (by omega) (by omega),if_neg (by omega),if_neg (by omega)]
 · rw [sw_get (by omega) (by omega)]
   by_cases h1:k=j
   · rw [if_pos h1];exact ⟨i,i1,i2,rfl⟩
   · rw [if_neg h1]
     by_cases h2:k=i
     · rw [if_pos h2];exact ⟨j,j1,j2,rfl⟩
     · rw [if_neg h2];exact ⟨k,k1,k2,rfl⟩
def ky (K:Nat→Nat) (L:List Nat) (k:Nat):Nat:=K (L.getD k 0)
def Up (K:Nat→Nat) (a b:Nat) (L:List Nat):Prop:=∀ i j,a≤i→i<j→j<b→ky K L i≤ky K L j
structure Ins (K:Nat→Nat) (a i j:Nat) (L:List Nat):Prop where
 aj:a≤j
 ji:j≤i
 up:∀ x y,a≤x→x<y→y≤i→x≠j→y≠j→ky K L x≤ky K L y
 hi:∀ y,j<y→y≤i→ky K L j≤ky K L y
theorem Ins.start {K:Nat→Nat}{a i:Nat}{L:List Nat}(h:Up K a i L) (ha:a≤i):Ins K a i i L :=
 ⟨ha,Nat.le_refl _,fun x y h1 h2 h3 h4 h5=>h x y h1 h2 (by omega),fun y h1 h2=>absurd h1 (by omega)⟩
theorem Ins.step {K:Nat→Nat}{a i j:Nat}{L:List Nat}(h:Ins K a i j L) (hl:i<L.length) (hj:a<j) (hlt:ky K L j<ky K L (j-1)):Ins K a i (j-1) (sw L j (j-1)):=by
 have:=h.ji
 have g:∀ k,ky K (sw L j (j-1)) k=if k=j-1 then ky K L j else if k=j then ky K L (j-1) else ky K L k:=fun k=>by
  unfold ky;rw [sw_get (by omega) (by omega)]
  split
  · rfl
  · split <;> rfl
 refine ⟨by omega,by omega,fun x y h1 h2 h3 h4 h5=>?_,fun y h1 h2=>?_⟩
 · rw [g,g,if_neg h4,if_neg h5]
   by_cases q1:x=j
   · rw [if_pos q1,if_neg (by omega)]
     exact h.up (j-1) y (by omega) (by omega) h3 (by omega) (by omega)
   · rw [if_neg q1]
     by_cases q2:y=j
     · rw [if_pos q2]
       exact h.up x (j-1) h1 (by omega) (by omega) q1 (by omega)
     · rw [if_neg q2];exact h.up x y h1 h2 h3 q1 q2
 · rw [g,g,if_pos rfl,if_neg (by omega)]
   by_cases q:y=j
   · rw [if_pos q];omega
   · rw [if_neg q];exact h.hi y (by omega) h2
theorem Ins.done {K:Nat→Nat}{a i j:Nat}{L:List Nat}(h:Ins K a i j L) (hs:j=a∨ky K L (j-1)≤ky K L j):Up K a (i+1) L:=by
 intro x y h1 h2 h3;have:=h.aj
 by_cases q1:x=j
 · rw [q1];exact h.hi y (by omega) (by omega)
 · by_cases q2:y=j
   · rw [q2]
     rcases hs with e|e
     · omega
     · by_cases q3:x=j-1
       · rw [q3];exact e
       · have:=h.up x (j-1) h1 (by omega) (by have:=h.ji;omega) q1 (by omega)
         omega
   · exact h.up x y h1 h2 (by omega) q1 q2
def Hp (K:Nat→Nat) (f lo hi:Nat) (L:List Nat):Prop:=∀ c,0<c→c<hi→lo≤(c-1)/2→ky K L (f+c)≤ky K L (f+(c-1)/2)
structure Sf (K:Nat→Nat) (f lo hi r:Nat) (L:List Nat):Prop where
 ge:lo≤r
 hp:∀ c,0<c→c<hi→lo≤(c-1)/2→(c-1)/2≠r→ky K L (f+c)≤ky K L (f+(c-1)/2)
 pr:0<r→lo≤(r-1)/2→∀ c,0<c→c<hi→(c-1)/2=r→ky K L (f+c)≤ky K L (f+(r-1)/2)
theorem Sf.start {K:Nat→Nat}{f lo hi:Nat}{L:List Nat}(h:Hp K f (lo+1) hi L):Sf K f lo hi lo L :=
 ⟨Nat.le_refl _,fun c h1 h2 h3 h4=>h c h1 h2 (by omega),fun h1 h2=>by omega⟩
theorem Sf.done {K:Nat→Nat}{f lo hi r:Nat}{L:List Nat}(h:Sf K f lo hi r L) (hs:∀ c,0<c→c<hi→(c-1)/2=r→ky K L (f+c)≤ky K L (f+r)):Hp K f lo hi L:=by
 intro c h1 h2 h3
 by_cases q:(c-1)/2=r
 · rw [q];exact hs c h1 h2 q
 · exact h.hp c h1 h2 h3 q
theorem Sf.step {K:Nat→Nat}{f lo hi r d:Nat}{L:List Nat}(h:Sf K f lo hi r L) (hl:f+hi≤L.length) (hd:d=2*r+1∨d=2*r+2) (hdh:d<hi) (hlt:ky K L (f+r)<ky K L (f+d)) (hmax:∀ c,0<c→c<hi→(c-1)/2=r→ky K L (f+c)≤ky K L (f+d)):Sf K f lo hi d (sw L (f+r) (f+d)):=by
 have g:∀ k,ky K (sw L (f+r) (f+d)) (f+k)=if k=d then ky K L (f+r) else if k=r then ky K L (f+d) else ky K L (f+k):=fun k=>by
  unfold ky;rw [sw_get (by omega) (by omega)]
  by_cases q:k=d
  · rw [if_pos (by omega),if_pos q]
  · rw [if_neg (by omega),if_neg q]
    by_cases q2:k=r
    · rw [if_pos (by omega),if_pos q2]
    · rw [if_neg (by omega),if_neg q2]
 have hge:=h.ge;refine ⟨by omega,fun c h1 h2 h3 h4=>?_,fun h1 h2 c c1 c2 c3=>?_⟩
 · rw [g,g,if_neg h4]
   by_cases q1:c=d
   · rw [if_pos q1,if_pos (by omega)];omega
   · rw [if_neg q1]
     by_cases q2:c=r
     · rw [if_pos q2,if_neg (by omega)]
       have:=h.pr (by omega) (by omega) d (by omega) hdh (by omega)
       rw [q2];exact this
     · rw [if_neg q2]
       by_cases q3:(c-1)/2=r
       · rw [if_pos q3];exact hmax c h1 h2 q3
       · rw [if_neg q3];exact h.hp c h1 h2 h3 q3
 · rw [g,g,if_neg (by omega),if_neg (by omega),if_neg (by omega),if_pos (by omega)]
   have:=h.hp c c1 c2 (by omega) (by omega)
   rw [c3] at this;exact this
theorem Hp.top {K:Nat→Nat}{f hi:Nat}{L:List Nat}(h:Hp K f 0 hi L):∀ c,c<hi→ky K L (f+c)≤ky K L f:=by
 intro c
 induction c using Nat.strongRecOn with
 | _ c ih =>
   intro hc
   by_cases q:c=0
   · rw [q];exact Nat.le_refl _
   · have h1:=h c (by omega) hc (Nat.zero_le _)
     have h2:=ih ((c-1)/2) (by omega) (by omega)
     omega
end
section
open Go.RowKit J
def Iw15 (n:Nat):Value:=.int .i64 (n:Nat)
def OwnI (w:World) (g:Nat) (L:List Nat):Prop:=w.heap[g]?=some (.cells (L.map Iw15).toArray 3 (0,0))
theorem OwnI.lt {w:World}{g:Nat}{L:List Nat}(h:OwnI w g L):g<w.heap.size:=(Array.getElem?_eq_some_iff.1 h).1
theorem OwnI.cell {w:World}{g:Nat}{L:List Nat}(h:OwnI w g L) (i:Nat) (hi:i<L.length):w.cell? ⟨g,i,none⟩=some (.int .i64 ((L.getD i 0:Nat):Int)):=by
 unfold OwnI at h;simp [World.cell?,h,Iw15,hi]
theorem OwnI.frozen {w:World}{g:Nat}{L:List Nat}(h:OwnI w g L) (i:Nat):w.frozen? ⟨g,i,none⟩=false:=by
 unfold OwnI at h;simp [World.frozen?,h]
theorem OwnI.set {w:World}{g:Nat}{L:List Nat}(h:OwnI w g L) (i x:Nat):OwnI (w.setCell ⟨g,i,none⟩ (.int .i64 (x:Nat))) g (L.set i x):=by
 unfold OwnI at h ⊢;simp only [World.setCell,Array.getElem?_modify,h];simp [Iw15,List.map_set]
theorem OwnI.below {w w':World}{g B:Nat}{L:List Nat}(h:OwnI w g L) (hb:Below B w w') (hg:g<B):OwnI w' g L:=by
 unfold OwnI at h ⊢;rw [hb.block g hg];exact h
theorem OwnI.sw {w:World}{g:Nat}{L:List Nat}(h:OwnI w g L) (i j:Nat):OwnI ((w.setCell ⟨g,i,none⟩ (.int .i64 (L.getD j 0:Nat))).setCell ⟨g,j,none⟩ (.int .i64 (L.getD i 0:Nat))) g (sw L i j):=(h.set i _).set j _
theorem But.of_bel15 {g:Nat}{a w w':World}(h:But g a w) (hb:Below w.heap.size w w'):But g a w':=h.trans ⟨hb.os,hb.tape,hb.output,hb.size,fun k hk _=>hb.block k hk⟩
def Cmp15 (K:Nat→Nat) (n g:Nat) (recv:Value) (w:World):Prop:=∀ (u:World) (x y:Nat),But g w u→x<n→y<n→∃ c:Int,(c<0↔K x<K y)∧Calls Tryz.prog 138 #[recv,.int .i64 (x:Nat),.int .i64 (y:Nat)] u fun r w'=>r=.returned (.int .i64 c)∧Below u.heap.size u w'
end
section
structure H2 (K:Nat→Nat) (f hi m:Nat) (L:List Nat):Prop where
 le:m≤hi
 hp:Hp K f 0 m L
 bt:∀ x y,x<m→m≤y→y<hi→ky K L (f+x)≤ky K L (f+y)
 up:Up K (f+m) (f+hi) L
theorem H2.start {K:Nat→Nat}{f hi:Nat}{L:List Nat}(h:Hp K f 0 hi L):H2 K f hi hi L :=
 ⟨Nat.le_refl _,h,fun x y h1 h2 h3=>by omega,fun i j h1 h2 h3=>by omega⟩
theorem ky_sw {K:Nat→Nat}{L:List Nat}{i j:Nat}(hi:i<L.length) (hj:j<L.length) (k:Nat):ky K (sw L i j) k=if k=j then ky K L i else if k=i then ky K L j else ky K L k:=by
 unfold ky;rw [sw_get hi hj]
 split
 · rfl
 · split <;> rfl
theorem H2.mid {K:Nat→Nat}{f hi m:Nat}{L:List Nat}(h:H2 K f hi (m+1) L) (hl:f+hi≤L.length):Hp K f 1 m (sw L f (f+m)):=by
 have:=h.le;intro c h1 h2 h3;rw [ky_sw (by omega) (by omega),ky_sw (by omega) (by omega),if_neg (by omega),if_neg (by omega),if_neg (by omega),if_neg (by omega)]
 exact h.hp c h1 (by omega) (Nat.zero_le _)
theorem H2.step {K:Nat→Nat}{f hi m:Nat}{L L':List Nat}(h:H2 K f hi (m+1) L) (hl:f+hi≤L.length) (hP:Pm f (f+m) (sw L f (f+m)) L') (hH:Hp K f 0 m L'):H2 K f hi m L':=by
 have hle:=h.le;have top:=h.hp.top;have e:∀ k,f+m≤k→ky K L' k=ky K (sw L f (f+m)) k:=fun k hk=>by unfold ky;rw [hP.out k (.inr hk)]
 have s:∀ k,ky K (sw L f (f+m)) k=if k=f+m then ky K L f else if k=f then ky K L (f+m) else ky K L k:=ky_sw (by omega) (by omega)
 have em:ky K L' (f+m)=ky K L f:=by rw [e _ (Nat.le_refl _),s,if_pos rfl]
 have eo:∀ k,f+m<k→ky K L' k=ky K L k:=fun k hk=>by rw [e _ (by omega),s,if_neg (by omega),if_neg (by omega)]
 have inn:∀ x,x<m→∃ j,j<m+1∧ky K L' (f+x)=ky K L (f+j):=fun x hx=>by
  obtain ⟨j,j1,j2,j3⟩:=hP.inn (f+x) (by omega) (by omega)
  have:ky K L' (f+x)=ky K (sw L f (f+m)) j:=by unfold ky;rw [j3]
  rw [this,s,if_neg (by omega)]
  by_cases q:j=f
  · rw [if_pos q];exact ⟨m,by omega,rfl⟩
  · rw [if_neg q];exact ⟨j-f,by omega,by rw [show f+(j-f)=j by omega]⟩
 refine ⟨by omega,hH,fun x y h1 h2 h3=>?_,fun i j h1 h2 h3=>?_⟩
 · obtain ⟨j,j1,j2⟩:=inn x h1
   rw [j2]
   by_cases q:y=m
   · rw [q,em];exact top j j1
   · rw [eo _ (by omega)];exact h.bt j y j1 (by omega) h3
 · rw [eo j (by omega)]
   by_cases q:i=f+m
   · rw [q,em]
     have:=h.bt 0 (j-f) (by omega) (by omega) (by omega)
     rw [show f+(j-f)=j by omega] at this
     exact this
   · rw [eo i (by omega)];exact h.up i j (by omega) h2 h3
theorem H2.done {K:Nat→Nat}{f hi:Nat}{L:List Nat}(h:H2 K f hi 0 L):Up K f (f+hi) L:=h.up
structure Pt (K:Nat→Nat) (a b i j:Nat) (p:Nat) (L:List Nat):Prop where
 ai:a<i
 jb:j<b
 ij:i≤j+1
 pv:ky K L a=p
 lo:∀ k,a<k→k<i→ky K L k<p
 hi:∀ k,j<k→k<b→p≤ky K L k
theorem Pt.start {K:Nat→Nat}{a b q:Nat}{L:List Nat}(hb:b≤L.length) (hab:a+1<b) (q1:a≤q) (q2:q<b):Pt K a b (a+1) (b-1) (ky K L q) (sw L a q):=by
 refine ⟨by omega,by omega,by omega,?_,fun k h1 h2=>by omega,fun k h1 h2=>by omega⟩
 rw [ky_sw (by omega) (by omega)]
 by_cases e:a=q
 · rw [if_pos e,e]
 · rw [if_neg e,if_pos rfl]
theorem Pt.right {K:Nat→Nat}{a b i j p:Nat}{L:List Nat}(h:Pt K a b i j p L) (hij:i≤j) (hlt:ky K L i<ky K L a):Pt K a b (i+1) j p L:=by
 have:=h.ai;refine ⟨by omega,h.jb,by omega,h.pv,fun k h1 h2=>?_,h.hi⟩
 by_cases e:k=i
 · rw [e,←h.pv];exact hlt
 · exact h.lo k h1 (by omega)
theorem Pt.left {K:Nat→Nat}{a b i j p:Nat}{L:List Nat}(h:Pt K a b i j p L) (hij:i≤j) (hge:ky K L a≤ky K L j):Pt K a b i (j-1) p L:=by
 have:=h.ai;have:=h.jb;refine ⟨h.ai,by omega,by omega,h.pv,h.lo,fun k h1 h2=>?_⟩
 by_cases e:k=j
 · rw [e,←h.pv];exact hge
 · exact h.hi k (by omega) h2
theorem Pt.swap {K:Nat→Nat}{a b i j p:Nat}{L:List Nat}(h:Pt K a b i j p L) (hb:b≤L.length) (hij:i≤j) (h1:ky K L a≤ky K L i) (h2:ky K L j<ky K L a):Pt K a b (i+1) (j-1) p (sw L i j):=by
 have a1:=h.ai;have a2:=h.jb;have hne:i≠j:=fun e=>by rw [e] at h1;omega
 have s:∀ k,ky K (sw L i j) k=if k=j then ky K L i else if k=i then ky K L j else ky K L k:=ky_sw (by omega) (by omega)
 have hp:=h.pv;refine ⟨by omega,by omega,by omega,?_,fun k k1 k2=>?_,fun k k1 k2=>?_⟩
 · rw [s,if_neg (by omega),if_neg (by omega)];exact hp
 · rw [s,if_neg (by omega)]
   by_cases e:k=i
   · rw [if_pos e,←hp];exact h2
   · rw [if_neg e];exact h.lo k k1 (by omega)
 · rw [s]
   by_cases e:k=j
   · rw [if_pos e,←hp];exact h1
   · rw [if_neg e,if_neg (by omega)];exact h.hi k (by omega) k2
structure Prt (K:Nat→Nat) (a b m:Nat) (L:List Nat):Prop where
 am:a≤m
 mb:m<b
 lo:∀ k,a≤k→k<m→ky K L k≤ky K L m
 hi:∀ k,m<k→k<b→ky K L m≤ky K L k
theorem Pt.done {K:Nat→Nat}{a b i j p:Nat}{L:List Nat}(h:Pt K a b i j p L) (hb:b≤L.length) (hij:j<i):Prt K a b j (sw L j a):=by
 have a1:=h.ai;have a2:=h.jb;have a3:=h.ij;have s:∀ k,ky K (sw L j a) k=if k=a then ky K L j else if k=j then ky K L a else ky K L k:=ky_sw (by omega) (by omega)
 have hm:ky K (sw L j a) j=p:=by
  rw [s]
  by_cases e:j=a
  · rw [if_pos e,e];exact h.pv
  · rw [if_neg e,if_pos rfl];exact h.pv
 refine ⟨by omega,by omega,fun k k1 k2=>?_,fun k k1 k2=>?_⟩
 · rw [hm,s]
   by_cases e:k=a
   · rw [if_pos e];exact Nat.le_of_lt (h.lo j (by omega) (by omega))
   · rw [if_neg e,if_neg (by omega)];exact Nat.le_of_lt (h.lo k (by omega) (by omega))
 · rw [hm,s,if_neg (by omega),if_neg (by omega)];exact h.hi k k1 k2
theorem Prt.left {K:Nat→Nat}{a b m:Nat}{L L':List Nat}(h:Prt K a b m L) (hP:Pm a m L L'):Prt K a b m L':=by
 have em:ky K L' m=ky K L m:=by unfold ky;rw [hP.out m (.inr (Nat.le_refl _))]
 refine ⟨h.am,h.mb,fun k k1 k2=>?_,fun k k1 k2=>?_⟩
 · obtain ⟨j,j1,j2,j3⟩:=hP.inn k k1 k2
   rw [em,show ky K L' k=ky K L j by unfold ky;rw [j3]]
   exact h.lo j j1 j2
 · rw [em,show ky K L' k=ky K L k by unfold ky;rw [hP.out k (.inr (by omega))]]
   exact h.hi k k1 k2
theorem Prt.right {K:Nat→Nat}{a b m:Nat}{L L':List Nat}(h:Prt K a b m L) (hP:Pm (m+1) b L L'):Prt K a b m L':=by
 have em:ky K L' m=ky K L m:=by unfold ky;rw [hP.out m (.inl (by omega))]
 refine ⟨h.am,h.mb,fun k k1 k2=>?_,fun k k1 k2=>?_⟩
 · rw [em,show ky K L' k=ky K L k by unfold ky;rw [hP.out k (.inl (by omega))]]
   exact h.lo k k1 k2
 · obtain ⟨j,j1,j2,j3⟩:=hP.inn k (by omega) k2
   rw [em,show ky K L' k=ky K L j by unfold ky;rw [j3]]
   exact h.hi j (by omega) j2
theorem Prt.up {K:Nat→Nat}{a b m:Nat}{L:List Nat}(h:Prt K a b m L) (h1:Up K a m L) (h2:Up K (m+1) b L):Up K a b L:=by
 intro i j hi hij hj
 by_cases q1:j<m
 · exact h1 i j hi hij q1
 · by_cases q2:m<i
   · exact h2 i j (by omega) hij hj
   · have e1:ky K L i≤ky K L m:=by
      by_cases q:i=m
      · rw [q];exact Nat.le_refl _
      · exact h.lo i hi (by omega)
     have e2:ky K L m≤ky K L j:=by
      by_cases q:j=m
      · rw [q];exact Nat.le_refl _
      · exact h.hi j (by omega) hj
     omega
theorem Up.out {K:Nat→Nat}{a b c d:Nat}{L L':List Nat}(h:Up K a b L) (hP:Pm c d L L') (hd:b≤c∨d≤a):Up K a b L':=by
 intro i j h1 h2 h3;rw [show ky K L' i=ky K L i by unfold ky;rw [hP.out i (by omega)],show ky K L' j=ky K L j by unfold ky;rw [hP.out j (by omega)]]
 exact h i j h1 h2 h3
def Fl (K:Nat→Nat) (a b:Nat) (L:List Nat):Prop:=0<a→∀ k,a≤k→k<b→ky K L (a-1)<ky K L k
theorem Fl.pm {K:Nat→Nat}{a b:Nat}{L L':List Nat}(h:Fl K a b L) (hP:Pm a b L L'):Fl K a b L':=by
 intro ha k k1 k2;obtain ⟨j,j1,j2,j3⟩:=hP.inn k k1 k2;rw [show ky K L' (a-1)=ky K L (a-1) by unfold ky;rw [hP.out (a-1) (.inl (by omega))],show ky K L' k=ky K L j by unfold ky;rw [j3]]
 exact h ha j j1 j2
theorem Fl.left {K:Nat→Nat}{a b m:Nat}{L:List Nat}(h:Fl K a b L) (hm:m≤b):Fl K a m L:=fun ha k k1 k2=>h ha k k1 (by omega)
theorem Prt.fl {K:Nat→Nat}{a b m:Nat}{L:List Nat}(h:Prt K a b m L) (hn:∀ i j,i<b→j<b→i≠j→ky K L i≠ky K L j):Fl K (m+1) b L:=fun _ k k1 k2=>by
 have h1:=h.hi k (by omega) k2
 have h2:=hn m k (by omega) k2 (by omega)
 rw [show m+1-1=m by omega]
 omega
end
end Go.Proofs.YtgfemeencgjneaaGreatDoor
