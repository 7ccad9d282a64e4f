import Derived.Test.YtmkmndlpjenemaaGreatDoorZ14x
import Derived.Deep.RegionWith
import Derived.Deep.Cut
import Derived.Test.YtmkmndlpjenemaaGreatDoorN4x
import Derived.Test.YtmkmndlpjenemaaGreatDoorD21x
import Derived.Test.YtmkmndlpjenemaaGreatDoorS11ax
import Derived.Test.YtmkmndlpjenemaaGreatDoorD16x
import Derived.Test.YtmkmndlpjenemaaGreatDoorD30x
import Derived.Test.YtmkmndlpjenemaaGreatDoorBW6x
import Derived.Deep.CutRange
import Derived.Deep.RegionHeld3
import Derived.Test.YtmkmndlpjenemaaGreatDoorM1x
import Derived.Test.YtmkmndlpjenemaaGreatDoorBIeeex
import Derived.Test.YtmkmndlpjenemaaGreatDoorW14x
import Derived.BigQuiet
import Derived.ProofKit
import Derived.OpenShut
import Derived.ChangeOld
import Derived.ChangeArms
import Derived.SizedLaws
import Derived.Laws.Cover2
set_option linter.unusedVariables false
set_option linter.unusedSimpArgs false
set_option maxHeartbeats 16000000
set_option maxRecDepth 20000
namespace Go.Proofs.YtmkmndlpjenemaaGreatDoor
namespace J
end J
namespace Ps
open Go.RowKit
open Go.Proofs.YtmkmndlpjenemaaGreatDoor.B (f64bits f64frombits bw)
attribute [local go_sem] f64bits f64frombits
theorem kd_le (b:Nat):kd b≤5:=by unfold kd;(repeat' split) <;> omega
open Go.RowKit
open Go.Proofs.YtmkmndlpjenemaaGreatDoor.B (f64bits f64frombits bw bcell)
attribute [local go_sem] f64bits f64frombits
def cn (k:Nat) (xs:List Nat):Nat:=xs.countP (fun x=>kd x==k)
theorem cn_append (k:Nat) (xs ys:List Nat):cn k (xs++ys)=cn k xs+cn k ys:=by simp [cn,List.countP_append]
def one (k x:Nat):Nat:=if kd x=k then 1 else 0
theorem cn_one (k x:Nat):cn k [x]=one k x:=by unfold cn one;by_cases h:kd x=k <;> simp [h]
theorem take_succ' (xs:List Nat) (i:Nat) (h:i<xs.length):xs.take (i+1)=xs.take i++[xs.getD i 0]:=by
 rw [List.take_succ_eq_append_getElem h,List.getD_eq_getElem?_getD,List.getElem?_eq_getElem h];rfl
theorem cn_succ (k:Nat) (xs:List Nat) (i:Nat) (h:i<xs.length):cn k (xs.take (i+1))=cn k (xs.take i)+one k (xs.getD i 0):=by
 rw [take_succ' xs i h,cn_append,cn_one]
theorem cn_le (k:Nat) (xs:List Nat):cn k xs≤xs.length:=List.countP_le_length
def SpB (w:World) (g:Nat) (n u d m p a:Int):Prop:=w.heap[g]?=some (.cells #[.int .i64 n,.int .i64 u,.int .i64 d,.int .i64 m,.int .i64 p,.int .i64 a] 57 (0,0))
theorem SpB.lt {w:World}{g:Nat}{n u d m p a:Int}(h:SpB w g n u d m p a):g<w.heap.size:=(Array.getElem?_eq_some_iff.1 h).1
theorem SpB.c0 {w:World}{g:Nat}{n u d m p a:Int}(h:SpB w g n u d m p a):w.cell? ⟨g,0,none⟩=some (.int .i64 n):=by unfold SpB at h;simp [World.cell?,h]
theorem SpB.c1 {w:World}{g:Nat}{n u d m p a:Int}(h:SpB w g n u d m p a):w.cell? ⟨g,1,none⟩=some (.int .i64 u):=by unfold SpB at h;simp [World.cell?,h]
theorem SpB.c2 {w:World}{g:Nat}{n u d m p a:Int}(h:SpB w g n u d m p a):w.cell? ⟨g,2,none⟩=some (.int .i64 d):=by unfold SpB at h;simp [World.cell?,h]
theorem SpB.c3 {w:World}{g:Nat}{n u d m p a:Int}(h:SpB w g n u d m p a):w.cell? ⟨g,3,none⟩=some (.int .i64 m):=by unfold SpB at h;simp [World.cell?,h]
theorem SpB.c4 {w:World}{g:Nat}{n u d m p a:Int}(h:SpB w g n u d m p a):w.cell? ⟨g,4,none⟩=some (.int .i64 p):=by unfold SpB at h;simp [World.cell?,h]
theorem SpB.c5 {w:World}{g:Nat}{n u d m p a:Int}(h:SpB w g n u d m p a):w.cell? ⟨g,5,none⟩=some (.int .i64 a):=by unfold SpB at h;simp [World.cell?,h]
theorem SpB.frozen {w:World}{g:Nat}{n u d m p a:Int}(h:SpB w g n u d m p a) (i:Nat):w.frozen? ⟨g,i,none⟩=false:=by unfold SpB at h;simp [World.frozen?,h]
theorem SpB.below {w w':World}{g B:Nat}{n u d m p a:Int}(h:SpB w g n u d m p a) (hb:Below B w w') (hg:g<B):SpB w' g n u d m p a:=by
 unfold SpB at h ⊢;rw [hb.block g hg];exact h
theorem count_any (k g:Nat) (n u d m p a:Int) (w:World) (hk:k≤5) (hB:SpB w g n u d m p a) (hn:0≤n∧n≤65536) (hu:0≤u∧u≤65536) (hd:0≤d∧d≤65536) (hm:0≤m∧m≤65536) (hp:0≤p∧p≤65536) :
 Calls Tryz.prog 67 #[.pointer (some ⟨g,0,none⟩),.int .i64 (k:Nat)] w fun r w'=>r=.returned (.tuple #[]) ∧
  SpB w' g (if k=0 then n+1 else n) (if k=1 then u+1 else u) (if k=2 then d+1 else d) (if k=3 then m+1 else m) (if k=4 then p+1 else p) a∧But g w w':=by
 have hc0:=hB.c0;have hc1:=hB.c1;have hc2:=hB.c2;have hc3:=hB.c3;have hc4:=hB.c4;have hf0:=hB.frozen 0;have hf1:=hB.frozen 1;have hf2:=hB.frozen 2;have hf3:=hB.frozen 3;have hf4:=hB.frozen 4;have HB:=qsd hB;clear hB;obtain rfl|rfl|rfl|rfl|rfl|rfl:k=0∨k=1∨k=2∨k=3∨k=4∨k=5:=by omega
 · go_enter Tryz.func67,Tryz.ntmps67
   go_wp2
   go_end0
   refine ⟨rfl,?_,(But.refl _ _).set _ _⟩;have h:=HB.out;unfold SpB at h ⊢;simp [World.setCell,Array.getElem?_modify,h]
 · go_enter Tryz.func67,Tryz.ntmps67
   go_wp2
   go_end0
   refine ⟨rfl,?_,(But.refl _ _).set _ _⟩;have h:=HB.out;unfold SpB at h ⊢;simp [World.setCell,Array.getElem?_modify,h]
 · go_enter Tryz.func67,Tryz.ntmps67
   go_wp2
   go_end0
   refine ⟨rfl,?_,(But.refl _ _).set _ _⟩;have h:=HB.out;unfold SpB at h ⊢;simp [World.setCell,Array.getElem?_modify,h]
 · go_enter Tryz.func67,Tryz.ntmps67
   go_wp2
   go_end0
   refine ⟨rfl,?_,(But.refl _ _).set _ _⟩;have h:=HB.out;unfold SpB at h ⊢;simp [World.setCell,Array.getElem?_modify,h]
 · go_enter Tryz.func67,Tryz.ntmps67
   go_wp2
   go_end0
   refine ⟨rfl,?_,(But.refl _ _).set _ _⟩;have h:=HB.out;unfold SpB at h ⊢;simp [World.setCell,Array.getElem?_modify,h]
 · go_enter Tryz.func67,Tryz.ntmps67
   go_wp2
   go_end0
   exact ⟨rfl,HB.out,But.refl _ _⟩
def rf (n u d a b:Int):Int:=if 0<n∧a=2 then 60 else if 0<u+d∧b=2 then 61 else 0
theorem refusal_any (n u d m p l a b:Int) (w:World) (hu:0≤u∧u≤65536) (hd:0≤d∧d≤65536) :
 Calls Tryz.prog 68 #[.agg #[.int .i64 n,.int .i64 u,.int .i64 d,.int .i64 m,.int .i64 p,.int .i64 l],.agg #[.int .i64 a,.int .i64 b]] w fun r w'=>r=.returned (.int .i64 (rf n u d a b))∧Below w.heap.size w w':=by
 have below:∀ o o',Below w.heap.size w ((w.alloc o).alloc o'):=fun o o'=>((Below.refl _ _).alloc (Nat.le_refl _) _).alloc (by simp) _
 obtain ⟨t,ht⟩:∃ t,u+d=t:=⟨_,rfl⟩;have ht2:-9223372036854775808≤t∧t≤9223372036854775807:=by omega
 unfold rf;rw [ht]
 by_cases h1:0<n
 · by_cases h2:a=2
   · rw [if_pos ⟨h1,h2⟩]
     subst h2;go_enter Tryz.func68,Tryz.ntmps68;go_wp2;go_ret;exact ⟨rfl,below _ _⟩
   · have h2':(a==2)=false:=by rw [beq_eq_false_iff_ne];exact h2
     rw [if_neg (fun h=>h2 h.2)]
     by_cases h3:0<t
     · by_cases h4:b=2
       · rw [if_pos ⟨h3,h4⟩]
         subst h4;go_enter Tryz.func68,Tryz.ntmps68;go_wp2;go_ret;exact ⟨rfl,below _ _⟩
       · have h4':(b==2)=false:=by rw [beq_eq_false_iff_ne];exact h4
         rw [if_neg (fun h=>h4 h.2)]
         go_enter Tryz.func68,Tryz.ntmps68;go_wp2;go_ret;exact ⟨rfl,below _ _⟩
     · have h3':decide (0<t)=false:=decide_eq_false h3
       rw [if_neg (fun h=>h3 h.1)]
       go_enter Tryz.func68,Tryz.ntmps68;go_wp2;go_ret;exact ⟨rfl,below _ _⟩
 · have h1':decide (0<n)=false:=decide_eq_false h1
   rw [if_neg (fun h=>h1 h.1)]
   by_cases h3:0<t
   · by_cases h4:b=2
     · rw [if_pos ⟨h3,h4⟩]
       subst h4;go_enter Tryz.func68,Tryz.ntmps68;go_wp2;go_ret;exact ⟨rfl,below _ _⟩
     · have h4':(b==2)=false:=by rw [beq_eq_false_iff_ne];exact h4
       rw [if_neg (fun h=>h4 h.2)]
       go_enter Tryz.func68,Tryz.ntmps68;go_wp2;go_ret;exact ⟨rfl,below _ _⟩
   · have h3':decide (0<t)=false:=decide_eq_false h3
     rw [if_neg (fun h=>h3 h.1)]
     go_enter Tryz.func68,Tryz.ntmps68;go_wp2;go_ret;exact ⟨rfl,below _ _⟩
open Go.RowKit
open Go.Proofs.YtmkmndlpjenemaaGreatDoor.B (f64bits f64frombits bw bcell)
attribute [local go_sem] f64bits f64frombits
theorem SpB.made (w:World) (n u d m p a:Int):SpB (w.alloc (.cells #[.int .i64 n,.int .i64 u,.int .i64 d,.int .i64 m,.int .i64 p,.int .i64 a] 57)) w.heap.size n u d m p a:=heap_alloc_new w _
def SpT (w:World) (g:Nat) (xs:List Nat) (a:Int):Prop:=SpB w g (cn 5 xs:Nat) (cn 3 xs:Nat) (cn 4 xs:Nat) (cn 1 xs:Nat) (cn 2 xs:Nat) a
theorem cn_bd (k:Nat) (xs:List Nat) (n:Nat) (h:xs.length≤n) (hn:n≤65536):0≤((cn k xs:Nat):Int)∧((cn k xs:Nat):Int)≤65536:=by have:=cn_le k xs;omega
theorem But.set6 {a w:World}{g:Nat}(h:But g a w) (u0 u1 u2 u3 u4 u5:Value) :
 But g a ((((((w.setCell ⟨g,0,none⟩ u0).setCell ⟨g,1,none⟩ u1).setCell ⟨g,2,none⟩ u2).setCell ⟨g,3,none⟩ u3).setCell ⟨g,4,none⟩ u4).setCell ⟨g,5,none⟩ u5) :=
 ((((((h.set 0 u0).set 1 u1).set 2 u2).set 3 u3).set 4 u4).set 5 u5)
theorem cset {w:World}{b o:Nat}{u:Value}(h:w.cell? ⟨b,o,none⟩=some u) (v:Value):(w.setCell ⟨b,o,none⟩ v).cell? ⟨b,o,none⟩=some v:=by
 simp only [World.cell?] at h ⊢;simp only [World.setCell,Array.getElem?_modify]
 cases hb:w.heap[b]? with
 | none=>rw [hb] at h;simp at h
 | some ob =>
   rw [hb] at h
   cases ob <;> simp_all
   rename_i cs _ _
   by_cases hl:o<cs.size
   · simp [hl]
   · rw [Array.getElem?_eq_none (by omega)] at h;cases h
theorem csetm (w:World) (b o:Nat) (v:Value):(w.setCell ⟨b,o,none⟩ v).cell? ⟨b,o,none⟩=(w.cell? ⟨b,o,none⟩).map (fun _=>v):=by
 cases h:w.cell? ⟨b,o,none⟩ with
 | some u=>rw [cset h v];rfl
 | none =>
   simp only [World.cell?] at h ⊢;simp only [World.setCell,Array.getElem?_modify]
   cases hb:w.heap[b]? with
   | none=>simp
   | some ob =>
     rw [hb] at h
     cases ob <;> simp_all
open Go.RowKit
open Go.Proofs.YtmkmndlpjenemaaGreatDoor.B (f64bits f64frombits bw bcell)
attribute [local go_sem] f64bits f64frombits
def fin (xs:List Nat):List Nat:=xs.filter (fun x=>decide (kd x≤2))
theorem fin_append (xs ys:List Nat):fin (xs++ys)=fin xs++fin ys:=by simp [fin,List.filter_append]
theorem fin_le (xs:List Nat):(fin xs).length≤xs.length:=List.length_filter_le _ _
theorem fin_in (xs:List Nat) (i:Nat) (h:i<xs.length) (hk:kd (xs.getD i 0)≤2):fin (xs.take (i+1))=fin (xs.take i)++[xs.getD i 0]:=by
 rw [take_succ' xs i h,fin_append];simp [fin];simpa [List.getD_eq_getElem?_getD] using hk
theorem fin_out (xs:List Nat) (i:Nat) (h:i<xs.length) (hk:¬ kd (xs.getD i 0)≤2):fin (xs.take (i+1))=fin (xs.take i):=by
 rw [take_succ' xs i h,fin_append];simp [fin];simpa [List.getD_eq_getElem?_getD] using hk
def siftE (a b:Int) (xs:List Nat):Int:=if may a b=false then 1 else if 65536<xs.length then 2 else rf (cn 5 xs:Nat) (cn 3 xs:Nat) (cn 4 xs:Nat) a b
def siftL (a b:Int) (xs:List Nat):List Nat:=if siftE a b xs=0 then fin xs else []
def siftS (a b:Int) (xs:List Nat):Value:=if siftE a b xs=0 then .agg #[.int .i64 (cn 5 xs:Nat),.int .i64 (cn 3 xs:Nat),.int .i64 (cn 4 xs:Nat),.int .i64 (cn 1 xs:Nat),.int .i64 (cn 2 xs:Nat),.int .i64 (xs.length:Nat)] else .agg #[.int .i64 0,.int .i64 0,.int .i64 0,.int .i64 0,.int .i64 0,.int .i64 0]
def SiftAns (w:World) (a b:Int) (xs:List Nat) (r:Ending) (w':World):Prop:=∃ v,r=.returned (.tuple #[v,siftS a b xs,.int .i64 (siftE a b xs)])∧Lt w.heap.size w' v (siftL a b xs)∧Below w.heap.size w w'
theorem SiftAns.no {w w':World}{a b:Int}{xs:List Nat}(e:Int) (he:siftE a b xs=e) (h0:e≠0) (hb:Below w.heap.size w w'):SiftAns w a b xs (.returned (.tuple #[.slice none 0 0,.agg #[.int .i64 0,.int .i64 0,.int .i64 0,.int .i64 0,.int .i64 0,.int .i64 0],.int .i64 e])) w':=by
 subst he;refine ⟨.slice none 0 0,?_,?_,hb⟩
 · unfold siftS;rw [if_neg h0]
 · unfold siftL;rw [if_neg h0];exact Lt.nil _ _
theorem SiftAns.yes {w w':World}{a b:Int}{xs:List Nat}{v:Value}(he:siftE a b xs=0) (hv:Rw w.heap.size w' v (fin xs).length ((fin xs).map U)) (hb:Below w.heap.size w w') :
 SiftAns w a b xs (.returned (.tuple #[v,.agg #[.int .i64 (cn 5 xs:Nat),.int .i64 (cn 3 xs:Nat),.int .i64 (cn 4 xs:Nat),.int .i64 (cn 1 xs:Nat),.int .i64 (cn 2 xs:Nat),.int .i64 (xs.length:Nat)],.int .i64 0])) w':=by
 refine ⟨v,?_,?_,hb⟩
 · rw [he];unfold siftS;rw [if_pos he]
 · unfold siftL;rw [if_pos he];exact hv
theorem Rw.below {lo:Nat}{w w':World}{v:Value}{n:Nat}{ys:List Value}(h:Rw lo w v n ys) (hb:Below w.heap.size w w'):Rw lo w' v n ys :=
 Keep.row h (Keep.below hb)
theorem Rw.but {lo g:Nat}{w w':World}{v:Value}{n:Nat}{ys:List Value}(h:Rw lo w v n ys) (hb:But g w w') {cur:Array Value}{e:TypeId}(he:e≠22) (hg:w.heap[g]?=some (.cells cur e (0,0))):Rw lo w' v n ys:=by
 refine row_other h fun k hk=>?_
 rcases h.2 with ⟨rfl,_⟩|⟨g2,cap,c2,rfl,_,hg2,_⟩
 · cases hk
 · cases hk
   refine hb.block _ (Array.getElem?_eq_some_iff.1 hg2).1 (fun e2=>?_)
   subst e2;rw [hg] at hg2
   cases hg2
   exact he rfl
theorem Rw.mono {lo lo':Nat}{w:World}{v:Value}{n:Nat}{ys:List Value}(h:Rw lo w v n ys) (hl:lo'≤lo):Rw lo' w v n ys:=by
 refine ⟨h.1,?_⟩
 rcases h.2 with hn|⟨g,cap,cur,rfl,hlo,rest⟩
 · exact .inl hn
 · exact .inr ⟨g,cap,cur,rfl,by omega,rest⟩
theorem Rw.low {lo:Nat}{w:World}{v:Value}{n:Nat}{ys:List Value}(h:Rw lo w v n ys):∀ b,v.ownBlock=some b→lo≤b:=by
 intro b hb
 rcases h.2 with ⟨rfl,_⟩|⟨g,cap,cur,rfl,hlo,_⟩
 · cases hb
 · cases hb;exact hlo
theorem make_room (n:Nat) (hn:n≤65536) (w:World) :
 (Instr.makeSlice 24 (.int .i64 0) (.int .i64 (n:Nat))).run Tryz.prog w=.ok (.slice (some ⟨w.heap.size,0,none⟩) 0 n) (w.alloc (.cells (madeCells #[.float .f64 0] n) 22)):=by
 obtain ⟨i0,hi,hz0,hz1,hz2⟩:=info_parts Tryz.info22;have hr:=run_make (P:=Tryz.prog) w 24 22 i0 (.float .f64 0) Tryz.underlying24 hi hz0 .i64 .i64 0 (n:Int) (Int.le_refl _) (by omega) (by rw [hz2];omega) (by omega)
 rw [hz1,Nat.mul_one] at hr;simp only [Int.toNat_natCast,Int.toNat_zero] at hr;exact hr
theorem row_made (lo:Nat) (w:World) (n:Nat) (hn:n≤65536) (hlo:lo≤w.heap.size):Rw lo (w.alloc (.cells (madeCells #[.float .f64 0] n) 22)) (.slice (some ⟨w.heap.size,0,none⟩) 0 n) 0 []:=by
 refine ⟨rfl,.inr ⟨w.heap.size,n,madeCells #[.float .f64 0] n,rfl,hlo,heap_alloc_new w _,by omega,by unfold maxLen;omega,?_,?_⟩⟩
 · have:=congrArg List.length (toList_madeCells_one (.float .f64 0) n)
   simpa using this
 · simp
theorem push (lo:Nat) (w:World) (v:Value) (ys:List Nat) (x:Nat) (hrow:Rw lo w v ys.length (ys.map U)) (hn:ys.length≤65536) (hlo:lo≤w.heap.size) :
 ∃ v' w',(Builtin.append_ #[24,24] 24 #[v,.slice (some ⟨w.heap.size,0,none⟩) 1 1]).run Tryz.prog (w.alloc (.cells #[.float .f64 x] 22))=.ok v' w'∧Rw lo w' v' (ys++[x]).length ((ys++[x]).map U) ∧
   Below lo w w'∧(∀ (g:Nat) (cur:Array Value) (e:TypeId),e≠22→w.heap[g]?=some (.cells cur e (0,0))→w'.heap[g]?=some (.cells cur e (0,0)))∧w.heap.size≤w'.heap.size:=by
 obtain ⟨v',w',h1,h2,h3,_,_⟩:=append_word (w.alloc (.cells #[.float .f64 x] 22)) lo v ys.length (ys.map U) (.float .f64 x) w.heap.size 24 (hrow.alloc _) (by unfold World.cell?;simp only [heap_alloc_new];rfl) rfl (by omega) (by simp;omega)
 refine ⟨v',w',h1,by simpa [U] using h2,((Below.refl lo w).alloc hlo _).grown h3 (by simp;omega) hrow.low,?_,by have:=h3.size;simp at this;omega⟩
 intro g cur e he hg;have hgl:=(Array.getElem?_eq_some_iff.1 hg).1;rw [h3.block g (by simp;omega) (fun e2=>?_),Below.heap_alloc _ _ _ hgl]
 · exact hg
 · rcases hrow.2 with ⟨rfl,_⟩ | ⟨g2,cap,c2,rfl,_,hg2,_⟩
   · cases e2
   · cases e2
     rw [hg] at hg2
     cases hg2
     exact he rfl
structure SI (lo sb:Nat) (W1:World) (xs:List Nat) (i:Nat) (a:Int) (v:Value) (wr:World):Prop where
 row:Rw lo wr v (fin (xs.take i)).length ((fin (xs.take i)).map U)
 sp:SpT wr sb (xs.take i) a
 bel:Below lo W1 wr
 size:W1.heap.size≤wr.heap.size
theorem SI.kind {lo sb:Nat}{W1:World}{xs:List Nat}{i:Nat}{a:Int}{v:Value}{wr w1:World}(h:SI lo sb W1 xs i a v wr) (hb:Below wr.heap.size wr w1) (hlo:lo≤wr.heap.size):SI lo sb W1 xs i a v w1 :=
 ⟨h.row.below hb,SpB.below h.sp hb (SpB.lt h.sp),h.bel.trans (hb.mono hlo),Nat.le_trans h.size hb.size⟩
theorem SI.out {lo sb:Nat}{W1:World}{xs:List Nat}{i:Nat}{a:Int}{v:Value}{wr w2:World}(h:SI lo sb W1 xs i a v wr) (hi:i<xs.length) (hs:SpT w2 sb (xs.take (i+1)) a) (hb:But sb wr w2) (hlo:lo≤sb) (hl:lo≤wr.heap.size) (hk:¬ kd (xs.getD i 0)≤2):SI lo sb W1 xs (i+1) a v w2 :=
 ⟨by rw [fin_out xs i hi hk];exact h.row.but hb (by decide) h.sp,hs,But.below h.bel hb hl hlo,Nat.le_trans h.size hb.size⟩
theorem SI.row2 {lo sb:Nat}{W1:World}{xs:List Nat}{i:Nat}{a:Int}{v:Value}{wr w2:World}(h:SI lo sb W1 xs i a v wr) (hb:But sb wr w2):Rw lo w2 v (fin (xs.take i)).length ((fin (xs.take i)).map U):=h.row.but hb (by decide) h.sp
theorem SpB.keep {w w':World}{g:Nat}{n u d m p a:Int}(h:SpB w g n u d m p a) (hk:∀ (g:Nat) (cur:Array Value) (e:TypeId),e≠22→w.heap[g]?=some (.cells cur e (0,0))→w'.heap[g]?=some (.cells cur e (0,0))):SpB w' g n u d m p a :=
 hk _ _ _ (by decide) h
theorem SI.into {lo sb:Nat}{W1:World}{xs:List Nat}{i:Nat}{a:Int}{v v':Value}{wr w2 w3:World}(h:SI lo sb W1 xs i a v wr) (hi:i<xs.length) (hs:SpT w2 sb (xs.take (i+1)) a) (hb:But sb wr w2) (hlo:lo≤sb) (hl:lo≤wr.heap.size) (hk:kd (xs.getD i 0)≤2)
 (hrow:Rw lo w3 v' (fin (xs.take i)++[xs.getD i 0]).length ((fin (xs.take i)++[xs.getD i 0]).map U)) (hb3:Below lo w2 w3) (hkeep:∀ (g:Nat) (cur:Array Value) (e:TypeId),e≠22→w2.heap[g]?=some (.cells cur e (0,0))→w3.heap[g]?=some (.cells cur e (0,0))) (hsz:w2.heap.size≤w3.heap.size):SI lo sb W1 xs (i+1) a v' w3 :=
 ⟨by rw [fin_in xs i hi hk];exact hrow,SpB.keep hs hkeep,(But.below h.bel hb hl hlo).trans hb3,Nat.le_trans (Nat.le_trans h.size hb.size) hsz⟩
theorem kp_one (x:Nat) (n u d m p:Nat):(if kp (kd x)=0 then ((n:Nat):Int)+1 else n)=((n+one 5 x:Nat):Int)∧(if kp (kd x)=1 then ((u:Nat):Int)+1 else u)=((u+one 3 x:Nat):Int)∧(if kp (kd x)=2 then ((d:Nat):Int)+1 else d)=((d+one 4 x:Nat):Int) ∧
 (if kp (kd x)=3 then ((m:Nat):Int)+1 else m)=((m+one 1 x:Nat):Int)∧(if kp (kd x)=4 then ((p:Nat):Int)+1 else p)=((p+one 2 x:Nat):Int):=by
 have hk:=kd_le x;unfold one;generalize kd x=k at hk;obtain rfl|rfl|rfl|rfl|rfl|rfl:k=0∨k=1∨k=2∨k=3∨k=4∨k=5:=by omega
 all_goals simp [kp]
theorem kp_ge (x:Nat):3≤kp (kd x)↔kd x≤2:=by
 have hk:=kd_le x;generalize kd x=k at hk;obtain rfl|rfl|rfl|rfl|rfl|rfl:k=0∨k=1∨k=2∨k=3∨k=4∨k=5:=by omega
 all_goals simp [kp]
theorem kp_le (x:Nat):kp (kd x)≤5:=by unfold kp;(repeat' split) <;> omega
theorem SpT.counted {w w':World}{sb:Nat}{xs:List Nat}{i:Nat}{a:Int}(hi:i<xs.length)
 (h:SpB w' sb (if kp (kd (xs.getD i 0))=0 then ((cn 5 (xs.take i):Nat):Int)+1 else ((cn 5 (xs.take i):Nat):Int)) (if kp (kd (xs.getD i 0))=1 then ((cn 3 (xs.take i):Nat):Int)+1 else ((cn 3 (xs.take i):Nat):Int)) (if kp (kd (xs.getD i 0))=2 then ((cn 4 (xs.take i):Nat):Int)+1 else ((cn 4 (xs.take i):Nat):Int)) (if kp (kd (xs.getD i 0))=3 then ((cn 1 (xs.take i):Nat):Int)+1 else ((cn 1 (xs.take i):Nat):Int)) (if kp (kd (xs.getD i 0))=4 then ((cn 2 (xs.take i):Nat):Int)+1 else ((cn 2 (xs.take i):Nat):Int)) a) :
 SpT w' sb (xs.take (i+1)) a:=by
 obtain ⟨h1,h2,h3,h4,h5⟩:=kp_one (xs.getD i 0) (cn 5 (xs.take i)) (cn 3 (xs.take i)) (cn 4 (xs.take i)) (cn 1 (xs.take i)) (cn 2 (xs.take i));rw [h1,h2,h3,h4,h5] at h;unfold SpT;rw [cn_succ 5 xs i hi,cn_succ 3 xs i hi,cn_succ 4 xs i hi,cn_succ 1 xs i hi,cn_succ 2 xs i hi];exact h
end Ps
namespace Ps
open Go.RowKit
open Go.Proofs.YtmkmndlpjenemaaGreatDoor.B (f64bits f64frombits bw bcell)
attribute [local go_sem] f64bits f64frombits
theorem Sift_arg (xs:List Nat) (ao:Option Addr) (n cap:Nat) (a b:Int) (w:World) (hm:may a b=false) :
 Calls Tryz.prog 28 #[.slice ao n cap,.agg #[.int .i64 a,.int .i64 b]] w (SiftAns w a b xs):=by
 have H:=hid (May_any a b);rw [hm] at H;have HE:Aside (siftE a b xs=1):=by unfold siftE;rw [hm];rfl
 clear hm;go_enter Tryz.func28,Tryz.ntmps28
 go_wp2_with fail
 refine (H.out _).mono ?_;rintro r w1 ⟨rfl,hb⟩;have hsz:=hb.size;simp at hsz;obtain ⟨hc,hf⟩:=bcell hb;have HB:=qsd hb;clear hb;go_wp2;refine bodyPost_ret (v:=.tuple #[.slice none 0 0,.agg #[.int .i64 0,.int .i64 0,.int .i64 0,.int .i64 0,.int .i64 0,.int .i64 0],.int .i64 1]) (by simp [results,Tryz.results28,go_sem,csetm,hc]) rfl (SiftAns.no 1 HE.out (by decide) ?_)
 exact But.below ((((Below.refl _ w).alloc (Nat.le_refl _) _).alloc (by simp) _).trans (HB.out.mono (by simp;omega))) (But.set6 (But.refl (w.heap.size+1) _) _ _ _ _ _ _) (by omega) (by omega)
theorem Sift_long (xs:List Nat) (ao:Option Addr) (n cap:Nat) (a b:Int) (w:World) (hn:n=xs.length) (hm:may a b=true) (hl:65536<n) (hn2:n≤35184372088832) :
 Calls Tryz.prog 28 #[.slice ao n cap,.agg #[.int .i64 a,.int .i64 b]] w (SiftAns w a b xs):=by
 have H:=hid (May_any a b);rw [hm] at H;have HE:Aside (siftE a b xs=2):=by unfold siftE;rw [if_neg (by rw [hm];decide),if_pos (by omega),Aside]
 clear hm hn;go_enter Tryz.func28,Tryz.ntmps28
 go_wp2_with fail
 refine (H.out _).mono ?_;rintro r w1 ⟨rfl,hb⟩;have hsz:=hb.size;simp at hsz;obtain ⟨hc,hf⟩:=bcell hb;have HB:=qsd hb;clear hb;go_wp2;refine bodyPost_ret (v:=.tuple #[.slice none 0 0,.agg #[.int .i64 0,.int .i64 0,.int .i64 0,.int .i64 0,.int .i64 0,.int .i64 0],.int .i64 2]) (by simp [results,Tryz.results28,go_sem,csetm,hc]) rfl (SiftAns.no 2 HE.out (by decide) ?_)
 exact But.below ((((Below.refl _ w).alloc (Nat.le_refl _) _).alloc (by simp) _).trans (HB.out.mono (by simp;omega))) (But.set6 (But.refl (w.heap.size+1) _) _ _ _ _ _ _) (by omega) (by omega)
set_option maxRecDepth 100000 in
theorem Sift_rest (xs:List Nat) (ao:Option Addr) (n cap B:Nat) (a b:Int) (w:World) (hn:n=xs.length) (hm:may a b=true) (hl:n≤65536) (hx:Wf xs) (hR:Rd B w ao xs) (hB:B≤w.heap.size) :
 Calls Tryz.prog 28 #[.slice ao n cap,.agg #[.int .i64 a,.int .i64 b]] w (SiftAns w a b xs):=by
 have H:=hid (May_any a b);rw [hm] at H;have HE:Aside (siftE a b xs=rf (cn 5 xs:Nat) (cn 3 xs:Nat) (cn 4 xs:Nat) a b):=by unfold siftE;rw [if_neg (by rw [hm];decide),if_neg (by omega),Aside]
 have hmk:=make_room n hl;have HX:=(qsd (ai hn (ai hx (ai hR hB))));clear hm hn hx hR hB;go_enter Tryz.func28,Tryz.ntmps28
 go_wp2_with fail
 refine (H.out _).mono ?_;rintro r w1 ⟨rfl,hb⟩;have hsz:=hb.size;simp at hsz;obtain ⟨hc,hf⟩:=bcell hb;have HB:=qsd hb
 have HZ:Aside (SpB w1 (w.heap.size+1) 0 0 0 0 0 0):=by
  have h1:=SpB.made (w.alloc (.cells #[.int .i64 a,.int .i64 b] 29)) 0 0 0 0 0 0;simp only [World.size_alloc] at h1;exact h1.below hb (by simp)
 clear hb;go_wp2
 go_loopg [7,28] n (fun gk lv cv wr=>∃ (i:Nat),gk+i=n∧cv=.int .i64 (i:Nat)∧Aside (SI w1.heap.size (w1.heap.size+1) w1 xs i (n:Nat) lv wr))
 case atStart =>
  refine ⟨0,by omega,rfl,?_⟩
  have h1:=(row_made w1.heap.size w1 n hl (Nat.le_refl _)).alloc (.cells #[.int .i64 0,.int .i64 0,.int .i64 0,.int .i64 0,.int .i64 0,.int .i64 (n:Nat)] 57);have h2:=SpB.made (w1.alloc (.cells (madeCells #[.float .f64 0] n) 22)) 0 0 0 0 0 (n:Nat);simp only [World.size_alloc] at h2;exact ⟨h1,h2,((Below.refl _ _).alloc (Nat.le_refl _) _).alloc (by simp) _,by simp;omega⟩
 case round =>
  obtain ⟨i,hi,rfl,HA⟩:=hrel
  by_cases hin:i=n
  · obtain rfl:gk=0:=by omega
    obtain ⟨hn,hx,hR,hB⟩:=HX.out;have hS:=HA.out;have e:xs.take i=xs:=List.take_of_length_le (by omega)
    have hT:=hS.sp;unfold SpT at hT;rw [e] at hT;have hc0:=hT.c0;have hc1:=hT.c1;have hc2:=hT.c2;have hc3:=hT.c3;have hc4:=hT.c4;have hc5:=hT.c5;have hlt:=hT.lt;have hcb:∀ b o,b<w1.heap.size→wr.cell? ⟨b,o,none⟩=w1.cell? ⟨b,o,none⟩:=fun b o h=>hS.bel.cell (p:=⟨b,o,none⟩) h
    have hp0:wr.cell? ⟨w.heap.size,0,none⟩=some (.int .i64 a):=by rw [hcb _ _ (by omega),hc _ _ (by simp;omega)];simp [go_sem]
    have hp1:wr.cell? ⟨w.heap.size,1,none⟩=some (.int .i64 b):=by rw [hcb _ _ (by omega),hc _ _ (by simp;omega)];simp [go_sem]
    have hZ:SpB wr (w.heap.size+1) 0 0 0 0 0 0:=HZ.out.below hS.bel (by omega)
    have hbd:=fun k=>cn_bd k xs n (by omega) hl
    have HRF:=hid (fun w=>refusal_any (cn 5 xs:Nat) (cn 3 xs:Nat) (cn 4 xs:Nat) (cn 1 xs:Nat) (cn 2 xs:Nat) (n:Nat) a b w (hbd 3) (hbd 4))
    obtain ⟨ee,hee⟩:∃ ee,rf (cn 5 xs:Nat) (cn 3 xs:Nat) (cn 4 xs:Nat) a b=ee:=⟨_,rfl⟩;have HEE:Aside (siftE a b xs=ee):=by rw [Aside,HE.out,hee]
    rw [hee] at HRF;obtain ⟨c5,e5⟩:∃ c,cn 5 xs=c:=⟨_,rfl⟩;obtain ⟨c3,e3⟩:∃ c,cn 3 xs=c:=⟨_,rfl⟩;obtain ⟨c4,e4⟩:∃ c,cn 4 xs=c:=⟨_,rfl⟩;obtain ⟨c1,e1⟩:∃ c,cn 1 xs=c:=⟨_,rfl⟩;obtain ⟨c2,e2⟩:∃ c,cn 2 xs=c:=⟨_,rfl⟩;rw [e5,e3,e4,e1,e2] at hT HRF;rw [e5] at hc0;rw [e3] at hc1;rw [e4] at hc2;rw [e1] at hc3;rw [e2] at hc4;have HY:=(qsd (ai hZ (ai hT (ai e (ai e1 (ai e2 (ai e3 (ai e4 e5))))))));have hBs:=hS.size;clear hn hx hR hB hS hT e hcb hbd hee e1 e2 e3 e4 e5 hZ;subst hin
    go_wp2_with fail
    refine (HRF.out _).mono ?_;rintro r w5 ⟨rfl,hb5⟩;obtain ⟨hZ,hT,e,e1,e2,e3,e4,e5⟩:=HY.out;have hZ5:=hZ.below hb5 hZ.lt;have hT5:=hT.below hb5 hT.lt;have hr5:=HA.out.row.below hb5;have hZf:=hZ5.frozen;have hz0:=hZ5.c0;have hz1:=hZ5.c1;have hz2:=hZ5.c2;have hz3:=hZ5.c3;have hz4:=hZ5.c4;have hz5:=hZ5.c5;have ht0:=hT5.c0;have ht1:=hT5.c1;have ht2:=hT5.c2;have ht3:=hT5.c3;have ht4:=hT5.c4;have ht5:=hT5.c5;have hzl:=hZ5.lt;have hbel5:Below w.heap.size w w5:=((((Below.refl _ w).alloc (Nat.le_refl _) _).alloc (by simp) _).trans (HB.out.mono (by simp;omega))).trans ((HA.out.bel.mono (by omega)).trans (hb5.mono (by omega)))
    have HV:=(qsd (ai hbel5 (ai hr5 (ai hZ5 (ai hT5 (ai e (ai e1 (ai e2 (ai e3 (ai e4 e5))))))))));clear hZ hT e e1 e2 e3 e4 e5 hb5 hZ5 hT5 hr5 hbel5 hc0 hc1 hc2 hc3 hc4 hc5 hp0 hp1 HY
    by_cases h0:ee=0
    · subst h0
      go_wp2
      go_region
      all_goals
       go_wp2;refine bodyPost_ret (v:=.tuple #[u7,.agg #[.int .i64 (c5:Nat),.int .i64 (c3:Nat),.int .i64 (c4:Nat),.int .i64 (c1:Nat),.int .i64 (c2:Nat),.int .i64 (i:Nat)],.int .i64 0]) (by simp [results,Tryz.results28,go_sem,csetm,hz0,hz1,hz2,hz3,hz4,hz5]) rfl ?_
       obtain ⟨hbel5,hr5,hZ5,hT5,e,e1,e2,e3,e4,e5⟩:=HV.out;have hbut:But (w.heap.size+1) w5 _:=(But.set6 (But.refl (w.heap.size+1) w5) (.int .i64 (c5:Nat)) (.int .i64 (c3:Nat)) (.int .i64 (c4:Nat)) (.int .i64 (c1:Nat)) (.int .i64 (c2:Nat)) (.int .i64 (i:Nat))).drew;have hR6:=Rw.mono (Rw.but hr5 hbut (by decide) hZ5) (show w.heap.size≤w1.heap.size by omega)
       rw [e] at hR6;have hans:=SiftAns.yes HEE.out hR6 (But.below hbel5 hbut (by omega) (by omega))
       rw [←HX.out.1,e1,e2,e3,e4,e5] at hans;exact hans
    · have h0':(ee==0)=false:=by rw [beq_eq_false_iff_ne];exact h0
      go_wp2;refine bodyPost_ret (v:=.tuple #[.slice none 0 0,.agg #[.int .i64 0,.int .i64 0,.int .i64 0,.int .i64 0,.int .i64 0,.int .i64 0],.int .i64 ee]) (by simp [results,Tryz.results28,go_sem,csetm,hz0,hz1,hz2,hz3,hz4,hz5]) rfl (SiftAns.no ee HEE.out h0 ?_)
      exact But.below HV.out.1 (But.set6 (But.refl (w.heap.size+1) _) _ _ _ _ _ _) (by omega) (by omega)
  · have hil:i<n:=by omega
    obtain ⟨hn,hx,hR,hB⟩:=HX.out;have hS:=HA.out;have hbw:Below w.heap.size w wr:=((((Below.refl _ w).alloc (Nat.le_refl _) _).alloc (by simp) _).trans (HB.out.mono (by simp;omega))).trans (hS.bel.mono (by omega))
    have hRw:Rd w.heap.size wr ao xs:=(hR.mono hB).below hbw;obtain ⟨bb,off,hlt2,rfl,hcell⟩:=hRw (by intro e;rw [e] at hn;simp at hn;omega)
    have hxc:=hcell i (by omega)
    have hxw:=hx.get i;obtain ⟨x,hxx⟩:∃ x,xs.getD i 0=x:=⟨_,rfl⟩;rw [hxx] at hxc hxw;have HK:=hid (kind_any x hxw);have hk5:=kp_le x;have hk3:=kp_ge x;obtain ⟨kk,hkk⟩:∃ kk,kp (kd x)=kk:=⟨_,rfl⟩;rw [hkk] at HK hk5 hk3;have l1:(xs.take i).length≤65536:=by rw [List.length_take];omega
    have hbd:=fun k=>cn_bd k (xs.take i) 65536 l1 (Nat.le_refl _)
    have hwl:=hS.size;have HY:=(qsd (ai hxx (ai hkk (ai hk3 (ai hbd (ai hn hlt2))))));clear hn hx hR hB hS hbw hRw hcell hxx hkk hk3 hbd l1 hin
    go_wp2_with fail
    refine (HK.out _).mono ?_;rintro r w2 ⟨rfl,hb2⟩;have HS2:=qsd (SI.kind HA.out hb2 hwl);have hxc2:w2.cell? ⟨bb,off+i,none⟩=some (.float .f64 x):=by rw [hb2.cell (p:=⟨bb,off+i,none⟩) (by have:=HY.out.2.2.2.2.2;simp;omega)];exact hxc
    have hsz2:=hb2.size;have HC:=hid (count_any kk (w1.heap.size+1) _ _ _ _ _ _ w2 hk5 HS2.out.sp (HY.out.2.2.2.1 5) (HY.out.2.2.2.1 3) (HY.out.2.2.2.1 4) (HY.out.2.2.2.1 1) (HY.out.2.2.2.1 2));clear hb2 hxc
    go_wp2_with fail
    refine Calls.mono HC.out ?_;rintro r w3 ⟨rfl,hs3,hbut3⟩;obtain ⟨hxx,hkk,hk3,hbd,hn,hlt2⟩:=HY.out;have hs3':SpT w3 (w1.heap.size+1) (xs.take (i+1)) (n:Nat):=SpT.counted (w:=w2) (by omega) (by rw [hxx,hkk];exact hs3)
    have hsz3:=hbut3.size
    have hxc3:w3.cell? ⟨bb,off+i,none⟩=some (.float .f64 x):=by
     have h9:=(But.below (Below.refl w1.heap.size w2) hbut3 (by omega) (by omega)).cell (p:=⟨bb,off+i,none⟩) (by simp;omega)
     rw [h9];exact hxc2
    by_cases hk2:kd x≤2
    · have hge:(3:Int)≤(kk:Int):=by have:=hk3.2 hk2;omega
      obtain ⟨v',w4,hap,hrow4,hb4,hkeep4,hsz4⟩:=push w1.heap.size w3 u7 (fin (xs.take i)) x (SI.row2 HS2.out hbut3) (by have h1:=fin_le (xs.take i);rw [List.length_take] at h1;omega) (by omega)
      have HI:=qsd (SI.into (v':=v') HS2.out (by omega) hs3' hbut3 (by omega) (by omega) (by rw [hxx];exact hk2) (by rw [hxx];exact hrow4) hb4 hkeep4 hsz4)
      have HAP:=hid hap;clear hap hrow4 hb4 hkeep4 hsz4 hs3 hs3' hbut3 hxx hkk hk3 hbd hn hlt2 hk2 hxc2
      go_wp2_with (at_builtin;refine wpList_append_run2 rfl (.tmp 40) (.tmp 45) 24 rfl _ _ rfl rfl _ _ HAP.out ?_)
      go_roundg (n-(i+1))
      case measure=>omega
      case rel=>exact ⟨i+1,by omega,by first | go_num | (congr 1;omega),HI⟩
    · have hge:decide ((3:Int)≤(kk:Int))=false:=decide_eq_false (fun h=>hk2 (hk3.1 (by omega)))
      have HI:=qsd (SI.out HS2.out (by omega) hs3' hbut3 (by omega) (by omega) (by rw [hxx];exact hk2))
      clear hs3 hs3' hbut3 hxx hkk hk3 hbd hn hlt2 hk2 hxc2;go_wp2
      go_roundg (n-(i+1))
      case measure=>omega
      case rel=>exact ⟨i+1,by omega,by first | go_num | (congr 1;omega),HI⟩
theorem Sift_any (xs:List Nat) (ao:Option Addr) (n cap B:Nat) (a b:Int) (w:World) (hn:n=xs.length) (hm:n≤35184372088832) (hx:Wf xs) (hR:Rd B w ao xs) (hB:B≤w.heap.size) :
 Calls Tryz.prog 28 #[.slice ao n cap,.agg #[.int .i64 a,.int .i64 b]] w (SiftAns w a b xs):=by
 rcases h:may a b with _|_
 · exact Sift_arg xs ao n cap a b w h
 · by_cases hl:65536<n
   · exact Sift_long xs ao n cap a b w hn h hl hm
   · exact Sift_rest xs ao n cap B a b w hn h (by omega) hx hR hB
end Ps
section
open Go.RowKit J
def kO13 (k:Nat):Nat:=if k=5 then 1 else if k=3 then 2 else if k=4 then 3 else if k=1 then 4 else if k=2 then 5 else 0
theorem m42:max (4:Int) 2=4:=by decide
theorem m32:max (3:Int) 2=3:=by decide
theorem m02:max (0:Int) 2=2:=by decide
theorem n42:min (4:Int) 2=2:=by decide
theorem n32:min (3:Int) 2=2:=by decide
theorem n02:min (0:Int) 2=0:=by decide
theorem pK_one13 {x:Nat}(hx:x<18446744073709551616):pK x 4607182418800017408=kO13 (kd x)∧(kd x≤2↔finW x):=by
 have c1:clW 4607182418800017408=2:=by decide +kernel
 have n1:ngW 4607182418800017408=false:=by decide +kernel
 have em:magW x=x%9223372036854775808:=rfl;have en:negW x=decide (9223372036854775808≤x):=rfl;unfold pK kO13;rw [c1,n1]
 rcases Nat.lt_trichotomy 9218868437227405312 (magW x) with h|h|h
 · have hk:kd x=5:=by unfold kd;rw [if_pos (by omega)]
   rw [cl_nan h,hk];refine ⟨by unfold pk;simp [m42,m32,m02,n42,n32,n02],?_⟩
   constructor
   · intro q;omega
   · intro q;exact absurd (show magW x<9218868437227405312 from q) (by omega)
 · obtain ⟨h1,h2⟩:=cl_inf h.symm
   rw [h1,h2];have hf:¬ finW x:=fun q=>absurd (show magW x<9218868437227405312 from q) (by omega)
   by_cases hs:9223372036854775808≤x
   · have hk:kd x=4:=by unfold kd;rw [if_neg (by omega),if_pos (by omega),if_pos (by omega)]
     rw [hk,en,decide_eq_true hs];refine ⟨by unfold pk;simp [m42,m32,m02,n42,n32,n02],?_⟩
     exact ⟨fun q=>by omega,fun q=>absurd q hf⟩
   · have hk:kd x=3:=by unfold kd;rw [if_neg (by omega),if_pos (by omega),if_neg (by omega)]
     rw [hk,en,decide_eq_false hs];refine ⟨by unfold pk;simp [m42,m32,m02,n42,n32,n02],?_⟩
     exact ⟨fun q=>by omega,fun q=>absurd q hf⟩
 · have fx:finW x:=h
   obtain ⟨p1,p2,p3,p4⟩:=fin_parts hx fx;rw [p1]
   by_cases h0:magW x=0
   · rw [h0,vK_zero] at p2
     have hfr:frW x=0:=by
      rcases Nat.mul_eq_zero.1 p2.symm with q|q
      · exact q
      · have:=Nat.two_pow_pos (xpW x+1074).toNat;omega
     have hc:clW x=0:=by
      rcases p4 with q|q
      · exact q.1
      · exact absurd hfr q.2
     rw [hc]
     by_cases hs:9223372036854775808≤x
     · have hk:kd x=1:=by unfold kd;rw [if_neg (by omega),if_neg (by omega),if_pos (by omega),if_pos (by omega)]
       rw [hk,en,decide_eq_true hs];exact ⟨by unfold pk;simp [m42,m32,m02,n42,n32,n02],fun _=>fx,fun _=>by omega⟩
     · have hk:kd x=2:=by unfold kd;rw [if_neg (by omega),if_neg (by omega),if_pos (by omega),if_neg (by omega)]
       rw [hk,en,decide_eq_false hs];exact ⟨by unfold pk;simp [m42,m32,m02,n42,n32,n02],fun _=>fx,fun _=>by omega⟩
   · have hk:kd x=0:=by unfold kd;rw [if_neg (by omega),if_neg (by omega),if_neg (by omega)]
     have hfr:frW x≠0:=by
      intro q;rw [q,Nat.zero_mul] at p2;have:=grid64.mono (show 0<magW x by omega)
      omega
     have hc:clW x=1∨clW x=2:=by
      rcases p4 with q|q
      · exact absurd q.2 hfr
      · exact q.1
     rw [hk];refine ⟨?_,fun _=>fx,fun _=>by omega⟩
     rcases hc with q|q
     · rw [q,show max (1:Int) 2=2 by decide,show min (1:Int) 2=1 by decide];unfold pk;simp
     · rw [q,show max (2:Int) 2=2 by decide,show min (2:Int) 2=2 by decide];unfold pk;simp
theorem kd5 (x:Nat):kd x≤5:=by unfold kd;(repeat' split) <;> omega
theorem cnt_fold13:∀ (xs:List Nat) (s:Sp),W64 xs→xs.foldl (fun s x=>s.cnt (pK x 4607182418800017408) 1) s=⟨s.n+Ps.cn 5 xs,s.u+Ps.cn 3 xs,s.d+Ps.cn 4 xs,s.m+Ps.cn 1 xs,s.p+Ps.cn 2 xs,s.a+xs.length⟩
 | [],s,_=>by simp [Ps.cn]
 | x::xs,s,h=>by
   rw [List.foldl_cons,cnt_fold13 xs _ (fun z hz=>h z (List.mem_cons_of_mem _ hz)),(pK_one13 (h x List.mem_cons_self)).1]
   have hk:=kd5 x;unfold Sp.cnt kO13 Ps.cn;simp only [List.countP_cons,List.length_cons];obtain q|q|q|q|q|q:kd x=0∨kd x=1∨kd x=2∨kd x=3∨kd x=4∨kd x=5:=by omega
   all_goals (rw [q];simp;(repeat' constructor) <;> omega)
theorem sS_cn {xs:List Nat}(h:W64 xs):sS xs=⟨(Ps.cn 5 xs:Nat),(Ps.cn 3 xs:Nat),(Ps.cn 4 xs:Nat),(Ps.cn 1 xs:Nat),(Ps.cn 2 xs:Nat),(xs.length:Nat)⟩:=by
 unfold sS;rw [cnt_fold13 xs _ h];simp
theorem vS_fold13:∀ (xs:List Nat) (v:Int),xs.foldl (fun v x=>v+pT x 4607182418800017408) v=v+vS xs
 | [],v=>by simp [vS]
 | x::xs,v=>by
   unfold vS;rw [List.foldl_cons,List.foldl_cons,vS_fold13 xs (v+_),vS_fold13 xs (0+_)];omega
theorem vS_cons (x:Nat) (xs:List Nat):vS (x::xs)=pT x 4607182418800017408+vS xs:=by
 have:=vS_fold13 xs (0+pT x 4607182418800017408);unfold vS at this ⊢;rw [List.foldl_cons,this];omega
theorem fin_W64 {xs:List Nat}(h:W64 xs):W64 (Ps.fin xs):=fun x hx=>h x (List.mem_filter.1 hx).1
theorem fin_id {xs:List Nat}(h:W64 xs) (hf:∀ x ∈ xs,finW x):Ps.fin xs=xs:=List.filter_eq_self.2 fun x hx=>by simpa using (pK_one13 (h x hx)).2.2 (hf x hx)
theorem fin_count:∀ {xs:List Nat},((Ps.fin xs).length:Int)=(xs.length:Int)-(Ps.cn 5 xs:Nat)-(Ps.cn 3 xs:Nat)-(Ps.cn 4 xs:Nat)
 | []=>rfl
 | x::xs=>by
   have ih:=fin_count (xs:=xs);have hk:=kd5 x;unfold Ps.fin Ps.cn at ih ⊢;simp only [List.countP_cons,List.length_cons,List.filter_cons];obtain q|q|q|q|q|q:kd x=0∨kd x=1∨kd x=2∨kd x=3∨kd x=4∨kd x=5:=by omega
   all_goals (rw [q];simp;omega)
def sfE (pa pb:Int) (xs:List Nat):Int:=if may pa pb=false then 1 else if 65536<xs.length then 2 else Ps.rf (sS xs).n (sS xs).u (sS xs).d pa pb
def agg0:Value:=.agg #[.int .i64 0,.int .i64 0,.int .i64 0,.int .i64 0,.int .i64 0,.int .i64 0]
theorem ps_rd {B:Nat}{w:World}{a:Option Addr}{xs:List Nat}(h:Fs B w a xs):Ps.Rd B w a xs:=h
theorem lt_fs {lo:Nat}{w:World}{v:Value}{xs:List Nat}(h:Ps.Lt lo w v xs):∃ a c,v=.slice a xs.length c∧Fs w.heap.size w a xs∧∀ b o p,a=some ⟨b,o,p⟩→lo≤b:=by
 have h2:=h.2;unfold Ps.Lt at h
 rcases h2 with ⟨rfl,h0⟩|⟨g,cap,cur,rfl,hlo,hg,rest⟩
 · refine ⟨none,0,by rw [h0],fun hne=>absurd (List.eq_nil_of_length_eq_zero h0) hne,fun b o p h=>by cases h⟩
 · refine ⟨_,cap,rfl,fun _=>⟨g,0,(Array.getElem?_eq_some_iff.1 hg).1,rfl,fun i hi=>?_⟩,fun b o p h=>by cases h;exact hlo⟩
   have h1:=h.cells (g:=g) (by simp [Value.ownBlock]) i (.float .f64 (xs.getD i 0)) (by simp [Ps.U,hi])
   have e:(⟨g,0,none⟩:Addr).add i=⟨g,0+i,none⟩:=by unfold Addr.add;split <;> simp_all
   rw [e] at h1;exact h1
theorem Sift13 (xs:List Nat) (a:Option Addr) (n c:Nat) (pa pb:Int) (w:World) (hn:n=xs.length) (hm:n≤35184372088832) (hF:Fs w.heap.size w a xs) (hW:W64 xs) :
 Calls Tryz.prog 28 #[.slice a n c,.agg #[.int .i64 pa,.int .i64 pb]] w fun r w' =>
  ((sfE pa pb xs≠0∧∃ a' c',r=.returned (.tuple #[.slice a' 0 c',agg0,.int .i64 (sfE pa pb xs)])) ∨
   (sfE pa pb xs=0∧∃ a' c',r=.returned (.tuple #[.slice a' (Ps.fin xs).length c',(sS xs).agg,.int .i64 0])∧Fs w'.heap.size w' a' (Ps.fin xs)∧∀ b o p,a'=some ⟨b,o,p⟩→w.heap.size≤b))∧Below w.heap.size w w':=by
 have e1:Ps.siftE pa pb xs=sfE pa pb xs:=by unfold Ps.siftE sfE;rw [sS_cn hW]
 refine (Ps.Sift_any xs a n c w.heap.size pa pb w hn hm hW (ps_rd hF) (Nat.le_refl _)).mono ?_;rintro r w' ⟨v,rfl,hL,hb⟩;refine ⟨?_,hb⟩;unfold Ps.siftS;unfold Ps.siftL at hL;rw [e1] at hL ⊢
 by_cases h0:sfE pa pb xs=0
 · rw [if_pos h0] at hL ⊢
   obtain ⟨a',c',rfl,hF',hlo⟩:=lt_fs hL;exact .inr ⟨h0,a',c',by rw [h0,sS_cn hW];rfl,hF',hlo⟩
 · rw [if_neg h0] at hL ⊢
   obtain ⟨a',c',rfl,_⟩:=lt_fs hL;exact .inl ⟨h0,a',c',rfl⟩
theorem sfE_len {pa pb:Int}{xs:List Nat}(h:sfE pa pb xs=0):xs.length≤65536∧may pa pb=true:=by
 unfold sfE at h
 cases hm:may pa pb with
 | false=>rw [hm] at h;simp at h
 | true =>
   rw [hm,if_neg (by decide)] at h
   by_cases hl:65536<xs.length
   · rw [if_pos hl] at h;exact absurd h (by decide)
   · exact ⟨by omega,rfl⟩
theorem Fs.but' {B:Nat}{w w':World}{ao:Option Addr}{xs:List Nat}{g:Nat}(h:Fs B w ao xs) (hb:But g w w') (hg:∀ b o p,ao=some ⟨b,o,p⟩→b≠g):Fs B w' ao xs:=by
 intro hne;obtain ⟨b,off,h1,h2,h3⟩:=h hne;have hbg:b≠g:=hg _ _ _ h2;refine ⟨b,off,h1,h2,fun i hi=>?_⟩
 have hc:=h3 i hi
 have hlt:b<w.heap.size:=by
  rcases Nat.lt_or_ge b w.heap.size with q|q
  · exact q
  · unfold World.cell? at hc
    simp [Array.getElem?_eq_none q] at hc
 rw [World.cell?_of_block (a:=⟨b,off+i,none⟩) (hb.block b hlt hbg)];exact hc
end
section
open Go.RowKit J
attribute [local go_sem] st_float
noncomputable def meanR (xs:List Nat) (mode pa pb:Int):Nat×Int :=
 if askE mode=0 then
  if sfE pa pb xs=0 then
   if (vd (snd (sS xs).n (sS xs).u (sS xs).d (sS xs).m (sS xs).p (sS xs).a&&may pa pb) (sS xs).n (sS xs).u (sS xs).d pa pb).2=true then ((vd (snd (sS xs).n (sS xs).u (sS xs).d (sS xs).m (sS xs).p (sS xs).a&&may pa pb) (sS xs).n (sS xs).u (sS xs).d pa pb).1,0)
   else (bsd (levR (Ps.fin xs) (sS xs) mode).2 (levR (Ps.fin xs) (sS xs) mode).1,(levR (Ps.fin xs) (sS xs) mode).2)
  else (0,sfE pa pb xs)
 else (0,askE mode)
theorem bsd_zero (e:Int):bsd e 0=0:=by unfold bsd;split <;> rfl
theorem Mean13 (xs:List Nat) (a:Option Addr) (n c:Nat) (mode pa pb:Int) (w:World) (hn:n=xs.length) (hF:Fs w.heap.size w a xs) (hW:W64 xs) (hT:Tab w) (hl:n≤35184372088832) (z:Nat×Int) (hz:meanR xs mode pa pb=z) :
 Calls Tryz.prog 7 #[.slice a n c,.int .i64 mode,.agg #[.int .i64 pa,.int .i64 pb]] w fun r w'=>r=.returned (.tuple #[.float .f64 z.1,.int .i64 z.2])∧Below w.heap.size w w':=by
 obtain ⟨X,E⟩:=z;simp only;have hmf:∀ (fn:Fn) (first cap:Array Value) (w:World),(Instr.makeFunc fn first cap).run Tryz.prog w=.ok (.func fn first cap) w:=fun _ _ _ _=>rfl
 have HA:=hid (fun u:World=>asked13 mode u)
 unfold meanR at hz;obtain ⟨ea,hea⟩:∃ e,askE mode=e:=⟨_,rfl⟩;rw [hea] at HA hz;obtain ⟨W,hWW⟩:∃ W,W=((w.alloc (Obj.cells #[.int .i64 pa,.int .i64 pb] 29)).alloc (Obj.cells #[.float .f64 0] 22)).alloc (Obj.cells #[.int .i64 0] 25):=⟨_,rfl⟩;obtain ⟨gp,hgp⟩:∃ g,g=w.heap.size:=⟨_,rfl⟩;obtain ⟨gx,hgx⟩:∃ g,g=w.heap.size+1:=⟨_,rfl⟩;obtain ⟨ge,hge⟩:∃ g,g=w.heap.size+2:=⟨_,rfl⟩
 have B0:Aside (Bl W gp 29 [.int .i64 pa,.int .i64 pb]∧Bl W gx 22 [.float .f64 0]∧Bl W ge 25 [.int .i64 0]∧Below w.heap.size w W∧W.heap.size=w.heap.size+3):=by
  rw [hWW,hgp,hgx,hge];have z1:=Bl.new (w.alloc (Obj.cells #[.int .i64 pa,.int .i64 pb] 29)) 22 [.float .f64 0];have z2:=Bl.new ((w.alloc (Obj.cells #[.int .i64 pa,.int .i64 pb] 29)).alloc (Obj.cells #[.float .f64 0] 22)) 25 [.int .i64 0];rw [World.size_alloc] at z1;rw [World.size_alloc,World.size_alloc] at z2;exact ⟨((Bl.new w 29 [_,_]).below (bel_alloc _ _) (by simp)).below (bel_alloc _ _) (by simp;omega),z1.below (bel_alloc _ _) (by simp),z2,((bel_alloc _ _).trans ((bel_alloc _ _).mono (by simp))).trans ((bel_alloc _ _).mono (by simp;omega)),by simp⟩
 have HG:Aside (gp=w.heap.size∧gx=w.heap.size+1∧ge=w.heap.size+2):=⟨hgp,hgx,hge⟩;have HWW:=qsd hWW;have HX:=qsd (ai hn (ai hF (ai hW (ai hT hl))));clear hn hF hW hT hl hWW hea hgp hgx hge;go_enter_defers Tryz.func7,Tryz.ntmps7
 go_wp2_with fail
 rw [←HWW.out]
 try rw [show w.heap.size+1+1=ge by have:=HG.out.2.2;omega]
 try rw [show w.heap.size+2=ge by have:=HG.out.2.2;omega]
 try rw [show w.heap.size+1=gx by have:=HG.out.2.1;omega]
 try rw [show w.heap.size=gp by have:=HG.out.1;omega]
 clear HWW;refine (HA.out _).mono ?_;rintro r v ⟨rfl,hv⟩;rw [hv];clear hv v;have c1:=B0.out.2.2.1.cell 0 _ rfl;have f1:=B0.out.2.2.1.frozen 0;have hne:=qsd (show ge≠gx by have:=HG.out.2;omega)
 have B1:Aside (Bl (W.setCell ⟨ge,0,none⟩ (.int .i64 ea)) gp 29 [.int .i64 pa,.int .i64 pb]∧Bl (W.setCell ⟨ge,0,none⟩ (.int .i64 ea)) gx 22 [.float .f64 0]∧Bl (W.setCell ⟨ge,0,none⟩ (.int .i64 ea)) ge 25 [.int .i64 ea]∧Below w.heap.size w (W.setCell ⟨ge,0,none⟩ (.int .i64 ea))):=by
  have hb:But ge W (W.setCell ⟨ge,0,none⟩ (.int .i64 ea)):=(But.refl _ _).set 0 _;exact ⟨B0.out.1.but hb (by have:=HG.out;omega),B0.out.2.1.but hb (by have:=HG.out;omega),B0.out.2.2.1.set 0 _,But.below B0.out.2.2.2.1 hb B0.out.2.2.2.1.size (by have:=HG.out;omega)⟩
 by_cases h0:ea=0
 · subst h0
   rw [if_pos rfl] at hz;obtain ⟨V,hV⟩:∃ V,V=W.setCell ⟨ge,0,none⟩ (.int .i64 0):=⟨_,rfl⟩;rw [←hV] at B1;have HV:=qsd hV;have hTV:Tab V:=HX.out.2.2.2.1.belows B1.out.2.2.2;have HS:=hid (Sift13 xs a n c pa pb V HX.out.1 HX.out.2.2.2.2 ((HX.out.2.1.below B1.out.2.2.2).mono B1.out.2.2.2.size) HX.out.2.2.1);obtain ⟨es,hes⟩:∃ e,sfE pa pb xs=e:=⟨_,rfl⟩;rw [hes] at HS hz;have HES:=qsd hes;obtain ⟨⟨sn,su,sd,sm,sp,sa⟩,hs⟩:∃ s,sS xs=s:=⟨_,rfl⟩;rw [hs] at HS hz;simp only [Sp.agg] at HS hz;obtain ⟨fl,hfl⟩:∃ f,Ps.fin xs=f:=⟨_,rfl⟩;rw [hfl] at HS hz;have HFL:=qsd hfl;clear hs hfl;have HTV:=qsd hTV;have p0:=B1.out.1.cell 0 _ rfl;have p1:=B1.out.1.cell 1 _ rfl;have q1:=B1.out.2.2.1.cell 0 _ rfl;have q2:=B1.out.2.2.1.frozen 0;rw [hV] at p0 p1 q1 q2;clear hV HA hTV hes
   go_wp2_with fail
   rw [←HV.out] at p0 p1 q1 q2 ⊢;refine HS.out.mono ?_;rintro r v ⟨hr,hb⟩
   have B2:Aside (Bl v gp 29 [.int .i64 pa,.int .i64 pb]∧Bl v gx 22 [.float .f64 0]∧Bl v ge 25 [.int .i64 0]∧Below w.heap.size w v∧Tab v) :=
    ⟨B1.out.1.below hb B1.out.1.lt,B1.out.2.1.below hb B1.out.2.1.lt,B1.out.2.2.1.below hb B1.out.2.2.1.lt,B1.out.2.2.2.trans (hb.mono B1.out.2.2.2.size),HTV.out.belows hb⟩
   have q1:=B2.out.2.2.1.cell 0 _ rfl;have q2:=B2.out.2.2.1.frozen 0;have BVs:Aside (ge<V.heap.size∧gx<V.heap.size):=⟨B1.out.2.2.1.lt,B1.out.2.1.lt⟩;clear hb B1 HV HS p0 p1 HTV c1 f1 B0
   have BU:Aside (∀ (e:Int) (t1 t2 t3 t4 t5 t6:Int) (U:World),U=(v.setCell ⟨ge,0,none⟩ (.int .i64 e)).alloc (Obj.cells #[.int .i64 t1,.int .i64 t2,.int .i64 t3,.int .i64 t4,.int .i64 t5,.int .i64 t6] 57) →
    Bl U gp 29 [.int .i64 pa,.int .i64 pb]∧Bl U gx 22 [.float .f64 0]∧Bl U ge 25 [.int .i64 e]∧Bl U v.heap.size 57 [.int .i64 t1,.int .i64 t2,.int .i64 t3,.int .i64 t4,.int .i64 t5,.int .i64 t6]∧Below w.heap.size w U∧Tab U∧(∀ ao (ys:List Nat),Fs v.heap.size v ao ys→(∀ b o p,ao=some ⟨b,o,p⟩→b≠ge)→Fs U.heap.size U ao ys)):=by
    intro e t1 t2 t3 t4 t5 t6 U hU;have hb:But ge v (v.setCell ⟨ge,0,none⟩ (.int .i64 e)):=(But.refl _ _).set 0 _;have hbb:=But.below B2.out.2.2.2.1 hb B2.out.2.2.2.1.size (by have:=HG.out;omega)
    have hsz:(v.setCell ⟨ge,0,none⟩ (.int .i64 e)).heap.size=v.heap.size:=by simp
    have z1:=Bl.new (v.setCell ⟨ge,0,none⟩ (.int .i64 e)) 57 [.int .i64 t1,.int .i64 t2,.int .i64 t3,.int .i64 t4,.int .i64 t5,.int .i64 t6];rw [hsz] at z1;rw [hU];refine ⟨(B2.out.1.but hb (by have:=HG.out;omega)).alloc _,(B2.out.2.1.but hb (by have:=HG.out;omega)).alloc _,(B2.out.2.2.1.set 0 _).alloc _,z1,hbb.trans ((bel_alloc _ _).mono hbb.size),HX.out.2.2.2.1.belows (hbb.trans ((bel_alloc _ _).mono hbb.size)),?_⟩
    intro ao ys hF hg;exact ((hF.but' hb hg).below ((bel_alloc _ _).mono (by simp))).mono (by simp)
   rcases hr with ⟨he,a',c',rfl⟩|⟨he,a',c',rfl,hF',hlo⟩
   · have hlt:=B2.out.2.2.1.lt
     have h1:(es==0)=false:=by simp [he]
     rw [if_neg he] at hz;obtain ⟨rfl,rfl⟩:=Prod.mk.inj hz;unfold agg0;obtain ⟨U,hU⟩:∃ U,U=(v.setCell ⟨ge,0,none⟩ (.int .i64 es)).alloc (Obj.cells #[.int .i64 0,.int .i64 0,.int .i64 0,.int .i64 0,.int .i64 0,.int .i64 0] 57):=⟨_,rfl⟩;obtain ⟨u1,u2,u3,u4,u5,u6,_⟩:=BU.out _ _ _ _ _ _ _ _ hU;have B3:=(qsd (ai u2 (ai u3 u5)));have r1:=u3.cell 0 _ rfl;have HU:=qsd hU;clear u1 u2 u3 u4 u5 u6 hU BU hz
     go_upto_region 5 with fail
     rw [←HU.out];go_wp2;refine door13 Tryz.results7 ?_ (Mean1_d gx ge 0 es _ (B3.out.1.cell 0 _ rfl) (B3.out.2.1.cell 0 _ rfl) (B3.out.1.frozen 0)) rfl rfl (B3.out.1.cell 0 _ rfl) (B3.out.2.1.cell 0 _ rfl) hne.out ?_
     · simp [go_sem]
     · rw [bsd_zero]
       exact ⟨rfl,But.below B3.out.2.2 ((But.refl gx _).set 0 _) B3.out.2.2.size (by have:=HG.out;omega)⟩
   · have hlt:=B2.out.2.2.1.lt
     subst he;rw [if_pos rfl] at hz;obtain ⟨U,hU⟩:∃ U,U=(v.setCell ⟨ge,0,none⟩ (.int .i64 0)).alloc (Obj.cells #[.int .i64 sn,.int .i64 su,.int .i64 sd,.int .i64 sm,.int .i64 sp,.int .i64 sa] 57):=⟨_,rfl⟩;obtain ⟨u1,u2,u3,u4,u5,u6,u7⟩:=BU.out _ _ _ _ _ _ _ _ hU;obtain ⟨gs,hgs⟩:∃ g,v.heap.size=g:=⟨_,rfl⟩;have hlo2:∀ b o p,a'=some ⟨b,o,p⟩→b≠ge∧b≠gx:=fun b o p h=>by have:=hlo b o p h;have:=BVs.out;omega
     have B3:=(qsd (ai u1 (ai u2 (ai u3 (ai u4 (ai u5 (ai u6 (ai (u7 _ _ hF' (fun b o p h=>(hlo2 b o p h).1)) hlo2))))))))
     rw [hgs] at B3 u4;have s0:=u4.cell 0 _ rfl;have s1:=u4.cell 1 _ rfl;have s2:=u4.cell 2 _ rfl;have s3:=u4.cell 3 _ rfl;have s4:=u4.cell 4 _ rfl;have s5:=u4.cell 5 _ rfl;have p0:=u1.cell 0 _ rfl;have p1:=u1.cell 1 _ rfl;have r1:=u3.cell 0 _ rfl;have HGS:=qsd hgs;have HU:=qsd hU;clear u1 u2 u3 u4 u5 u6 u7 hU BU hF' hgs hlo hlo2
     go_upto_region 5 with fail
     rw [←HU.out,HGS.out];clear HU HGS;have HVd:=hid (fun u:World=>Verdict_any sn su sd sm sp sa pa pb u)
     obtain ⟨⟨xv,tv⟩,hvd⟩:∃ z,vd (snd sn su sd sm sp sa&&may pa pb) sn su sd pa pb=z:=⟨_,rfl⟩;rw [hvd] at HVd hz;simp only at HVd hz;clear hvd q1 q2
     go_wp2_with fail
     refine (HVd.out _).mono ?_;rintro r v2 ⟨rfl,hb⟩;obtain ⟨V3,hV3⟩:∃ V,V=v2.setCell ⟨gx,0,none⟩ (.float .f64 xv):=⟨_,rfl⟩;have B4:Aside (Bl v2 gx 22 [.float .f64 0]):=B3.out.2.1.below hb B3.out.2.1.lt
     have B5:Aside (Bl V3 gx 22 [.float .f64 xv]∧Bl V3 ge 25 [.int .i64 0]∧Bl V3 gs 57 [.int .i64 sn,.int .i64 su,.int .i64 sd,.int .i64 sm,.int .i64 sp,.int .i64 sa]∧Below w.heap.size w V3∧Tab V3∧(tv=false→Fs V3.heap.size V3 a' fl)):=by
      have hbt:But gx v2 V3:=by rw [hV3];exact (But.refl _ _).set 0 _
      have hbw:=B3.out.2.2.2.2.1.trans (hb.mono B3.out.2.2.2.2.1.size);have hb3:=But.below hbw hbt hbw.size (by have:=HG.out;omega)
      have hgsl:gx≠gs:=by
       rintro rfl;have:=B3.out.2.1.symm.trans B3.out.2.2.2.1;simp at this
      refine ⟨by rw [hV3];exact B4.out.set 0 _,(B3.out.2.2.1.below hb B3.out.2.2.1.lt).but hbt (by have:=HG.out;omega),(B3.out.2.2.2.1.below hb B3.out.2.2.2.1.lt).but hbt (fun h=>hgsl h.symm),hb3,HX.out.2.2.2.1.belows hb3,fun _=>?_⟩
      have hF3:=(((B3.out.2.2.2.2.2.2.1.below hb).mono hb.size).but' hbt (fun b o p h=>(B3.out.2.2.2.2.2.2.2 b o p h).2)).mono hbt.size
      exact hF3
     have t1:=B4.out.cell 0 _ rfl;have t2:=B4.out.frozen 0;have HV3:=qsd hV3;clear hb B3 B4 HVd hV3 s0 s1 s2 s3 s4 s5 p0 p1 r1
     cases tv with
     | true =>
       simp only [if_true] at hz;obtain ⟨hX,hE⟩:=Prod.mk.inj hz;subst hX hE;go_wp2;rw [←HV3.out];refine door13 Tryz.results7 ?_ (Mean1_d gx ge xv 0 _ (B5.out.1.cell 0 _ rfl) (B5.out.2.1.cell 0 _ rfl) (B5.out.1.frozen 0)) rfl rfl (B5.out.1.cell 0 _ rfl) (B5.out.2.1.cell 0 _ rfl) hne.out ?_
       · simp [go_sem]
       · exact ⟨rfl,But.below B5.out.2.2.2.1 ((But.refl gx _).set 0 _) B5.out.2.2.2.1.size (by have:=HG.out;omega)⟩
     | false =>
       simp only [Bool.false_eq_true,if_false] at hz;obtain ⟨⟨xl,el⟩,hl⟩:∃ z,levR fl ⟨sn,su,sd,sm,sp,sa⟩ mode=z:=⟨_,rfl⟩;rw [hl] at hz;simp only at hz;obtain ⟨hX,hE⟩:=Prod.mk.inj hz;have HL:=hid (level13 fl a' fl.length c' sn su sd sm sp sa mode V3 rfl (B5.out.2.2.2.2.2 rfl) (by rw [←HFL.out];exact fin_W64 HX.out.2.2.1) B5.out.2.2.2.2.1 (by rw [←HFL.out];exact Nat.le_trans (List.length_filter_le _ _) (sfE_len HES.out).1) (xl,el) hl)
       simp only at HL;have s0:=B5.out.2.2.1.cell 0 _ rfl;have s1:=B5.out.2.2.1.cell 1 _ rfl;have s2:=B5.out.2.2.1.cell 2 _ rfl;have s3:=B5.out.2.2.1.cell 3 _ rfl;have s4:=B5.out.2.2.1.cell 4 _ rfl;have s5:=B5.out.2.2.1.cell 5 _ rfl;have HXE:=qsd (ai hX hE);clear hz hX hE hl
       go_upto_region 7 with fail
       rw [←HV3.out];clear t1 t2
       go_wp2_with fail
       refine HL.out.mono ?_;rintro r v4 ⟨rfl,hb⟩
       have B6:Aside (Bl v4 gx 22 [.float .f64 xv]∧Bl v4 ge 25 [.int .i64 0]∧Below w.heap.size w v4) :=
        ⟨B5.out.1.below hb B5.out.1.lt,B5.out.2.1.below hb B5.out.2.1.lt,B5.out.2.2.2.1.trans (hb.mono B5.out.2.2.2.1.size)⟩
       have t1:=B6.out.1.cell 0 _ rfl;have t2:=B6.out.1.frozen 0;have t3:=B6.out.2.1.cell 0 _ rfl;have t4:=B6.out.2.1.frozen 0;have hne1:ge≠gx:=hne.out;have hne2:gx≠ge:=fun h=>hne.out h.symm
       clear hb B5 HL s0 s1 s2 s3 s4 s5 HV3;go_wp2;have bt:But gx v4 (v4.setCell ⟨gx,0,none⟩ (.float .f64 xl)):=(But.refl _ _).set 0 _;have k1:=(B6.out.1.set 0 (.float .f64 xl)).but ((But.refl ge (v4.setCell ⟨gx,0,none⟩ (.float .f64 xl))).set 0 (.int .i64 el)) hne2;have k2:=(B6.out.2.1.but bt hne1).set 0 (.int .i64 el);have k0:Below w.heap.size w (v4.setCell ⟨gx,0,none⟩ (.float .f64 xl)):=But.below B6.out.2.2 bt B6.out.2.2.size (by have:=HG.out;omega)
       have k3:Below w.heap.size w ((v4.setCell ⟨gx,0,none⟩ (.float .f64 xl)).setCell ⟨ge,0,none⟩ (.int .i64 el)):=But.below k0 ((But.refl ge (v4.setCell ⟨gx,0,none⟩ (.float .f64 xl))).set 0 (.int .i64 el)) k0.size (by have:=HG.out;omega)
       refine door13 Tryz.results7 ?_ (Mean1_d gx ge xl el _ (k1.cell 0 _ rfl) (k2.cell 0 _ rfl) (k1.frozen 0)) rfl rfl (k1.cell 0 _ rfl) (k2.cell 0 _ rfl) hne.out ?_
       · simp [go_sem]
       · rw [HXE.out.1,HXE.out.2]
         have kb:But gx ((v4.setCell ⟨gx,0,none⟩ (.float .f64 xl)).setCell ⟨ge,0,none⟩ (.int .i64 el)) (((v4.setCell ⟨gx,0,none⟩ (.float .f64 xl)).setCell ⟨ge,0,none⟩ (.int .i64 el)).setCell ⟨gx,0,none⟩ (.float .f64 X)):=(But.refl gx _).set 0 _;have hgl:w.heap.size≤gx:=by have:=HG.out;omega
         first | exact ⟨rfl,But.below k3 kb k3.size hgl⟩ | (rw [HXE.out.2] at k3 kb;exact ⟨rfl,But.below k3 kb k3.size hgl⟩)
 · rw [if_neg h0] at hz
   obtain ⟨rfl,rfl⟩:=Prod.mk.inj hz;have h1:(ea==0)=false:=by simp [h0]
   clear hz HA;go_wp2;refine door13 Tryz.results7 ?_ (Mean1_d gx ge 0 ea _ (B1.out.2.1.cell 0 _ rfl) (B1.out.2.2.1.cell 0 _ rfl) (B1.out.2.1.frozen 0)) rfl rfl (B1.out.2.1.cell 0 _ rfl) (B1.out.2.2.1.cell 0 _ rfl) hne.out ?_
   · simp [go_sem]
   · rw [bsd_zero]
     exact ⟨rfl,But.below B1.out.2.2.2 ((But.refl gx _).set 0 _) B1.out.2.2.2.size (by have:=HG.out;omega)⟩
end
section
open Go.RowKit J
open Go.Proofs.YtmkmndlpjenemaaGreatDoor.B (f64bits f64frombits)
attribute [local go_sem] st_float f64bits f64frombits
theorem lenW_bd (N:Nat) (h:N≤65536) (k:Nat) (hk:k=2148):∃ j:Nat,j=4238∧((N:Int)*((2^k:Nat):Int)).natAbs<2^j:=by
 obtain ⟨j,hj⟩:∃ j:Nat,j=4238:=⟨_,rfl⟩;refine ⟨j,hj,?_⟩;rw [←Int.natCast_mul,Int.natAbs_natCast];have h1:N*2^k<2^17*2^k:=Nat.mul_lt_mul_of_pos_right (by omega) (Nat.two_pow_pos k)
 rw [←Nat.pow_add] at h1;exact Nat.lt_of_lt_of_le h1 (Nat.pow_le_pow_right (by decide) (by omega))
end
section
open Go.RowKit J
def fS (xs:List Nat):Int:=xs.foldl (fun v x=>v+fvW x) 0
theorem fS_fold:∀ (xs:List Nat) (v:Int),xs.foldl (fun v x=>v+fvW x) v=v+fS xs
 | [],v=>by simp [fS]
 | x::xs,v=>by
   unfold fS;rw [List.foldl_cons,List.foldl_cons,fS_fold xs (v+_),fS_fold xs (0+_)];omega
theorem fS_cons (x:Nat) (xs:List Nat):fS (x::xs)=fvW x+fS xs:=by
 have:=fS_fold xs (0+fvW x);unfold fS at this ⊢;rw [List.foldl_cons,this];omega
theorem fS_take (l:List Nat) (k:Nat) (h:k<l.length):fS (l.take (k+1))=fS (l.take k)+fvW (l.getD k 0):=by
 rw [take_snoc10 l k h];simp [fS,List.foldl_append]
theorem fv_one (k:Nat) (hk:k=1074):fvW 4607182418800017408=((2^k:Nat):Int):=by subst hk;decide +kernel
theorem vS_fS (k:Nat) (hk:k=1074):∀ {xs:List Nat},W64 xs→(∀ x ∈ xs,finW x)→vS xs=fS xs*((2^k:Nat):Int)
 | [],_,_=>by simp [vS,fS]
 | x::xs,h,hf=>by
   have hx:=h x List.mem_cons_self;have fx:=hf x List.mem_cons_self;have fo:finW 4607182418800017408:=by decide
   rw [vS_cons,fS_cons,(pT_mul hx (by decide) fx fo).1,fv_one k hk,vS_fS k hk (fun z hz=>h z (List.mem_cons_of_mem _ hz)) (fun z hz=>hf z (List.mem_cons_of_mem _ hz)),Int.add_mul]
theorem fv_abs (x:Nat):(fvW x).natAbs=vK (magW x):=by unfold fvW B.sg;cases negW x <;> simp
theorem vK_le {a b:Nat}(h:a≤b):vK a≤vK b:=by
 rcases Nat.lt_or_ge a b with q|q
 · exact Nat.le_of_lt (grid64.mono q)
 · rw [show a=b by omega];exact Nat.le_refl _
theorem fS_bd (T:Nat):∀ {xs:List Nat},(∀ x ∈ xs,magW x≤T)→(fS xs).natAbs≤xs.length*vK T
 | [],_=>by simp [fS]
 | x::xs,h=>by
   have ih:=fS_bd T (xs:=xs) (fun z hz=>h z (List.mem_cons_of_mem _ hz))
   have h1:=vK_le (h x List.mem_cons_self);have h2:=fv_abs x;rw [fS_cons,List.length_cons,Nat.add_mul,Nat.one_mul];have:=Int.natAbs_add_le (fvW x) (fS xs);omega
theorem mean_lies {xs:List Nat}(hW:W64 xs) (hf:∀ x ∈ xs,finW x) (hne:xs≠[]) (hl:xs.length≤65536) (hS:fS xs≠0) :
 ∃ K t m,Lies K t m (fS xs).natAbs xs.length∧∀ mode:Int,0≤mode→mode≤4→∀ s:Sp,levR xs s mode=(rK mode (decide (fS xs<0)) K t m+(if fS xs<0 then 9223372036854775808 else 0),0):=by
 obtain ⟨k,hk⟩:∃ k:Nat,k=2148:=⟨_,rfl⟩;obtain ⟨j,hj⟩:∃ k:Nat,k=1074:=⟨_,rfl⟩;have hV:=vS_fS j hj hW hf;have hpj:=Nat.two_pow_pos j;have hpk:=Nat.two_pow_pos k;have hp:0<xs.length:=List.length_pos_iff.2 hne;have hV0:vS xs≠0:=by rw [hV];intro h;rcases Int.mul_eq_zero.1 h with q | q;exact hS q;omega
 have hs:vS xs<0↔fS xs<0:=by
  rw [hV]
  constructor
  · intro h
    rcases Int.lt_or_le (fS xs) 0 with q|q
    · exact q
    · have:=Int.mul_nonneg q (Int.natCast_nonneg (2^j));omega
  · intro h;exact Int.mul_neg_of_neg_of_pos h (by omega)
 obtain ⟨i1,hi1,hb1⟩:=vS_bd hW hl;obtain ⟨i2,hi2,hb2⟩:=lenW_bd xs.length hl k hk;have hWp:0<(xs.length:Int)*((2^k:Nat):Int):=by rw [←Int.natCast_mul];have:=Nat.mul_pos hp hpk;omega
 obtain ⟨K,t,m,hL,hR⟩:=quot_lies hV0 hWp i1 (by omega) hb1 (by rw [hi1,←hi2];exact hb2)
 refine ⟨K,t,m,?_,fun mode hm0 hm4 s=>?_⟩
 · refine (hL j hj).ratio hp ?_
   rw [hV,←Int.natCast_mul,Int.natAbs_natCast,Int.natAbs_mul,Int.natAbs_natCast];have e:2^k=2^j*2^j:=by rw [←Nat.pow_add];congr 1;omega
   rw [e,Nat.mul_assoc (fS xs).natAbs,Nat.mul_assoc (fS xs).natAbs,Nat.mul_comm (2^j*2^j) xs.length]
 · unfold levR
   rw [if_neg hne,if_neg hV0,qn_qv _ _ _ k hk,hR mode hm0 hm4]
   by_cases q:fS xs<0
   · rw [if_pos q,if_pos (hs.2 q),decide_eq_true q,decide_eq_true (hs.2 q)]
   · rw [if_neg q,if_neg (fun h=>q (hs.1 h)),decide_eq_false q,decide_eq_false (fun h=>q (hs.1 h))]
theorem fv_sum {r:Nat}{b:Bool}(h:r<9223372036854775808):fvW (r+(if b then 9223372036854775808 else 0))=B.sg b (vK r)∧magW (r+(if b then 9223372036854775808 else 0))=r∧negW (r+(if b then 9223372036854775808 else 0))=b:=by
 have e1:magW (r+(if b then 9223372036854775808 else 0))=r:=by unfold magW;cases b <;> simp <;> omega
 have e2:negW (r+(if b then 9223372036854775808 else 0))=b:=by unfold negW;cases b <;> simp <;> omega
 exact ⟨by unfold fvW;rw [e1,e2],e1,e2⟩
theorem nt_nought (ok:Bool) (n u d m p a mode:Int):nt ok n u d m p a mode=0∨nt ok n u d m p a mode=9223372036854775808:=by
 unfold nt
 (repeat' split) <;> first | exact .inl rfl | exact .inr rfl
end
section
open Go.RowKit J
attribute [local go_sem] st_float
theorem fo_iv13 (V:Int) (m:Nat) (hm:m≤100000) (hV:V.natAbs<2^m):Iv (fo8 V) (-1074) ((m:Int)-1074):=by
 unfold fo8;refine mkS_iv _ _ _ _ _ (.inr ⟨by omega,?_⟩) (by omega) (by omega) (by omega)
 have:=bl_lt_pow hV;omega
theorem fo_fm13 (V:Int) (m:Nat) (hm:m≤100000) (hV:V.natAbs<2^m):Fm (fo8 V):=(fo_iv13 V m hm hV).fm
theorem int_fo (N:Nat) (k:Nat) (hk:k=1074):fo8 ((N:Int)*((2^k:Nat):Int))=mkS false N 0:=by
 unfold fo8;rw [←Int.natCast_mul,decide_eq_false (by omega),Int.natAbs_natCast,Nat.mul_comm,mkS_pow11]
 congr 1
 omega
theorem ex_fo13 (V:Int) (k:Nat) (hk:k=1074):exV (V*((2^k:Nat):Int))=fo8 V:=by
 unfold exV fo8;have hp:(0:Int)<((2^k:Nat):Int):=by have:=Nat.two_pow_pos k;omega
 have e1:decide (V*((2^k:Nat):Int)<0)=decide (V<0):=by
  by_cases h:V<0
  · rw [decide_eq_true h,decide_eq_true (Int.mul_neg_of_neg_of_pos h hp)]
  · rw [decide_eq_false h,decide_eq_false (by have:=Int.mul_nonneg (show 0≤V by omega) (Int.le_of_lt hp);omega)]
 rw [e1,Int.natAbs_mul,Int.natAbs_natCast,Nat.mul_comm,mkS_pow11]
 congr 1
 omega
theorem fo_mul13 {A C:Int}(m:Nat) (hm:m≤10000) (hA:A.natAbs<2^m) (hC:C.natAbs<2^m):mulD (fo8 A) (fo8 C)=exV (A*C):=by
 have hF:=((fo_iv13 A m (by omega) hA).mul (fo_iv13 C m (by omega) hC) (by omega) (by omega) (by omega)).fm
 have hb:(A*C).natAbs<2^(m+m):=by rw [Int.natAbs_mul,Nat.pow_add];exact Nat.mul_lt_mul'' hA hC
 have hG:=ex_fm (A*C) (m+m) (by omega) hb
 refine valO_inj hF hG ?_;have h:=val_mul (fo_fm13 A m (by omega) hA) (fo_fm13 C m (by omega) hC) hF
 rw [val_fo (fo_fm13 A m (by omega) hA),val_fo (fo_fm13 C m (by omega) hC)] at h
 rw [val_ex hG];have hM:(0:Int)<(MM:Int):=by have:=M_pos;omega
 refine Int.eq_of_mul_eq_mul_right (by omega) (h.trans ?_)
 have e:(YY:Int)*(YY:Int)=(XX:Int)*(MM:Int):=by rw [←Int.natCast_mul,YYXM,Int.natCast_mul]
 rw [Int.mul_assoc A,Int.mul_comm (YY:Int) (C*_),Int.mul_assoc C,e];simp only [Int.mul_assoc]
theorem int_mul13 {A:Int}{N:Nat}(m:Nat) (hm:m≤5000) (h2:1200≤m) (hA:A.natAbs<2^m) (hN:N≤65536):mulD (fo8 A) (mkS false N 0)=fo8 (A*N):=by
 obtain ⟨k,hk⟩:∃ k:Nat,k=1074:=⟨_,rfl⟩
 have hb:((N:Int)*((2^k:Nat):Int)).natAbs<2^m:=by
  rw [←Int.natCast_mul,Int.natAbs_natCast];have h1:N*2^k<2^17*2^k:=Nat.mul_lt_mul_of_pos_right (by omega) (Nat.two_pow_pos k)
  rw [←Nat.pow_add] at h1;exact Nat.lt_of_lt_of_le h1 (Nat.pow_le_pow_right (by decide) (by omega))
 rw [←int_fo N k hk,fo_mul13 m (by omega) hA hb,←Int.mul_assoc,ex_fo13 _ k hk]
theorem mulI13 {U:World}{a b:Option Addr}{c d:Nat}{A:Int}{N:Nat}(m:Nat) (hm:m≤5000) (h2:1200≤m) (hA:A.natAbs<2^m) (hA2:(A*N).natAbs<2^m) (hN:N≤65536) (N1:Nt 0 U (.slice a (ws (dX (fo8 A))).length c) (dX (fo8 A))) (N2:Nt 0 U (.slice b (ws (dX (mkS false N 0))).length d) (dX (mkS false N 0))) (hT:Tab U) :
 Calls Tryz.prog 65 #[.agg #[.bool (dN (fo8 A)),.slice a (ws (dX (fo8 A))).length c,.int .i64 (dE (fo8 A))],.agg #[.bool (dN (mkS false N 0)),.slice b (ws (dX (mkS false N 0))).length d,.int .i64 (dE (mkS false N 0))]] U fun r w'=>(∃ v,r=.returned (.tuple #[.agg #[.bool (dN (fo8 (A*N))),v,.int .i64 (dE (fo8 (A*N)))],.int .i64 0])∧Nt U.heap.size w' v (dX (fo8 (A*N))))∧Below U.heap.size U w' :=
 mulP12 (fo_fm13 A m (by omega) hA) (int_fm N (by omega)) N1 N2 hT (int_mul13 m hm h2 hA hN) (fo_fm13 _ m (by omega) hA2)
theorem subP13 {U:World}{a b:Option Addr}{c d:Nat}{A C:Int}(m:Nat) (hm:m≤5000) (hA:A.natAbs<2^m) (hC:C.natAbs<2^m) (hD:(A-C).natAbs<2^m) (N1:Nt 0 U (.slice a (ws (dX (fo8 A))).length c) (dX (fo8 A))) (N2:Nt 0 U (.slice b (ws (dX (fo8 C))).length d) (dX (fo8 C))) (hT:Tab U) :
 Calls Tryz.prog 103 #[.agg #[.bool (dN (fo8 A)),.slice a (ws (dX (fo8 A))).length c,.int .i64 (dE (fo8 A))],.agg #[.bool (dN (fo8 C)),.slice b (ws (dX (fo8 C))).length d,.int .i64 (dE (fo8 C))]] U fun r w'=>(∃ v,r=.returned (.tuple #[.agg #[.bool (dN (fo8 (A-C))),v,.int .i64 (dE (fo8 (A-C)))],.int .i64 0])∧Nt U.heap.size w' v (dX (fo8 (A-C))))∧Below U.heap.size U w':=by
 have F:=fo_fm13 A m (by omega) hA
 have G:=fo_fm13 C m (by omega) hC
 have H:=fo_fm13 (A-C) m (by omega) hD
 have:=Sub_any3 (F.a12 N1) (G.a12 N2) hT (dN (fo8 A)) (dN (fo8 C)) (dE (fo8 A)) (dE (fo8 C)) F.rng.1 F.rng.2 G.rng.1 G.rng.2;rw [val_ws,val_ws,F.re,fo8_neg C m (by omega) hC,fo8_add A (-C) m (by omega) hA (by rw [Int.natAbs_neg];exact hC),←Int.sub_eq_add_neg] at this
 unfold DAns at this;rw [H.er] at this;exact this
end
section
open Go.RowKit J
attribute [local go_sem] st_float
theorem lt_of_cell13 {w:World}{g o:Nat}{v:Value}(h:w.cell? ⟨g,o,none⟩=some v):g<w.heap.size:=by
 rcases Nat.lt_or_ge g w.heap.size with q|q
 · exact q
 · unfold World.cell? at h
   simp [Array.getElem?_eq_none q] at h
structure St (w u:World) (gs ga gb:Nat) (oS oA oB:Option (Bool×Nat×Int)):Prop where
 s:Lo u gs oS
 a:Lo u ga oA
 b:Lo u gb oB
 bel:Below w.heap.size w u
 tab:Tab u
theorem St.below {w u v:World}{gs ga gb:Nat}{oS oA oB:Option (Bool×Nat×Int)}(h:St w u gs ga gb oS oA oB) (hb:Below u.heap.size u v):St w v gs ga gb oS oA oB :=
 ⟨h.s.below hb,h.a.below hb,h.b.below hb,h.bel.trans (hb.mono h.bel.size),h.tab.belows hb⟩
theorem st3_bel13 {B g:Nat}{a w:World}(h:Below B a w) (hB:B≤w.heap.size) (hg:B≤g) (x y z:Value):Below B a (st3 w g x y z):=But.below h ((((But.refl g w).set _ _).set _ _).set _ _) hB hg
theorem St.seta {w u:World}{gs ga gb:Nat}{oS oA oB o:Option (Bool×Nat×Int)}{p:Option Addr}{q:Nat}(h:St w u gs ga gb oS oA oB) (hga:w.heap.size≤ga) (h1:gs≠ga) (h2:gb≠ga) (hN:Nt 0 u (.slice p (ws (dX o)).length q) (dX o)) (hT:Tab w) :
 St w (st3 u ga (.bool (dN o)) (.slice p (ws (dX o)).length q) (.int .i64 (dE o))) gs ga gb oS o oB:=by
 have hb:=st3_bel13 h.bel h.bel.size hga (.bool (dN o)) (.slice p (ws (dX o)).length q) (.int .i64 (dE o));exact ⟨h.s.other h.a h1 _ _ _,h.a.set hN,h.b.other h.a h2 _ _ _,hb,hT.belows hb⟩
end
section
open Go.RowKit J
theorem ask_ok {mode:Int}(h:askE mode=0):0≤mode∧mode≤4:=by
 unfold askE at h
 by_cases h1:mode<0∨4<mode
 · rw [if_pos h1] at h;exact absurd h (by decide)
 · omega
theorem qn_ok {V:Int}{N:Nat}{mode:Int}(hm:askE mode=0) (hV:V≠0) (k:Nat) (hk:k=4238) (hb:V.natAbs<2^k) (hN:0<N) (hN2:N≤65536):(qnR V N mode).2=0:=by
 obtain ⟨j,hj⟩:∃ k:Nat,k=2148:=⟨_,rfl⟩;obtain ⟨j2,hj2,hb2⟩:=lenW_bd N hN2 j hj;obtain ⟨m0,m4⟩:=ask_ok hm;rw [qn_qv _ _ _ j hj];obtain ⟨K,t,m,_,hR⟩:=quot_lies (V:=V) (W:=(N:Int)*((2^j:Nat):Int)) hV (by rw [←Int.natCast_mul];have:=Nat.mul_pos hN (Nat.two_pow_pos j);omega) k (by omega) hb (by rw [hk,←hj2];exact hb2)
 rw [hR mode m0 m4]
theorem lev_ok {xs:List Nat}{s:Sp}{mode:Int}(hm:askE mode=0) (hW:W64 xs) (hl:xs.length≤65536) (hne:xs≠[]):(levR xs s mode).2=0:=by
 by_cases hV:vS xs=0
 · unfold levR;rw [if_neg hne,if_pos hV]
 · obtain ⟨k,hk,hb⟩:=vS_bd hW hl
   unfold levR;rw [if_neg hne,if_neg hV];exact qn_ok hm hV k hk hb (List.length_pos_iff.2 hne) hl
theorem lev_bsd {xs:List Nat}{s:Sp}{mode:Int}(hm:askE mode=0) (hW:W64 xs) (hl:xs.length≤65536):bsd (levR xs s mode).2 (levR xs s mode).1=(levR xs s mode).1:=by
 by_cases h0:xs=[]
 · subst h0;unfold levR;rw [if_pos rfl];rfl
 · rw [lev_ok hm hW hl h0];rfl
theorem sS_small {xs:List Nat}(hW:W64 xs) (hl:xs.length≤65536):(0≤(sS xs).n∧(sS xs).n≤65536)∧(0≤(sS xs).u∧(sS xs).u≤65536)∧(0≤(sS xs).d∧(sS xs).d≤65536)∧(sS xs).a=xs.length∧(sS xs).a-(sS xs).n-(sS xs).u-(sS xs).d=(Ps.fin xs).length:=by
 rw [sS_cn hW];have h:=fun k=>List.countP_le_length (p:=fun x=>kd x==k) (l:=xs)
 have h5:=h 5;have h3:=h 3;have h4:=h 4;have hf:=fin_count (xs:=xs);unfold Ps.cn at *;refine ⟨⟨?_,?_⟩,⟨?_,?_⟩,⟨?_,?_⟩,rfl,?_⟩ <;> (simp only;omega)
theorem sS_fin {xs:List Nat}(hW:W64 xs) (hf:∀ x ∈ xs,finW x) (hl:xs.length≤65536):(sS xs).n=0∧(sS xs).u=0∧(sS xs).d=0:=by
 obtain ⟨b1,b2,b3,b4,b5⟩:=sS_small hW hl;rw [fin_id hW hf] at b5;omega
theorem sfE_of_fin {xs:List Nat}{pa pb:Int}(hW:W64 xs) (hf:∀ x ∈ xs,finW x) (hl:xs.length≤65536) (hab:may pa pb=true):sfE pa pb xs=0:=by
 obtain ⟨h1,h2,h3⟩:=sS_fin hW hf hl;unfold sfE Ps.rf;rw [hab,if_neg (by decide),if_neg (by omega),h1,h2,h3,if_neg (by omega),if_neg (by omega)]
theorem mean_fin {xs:List Nat}{mode pa pb:Int}(hW:W64 xs) (hf:∀ x ∈ xs,finW x) (hl:xs.length≤65536) (hm:askE mode=0) (hab:may pa pb=true):meanR xs mode pa pb=levR xs (sS xs) mode:=by
 obtain ⟨h1,h2,h3⟩:=sS_fin hW hf hl
 have hv:(vd (snd (sS xs).n (sS xs).u (sS xs).d (sS xs).m (sS xs).p (sS xs).a&&may pa pb) (sS xs).n (sS xs).u (sS xs).d pa pb).2=false:=by
  unfold vd;rw [h1,h2,h3]
  split
  · rfl
  · rw [if_neg (by omega)]
    split
    · rfl
    · rw [if_neg (by omega),if_neg (by omega),if_neg (by omega)]
 unfold meanR;rw [if_pos hm,if_pos (sfE_of_fin hW hf hl hab),hv,if_neg (by decide),fin_id hW hf,lev_bsd hm hW hl]
end
section
open Go.RowKit J
attribute [local go_sem] st_float
def Fw10 (n:Nat):Value:=.float .f64 n
theorem Tryz.und_floats:Tryz.prog.underlying 24=some (.slice 22):=by kernel_rfl
theorem Tryz.info_f64:(Tryz.prog.info? 22).map (fun i=>(i.zero,i.size,i.bytes))=some (some (.float .f64 0),1,8):=by kernel_rfl
end
section
open Go.ChangeShapes Go.WideShapes Go.ChangeAt Go.RowKit
theorem trodF {H:Type}{enc:TypeId×Value→H}{P:Program}{w:World}{base:Nat}{spare:Nat→Bool}{held:Bool}{fuel:Nat}{t:TypeId}{cs:List Value}{x:DataW H×List MemPlace}{k:FloatKind}(ht:P.underlying t=some (.float k)) (h:DataW.trod enc P w base spare held fuel t cs=some x):∃ n,cs=[.float k n]∧x=(.lit (.float k n),[])∧(Lit.float k n).wf=true:=by
 cases fuel with
 | zero=>simp [DataW.trod] at h
 | succ m =>
   simp only [DataW.trod,ht] at h
   split at h <;> simp_all
structure CameF (w:World) (a:Option Addr) (n c:Nat) (xs:List Nat):Prop where
 len:n=xs.length
 cap:n≤c
 wf:W64 xs
 rd:Fs w.heap.size w a xs
 nil:a=none→c=0
theorem add_noneF (b off i:Nat):(⟨b,off,none⟩:Addr).add i=⟨b,off+i,none⟩:=by unfold Addr.add;split <;> simp_all
def numF {H:Type} (y:DataW H×List MemPlace):Nat:=match y.1 with | .lit (.float _ n)=>n | _=>0
theorem Tryz.cellsF:Tryz.prog.cellsOf 22=1:=by kernel_rfl
theorem Tryz.bytesF:Tryz.prog.bytesOf 22=8:=by kernel_rfl
theorem cameF_of {H:Type}{enc:TypeId×Value→H}{W:World}{a:Option Addr}{n c:Nat}{d:DataW H}{p:List MemPlace}(h:DataW.Trod enc Tryz.prog W 0 (fun _=>true) true 24 (.slice a n c) d p) :
 ∃ xs,CameF W a n c xs∧((d=.nil∧c=0)∨∃ elems spare:List (DataW H),d=.slice elems spare∧elems.length+spare.length=c):=by
 obtain ⟨fuel,hf⟩:=h
 rcases DataW.trod_slice Tryz.underlying24 hf with ⟨hcs,hx⟩|⟨x,l,cp,elems,rest,m,_,hcs,hx,hb,hl,hm,hlen,hel,hsp,hns⟩
 · simp [Value.cells] at hcs
   obtain ⟨rfl,rfl,rfl⟩:=hcs;exact ⟨[],⟨rfl,Nat.le_refl _,(fun x hx=>by cases hx),(fun h=>absurd rfl h),fun _=>rfl⟩,.inl ⟨(Prod.mk.inj hx).1,rfl⟩⟩
 · simp [Value.cells] at hcs
   obtain ⟨rfl,rfl,rfl⟩:=hcs
   have each:∀ i y,i<n→elems[i]?=some y→y=(.lit (.float .f64 (numF y)),[])∧(Lit.float .f64 (numF y)).wf=true∧W.cell? (x.add i)=some (.float .f64 (numF y)):=by
    intro i y hi hy;have hb':=hel i hi;rw [hy,Tryz.cellsF,Nat.mul_one,Option.bind_eq_some_iff] at hb';obtain ⟨cs',hcs,hy'⟩:=hb';obtain ⟨k,rfl,rfl,hw⟩:=trodF Tryz.underlying22 hy';exact ⟨rfl,hw,cell_of_cells?_one hcs⟩
   refine ⟨elems.map numF,⟨by simp [hlen],hl,?_,?_,fun e=>by cases e⟩,.inr ⟨_,_,(Prod.mk.inj hx).1,?_⟩⟩
   · intro y hy
     obtain ⟨z,hz,rfl⟩:=List.mem_map.1 hy;obtain ⟨i,hi⟩:=List.getElem?_of_mem hz;have hil:=(List.getElem?_eq_some_iff.1 hi).1;have:=(each i z (by omega) hi).2.1
     exact of_decide_eq_true this
   · intro hne
     obtain ⟨b,off,spot⟩:=x
     have hn0:0<n:=by
      rcases Nat.eq_zero_or_pos n with h0|h0
      · rw [h0] at hlen;have:=List.eq_nil_of_length_eq_zero hlen;subst this;simp at hne
      · exact h0
     have hc0:=(each 0 (elems[0]'(by omega)) hn0 (List.getElem?_eq_getElem _)).2.2
     have hspot:spot=none:=by simpa [Addr.add] using World.cell?_spot hc0
     subst hspot;refine ⟨b,off,World.block_lt_of_cell? W _ (by simpa [Addr.add] using hc0),rfl,fun i hi=>?_⟩
     rw [List.length_map] at hi;have hadd:=add_noneF b off i;have:=(each i (elems[i]'hi) (by omega) (List.getElem?_eq_getElem _)).2.2
     rw [hadd] at this;rw [this];simp [List.getD_eq_getElem?_getD,hi]
   · have hr:=(hsp rfl).1
     simp only [List.length_map];omega
theorem cameF_reach {H:Type}{ts:List TypeId}{ds:List (DataW H)}(h:(DataW.weightsEach Tryz.prog ts ds).all (·≤reachBytes)=true) {j:Nat}{d:DataW H}{c n:Nat}(ht:ts[j]?=some 24) (hd:ds[j]?=some d) (hn:n≤c)
 (hc:(d=.nil∧c=0)∨∃ elems spare:List (DataW H),d=.slice elems spare∧elems.length+spare.length=c):n≤17592186043904:=by
 rcases hc with ⟨_,rfl⟩|⟨elems,spare,rfl,hl⟩
 · omega
 · have:=sized_slice h ht hd Tryz.underlying24
   rw [Tryz.bytesF,hl] at this;simp only [reachBytes] at this;omega
end
end Go.Proofs.YtmkmndlpjenemaaGreatDoor
