import Derived.Test.YtblkpkgebigojaaGreatDoorFI3x
import Derived.Deep.RegionWith
import Derived.Deep.Cut
set_option linter.unusedVariables false
set_option linter.unusedSimpArgs false
set_option maxHeartbeats 16000000
set_option maxRecDepth 20000
namespace Go.Proofs.YtblkpkgebigojaaGreatDoor
namespace J
end J
namespace Ps
open Go.RowKit
open Go.Proofs.YtblkpkgebigojaaGreatDoor.B (bO aJ bw)
attribute [local go_sem] eD bO aJ
theorem Tv (b:Nat):kd b<=5:=by unfold kd;(repeat' split) <;> omega
open Go.RowKit
open Go.Proofs.YtblkpkgebigojaaGreatDoor.B (bO aJ bw cO)
attribute [local go_sem] eD bO aJ
def cn (k:Nat) (xs:List Nat):Nat:=xs.countP (fun x=>kd x==k)
theorem KO (k:Nat) (xs ys:List Nat):cn k (xs++ys)=cn k xs+cn k ys:=by simp [cn,List.countP_append]
def one (k x:Nat):Nat:=if kd x=k then 1 else 0
theorem Vg (k x:Nat):cn k [x]=one k x:=by unfold cn one;by_cases h:kd x=k <;> simp [h]
theorem pR (xs:List Nat) (i:Nat) (h:i<xs.length):xs.take (i+1)=xs.take i++[xs.getD i 0]:=by
 rw [wZ h,eQ,fF h];rfl
theorem qJ (k:Nat) (xs:List Nat) (i:Nat) (h:i<xs.length):cn k (xs.take (i+1))=cn k (xs.take i)+one k (xs.getD i 0):=by
 rw [pR xs i h,KO,Vg]
theorem Yx (k:Nat) (xs:List Nat):cn k xs<=xs.length:=List.countP_le_length
def ko (w:World) (g:Nat) (n u d m p a:Int):Prop:=w.heap[g]?=some (.cells #[.int .i64 n,.int .i64 u,.int .i64 d,.int .i64 m,.int .i64 p,.int .i64 a] 119 (0,0))
theorem ko.lt {w:World}{g:Nat}{n u d m p a:Int}(h:ko w g n u d m p a):g<w.heap.size:=(fJ.1 h).1
theorem ko.c0 {w:World}{g:Nat}{n u d m p a:Int}(h:ko w g n u d m p a):w.cell? ⟨g,0,none⟩=some (.int .i64 n):=by unfold ko at h;simp [World.cell?,h]
theorem ko.c1 {w:World}{g:Nat}{n u d m p a:Int}(h:ko w g n u d m p a):w.cell? ⟨g,1,none⟩=some (.int .i64 u):=by unfold ko at h;simp [World.cell?,h]
theorem ko.c2 {w:World}{g:Nat}{n u d m p a:Int}(h:ko w g n u d m p a):w.cell? ⟨g,2,none⟩=some (.int .i64 d):=by unfold ko at h;simp [World.cell?,h]
theorem ko.c3 {w:World}{g:Nat}{n u d m p a:Int}(h:ko w g n u d m p a):w.cell? ⟨g,3,none⟩=some (.int .i64 m):=by unfold ko at h;simp [World.cell?,h]
theorem ko.c4 {w:World}{g:Nat}{n u d m p a:Int}(h:ko w g n u d m p a):w.cell? ⟨g,4,none⟩=some (.int .i64 p):=by unfold ko at h;simp [World.cell?,h]
theorem ko.c5 {w:World}{g:Nat}{n u d m p a:Int}(h:ko w g n u d m p a):w.cell? ⟨g,5,none⟩=some (.int .i64 a):=by unfold ko at h;simp [World.cell?,h]
theorem ko.frozen {w:World}{g:Nat}{n u d m p a:Int}(h:ko w g n u d m p a) (i:Nat):w.frozen? ⟨g,i,none⟩=false:=by unfold ko at h;simp [World.frozen?,h]
theorem ko.below {w w':World}{g B:Nat}{n u d m p a:Int}(h:ko w g n u d m p a) (hb:Below B w w') (hg:g<B):ko w' g n u d m p a:=by
 unfold ko at h |-;rw [hb.block g hg];exact h
theorem KP (k g:Nat) (n u d m p a:Int) (w:World) (hk:k<=5) (hB:ko w g n u d m p a) (hn:0<=n/\n<=65536) (hu:0<=u/\u<=65536) (hd:0<=d/\d<=65536) (hm:0<=m/\m<=65536) (hp:0<=p/\p<=65536) :
 Calls Tryz.prog 147 #[.pointer (some ⟨g,0,none⟩),.int .i64 (k:Nat)] w fun r w'=>r=.returned (.tuple #[]) /\
  ko w' g (if k=0 then n+1 else n) (if k=1 then u+1 else u) (if k=2 then d+1 else d) (if k=3 then m+1 else m) (if k=4 then p+1 else p) a/\But g w w':=by
 have hc0:=hB.c0;have hc1:=hB.c1;have hc2:=hB.c2;have hc3:=hB.c3;have hc4:=hB.c4;have hf0:=hB.frozen 0;have hf1:=hB.frozen 1;have hf2:=hB.frozen 2;have hf3:=hB.frozen 3;have hf4:=hB.frozen 4;have HB:=ay hB;clear hB;obtain rfl|rfl|rfl|rfl|rfl|rfl:k=0\/k=1\/k=2\/k=3\/k=4\/k=5:=ae
 · go_enter Tryz.func147,Tryz.ntmps147;go_wp2
   go_end0
   refine ⟨rfl,?_,(But.refl _ _).set _ _⟩;have h:=HB.o;unfold ko at h |-;simp [World.setCell,jM,h]
 · go_enter Tryz.func147,Tryz.ntmps147;go_wp2
   go_end0
   refine ⟨rfl,?_,(But.refl _ _).set _ _⟩;have h:=HB.o;unfold ko at h |-;simp [World.setCell,jM,h]
 · go_enter Tryz.func147,Tryz.ntmps147;go_wp2
   go_end0
   refine ⟨rfl,?_,(But.refl _ _).set _ _⟩;have h:=HB.o;unfold ko at h |-;simp [World.setCell,jM,h]
 · go_enter Tryz.func147,Tryz.ntmps147;go_wp2
   go_end0
   refine ⟨rfl,?_,(But.refl _ _).set _ _⟩;have h:=HB.o;unfold ko at h |-;simp [World.setCell,jM,h]
 · go_enter Tryz.func147,Tryz.ntmps147;go_wp2
   go_end0
   refine ⟨rfl,?_,(But.refl _ _).set _ _⟩;have h:=HB.o;unfold ko at h |-;simp [World.setCell,jM,h]
 · go_enter Tryz.func147,Tryz.ntmps147;go_wp2
   go_end0
   exact ⟨rfl,HB.o,But.refl _ _⟩
def rf (n u d a b:Int):Int:=if 0<n/\a=2 then 60 else if 0<u+d/\b=2 then 61 else 0
theorem CR (n u d m p l a b:Int) (w:World) (hu:0<=u/\u<=65536) (hd:0<=d/\d<=65536) :
 Calls Tryz.prog 148 #[.agg #[.int .i64 n,.int .i64 u,.int .i64 d,.int .i64 m,.int .i64 p,.int .i64 l],.agg #[.int .i64 a,.int .i64 b]] w fun r w'=>r=.returned (.int .i64 (rf n u d a b))/\Below w.heap.size w w':=by
 have below:∀ o o',Below w.heap.size w ((w.alloc o).alloc o'):=fun o o'=>((ak _ _).alloc (aH _) _).alloc aW _;obtain ⟨t,ht⟩:∃ t,u+d=t:=⟨_,rfl⟩;have ht2:-9223372036854775808<=t/\t<=9223372036854775807:=ae
 unfold rf;rw [ht]
 by_cases h1:0<n
 · by_cases h2:a=2
   · rw [if_pos ⟨h1,h2⟩];subst h2;go_enter Tryz.func148,Tryz.ntmps148;go_wp2;go_ret;exact ⟨rfl,below _ _⟩
   · have h2':(a==2)=false:=by rw [beq_eq_false_iff_ne];exact h2
     rw [if_neg (fun h=>h2 h.2)]
     by_cases h3:0<t
     · by_cases h4:b=2
       · rw [if_pos ⟨h3,h4⟩];subst h4;go_enter Tryz.func148,Tryz.ntmps148;go_wp2;go_ret;exact ⟨rfl,below _ _⟩
       · have h4':(b==2)=false:=by rw [beq_eq_false_iff_ne];exact h4
         rw [if_neg (fun h=>h4 h.2)];go_enter Tryz.func148,Tryz.ntmps148;go_wp2;go_ret;exact ⟨rfl,below _ _⟩
     · have h3':decide (0<t)=false:=decide_eq_false h3;rw [if_neg (fun h=>h3 h.1)];go_enter Tryz.func148,Tryz.ntmps148;go_wp2;go_ret;exact ⟨rfl,below _ _⟩
 · have h1':decide (0<n)=false:=decide_eq_false h1;rw [if_neg (fun h=>h1 h.1)]
   by_cases h3:0<t
   · by_cases h4:b=2
     · rw [if_pos ⟨h3,h4⟩];subst h4;go_enter Tryz.func148,Tryz.ntmps148;go_wp2;go_ret;exact ⟨rfl,below _ _⟩
     · have h4':(b==2)=false:=by rw [beq_eq_false_iff_ne];exact h4
       rw [if_neg (fun h=>h4 h.2)];go_enter Tryz.func148,Tryz.ntmps148;go_wp2;go_ret;exact ⟨rfl,below _ _⟩
   · have h3':decide (0<t)=false:=decide_eq_false h3;rw [if_neg (fun h=>h3 h.1)];go_enter Tryz.func148,Tryz.ntmps148;go_wp2;go_ret;exact ⟨rfl,below _ _⟩
open Go.RowKit
open Go.Proofs.YtblkpkgebigojaaGreatDoor.B (bO aJ bw cO)
attribute [local go_sem] eD bO aJ
theorem ko.made (w:World) (n u d m p a:Int):ko (w.alloc (.cells #[.int .i64 n,.int .i64 u,.int .i64 d,.int .i64 m,.int .i64 p,.int .i64 a] 119)) w.heap.size n u d m p a:=iJ w _
def RF (w:World) (g:Nat) (xs:List Nat) (a:Int):Prop:=ko w g (cn 5 xs:Nat) (cn 3 xs:Nat) (cn 4 xs:Nat) (cn 1 xs:Nat) (cn 2 xs:Nat) a
theorem Tw (k:Nat) (xs:List Nat) (n:Nat) (h:xs.length<=n) (hn:n<=65536):0<=((cn k xs:Nat):Int)/\((cn k xs:Nat):Int)<=65536:=by have:=Yx k xs;omega
theorem But.RG {a w:World}{g:Nat}(h:But g a w) (u0 u1 u2 u3 u4 u5:Value) :
 But g a ((((((w.setCell ⟨g,0,none⟩ u0).setCell ⟨g,1,none⟩ u1).setCell ⟨g,2,none⟩ u2).setCell ⟨g,3,none⟩ u3).setCell ⟨g,4,none⟩ u4).setCell ⟨g,5,none⟩ u5) :=
 ((((((h.set 0 u0).set 1 u1).set 2 u2).set 3 u3).set 4 u4).set 5 u5)
theorem cset {w:World}{b o:Nat}{u:Value}(h:w.cell? ⟨b,o,none⟩=some u) (v:Value):(w.setCell ⟨b,o,none⟩ v).cell? ⟨b,o,none⟩=some v:=by
 simp only [World.cell?] at h |-;simp only [World.setCell,jM]
 cases hb:w.heap[b]? with
 | none=>rw [hb] at h;simp at h
 | some ob =>
   rw [hb] at h
   cases ob <;> simp_all
   rename_i cs _ _
   by_cases hl:o<cs.size
   · simp [hl]
   · rw [Array.getElem?_eq_none ae] at h;cases h
theorem CS (w:World) (b o:Nat) (v:Value):(w.setCell ⟨b,o,none⟩ v).cell? ⟨b,o,none⟩=(w.cell? ⟨b,o,none⟩).map (fun _=>v):=by
 cases h:w.cell? ⟨b,o,none⟩ with
 | some u=>rw [cset h v];rfl
 | none =>
   simp only [World.cell?] at h |-;simp only [World.setCell,jM]
   cases hb:w.heap[b]? with
   | none=>simp
   | some ob =>
     rw [hb] at h
     cases ob <;> simp_all
open Go.RowKit
open Go.Proofs.YtblkpkgebigojaaGreatDoor.B (bO aJ bw cO)
attribute [local go_sem] eD bO aJ
def fin (xs:List Nat):List Nat:=xs.filter (fun x=>decide (kd x<=2))
theorem wm (xs ys:List Nat):fin (xs++ys)=fin xs++fin ys:=by simp [fin,List.filter_append]
theorem Vh (xs:List Nat):(fin xs).length<=xs.length:=List.length_filter_le _ _
theorem Vi (xs:List Nat) (i:Nat) (h:i<xs.length) (hk:kd (xs.getD i 0)<=2):fin (xs.take (i+1))=fin (xs.take i)++[xs.getD i 0]:=by
 rw [pR xs i h,wm];simp [fin];simpa [eQ] using hk
theorem RH (xs:List Nat) (i:Nat) (h:i<xs.length) (hk:¬ kd (xs.getD i 0)<=2):fin (xs.take (i+1))=fin (xs.take i):=by
 rw [pR xs i h,wm];simp [fin];simpa [eQ] using hk
def kU (a b:Int) (xs:List Nat):Int:=if may a b=false then 1 else if 65536<xs.length then 2 else rf (cn 5 xs:Nat) (cn 3 xs:Nat) (cn 4 xs:Nat) a b
def O4 (a b:Int) (xs:List Nat):List Nat:=if kU a b xs=0 then fin xs else []
def Ic (a b:Int) (xs:List Nat):Value:=if kU a b xs=0 then .agg #[.int .i64 (cn 5 xs:Nat),.int .i64 (cn 3 xs:Nat),.int .i64 (cn 4 xs:Nat),.int .i64 (cn 1 xs:Nat),.int .i64 (cn 2 xs:Nat),.int .i64 (xs.length:Nat)] else .agg #[.int .i64 0,.int .i64 0,.int .i64 0,.int .i64 0,.int .i64 0,.int .i64 0]
def iR (w:World) (a b:Int) (xs:List Nat) (r:Ending) (w':World):Prop:=∃ v,r=.returned (.tuple #[v,Ic a b xs,.int .i64 (kU a b xs)])/\Lt w.heap.size w' v (O4 a b xs)/\Below w.heap.size w w'
theorem iR.no {w w':World}{a b:Int}{xs:List Nat}(e:Int) (he:kU a b xs=e) (h0:e≠0) (hb:Below w.heap.size w w'):iR w a b xs (.returned (.tuple #[.slice none 0 0,.agg #[.int .i64 0,.int .i64 0,.int .i64 0,.int .i64 0,.int .i64 0,.int .i64 0],.int .i64 e])) w':=by
 subst he;refine ⟨.slice none 0 0,?_,?_,hb⟩
 · unfold Ic;rw [if_neg h0]
 · unfold O4;rw [if_neg h0];exact Lt.nil _ _
theorem iR.yes {w w':World}{a b:Int}{xs:List Nat}{v:Value}(he:kU a b xs=0) (hv:Rw w.heap.size w' v (fin xs).length ((fin xs).map U)) (hb:Below w.heap.size w w') :
 iR w a b xs (.returned (.tuple #[v,.agg #[.int .i64 (cn 5 xs:Nat),.int .i64 (cn 3 xs:Nat),.int .i64 (cn 4 xs:Nat),.int .i64 (cn 1 xs:Nat),.int .i64 (cn 2 xs:Nat),.int .i64 (xs.length:Nat)],.int .i64 0])) w':=by
 refine ⟨v,?_,?_,hb⟩
 · rw [he];unfold Ic;rw [if_pos he]
 · unfold O4;rw [if_pos he];exact hv
theorem Rw.below {lo:Nat}{w w':World}{v:Value}{n:Nat}{ys:List Value}(h:Rw lo w v n ys) (hb:Below w.heap.size w w'):Rw lo w' v n ys :=
 KN.row h (KN.below hb)
theorem Rw.but {lo g:Nat}{w w':World}{v:Value}{n:Nat}{ys:List Value}(h:Rw lo w v n ys) (hb:But g w w') {cur:Array Value}{e:TypeId}(he:e≠26) (hg:w.heap[g]?=some (.cells cur e (0,0))):Rw lo w' v n ys:=by
 refine rz h fun k hk=>?_;rcases h.2 with ⟨rfl,_⟩|⟨g2,cap,c2,rfl,_,hg2,_⟩
 · cases hk
 · cases hk
   refine hb.block _ (fJ.1 hg2).1 (fun e2=>?_);subst e2;rw [hg] at hg2
   cases hg2
   exact he rfl
theorem Rw.mono {lo lo':Nat}{w:World}{v:Value}{n:Nat}{ys:List Value}(h:Rw lo w v n ys) (hl:lo'<=lo):Rw lo' w v n ys:=by
 refine ⟨h.1,?_⟩;rcases h.2 with hn|⟨g,cap,cur,rfl,hlo,rest⟩
 · exact .inl hn
 · exact .inr ⟨g,cap,cur,rfl,ae,rest⟩
theorem Rw.low {lo:Nat}{w:World}{v:Value}{n:Nat}{ys:List Value}(h:Rw lo w v n ys):∀ b,v.ownBlock=some b->lo<=b:=by
 intro b hb;rcases h.2 with ⟨rfl,_⟩|⟨g,cap,cur,rfl,hlo,_⟩
 · cases hb
 · cases hb;exact hlo
theorem KQ (n:Nat) (hn:n<=65536) (w:World) :
 (Instr.makeSlice 22 (.int .i64 0) (.int .i64 (n:Nat))).run Tryz.prog w=.ok (.slice (some ⟨w.heap.size,0,none⟩) 0 n) (w.alloc (.cells (madeCells #[.float .f64 0] n) 26)):=by
 obtain ⟨i0,hi,hz0,hz1,hz2⟩:=info_parts Tryz.O3;have hr:=run_make (P:=Tryz.prog) w 22 26 i0 (.float .f64 0) Tryz.underlying22 hi hz0 .i64 .i64 0 (n:Int) (Int.le_refl _) ae (by rw [hz2];omega) ae;rw [hz1,dU] at hr;simp only [oM,Int.toNat_zero] at hr;exact hr
theorem O5 (lo:Nat) (w:World) (n:Nat) (hn:n<=65536) (hlo:lo<=w.heap.size):Rw lo (w.alloc (.cells (madeCells #[.float .f64 0] n) 26)) (.slice (some ⟨w.heap.size,0,none⟩) 0 n) 0 []:=by
 refine ⟨rfl,.inr ⟨w.heap.size,n,madeCells #[.float .f64 0] n,rfl,hlo,iJ w _,ae,by unfold maxLen;omega,?_,?_⟩⟩
 · have:=congrArg List.length (toList_madeCells_one (.float .f64 0) n);simpa using this
 · simp
theorem push (lo:Nat) (w:World) (v:Value) (ys:List Nat) (x:Nat) (hrow:Rw lo w v ys.length (ys.map U)) (hn:ys.length<=65536) (hlo:lo<=w.heap.size) :
 ∃ v' w',(Builtin.append_ #[22,22] 22 #[v,.slice (some ⟨w.heap.size,0,none⟩) 1 1]).run Tryz.prog (w.alloc (.cells #[.float .f64 x] 26))=.ok v' w'/\Rw lo w' v' (ys++[x]).length ((ys++[x]).map U) /\
   Below lo w w'/\(∀ (g:Nat) (cur:Array Value) (e:TypeId),e≠26->w.heap[g]?=some (.cells cur e (0,0))->w'.heap[g]?=some (.cells cur e (0,0)))/\w.heap.size<=w'.heap.size:=by
 obtain ⟨v',w',h1,h2,h3,_,_⟩:=kR (w.alloc (.cells #[.float .f64 x] 26)) lo v ys.length (ys.map U) (.float .f64 x) w.heap.size 22 (hrow.alloc _) (by unfold World.cell?;simp only [iJ];rfl) rfl ae (by simp;omega);refine ⟨v',w',h1,by simpa [U] using h2,((ak lo w).alloc hlo _).grown h3 (by simp;omega) hrow.low,?_,by have:=h3.size;simp at this;omega⟩;intro g cur e he hg;have hgl:=(fJ.1 hg).1;rw [h3.block g (by simp;omega) (fun e2=>?_),Below.heap_alloc _ _ _ hgl]
 · exact hg
 · rcases hrow.2 with ⟨rfl,_⟩ | ⟨g2,cap,c2,rfl,_,hg2,_⟩
   · cases e2
   · cases e2
     rw [hg] at hg2
     cases hg2
     exact he rfl
structure SI (lo sb:Nat) (W1:World) (xs:List Nat) (i:Nat) (a:Int) (v:Value) (wr:World):Prop where
 row:Rw lo wr v (fin (xs.take i)).length ((fin (xs.take i)).map U)
 sp:RF wr sb (xs.take i) a
 aF:Below lo W1 wr
 size:W1.heap.size<=wr.heap.size
theorem SI.kind {lo sb:Nat}{W1:World}{xs:List Nat}{i:Nat}{a:Int}{v:Value}{wr w1:World}(h:SI lo sb W1 xs i a v wr) (hb:Below wr.heap.size wr w1) (hlo:lo<=wr.heap.size):SI lo sb W1 xs i a v w1 :=
 ⟨h.row.below hb,ko.below h.sp hb (ko.lt h.sp),h.aF.trans (hb.mono hlo),dD h.size hb.size⟩
theorem SI.o {lo sb:Nat}{W1:World}{xs:List Nat}{i:Nat}{a:Int}{v:Value}{wr w2:World}(h:SI lo sb W1 xs i a v wr) (hi:i<xs.length) (hs:RF w2 sb (xs.take (i+1)) a) (hb:But sb wr w2) (hlo:lo<=sb) (hl:lo<=wr.heap.size) (hk:¬ kd (xs.getD i 0)<=2):SI lo sb W1 xs (i+1) a v w2 :=
 ⟨by rw [RH xs i hi hk];exact h.row.but hb aO h.sp,hs,But.below h.aF hb hl hlo,dD h.size hb.size⟩
theorem SI.row2 {lo sb:Nat}{W1:World}{xs:List Nat}{i:Nat}{a:Int}{v:Value}{wr w2:World}(h:SI lo sb W1 xs i a v wr) (hb:But sb wr w2):Rw lo w2 v (fin (xs.take i)).length ((fin (xs.take i)).map U):=h.row.but hb aO h.sp
theorem ko.keep {w w':World}{g:Nat}{n u d m p a:Int}(h:ko w g n u d m p a) (hk:∀ (g:Nat) (cur:Array Value) (e:TypeId),e≠26->w.heap[g]?=some (.cells cur e (0,0))->w'.heap[g]?=some (.cells cur e (0,0))):ko w' g n u d m p a :=
 hk _ _ _ aO h
theorem SI.into {lo sb:Nat}{W1:World}{xs:List Nat}{i:Nat}{a:Int}{v v':Value}{wr w2 w3:World}(h:SI lo sb W1 xs i a v wr) (hi:i<xs.length) (hs:RF w2 sb (xs.take (i+1)) a) (hb:But sb wr w2) (hlo:lo<=sb) (hl:lo<=wr.heap.size) (hk:kd (xs.getD i 0)<=2)
 (hrow:Rw lo w3 v' (fin (xs.take i)++[xs.getD i 0]).length ((fin (xs.take i)++[xs.getD i 0]).map U)) (hb3:Below lo w2 w3) (hkeep:∀ (g:Nat) (cur:Array Value) (e:TypeId),e≠26->w2.heap[g]?=some (.cells cur e (0,0))->w3.heap[g]?=some (.cells cur e (0,0))) (hsz:w2.heap.size<=w3.heap.size):SI lo sb W1 xs (i+1) a v' w3 :=
 ⟨by rw [Vi xs i hi hk];exact hrow,ko.keep hs hkeep,(But.below h.aF hb hl hlo).trans hb3,dD (dD h.size hb.size) hsz⟩
theorem Vj (x:Nat) (n u d m p:Nat):(if kp (kd x)=0 then ((n:Nat):Int)+1 else n)=((n+one 5 x:Nat):Int)/\(if kp (kd x)=1 then ((u:Nat):Int)+1 else u)=((u+one 3 x:Nat):Int)/\(if kp (kd x)=2 then ((d:Nat):Int)+1 else d)=((d+one 4 x:Nat):Int) /\
 (if kp (kd x)=3 then ((m:Nat):Int)+1 else m)=((m+one 1 x:Nat):Int)/\(if kp (kd x)=4 then ((p:Nat):Int)+1 else p)=((p+one 2 x:Nat):Int):=by
 have hk:=Tv x;unfold one;generalize kd x=k at hk;obtain rfl|rfl|rfl|rfl|rfl|rfl:k=0\/k=1\/k=2\/k=3\/k=4\/k=5:=ae
 all_goals simp [kp]
theorem Yy (x:Nat):3<=kp (kd x)↔kd x<=2:=by
 have hk:=Tv x;generalize kd x=k at hk;obtain rfl|rfl|rfl|rfl|rfl|rfl:k=0\/k=1\/k=2\/k=3\/k=4\/k=5:=ae
 all_goals simp [kp]
theorem Yz (x:Nat):kp (kd x)<=5:=by unfold kp;(repeat' split) <;> omega
theorem RF.counted {w w':World}{sb:Nat}{xs:List Nat}{i:Nat}{a:Int}(hi:i<xs.length)
 (h:ko w' sb (if kp (kd (xs.getD i 0))=0 then ((cn 5 (xs.take i):Nat):Int)+1 else ((cn 5 (xs.take i):Nat):Int)) (if kp (kd (xs.getD i 0))=1 then ((cn 3 (xs.take i):Nat):Int)+1 else ((cn 3 (xs.take i):Nat):Int)) (if kp (kd (xs.getD i 0))=2 then ((cn 4 (xs.take i):Nat):Int)+1 else ((cn 4 (xs.take i):Nat):Int)) (if kp (kd (xs.getD i 0))=3 then ((cn 1 (xs.take i):Nat):Int)+1 else ((cn 1 (xs.take i):Nat):Int)) (if kp (kd (xs.getD i 0))=4 then ((cn 2 (xs.take i):Nat):Int)+1 else ((cn 2 (xs.take i):Nat):Int)) a) :
 RF w' sb (xs.take (i+1)) a:=by
 obtain ⟨h1,h2,h3,h4,h5⟩:=Vj (xs.getD i 0) (cn 5 (xs.take i)) (cn 3 (xs.take i)) (cn 4 (xs.take i)) (cn 1 (xs.take i)) (cn 2 (xs.take i));rw [h1,h2,h3,h4,h5] at h;unfold RF;rw [qJ 5 xs i hi,qJ 3 xs i hi,qJ 4 xs i hi,qJ 1 xs i hi,qJ 2 xs i hi];exact h
end Ps
namespace Ps
open Go.RowKit
open Go.Proofs.YtblkpkgebigojaaGreatDoor.B (bO aJ bw cO)
attribute [local go_sem] eD bO aJ
theorem O6 (xs:List Nat) (ao:Option Addr) (n cap:Nat) (a b:Int) (w:World) (hm:may a b=false) :
 Calls Tryz.prog 104 #[.slice ao n cap,.agg #[.int .i64 a,.int .i64 b]] w (iR w a b xs):=by
 have H:=hid (zl a b);rw [hm] at H;have HE:Aside (kU a b xs=1):=by unfold kU;rw [hm];rfl
 clear hm;go_enter Tryz.func104,Tryz.ntmps104;go_wp2_with fail;refine (H.o _).mono ?_;rintro r w1 ⟨rfl,hb⟩;have hsz:=hb.size;simp at hsz;obtain ⟨hc,hf⟩:=cO hb;have HB:=ay hb;clear hb;go_wp2;refine aI (v:=.tuple #[.slice none 0 0,.agg #[.int .i64 0,.int .i64 0,.int .i64 0,.int .i64 0,.int .i64 0,.int .i64 0],.int .i64 1]) (by simp [results,Tryz.results104,go_sem,CS,hc]) rfl (iR.no 1 HE.o aO ?_);exact But.below ((((ak _ w).alloc (aH _) _).alloc aW _).trans (HB.o.mono (by simp;omega))) (But.RG (But.refl (w.heap.size+1) _) _ _ _ _ _ _) ae ae
theorem KS (xs:List Nat) (ao:Option Addr) (n cap:Nat) (a b:Int) (w:World) (hn:n=xs.length) (hm:may a b=true) (hl:65536<n) (hn2:n<=35184372088832) :
 Calls Tryz.prog 104 #[.slice ao n cap,.agg #[.int .i64 a,.int .i64 b]] w (iR w a b xs):=by
 have H:=hid (zl a b);rw [hm] at H;have HE:Aside (kU a b xs=2):=by unfold kU;rw [if_neg (by rw [hm];decide),if_pos ae,Aside]
 clear hm hn;go_enter Tryz.func104,Tryz.ntmps104;go_wp2_with fail;refine (H.o _).mono ?_;rintro r w1 ⟨rfl,hb⟩;have hsz:=hb.size;simp at hsz;obtain ⟨hc,hf⟩:=cO hb;have HB:=ay hb;clear hb;go_wp2;refine aI (v:=.tuple #[.slice none 0 0,.agg #[.int .i64 0,.int .i64 0,.int .i64 0,.int .i64 0,.int .i64 0,.int .i64 0],.int .i64 2]) (by simp [results,Tryz.results104,go_sem,CS,hc]) rfl (iR.no 2 HE.o aO ?_);exact But.below ((((ak _ w).alloc (aH _) _).alloc aW _).trans (HB.o.mono (by simp;omega))) (But.RG (But.refl (w.heap.size+1) _) _ _ _ _ _ _) ae ae
set_option maxRecDepth 100000 in
theorem KU (xs:List Nat) (ao:Option Addr) (n cap B:Nat) (a b:Int) (w:World) (hn:n=xs.length) (hm:may a b=true) (hl:n<=65536) (hx:Wf xs) (hR:Rd B w ao xs) (hB:B<=w.heap.size) :
 Calls Tryz.prog 104 #[.slice ao n cap,.agg #[.int .i64 a,.int .i64 b]] w (iR w a b xs):=by
 have H:=hid (zl a b);rw [hm] at H;have HE:Aside (kU a b xs=rf (cn 5 xs:Nat) (cn 3 xs:Nat) (cn 4 xs:Nat) a b):=by unfold kU;rw [if_neg (by rw [hm];decide),if_neg ae,Aside]
 have hmk:=KQ n hl;have HX:=(jK hn hx hR hB);clear hm hn hx hR hB;go_enter Tryz.func104,Tryz.ntmps104;go_wp2_with fail;refine (H.o _).mono ?_;rintro r w1 ⟨rfl,hb⟩;have hsz:=hb.size;simp at hsz;obtain ⟨hc,hf⟩:=cO hb;have HB:=ay hb
 have HZ:Aside (ko w1 (w.heap.size+1) 0 0 0 0 0 0):=by
  have h1:=ko.made (w.alloc (.cells #[.int .i64 a,.int .i64 b] 127)) 0 0 0 0 0 0;simp only [iH] at h1;exact h1.below hb aW
 clear hb;go_wp2
 go_loopg [7,28] n (fun gk lv cv wr=>∃ (i:Nat),gk+i=n/\cv=.int .i64 (i:Nat)/\Aside (SI w1.heap.size (w1.heap.size+1) w1 xs i (n:Nat) lv wr))
 case atStart =>
  refine ⟨0,ae,rfl,?_⟩;have h1:=(O5 w1.heap.size w1 n hl (aH _)).alloc (.cells #[.int .i64 0,.int .i64 0,.int .i64 0,.int .i64 0,.int .i64 0,.int .i64 (n:Nat)] 119);have h2:=ko.made (w1.alloc (.cells (madeCells #[.float .f64 0] n) 26)) 0 0 0 0 0 (n:Nat);simp only [iH] at h2;exact ⟨h1,h2,((ak _ _).alloc (aH _) _).alloc aW _,by simp;omega⟩
 case round =>
  obtain ⟨i,hi,rfl,HA⟩:=hrel
  by_cases hin:i=n
  · obtain rfl:gk=0:=ae
    obtain ⟨hn,hx,hR,hB⟩:=HX.o;have hS:=HA.o;have e:xs.take i=xs:=eF ae;have hT:=hS.sp;unfold RF at hT;rw [e] at hT;have hc0:=hT.c0;have hc1:=hT.c1;have hc2:=hT.c2;have hc3:=hT.c3;have hc4:=hT.c4;have Z9:=hT.c5;have hlt:=hT.lt;have hcb:∀ b o,b<w1.heap.size->wr.cell? ⟨b,o,none⟩=w1.cell? ⟨b,o,none⟩:=fun b o h=>hS.aF.cell (p:=⟨b,o,none⟩) h;have hp0:wr.cell? ⟨w.heap.size,0,none⟩=some (.int .i64 a):=by rw [hcb _ _ ae,hc _ _ (by simp;omega)];simp [go_sem]
    have hp1:wr.cell? ⟨w.heap.size,1,none⟩=some (.int .i64 b):=by rw [hcb _ _ ae,hc _ _ (by simp;omega)];simp [go_sem]
    have hZ:ko wr (w.heap.size+1) 0 0 0 0 0 0:=HZ.o.below hS.aF ae;have hbd:=fun k=>Tw k xs n ae hl;have HRF:=hid (fun w=>CR (cn 5 xs:Nat) (cn 3 xs:Nat) (cn 4 xs:Nat) (cn 1 xs:Nat) (cn 2 xs:Nat) (n:Nat) a b w (hbd 3) (hbd 4));obtain ⟨ee,hee⟩:∃ ee,rf (cn 5 xs:Nat) (cn 3 xs:Nat) (cn 4 xs:Nat) a b=ee:=⟨_,rfl⟩;have HEE:Aside (kU a b xs=ee):=by rw [Aside,HE.o,hee]
    rw [hee] at HRF;obtain ⟨c5,e5⟩:∃ c,cn 5 xs=c:=⟨_,rfl⟩;obtain ⟨c3,e3⟩:∃ c,cn 3 xs=c:=⟨_,rfl⟩;obtain ⟨c4,e4⟩:∃ c,cn 4 xs=c:=⟨_,rfl⟩;obtain ⟨c1,e1⟩:∃ c,cn 1 xs=c:=⟨_,rfl⟩;obtain ⟨c2,e2⟩:∃ c,cn 2 xs=c:=⟨_,rfl⟩;rw [e5,e3,e4,e1,e2] at hT HRF;rw [e5] at hc0;rw [e3] at hc1;rw [e4] at hc2;rw [e1] at hc3;rw [e2] at hc4;have HY:=(r9 hZ hT e e1 e2 e3 e4 e5);have hBs:=hS.size;clear hn hx hR hB hS hT e hcb hbd hee e1 e2 e3 e4 e5 hZ;subst hin;go_wp2_with fail;refine (HRF.o _).mono ?_;rintro r w5 ⟨rfl,hb5⟩;obtain ⟨hZ,hT,e,e1,e2,e3,e4,e5⟩:=HY.o;have Lr:=hZ.below hb5 hZ.lt;have RI:=hT.below hb5 hT.lt;have Zt:=HA.o.row.below hb5;have hZf:=Lr.frozen;have hz0:=Lr.c0;have hz1:=Lr.c1;have hz2:=Lr.c2;have hz3:=Lr.c3;have Jt:=Lr.c4;have Ju:=Lr.c5;have ht0:=RI.c0;have ht1:=RI.c1;have ht2:=RI.c2;have ht3:=RI.c3;have ht4:=RI.c4;have ht5:=RI.c5;have hzl:=Lr.lt;have uW:Below w.heap.size w w5:=((((ak _ w).alloc (aH _) _).alloc aW _).trans (HB.o.mono (by simp;omega))).trans ((HA.o.aF.mono ae).trans (hb5.mono ae));have HV:=(ow uW Zt Lr RI e e1 e2 e3 e4 e5);clear hZ hT e e1 e2 e3 e4 e5 hb5 Lr RI Zt uW hc0 hc1 hc2 hc3 hc4 Z9 hp0 hp1 HY
    by_cases h0:ee=0
    · subst h0;go_wp2
      go_region
      all_goals
       go_wp2;refine aI (v:=.tuple #[u7,.agg #[.int .i64 (c5:Nat),.int .i64 (c3:Nat),.int .i64 (c4:Nat),.int .i64 (c1:Nat),.int .i64 (c2:Nat),.int .i64 (i:Nat)],.int .i64 0]) (by simp [results,Tryz.results104,go_sem,CS,hz0,hz1,hz2,hz3,Jt,Ju]) rfl ?_;obtain ⟨uW,Zt,Lr,RI,e,e1,e2,e3,e4,e5⟩:=HV.o;have aG:But (w.heap.size+1) w5 _:=(But.RG (But.refl (w.heap.size+1) w5) (.int .i64 (c5:Nat)) (.int .i64 (c3:Nat)) (.int .i64 (c4:Nat)) (.int .i64 (c1:Nat)) (.int .i64 (c2:Nat)) (.int .i64 (i:Nat))).drew;have hR6:=Rw.mono (Rw.but Zt aG aO Lr) (show w.heap.size<=w1.heap.size by omega);rw [e] at hR6;have YA:=iR.yes HEE.o hR6 (But.below uW aG ae ae);rw [<-HX.o.1,e1,e2,e3,e4,e5] at YA;exact YA
    · have h0':(ee==0)=false:=by rw [beq_eq_false_iff_ne];exact h0
      go_wp2;refine aI (v:=.tuple #[.slice none 0 0,.agg #[.int .i64 0,.int .i64 0,.int .i64 0,.int .i64 0,.int .i64 0,.int .i64 0],.int .i64 ee]) (by simp [results,Tryz.results104,go_sem,CS,hz0,hz1,hz2,hz3,Jt,Ju]) rfl (iR.no ee HEE.o h0 ?_);exact But.below HV.o.1 (But.RG (But.refl (w.heap.size+1) _) _ _ _ _ _ _) ae ae
  · have hil:i<n:=ae
    obtain ⟨hn,hx,hR,hB⟩:=HX.o;have hS:=HA.o;have hbw:Below w.heap.size w wr:=((((ak _ w).alloc (aH _) _).alloc aW _).trans (HB.o.mono (by simp;omega))).trans (hS.aF.mono ae);have hRw:Rd w.heap.size wr ao xs:=(hR.mono hB).below hbw;obtain ⟨bb,off,hlt2,rfl,hcell⟩:=hRw (by intro e;rw [e] at hn;simp at hn;omega);have WG:=hcell i ae;have Ze:=hx.get i;obtain ⟨x,fH⟩:∃ x,xs.getD i 0=x:=⟨_,rfl⟩;rw [fH] at WG Ze;have HK:=hid (OU x Ze);have hk5:=Yz x;have hk3:=Yy x;obtain ⟨kk,hkk⟩:∃ kk,kp (kd x)=kk:=⟨_,rfl⟩;rw [hkk] at HK hk5 hk3;have l1:(xs.take i).length<=65536:=by rw [eZ];omega
    have hbd:=fun k=>Tw k (xs.take i) 65536 l1 (aH _);have hwl:=hS.size;have HY:=(jE fH hkk hk3 hbd hn hlt2);clear hn hx hR hB hS hbw hRw hcell fH hkk hk3 hbd l1 hin;go_wp2_with fail;refine (HK.o _).mono ?_;rintro r w2 ⟨rfl,hb2⟩;have HS2:=ay (SI.kind HA.o hb2 hwl);have Vk:w2.cell? ⟨bb,off+i,none⟩=some (.float .f64 x):=by rw [hb2.cell (p:=⟨bb,off+i,none⟩) (by have:=HY.o.r5;simp;omega)];exact WG
    have hsz2:=hb2.size;have HC:=hid (KP kk (w1.heap.size+1) _ _ _ _ _ _ w2 hk5 HS2.o.sp (HY.o.r3.1 5) (HY.o.r3.1 3) (HY.o.r3.1 4) (HY.o.r3.1 1) (HY.o.r3.1 2));clear hb2 WG;go_wp2_with fail;refine dQ HC.o ?_;rintro r w3 ⟨rfl,hs3,wo⟩;obtain ⟨fH,hkk,hk3,hbd,hn,hlt2⟩:=HY.o;have RJ:RF w3 (w1.heap.size+1) (xs.take (i+1)) (n:Nat):=RF.counted (w:=w2) ae (by rw [fH,hkk];exact hs3);have hsz3:=wo.size
    have hxc3:w3.cell? ⟨bb,off+i,none⟩=some (.float .f64 x):=by
     have h9:=(But.below (ak w1.heap.size w2) wo ae ae).cell (p:=⟨bb,off+i,none⟩) (by simp;omega);rw [h9];exact Vk
    by_cases hk2:kd x<=2
    · have hge:(3:Int)<=(kk:Int):=by have:=hk3.2 hk2;omega
      obtain ⟨v',w4,hap,hrow4,hb4,O7,YB⟩:=push w1.heap.size w3 u7 (fin (xs.take i)) x (SI.row2 HS2.o wo) (by have h1:=Vh (xs.take i);rw [eZ] at h1;omega) ae;have HI:=ay (SI.into (v':=v') HS2.o ae RJ wo ae ae (by rw [fH];exact hk2) (by rw [fH];exact hrow4) hb4 O7 YB);have IQ:=hid hap;clear hap hrow4 hb4 O7 YB hs3 RJ wo fH hkk hk3 hbd hn hlt2 hk2 Vk
      go_wp2_with (at_builtin;refine dF rfl (.tmp 40) (.tmp 45) 22 rfl _ _ rfl rfl _ _ IQ.o ?_)
      go_roundg (n-(i+1))
      case measure=>omega
      case rel=>exact ⟨i+1,ae,by first | go_num | (congr 1;omega),HI⟩
    · have hge:decide ((3:Int)<=(kk:Int))=false:=decide_eq_false (fun h=>hk2 (hk3.1 ae));have HI:=ay (SI.o HS2.o ae RJ wo ae ae (by rw [fH];exact hk2));clear hs3 RJ wo fH hkk hk3 hbd hn hlt2 hk2 Vk;go_wp2;go_roundg (n-(i+1))
      case measure=>omega
      case rel=>exact ⟨i+1,ae,by first | go_num | (congr 1;omega),HI⟩
theorem O8 (xs:List Nat) (ao:Option Addr) (n cap B:Nat) (a b:Int) (w:World) (hn:n=xs.length) (hm:n<=35184372088832) (hx:Wf xs) (hR:Rd B w ao xs) (hB:B<=w.heap.size) :
 Calls Tryz.prog 104 #[.slice ao n cap,.agg #[.int .i64 a,.int .i64 b]] w (iR w a b xs):=by
 rcases h:may a b with _|_
 · exact O6 xs ao n cap a b w h
 · by_cases hl:65536<n
   · exact KS xs ao n cap a b w hn h hl hm
   · exact KU xs ao n cap B a b w hn h ae hx hR hB
end Ps
section
open Go Go.RowKit J
theorem RL {B:Nat}{w:World}{a:Option Addr}{xs:List Nat}(h:Fs B w a xs):Ps.Rd B w a xs:=h
theorem RN {lo:Nat}{w:World}{v:Value}{xs:List Nat}(h:Ps.Lt lo w v xs):∃ a c,v=.slice a xs.length c:=by
 rcases h.2 with ⟨rfl,h0⟩|⟨g,cap,cur,rfl,hlo,hg,rest⟩
 · exact ⟨none,0,by rw [h0]⟩
 · exact ⟨_,cap,rfl⟩
def oI (xs:List Nat):Bool:=xs.all (fun x=>decide (eu x<9218868437227405312))
theorem uA (xs:List Nat):oI xs=true↔∀ x ∈ xs,jC x:=by
 unfold oI;rw [List.all_eq_true];constructor
 · intro h x hx;exact of_decide_eq_true (h x hx)
 · intro h x hx;exact decide_eq_true (h x hx)
theorem KV:∃ d:TypeDesc,Tryz.prog.underlying 127=some d/\d.isRow=true:=by
 have h:(Tryz.prog.underlying 127).any (·.isRow)=true:=by kernel_rfl
 cases hd:Tryz.prog.underlying 127 with
 | none=>rw [hd] at h;cases h
 | some d=>rw [hd] at h;exact ⟨d,rfl,h⟩
theorem Fz:(Tryz.prog.info? 127).map (·.size)=some 2:=by kernel_rfl
theorem RO (w:World):Calls Tryz.prog 105 #[] w fun r w'=>r=.returned (.agg #[.int .i64 0,.int .i64 0])/\Below w.heap.size w w':=by
 obtain ⟨W,hW⟩:=ah (w.alloc (Obj.cells #[.int .i64 0,.int .i64 0] 127))
 have B0:Aside (Bl W w.heap.size 127 [.int .i64 0,.int .i64 0]/\Below w.heap.size w W):=by
  rw [hW];exact ⟨Bl.new _ 127 [_,_],au _ _⟩
 have HW:=ay hW;clear hW;go_enter Tryz.func105,Tryz.ntmps105
 go_upto_region 1 with fail
 rw [<-HW.o];clear HW;have z0:=B0.o.1.cell 0 _ rfl;have z1:=B0.o.1.cell 1 _ rfl;have f0:=B0.o.1.frozen 0;have f1:=B0.o.1.frozen 1;go_wp2;have hbt:But w.heap.size W _:=((But.refl w.heap.size W).set 0 (.int .i64 0)).set 1 (.int .i64 0);refine aI (v:=.agg #[.int .i64 0,.int .i64 0]) (jB Tryz.results105 _ _ w.heap.size [.int .i64 0,.int .i64 0] ?_ ((B0.o.1.set 0 (.int .i64 0)).set 1 (.int .i64 0)) KV (by rw [Fz];rfl)) rfl ⟨rfl,But.below B0.o.2 hbt B0.o.2.size (aH _)⟩;rfl
theorem zO {x:Nat}(hx:x<18446744073709551616):jC x↔kd x≠5/\kd x≠3/\kd x≠4:=by
 have em:eu x=x%9223372036854775808:=rfl;show eu x<9218868437227405312↔_;unfold kd;rcases mY (eu x) 9218868437227405312 with q|q|q
 · rw [if_neg ae,if_neg ae];refine ⟨fun _=>?_,fun _=>q⟩
   split
   · split <;> decide
   · decide
 · rw [if_neg ae,if_pos ae];refine ⟨fun h=>by omega,fun h=>?_⟩
   split at h <;> simp at h
 · rw [if_pos ae];exact ⟨fun h=>by omega,fun h=>by simp at h⟩
theorem RP (k:Nat) (xs:List Nat):Ps.cn k xs=0↔∀ x ∈ xs,kd x≠k:=by
 unfold Ps.cn;rw [List.countP_eq_zero];constructor
 · intro h x hx;simpa using h x hx
 · intro h x hx;simpa using h x hx
theorem YC {xs:List Nat}(hW:iZ xs):oI xs=(decide (Ps.cn 5 xs=0)&&decide (Ps.cn 3 xs=0)&&decide (Ps.cn 4 xs=0)):=by
 rw [xw,uA];simp only [xu,decide_eq_true_eq,RP];constructor
 · intro h;exact ⟨⟨fun x hx=>((zO (hW x hx)).1 (h x hx)).1,fun x hx=>((zO (hW x hx)).1 (h x hx)).2.1⟩,fun x hx=>((zO (hW x hx)).1 (h x hx)).2.2⟩
 · intro h x hx;exact (zO (hW x hx)).2 ⟨h.1.1 x hx,h.1.2 x hx,h.2 x hx⟩
theorem FC {xs:List Nat}(h:xs.length<=65536):Ps.kU 0 0 xs=0:=by
 unfold Ps.kU Ps.rf;rw [if_neg aO,if_neg ae,if_neg ae,if_neg ae]
theorem Vl (xs:List Nat) (a:Option Addr) (n c:Nat) (w:World) (hn:n=xs.length) (hl:n<=65536) (hF:Fs w.heap.size w a xs) (hW:iZ xs) :
 Calls Tryz.prog 104 #[.slice a n c,.agg #[.int .i64 0,.int .i64 0]] w fun r w'=>(∃ a' m c',r=.returned (.tuple #[.slice a' m c',.agg #[.int .i64 (Ps.cn 5 xs:Nat),.int .i64 (Ps.cn 3 xs:Nat),.int .i64 (Ps.cn 4 xs:Nat),.int .i64 (Ps.cn 1 xs:Nat),.int .i64 (Ps.cn 2 xs:Nat),.int .i64 (xs.length:Nat)],.int .i64 0]))/\Below w.heap.size w w':=by
 refine (Ps.O8 xs a n c w.heap.size 0 0 w hn ae hW (RL hF) (aH _)).mono ?_;rintro r w' ⟨v,rfl,hL,hb⟩;refine ⟨?_,hb⟩;have h0:=FC (xs:=xs) ae;unfold Ps.Ic;rw [if_pos h0,h0];obtain ⟨a',c',rfl⟩:=RN hL;exact ⟨a',_,c',rfl⟩
theorem wu (xs:List Nat) (a:Option Addr) (n c:Nat) (w:World) (hn:n=xs.length) (hl:n<=65536) (hF:Fs w.heap.size w a xs) (hW:iZ xs) :
 Calls Tryz.prog 73 #[.slice a n c] w fun r w'=>r=.returned (.bool (oI xs))/\Below w.heap.size w w':=by
 have C:=hid (RO w);have D:Hid (∀ u:World,Below w.heap.size w u->_):=fun u hu=>Vl xs a n c u hn hl ((hF.below hu).mono hu.size) hW;rw [YC hW];obtain ⟨k5,e5⟩:=ah (Ps.cn 5 xs);obtain ⟨k3,e3⟩:=ah (Ps.cn 3 xs);obtain ⟨k4,e4⟩:=ah (Ps.cn 4 xs);obtain ⟨k1,e1⟩:=ah (Ps.cn 1 xs);obtain ⟨k2,e2⟩:=ah (Ps.cn 2 xs);rw [<-e5,<-e3,<-e4,<-e1,<-e2] at D;rw [<-e5,<-e3,<-e4];clear hn hF hW e5 e3 e4 e1 e2;go_enter Tryz.func73,Tryz.ntmps73;go_wp2_with fail;refine C.o.mono ?_;rintro r u ⟨rfl,hb⟩;have D1:=hid (D.o u hb);have HB:=ay hb;clear C D hb;go_wp2_with fail;refine D1.o.mono ?_;rintro r u2 ⟨⟨a',m',c',rfl⟩,hb⟩;obtain ⟨g,hg⟩:=ah (u2.heap.size);obtain ⟨U,hU⟩:=ah (u2.alloc (Obj.cells #[.int .i64 (k5:Nat),.int .i64 (k3:Nat),.int .i64 (k4:Nat),.int .i64 (k1:Nat),.int .i64 (k2:Nat),.int .i64 (xs.length:Nat)] 119))
 have H1:Aside (Bl U g 119 [.int .i64 (k5:Nat),.int .i64 (k3:Nat),.int .i64 (k4:Nat),.int .i64 (k1:Nat),.int .i64 (k2:Nat),.int .i64 (xs.length:Nat)]/\Below w.heap.size w U):=by
  rw [hU,hg];exact ⟨Bl.new _ 119 [_,_,_,_,_,_],(HB.o.trans (hb.mono HB.o.size)).trans ((au _ _).mono (dD HB.o.size hb.size))⟩
 have HU:=(bB hU hg);clear hU hg hb HB D1
 go_upto_region 2 with fail
 rw [<-HU.o.1,<-HU.o.2];clear HU;have z0:=H1.o.1.cell 0 _ rfl;have z1:=H1.o.1.cell 1 _ rfl;have z2:=H1.o.1.cell 2 _ rfl;have z3:=H1.o.1.cell 3 _ rfl;have z4:=H1.o.1.cell 4 _ rfl;have z5:=H1.o.1.cell 5 _ rfl;go_wp2
 all_goals (
  first
   | (refine aI (v:=.bool true) (?_:_=_) rfl ⟨?_,H1.o.2⟩
      · simp [results,Tryz.results73,go_sem];done
      · simp [*];done)
   | (refine aI (v:=.bool false) (?_:_=_) rfl ⟨?_,H1.o.2⟩
      · simp [results,Tryz.results73,go_sem];done
      · simp [*];done))
def rU (xs ys zs:List Nat) (mode:Int) (least:Nat):Int :=
 if mode<0\/4<mode then 1 else if 65536<xs.length\/65536<ys.length then 2 else if xs.length≠ys.length then 4
 else if (oI xs&&oI ys&&oI zs)=false then 30 else if xs.length<least then 3 else 0
theorem zP (xs ys zs:List Nat) (a b e:Option Addr) (n m k c d f:Nat) (mode:Int) (least:Nat) (w:World) (hn:n=xs.length) (hm:m=ys.length) (hk:k=zs.length) (hkl:k<=1) (hll:least<=2)
 (hF:Fs w.heap.size w a xs) (hG:Fs w.heap.size w b ys) (hH:Fs w.heap.size w e zs) (hW:iZ xs) (hV:iZ ys) (hU:iZ zs) :
 Calls Tryz.prog 34 #[.slice a n c,.slice b m d,.int .i64 mode,.int .i64 (least:Nat),.slice e k f] w fun r w'=>r=.returned (.int .i64 (rU xs ys zs mode least))/\Below w.heap.size w w':=by
 obtain ⟨E,hE⟩:=ah (rU xs ys zs mode least);rw [<-hE];unfold rU at hE;rw [<-hn,<-hm] at hE
 by_cases h1:mode<0\/4<mode
 · rw [if_pos h1] at hE;subst hE;clear hn hm hk hF hG hH hW hV hU;rcases Int.lt_or_le mode 0 with q|q
   · have h2:decide (mode<0)=true:=decide_eq_true q;go_enter Tryz.func34,Tryz.ntmps34;go_wp2;exact aI (v:=.int .i64 1) (by simp [results,Tryz.results34,go_sem]) rfl ⟨rfl,ak _ _⟩
   · have h2:decide (mode<0)=false:=decide_eq_false ae;have h3:decide (4<mode)=true:=decide_eq_true ae;go_enter Tryz.func34,Tryz.ntmps34;go_wp2;exact aI (v:=.int .i64 1) (by simp [results,Tryz.results34,go_sem]) rfl ⟨rfl,ak _ _⟩
 rw [if_neg h1] at hE;have m0:decide (mode<0)=false:=decide_eq_false ae;have m4:decide (4<mode)=false:=decide_eq_false ae
 by_cases h2:65536<n\/65536<m
 · rw [if_pos h2] at hE;subst hE;clear hn hm hk hF hG hH hW hV hU;rcases mH 65536 n with q|q
   · have h3:decide ((65536:Int)<(n:Int))=true:=decide_eq_true ae;go_enter Tryz.func34,Tryz.ntmps34;go_wp2;exact aI (v:=.int .i64 2) (by simp [results,Tryz.results34,go_sem]) rfl ⟨rfl,ak _ _⟩
   · have h3:decide ((65536:Int)<(n:Int))=false:=decide_eq_false ae;have h4:decide ((65536:Int)<(m:Int))=true:=decide_eq_true ae;go_enter Tryz.func34,Tryz.ntmps34;go_wp2;exact aI (v:=.int .i64 2) (by simp [results,Tryz.results34,go_sem]) rfl ⟨rfl,ak _ _⟩
 rw [if_neg h2] at hE;have n6:decide ((65536:Int)<(n:Int))=false:=decide_eq_false ae;have n7:decide ((65536:Int)<(m:Int))=false:=decide_eq_false ae
 by_cases h3:n=m
 · rw [if_neg (by simpa using h3)] at hE;have C1:Hid (∀ u:World,Below w.heap.size w u->Calls Tryz.prog 73 #[.slice a n c] u fun r w'=>r=.returned (.bool (oI xs))/\Below u.heap.size u w'):=fun u hu=>wu xs a n c u hn ae ((hF.below hu).mono hu.size) hW;have C2:Hid (∀ u:World,Below w.heap.size w u->Calls Tryz.prog 73 #[.slice b m d] u fun r w'=>r=.returned (.bool (oI ys))/\Below u.heap.size u w'):=fun u hu=>wu ys b m d u hm ae ((hG.below hu).mono hu.size) hV;have C3:Hid (∀ u:World,Below w.heap.size w u->Calls Tryz.prog 73 #[.slice e k f] u fun r w'=>r=.returned (.bool (oI zs))/\Below u.heap.size u w'):=fun u hu=>wu zs e k f u hk ae ((hH.below hu).mono hu.size) hU;clear hn hm hk hF hG hH hW hV hU;subst h3;have hz:=ay hE;clear hE h1 h2
   cases f1:oI xs with
   | false =>
     have hE:=hz.o;rw [f1] at C1 hE;rw [xC,xC,if_pos rfl] at hE;subst hE;clear hz f1 C2 C3;go_enter Tryz.func34,Tryz.ntmps34;go_wp2_with fail;refine (C1.o _ (ak _ _)).mono ?_;rintro r u ⟨rfl,hb⟩;have HB:=ay hb;clear hb C1;go_wp2;exact aI (v:=.int .i64 30) (by simp [results,Tryz.results34,go_sem]) rfl ⟨rfl,HB.o⟩
   | true =>
   rw [f1] at C1 hz
   cases f2:oI ys with
   | false =>
     have hE:=hz.o;rw [f2] at C2 hE;rw [xD,xC,if_pos rfl] at hE;subst hE;clear hz f1 f2 C3;go_enter Tryz.func34,Tryz.ntmps34;go_wp2_with fail;refine (C1.o _ (ak _ _)).mono ?_;rintro r u ⟨rfl,hb⟩;have HB:=ay hb;have D2:=hid (C2.o u hb);clear hb C1 C2;go_wp2_with fail;refine D2.o.mono ?_;rintro r u2 ⟨rfl,hb⟩;have HB2:=ay (HB.o.trans (hb.mono HB.o.size));clear hb D2 HB;go_wp2;exact aI (v:=.int .i64 30) (by simp [results,Tryz.results34,go_sem]) rfl ⟨rfl,HB2.o⟩
   | true =>
   rw [f2] at C2 hz;have hE:=hz.o;rw [xD,xD] at hE;clear hz f1 f2;obtain ⟨z,hz⟩:=ah (oI zs);rw [<-hz] at C3 hE;clear hz;have HE:=ay hE;clear hE;have hlt:decide ((n:Int)<(least:Int))=decide (n<least):=by simp
   go_enter Tryz.func34,Tryz.ntmps34;go_wp2_with fail;refine (C1.o _ (ak _ _)).mono ?_;rintro r u ⟨rfl,hb⟩;have HB:=ay hb;have D2:=hid (C2.o u hb);clear hb C1 C2;go_wp2_with fail;refine D2.o.mono ?_;rintro r u2 ⟨rfl,hb⟩;have HB2:=ay (HB.o.trans (hb.mono HB.o.size));have D3:=hid (C3.o u2 HB2.o);clear hb D2 HB C3;go_wp2_with fail;refine D3.o.mono ?_;rintro r u3 ⟨rfl,hb⟩;have HB3:=ay (HB2.o.trans (hb.mono HB2.o.size));clear hb D3 HB2
   cases z with
   | false =>
     have hE:=HE.o;rw [if_pos rfl] at hE;subst hE;go_wp2;exact aI (v:=.int .i64 30) (by simp [results,Tryz.results34,go_sem]) rfl ⟨rfl,HB3.o⟩
   | true =>
     have hE:=HE.o;rw [if_neg aO] at hE
     by_cases hq:n<least
     · rw [if_pos hq] at hE;subst hE;rw [decide_eq_true hq] at hlt;go_wp2;exact aI (v:=.int .i64 3) (by simp [results,Tryz.results34,go_sem]) rfl ⟨rfl,HB3.o⟩
     · rw [if_neg hq] at hE;subst hE;rw [decide_eq_false hq] at hlt;go_wp2;exact aI (v:=.int .i64 0) (by simp [results,Tryz.results34,go_sem]) rfl ⟨rfl,HB3.o⟩
 · rw [if_pos h3] at hE;subst hE;have h4:((n:Int)==(m:Int))=false:=by simp;omega
   clear hn hm hk hF hG hH hW hV hU;go_enter Tryz.func34,Tryz.ntmps34;go_wp2;exact aI (v:=.int .i64 4) (by simp [results,Tryz.results34,go_sem]) rfl ⟨rfl,ak _ _⟩
theorem zQ {w:World}{a:Option Addr}{c:Nat}{o:Option (Bool×Nat×Int)}(F:Fm o) (N:Nt 0 w (.slice a (ws (dX o)).length c) (dX o)) :
 Calls Tryz.prog 58 #[.agg #[.bool (dN o),.slice a (ws (dX o)).length c,.int .i64 (dE o)]] w fun r w'=>r=.returned (.int .i64 (qN (dN o) (dX o)))/\Below w.heap.size w w':=by
 have:=yh (F.a12 N) (dN o) (dE o);rw [ax] at this;exact this
theorem mE (n:Bool) (x:Nat):(qN n x==0)=decide (x=0):=by
 unfold qN
 by_cases h:x=0
 · simp [h]
 · cases n <;> simp [h]
theorem ou {w:World}{a0 a1 a2 a3 a4:Option Addr}{c0 c1 c2 c3 c4:Nat}{o0 o1 o2 o3 o4:Option (Bool×Nat×Int)}(F1:Fm o1) (HN:Nt 0 w (.slice a0 (ws (dX o0)).length c0) (dX o0)/\Nt 0 w (.slice a1 (ws (dX o1)).length c1) (dX o1)/\Nt 0 w (.slice a2 (ws (dX o2)).length c2) (dX o2)/\Nt 0 w (.slice a3 (ws (dX o3)).length c3) (dX o3)/\Nt 0 w (.slice a4 (ws (dX o4)).length c4) (dX o4)) :
 Calls Tryz.prog 36 #[.agg #[.bool (dN o0),.slice a0 (ws (dX o0)).length c0,.int .i64 (dE o0),.bool (dN o1),.slice a1 (ws (dX o1)).length c1,.int .i64 (dE o1),.bool (dN o2),.slice a2 (ws (dX o2)).length c2,.int .i64 (dE o2),.bool (dN o3),.slice a3 (ws (dX o3)).length c3,.int .i64 (dE o3),.bool (dN o4),.slice a4 (ws (dX o4)).length c4,.int .i64 (dE o4)]] w fun r w'=>r=.returned (.bool (decide (dX o1=0)))/\Below w.heap.size w w':=by
 obtain ⟨W,hW⟩:=ah (w.alloc (Obj.cells #[.bool (dN o0),.slice a0 (ws (dX o0)).length c0,.int .i64 (dE o0),.bool (dN o1),.slice a1 (ws (dX o1)).length c1,.int .i64 (dE o1),.bool (dN o2),.slice a2 (ws (dX o2)).length c2,.int .i64 (dE o2),.bool (dN o3),.slice a3 (ws (dX o3)).length c3,.int .i64 (dE o3),.bool (dN o4),.slice a4 (ws (dX o4)).length c4,.int .i64 (dE o4)] 64));obtain ⟨g,hg⟩:=ah (w.heap.size)
 have B0:Aside (Bl W g 64 [.bool (dN o0),.slice a0 (ws (dX o0)).length c0,.int .i64 (dE o0),.bool (dN o1),.slice a1 (ws (dX o1)).length c1,.int .i64 (dE o1),.bool (dN o2),.slice a2 (ws (dX o2)).length c2,.int .i64 (dE o2),.bool (dN o3),.slice a3 (ws (dX o3)).length c3,.int .i64 (dE o3),.bool (dN o4),.slice a4 (ws (dX o4)).length c4,.int .i64 (dE o4)]/\Below w.heap.size w W):=by
  rw [hW,hg];exact ⟨Bl.new _ 64 [.bool (dN o0),.slice a0 (ws (dX o0)).length c0,.int .i64 (dE o0),.bool (dN o1),.slice a1 (ws (dX o1)).length c1,.int .i64 (dE o1),.bool (dN o2),.slice a2 (ws (dX o2)).length c2,.int .i64 (dE o2),.bool (dN o3),.slice a3 (ws (dX o3)).length c3,.int .i64 (dE o3),.bool (dN o4),.slice a4 (ws (dX o4)).length c4,.int .i64 (dE o4)],au _ _⟩
 have NW:Aside (Nt 0 W (.slice a0 (ws (dX o0)).length c0) (dX o0)/\Nt 0 W (.slice a1 (ws (dX o1)).length c1) (dX o1)/\Nt 0 W (.slice a2 (ws (dX o2)).length c2) (dX o2)/\Nt 0 W (.slice a3 (ws (dX o3)).length c3) (dX o3)/\Nt 0 W (.slice a4 (ws (dX o4)).length c4) (dX o4)):=⟨HN.1.below B0.o.2,HN.2.1.below B0.o.2,HN.2.2.1.below B0.o.2,HN.2.2.2.1.below B0.o.2,HN.2.2.2.2.below B0.o.2⟩;have HW:=(bB hW hg);clear hW hg;have C:=hid (zQ F1 NW.o.2.1);have hs:=mE (dN o1) (dX o1);obtain ⟨s,hs2⟩:=ah (qN (dN o1) (dX o1));rw [<-hs2] at C hs;rw [<-hs];clear HN F1 hs hs2 NW;go_enter Tryz.func36,Tryz.ntmps36
 go_upto_region 1 with fail
 rw [<-HW.o.1,<-HW.o.2];clear HW;have z3:=B0.o.1.cell 3 _ rfl;have z4:=B0.o.1.cell 4 _ rfl;have z5:=B0.o.1.cell 5 _ rfl;go_wp2_with fail;refine C.o.mono ?_;rintro r u ⟨rfl,hb⟩;have BE:=ay (B0.o.2.trans (hb.mono B0.o.2.size));clear hb C B0 z3 z4 z5;go_wp2;exact aI (v:=.bool (s==0)) (by simp [results,Tryz.results36,go_sem]) rfl ⟨rfl,BE.o⟩
theorem Vm {w:World}{a0 a1 a2 a3 a4:Option Addr}{c0 c1 c2 c3 c4:Nat}{o0 o1 o2 o3 o4:Option (Bool×Nat×Int)}(pc pd:Option (Bool×Nat×Int)) (mode:Int) (FF:Aside (Fm o1/\Fm o2/\Fm o3/\Fm pc/\Fm pd)) (EE:Aside (eY o2 o2=pc/\eY o1 o3=pd)) (HT:Aside (∀ u:World,Below w.heap.size w u->il u)) (HN:Nt 0 w (.slice a0 (ws (dX o0)).length c0) (dX o0)/\Nt 0 w (.slice a1 (ws (dX o1)).length c1) (dX o1)/\Nt 0 w (.slice a2 (ws (dX o2)).length c2) (dX o2)/\Nt 0 w (.slice a3 (ws (dX o3)).length c3) (dX o3)/\Nt 0 w (.slice a4 (ws (dX o4)).length c4) (dX o4)) :
 Calls Tryz.prog 38 #[.agg #[.bool (dN o0),.slice a0 (ws (dX o0)).length c0,.int .i64 (dE o0),.bool (dN o1),.slice a1 (ws (dX o1)).length c1,.int .i64 (dE o1),.bool (dN o2),.slice a2 (ws (dX o2)).length c2,.int .i64 (dE o2),.bool (dN o3),.slice a3 (ws (dX o3)).length c3,.int .i64 (dE o3),.bool (dN o4),.slice a4 (ws (dX o4)).length c4,.int .i64 (dE o4)],.int .i64 mode] w fun r w'=>r=.returned (.float .f64 (if dX o3=0 then 4607182418800017408 else (iC pc pd mode).1))/\Below w.heap.size w w':=by
 obtain ⟨W,hW⟩:=ah (w.alloc (Obj.cells #[.bool (dN o0),.slice a0 (ws (dX o0)).length c0,.int .i64 (dE o0),.bool (dN o1),.slice a1 (ws (dX o1)).length c1,.int .i64 (dE o1),.bool (dN o2),.slice a2 (ws (dX o2)).length c2,.int .i64 (dE o2),.bool (dN o3),.slice a3 (ws (dX o3)).length c3,.int .i64 (dE o3),.bool (dN o4),.slice a4 (ws (dX o4)).length c4,.int .i64 (dE o4)] 64));obtain ⟨g,hg⟩:=ah (w.heap.size)
 have B0:Aside (Bl W g 64 [.bool (dN o0),.slice a0 (ws (dX o0)).length c0,.int .i64 (dE o0),.bool (dN o1),.slice a1 (ws (dX o1)).length c1,.int .i64 (dE o1),.bool (dN o2),.slice a2 (ws (dX o2)).length c2,.int .i64 (dE o2),.bool (dN o3),.slice a3 (ws (dX o3)).length c3,.int .i64 (dE o3),.bool (dN o4),.slice a4 (ws (dX o4)).length c4,.int .i64 (dE o4)]/\Below w.heap.size w W):=by
  rw [hW,hg];exact ⟨Bl.new _ 64 [.bool (dN o0),.slice a0 (ws (dX o0)).length c0,.int .i64 (dE o0),.bool (dN o1),.slice a1 (ws (dX o1)).length c1,.int .i64 (dE o1),.bool (dN o2),.slice a2 (ws (dX o2)).length c2,.int .i64 (dE o2),.bool (dN o3),.slice a3 (ws (dX o3)).length c3,.int .i64 (dE o3),.bool (dN o4),.slice a4 (ws (dX o4)).length c4,.int .i64 (dE o4)],au _ _⟩
 have NW:Aside (Nt 0 W (.slice a0 (ws (dX o0)).length c0) (dX o0)/\Nt 0 W (.slice a1 (ws (dX o1)).length c1) (dX o1)/\Nt 0 W (.slice a2 (ws (dX o2)).length c2) (dX o2)/\Nt 0 W (.slice a3 (ws (dX o3)).length c3) (dX o3)/\Nt 0 W (.slice a4 (ws (dX o4)).length c4) (dX o4)):=⟨HN.1.below B0.o.2,HN.2.1.below B0.o.2,HN.2.2.1.below B0.o.2,HN.2.2.2.1.below B0.o.2,HN.2.2.2.2.below B0.o.2⟩;have HW:=(bB hW hg);clear hW hg;have C:=hid (zQ FF.o.r2.1 NW.o.r3.1);have hs:=mE (dN o3) (dX o3);obtain ⟨s,hs2⟩:=ah (qN (dN o3) (dX o3));rw [<-hs2] at C hs;clear hs2
 by_cases h0:dX o3=0
 · rw [if_pos h0];rw [decide_eq_true h0] at hs;clear NW HN FF EE h0;go_enter Tryz.func38,Tryz.ntmps38
   go_upto_region 1 with fail
   rw [<-HW.o.1,<-HW.o.2];clear HW;have z9:=B0.o.1.cell 9 _ rfl;have Wn:=B0.o.1.cell 10 _ rfl;have Wo:=B0.o.1.cell 11 _ rfl;go_wp2_with fail;refine C.o.mono ?_;rintro r u ⟨rfl,hb⟩;have BE:=ay (B0.o.2.trans (hb.mono B0.o.2.size));clear hb C B0 z9 Wn Wo;go_wp2;exact aI (v:=.float .f64 4607182418800017408) (by simp [results,Tryz.results38,go_sem]) rfl ⟨rfl,BE.o⟩
 rw [if_neg h0];rw [decide_eq_false h0] at hs;clear h0;go_enter Tryz.func38,Tryz.ntmps38
 go_upto_region 1 with fail
 rw [<-HW.o.1,<-HW.o.2];clear HW;have z9:=B0.o.1.cell 9 _ rfl;have Wn:=B0.o.1.cell 10 _ rfl;have Wo:=B0.o.1.cell 11 _ rfl;go_wp2_with fail;refine C.o.mono ?_;rintro r u ⟨rfl,hb⟩;have NW2:Aside (Nt 0 u (.slice a0 (ws (dX o0)).length c0) (dX o0)/\Nt 0 u (.slice a1 (ws (dX o1)).length c1) (dX o1)/\Nt 0 u (.slice a2 (ws (dX o2)).length c2) (dX o2)/\Nt 0 u (.slice a3 (ws (dX o3)).length c3) (dX o3)/\Nt 0 u (.slice a4 (ws (dX o4)).length c4) (dX o4)):=⟨NW.o.1.below hb,NW.o.2.1.below hb,NW.o.r2.1.below hb,NW.o.r3.1.below hb,NW.o.r4.below hb⟩;have B2:=bB (B0.o.1.below hb B0.o.1.lt) (B0.o.2.trans (hb.mono B0.o.2.size));clear hb C B0 z9 Wn Wo NW HN;have NW:=NW2;have B0:=B2;clear NW2 B2;obtain ⟨W,hW⟩:=ah u;rw [<-hW] at B0 NW |-;clear hW
 go_upto_region 3 with fail
 have BD:Aside (Nt 0 W.drew (.slice a0 (ws (dX o0)).length c0) (dX o0)/\Nt 0 W.drew (.slice a1 (ws (dX o1)).length c1) (dX o1)/\Nt 0 W.drew (.slice a2 (ws (dX o2)).length c2) (dX o2)/\Nt 0 W.drew (.slice a3 (ws (dX o3)).length c3) (dX o3)/\Nt 0 W.drew (.slice a4 (ws (dX o4)).length c4) (dX o4)/\Below w.heap.size w W.drew):=⟨NW.o.1.below (ak _ _).drew,NW.o.2.1.below (ak _ _).drew,NW.o.r2.1.below (ak _ _).drew,NW.o.r3.1.below (ak _ _).drew,NW.o.r4.below (ak _ _).drew,B0.o.2.drew⟩;have kS:Aside (W.drew.cell? ⟨g,0,none⟩=some (.bool (dN o0))/\W.drew.cell? ⟨g,1,none⟩=some (.slice a0 (ws (dX o0)).length c0)/\W.drew.cell? ⟨g,2,none⟩=some (.int .i64 (dE o0))/\W.drew.cell? ⟨g,3,none⟩=some (.bool (dN o1))/\W.drew.cell? ⟨g,4,none⟩=some (.slice a1 (ws (dX o1)).length c1)/\W.drew.cell? ⟨g,5,none⟩=some (.int .i64 (dE o1))/\W.drew.cell? ⟨g,6,none⟩=some (.bool (dN o2))/\W.drew.cell? ⟨g,7,none⟩=some (.slice a2 (ws (dX o2)).length c2)/\W.drew.cell? ⟨g,8,none⟩=some (.int .i64 (dE o2))/\W.drew.cell? ⟨g,9,none⟩=some (.bool (dN o3))/\W.drew.cell? ⟨g,10,none⟩=some (.slice a3 (ws (dX o3)).length c3)/\W.drew.cell? ⟨g,11,none⟩=some (.int .i64 (dE o3))/\W.drew.cell? ⟨g,12,none⟩=some (.bool (dN o4))/\W.drew.cell? ⟨g,13,none⟩=some (.slice a4 (ws (dX o4)).length c4)/\W.drew.cell? ⟨g,14,none⟩=some (.int .i64 (dE o4))):=⟨B0.o.1.cell 0 _ rfl,B0.o.1.cell 1 _ rfl,B0.o.1.cell 2 _ rfl,B0.o.1.cell 3 _ rfl,B0.o.1.cell 4 _ rfl,B0.o.1.cell 5 _ rfl,B0.o.1.cell 6 _ rfl,B0.o.1.cell 7 _ rfl,B0.o.1.cell 8 _ rfl,B0.o.1.cell 9 _ rfl,B0.o.1.cell 10 _ rfl,B0.o.1.cell 11 _ rfl,B0.o.1.cell 12 _ rfl,B0.o.1.cell 13 _ rfl,B0.o.1.cell 14 _ rfl⟩;clear B0 NW;refine bA (fun w'=>w'.cell? ⟨g,0,none⟩=some (.bool (dN o0))/\w'.cell? ⟨g,1,none⟩=some (.slice a0 (ws (dX o0)).length c0)/\w'.cell? ⟨g,2,none⟩=some (.int .i64 (dE o0))/\w'.cell? ⟨g,3,none⟩=some (.bool (dN o1))/\w'.cell? ⟨g,4,none⟩=some (.slice a1 (ws (dX o1)).length c1)/\w'.cell? ⟨g,5,none⟩=some (.int .i64 (dE o1))/\w'.cell? ⟨g,6,none⟩=some (.bool (dN o2))/\w'.cell? ⟨g,7,none⟩=some (.slice a2 (ws (dX o2)).length c2)/\w'.cell? ⟨g,8,none⟩=some (.int .i64 (dE o2))/\w'.cell? ⟨g,9,none⟩=some (.bool (dN o3))/\w'.cell? ⟨g,10,none⟩=some (.slice a3 (ws (dX o3)).length c3)/\w'.cell? ⟨g,11,none⟩=some (.int .i64 (dE o3))/\w'.cell? ⟨g,12,none⟩=some (.bool (dN o4))/\w'.cell? ⟨g,13,none⟩=some (.slice a4 (ws (dX o4)).length c4)/\w'.cell? ⟨g,14,none⟩=some (.int .i64 (dE o4))) 13 bS ?_;obtain ⟨Wd,hWd⟩:=ah (W.drew);rw [<-hWd] at BD kS |-;clear hWd
 refine tk 0 [] rfl kS.o ?_;try simp only [Act.put,sa,sb,sc]
 refine tk 1 [] rfl kS.o ?_;try simp only [Act.put,sa,sb,sc]
 refine tk 2 [] rfl kS.o ?_;try simp only [Act.put,sa,sb,sc]
 refine tk 3 [] rfl kS.o ?_;try simp only [Act.put,sa,sb,sc]
 refine tk 5 [] rfl kS.o ?_;try simp only [Act.put,sa,sb,sc]
 refine tk 6 [] rfl kS.o ?_;try simp only [Act.put,sa,sb,sc]
 refine tk 7 [] rfl kS.o ?_;try simp only [Act.put,sa,sb,sc]
 refine tk 8 [] rfl kS.o ?_;try simp only [Act.put,sa,sb,sc]
 refine tk 10 [] rfl kS.o ?_;try simp only [Act.put,sa,sb,sc]
 refine aj (i:=4) bS rfl (fun K' hK=>?_);have C:=hid (ik FF.o.2.1 FF.o.2.1 FF.o.r3.1 BD.o.r2.1 BD.o.r2.1 (HT.o _ BD.o.r5) EE.o.1);go_simp;refine C.o.mono ?_;rintro r Dr ⟨hd,hb⟩;obtain ⟨pca,pcc,rfl,hN⟩:=hd.aZ;clear hd;have bM:=rZ (BD.o.1.below hb) (BD.o.2.1.below hb) (BD.o.r2.1.below hb) (BD.o.r3.1.below hb) (BD.o.r4.1.below hb) (BD.o.r5.trans (hb.mono BD.o.r5.size)) hN;have bC:=ay (ck hb kS.o fun h=>ck hb h fun h=>ck hb h fun h=>H8 hb h);clear hb hN C BD kS;have BD:=bM;have kS:=bC;clear bM bC
 try dsimp only
 refine hK.out _ _ (fun _=>kS.o) ?_;clear hK K'
 try simp only [Act.put,sa,sb,sc]
 refine aj (i:=9) bS rfl (fun K' hK=>?_);have C:=hid (ik FF.o.1 FF.o.r2.1 FF.o.r4 BD.o.2.1 BD.o.r3.1 (HT.o _ BD.o.r5.1) EE.o.2);go_simp;refine C.o.mono ?_;rintro r CQ ⟨hd,hb⟩;obtain ⟨pda,pdc,rfl,hN⟩:=hd.aZ;clear hd;have bM:=r9 (BD.o.1.below hb) (BD.o.2.1.below hb) (BD.o.r2.1.below hb) (BD.o.r3.1.below hb) (BD.o.r4.1.below hb) (BD.o.r5.1.trans (hb.mono BD.o.r5.1.size)) (BD.o.r6.below hb) hN;have bC:=ay (ck hb kS.o fun h=>ck hb h fun h=>ck hb h fun h=>H8 hb h);clear hb hN C BD kS;have BD:=bM;have kS:=bC;clear bM bC
 try dsimp only
 refine hK.out _ _ (fun _=>kS.o) ?_;clear hK K'
 try simp only [Act.put,sa,sb,sc]
 refine aj (i:=11) bS rfl (fun K' hK=>?_);have C:=hid (rT mode FF.o.r3.1 FF.o.r4 BD.o.r6.1 BD.o.r7 (HT.o _ BD.o.r5.1));go_simp;refine C.o.mono ?_;rintro r Lp ⟨rfl,hb⟩;have bM:=r9 (BD.o.1.below hb) (BD.o.2.1.below hb) (BD.o.r2.1.below hb) (BD.o.r3.1.below hb) (BD.o.r4.1.below hb) (BD.o.r5.1.trans (hb.mono BD.o.r5.1.size)) (BD.o.r6.1.below hb) (BD.o.r7.below hb);have bC:=ay (ck hb kS.o fun h=>ck hb h fun h=>ck hb h fun h=>H8 hb h);clear hb C BD kS;have BD:=bM;have kS:=bC;clear bM bC
 try dsimp only
 refine hK.out _ _ (fun _=>kS.o) ?_;clear hK K'
 try simp only [Act.put,sa,sb,sc]
 refine aj (i:=12) bS rfl (fun K' hK=>?_);go_simp;refine hK.out _ _ (fun _=>kS.o) ?_;clear hK K'
 try simp only [Act.put,sa,sb,sc]
 have BE:=ay BD.o.r5.1;clear kS BD;refine bG bS ?_ _;go_wp2;exact aI (v:=.float .f64 _) (by simp [results,Tryz.results38,go_sem]) rfl ⟨rfl,BE.o⟩
theorem Vn {w:World}{a0 a1 a2 a3 a4:Option Addr}{c0 c1 c2 c3 c4:Nat}{o0 o1 o2 o3 o4:Option (Bool×Nat×Int)}(pc pd pr pn:Option (Bool×Nat×Int)) (mode:Int) (FF:Aside (Fm o0/\Fm o1/\Fm o2/\Fm o3/\Fm pd/\Fm pc/\Fm pr/\Fm pn)) (EE:Aside (eY o1 o3=pd/\eY o2 o2=pc/\fQ pd (mkS (!dN pc) (dX pc) (dE pc))=pr/\eY o0 o1=pn)) (HT:Aside (∀ u:World,Below w.heap.size w u->il u)) (HN:Nt 0 w (.slice a0 (ws (dX o0)).length c0) (dX o0)/\Nt 0 w (.slice a1 (ws (dX o1)).length c1) (dX o1)/\Nt 0 w (.slice a2 (ws (dX o2)).length c2) (dX o2)/\Nt 0 w (.slice a3 (ws (dX o3)).length c3) (dX o3)/\Nt 0 w (.slice a4 (ws (dX o4)).length c4) (dX o4)) :
 Calls Tryz.prog 39 #[.agg #[.bool (dN o0),.slice a0 (ws (dX o0)).length c0,.int .i64 (dE o0),.bool (dN o1),.slice a1 (ws (dX o1)).length c1,.int .i64 (dE o1),.bool (dN o2),.slice a2 (ws (dX o2)).length c2,.int .i64 (dE o2),.bool (dN o3),.slice a3 (ws (dX o3)).length c3,.int .i64 (dE o3),.bool (dN o4),.slice a4 (ws (dX o4)).length c4,.int .i64 (dE o4)],.int .i64 mode] w fun r w'=>r=.returned (.float .f64 (iC pr pn mode).1)/\Below w.heap.size w w':=by
 obtain ⟨W,hW⟩:=ah (w.alloc (Obj.cells #[.bool (dN o0),.slice a0 (ws (dX o0)).length c0,.int .i64 (dE o0),.bool (dN o1),.slice a1 (ws (dX o1)).length c1,.int .i64 (dE o1),.bool (dN o2),.slice a2 (ws (dX o2)).length c2,.int .i64 (dE o2),.bool (dN o3),.slice a3 (ws (dX o3)).length c3,.int .i64 (dE o3),.bool (dN o4),.slice a4 (ws (dX o4)).length c4,.int .i64 (dE o4)] 64));obtain ⟨g,hg⟩:=ah (w.heap.size)
 have B0:Aside (Bl W g 64 [.bool (dN o0),.slice a0 (ws (dX o0)).length c0,.int .i64 (dE o0),.bool (dN o1),.slice a1 (ws (dX o1)).length c1,.int .i64 (dE o1),.bool (dN o2),.slice a2 (ws (dX o2)).length c2,.int .i64 (dE o2),.bool (dN o3),.slice a3 (ws (dX o3)).length c3,.int .i64 (dE o3),.bool (dN o4),.slice a4 (ws (dX o4)).length c4,.int .i64 (dE o4)]/\Below w.heap.size w W):=by
  rw [hW,hg];exact ⟨Bl.new _ 64 [.bool (dN o0),.slice a0 (ws (dX o0)).length c0,.int .i64 (dE o0),.bool (dN o1),.slice a1 (ws (dX o1)).length c1,.int .i64 (dE o1),.bool (dN o2),.slice a2 (ws (dX o2)).length c2,.int .i64 (dE o2),.bool (dN o3),.slice a3 (ws (dX o3)).length c3,.int .i64 (dE o3),.bool (dN o4),.slice a4 (ws (dX o4)).length c4,.int .i64 (dE o4)],au _ _⟩
 have NW:Aside (Nt 0 W (.slice a0 (ws (dX o0)).length c0) (dX o0)/\Nt 0 W (.slice a1 (ws (dX o1)).length c1) (dX o1)/\Nt 0 W (.slice a2 (ws (dX o2)).length c2) (dX o2)/\Nt 0 W (.slice a3 (ws (dX o3)).length c3) (dX o3)/\Nt 0 W (.slice a4 (ws (dX o4)).length c4) (dX o4)):=⟨HN.1.below B0.o.2,HN.2.1.below B0.o.2,HN.2.2.1.below B0.o.2,HN.2.2.2.1.below B0.o.2,HN.2.2.2.2.below B0.o.2⟩;have HW:=(bB hW hg);clear hW hg;go_enter Tryz.func39,Tryz.ntmps39
 go_upto_region 1 with fail
 rw [<-HW.o.1,<-HW.o.2];clear HW;have BD:Aside (Nt 0 W.drew (.slice a0 (ws (dX o0)).length c0) (dX o0)/\Nt 0 W.drew (.slice a1 (ws (dX o1)).length c1) (dX o1)/\Nt 0 W.drew (.slice a2 (ws (dX o2)).length c2) (dX o2)/\Nt 0 W.drew (.slice a3 (ws (dX o3)).length c3) (dX o3)/\Nt 0 W.drew (.slice a4 (ws (dX o4)).length c4) (dX o4)/\Below w.heap.size w W.drew):=⟨NW.o.1.below (ak _ _).drew,NW.o.2.1.below (ak _ _).drew,NW.o.r2.1.below (ak _ _).drew,NW.o.r3.1.below (ak _ _).drew,NW.o.r4.below (ak _ _).drew,B0.o.2.drew⟩;have kS:Aside (W.drew.cell? ⟨g,0,none⟩=some (.bool (dN o0))/\W.drew.cell? ⟨g,1,none⟩=some (.slice a0 (ws (dX o0)).length c0)/\W.drew.cell? ⟨g,2,none⟩=some (.int .i64 (dE o0))/\W.drew.cell? ⟨g,3,none⟩=some (.bool (dN o1))/\W.drew.cell? ⟨g,4,none⟩=some (.slice a1 (ws (dX o1)).length c1)/\W.drew.cell? ⟨g,5,none⟩=some (.int .i64 (dE o1))/\W.drew.cell? ⟨g,6,none⟩=some (.bool (dN o2))/\W.drew.cell? ⟨g,7,none⟩=some (.slice a2 (ws (dX o2)).length c2)/\W.drew.cell? ⟨g,8,none⟩=some (.int .i64 (dE o2))/\W.drew.cell? ⟨g,9,none⟩=some (.bool (dN o3))/\W.drew.cell? ⟨g,10,none⟩=some (.slice a3 (ws (dX o3)).length c3)/\W.drew.cell? ⟨g,11,none⟩=some (.int .i64 (dE o3))/\W.drew.cell? ⟨g,12,none⟩=some (.bool (dN o4))/\W.drew.cell? ⟨g,13,none⟩=some (.slice a4 (ws (dX o4)).length c4)/\W.drew.cell? ⟨g,14,none⟩=some (.int .i64 (dE o4))):=⟨B0.o.1.cell 0 _ rfl,B0.o.1.cell 1 _ rfl,B0.o.1.cell 2 _ rfl,B0.o.1.cell 3 _ rfl,B0.o.1.cell 4 _ rfl,B0.o.1.cell 5 _ rfl,B0.o.1.cell 6 _ rfl,B0.o.1.cell 7 _ rfl,B0.o.1.cell 8 _ rfl,B0.o.1.cell 9 _ rfl,B0.o.1.cell 10 _ rfl,B0.o.1.cell 11 _ rfl,B0.o.1.cell 12 _ rfl,B0.o.1.cell 13 _ rfl,B0.o.1.cell 14 _ rfl⟩;clear B0 NW HN;refine bA (fun w'=>w'.cell? ⟨g,0,none⟩=some (.bool (dN o0))/\w'.cell? ⟨g,1,none⟩=some (.slice a0 (ws (dX o0)).length c0)/\w'.cell? ⟨g,2,none⟩=some (.int .i64 (dE o0))/\w'.cell? ⟨g,3,none⟩=some (.bool (dN o1))/\w'.cell? ⟨g,4,none⟩=some (.slice a1 (ws (dX o1)).length c1)/\w'.cell? ⟨g,5,none⟩=some (.int .i64 (dE o1))/\w'.cell? ⟨g,6,none⟩=some (.bool (dN o2))/\w'.cell? ⟨g,7,none⟩=some (.slice a2 (ws (dX o2)).length c2)/\w'.cell? ⟨g,8,none⟩=some (.int .i64 (dE o2))/\w'.cell? ⟨g,9,none⟩=some (.bool (dN o3))/\w'.cell? ⟨g,10,none⟩=some (.slice a3 (ws (dX o3)).length c3)/\w'.cell? ⟨g,11,none⟩=some (.int .i64 (dE o3))/\w'.cell? ⟨g,12,none⟩=some (.bool (dN o4))/\w'.cell? ⟨g,13,none⟩=some (.slice a4 (ws (dX o4)).length c4)/\w'.cell? ⟨g,14,none⟩=some (.int .i64 (dE o4))) 19 bS ?_;obtain ⟨Wd,hWd⟩:=ah (W.drew);rw [<-hWd] at BD kS |-;clear hWd
 refine tk 0 [] rfl kS.o ?_;try simp only [Act.put,sa,sb,sc]
 refine tk 1 [] rfl kS.o ?_;try simp only [Act.put,sa,sb,sc]
 refine tk 2 [] rfl kS.o ?_;try simp only [Act.put,sa,sb,sc]
 refine tk 3 [] rfl kS.o ?_;try simp only [Act.put,sa,sb,sc]
 refine tk 5 [] rfl kS.o ?_;try simp only [Act.put,sa,sb,sc]
 refine tk 6 [] rfl kS.o ?_;try simp only [Act.put,sa,sb,sc]
 refine tk 7 [] rfl kS.o ?_;try simp only [Act.put,sa,sb,sc]
 refine tk 8 [] rfl kS.o ?_;try simp only [Act.put,sa,sb,sc]
 refine tk 11 [] rfl kS.o ?_;try simp only [Act.put,sa,sb,sc]
 refine tk 12 [] rfl kS.o ?_;try simp only [Act.put,sa,sb,sc]
 refine tk 13 [] rfl kS.o ?_;try simp only [Act.put,sa,sb,sc]
 refine tk 14 [] rfl kS.o ?_;try simp only [Act.put,sa,sb,sc]
 refine tk 16 [] rfl kS.o ?_;try simp only [Act.put,sa,sb,sc]
 refine aj (i:=4) bS rfl (fun K' hK=>?_);have C:=hid (ik FF.o.2.1 FF.o.r3.1 FF.o.r4.1 BD.o.2.1 BD.o.r3.1 (HT.o _ BD.o.r5) EE.o.1);go_simp;refine C.o.mono ?_;rintro r Dr ⟨hd,hb⟩;obtain ⟨pda,pdc,rfl,hN⟩:=hd.aZ;clear hd;have bM:=rZ (BD.o.1.below hb) (BD.o.2.1.below hb) (BD.o.r2.1.below hb) (BD.o.r3.1.below hb) (BD.o.r4.1.below hb) (BD.o.r5.trans (hb.mono BD.o.r5.size)) hN;have bC:=ay (ck hb kS.o fun h=>ck hb h fun h=>ck hb h fun h=>H8 hb h);clear hb hN C BD kS;have BD:=bM;have kS:=bC;clear bM bC
 try dsimp only
 refine hK.out _ _ (fun _=>kS.o) ?_;clear hK K'
 try simp only [Act.put,sa,sb,sc]
 refine aj (i:=9) bS rfl (fun K' hK=>?_);have C:=hid (ik FF.o.r2.1 FF.o.r2.1 FF.o.r5.1 BD.o.r2.1 BD.o.r2.1 (HT.o _ BD.o.r5.1) EE.o.2.1);go_simp;refine C.o.mono ?_;rintro r CQ ⟨hd,hb⟩;obtain ⟨pca,pcc,rfl,hN⟩:=hd.aZ;clear hd;have bM:=r9 (BD.o.1.below hb) (BD.o.2.1.below hb) (BD.o.r2.1.below hb) (BD.o.r3.1.below hb) (BD.o.r4.1.below hb) (BD.o.r5.1.trans (hb.mono BD.o.r5.1.size)) (BD.o.r6.below hb) hN;have bC:=ay (ck hb kS.o fun h=>ck hb h fun h=>ck hb h fun h=>H8 hb h);clear hb hN C BD kS;have BD:=bM;have kS:=bC;clear bM bC
 try dsimp only
 refine hK.out _ _ (fun _=>kS.o) ?_;clear hK K'
 try simp only [Act.put,sa,sb,sc]
 refine aj (i:=10) bS rfl (fun K' hK=>?_);have C:=hid (vZ FF.o.r4.1 FF.o.r5.1 FF.o.r6.1 BD.o.r6.1 BD.o.r7 (HT.o _ BD.o.r5.1) EE.o.r2.1);go_simp;refine C.o.mono ?_;rintro r Lp ⟨hd,hb⟩;obtain ⟨pra,prc,rfl,hN⟩:=hd.aZ;clear hd;have bM:=Af (BD.o.1.below hb) (BD.o.2.1.below hb) (BD.o.r2.1.below hb) (BD.o.r3.1.below hb) (BD.o.r4.1.below hb) (BD.o.r5.1.trans (hb.mono BD.o.r5.1.size)) (BD.o.r6.1.below hb) (BD.o.r7.below hb) hN;have bC:=ay (ck hb kS.o fun h=>ck hb h fun h=>ck hb h fun h=>H8 hb h);clear hb hN C BD kS;have BD:=bM;have kS:=bC;clear bM bC
 try dsimp only
 refine hK.out _ _ (fun _=>kS.o) ?_;clear hK K'
 try simp only [Act.put,sa,sb,sc]
 refine aj (i:=15) bS rfl (fun K' hK=>?_);have C:=hid (ik FF.o.1 FF.o.2.1 FF.o.r7 BD.o.1 BD.o.2.1 (HT.o _ BD.o.r5.1) EE.o.r3);go_simp;refine C.o.mono ?_;rintro r Fy ⟨hd,hb⟩;obtain ⟨pna,pnc,rfl,hN⟩:=hd.aZ;clear hd;have bM:=ow (BD.o.1.below hb) (BD.o.2.1.below hb) (BD.o.r2.1.below hb) (BD.o.r3.1.below hb) (BD.o.r4.1.below hb) (BD.o.r5.1.trans (hb.mono BD.o.r5.1.size)) (BD.o.r6.1.below hb) (BD.o.r7.1.below hb) (BD.o.r8.below hb) hN;have bC:=ay (ck hb kS.o fun h=>ck hb h fun h=>ck hb h fun h=>H8 hb h);clear hb hN C BD kS;have BD:=bM;have kS:=bC;clear bM bC
 try dsimp only
 refine hK.out _ _ (fun _=>kS.o) ?_;clear hK K'
 try simp only [Act.put,sa,sb,sc]
 refine aj (i:=17) bS rfl (fun K' hK=>?_);have C:=hid (rT mode FF.o.r6.1 FF.o.r7 BD.o.r8.1 BD.o.2.2.2.2.2.2.2.2.2 (HT.o _ BD.o.r5.1));go_simp;refine C.o.mono ?_;rintro r u5_ ⟨rfl,hb⟩;have bM:=ow (BD.o.1.below hb) (BD.o.2.1.below hb) (BD.o.r2.1.below hb) (BD.o.r3.1.below hb) (BD.o.r4.1.below hb) (BD.o.r5.1.trans (hb.mono BD.o.r5.1.size)) (BD.o.r6.1.below hb) (BD.o.r7.1.below hb) (BD.o.r8.1.below hb) (BD.o.2.2.2.2.2.2.2.2.2.below hb);have bC:=ay (ck hb kS.o fun h=>ck hb h fun h=>ck hb h fun h=>H8 hb h);clear hb C BD kS;have BD:=bM;have kS:=bC;clear bM bC
 try dsimp only
 refine hK.out _ _ (fun _=>kS.o) ?_;clear hK K'
 try simp only [Act.put,sa,sb,sc]
 refine aj (i:=18) bS rfl (fun K' hK=>?_);go_simp;refine hK.out _ _ (fun _=>kS.o) ?_;clear hK K'
 try simp only [Act.put,sa,sb,sc]
 have BE:=ay BD.o.r5.1;clear kS BD;refine bG bS ?_ _;go_wp2;exact aI (v:=.float .f64 _) (by simp [results,Tryz.results39,go_sem]) rfl ⟨rfl,BE.o⟩
end
end Go.Proofs.YtblkpkgebigojaaGreatDoor
