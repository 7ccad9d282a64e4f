import Derived.Test.YtjppdacikihpdaaGreatDoorZ26x
import Derived.Deep.RegionWith
import Derived.Deep.Cut
import Derived.Test.YtjppdacikihpdaaGreatDoorD39x
import Derived.Test.YtjppdacikihpdaaGreatDoorU1x
import Derived.Test.YtjppdacikihpdaaGreatDoorZ5x
import Derived.Test.YtjppdacikihpdaaGreatDoorS10x
import Derived.Test.YtjppdacikihpdaaGreatDoorD8x
import Derived.Deep.LoopGhost
import Derived.Deep.CutRange
import Derived.Test.YtjppdacikihpdaaGreatDoorM1x
import Derived.ProofKit
import Derived.OpenShut
import Derived.ChangeOld
import Derived.ChangeArms
import Derived.SizedLaws
import Derived.Laws.Cover2
import Derived.OwnWalk
set_option linter.unusedVariables false
set_option linter.unusedSimpArgs false
set_option maxHeartbeats 16000000
set_option maxRecDepth 20000
namespace Go.Proofs.YtjppdacikihpdaaGreatDoor
namespace J
end J
namespace Ps
open Go.RowKit
open Go.Proofs.YtjppdacikihpdaaGreatDoor.B (aM aF bw)
attribute [local go_sem] aM aF
theorem XP(b:Nat):kd b<=5:=by unfold kd;(repeat' split) <;> omega
open Go.RowKit
open Go.Proofs.YtjppdacikihpdaaGreatDoor.B (aM aF bw aO)
attribute [local go_sem] aM aF
def cn(k:Nat)(xs:List Nat):Nat:=xs.countP (fun x=>kd x==k)
theorem Ol(k:Nat)(xs ys:List Nat):cn k (xs++ys)=cn k xs+cn k ys:=by simp[cn,List.countP_append]
def one(k x:Nat):Nat:=if kd x=k then 1 else 0
theorem Zm(k x:Nat):cn k [x]=one k x:=by unfold cn one;by_cases h:kd x=k <;> simp[h]
theorem qO(xs:List Nat)(i:Nat)(h:i<xs.length):xs.take (i+1)=xs.take i++[xs.getD i 0]:=by
 rw[wK h,bG,dx h];rfl
theorem rW(k:Nat)(xs:List Nat)(i:Nat)(h:i<xs.length):cn k (xs.take (i+1))=cn k (xs.take i)+one k (xs.getD i 0):=by
 rw[qO xs i h,Ol,Zm]
theorem cn_le(k:Nat)(xs:List Nat):cn k xs<=xs.length:=GI
def jY(w:World)(g:Nat)(n u d m p a:Int):Prop:=w.heap[g]?=some (.cells #[.int .i64 n,.int .i64 u,.int .i64 d,.int .i64 m,.int .i64 p,.int .i64 a] 72 (0,0))
theorem jY.lt{w:World}{g:Nat}{n u d m p a:Int}(h:jY w g n u d m p a):g<w.heap.size:=(eZ.1 h).1
theorem jY.c0{w:World}{g:Nat}{n u d m p a:Int}(h:jY w g n u d m p a):w.cell? ⟨g,0,none⟩=some (.int .i64 n):=by unfold jY at h;simp[World.cell?,h]
theorem jY.c1{w:World}{g:Nat}{n u d m p a:Int}(h:jY w g n u d m p a):w.cell? ⟨g,1,none⟩=some (.int .i64 u):=by unfold jY at h;simp[World.cell?,h]
theorem jY.c2{w:World}{g:Nat}{n u d m p a:Int}(h:jY w g n u d m p a):w.cell? ⟨g,2,none⟩=some (.int .i64 d):=by unfold jY at h;simp[World.cell?,h]
theorem jY.c3{w:World}{g:Nat}{n u d m p a:Int}(h:jY w g n u d m p a):w.cell? ⟨g,3,none⟩=some (.int .i64 m):=by unfold jY at h;simp[World.cell?,h]
theorem jY.c4{w:World}{g:Nat}{n u d m p a:Int}(h:jY w g n u d m p a):w.cell? ⟨g,4,none⟩=some (.int .i64 p):=by unfold jY at h;simp[World.cell?,h]
theorem jY.c5{w:World}{g:Nat}{n u d m p a:Int}(h:jY w g n u d m p a):w.cell? ⟨g,5,none⟩=some (.int .i64 a):=by unfold jY at h;simp[World.cell?,h]
theorem jY.frozen{w:World}{g:Nat}{n u d m p a:Int}(h:jY w g n u d m p a)(i:Nat):w.frozen? ⟨g,i,none⟩=false:=by unfold jY at h;simp[World.frozen?,h]
theorem jY.below{w w':World}{g B:Nat}{n u d m p a:Int}(h:jY w g n u d m p a)(hb:Below B w w')(hg:g<B):jY w' g n u d m p a:=by
 unfold jY at h |-;rw[hb.block g hg];exact h
theorem qS{P:Prop}(h:P:=by
 go_end0
 refine⟨rfl,?_,(But.refl _ _).set _ _⟩;have h:=HB.o;unfold jY at h |-;simp[World.setCell,gN,h]):P:=h
theorem Om(k g:Nat)(n u d m p a:Int)(w:World)(hk:k<=5)(hB:jY w g n u d m p a)(hn:0<=n/\n<=65536)(hu:0<=u/\u<=65536)(hd:0<=d/\d<=65536)(hm:0<=m/\m<=65536)(hp:0<=p/\p<=65536) :
 Calls Tryz.prog 87 #[.pointer (some ⟨g,0,none⟩),.int .i64 (k:Nat)] w fun r w'=>r=.returned (.tuple #[]) /\
  jY w' g (if k=0 then n+1 else n) (if k=1 then u+1 else u) (if k=2 then d+1 else d) (if k=3 then m+1 else m) (if k=4 then p+1 else p) a/\But g w w':=by
 have hc0:=hB.c0;have hc1:=hB.c1;have hc2:=hB.c2;have hc3:=hB.c3;have hc4:=hB.c4;have hf0:=hB.frozen 0;have hf1:=hB.frozen 1;have hf2:=hB.frozen 2;have hf3:=hB.frozen 3;have hf4:=hB.frozen 4;have HB:=ah hB;clear hB;obtain rfl|rfl|rfl|rfl|rfl|rfl:k=0\/k=1\/k=2\/k=3\/k=4\/k=5:=by omega
 · go_enter Tryz.func87,Tryz.ntmps87;go_wp2
   exact qS
 · go_enter Tryz.func87,Tryz.ntmps87;go_wp2
   exact qS
 · go_enter Tryz.func87,Tryz.ntmps87;go_wp2
   exact qS
 · go_enter Tryz.func87,Tryz.ntmps87;go_wp2
   exact qS
 · go_enter Tryz.func87,Tryz.ntmps87;go_wp2
   exact qS
 · go_enter Tryz.func87,Tryz.ntmps87;go_wp2
   go_end0
   exact⟨rfl,HB.o,But.refl _ _⟩
def rf(n u d a b:Int):Int:=if 0<n/\a=2 then 60 else if 0<u+d/\b=2 then 61 else 0
theorem qt{P:Prop}(h:P:=by
 by_cases h3:0<t
 · by_cases h4:b=2
   · rw[if_pos ⟨h3,h4⟩];subst h4;go_enter Tryz.func88,Tryz.ntmps88;go_wp2;go_ret;exact⟨rfl,below _ _⟩
   · have h4':(b==2)=false:=by rw[beq_eq_false_iff_ne];exact h4
     rw[if_neg (fun h=>h4 h.2)];go_enter Tryz.func88,Tryz.ntmps88;go_wp2;go_ret;exact⟨rfl,below _ _⟩
 · have h3':decide (0<t)=false:=decide_eq_false h3;rw[if_neg (fun h=>h3 h.1)];go_enter Tryz.func88,Tryz.ntmps88;go_wp2;go_ret;exact⟨rfl,below _ _⟩):P:=h
theorem FJ(n u d m p l a b:Int)(w:World)(hu:0<=u/\u<=65536)(hd:0<=d/\d<=65536) :
 Calls Tryz.prog 88 #[.agg #[.int .i64 n,.int .i64 u,.int .i64 d,.int .i64 m,.int .i64 p,.int .i64 l],.agg #[.int .i64 a,.int .i64 b]] w fun r w'=>r=.returned (.int .i64 (rf n u d a b))/\Below w.heap.size w w':=by
 have below:∀ o o',Below w.heap.size w ((w.alloc o).alloc o'):=fun o o'=>((ay _ _).alloc (ak _) _).alloc (by simp) _;obtain⟨t,ht⟩:∃ t,u+d=t:=⟨_,rfl⟩;have ht2:-9223372036854775808<=t/\t<=9223372036854775807:=by omega
 unfold rf;rw[ht]
 by_cases h1:0<n
 · by_cases h2:a=2
   · rw[if_pos ⟨h1,h2⟩];subst h2;go_enter Tryz.func88,Tryz.ntmps88;go_wp2;go_ret;exact⟨rfl,below _ _⟩
   · have h2':(a==2)=false:=by rw[beq_eq_false_iff_ne];exact h2
     rw[if_neg (fun h=>h2 h.2)]
     exact qt
 · have h1':decide (0<n)=false:=decide_eq_false h1;rw[if_neg (fun h=>h1 h.1)]
   exact qt
open Go.RowKit
open Go.Proofs.YtjppdacikihpdaaGreatDoor.B (aM aF bw aO)
attribute [local go_sem] aM aF
theorem jY.made(w:World)(n u d m p a:Int):jY (w.alloc (.cells #[.int .i64 n,.int .i64 u,.int .i64 d,.int .i64 m,.int .i64 p,.int .i64 a] 72)) w.heap.size n u d m p a:=gU w _
def Wn(w:World)(g:Nat)(xs:List Nat)(a:Int):Prop:=jY w g (cn 5 xs:Nat) (cn 3 xs:Nat) (cn 4 xs:Nat) (cn 1 xs:Nat) (cn 2 xs:Nat) a
theorem XQ(k:Nat)(xs:List Nat)(n:Nat)(h:xs.length<=n)(hn:n<=65536):0<=((cn k xs:Nat):Int)/\((cn k xs:Nat):Int)<=65536:=by have:=cn_le k xs;omega
theorem But.uh{a w:World}{g:Nat}(h:But g a w)(u0 u1 u2 u3 u4 u5:Value) :
 But g a ((((((w.setCell ⟨g,0,none⟩ u0).setCell ⟨g,1,none⟩ u1).setCell ⟨g,2,none⟩ u2).setCell ⟨g,3,none⟩ u3).setCell ⟨g,4,none⟩ u4).setCell ⟨g,5,none⟩ u5) :=
 ((((((h.set 0 u0).set 1 u1).set 2 u2).set 3 u3).set 4 u4).set 5 u5)
theorem cset{w:World}{b o:Nat}{u:Value}(h:w.cell? ⟨b,o,none⟩=some u)(v:Value):(w.setCell ⟨b,o,none⟩ v).cell? ⟨b,o,none⟩=some v:=by
 simp only[World.cell?] at h |-;simp only[World.setCell,gN]
 cases hb:w.heap[b]? with
 | none=>rw[hb] at h;simp at h
 | some ob =>
   rw[hb] at h
   cases ob <;> simp_all
   rename_i cs _ _
   by_cases hl:o<cs.size
   · simp[hl]
   · rw[wW (by omega)] at h;cases h
theorem FK(w:World)(b o:Nat)(v:Value):(w.setCell ⟨b,o,none⟩ v).cell? ⟨b,o,none⟩=(w.cell? ⟨b,o,none⟩).map (fun _=>v):=by
 cases h:w.cell? ⟨b,o,none⟩ with
 | some u=>rw[cset h v];rfl
 | none =>
   simp only[World.cell?] at h |-;simp only[World.setCell,gN]
   cases hb:w.heap[b]? with
   | none=>simp
   | some ob =>
     rw[hb] at h
     cases ob <;> simp_all
open Go.RowKit
open Go.Proofs.YtjppdacikihpdaaGreatDoor.B (aM aF bw aO)
attribute [local go_sem] aM aF
def fin(xs:List Nat):List Nat:=xs.filter (fun x=>decide (kd x<=2))
theorem yF(xs ys:List Nat):fin (xs++ys)=fin xs++fin ys:=by simp[fin,List.filter_append]
theorem Zn(xs:List Nat):(fin xs).length<=xs.length:=List.length_filter_le _ _
theorem Zo(xs:List Nat)(i:Nat)(h:i<xs.length)(hk:kd (xs.getD i 0)<=2):fin (xs.take (i+1))=fin (xs.take i)++[xs.getD i 0]:=by
 rw[qO xs i h,yF];simp[fin];simpa [bG] using hk
theorem Wo(xs:List Nat)(i:Nat)(h:i<xs.length)(hk:¬ kd (xs.getD i 0)<=2):fin (xs.take (i+1))=fin (xs.take i):=by
 rw[qO xs i h,yF];simp[fin];simpa [bG] using hk
def lh(a b:Int)(xs:List Nat):Int:=if may a b=false then 1 else if 65536<xs.length then 2 else rf (cn 5 xs:Nat) (cn 3 xs:Nat) (cn 4 xs:Nat) a b
def KF(a b:Int)(xs:List Nat):List Nat:=if lh a b xs=0 then fin xs else[]
def KG(a b:Int)(xs:List Nat):Value:=if lh a b xs=0 then .agg #[.int .i64 (cn 5 xs:Nat),.int .i64 (cn 3 xs:Nat),.int .i64 (cn 4 xs:Nat),.int .i64 (cn 1 xs:Nat),.int .i64 (cn 2 xs:Nat),.int .i64 (xs.length:Nat)] else .agg #[.int .i64 0,.int .i64 0,.int .i64 0,.int .i64 0,.int .i64 0,.int .i64 0]
def iG(w:World)(a b:Int)(xs:List Nat)(r:Ending)(w':World):Prop:=∃ v,r=.returned (.tuple #[v,KG a b xs,.int .i64 (lh a b xs)])/\Lt w.heap.size w' v (KF a b xs)/\Below w.heap.size w w'
theorem iG.no{w w':World}{a b:Int}{xs:List Nat}(e:Int)(he:lh a b xs=e)(h0:e≠0)(hb:Below w.heap.size w w'):iG w a b xs (.returned (.tuple #[.slice none 0 0,.agg #[.int .i64 0,.int .i64 0,.int .i64 0,.int .i64 0,.int .i64 0,.int .i64 0],.int .i64 e])) w':=by
 subst he;refine⟨.slice none 0 0,?_,?_,hb⟩
 · unfold KG;rw[if_neg h0]
 · unfold KF;rw[if_neg h0];exact Lt.nil _ _
theorem iG.yes{w w':World}{a b:Int}{xs:List Nat}{v:Value}(he:lh a b xs=0)(hv:Rw w.heap.size w' v (fin xs).length ((fin xs).map U))(hb:Below w.heap.size w w') :
 iG w a b xs (.returned (.tuple #[v,.agg #[.int .i64 (cn 5 xs:Nat),.int .i64 (cn 3 xs:Nat),.int .i64 (cn 4 xs:Nat),.int .i64 (cn 1 xs:Nat),.int .i64 (cn 2 xs:Nat),.int .i64 (xs.length:Nat)],.int .i64 0])) w':=by
 refine⟨v,?_,?_,hb⟩
 · rw[he];unfold KG;rw[if_pos he]
 · unfold KF;rw[if_pos he];exact hv
theorem Rw.below{lo:Nat}{w w':World}{v:Value}{n:Nat}{ys:List Value}(h:Rw lo w v n ys)(hb:Below w.heap.size w w'):Rw lo w' v n ys :=
 Oj.row h (Oj.below hb)
theorem Rw.but{lo g:Nat}{w w':World}{v:Value}{n:Nat}{ys:List Value}(h:Rw lo w v n ys)(hb:But g w w'){cur:Array Value}{e:TypeId}(he:e≠27)(hg:w.heap[g]?=some (.cells cur e (0,0))):Rw lo w' v n ys:=by
 refine tq h fun k hk=>?_;rcases h.2 with ⟨rfl,_⟩|⟨g2,cap,c2,rfl,_,hg2,_⟩
 · cases hk
 · cases hk
   refine hb.block _ (eZ.1 hg2).1 (fun e2=>?_);subst e2;rw[hg] at hg2
   cases hg2
   exact he rfl
theorem Rw.mono{lo lo':Nat}{w:World}{v:Value}{n:Nat}{ys:List Value}(h:Rw lo w v n ys)(hl:lo'<=lo):Rw lo' w v n ys:=by
 exact Qal
theorem Rw.low{lo:Nat}{w:World}{v:Value}{n:Nat}{ys:List Value}(h:Rw lo w v n ys):∀ b,v.ownBlock=some b->lo<=b:=by
 intro b hb;rcases h.2 with ⟨rfl,_⟩|⟨g,cap,cur,rfl,hlo,_⟩
 · cases hb
 · cases hb;exact hlo
theorem Oo(n:Nat)(hn:n<=65536)(w:World) :
 (Instr.makeSlice 22 (.int .i64 0) (.int .i64 (n:Nat))).run Tryz.prog w=.ok (.slice (some ⟨w.heap.size,0,none⟩) 0 n) (w.alloc (.cells (madeCells #[.float .f64 0] n) 27)):=by
 obtain⟨i0,hi,hz0,hz1,hz2⟩:=info_parts Tryz.Sd;have hr:=run_make (P:=Tryz.prog) w 22 27 i0 (.float .f64 0) Tryz.underlying22 hi hz0 .i64 .i64 0 (n:Int) (Int.le_refl _) (by omega) (by rw[hz2];omega) (by omega);rw[hz1,dM] at hr;simp only[j6,Int.toNat_zero] at hr;exact hr
theorem Sg(lo:Nat)(w:World)(n:Nat)(hn:n<=65536)(hlo:lo<=w.heap.size):Rw lo (w.alloc (.cells (madeCells #[.float .f64 0] n) 27)) (.slice (some ⟨w.heap.size,0,none⟩) 0 n) 0 []:=by
 refine⟨rfl,.inr ⟨w.heap.size,n,madeCells #[.float .f64 0] n,rfl,hlo,gU w _,by omega,by unfold maxLen;omega,?_,?_⟩⟩
 · have:=congrArg List.length (toList_madeCells_one (.float .f64 0) n);simpa using this
 · simp
theorem push(lo:Nat)(w:World)(v:Value)(ys:List Nat)(x:Nat)(hrow:Rw lo w v ys.length (ys.map U))(hn:ys.length<=65536)(hlo:lo<=w.heap.size) :
 ∃ v' w',(Builtin.append_ #[22,22] 22 #[v,.slice (some ⟨w.heap.size,0,none⟩) 1 1]).run Tryz.prog (w.alloc (.cells #[.float .f64 x] 27))=.ok v' w'/\Rw lo w' v' (ys++[x]).length ((ys++[x]).map U) /\
   Below lo w w'/\(∀ (g:Nat) (cur:Array Value) (e:TypeId),e≠27->w.heap[g]?=some (.cells cur e (0,0))->w'.heap[g]?=some (.cells cur e (0,0)))/\w.heap.size<=w'.heap.size:=by
 obtain⟨v',w',h1,h2,h3,_,_⟩:=kZ (w.alloc (.cells #[.float .f64 x] 27)) lo v ys.length (ys.map U) (.float .f64 x) w.heap.size 22 (hrow.alloc _) (by unfold World.cell?;simp only[gU];rfl) rfl (by omega) (by simp;omega);refine⟨v',w',h1,by simpa [U] using h2,((ay lo w).alloc hlo _).grown h3 (by simp;omega) hrow.low,?_,by have:=h3.size;simp at this;omega⟩;intro g cur e he hg;have hgl:=(eZ.1 hg).1;rw[h3.block g (by simp;omega) (fun e2=>?_),Below.heap_alloc _ _ _ hgl]
 · exact hg
 · rcases hrow.2 with ⟨rfl,_⟩ | ⟨g2,cap,c2,rfl,_,hg2,_⟩
   · cases e2
   · cases e2
     rw[hg] at hg2
     cases hg2
     exact he rfl
structure SI (lo sb:Nat) (W1:World) (xs:List Nat) (i:Nat) (a:Int) (v:Value) (wr:World):Prop where
 row:Rw lo wr v (fin (xs.take i)).length ((fin (xs.take i)).map U)
 sp:Wn wr sb (xs.take i) a
 aC:Below lo W1 wr
 size:W1.heap.size<=wr.heap.size
theorem SI.kind{lo sb:Nat}{W1:World}{xs:List Nat}{i:Nat}{a:Int}{v:Value}{wr w1:World}(h:SI lo sb W1 xs i a v wr)(hb:Below wr.heap.size wr w1)(hlo:lo<=wr.heap.size):SI lo sb W1 xs i a v w1 :=
 ⟨h.row.below hb,jY.below h.sp hb (jY.lt h.sp),h.aC.trans (hb.mono hlo),dz h.size hb.size⟩
theorem SI.o{lo sb:Nat}{W1:World}{xs:List Nat}{i:Nat}{a:Int}{v:Value}{wr w2:World}(h:SI lo sb W1 xs i a v wr)(hi:i<xs.length)(hs:Wn w2 sb (xs.take (i+1)) a)(hb:But sb wr w2)(hlo:lo<=sb)(hl:lo<=wr.heap.size)(hk:¬ kd (xs.getD i 0)<=2):SI lo sb W1 xs (i+1) a v w2 :=
 ⟨by rw[Wo xs i hi hk];exact h.row.but hb (by decide) h.sp,hs,But.below h.aC hb hl hlo,dz h.size hb.size⟩
theorem SI.row2{lo sb:Nat}{W1:World}{xs:List Nat}{i:Nat}{a:Int}{v:Value}{wr w2:World}(h:SI lo sb W1 xs i a v wr)(hb:But sb wr w2):Rw lo w2 v (fin (xs.take i)).length ((fin (xs.take i)).map U):=h.row.but hb (by decide) h.sp
theorem jY.keep{w w':World}{g:Nat}{n u d m p a:Int}(h:jY w g n u d m p a)(hk:∀ (g:Nat) (cur:Array Value) (e:TypeId),e≠27->w.heap[g]?=some (.cells cur e (0,0))->w'.heap[g]?=some (.cells cur e (0,0))):jY w' g n u d m p a :=
 hk _ _ _ (by decide) h
theorem SI.into {lo sb:Nat}{W1:World}{xs:List Nat}{i:Nat}{a:Int}{v v':Value}{wr w2 w3:World}(h:SI lo sb W1 xs i a v wr) (hi:i<xs.length) (hs:Wn w2 sb (xs.take (i+1)) a) (hb:But sb wr w2) (hlo:lo<=sb) (hl:lo<=wr.heap.size) (hk:kd (xs.getD i 0)<=2)
 (hrow:Rw lo w3 v' (fin (xs.take i)++[xs.getD i 0]).length ((fin (xs.take i)++[xs.getD i 0]).map U)) (hb3:Below lo w2 w3) (hkeep:∀ (g:Nat) (cur:Array Value) (e:TypeId),e≠27->w2.heap[g]?=some (.cells cur e (0,0))->w3.heap[g]?=some (.cells cur e (0,0))) (hsz:w2.heap.size<=w3.heap.size):SI lo sb W1 xs (i+1) a v' w3 :=
 ⟨by rw[Zo xs i hi hk];exact hrow,jY.keep hs hkeep,(But.below h.aC hb hl hlo).trans hb3,dz (dz h.size hb.size) hsz⟩
theorem Zp(x:Nat)(n u d m p:Nat):(if kp (kd x)=0 then((n:Nat):Int)+1 else n)=((n+one 5 x:Nat):Int)/\(if kp (kd x)=1 then((u:Nat):Int)+1 else u)=((u+one 3 x:Nat):Int)/\(if kp (kd x)=2 then((d:Nat):Int)+1 else d)=((d+one 4 x:Nat):Int) /\
 (if kp (kd x)=3 then((m:Nat):Int)+1 else m)=((m+one 1 x:Nat):Int)/\(if kp (kd x)=4 then((p:Nat):Int)+1 else p)=((p+one 2 x:Nat):Int):=by
 have hk:=XP x;unfold one;generalize kd x=k at hk;obtain rfl|rfl|rfl|rfl|rfl|rfl:k=0\/k=1\/k=2\/k=3\/k=4\/k=5:=by omega
 all_goals simp[kp]
theorem kp_ge(x:Nat):3<=kp (kd x)↔kd x<=2:=by
 have hk:=XP x;generalize kd x=k at hk;obtain rfl|rfl|rfl|rfl|rfl|rfl:k=0\/k=1\/k=2\/k=3\/k=4\/k=5:=by omega
 all_goals simp[kp]
theorem kp_le(x:Nat):kp (kd x)<=5:=by unfold kp;(repeat' split) <;> omega
theorem Wn.counted {w w':World}{sb:Nat}{xs:List Nat}{i:Nat}{a:Int}(hi:i<xs.length)
 (h:jY w' sb (if kp (kd (xs.getD i 0))=0 then((cn 5 (xs.take i):Nat):Int)+1 else((cn 5 (xs.take i):Nat):Int)) (if kp (kd (xs.getD i 0))=1 then((cn 3 (xs.take i):Nat):Int)+1 else((cn 3 (xs.take i):Nat):Int)) (if kp (kd (xs.getD i 0))=2 then((cn 4 (xs.take i):Nat):Int)+1 else((cn 4 (xs.take i):Nat):Int)) (if kp (kd (xs.getD i 0))=3 then((cn 1 (xs.take i):Nat):Int)+1 else((cn 1 (xs.take i):Nat):Int)) (if kp (kd (xs.getD i 0))=4 then((cn 2 (xs.take i):Nat):Int)+1 else((cn 2 (xs.take i):Nat):Int)) a) :
 Wn w' sb (xs.take (i+1)) a:=by
 obtain⟨h1,h2,h3,h4,h5⟩:=Zp (xs.getD i 0) (cn 5 (xs.take i)) (cn 3 (xs.take i)) (cn 4 (xs.take i)) (cn 1 (xs.take i)) (cn 2 (xs.take i));rw[h1,h2,h3,h4,h5] at h;unfold Wn;rw[rW 5 xs i hi,rW 3 xs i hi,rW 4 xs i hi,rW 1 xs i hi,rW 2 xs i hi];exact h
end Ps
namespace Ps
open Go.RowKit
open Go.Proofs.YtjppdacikihpdaaGreatDoor.B (aM aF bw aO)
attribute [local go_sem] aM aF
theorem Si(xs:List Nat)(ao:Option Addr)(n cap:Nat)(a b:Int)(w:World)(hm:may a b=false) :
 Calls Tryz.prog 53 #[.slice ao n cap,.agg #[.int .i64 a,.int .i64 b]] w (iG w a b xs):=by
 have H:=hid (BS a b);rw[hm] at H;have HE:Aside (lh a b xs=1):=by unfold lh;rw[hm];rfl
 clear hm;go_enter Tryz.func53,Tryz.ntmps53;go_wp2_with fail;refine(H.o _).mono ?_;rintro r w1 ⟨rfl,hb⟩;have hsz:=hb.size;simp at hsz;obtain⟨hc,hf⟩:=aO hb;have HB:=ah hb;clear hb;go_wp2;refine aB (v:=.tuple #[.slice none 0 0,.agg #[.int .i64 0,.int .i64 0,.int .i64 0,.int .i64 0,.int .i64 0,.int .i64 0],.int .i64 1]) (by simp[results,Tryz.results53,go_sem,FK,hc]) rfl (iG.no 1 HE.o (by decide) ?_);exact But.below ((((ay _ w).alloc (ak _) _).alloc (by simp) _).trans (HB.o.mono (by simp;omega))) (But.uh (But.refl (w.heap.size+1) _) _ _ _ _ _ _) (by omega) (by omega)
theorem Oq(xs:List Nat)(ao:Option Addr)(n cap:Nat)(a b:Int)(w:World)(hn:n=xs.length)(hm:may a b=true)(hl:65536<n)(hn2:n<=35184372088832) :
 Calls Tryz.prog 53 #[.slice ao n cap,.agg #[.int .i64 a,.int .i64 b]] w (iG w a b xs):=by
 have H:=hid (BS a b);rw[hm] at H;have HE:Aside (lh a b xs=2):=by unfold lh;rw[if_neg (by rw[hm];decide),if_pos (by omega),Aside]
 clear hm hn;go_enter Tryz.func53,Tryz.ntmps53;go_wp2_with fail;refine(H.o _).mono ?_;rintro r w1 ⟨rfl,hb⟩;have hsz:=hb.size;simp at hsz;obtain⟨hc,hf⟩:=aO hb;have HB:=ah hb;clear hb;go_wp2;refine aB (v:=.tuple #[.slice none 0 0,.agg #[.int .i64 0,.int .i64 0,.int .i64 0,.int .i64 0,.int .i64 0,.int .i64 0],.int .i64 2]) (by simp[results,Tryz.results53,go_sem,FK,hc]) rfl (iG.no 2 HE.o (by decide) ?_);exact But.below ((((ay _ w).alloc (ak _) _).alloc (by simp) _).trans (HB.o.mono (by simp;omega))) (But.uh (But.refl (w.heap.size+1) _) _ _ _ _ _ _) (by omega) (by omega)
theorem Qav{P:Prop}(h:P:=by
 go_roundg (n-(i+1))
 case measure=>omega
 case rel=>exact⟨i+1,by omega,by first | go_num | (congr 1;omega),HI⟩):P:=h
set_option maxRecDepth 100000 in
theorem Ot(xs:List Nat)(ao:Option Addr)(n cap B:Nat)(a b:Int)(w:World)(hn:n=xs.length)(hm:may a b=true)(hl:n<=65536)(hx:Wf xs)(hR:Rd B w ao xs)(hB:B<=w.heap.size) :
 Calls Tryz.prog 53 #[.slice ao n cap,.agg #[.int .i64 a,.int .i64 b]] w (iG w a b xs):=by
 have H:=hid (BS a b);rw[hm] at H;have HE:Aside (lh a b xs=rf (cn 5 xs:Nat) (cn 3 xs:Nat) (cn 4 xs:Nat) a b):=by unfold lh;rw[if_neg (by rw[hm];decide),if_neg (by omega),Aside]
 have hmk:=Oo n hl;have HX:=(iw hn hx hR hB);clear hm hn hx hR hB;go_enter Tryz.func53,Tryz.ntmps53;go_wp2_with fail;refine(H.o _).mono ?_;rintro r w1 ⟨rfl,hb⟩;have hsz:=hb.size;simp at hsz;obtain⟨hc,hf⟩:=aO hb;have HB:=ah hb
 have HZ:Aside (jY w1 (w.heap.size+1) 0 0 0 0 0 0):=by
  have h1:=jY.made (w.alloc (.cells #[.int .i64 a,.int .i64 b] 87)) 0 0 0 0 0 0;simp only[sF] at h1;exact h1.below hb (by simp)
 clear hb;go_wp2
 go_loopg [7,28] n (fun gk lv cv wr=>∃ (i:Nat),gk+i=n/\cv=.int .i64 (i:Nat)/\Aside (SI w1.heap.size (w1.heap.size+1) w1 xs i (n:Nat) lv wr))
 case atStart =>
  refine⟨0,by omega,rfl,?_⟩;have h1:=(Sg w1.heap.size w1 n hl (ak _)).alloc (.cells #[.int .i64 0,.int .i64 0,.int .i64 0,.int .i64 0,.int .i64 0,.int .i64 (n:Nat)] 72);have h2:=jY.made (w1.alloc (.cells (madeCells #[.float .f64 0] n) 27)) 0 0 0 0 0 (n:Nat);simp only[sF] at h2;exact⟨h1,h2,((ay _ _).alloc (ak _) _).alloc (by simp) _,by simp;omega⟩
 case round =>
  obtain⟨i,hi,rfl,HA⟩:=hrel
  by_cases hin:i=n
  · obtain rfl:gk=0:=by omega
    obtain⟨hn,hx,hR,hB⟩:=HX.o;have hS:=HA.o;have e:xs.take i=xs:=dO (by omega);have hT:=hS.sp;unfold Wn at hT;rw[e] at hT;have hc0:=hT.c0;have hc1:=hT.c1;have hc2:=hT.c2;have hc3:=hT.c3;have hc4:=hT.c4;have hc5:=hT.c5;have hlt:=hT.lt;have hcb:∀ b o,b<w1.heap.size->wr.cell? ⟨b,o,none⟩=w1.cell? ⟨b,o,none⟩:=fun b o h=>hS.aC.cell (p:=⟨b,o,none⟩) h;have hp0:wr.cell? ⟨w.heap.size,0,none⟩=some (.int .i64 a):=by rw[hcb _ _ (by omega),hc _ _ (by simp;omega)];simp[go_sem]
    have hp1:wr.cell? ⟨w.heap.size,1,none⟩=some (.int .i64 b):=by rw[hcb _ _ (by omega),hc _ _ (by simp;omega)];simp[go_sem]
    have hZ:jY wr (w.heap.size+1) 0 0 0 0 0 0:=HZ.o.below hS.aC (by omega);have hbd:=fun k=>XQ k xs n (by omega) hl;have HRF:=hid (fun w=>FJ (cn 5 xs:Nat) (cn 3 xs:Nat) (cn 4 xs:Nat) (cn 1 xs:Nat) (cn 2 xs:Nat) (n:Nat) a b w (hbd 3) (hbd 4));obtain⟨ee,Zq⟩:∃ ee,rf (cn 5 xs:Nat) (cn 3 xs:Nat) (cn 4 xs:Nat) a b=ee:=⟨_,rfl⟩;have HEE:Aside (lh a b xs=ee):=by rw[Aside,HE.o,Zq]
    rw[Zq] at HRF;obtain⟨c5,e5⟩:∃ c,cn 5 xs=c:=⟨_,rfl⟩;obtain⟨c3,e3⟩:∃ c,cn 3 xs=c:=⟨_,rfl⟩;obtain⟨c4,e4⟩:∃ c,cn 4 xs=c:=⟨_,rfl⟩;obtain⟨c1,e1⟩:∃ c,cn 1 xs=c:=⟨_,rfl⟩;obtain⟨c2,e2⟩:∃ c,cn 2 xs=c:=⟨_,rfl⟩;rw[e5,e3,e4,e1,e2] at hT HRF;rw[e5] at hc0;rw[e3] at hc1;rw[e4] at hc2;rw[e1] at hc3;rw[e2] at hc4;have HY:=(Dh hZ hT e e1 e2 e3 e4 e5);have hBs:=hS.size;clear hn hx hR hB hS hT e hcb hbd Zq e1 e2 e3 e4 e5 hZ;subst hin;go_wp2_with fail;refine(HRF.o _).mono ?_;rintro r w5 ⟨rfl,hb5⟩;obtain⟨hZ,hT,e,e1,e2,e3,e4,e5⟩:=HY.o;have Pd:=hZ.below hb5 hZ.lt;have Wp:=hT.below hb5 hT.lt;have hr5:=HA.o.row.below hb5;have hZf:=Pd.frozen;have hz0:=Pd.c0;have hz1:=Pd.c1;have hz2:=Pd.c2;have hz3:=Pd.c3;have MC:=Pd.c4;have ME:=Pd.c5;have ht0:=Wp.c0;have ht1:=Wp.c1;have ht2:=Wp.c2;have ht3:=Wp.c3;have ht4:=Wp.c4;have ht5:=Wp.c5;have hzl:=Pd.lt;have xJ:Below w.heap.size w w5:=((((ay _ w).alloc (ak _) _).alloc (by simp) _).trans (HB.o.mono (by simp;omega))).trans ((HA.o.aC.mono (by omega)).trans (hb5.mono (by omega)));have HV:=(Ba xJ hr5 Pd Wp e e1 e2 e3 e4 e5);clear hZ hT e e1 e2 e3 e4 e5 hb5 Pd Wp hr5 xJ hc0 hc1 hc2 hc3 hc4 hc5 hp0 hp1 HY
    by_cases h0:ee=0
    · subst h0;go_wp2
      go_region
      all_goals
       go_wp2;refine aB (v:=.tuple #[u7,.agg #[.int .i64 (c5:Nat),.int .i64 (c3:Nat),.int .i64 (c4:Nat),.int .i64 (c1:Nat),.int .i64 (c2:Nat),.int .i64 (i:Nat)],.int .i64 0]) (by simp[results,Tryz.results53,go_sem,FK,hz0,hz1,hz2,hz3,MC,ME]) rfl ?_;obtain⟨xJ,hr5,Pd,Wp,e,e1,e2,e3,e4,e5⟩:=HV.o;have aD:But (w.heap.size+1) w5 _:=(But.uh (But.refl (w.heap.size+1) w5) (.int .i64 (c5:Nat)) (.int .i64 (c3:Nat)) (.int .i64 (c4:Nat)) (.int .i64 (c1:Nat)) (.int .i64 (c2:Nat)) (.int .i64 (i:Nat))).drew;have hR6:=Rw.mono (Rw.but hr5 aD (by decide) Pd) (show w.heap.size<=w1.heap.size by omega);rw[e] at hR6;have hans:=iG.yes HEE.o hR6 (But.below xJ aD (by omega) (by omega));rw[<-HX.o.1,e1,e2,e3,e4,e5] at hans;exact hans
    · have h0':(ee==0)=false:=by rw[beq_eq_false_iff_ne];exact h0
      go_wp2;refine aB (v:=.tuple #[.slice none 0 0,.agg #[.int .i64 0,.int .i64 0,.int .i64 0,.int .i64 0,.int .i64 0,.int .i64 0],.int .i64 ee]) (by simp[results,Tryz.results53,go_sem,FK,hz0,hz1,hz2,hz3,MC,ME]) rfl (iG.no ee HEE.o h0 ?_);exact But.below HV.o.1 (But.uh (But.refl (w.heap.size+1) _) _ _ _ _ _ _) (by omega) (by omega)
  · have hil:i<n:=by omega
    obtain⟨hn,hx,hR,hB⟩:=HX.o;have hS:=HA.o;have hbw:Below w.heap.size w wr:=((((ay _ w).alloc (ak _) _).alloc (by simp) _).trans (HB.o.mono (by simp;omega))).trans (hS.aC.mono (by omega));have hRw:Rd w.heap.size wr ao xs:=(hR.mono hB).below hbw;obtain⟨bb,off,hlt2,rfl,hcell⟩:=hRw (by intro e;rw[e] at hn;simp at hn;omega);have hxc:=hcell i (by omega);have hxw:=hx.get i;obtain⟨x,eD⟩:∃ x,xs.getD i 0=x:=⟨_,rfl⟩;rw[eD] at hxc hxw;have HK:=hid (R4 x hxw);have hk5:=kp_le x;have hk3:=kp_ge x;obtain⟨kk,hkk⟩:∃ kk,kp (kd x)=kk:=⟨_,rfl⟩;rw[hkk] at HK hk5 hk3;have l1:(xs.take i).length<=65536:=by rw[eY];omega
    have hbd:=fun k=>XQ k (xs.take i) 65536 l1 (ak _);have hwl:=hS.size;have HY:=(jD eD hkk hk3 hbd hn hlt2);clear hn hx hR hB hS hbw hRw hcell eD hkk hk3 hbd l1 hin;go_wp2_with fail;refine(HK.o _).mono ?_;rintro r w2 ⟨rfl,hb2⟩;have HS2:=ah (SI.kind HA.o hb2 hwl);have Zr:w2.cell? ⟨bb,off+i,none⟩=some (.float .f64 x):=by rw[hb2.cell (p:=⟨bb,off+i,none⟩) (by have:=HY.o.r5;simp;omega)];exact hxc
    have hsz2:=hb2.size;have HC:=hid (Om kk (w1.heap.size+1) _ _ _ _ _ _ w2 hk5 HS2.o.sp (HY.o.r3.1 5) (HY.o.r3.1 3) (HY.o.r3.1 4) (HY.o.r3.1 1) (HY.o.r3.1 2));clear hb2 hxc;go_wp2_with fail;refine dL HC.o ?_;rintro r w3 ⟨rfl,hs3,yG⟩;obtain⟨eD,hkk,hk3,hbd,hn,hlt2⟩:=HY.o;have Wq:Wn w3 (w1.heap.size+1) (xs.take (i+1)) (n:Nat):=Wn.counted (w:=w2) (by omega) (by rw[eD,hkk];exact hs3);have hsz3:=yG.size
    have hxc3:w3.cell? ⟨bb,off+i,none⟩=some (.float .f64 x):=by
     have h9:=(But.below (ay w1.heap.size w2) yG (by omega) (by omega)).cell (p:=⟨bb,off+i,none⟩) (by simp;omega);rw[h9];exact Zr
    by_cases hk2:kd x<=2
    · have hge:(3:Int)<=(kk:Int):=by have:=hk3.2 hk2;omega
      obtain⟨v',w4,hap,hrow4,hb4,Sj,hsz4⟩:=push w1.heap.size w3 u7 (fin (xs.take i)) x (SI.row2 HS2.o yG) (by have h1:=Zn (xs.take i);rw[eY] at h1;omega) (by omega);have HI:=ah (SI.into (v':=v') HS2.o (by omega) Wq yG (by omega) (by omega) (by rw[eD];exact hk2) (by rw[eD];exact hrow4) hb4 Sj hsz4);have Lx:=hid hap;clear hap hrow4 hb4 Sj hsz4 hs3 Wq yG eD hkk hk3 hbd hn hlt2 hk2 Zr
      go_wp2_with (at_builtin;refine cu rfl (.tmp 40) (.tmp 45) 22 rfl _ _ rfl rfl _ _ Lx.o ?_)
      exact Qav
    · have hge:decide ((3:Int)<=(kk:Int))=false:=decide_eq_false (fun h=>hk2 (hk3.1 (by omega)));have HI:=ah (SI.o HS2.o (by omega) Wq yG (by omega) (by omega) (by rw[eD];exact hk2));clear hs3 Wq yG eD hkk hk3 hbd hn hlt2 hk2 Zr;go_wp2;exact Qav
theorem Sk(xs:List Nat)(ao:Option Addr)(n cap B:Nat)(a b:Int)(w:World)(hn:n=xs.length)(hm:n<=35184372088832)(hx:Wf xs)(hR:Rd B w ao xs)(hB:B<=w.heap.size) :
 Calls Tryz.prog 53 #[.slice ao n cap,.agg #[.int .i64 a,.int .i64 b]] w (iG w a b xs):=by
 rcases h:may a b with _|_
 · exact Si xs ao n cap a b w h
 · by_cases hl:65536<n
   · exact Oq xs ao n cap a b w hn h hl hm
   · exact Ot xs ao n cap B a b w hn h (by omega) hx hR hB
end Ps
section
open Go.RowKit J
def Zt(k:Nat):Nat:=if k=5 then 1 else if k=3 then 2 else if k=4 then 3 else if k=1 then 4 else if k=2 then 5 else 0
theorem m42:max (4:Int) 2=4:=by decide
theorem m32:max (3:Int) 2=3:=by decide
theorem m02:max (0:Int) 2=2:=by decide
theorem n42:min (4:Int) 2=2:=by decide
theorem n32:min (3:Int) 2=2:=by decide
theorem n02:min (0:Int) 2=0:=by decide
theorem Qbr{P:Prop}(h:P:=by
 rcases Bp.1 p2.symm with q|q
 · exact q
 · have:=aU (Dl x+1074).toNat;omega):P:=h
theorem Qbl{P:Prop}(h:P:=by
 exact⟨by unfold pk;simp[m42,m32,m02,n42,n32,n02],fun _=>fx,fun _=>by omega⟩):P:=h
theorem Qa2{P:Prop}(h:P:=by
 refine⟨by unfold pk;simp[m42,m32,m02,n42,n32,n02],?_⟩;exact⟨fun q=>by omega,fun q=>absurd q hf⟩):P:=h
theorem yH{x:Nat}(hx:x<18446744073709551616):pK x 4607182418800017408=Zt (kd x)/\(kd x<=2↔aY x):=by
 have c1:jy 4607182418800017408=2:=by decide +kernel
 have n1:Ke 4607182418800017408=false:=by decide +kernel
 have em:aQ x=x%9223372036854775808:=rfl;have en:cZ x=decide (9223372036854775808<=x):=rfl;unfold pK Zt;rw[c1,n1];rcases l6 9218868437227405312 (aQ x) with h|h|h
 · have hk:kd x=5:=by unfold kd;rw[if_pos (by omega)]
   rw[Ct h,hk];refine⟨by unfold pk;simp[m42,m32,m02,n42,n32,n02],?_⟩;constructor
   · intro q;omega
   · intro q;exact absurd (show aQ x<9218868437227405312 from q) (by omega)
 · obtain⟨h1,h2⟩:=tT h.symm;rw[h1,h2];have hf:¬ aY x:=fun q=>absurd (show aQ x<9218868437227405312 from q) (by omega)
   by_cases hs:9223372036854775808<=x
   · have hk:kd x=4:=by unfold kd;rw[if_neg (by omega),if_pos (by omega),if_pos (by omega)]
     rw[hk,en,decide_eq_true hs];exact Qa2
   · have hk:kd x=3:=by unfold kd;rw[if_neg (by omega),if_pos (by omega),if_neg (by omega)]
     rw[hk,en,decide_eq_false hs];exact Qa2
 · have fx:aY x:=h;obtain⟨p1,p2,p3,p4⟩:=ig hx fx;rw[p1]
   by_cases h0:aQ x=0
   · rw[h0,Cy] at p2
     have hfr:vw x=0:=by
      exact Qbr
     have hc:jy x=0:=by
      rcases p4 with q|q
      · exact q.1
      · exact absurd hfr q.2
     rw[hc]
     by_cases hs:9223372036854775808<=x
     · have hk:kd x=1:=by unfold kd;rw[if_neg (by omega),if_neg (by omega),if_pos (by omega),if_pos (by omega)]
       rw[hk,en,decide_eq_true hs];exact Qbl
     · have hk:kd x=2:=by unfold kd;rw[if_neg (by omega),if_neg (by omega),if_pos (by omega),if_neg (by omega)]
       rw[hk,en,decide_eq_false hs];exact Qbl
   · have hk:kd x=0:=by unfold kd;rw[if_neg (by omega),if_neg (by omega),if_neg (by omega)]
     have hfr:vw x≠0:=by
      intro q;rw[q,dS] at p2;have:=Cx.mono (show 0<aQ x by omega);omega
     have hc:jy x=1\/jy x=2:=by
      rcases p4 with q|q
      · exact absurd q.2 hfr
      · exact q.1
     rw[hk];refine⟨?_,fun _=>fx,fun _=>by omega⟩;rcases hc with q|q
     · rw[q,show max (1:Int) 2=2 by decide,show min (1:Int) 2=1 by decide];unfold pk;simp
     · rw[q,show max (2:Int) 2=2 by decide,show min (2:Int) 2=2 by decide];unfold pk;simp
theorem kd5(x:Nat):kd x<=5:=by unfold kd;(repeat' split) <;> omega
theorem yI:∀ (xs:List Nat) (s:Sp),ja xs->xs.foldl (fun s x=>s.cnt (pK x 4607182418800017408) 1) s=⟨s.n+Ps.cn 5 xs,s.u+Ps.cn 3 xs,s.d+Ps.cn 4 xs,s.m+Ps.cn 1 xs,s.p+Ps.cn 2 xs,s.a+xs.length⟩
 | [],s,_=>by simp[Ps.cn]
 | x::xs,s,h=>by
   rw[List.foldl_cons,yI xs _ (fun z hz=>h z (nk _ hz)),(yH (h x nu)).1];have hk:=kd5 x;unfold Sp.cnt Zt Ps.cn;simp only[List.countP_cons,nK];obtain q|q|q|q|q|q:kd x=0\/kd x=1\/kd x=2\/kd x=3\/kd x=4\/kd x=5:=by omega
   all_goals (rw[q];simp;(repeat' constructor) <;> omega)
theorem Sl{xs:List Nat}(h:ja xs):sS xs=⟨(Ps.cn 5 xs:Nat),(Ps.cn 3 xs:Nat),(Ps.cn 4 xs:Nat),(Ps.cn 1 xs:Nat),(Ps.cn 2 xs:Nat),(xs.length:Nat)⟩:=by
 unfold sS;rw[yI xs _ h];simp
theorem Ws{xs:List Nat}(h:ja xs):∀ x ∈ Ps.fin xs,aY x:=fun x hx=>(yH (h x (List.mem_filter.1 hx).1)).2.1 (by simpa using (List.mem_filter.1 hx).2)
theorem Sm{xs:List Nat}(h:ja xs)(hf:∀ x ∈ xs,aY x):Ps.fin xs=xs:=List.filter_eq_self.2 fun x hx=>by simpa using (yH (h x hx)).2.2 (hf x hx)
theorem Aw:∀ {xs:List Nat},((Ps.fin xs).length:Int)=(xs.length:Int)-(Ps.cn 5 xs:Nat)-(Ps.cn 3 xs:Nat)-(Ps.cn 4 xs:Nat)
 | []=>rfl
 | x::xs=>by
   have ih:=Aw (xs:=xs);have hk:=kd5 x;unfold Ps.fin Ps.cn at ih |-;simp only[List.countP_cons,nK,List.filter_cons];obtain q|q|q|q|q|q:kd x=0\/kd x=1\/kd x=2\/kd x=3\/kd x=4\/kd x=5:=by omega
   all_goals (rw[q];simp;omega)
def KH(pa pb:Int)(xs:List Nat):Int:=if may pa pb=false then 1 else if 65536<xs.length then 2 else Ps.rf (sS xs).n (sS xs).u (sS xs).d pa pb
def Wt:Value:=.agg #[.int .i64 0,.int .i64 0,.int .i64 0,.int .i64 0,.int .i64 0,.int .i64 0]
theorem ps_rd{B:Nat}{w:World}{a:Option Addr}{xs:List Nat}(h:Fs B w a xs):Ps.Rd B w a xs:=h
theorem XR{lo:Nat}{w:World}{v:Value}{xs:List Nat}(h:Ps.Lt lo w v xs):∃ a c,v=.slice a xs.length c/\Fs w.heap.size w a xs/\∀ b o p,a=some ⟨b,o,p⟩->lo<=b:=by
 have h2:=h.2;unfold Ps.Lt at h;rcases h2 with ⟨rfl,h0⟩|⟨g,cap,cur,rfl,hlo,hg,rest⟩
 · refine⟨none,0,by rw[h0],fun hne=>absurd (uT h0) hne,fun b o p h=>by cases h⟩
 · refine⟨_,cap,rfl,fun _=>⟨g,0,(eZ.1 hg).1,rfl,fun i hi=>?_⟩,fun b o p h=>by cases h;exact hlo⟩;have h1:=h.cells (g:=g) (by simp[Value.ownBlock]) i (.float .f64 (xs.getD i 0)) (by simp[Ps.U,hi]);have e:(⟨g,0,none⟩:Addr).add i=⟨g,0+i,none⟩:=by unfold Addr.add;split <;> simp_all
   rw[e] at h1;exact h1
theorem Sn(xs:List Nat)(a:Option Addr)(n c:Nat)(pa pb:Int)(w:World)(hn:n=xs.length)(hm:n<=35184372088832)(hF:Fs w.heap.size w a xs)(hW:ja xs) :
 Calls Tryz.prog 53 #[.slice a n c,.agg #[.int .i64 pa,.int .i64 pb]] w fun r w' =>
  ((KH pa pb xs≠0/\∃ a' c',r=.returned (.tuple #[.slice a' 0 c',Wt,.int .i64 (KH pa pb xs)])) \/
   (KH pa pb xs=0/\∃ a' c',r=.returned (.tuple #[.slice a' (Ps.fin xs).length c',(sS xs).agg,.int .i64 0])/\Fs w'.heap.size w' a' (Ps.fin xs)/\∀ b o p,a'=some ⟨b,o,p⟩->w.heap.size<=b))/\Below w.heap.size w w':=by
 have e1:Ps.lh pa pb xs=KH pa pb xs:=by unfold Ps.lh KH;rw[Sl hW]
 refine(Ps.Sk xs a n c w.heap.size pa pb w hn hm hW (ps_rd hF) (ak _)).mono ?_;rintro r w' ⟨v,rfl,hL,hb⟩;refine⟨?_,hb⟩;unfold Ps.KG;unfold Ps.KF at hL;rw[e1] at hL |-
 by_cases h0:KH pa pb xs=0
 · rw[if_pos h0] at hL |-;obtain⟨a',c',rfl,hF',hlo⟩:=XR hL;exact .inr ⟨h0,a',c',by rw[h0,Sl hW];rfl,hF',hlo⟩
 · rw[if_neg h0] at hL |-;obtain⟨a',c',rfl,_⟩:=XR hL;exact .inl ⟨h0,a',c',rfl⟩
theorem Fs.but'{B:Nat}{w w':World}{ao:Option Addr}{xs:List Nat}{g:Nat}(h:Fs B w ao xs)(hb:But g w w')(hg:∀ b o p,ao=some ⟨b,o,p⟩->b≠g):Fs B w' ao xs:=by
 intro hne;obtain⟨b,off,h1,h2,h3⟩:=h hne;have hbg:b≠g:=hg _ _ _ h2;refine⟨b,off,h1,h2,fun i hi=>?_⟩;have hc:=h3 i hi
 have hlt:b<w.heap.size:=by
  rcases gT b w.heap.size with q|q
  · exact q
  · unfold World.cell? at hc;simp[wW q] at hc
 rw[qV (a:=⟨b,off+i,none⟩) (hb.block b hlt hbg)];exact hc
attribute [local go_sem] bR
theorem FL(e:Int):Dn e 0=0:=by unfold Dn;split <;> rfl
end
section
open Go.RowKit J
attribute [local go_sem] bR
def yV(xs:List Nat):Int:=if 65536<xs.length then 2 else if 0<(sS xs).n\/0<(sS xs).u+(sS xs).d then 30 else 0
theorem sf22(xs:List Nat):(KH 2 2 xs=0/\yV xs=0)\/(KH 2 2 xs=2/\yV xs=2)\/((KH 2 2 xs=60\/KH 2 2 xs=61)/\yV xs=30):=by
 have hm:may 2 2=true:=by decide
 unfold KH yV Ps.rf;rw[hm,if_neg (by decide)]
 by_cases hl:65536<xs.length
 · rw[if_pos hl,if_pos hl];exact .inr (.inl ⟨rfl,rfl⟩)
 · rw[if_neg hl,if_neg hl]
   by_cases h1:0<(sS xs).n
   · rw[if_pos ⟨h1,rfl⟩,if_pos (.inl h1)];exact .inr (.inr ⟨.inl rfl,rfl⟩)
   · rw[if_neg (fun h=>h1 h.1)]
     by_cases h2:0<(sS xs).u+(sS xs).d
     · rw[if_pos ⟨h2,rfl⟩,if_pos (.inr h2)];exact .inr (.inr ⟨.inr rfl,rfl⟩)
     · rw[if_neg (fun h=>h2 h.1),if_neg (by omega)];exact .inl ⟨rfl,rfl⟩
theorem Sq {fn:Func}{p q:Tmp}(hfn:fn.results=#[.cell p 72,.tmp q]) {tmps:Array Value}{w:World}{g:Nat}{t1 t2 t3 t4 t5 t6 e:Int}{R:Ending->World->Prop}
 (h1:tmps.getD p undef=.pointer (some ⟨g,0,none⟩)) (h2:tmps.getD q undef=.int .i64 e) (hB:Bl w g 72 [.int .i64 t1,.int .i64 t2,.int .i64 t3,.int .i64 t4,.int .i64 t5,.int .i64 t6])
 (hR:R (.returned (.tuple #[.agg #[.int .i64 t1,.int .i64 t2,.int .i64 t3,.int .i64 t4,.int .i64 t5,.int .i64 t6],.int .i64 e])) w) :
 bodyPost Tryz.prog fn R .ret ⟨tmps,[]⟩ w:=by
 have c0:=hB.cell 0 _ rfl;have c1:=hB.cell 1 _ rfl;have c2:=hB.cell 2 _ rfl;have c3:=hB.cell 3 _ rfl;have c4:=hB.cell 4 _ rfl;have c5:=hB.cell 5 _ rfl;rw[Array.getD_eq_getD_getElem?] at h1 h2;exact aB (v:=.tuple #[.agg #[.int .i64 t1,.int .i64 t2,.int .i64 t3,.int .i64 t4,.int .i64 t5,.int .i64 t6],.int .i64 e]) (by simp[results,hfn,go_sem,Ps.FK,h1,h2,c0,c1,c2,c3,c4,c5]) rfl hR
theorem Qa9{P:Prop}(h:P:=by
 exact But.below B3.o.r2.1 (Ps.But.uh (But.refl w.heap.size _) _ _ _ _ _ _) B3.o.r2.1.size (ak _)):P:=h
theorem plain13(xs:List Nat)(a:Option Addr)(n c:Nat)(w:World)(hn:n=xs.length)(hF:Fs w.heap.size w a xs)(hW:ja xs)(hl:n<=35184372088832) :
 Calls Tryz.prog 48 #[.slice a n c] w fun r w'=>((yV xs≠0/\r=.returned (.tuple #[Wt,.int .i64 (yV xs)]))\/(yV xs=0/\r=.returned (.tuple #[(sS xs).agg,.int .i64 0])))/\Below w.heap.size w w':=by
 obtain⟨W,um⟩:=af (w.alloc (Obj.cells #[.int .i64 0,.int .i64 0,.int .i64 0,.int .i64 0,.int .i64 0,.int .i64 0] 72))
 have B0:Aside (Bl W w.heap.size 72 [.int .i64 0,.int .i64 0,.int .i64 0,.int .i64 0,.int .i64 0,.int .i64 0]/\Below w.heap.size w W):=by
  rw[um];exact⟨Bl.new _ 72 [_,_,_,_,_,_],ax _ _⟩
 have HS:=hid (Sn xs a n c 2 2 W hn hl ((hF.below B0.o.2).mono B0.o.2.size) hW);have hsf:=sf22 xs;obtain⟨es,hes⟩:∃ e,KH 2 2 xs=e:=⟨_,rfl⟩;obtain⟨ep,Wu⟩:∃ e,yV xs=e:=⟨_,rfl⟩;obtain⟨⟨sn,su,sd,sm,sp,sa⟩,hs⟩:∃ s,sS xs=s:=⟨_,rfl⟩;obtain⟨fl,hfl⟩:∃ f,Ps.fin xs=f:=⟨_,rfl⟩;rw[hs,hes,hfl] at HS;rw[hes,Wu] at hsf;rw[Wu,hs];simp only[Sp.agg] at HS |-;have HSF:=ah hsf;have FI:=ah um;clear hn hF hW hl um hes Wu hs hfl hsf;go_enter Tryz.func48,Tryz.ntmps48;go_wp2_with fail;rw[<-FI.o];clear FI;refine HS.o.mono ?_;rintro r v ⟨hr,hb⟩;have B1:Aside (Bl v w.heap.size 72 [.int .i64 0,.int .i64 0,.int .i64 0,.int .i64 0,.int .i64 0,.int .i64 0]/\Below w.heap.size w v):=⟨B0.o.1.below hb B0.o.1.lt,B0.o.2.trans (hb.mono B0.o.2.size)⟩
 have BU:Aside (∀ (t1 t2 t3 t4 t5 t6:Int) (U:World),U=v.alloc (Obj.cells #[.int .i64 t1,.int .i64 t2,.int .i64 t3,.int .i64 t4,.int .i64 t5,.int .i64 t6] 72) ->
  Bl U w.heap.size 72 [.int .i64 0,.int .i64 0,.int .i64 0,.int .i64 0,.int .i64 0,.int .i64 0]/\Bl U v.heap.size 72 [.int .i64 t1,.int .i64 t2,.int .i64 t3,.int .i64 t4,.int .i64 t5,.int .i64 t6]/\Below w.heap.size w U/\w.heap.size<v.heap.size):=by
  intro t1 t2 t3 t4 t5 t6 U hU;rw[hU];exact⟨B1.o.1.alloc _,Bl.new _ 72 [_,_,_,_,_,_],B1.o.2.trans ((ax _ _).mono B1.o.2.size),B1.o.1.lt⟩
 clear hb B0 HS;rcases hr with ⟨he,a',c',rfl⟩|⟨he,a',c',rfl,hF',hlo⟩
 · unfold Wt;obtain⟨U,hU⟩:=af (v.alloc (Obj.cells #[.int .i64 0,.int .i64 0,.int .i64 0,.int .i64 0,.int .i64 0,.int .i64 0] 72));obtain⟨u1,u2,u3,u4⟩:=BU.o _ _ _ _ _ _ _ hU;obtain⟨gs,hgs⟩:∃ g,v.heap.size=g:=⟨_,rfl⟩;rw[hgs] at u2 u4;have B3:=(iw u1 u2 u3 u4);have s0:=u2.cell 0 _ rfl;have s1:=u2.cell 1 _ rfl;have s2:=u2.cell 2 _ rfl;have s3:=u2.cell 3 _ rfl;have s4:=u2.cell 4 _ rfl;have s5:=u2.cell 5 _ rfl;have z0:=u1.cell 0 _ rfl;have z1:=u1.cell 1 _ rfl;have z2:=u1.cell 2 _ rfl;have z3:=u1.cell 3 _ rfl;have z4:=u1.cell 4 _ rfl;have z5:=u1.cell 5 _ rfl;have y0:=u1.frozen 0;have y1:=u1.frozen 1;have y2:=u1.frozen 2;have y3:=u1.frozen 3;have y4:=u1.frozen 4;have y5:=u1.frozen 5;have XT:=ah hgs;have HU:=ah hU;clear u1 u2 u3 u4 hU BU hgs
   go_upto_region 2 with fail
   rw[<-HU.o,XT.o];clear HU XT;obtain⟨h1,h2⟩|⟨h1,h2⟩|⟨h1|h1,h2⟩:=HSF.o
   · exact absurd h1 he
   all_goals
    subst h1 h2;clear he HSF;go_wp2;refine Sq Tryz.results48 ?_ ?_ ((((((B3.o.1.set 0 _).set 1 _).set 2 _).set 3 _).set 4 _).set 5 _) ⟨by first | exact .inl ⟨by decide,rfl⟩ | rfl,?_⟩
    · rfl
    · rfl
    · exact Qa9
 · subst he;obtain rfl:ep=0:=by rcases HSF.o with ⟨h1,h2⟩|⟨h1,h2⟩|⟨h1|h1,h2⟩ <;> omega
   obtain⟨U,hU⟩:=af (v.alloc (Obj.cells #[.int .i64 sn,.int .i64 su,.int .i64 sd,.int .i64 sm,.int .i64 sp,.int .i64 sa] 72));obtain⟨u1,u2,u3,u4⟩:=BU.o _ _ _ _ _ _ _ hU;obtain⟨gs,hgs⟩:∃ g,v.heap.size=g:=⟨_,rfl⟩;rw[hgs] at u2 u4;have B3:=(iw u1 u2 u3 u4);have s0:=u2.cell 0 _ rfl;have s1:=u2.cell 1 _ rfl;have s2:=u2.cell 2 _ rfl;have s3:=u2.cell 3 _ rfl;have s4:=u2.cell 4 _ rfl;have s5:=u2.cell 5 _ rfl;have z0:=u1.cell 0 _ rfl;have z1:=u1.cell 1 _ rfl;have z2:=u1.cell 2 _ rfl;have z3:=u1.cell 3 _ rfl;have z4:=u1.cell 4 _ rfl;have z5:=u1.cell 5 _ rfl;have y0:=u1.frozen 0;have y1:=u1.frozen 1;have y2:=u1.frozen 2;have y3:=u1.frozen 3;have y4:=u1.frozen 4;have y5:=u1.frozen 5;have XT:=ah hgs;have HU:=ah hU;clear u1 u2 u3 u4 hU BU hgs hF' hlo
   go_upto_region 2 with fail
   rw[<-HU.o,XT.o];clear HU XT HSF;go_wp2;refine Sq Tryz.results48 ?_ ?_ ((((((B3.o.1.set 0 _).set 1 _).set 2 _).set 3 _).set 4 _).set 5 _) ⟨by first | exact .inr ⟨rfl,rfl⟩ | rfl,?_⟩
   · rfl
   · rfl
   · exact Qa9
end
section
open Go.RowKit J
attribute [local go_sem] bR
abbrev ClD(f:FuncId):Prop:=∀ (gx ge x:Nat) (e:Int) (w:World),w.cell? ⟨gx,0,none⟩=some (.float .f64 x)->w.cell? ⟨ge,0,none⟩=some (.int .i64 e)->w.frozen? ⟨gx,0,none⟩=false->∀ (u:FrameMode),
 CallsD Tryz.prog f #[.pointer (some ⟨ge,0,none⟩),.pointer (some ⟨gx,0,none⟩)] u w fun r u' w'=>u'=u/\(r=.returned (.tuple #[])/\w'=w.setCell ⟨gx,0,none⟩ (.float .f64 (Dn e x)))
theorem CF {fn:Func}{f:FuncId}{px pe:Tmp}(hres:fn.results=#[.cell px 27,.cell pe 28]) (HC:ClD f) {tmps:Array Value}{gx ge x X:Nat}{e E:Int}{w v:World}
 (b1:Bl v gx 27 [.float .f64 x]) (b2:Bl v ge 28 [.int .i64 e]) (hb:Below w.heap.size w v) (hgx:w.heap.size<=gx) (hne:ge≠gx) (hX:Dn e x=X) (hE:e=E)
 (hi:(callFunc f #[.pointer (some ⟨ge,0,none⟩),.pointer (some ⟨gx,0,none⟩)]).run Tryz.prog v=.ok (.enter f #[.pointer (some ⟨ge,0,none⟩),.pointer (some ⟨gx,0,none⟩)]) v)
 (h1:tmps.getD px undef=.pointer (some ⟨gx,0,none⟩)) (h2:tmps.getD pe undef=.pointer (some ⟨ge,0,none⟩)) :
 Leaves Tryz.prog fn tmps (fun r w'=>r=.returned (.tuple #[.float .f64 X,.int .i64 E])/\Below w.heap.size w w') [{ target:=.fn (.func f) #[.pointer (some ⟨ge,0,none⟩),.pointer (some ⟨gx,0,none⟩)],args:=#[] }] .returning v:=by
 subst hX hE;refine Zl hres hi (HC gx ge x e v (b1.cell 0 _ rfl) (b2.cell 0 _ rfl) (b1.frozen 0)) h1 h2 (b1.cell 0 _ rfl) (b2.cell 0 _ rfl) hne ?_;have kb:But gx v (v.setCell ⟨gx,0,none⟩ (.float .f64 (Dn e x))):=(But.refl gx _).set 0 _;exact⟨rfl,But.below hb kb hb.size hgx⟩
theorem Sr {fn:Func}{f:FuncId}{px pe:Tmp}(hres:fn.results=#[.cell px 27,.cell pe 28]) (HC:ClD f) {tmps:Array Value}{gx ge x0 x X:Nat}{e0 e E:Int}{w v:World}
 (b1:Bl v gx 27 [.float .f64 x0]) (b2:Bl v ge 28 [.int .i64 e0]) (hb:Below w.heap.size w v) (hgx:w.heap.size<=gx) (hge:w.heap.size<=ge) (hne:ge≠gx) (hX:Dn e x=X) (hE:e=E)
 (hi:∀ v:World,(callFunc f #[.pointer (some ⟨ge,0,none⟩),.pointer (some ⟨gx,0,none⟩)]).run Tryz.prog v=.ok (.enter f #[.pointer (some ⟨ge,0,none⟩),.pointer (some ⟨gx,0,none⟩)]) v)
 (h1:tmps.getD px undef=.pointer (some ⟨gx,0,none⟩)) (h2:tmps.getD pe undef=.pointer (some ⟨ge,0,none⟩)) :
 Leaves Tryz.prog fn tmps (fun r w'=>r=.returned (.tuple #[.float .f64 X,.int .i64 E])/\Below w.heap.size w w') [{ target:=.fn (.func f) #[.pointer (some ⟨ge,0,none⟩),.pointer (some ⟨gx,0,none⟩)],args:=#[] }] .returning ((v.setCell ⟨gx,0,none⟩ (.float .f64 x)).setCell ⟨ge,0,none⟩ (.int .i64 e)):=by
 have bt:But gx v (v.setCell ⟨gx,0,none⟩ (.float .f64 x)):=(But.refl _ _).set 0 _;have be:But ge (v.setCell ⟨gx,0,none⟩ (.float .f64 x)) ((v.setCell ⟨gx,0,none⟩ (.float .f64 x)).setCell ⟨ge,0,none⟩ (.int .i64 e)):=(But.refl _ _).set 0 _;have k0:=But.below hb bt hb.size hgx;exact CF hres HC ((b1.set 0 (.float .f64 x)).but be (fun h=>hne h.symm)) ((b2.but bt hne).set 0 (.int .i64 e)) (But.below k0 be k0.size hge) hgx hne hX hE (hi _) h1 h2
theorem two13(w:World):Bl ((w.alloc (Obj.cells #[.float .f64 0] 27)).alloc (Obj.cells #[.int .i64 0] 28)) w.heap.size 27 [.float .f64 0]/\Bl ((w.alloc (Obj.cells #[.float .f64 0] 27)).alloc (Obj.cells #[.int .i64 0] 28)) (w.heap.size+1) 28 [.int .i64 0]/\Below w.heap.size w ((w.alloc (Obj.cells #[.float .f64 0] 27)).alloc (Obj.cells #[.int .i64 0] 28)):=by
 have z2:=Bl.new (w.alloc (Obj.cells #[.float .f64 0] 27)) 28 [.int .i64 0];rw[sF] at z2;exact⟨(Bl.new w 27 [_]).below (ax _ _) (by simp),z2,(ax _ _).trans ((ax _ _).mono (by simp))⟩
theorem FM{w v:World}{gx ge x:Nat}{e0:Int}(e:Int)(b1:Bl v gx 27 [.float .f64 x])(b2:Bl v ge 28 [.int .i64 e0])(hb:Below w.heap.size w v)(hge:w.heap.size<=ge)(hne:ge≠gx) :
 Bl (v.setCell ⟨ge,0,none⟩ (.int .i64 e)) gx 27 [.float .f64 x]/\Bl (v.setCell ⟨ge,0,none⟩ (.int .i64 e)) ge 28 [.int .i64 e]/\Below w.heap.size w (v.setCell ⟨ge,0,none⟩ (.int .i64 e)):=by
 have be:But ge v (v.setCell ⟨ge,0,none⟩ (.int .i64 e)):=(But.refl _ _).set 0 _;exact⟨b1.but be (fun h=>hne h.symm),b2.set 0 _,But.below hb be hb.size hge⟩
theorem Su{w v:World}{gx ge x:Nat}{e0:Int}{ao:Option Addr}{xs:List Nat}(b1:Bl v gx 27 [.float .f64 x])(b2:Bl v ge 28 [.int .i64 e0])(hb:Below w.heap.size w v)(hge:w.heap.size<=ge)(hne:ge≠gx)(hT:gF w)(hF:Fs v.heap.size v ao xs)(hg:∀ b o p,ao=some ⟨b,o,p⟩->b≠ge)(e t1 t2 t3 t4 t5 t6:Int)(Z:World)(hZ:Z=(v.setCell ⟨ge,0,none⟩ (.int .i64 e)).alloc (Obj.cells #[.int .i64 t1,.int .i64 t2,.int .i64 t3,.int .i64 t4,.int .i64 t5,.int .i64 t6] 72)) :
 Bl Z gx 27 [.float .f64 x]/\Bl Z ge 28 [.int .i64 e]/\Bl Z v.heap.size 72 [.int .i64 t1,.int .i64 t2,.int .i64 t3,.int .i64 t4,.int .i64 t5,.int .i64 t6]/\Below w.heap.size w Z/\gF Z/\Fs Z.heap.size Z ao xs:=by
 obtain⟨k1,k2,k3⟩:=FM (w:=w) e b1 b2 hb hge hne;have be:But ge v (v.setCell ⟨ge,0,none⟩ (.int .i64 e)):=(But.refl _ _).set 0 _;have hsz:(v.setCell ⟨ge,0,none⟩ (.int .i64 e)).heap.size=v.heap.size:=by simp
 have z1:=Bl.new (v.setCell ⟨ge,0,none⟩ (.int .i64 e)) 72 [.int .i64 t1,.int .i64 t2,.int .i64 t3,.int .i64 t4,.int .i64 t5,.int .i64 t6];rw[hsz] at z1;rw[hZ];have hbb:=k3.trans ((ax (v.setCell ⟨ge,0,none⟩ (.int .i64 e)) (Obj.cells #[.int .i64 t1,.int .i64 t2,.int .i64 t3,.int .i64 t4,.int .i64 t5,.int .i64 t6] 72)).mono k3.size);exact⟨k1.alloc _,k2.alloc _,z1,hbb,hT.belows hbb,((hF.but' be hg).below ((ax _ _).mono (by simp))).mono (by simp)⟩
noncomputable def Sv (xs:List Nat) (mode:Int):Nat×Int:=if yV xs=0 then(Dn (lK xs (sS xs) mode).2 (lK xs (sS xs) mode).1,(lK xs (sS xs) mode).2) else(0,yV xs)
noncomputable def oL (x y:Nat) (mode:Int):Nat×Int:=if nG mode=0 then Sv [x,y] mode else(0,nG mode)
theorem CG(w:World)(x y:Nat):Fs (w.alloc (Obj.cells #[.float .f64 x,.float .f64 y] 27)).heap.size (w.alloc (Obj.cells #[.float .f64 x,.float .f64 y] 27)) (some ⟨w.heap.size,0,none⟩) [x,y]:=by
 intro _;refine⟨w.heap.size,0,by simp,rfl,fun i hi=>?_⟩;have hB:=Bl.new w 27 [.float .f64 x,.float .f64 y]
 match i,hi with
 | 0,_=>exact hB.cell 0 _ rfl
 | 1,_=>exact hB.cell 1 _ rfl
theorem Sw(x y:Nat)(hx:x<18446744073709551616)(hy:y<18446744073709551616)(mode:Int)(w:World)(hT:gF w)(z:Nat×Int)(hz:oL x y mode=z) :
 Calls Tryz.prog 33 #[.float .f64 x,.float .f64 y,.int .i64 mode] w fun r w'=>r=.returned (.tuple #[.float .f64 z.1,.int .i64 z.2])/\Below w.heap.size w w':=by
 obtain⟨X,E⟩:=z;simp only;have hmf:∀ (fn:Fn) (first cap:Array Value) (w:World),(Instr.makeFunc fn first cap).run Tryz.prog w=.ok (.func fn first cap) w:=fun _ _ _ _=>rfl;have HA:=hid (fun u:World=>Wl mode u);unfold oL at hz;obtain⟨ea,hea⟩:∃ e,nG mode=e:=⟨_,rfl⟩;rw[hea] at HA hz;obtain⟨W,um⟩:=af ((w.alloc (Obj.cells #[.float .f64 0] 27)).alloc (Obj.cells #[.int .i64 0] 28));obtain⟨gx,hgx⟩:=af (w.heap.size);obtain⟨ge,hge⟩:=af (w.heap.size+1);have HG:Aside (gx=w.heap.size/\ge=w.heap.size+1/\w.heap.size<=gx/\w.heap.size<=ge/\ge≠gx):=⟨hgx,hge,by omega,by omega,by omega⟩;have B0:=two13 w;rw[<-um,<-hge] at B0;have B1:=ah (FM ea (show Bl W gx 27 [.float .f64 0] by rw[hgx];exact B0.1) B0.2.1 B0.2.2 HG.o.r3.1 HG.o.r4);have c1:=B0.2.1.cell 0 _ rfl;have f1:=B0.2.1.frozen 0;have FI:=ah um;have HX:=fG hx hy hT;clear hx hy hT um hea hgx hge B0;go_enter_defers Tryz.func33,Tryz.ntmps33;go_wp2_with fail;rw[<-FI.o]
 try rw[show w.heap.size+1=ge by have:=HG.o;omega]
 try rw[show w.heap.size=gx by have:=HG.o;omega]
 clear FI;refine(HA.o _).mono ?_;rintro r v ⟨rfl,hv⟩;rw[hv];clear hv v
 by_cases h0:ea=0
 · subst h0;rw[if_pos rfl] at hz;obtain⟨V,hV⟩:=af (W.setCell ⟨ge,0,none⟩ (.int .i64 0));rw[<-hV] at B1;have r1:=B1.o.2.1.cell 0 _ rfl;obtain⟨U,hU⟩:=af (V.alloc (Obj.cells #[.float .f64 x,.float .f64 y] 27));obtain⟨ga,hga⟩:∃ g,V.heap.size=g:=⟨_,rfl⟩
   have B2:Aside (Bl U gx 27 [.float .f64 0]/\Bl U ge 28 [.int .i64 0]/\Below w.heap.size w U/\Fs U.heap.size U (some ⟨ga,0,none⟩) [x,y]/\gF U/\ja [x,y]):=by
    have yU:Below w.heap.size w U:=by rw[hU];exact B1.o.r2.trans ((ax _ _).mono B1.o.r2.size)
    refine⟨by rw[hU];exact B1.o.1.alloc _,by rw[hU];exact B1.o.2.1.alloc _,yU,by rw[hU,<-hga];exact CG V x y,HX.o.r2.belows yU,?_⟩;intro q hq;simp at hq;rcases hq with rfl|rfl
    · exact HX.o.1
    · exact HX.o.2.1
   have HP:=hid (plain13 [x,y] (some ⟨ga,0,none⟩) 2 2 U rfl B2.o.r3.1 B2.o.r5 (by decide));have HW2:=ah B2.o.r5;have HGN:Aside (ga≠ge):=by have:=B1.o.2.1.lt;rw[Aside,<-hga];omega
   obtain⟨ep,Wu⟩:∃ e,yV [x,y]=e:=⟨_,rfl⟩;obtain⟨⟨sn,su,sd,sm,sp,sa⟩,hs⟩:∃ s,sS [x,y]=s:=⟨_,rfl⟩;unfold Sv at hz;rw[Wu,hs] at HP hz;simp only[Sp.agg] at HP;have HV:=ah hV;have HU:=ah hU;have HGA:=ah hga;clear hV hU hga Wu hs HA
   go_upto_region 3 with fail
   rw[<-HV.o];clear HV
   go_upto_region 5 with fail
   rw[<-HU.o,HGA.o];clear HU HGA;go_wp2_with fail;refine HP.o.mono ?_;rintro r v ⟨hr,hb⟩;have B3:Aside (Bl v gx 27 [.float .f64 0]/\Bl v ge 28 [.int .i64 0]/\Below w.heap.size w v/\Fs v.heap.size v (some ⟨ga,0,none⟩) [x,y]/\ga≠ge):=⟨B2.o.1.below hb B2.o.1.lt,B2.o.2.1.below hb B2.o.2.1.lt,B2.o.r2.1.trans (hb.mono B2.o.r2.1.size),(B2.o.r3.1.below hb).mono hb.size,HGN.o⟩;have q1:=B3.o.2.1.cell 0 _ rfl;have q2:=B3.o.2.1.frozen 0;have hlt:=B3.o.2.1.lt;have BU:=ah (Su B3.o.1 B3.o.2.1 B3.o.r2.1 HG.o.r3.1 HG.o.r4 HX.o.r2 B3.o.r3.1 (fun b o p h=>by cases h;exact B3.o.r4));clear hb HP B2;rcases hr with ⟨he,rfl⟩|⟨he,rfl⟩
   · unfold Wt;rw[if_neg he] at hz;have FN:=ah (iA hz);have h1:(ep==0)=false:=by simp[he]
     obtain⟨Z,hZ⟩:=af ((v.setCell ⟨ge,0,none⟩ (.int .i64 ep)).alloc (Obj.cells #[.int .i64 0,.int .i64 0,.int .i64 0,.int .i64 0,.int .i64 0,.int .i64 0] 72));have B4:=ah (BU.o _ _ _ _ _ _ _ _ hZ);have r1:=B4.o.2.1.cell 0 _ rfl;have HZ:=ah hZ;clear hZ BU hz
     go_upto_region 6 with fail
     rw[<-HZ.o];clear HZ;go_wp2;refine CF Tryz.results33 uk B4.o.1 B4.o.2.1 B4.o.r3.1 HG.o.r2.1 HG.o.r4 ((FL _).trans FN.o.1) FN.o.2 (by simp[go_sem]) ?_ ?_ <;> rfl
   · subst he;rw[if_pos rfl] at hz;obtain⟨Z,hZ⟩:=af ((v.setCell ⟨ge,0,none⟩ (.int .i64 0)).alloc (Obj.cells #[.int .i64 sn,.int .i64 su,.int .i64 sd,.int .i64 sm,.int .i64 sp,.int .i64 sa] 72));have B4:=ah (BU.o _ _ _ _ _ _ _ _ hZ);obtain⟨gs,hgs⟩:∃ g,v.heap.size=g:=⟨_,rfl⟩;rw[hgs] at B4;have r1:=B4.o.2.1.cell 0 _ rfl;have s0:=B4.o.r2.1.cell 0 _ rfl;have s1:=B4.o.r2.1.cell 1 _ rfl;have s2:=B4.o.r2.1.cell 2 _ rfl;have s3:=B4.o.r2.1.cell 3 _ rfl;have s4:=B4.o.r2.1.cell 4 _ rfl;have s5:=B4.o.r2.1.cell 5 _ rfl;obtain⟨⟨xl,el⟩,hl⟩:∃ z,lK [x,y] ⟨sn,su,sd,sm,sp,sa⟩ mode=z:=⟨_,rfl⟩;rw[hl] at hz;have hz1:(Dn el xl,el)=(X,E):=hz;obtain⟨hX,hE⟩:=iA hz1;have HL:=hid (Wm [x,y] (some ⟨ga,0,none⟩) 2 2 sn su sd sm sp sa mode Z rfl B4.o.r5 HW2.o B4.o.r4.1 (by decide) (xl,el) hl);simp only at HL;have FN:=aZ hX hE;have HZ:=ah hZ;have XT:=ah hgs;clear hZ BU hz hz1 hX hE hl hgs
     go_upto_region 6 with fail
     rw[<-HZ.o,XT.o];clear HZ XT q1 q2 hlt;go_wp2_with fail;refine HL.o.mono ?_;rintro r v4 ⟨rfl,hb⟩
     have B6:Aside (Bl v4 gx 27 [.float .f64 0]/\Bl v4 ge 28 [.int .i64 0]/\Below w.heap.size w v4) :=
      ⟨B4.o.1.below hb B4.o.1.lt,B4.o.2.1.below hb B4.o.2.1.lt,B4.o.r3.1.trans (hb.mono B4.o.r3.1.size)⟩
     have t1:=B6.o.1.cell 0 _ rfl;have t2:=B6.o.1.frozen 0;have t3:=B6.o.2.1.cell 0 _ rfl;have t4:=B6.o.2.1.frozen 0;have hne1:ge≠gx:=HG.o.r4;have hne2:gx≠ge:=fun h=>HG.o.r4 h.symm;clear hb B4 HL s0 s1 s2 s3 s4 s5;go_wp2;refine Sr Tryz.results33 uk B6.o.1 B6.o.2.1 B6.o.r2 HG.o.r2.1 HG.o.r3.1 HG.o.r4 FN.o.1 FN.o.2 (fun _=>by simp[go_sem]) ?_ ?_ <;> rfl
 · rw[if_neg h0] at hz;have FN:=ah (iA hz);have h1:(ea==0)=false:=by simp[h0]
   clear hz HA;go_wp2;refine CF Tryz.results33 uk B1.o.1 B1.o.2.1 B1.o.r2 HG.o.r2.1 HG.o.r4 ((FL _).trans FN.o.1) FN.o.2 (by simp[go_sem]) ?_ ?_ <;> rfl
end
section
open Go.RowKit J
theorem uo{P:Program}{c:Code}{K:Act->World->Prop}{Q:Exit->Act->World->Prop}{a:Act}{w:World}(h:c.wp P (Exit.then K (fun _ _ _=>False)) a w):c.wp P (Exit.then K Q) a w :=
 wp_mono h (fun e a w h=>by cases e <;> first | exact h | exact False.elim h)
theorem CJ (x:Nat) (n:Int) (o p q:Option (Bool×Nat×Int)) (Fo:Fm o) (Fp:Fm p) (Fq:Fm q) (w:World) (hT:gF w)
 (HO:Hid (∀ u:World,gF u->Calls Tryz.prog 78 #[.float .f64 x] u fun r w'=>(∃ v,r=.returned (.tuple #[.agg #[.bool (dN o),v,.int .i64 (dE o)],.int .i64 0])/\Nt u.heap.size w' v (dX o))/\Below u.heap.size u w'))
 (HI:Hid (∀ u:World,gF u->Calls Tryz.prog 57 #[.int .i64 n] u fun r w'=>(∃ v,r=.returned (.agg #[.bool (dN p),v,.int .i64 (dE p)])/\Nt u.heap.size w' v (dX p))/\Below u.heap.size u w'))
 (HM:Hid (∀ (u:World) (a b:Option Addr) (c d:Nat),gF u->Nt 0 u (.slice a (ws (dX o)).length c) (dX o)->Nt 0 u (.slice b (ws (dX p)).length d) (dX p)->Calls Tryz.prog 79 #[.agg #[.bool (dN o),.slice a (ws (dX o)).length c,.int .i64 (dE o)],.agg #[.bool (dN p),.slice b (ws (dX p)).length d,.int .i64 (dE p)]] u fun r w'=>(∃ v,r=.returned (.tuple #[.agg #[.bool (dN q),v,.int .i64 (dE q)],.int .i64 0])/\Nt u.heap.size w' v (dX q))/\Below u.heap.size u w')) :
 Calls Tryz.prog 50 #[.float .f64 x,.int .i64 n] w fun r w'=>Iq 0 w' r q/\Below w.heap.size w w':=by
 have FF:=(iw Fo Fp Fq hT);clear Fo Fp Fq hT;obtain⟨W0,hW0⟩:=af (w.alloc (Obj.cells #[.bool false,.slice none 0 0,.int .i64 0] 79))
 have H0:Aside (Lo W0 w.heap.size Fy/\Below w.heap.size w W0):=by
  subst hW0;exact⟨Lo.zero w,ae _ _⟩
 have HW:=ah hW0;have C:=hid (HO.o W0 (FF.o.r3.belows H0.o.2));clear hW0;go_enter Tryz.func50,Tryz.ntmps50
 go_upto_region 1 with fail
 rw[<-HW.o];clear HW;go_wp2_with fail;refine C.o.mono ?_;rintro r v0 ⟨⟨s0,rfl,hN⟩,hb⟩;obtain⟨a0,c0,rfl,hN0⟩:=Lo.shape FF.o.1 hN;obtain⟨V,hV⟩:=af (v0.alloc (Obj.cells #[.bool (dN o),.slice a0 (ws (dX o)).length c0,.int .i64 (dE o)] 79));obtain⟨gd,hgd⟩:=af (v0.heap.size)
 have H1:Aside (Lo V w.heap.size Fy/\Below w.heap.size w V/\Dk V gd (dN o) (.slice a0 (ws (dX o)).length c0) (dE o)/\Nt 0 V (.slice a0 (ws (dX o)).length c0) (dX o)):=by
  subst hV hgd;have hbv:=H0.o.2.trans (hb.mono H0.o.2.size);exact⟨(H0.o.1.below hb).below (ae _ _),hbv.trans ((ae _ _).mono hbv.size),Dk.new _ _ _ _,hN0.below (ae _ _)⟩
 have HV:=(aZ hV hgd);clear C H0 hb hN hN0 hV hgd
 go_upto_region 2 with fail
 rw[<-HV.o.1,<-HV.o.2];clear HV
 go_cut [7,8] from 14 to 20 (fun pv ev wx=>∃ g7,pv=.pointer (some ⟨g7,0,none⟩)/\ev=.int .i64 0/\Aside (Lo wx g7 q/\Lo wx w.heap.size Fy/\Below w.heap.size w wx))
 case first =>
  have hdr:=(ay V.heap.size V).drew;have BB:=iw (H1.o.1.below hdr) (H1.o.2.1.trans (hdr.mono H1.o.2.1.size)) (H1.o.r2.1.below hdr) (H1.o.r3.below hdr);clear hdr H1;obtain⟨p0,p1,p2,f0,f1,f2⟩:=BB.o.r2.1.facts;have hlt0:gd<V.heap.size:=BB.o.r2.1.lt;have q0:V.cell? ⟨gd,0,none⟩=some (.bool (dN o)):=p0;have q1:V.cell? ⟨gd,1,none⟩=some (.slice a0 (ws (dX o)).length c0):=p1;have q2:V.cell? ⟨gd,2,none⟩=some (.int .i64 (dE o)):=p2;have hne0:gd≠V.heap.size:=by omega
  refine uo ?_
  go_region_with (first
   | (go_at_call 57
      first
      | (with_reducible refine(HI.o _ (FF.o.r3.belows BB.o.2.1)).mono ?_
         rintro r v ⟨⟨p,rfl,hN⟩,hb⟩;obtain⟨a2,c2,rfl,hN0⟩:=Lo.shape FF.o.2.1 hN;have BB:=iw (BB.o.1.below hb) (BB.o.2.1.trans (hb.mono BB.o.2.1.size)) (BB.o.r2.1.below hb) (BB.o.r3.below hb);have Q2:=ah hN0;obtain⟨p0,p1,p2,f0,f1,f2⟩:=BB.o.r2.1.facts;have hlt:=BB.o.r2.1.lt;have hne:=il hlt
         clear hb hN hN0)
      | (have G7l:=ah BB.o.1.lt
         have BB:=iw (BB.o.1.below (ae _ (Obj.cells #[.bool false,.slice none 0 0,.int .i64 0] 79))) (BB.o.2.1.trans ((ae _ (Obj.cells #[.bool false,.slice none 0 0,.int .i64 0] 79)).mono BB.o.2.1.size)) (BB.o.r2.1.below (ae _ (Obj.cells #[.bool false,.slice none 0 0,.int .i64 0] 79))) (BB.o.r3.below (ae _ (Obj.cells #[.bool false,.slice none 0 0,.int .i64 0] 79)));refine(HI.o _ (FF.o.r3.belows BB.o.2.1)).mono ?_;rintro r v ⟨⟨p,rfl,hN⟩,hb⟩;obtain⟨a2,c2,rfl,hN0⟩:=Lo.shape FF.o.2.1 hN;have G7:=ah ((Lo.zero _).below hb);have BB:=iw (BB.o.1.below hb) (BB.o.2.1.trans (hb.mono BB.o.2.1.size)) (BB.o.r2.1.below hb) (BB.o.r3.below hb);have Q2:=ah hN0;obtain⟨p0,p1,p2,f0,f1,f2⟩:=BB.o.r2.1.facts;have hlt:=BB.o.r2.1.lt;have hne:=il hlt
         clear hb hN hN0))
   | (go_at_call 79
      first
      | (with_reducible refine(HM.o _ a0 a2 c0 c2 (FF.o.r3.belows BB.o.2.1) BB.o.r3 Q2.o).mono ?_
         rintro r v ⟨⟨p,rfl,hN⟩,hb⟩;obtain⟨a3,c3,rfl,hN0⟩:=Lo.shape FF.o.r2.1 hN
         try (have G7:=ah (G7.o.below hb);obtain⟨e1,e2,D7,e3⟩:=G7.o;obtain⟨y0,y1,y2,z0,z1,z2⟩:=D7.facts;try dsimp only[World.drew] at y0 y1 y2 z0 z1 z2;clear D7 e3)
         have BB:=fG (BB.o.1.below hb) (BB.o.2.1.trans (hb.mono BB.o.2.1.size)) hN0
         clear hb hN hN0 p0 p1 p2 f0 f1 f2)
      | (have G7l:=ah BB.o.1.lt
         have BB:=iw (BB.o.1.below (ae _ (Obj.cells #[.bool false,.slice none 0 0,.int .i64 0] 79))) (BB.o.2.1.trans ((ae _ (Obj.cells #[.bool false,.slice none 0 0,.int .i64 0] 79)).mono BB.o.2.1.size)) (BB.o.r2.1.below (ae _ (Obj.cells #[.bool false,.slice none 0 0,.int .i64 0] 79))) (BB.o.r3.below (ae _ (Obj.cells #[.bool false,.slice none 0 0,.int .i64 0] 79)));have Q2:=ah (Q2.o.below (ae _ (Obj.cells #[.bool false,.slice none 0 0,.int .i64 0] 79)));refine(HM.o _ a0 a2 c0 c2 (FF.o.r3.belows BB.o.2.1) BB.o.r3 Q2.o).mono ?_;rintro r v ⟨⟨p,rfl,hN⟩,hb⟩;obtain⟨a3,c3,rfl,hN0⟩:=Lo.shape FF.o.r2.1 hN;have G7:=ah ((Lo.zero _).below hb);obtain⟨e1,e2,D7,e3⟩:=G7.o;obtain⟨y0,y1,y2,z0,z1,z2⟩:=D7.facts
         try dsimp only[World.drew] at y0 y1 y2 z0 z1 z2
         clear D7 e3;have BB:=fG (BB.o.1.below hb) (BB.o.2.1.trans (hb.mono BB.o.2.1.size)) hN0
         clear hb hN hN0 p0 p1 p2 f0 f1 f2)))
  all_goals
   go_wp2_with fail
   go_meet
   case rel=>first
    | exact⟨_,rfl,rfl,Lo.new BB.o.r2,BB.o.1.below (ae _ _),BB.o.2.1.trans ((ae _ _).mono BB.o.2.1.size)⟩
    | exact⟨_,rfl,rfl,G7.o.set BB.o.r2,BB.o.1.other G7.o (il G7l.o) _ _ _,jk BB.o.2.1 BB.o.2.1.size (fD G7l.o) _ _ _⟩
 clear H1;obtain⟨g7,rfl,rfl,HA⟩:=hcut;obtain⟨W2,hW⟩:=af wc;subst hW;obtain⟨⟨a3,c3,D3,N3⟩,⟨a4,c4,D4,N4⟩,hb⟩:=HA.o;obtain⟨p0,p1,p2,f0,f1,f2⟩:=D3.facts;obtain⟨y0,y1,y2,z0,z1,z2⟩:=D4.facts;have HN:=(aZ N3 hb);clear D3 N3 D4 N4 hb;go_wp2;exact end14 Tryz.results50 rfl HA.o.2.1 HN.o.2 (ak _) HN.o.1
end
section
open Go.ChangeShapes Go.WideShapes Go.ChangeAt Go.RowKit
theorem trodF{H:Type}{enc:TypeId×Value->H}{P:Program}{w:World}{base:Nat}{spare:Nat->Bool}{held:Bool}{fuel:Nat}{t:TypeId}{cs:List Value}{x:DataW H×List MemPlace}{k:FloatKind}(ht:P.underlying t=some (.float k))(h:DataW.trod enc P w base spare held fuel t cs=some x):∃ n,cs=[.float k n]/\x=(.lit (.float k n),[])/\(Lit.float k n).wf=true:=by
 cases fuel with
 | zero=>simp[DataW.trod] at h
 | succ m =>
   simp only[DataW.trod,ht] at h
   split at h <;> simp_all
structure XU (w:World) (a:Option Addr) (n c:Nat) (xs:List Nat):Prop where
 len:n=xs.length
 cap:n<=c
 wf:ja xs
 rd:Fs w.heap.size w a xs
 nil:a=none->c=0
theorem Ou(b off i:Nat):(⟨b,off,none⟩:Addr).add i=⟨b,off+i,none⟩:=by unfold Addr.add;split <;> simp_all
def Wv{H:Type}(y:DataW H×List MemPlace):Nat:=match y.1 with | .lit (.float _ n)=>n | _=>0
theorem Tryz.Zu:Tryz.prog.cellsOf 27=1:=by kernel_rfl
theorem Tryz.Zv:Tryz.prog.bytesOf 27=8:=by kernel_rfl
theorem Sy{H:Type}{enc:TypeId×Value->H}{W:World}{a:Option Addr}{n c:Nat}{d:DataW H}{p:List MemPlace}(h:DataW.Trod enc Tryz.prog W 0 (fun _=>true) true 22 (.slice a n c) d p) :
 ∃ xs,XU W a n c xs/\((d=.nil/\c=0)\/∃ elems spare:List (DataW H),d=.slice elems spare/\elems.length+spare.length=c):=by
 obtain⟨fuel,hf⟩:=h;rcases DataW.trod_slice Tryz.underlying22 hf with ⟨hcs,hx⟩|⟨x,l,cp,elems,rest,m,_,hcs,hx,hb,hl,hm,hlen,hel,hsp,hns⟩
 · simp[Value.cells] at hcs;obtain⟨rfl,rfl,rfl⟩:=hcs;exact⟨[],⟨rfl,ak _,(fun x hx=>by cases hx),(fun h=>absurd rfl h),fun _=>rfl⟩,.inl ⟨(iA hx).1,rfl⟩⟩
 · simp[Value.cells] at hcs;obtain⟨rfl,rfl,rfl⟩:=hcs
   have each:∀ i y,i<n->elems[i]?=some y->y=(.lit (.float .f64 (Wv y)),[])/\(Lit.float .f64 (Wv y)).wf=true/\W.cell? (x.add i)=some (.float .f64 (Wv y)):=by
    intro i y hi hy;have hb':=hel i hi;rw[hy,Tryz.Zu,dM,Option.bind_eq_some_iff] at hb';obtain⟨cs',hcs,hy'⟩:=hb';obtain⟨k,rfl,rfl,hw⟩:=trodF Tryz.underlying27 hy';exact⟨rfl,hw,cell_of_cells?_one hcs⟩
   refine⟨elems.map Wv,⟨by simp[hlen],hl,?_,?_,fun e=>by cases e⟩,.inr ⟨_,_,(iA hx).1,?_⟩⟩
   · intro y hy;obtain⟨z,hz,rfl⟩:=qR.1 hy;obtain⟨i,hi⟩:=List.getElem?_of_mem hz;have hil:=(uL.1 hi).1;have:=(each i z (by omega) hi).2.1;exact of_decide_eq_true this
   · intro hne;obtain⟨b,off,spot⟩:=x
     have hn0:0<n:=by
      rcases jH n with h0|h0
      · rw[h0] at hlen;have:=uT hlen;subst this;simp at hne
      · exact h0
     have hc0:=(each 0 (elems[0]'(by omega)) hn0 (dx _)).2.2;have hspot:spot=none:=by simpa [Addr.add] using World.cell?_spot hc0
     subst hspot;refine⟨b,off,qh W _ (by simpa [Addr.add] using hc0),rfl,fun i hi=>?_⟩;rw[wD] at hi;have hadd:=Ou b off i;have:=(each i (elems[i]'hi) (by omega) (dx _)).2.2;rw[hadd] at this;rw[this];simp[bG,hi]
   · have hr:=(hsp rfl).1;simp only[wD];omega
theorem FO {H:Type}{ts:List TypeId}{ds:List (DataW H)}(h:(DataW.weightsEach Tryz.prog ts ds).all (·<=reachBytes)=true) {j:Nat}{d:DataW H}{c n:Nat}(ht:ts[j]?=some 22) (hd:ds[j]?=some d) (hn:n<=c)
 (hc:(d=.nil/\c=0)\/∃ elems spare:List (DataW H),d=.slice elems spare/\elems.length+spare.length=c):n<=17592186043904:=by
 rcases hc with ⟨_,rfl⟩|⟨elems,spare,rfl,hl⟩
 · omega
 · have:=sized_slice h ht hd Tryz.underlying22;rw[Tryz.Zv,hl] at this;simp only[reachBytes] at this;omega
end
section
def sw(L:List Nat)(i j:Nat):List Nat:=(L.set i (L.getD j 0)).set j (L.getD i 0)
theorem Sz(L:List Nat)(i j:Nat):(sw L i j).length=L.length:=by unfold sw;simp
theorem uq{L:List Nat}{i j:Nat}(hi:i<L.length)(hj:j<L.length)(k:Nat):(sw L i j).getD k 0=if k=j then L.getD i 0 else if k=i then L.getD j 0 else L.getD k 0:=by
 unfold sw;simp only[bG,List.getElem?_set,List.length_set]
 by_cases h1:k=j
 · subst h1;simp[hj]
 · rw[if_neg (fun h=>h1 h.symm),if_neg h1]
   by_cases h2:k=i
   · subst h2;simp[hi]
   · rw[if_neg (fun h=>h2 h.symm),if_neg h2]
theorem Ww{L:List Nat}{i j:Nat}(hi:i<L.length)(hj:j<L.length):(sw L i j).Perm L:=by
 unfold sw;have e1:L.getD i 0=L[i]:=by rw[bG,dx hi];rfl
 have e2:L.getD j 0=L[j]:=by rw[bG,dx hj];rfl
 rw[e1,e2];exact List.set_set_perm hi hj
structure Pm (a b:Nat) (L L':List Nat):Prop where
 len:L'.length=L.length
 perm:L'.Perm L
 o:∀ k,k<a\/b<=k->L'.getD k 0=L.getD k 0
 Wx:∀ k,a<=k->k<b->∃ j,a<=j/\j<b/\L'.getD k 0=L.getD j 0
theorem Pm.refl(a b:Nat)(L:List Nat):Pm a b L L:=⟨rfl,List.Perm.refl _,fun _ _=>rfl,fun k h1 h2=>⟨k,h1,h2,rfl⟩⟩
theorem Pm.trans{a b:Nat}{L M N:List Nat}(h:Pm a b L M)(g:Pm a b M N):Pm a b L N :=
 ⟨g.len.trans h.len,g.perm.trans h.perm,fun k hk=>(g.o k hk).trans (h.o k hk),fun k h1 h2=>by
  obtain⟨j,j1,j2,j3⟩:=g.Wx k h1 h2;obtain⟨i,i1,i2,i3⟩:=h.Wx j j1 j2
  exact⟨i,i1,i2,j3.trans i3⟩⟩
theorem Pm.mono{a b c d:Nat}{L M:List Nat}(h:Pm a b L M)(h1:c<=a)(h2:b<=d):Pm c d L M :=
 ⟨h.len,h.perm,fun k hk=>h.o k (by omega),fun k k1 k2=>by
  by_cases q:a<=k/\k<b
  · obtain⟨j,j1,j2,j3⟩:=h.Wx k q.1 q.2;exact⟨j,by omega,by omega,j3⟩
  · exact⟨k,k1,k2,h.o k (by omega)⟩⟩
theorem Pm.swap{a b i j:Nat}{L:List Nat}(hb:b<=L.length)(i1:a<=i)(i2:i<b)(j1:a<=j)(j2:j<b):Pm a b L (sw L i j):=by
 refine⟨Sz _ _ _,Ww (by omega) (by omega),fun k hk=>?_,fun k k1 k2=>?_⟩
 · rw[uq (by omega) (by omega),if_neg (by omega),if_neg (by omega)]
 · rw[uq (by omega) (by omega)]
   by_cases h1:k=j
   · rw[if_pos h1];exact⟨i,i1,i2,rfl⟩
   · rw[if_neg h1]
     by_cases h2:k=i
     · rw[if_pos h2];exact⟨j,j1,j2,rfl⟩
     · rw[if_neg h2];exact⟨k,k1,k2,rfl⟩
def ky(K:Nat->Nat)(L:List Nat)(k:Nat):Nat:=K (L.getD k 0)
def Up(K:Nat->Nat)(a b:Nat)(L:List Nat):Prop:=∀ i j,a<=i->i<j->j<b->ky K L i<=ky K L j
structure Ins (K:Nat->Nat) (a i j:Nat) (L:List Nat):Prop where
 aj:a<=j
 ji:j<=i
 up:∀ x y,a<=x->x<y->y<=i->x≠j->y≠j->ky K L x<=ky K L y
 hi:∀ y,j<y->y<=i->ky K L j<=ky K L y
theorem Ins.start{K:Nat->Nat}{a i:Nat}{L:List Nat}(h:Up K a i L)(ha:a<=i):Ins K a i i L :=
 ⟨ha,ak _,fun x y h1 h2 h3 h4 h5=>h x y h1 h2 (by omega),fun y h1 h2=>absurd h1 (by omega)⟩
theorem Ins.step{K:Nat->Nat}{a i j:Nat}{L:List Nat}(h:Ins K a i j L)(hl:i<L.length)(hj:a<j)(hlt:ky K L j<ky K L (j-1)):Ins K a i (j-1) (sw L j (j-1)):=by
 have:=h.ji
 have g:∀ k,ky K (sw L j (j-1)) k=if k=j-1 then ky K L j else if k=j then ky K L (j-1) else ky K L k:=fun k=>by
  unfold ky;rw[uq (by omega) (by omega)]
  split
  · rfl
  · split <;> rfl
 refine⟨by omega,by omega,fun x y h1 h2 h3 h4 h5=>?_,fun y h1 h2=>?_⟩
 · rw[g,g,if_neg h4,if_neg h5]
   by_cases q1:x=j
   · rw[if_pos q1,if_neg (by omega)];exact h.up (j-1) y (by omega) (by omega) h3 (by omega) (by omega)
   · rw[if_neg q1]
     by_cases q2:y=j
     · rw[if_pos q2];exact h.up x (j-1) h1 (by omega) (by omega) q1 (by omega)
     · rw[if_neg q2];exact h.up x y h1 h2 h3 q1 q2
 · rw[g,g,if_pos rfl,if_neg (by omega)]
   by_cases q:y=j
   · rw[if_pos q];omega
   · rw[if_neg q];exact h.hi y (by omega) h2
theorem Ins.done{K:Nat->Nat}{a i j:Nat}{L:List Nat}(h:Ins K a i j L)(hs:j=a\/ky K L (j-1)<=ky K L j):Up K a (i+1) L:=by
 intro x y h1 h2 h3;have:=h.aj
 by_cases q1:x=j
 · rw[q1];exact h.hi y (by omega) (by omega)
 · by_cases q2:y=j
   · rw[q2];rcases hs with e|e
     · omega
     · by_cases q3:x=j-1
       · rw[q3];exact e
       · have:=h.up x (j-1) h1 (by omega) (by have:=h.ji;omega) q1 (by omega);omega
   · exact h.up x y h1 h2 (by omega) q1 q2
def Hp(K:Nat->Nat)(f lo hi:Nat)(L:List Nat):Prop:=∀ c,0<c->c<hi->lo<=(c-1)/2->ky K L (f+c)<=ky K L (f+(c-1)/2)
structure Sf (K:Nat->Nat) (f lo hi r:Nat) (L:List Nat):Prop where
 ge:lo<=r
 hp:∀ c,0<c->c<hi->lo<=(c-1)/2->(c-1)/2≠r->ky K L (f+c)<=ky K L (f+(c-1)/2)
 pr:0<r->lo<=(r-1)/2->∀ c,0<c->c<hi->(c-1)/2=r->ky K L (f+c)<=ky K L (f+(r-1)/2)
theorem Sf.start{K:Nat->Nat}{f lo hi:Nat}{L:List Nat}(h:Hp K f (lo+1) hi L):Sf K f lo hi lo L :=
 ⟨ak _,fun c h1 h2 h3 h4=>h c h1 h2 (by omega),fun h1 h2=>by omega⟩
theorem Sf.done{K:Nat->Nat}{f lo hi r:Nat}{L:List Nat}(h:Sf K f lo hi r L)(hs:∀ c,0<c->c<hi->(c-1)/2=r->ky K L (f+c)<=ky K L (f+r)):Hp K f lo hi L:=by
 intro c h1 h2 h3
 by_cases q:(c-1)/2=r
 · rw[q];exact hs c h1 h2 q
 · exact h.hp c h1 h2 h3 q
theorem Sf.step{K:Nat->Nat}{f lo hi r d:Nat}{L:List Nat}(h:Sf K f lo hi r L)(hl:f+hi<=L.length)(hd:d=2*r+1\/d=2*r+2)(hdh:d<hi)(hlt:ky K L (f+r)<ky K L (f+d))(hmax:∀ c,0<c->c<hi->(c-1)/2=r->ky K L (f+c)<=ky K L (f+d)):Sf K f lo hi d (sw L (f+r) (f+d)):=by
 have g:∀ k,ky K (sw L (f+r) (f+d)) (f+k)=if k=d then ky K L (f+r) else if k=r then ky K L (f+d) else ky K L (f+k):=fun k=>by
  unfold ky;rw[uq (by omega) (by omega)]
  by_cases q:k=d
  · rw[if_pos (by omega),if_pos q]
  · rw[if_neg (by omega),if_neg q]
    by_cases q2:k=r
    · rw[if_pos (by omega),if_pos q2]
    · rw[if_neg (by omega),if_neg q2]
 have hge:=h.ge;refine⟨by omega,fun c h1 h2 h3 h4=>?_,fun h1 h2 c c1 c2 c3=>?_⟩
 · rw[g,g,if_neg h4]
   by_cases q1:c=d
   · rw[if_pos q1,if_pos (by omega)];omega
   · rw[if_neg q1]
     by_cases q2:c=r
     · rw[if_pos q2,if_neg (by omega)];have:=h.pr (by omega) (by omega) d (by omega) hdh (by omega);rw[q2];exact this
     · rw[if_neg q2]
       by_cases q3:(c-1)/2=r
       · rw[if_pos q3];exact hmax c h1 h2 q3
       · rw[if_neg q3];exact h.hp c h1 h2 h3 q3
 · rw[g,g,if_neg (by omega),if_neg (by omega),if_neg (by omega),if_pos (by omega)];have:=h.hp c c1 c2 (by omega) (by omega);rw[c3] at this;exact this
theorem Hp.top{K:Nat->Nat}{f hi:Nat}{L:List Nat}(h:Hp K f 0 hi L):∀ c,c<hi->ky K L (f+c)<=ky K L f:=by
 intro c
 induction c using Nat.strongRecOn with
 | _ c ih =>
   intro hc
   by_cases q:c=0
   · rw[q];exact ak _
   · have h1:=h c (by omega) hc (kg _);have h2:=ih ((c-1)/2) (by omega) (by omega);omega
end
section
open Go.RowKit J
def Wy(n:Nat):Value:=.int .i64 (n:Nat)
def bM(w:World)(g:Nat)(L:List Nat):Prop:=w.heap[g]?=some (.cells (L.map Wy).toArray 3 (0,0))
theorem bM.lt{w:World}{g:Nat}{L:List Nat}(h:bM w g L):g<w.heap.size:=(eZ.1 h).1
theorem bM.cell{w:World}{g:Nat}{L:List Nat}(h:bM w g L)(i:Nat)(hi:i<L.length):w.cell? ⟨g,i,none⟩=some (.int .i64 ((L.getD i 0:Nat):Int)):=by
 unfold bM at h;simp[World.cell?,h,Wy,hi]
theorem bM.frozen{w:World}{g:Nat}{L:List Nat}(h:bM w g L)(i:Nat):w.frozen? ⟨g,i,none⟩=false:=by
 unfold bM at h;simp[World.frozen?,h]
theorem bM.set{w:World}{g:Nat}{L:List Nat}(h:bM w g L)(i x:Nat):bM (w.setCell ⟨g,i,none⟩ (.int .i64 (x:Nat))) g (L.set i x):=by
 unfold bM at h |-;simp only[World.setCell,gN,h];simp[Wy,wL]
theorem bM.below{w w':World}{g B:Nat}{L:List Nat}(h:bM w g L)(hb:Below B w w')(hg:g<B):bM w' g L:=by
 unfold bM at h |-;rw[hb.block g hg];exact h
theorem bM.sw{w:World}{g:Nat}{L:List Nat}(h:bM w g L)(i j:Nat):bM ((w.setCell ⟨g,i,none⟩ (.int .i64 (L.getD j 0:Nat))).setCell ⟨g,j,none⟩ (.int .i64 (L.getD i 0:Nat))) g (sw L i j):=(h.set i _).set j _
theorem But.bB{g:Nat}{a w w':World}(h:But g a w)(hb:Below w.heap.size w w'):But g a w':=h.trans ⟨hb.os,hb.tape,hb.output,hb.size,fun k hk _=>hb.block k hk⟩
def iD(K:Nat->Nat)(n g:Nat)(recv:Value)(w:World):Prop:=∀ (u:World) (x y:Nat),But g w u->x<n->y<n->∃ c:Int,(c<0↔K x<K y)/\Calls Tryz.prog 59 #[recv,.int .i64 (x:Nat),.int .i64 (y:Nat)] u fun r w'=>r=.returned (.int .i64 c)/\Below u.heap.size u w'
end
end Go.Proofs.YtjppdacikihpdaaGreatDoor
