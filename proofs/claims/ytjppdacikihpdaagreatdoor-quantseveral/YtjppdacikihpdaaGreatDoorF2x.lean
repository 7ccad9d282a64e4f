import Derived.Test.YtjppdacikihpdaaGreatDoorZ26x
import Derived.Deep.RegionWith
import Derived.Deep.Cut
import Derived.Test.YtjppdacikihpdaaGreatDoorD39x
import Derived.Test.YtjppdacikihpdaaGreatDoorU1x
import Derived.Test.YtjppdacikihpdaaGreatDoorZ5x
import Derived.Test.YtjppdacikihpdaaGreatDoorS10x
import Derived.Test.YtjppdacikihpdaaGreatDoorD8x
import Derived.Deep.LoopGhost
import Derived.Deep.CutRange
import Derived.Test.YtjppdacikihpdaaGreatDoorM1x
import Derived.ProofKit
import Derived.OpenShut
import Derived.ChangeOld
import Derived.ChangeArms
import Derived.SizedLaws
import Derived.Laws.Cover2
import Derived.OwnWalk
set_option linter.unusedVariables false
set_option linter.unusedSimpArgs false
set_option maxHeartbeats 16000000
set_option maxRecDepth 20000
namespace Go.Proofs.YtjppdacikihpdaaGreatDoor
namespace J
end J
namespace Ps
open Go.RowKit
open Go.Proofs.YtjppdacikihpdaaGreatDoor.B (aW aJ bw)
attribute [local go_sem] aW aJ
theorem Zh(b:Nat):kd b<=5:=by unfold kd;(repeat' split) <;> omega
open Go.RowKit
open Go.Proofs.YtjppdacikihpdaaGreatDoor.B (aW aJ bw bz)
attribute [local go_sem] aW aJ
def cn(k:Nat)(xs:List Nat):Nat:=xs.countP (λx=>kd x==k)
theorem PG(k:Nat)(xs ys:List Nat):cn k (xs++ys)=cn k xs+cn k ys:=by simp[cn,List.countP_append]
def one(k x:Nat):Nat:=if kd x=k then 1 else 0
theorem cn_one(k x:Nat):cn k [x]=one k x:=by unfold cn one;by_cases h:kd x=k <;> simp[h]
theorem sH(xs:List Nat)(i:Nat)(h:i<xs.length):xs.take (i+1)=xs.take i++[xs.getD i 0]:=by
 rw[xU h,bF,aY h];rfl
theorem uw(k:Nat)(xs:List Nat)(i:Nat)(h:i<xs.length):cn k (xs.take (i+1))=cn k (xs.take i)+one k (xs.getD i 0):=by
 rw[sH xs i h,PG,cn_one]
theorem cn_le(k:Nat)(xs:List Nat):cn k xs<=xs.length:=IP
def lg(w:World)(g:Nat)(n u d m p a:Int):Prop:=w.heap[g]?=some (.cells #[.int .i64 n,.int .i64 u,.int .i64 d,.int .i64 m,.int .i64 p,.int .i64 a] 72 (0,0))
theorem lg.lt{w:World}{g:Nat}{n u d m p a:Int}(h:lg w g n u d m p a):g<w.heap.size:=(dQ.1 h).1
theorem lg.c0{w:World}{g:Nat}{n u d m p a:Int}(h:lg w g n u d m p a):w.cell? ⟨g,0,none⟩=some (.int .i64 n):=by unfold lg at h;simp[World.cell?,h]
theorem lg.c1{w:World}{g:Nat}{n u d m p a:Int}(h:lg w g n u d m p a):w.cell? ⟨g,1,none⟩=some (.int .i64 u):=by unfold lg at h;simp[World.cell?,h]
theorem lg.c2{w:World}{g:Nat}{n u d m p a:Int}(h:lg w g n u d m p a):w.cell? ⟨g,2,none⟩=some (.int .i64 d):=by unfold lg at h;simp[World.cell?,h]
theorem lg.c3{w:World}{g:Nat}{n u d m p a:Int}(h:lg w g n u d m p a):w.cell? ⟨g,3,none⟩=some (.int .i64 m):=by unfold lg at h;simp[World.cell?,h]
theorem lg.c4{w:World}{g:Nat}{n u d m p a:Int}(h:lg w g n u d m p a):w.cell? ⟨g,4,none⟩=some (.int .i64 p):=by unfold lg at h;simp[World.cell?,h]
theorem lg.c5{w:World}{g:Nat}{n u d m p a:Int}(h:lg w g n u d m p a):w.cell? ⟨g,5,none⟩=some (.int .i64 a):=by unfold lg at h;simp[World.cell?,h]
theorem lg.frozen{w:World}{g:Nat}{n u d m p a:Int}(h:lg w g n u d m p a)(i:Nat):w.frozen? ⟨g,i,none⟩=false:=by unfold lg at h;simp[World.frozen?,h]
theorem lg.below{w w':World}{g B:Nat}{n u d m p a:Int}(h:lg w g n u d m p a)(hb:Below B w w')(hg:g<B):lg w' g n u d m p a:=by
 unfold lg at h |-;rw[hb.block g hg];exact h
theorem qT{P:Prop}(h:P:=by
 go_end0
 refine⟨rfl,?_,(But.refl _ _).set _ _⟩;have h:=HB.o;unfold lg at h |-;simp[World.setCell,gz,h]):P:=h
theorem PH(k g:Nat)(n u d m p a:Int)(w:World)(hk:k<=5)(hB:lg w g n u d m p a)(hn:0<=n/\n<=65536)(hu:0<=u/\u<=65536)(hd:0<=d/\d<=65536)(hm:0<=m/\m<=65536)(hp:0<=p/\p<=65536) :
 As 87 #[.pointer (some ⟨g,0,none⟩),.int .i64 (k:Nat)] w λr w'=>r=.returned (.tuple #[]) /\
  lg w' g (if k=0 then n+1 else n) (if k=1 then u+1 else u) (if k=2 then d+1 else d) (if k=3 then m+1 else m) (if k=4 then p+1 else p) a/\But g w w':=by
 have hc0:=hB.c0;have hc1:=hB.c1;have hc2:=hB.c2;have hc3:=hB.c3;have hc4:=hB.c4;have hf0:=hB.frozen 0;have hf1:=hB.frozen 1;have hf2:=hB.frozen 2;have hf3:=hB.frozen 3;have hf4:=hB.frozen 4;have HB:=ak hB;clear hB;obtain rfl|rfl|rfl|rfl|rfl|rfl:k=0\/k=1\/k=2\/k=3\/k=4\/k=5:=ae
 . go_enter Tryz.func87,Tryz.ntmps87;go_wp2
   exact qT
 . go_enter Tryz.func87,Tryz.ntmps87;go_wp2
   exact qT
 . go_enter Tryz.func87,Tryz.ntmps87;go_wp2
   exact qT
 . go_enter Tryz.func87,Tryz.ntmps87;go_wp2
   exact qT
 . go_enter Tryz.func87,Tryz.ntmps87;go_wp2
   exact qT
 . go_enter Tryz.func87,Tryz.ntmps87;go_wp2
   go_end0
   exact⟨rfl,HB.o,But.refl _ _⟩
def rf(n u d a b:Int):Int:=if 0<n/\a=2 then 60 else if 0<u+d/\b=2 then 61 else 0
theorem qv{P:Prop}(h:P:=by
 by_cases h3:0<t
 . by_cases h4:b=2
   . rw[if_pos ⟨h3,h4⟩];subst h4;go_enter Tryz.func88,Tryz.ntmps88;go_wp2;go_ret;exact⟨rfl,below _ _⟩
   . have h4':(b==2)=false:=by rw[beq_eq_false_iff_ne];exact h4
     rw[if_neg (λh=>h4 h.2)];go_enter Tryz.func88,Tryz.ntmps88;go_wp2;go_ret;exact⟨rfl,below _ _⟩
 . have h3':decide (0<t)=false:=decide_eq_false h3;rw[if_neg (λh=>h3 h.1)];go_enter Tryz.func88,Tryz.ntmps88;go_wp2;go_ret;exact⟨rfl,below _ _⟩):P:=h
theorem GL(n u d m p l a b:Int)(w:World)(hu:0<=u/\u<=65536)(hd:0<=d/\d<=65536) :
 At 88 #[.agg #[.int .i64 n,.int .i64 u,.int .i64 d,.int .i64 m,.int .i64 p,.int .i64 l],.agg #[.int .i64 a,.int .i64 b]] w (.int .i64 (rf n u d a b)):=by
 have below:∀o o',An w ((w.alloc o).alloc o'):=λo o'=>((aD _ _).alloc (aA _) _).alloc aN _;obtain⟨t,ht⟩:∃t,u+d=t:=⟨_,rfl⟩;have ht2:-9223372036854775808<=t/\t<=9223372036854775807:=ae
 unfold rf;rw[ht]
 by_cases h1:0<n
 . by_cases h2:a=2
   . rw[if_pos ⟨h1,h2⟩];subst h2;go_enter Tryz.func88,Tryz.ntmps88;go_wp2;go_ret;exact⟨rfl,below _ _⟩
   . have h2':(a==2)=false:=by rw[beq_eq_false_iff_ne];exact h2
     rw[if_neg (λh=>h2 h.2)]
     exact qv
 . have h1':decide (0<n)=false:=decide_eq_false h1;rw[if_neg (λh=>h1 h.1)]
   exact qv
open Go.RowKit
open Go.Proofs.YtjppdacikihpdaaGreatDoor.B (aW aJ bw bz)
attribute [local go_sem] aW aJ
theorem lg.made(w:World)(n u d m p a:Int):lg (w.alloc (.cells #[.int .i64 n,.int .i64 u,.int .i64 d,.int .i64 m,.int .i64 p,.int .i64 a] 72)) w.heap.size n u d m p a:=iF w _
def XQ(w:World)(g:Nat)(xs:List Nat)(a:Int):Prop:=lg w g (cn 5 xs:Nat) (cn 3 xs:Nat) (cn 4 xs:Nat) (cn 1 xs:Nat) (cn 2 xs:Nat) a
theorem Zi(k:Nat)(xs:List Nat)(n:Nat)(h:xs.length<=n)(hn:n<=65536):0<=((cn k xs:Nat):Int)/\((cn k xs:Nat):Int)<=65536:=by have:=cn_le k xs;omega
theorem But.vL{a w:World}{g:Nat}(h:But g a w)(u0 u1 u2 u3 u4 u5:Value) :
 But g a ((((((w.setCell ⟨g,0,none⟩ u0).setCell ⟨g,1,none⟩ u1).setCell ⟨g,2,none⟩ u2).setCell ⟨g,3,none⟩ u3).setCell ⟨g,4,none⟩ u4).setCell ⟨g,5,none⟩ u5) :=
 ((((((h.set 0 u0).set 1 u1).set 2 u2).set 3 u3).set 4 u4).set 5 u5)
theorem cset{w:World}{b o:Nat}{u:Value}(h:w.cell? ⟨b,o,none⟩=some u)(v:Value):(w.setCell ⟨b,o,none⟩ v).cell? ⟨b,o,none⟩=some v:=by
 simp only[World.cell?] at h |-;simp only[World.setCell,gz]
 cases hb:w.heap[b]? with
 | none=>rw[hb] at h;simp at h
 | some ob =>
   rw[hb] at h
   cases ob <;> simp_all
   rename_i cs _ _
   by_cases hl:o<cs.size
   . simp[hl]
   . rw[yj ae] at h;cases h
theorem GM(w:World)(b o:Nat)(v:Value):(w.setCell ⟨b,o,none⟩ v).cell? ⟨b,o,none⟩=(w.cell? ⟨b,o,none⟩).map (λ_=>v):=by
 cases h:w.cell? ⟨b,o,none⟩ with
 | some u=>rw[cset h v];rfl
 | none =>
   simp only[World.cell?] at h |-;simp only[World.setCell,gz]
   cases hb:w.heap[b]? with
   | none=>simp
   | some ob =>
     rw[hb] at h
     cases ob <;> simp_all
open Go.RowKit
open Go.Proofs.YtjppdacikihpdaaGreatDoor.B (aW aJ bw bz)
attribute [local go_sem] aW aJ
def fin(xs:List Nat):List Nat:=xs.filter (λx=>decide (kd x<=2))
theorem zH(xs ys:List Nat):fin (xs++ys)=fin xs++fin ys:=by simp[fin,List.filter_append]
theorem fin_le(xs:List Nat):(fin xs).length<=xs.length:=List.length_filter_le _ _
theorem fin_in(xs:List Nat)(i:Nat)(h:i<xs.length)(hk:kd (xs.getD i 0)<=2):fin (xs.take (i+1))=fin (xs.take i)++[xs.getD i 0]:=by
 rw[sH xs i h,zH];simp[fin];simpa [bF] using hk
theorem XR(xs:List Nat)(i:Nat)(h:i<xs.length)(hk:¬ kd (xs.getD i 0)<=2):fin (xs.take (i+1))=fin (xs.take i):=by
 rw[sH xs i h,zH];simp[fin];simpa [bF] using hk
def mI(a b:Int)(xs:List Nat):Int:=if may a b=false then 1 else if 65536<xs.length then 2 else rf (cn 5 xs:Nat) (cn 3 xs:Nat) (cn 4 xs:Nat) a b
def Mk(a b:Int)(xs:List Nat):List Nat:=if mI a b xs=0 then fin xs else[]
def Ml(a b:Int)(xs:List Nat):Value:=if mI a b xs=0 then .agg #[.int .i64 (cn 5 xs:Nat),.int .i64 (cn 3 xs:Nat),.int .i64 (cn 4 xs:Nat),.int .i64 (cn 1 xs:Nat),.int .i64 (cn 2 xs:Nat),.int .i64 (xs.length:Nat)] else .agg #[.int .i64 0,.int .i64 0,.int .i64 0,.int .i64 0,.int .i64 0,.int .i64 0]
def ja(w:World)(a b:Int)(xs:List Nat)(r:Ending)(w':World):Prop:=∃v,r=.returned (.tuple #[v,Ml a b xs,.int .i64 (mI a b xs)])/\Lt w.heap.size w' v (Mk a b xs)/\An w w'
theorem ja.no{w w':World}{a b:Int}{xs:List Nat}(e:Int)(he:mI a b xs=e)(h0:e≠0)(hb:An w w'):ja w a b xs (.returned (.tuple #[.slice none 0 0,.agg #[.int .i64 0,.int .i64 0,.int .i64 0,.int .i64 0,.int .i64 0,.int .i64 0],.int .i64 e])) w':=by
 subst he;refine⟨.slice none 0 0,?_,?_,hb⟩
 . unfold Ml;rw[if_neg h0]
 . unfold Mk;rw[if_neg h0];exact Lt.nil _ _
theorem ja.yes{w w':World}{a b:Int}{xs:List Nat}{v:Value}(he:mI a b xs=0)(hv:Rw w.heap.size w' v (fin xs).length ((fin xs).map U))(hb:An w w') :
 ja w a b xs (.returned (.tuple #[v,.agg #[.int .i64 (cn 5 xs:Nat),.int .i64 (cn 3 xs:Nat),.int .i64 (cn 4 xs:Nat),.int .i64 (cn 1 xs:Nat),.int .i64 (cn 2 xs:Nat),.int .i64 (xs.length:Nat)],.int .i64 0])) w':=by
 refine⟨v,?_,?_,hb⟩
 . rw[he];unfold Ml;rw[if_pos he]
 . unfold Mk;rw[if_pos he];exact hv
theorem Rw.below{lo:Nat}{w w':World}{v:Value}{n:Nat}{ys:List Value}(h:Rw lo w v n ys)(hb:An w w'):Rw lo w' v n ys :=
 PE.row h (PE.below hb)
theorem Rw.but{lo g:Nat}{w w':World}{v:Value}{n:Nat}{ys:List Value}(h:Rw lo w v n ys)(hb:But g w w'){cur:Array Value}{e:TypeId}(he:e≠27)(hg:w.heap[g]?=some (.cells cur e (0,0))):Rw lo w' v n ys:=by
 refine uY h λk hk=>?_;rcases h.2 with ⟨rfl,_⟩|⟨g2,cap,c2,rfl,_,hg2,_⟩
 . cases hk
 . cases hk
   refine hb.block _ (dQ.1 hg2).1 (λe2=>?_);subst e2;rw[hg] at hg2
   cases hg2
   exact he rfl
theorem Rw.mono{lo lo':Nat}{w:World}{v:Value}{n:Nat}{ys:List Value}(h:Rw lo w v n ys)(hl:lo'<=lo):Rw lo' w v n ys:=by
 exact jn
theorem Rw.low{lo:Nat}{w:World}{v:Value}{n:Nat}{ys:List Value}(h:Rw lo w v n ys):∀b,v.ownBlock=some b->lo<=b:=by
 intro b hb;rcases h.2 with ⟨rfl,_⟩|⟨g,cap,cur,rfl,hlo,_⟩
 . cases hb
 . cases hb;exact hlo
theorem PI(n:Nat)(hn:n<=65536)(w:World) :
 (Instr.makeSlice 22 (.int .i64 0) (.int .i64 (n:Nat))).run Tryz.prog w=.ok (.slice (some ⟨w.heap.size,0,none⟩) 0 n) (w.alloc (.cells (madeCells #[.float .f64 0] n) 27)):=by
 obtain⟨i0,hi,hz0,hz1,hz2⟩:=info_parts Tryz.Ue;have hr:=run_make (P:=Tryz.prog) w 22 27 i0 (.float .f64 0) Tryz.underlying22 hi hz0 .i64 .i64 0 (n:Int) (Int.le_refl _) ae (by rw[hz2];omega) ae;rw[hz1,eQ] at hr;simp only[lC,Int.toNat_zero] at hr;exact hr
theorem Uf(lo:Nat)(w:World)(n:Nat)(hn:n<=65536)(hlo:lo<=w.heap.size):Rw lo (w.alloc (.cells (madeCells #[.float .f64 0] n) 27)) (.slice (some ⟨w.heap.size,0,none⟩) 0 n) 0 []:=by
 refine⟨rfl,.inr ⟨w.heap.size,n,madeCells #[.float .f64 0] n,rfl,hlo,iF w _,ae,by unfold maxLen;omega,?_,?_⟩⟩
 . have:=congrArg List.length (toList_madeCells_one (.float .f64 0) n);simpa using this
 . simp
theorem push(lo:Nat)(w:World)(v:Value)(ys:List Nat)(x:Nat)(hrow:Rw lo w v ys.length (ys.map U))(hn:ys.length<=65536)(hlo:lo<=w.heap.size) :
 ∃v' w',(Builtin.append_ #[22,22] 22 #[v,.slice (some ⟨w.heap.size,0,none⟩) 1 1]).run Tryz.prog (w.alloc (.cells #[.float .f64 x] 27))=.ok v' w'/\Rw lo w' v' (ys++[x]).length ((ys++[x]).map U) /\
   Below lo w w'/\(∀(g:Nat) (cur:Array Value) (e:TypeId),e≠27->w.heap[g]?=some (.cells cur e (0,0))->w'.heap[g]?=some (.cells cur e (0,0)))/\w.heap.size<=w'.heap.size:=by
 obtain⟨v',w',h1,h2,h3,_,_⟩:=mG (w.alloc (.cells #[.float .f64 x] 27)) lo v ys.length (ys.map U) (.float .f64 x) w.heap.size 22 (hrow.alloc _) (by unfold World.cell?;simp only[iF];rfl) rfl ae (by simp;omega);refine⟨v',w',h1,by simpa [U] using h2,((aD lo w).alloc hlo _).grown h3 (by simp;omega) hrow.low,?_,by have:=h3.size;simp at this;omega⟩;intro g cur e he hg;have hgl:=(dQ.1 hg).1;rw[h3.block g (by simp;omega) (λe2=>?_),Below.heap_alloc _ _ _ hgl]
 . exact hg
 . rcases hrow.2 with ⟨rfl,_⟩ | ⟨g2,cap,c2,rfl,_,hg2,_⟩
   . cases e2
   . cases e2
     rw[hg] at hg2
     cases hg2
     exact he rfl
structure SI (lo sb:Nat) (W1:World) (xs:List Nat) (i:Nat) (a:Int) (v:Value) (wr:World):Prop where
 row:Rw lo wr v (fin (xs.take i)).length ((fin (xs.take i)).map U)
 sp:XQ wr sb (xs.take i) a
 aF:Below lo W1 wr
 size:W1.heap.size<=wr.heap.size
theorem SI.kind{lo sb:Nat}{W1:World}{xs:List Nat}{i:Nat}{a:Int}{v:Value}{wr w1:World}(h:SI lo sb W1 xs i a v wr)(hb:An wr w1)(hlo:lo<=wr.heap.size):SI lo sb W1 xs i a v w1 :=
 ⟨h.row.below hb,lg.below h.sp hb (lg.lt h.sp),h.aF.trans (hb.mono hlo),dB h.size hb.size⟩
theorem SI.o{lo sb:Nat}{W1:World}{xs:List Nat}{i:Nat}{a:Int}{v:Value}{wr w2:World}(h:SI lo sb W1 xs i a v wr)(hi:i<xs.length)(hs:XQ w2 sb (xs.take (i+1)) a)(hb:But sb wr w2)(hlo:lo<=sb)(hl:lo<=wr.heap.size)(hk:¬ kd (xs.getD i 0)<=2):SI lo sb W1 xs (i+1) a v w2 :=
 ⟨by rw[XR xs i hi hk];exact h.row.but hb aM h.sp,hs,But.below h.aF hb hl hlo,dB h.size hb.size⟩
theorem SI.row2{lo sb:Nat}{W1:World}{xs:List Nat}{i:Nat}{a:Int}{v:Value}{wr w2:World}(h:SI lo sb W1 xs i a v wr)(hb:But sb wr w2):Rw lo w2 v (fin (xs.take i)).length ((fin (xs.take i)).map U):=h.row.but hb aM h.sp
theorem lg.keep{w w':World}{g:Nat}{n u d m p a:Int}(h:lg w g n u d m p a)(hk:∀(g:Nat) (cur:Array Value) (e:TypeId),e≠27->w.heap[g]?=some (.cells cur e (0,0))->w'.heap[g]?=some (.cells cur e (0,0))):lg w' g n u d m p a :=
 hk _ _ _ aM h
theorem SI.into {lo sb:Nat}{W1:World}{xs:List Nat}{i:Nat}{a:Int}{v v':Value}{wr w2 w3:World}(h:SI lo sb W1 xs i a v wr) (hi:i<xs.length) (hs:XQ w2 sb (xs.take (i+1)) a) (hb:But sb wr w2) (hlo:lo<=sb) (hl:lo<=wr.heap.size) (hk:kd (xs.getD i 0)<=2)
 (hrow:Rw lo w3 v' (fin (xs.take i)++[xs.getD i 0]).length ((fin (xs.take i)++[xs.getD i 0]).map U)) (hb3:Below lo w2 w3) (hkeep:∀(g:Nat) (cur:Array Value) (e:TypeId),e≠27->w2.heap[g]?=some (.cells cur e (0,0))->w3.heap[g]?=some (.cells cur e (0,0))) (hsz:w2.heap.size<=w3.heap.size):SI lo sb W1 xs (i+1) a v' w3 :=
 ⟨by rw[fin_in xs i hi hk];exact hrow,lg.keep hs hkeep,(But.below h.aF hb hl hlo).trans hb3,dB (dB h.size hb.size) hsz⟩
theorem kp_one(x:Nat)(n u d m p:Nat):(if kp (kd x)=0 then((n:Nat):Int)+1 else n)=((n+one 5 x:Nat):Int)/\(if kp (kd x)=1 then((u:Nat):Int)+1 else u)=((u+one 3 x:Nat):Int)/\(if kp (kd x)=2 then((d:Nat):Int)+1 else d)=((d+one 4 x:Nat):Int) /\
 (if kp (kd x)=3 then((m:Nat):Int)+1 else m)=((m+one 1 x:Nat):Int)/\(if kp (kd x)=4 then((p:Nat):Int)+1 else p)=((p+one 2 x:Nat):Int):=by
 have hk:=Zh x;unfold one;generalize kd x=k at hk;obtain rfl|rfl|rfl|rfl|rfl|rfl:k=0\/k=1\/k=2\/k=3\/k=4\/k=5:=ae
 all_goals simp[kp]
theorem kp_ge(x:Nat):3<=kp (kd x)↔kd x<=2:=by
 have hk:=Zh x;generalize kd x=k at hk;obtain rfl|rfl|rfl|rfl|rfl|rfl:k=0\/k=1\/k=2\/k=3\/k=4\/k=5:=ae
 all_goals simp[kp]
theorem kp_le(x:Nat):kp (kd x)<=5:=by unfold kp;(repeat' split) <;> omega
theorem XQ.counted {w w':World}{sb:Nat}{xs:List Nat}{i:Nat}{a:Int}(hi:i<xs.length)
 (h:lg w' sb (if kp (kd (xs.getD i 0))=0 then((cn 5 (xs.take i):Nat):Int)+1 else((cn 5 (xs.take i):Nat):Int)) (if kp (kd (xs.getD i 0))=1 then((cn 3 (xs.take i):Nat):Int)+1 else((cn 3 (xs.take i):Nat):Int)) (if kp (kd (xs.getD i 0))=2 then((cn 4 (xs.take i):Nat):Int)+1 else((cn 4 (xs.take i):Nat):Int)) (if kp (kd (xs.getD i 0))=3 then((cn 1 (xs.take i):Nat):Int)+1 else((cn 1 (xs.take i):Nat):Int)) (if kp (kd (xs.getD i 0))=4 then((cn 2 (xs.take i):Nat):Int)+1 else((cn 2 (xs.take i):Nat):Int)) a) :
 XQ w' sb (xs.take (i+1)) a:=by
 obtain⟨h1,h2,h3,h4,h5⟩:=kp_one (xs.getD i 0) (cn 5 (xs.take i)) (cn 3 (xs.take i)) (cn 4 (xs.take i)) (cn 1 (xs.take i)) (cn 2 (xs.take i));rw[h1,h2,h3,h4,h5] at h;unfold XQ;rw[uw 5 xs i hi,uw 3 xs i hi,uw 4 xs i hi,uw 1 xs i hi,uw 2 xs i hi];exact h
end Ps
namespace Ps
open Go.RowKit
open Go.Proofs.YtjppdacikihpdaaGreatDoor.B (aW aJ bw bz)
attribute [local go_sem] aW aJ
theorem Ug(xs:List Nat)(ao:Option Addr)(n cap:Nat)(a b:Int)(w:World)(hm:may a b=false) :
 As 53 #[.slice ao n cap,.agg #[.int .i64 a,.int .i64 b]] w (ja w a b xs):=by
 have H:=hid (Dm a b);rw[hm] at H;have HE:Aside (mI a b xs=1):=by unfold mI;rw[hm];rfl
 clear hm;go_enter Tryz.func53,Tryz.ntmps53;go_wp2_with fail;refine(H.o _).mono ?_;rintro r w1 ⟨rfl,hb⟩;have hsz:=hb.size;simp at hsz;obtain⟨hc,hf⟩:=bz hb;have HB:=ak hb;clear hb;go_wp2;refine aH (v:=.tuple #[.slice none 0 0,.agg #[.int .i64 0,.int .i64 0,.int .i64 0,.int .i64 0,.int .i64 0,.int .i64 0],.int .i64 1]) (by simp[results,Tryz.results53,go_sem,GM,hc]) rfl (ja.no 1 HE.o aM ?_);exact But.below ((((aD _ w).alloc (aA _) _).alloc aN _).trans (HB.o.mono (by simp;omega))) (But.vL (But.refl (w.heap.size+1) _) _ _ _ _ _ _) ae ae
theorem PK(xs:List Nat)(ao:Option Addr)(n cap:Nat)(a b:Int)(w:World)(hn:n=xs.length)(hm:may a b=true)(hl:65536<n)(hn2:n<=35184372088832) :
 As 53 #[.slice ao n cap,.agg #[.int .i64 a,.int .i64 b]] w (ja w a b xs):=by
 have H:=hid (Dm a b);rw[hm] at H;have HE:Aside (mI a b xs=2):=by unfold mI;rw[if_neg (by rw[hm];decide),if_pos ae,Aside]
 clear hm hn;go_enter Tryz.func53,Tryz.ntmps53;go_wp2_with fail;refine(H.o _).mono ?_;rintro r w1 ⟨rfl,hb⟩;have hsz:=hb.size;simp at hsz;obtain⟨hc,hf⟩:=bz hb;have HB:=ak hb;clear hb;go_wp2;refine aH (v:=.tuple #[.slice none 0 0,.agg #[.int .i64 0,.int .i64 0,.int .i64 0,.int .i64 0,.int .i64 0,.int .i64 0],.int .i64 2]) (by simp[results,Tryz.results53,go_sem,GM,hc]) rfl (ja.no 2 HE.o aM ?_);exact But.below ((((aD _ w).alloc (aA _) _).alloc aN _).trans (HB.o.mono (by simp;omega))) (But.vL (But.refl (w.heap.size+1) _) _ _ _ _ _ _) ae ae
theorem Qa8{P:Prop}(h:P:=by
 go_roundg (n-(i+1))
 case measure=>omega
 case rel=>exact⟨i+1,ae,by first | go_num | (congr 1;omega),HI⟩):P:=h
set_option maxRecDepth 100000 in
theorem PL(xs:List Nat)(ao:Option Addr)(n cap B:Nat)(a b:Int)(w:World)(hn:n=xs.length)(hm:may a b=true)(hl:n<=65536)(hx:Wf xs)(hR:Rd B w ao xs)(hB:B<=w.heap.size) :
 As 53 #[.slice ao n cap,.agg #[.int .i64 a,.int .i64 b]] w (ja w a b xs):=by
 have H:=hid (Dm a b);rw[hm] at H;have HE:Aside (mI a b xs=rf (cn 5 xs:Nat) (cn 3 xs:Nat) (cn 4 xs:Nat) a b):=by unfold mI;rw[if_neg (by rw[hm];decide),if_neg ae,Aside]
 have hmk:=PI n hl;have HX:=(iN hn hx hR hB);clear hm hn hx hR hB;go_enter Tryz.func53,Tryz.ntmps53;go_wp2_with fail;refine(H.o _).mono ?_;rintro r w1 ⟨rfl,hb⟩;have hsz:=hb.size;simp at hsz;obtain⟨hc,hf⟩:=bz hb;have HB:=ak hb
 have HZ:Aside (lg w1 (w.heap.size+1) 0 0 0 0 0 0):=by
  have h1:=lg.made (w.alloc (.cells #[.int .i64 a,.int .i64 b] 87)) 0 0 0 0 0 0;simp only[uL] at h1;exact h1.below hb aN
 clear hb;go_wp2
 go_loopg [7,28] n (λgk lv cv wr=>∃(i:Nat),gk+i=n/\cv=.int .i64 (i:Nat)/\Aside (SI w1.heap.size (w1.heap.size+1) w1 xs i (n:Nat) lv wr))
 case atStart =>
  refine⟨0,ae,rfl,?_⟩;have h1:=(Uf w1.heap.size w1 n hl (aA _)).alloc (.cells #[.int .i64 0,.int .i64 0,.int .i64 0,.int .i64 0,.int .i64 0,.int .i64 (n:Nat)] 72);have h2:=lg.made (w1.alloc (.cells (madeCells #[.float .f64 0] n) 27)) 0 0 0 0 0 (n:Nat);simp only[uL] at h2;exact⟨h1,h2,((aD _ _).alloc (aA _) _).alloc aN _,by simp;omega⟩
 case round =>
  obtain⟨i,hi,rfl,HA⟩:=hrel
  by_cases hin:i=n
  . obtain rfl:gk=0:=ae
    obtain⟨hn,hx,hR,hB⟩:=HX.o;have hS:=HA.o;have e:xs.take i=xs:=eF ae;have hT:=hS.sp;unfold XQ at hT;rw[e] at hT;have hc0:=hT.c0;have hc1:=hT.c1;have hc2:=hT.c2;have hc3:=hT.c3;have hc4:=hT.c4;have hc5:=hT.c5;have hlt:=hT.lt;have hcb:∀b o,b<w1.heap.size->wr.cell? ⟨b,o,none⟩=w1.cell? ⟨b,o,none⟩:=λb o h=>hS.aF.cell (p:=⟨b,o,none⟩) h;have hp0:wr.cell? ⟨w.heap.size,0,none⟩=some (.int .i64 a):=by rw[hcb _ _ ae,hc _ _ (by simp;omega)];simp[go_sem]
    have hp1:wr.cell? ⟨w.heap.size,1,none⟩=some (.int .i64 b):=by rw[hcb _ _ ae,hc _ _ (by simp;omega)];simp[go_sem]
    have hZ:lg wr (w.heap.size+1) 0 0 0 0 0 0:=HZ.o.below hS.aF ae;have hbd:=λk=>Zi k xs n ae hl;have HRF:=hid (λw=>GL (cn 5 xs:Nat) (cn 3 xs:Nat) (cn 4 xs:Nat) (cn 1 xs:Nat) (cn 2 xs:Nat) (n:Nat) a b w (hbd 3) (hbd 4));obtain⟨ee,hee⟩:∃ee,rf (cn 5 xs:Nat) (cn 3 xs:Nat) (cn 4 xs:Nat) a b=ee:=⟨_,rfl⟩;have HEE:Aside (mI a b xs=ee):=by rw[Aside,HE.o,hee]
    rw[hee] at HRF;obtain⟨c5,e5⟩:∃c,cn 5 xs=c:=⟨_,rfl⟩;obtain⟨c3,e3⟩:∃c,cn 3 xs=c:=⟨_,rfl⟩;obtain⟨c4,e4⟩:∃c,cn 4 xs=c:=⟨_,rfl⟩;obtain⟨c1,e1⟩:∃c,cn 1 xs=c:=⟨_,rfl⟩;obtain⟨c2,e2⟩:∃c,cn 2 xs=c:=⟨_,rfl⟩;rw[e5,e3,e4,e1,e2] at hT HRF;rw[e5] at hc0;rw[e3] at hc1;rw[e4] at hc2;rw[e1] at hc3;rw[e2] at hc4;have HY:=(Ck hZ hT e e1 e2 e3 e4 e5);have hBs:=hS.size;clear hn hx hR hB hS hT e hcb hbd hee e1 e2 e3 e4 e5 hZ;subst hin;go_wp2_with fail;refine(HRF.o _).mono ?_;rintro r w5 ⟨rfl,hb5⟩;obtain⟨hZ,hT,e,e1,e2,e3,e4,e5⟩:=HY.o;have Qz:=hZ.below hb5 hZ.lt;have XT:=hT.below hb5 hT.lt;have hr5:=HA.o.row.below hb5;have hZf:=Qz.frozen;have hz0:=Qz.c0;have hz1:=Qz.c1;have hz2:=Qz.c2;have hz3:=Qz.c3;have Og:=Qz.c4;have Oh:=Qz.c5;have ht0:=XT.c0;have ht1:=XT.c1;have ht2:=XT.c2;have ht3:=XT.c3;have ht4:=XT.c4;have ht5:=XT.c5;have hzl:=Qz.lt;have yQ:An w w5:=((((aD _ w).alloc (aA _) _).alloc aN _).trans (HB.o.mono (by simp;omega))).trans ((HA.o.aF.mono ae).trans (hb5.mono ae));have HV:=(Cm yQ hr5 Qz XT e e1 e2 e3 e4 e5);clear hZ hT e e1 e2 e3 e4 e5 hb5 Qz XT hr5 yQ hc0 hc1 hc2 hc3 hc4 hc5 hp0 hp1 HY
    by_cases h0:ee=0
    . subst h0;go_wp2
      go_region
      all_goals
       go_wp2;refine aH (v:=.tuple #[u7,.agg #[.int .i64 (c5:Nat),.int .i64 (c3:Nat),.int .i64 (c4:Nat),.int .i64 (c1:Nat),.int .i64 (c2:Nat),.int .i64 (i:Nat)],.int .i64 0]) (by simp[results,Tryz.results53,go_sem,GM,hz0,hz1,hz2,hz3,Og,Oh]) rfl ?_;obtain⟨yQ,hr5,Qz,XT,e,e1,e2,e3,e4,e5⟩:=HV.o;have aI:But (w.heap.size+1) w5 _:=(But.vL (But.refl (w.heap.size+1) w5) (.int .i64 (c5:Nat)) (.int .i64 (c3:Nat)) (.int .i64 (c4:Nat)) (.int .i64 (c1:Nat)) (.int .i64 (c2:Nat)) (.int .i64 (i:Nat))).drew;have hR6:=Rw.mono (Rw.but hr5 aI aM Qz) (show w.heap.size<=w1.heap.size by omega);rw[e] at hR6;have hans:=ja.yes HEE.o hR6 (But.below yQ aI ae ae);rw[<-HX.o.1,e1,e2,e3,e4,e5] at hans;exact hans
    . have h0':(ee==0)=false:=by rw[beq_eq_false_iff_ne];exact h0
      go_wp2;refine aH (v:=.tuple #[.slice none 0 0,.agg #[.int .i64 0,.int .i64 0,.int .i64 0,.int .i64 0,.int .i64 0,.int .i64 0],.int .i64 ee]) (by simp[results,Tryz.results53,go_sem,GM,hz0,hz1,hz2,hz3,Og,Oh]) rfl (ja.no ee HEE.o h0 ?_);exact But.below HV.o.1 (But.vL (But.refl (w.heap.size+1) _) _ _ _ _ _ _) ae ae
  . have hil:i<n:=ae
    obtain⟨hn,hx,hR,hB⟩:=HX.o;have hS:=HA.o;have hbw:An w wr:=((((aD _ w).alloc (aA _) _).alloc aN _).trans (HB.o.mono (by simp;omega))).trans (hS.aF.mono ae);have hRw:Rd w.heap.size wr ao xs:=(hR.mono hB).below hbw;obtain⟨bb,off,hlt2,rfl,hcell⟩:=hRw (by intro e;rw[e] at hn;simp at hn;omega);have hxc:=hcell i ae;have hxw:=hx.get i;obtain⟨x,fE⟩:∃x,xs.getD i 0=x:=⟨_,rfl⟩;rw[fE] at hxc hxw;have HK:=hid (TU x hxw);have hk5:=kp_le x;have hk3:=kp_ge x;obtain⟨kk,hkk⟩:∃kk,kp (kd x)=kk:=⟨_,rfl⟩;rw[hkk] at HK hk5 hk3;have l1:(xs.take i).length<=65536:=by rw[fJ];omega
    have hbd:=λk=>Zi k (xs.take i) 65536 l1 (aA _);have hwl:=hS.size;have HY:=(kz fE hkk hk3 hbd hn hlt2);clear hn hx hR hB hS hbw hRw hcell fE hkk hk3 hbd l1 hin;go_wp2_with fail;refine(HK.o _).mono ?_;rintro r w2 ⟨rfl,hb2⟩;have HS2:=ak (SI.kind HA.o hb2 hwl);have hxc2:w2.cell? ⟨bb,off+i,none⟩=some (.float .f64 x):=by rw[hb2.cell (p:=⟨bb,off+i,none⟩) (by have:=HY.o.r5;simp;omega)];exact hxc
    have hsz2:=hb2.size;have HC:=hid (PH kk (w1.heap.size+1) _ _ _ _ _ _ w2 hk5 HS2.o.sp (HY.o.r3.1 5) (HY.o.r3.1 3) (HY.o.r3.1 4) (HY.o.r3.1 1) (HY.o.r3.1 2));clear hb2 hxc;go_wp2_with fail;refine eG HC.o ?_;rintro r w3 ⟨rfl,hs3,zI⟩;obtain⟨fE,hkk,hk3,hbd,hn,hlt2⟩:=HY.o;have XU:XQ w3 (w1.heap.size+1) (xs.take (i+1)) (n:Nat):=XQ.counted (w:=w2) ae (by rw[fE,hkk];exact hs3);have hsz3:=zI.size
    have hxc3:w3.cell? ⟨bb,off+i,none⟩=some (.float .f64 x):=by
     have h9:=(But.below (aD w1.heap.size w2) zI ae ae).cell (p:=⟨bb,off+i,none⟩) (by simp;omega);rw[h9];exact hxc2
    by_cases hk2:kd x<=2
    . have hge:(3:Int)<=(kk:Int):=by have:=hk3.2 hk2;omega
      obtain⟨v',w4,hap,hrow4,hb4,Uh,hsz4⟩:=push w1.heap.size w3 u7 (fin (xs.take i)) x (SI.row2 HS2.o zI) (by have h1:=fin_le (xs.take i);rw[fJ] at h1;omega) ae;have HI:=ak (SI.into (v':=v') HS2.o ae XU zI ae ae (by rw[fE];exact hk2) (by rw[fE];exact hrow4) hb4 Uh hsz4);have Nf:=hid hap;clear hap hrow4 hb4 Uh hsz4 hs3 XU zI fE hkk hk3 hbd hn hlt2 hk2 hxc2
      go_wp2_with (at_builtin;refine dC rfl (.tmp 40) (.tmp 45) 22 rfl _ _ rfl rfl _ _ Nf.o ?_)
      exact Qa8
    . have hge:decide ((3:Int)<=(kk:Int))=false:=decide_eq_false (λh=>hk2 (hk3.1 ae));have HI:=ak (SI.o HS2.o ae XU zI ae ae (by rw[fE];exact hk2));clear hs3 XU zI fE hkk hk3 hbd hn hlt2 hk2 hxc2;go_wp2;exact Qa8
theorem Ui(xs:List Nat)(ao:Option Addr)(n cap B:Nat)(a b:Int)(w:World)(hn:n=xs.length)(hm:n<=35184372088832)(hx:Wf xs)(hR:Rd B w ao xs)(hB:B<=w.heap.size) :
 As 53 #[.slice ao n cap,.agg #[.int .i64 a,.int .i64 b]] w (ja w a b xs):=by
 rcases h:may a b with _|_
 . exact Ug xs ao n cap a b w h
 . by_cases hl:65536<n
   . exact PK xs ao n cap a b w hn h hl hm
   . exact PL xs ao n cap B a b w hn h ae hx hR hB
end Ps
section
open Go.RowKit J
def kO13(k:Nat):Nat:=if k=5 then 1 else if k=3 then 2 else if k=4 then 3 else if k=1 then 4 else if k=2 then 5 else 0
theorem m42:max (4:Int) 2=4:=aM
theorem m32:max (3:Int) 2=3:=aM
theorem m02:max (0:Int) 2=2:=aM
theorem n42:min (4:Int) 2=2:=aM
theorem n32:min (3:Int) 2=2:=aM
theorem n02:min (0:Int) 2=0:=aM
theorem Qbz{P:Prop}(h:P:=by
 rcases CE.1 p2.symm with q|q
 . exact q
 . have:=bG (Ez x+1074).toNat;omega):P:=h
theorem Qbu{P:Prop}(h:P:=by
 exact⟨by unfold pk;simp[m42,m32,m02,n42,n32,n02],λ_=>fx,λ_=>by omega⟩):P:=h
theorem Qbc{P:Prop}(h:P:=by
 refine⟨by unfold pk;simp[m42,m32,m02,n42,n32,n02],?_⟩;exact⟨λq=>by omega,λq=>absurd q hf⟩):P:=h
theorem zJ{x:Nat}(hx:x<18446744073709551616):pK x 4607182418800017408=kO13 (kd x)/\(kd x<=2↔bO x):=by
 have c1:j5 4607182418800017408=2:=by decide +kernel
 have n1:LF 4607182418800017408=false:=by decide +kernel
 have em:bB x=x%9223372036854775808:=rfl;have en:dH x=decide (9223372036854775808<=x):=rfl;unfold pK kO13;rw[c1,n1];rcases ni 9218868437227405312 (bB x) with h|h|h
 . have hk:kd x=5:=by unfold kd;rw[if_pos ae]
   rw[DU h,hk];refine⟨by unfold pk;simp[m42,m32,m02,n42,n32,n02],?_⟩;constructor
   . intro q;omega
   . intro q;exact absurd (show bB x<9218868437227405312 from q) ae
 . obtain⟨h1,h2⟩:=vD h.symm;rw[h1,h2];have hf:¬ bO x:=λq=>absurd (show bB x<9218868437227405312 from q) ae
   by_cases hs:9223372036854775808<=x
   . have hk:kd x=4:=by unfold kd;rw[if_neg ae,if_pos ae,if_pos ae]
     rw[hk,en,decide_eq_true hs];exact Qbc
   . have hk:kd x=3:=by unfold kd;rw[if_neg ae,if_pos ae,if_neg ae]
     rw[hk,en,decide_eq_false hs];exact Qbc
 . have fx:bO x:=h;obtain⟨p1,p2,p3,p4⟩:=iP hx fx;rw[p1]
   by_cases h0:bB x=0
   . rw[h0,D8] at p2
     have hfr:wT x=0:=by
      exact Qbz
     have hc:j5 x=0:=by
      rcases p4 with q|q
      . exact q.1
      . exact absurd hfr q.2
     rw[hc]
     by_cases hs:9223372036854775808<=x
     . have hk:kd x=1:=by unfold kd;rw[if_neg ae,if_neg ae,if_pos ae,if_pos ae]
       rw[hk,en,decide_eq_true hs];exact Qbu
     . have hk:kd x=2:=by unfold kd;rw[if_neg ae,if_neg ae,if_pos ae,if_neg ae]
       rw[hk,en,decide_eq_false hs];exact Qbu
   . have hk:kd x=0:=by unfold kd;rw[if_neg ae,if_neg ae,if_neg ae]
     have hfr:wT x≠0:=by
      intro q;rw[q,fe] at p2;have:=D6.mono (show 0<bB x by omega);omega
     have hc:j5 x=1\/j5 x=2:=by
      rcases p4 with q|q
      . exact absurd q.2 hfr
      . exact q.1
     rw[hk];refine⟨?_,λ_=>fx,λ_=>by omega⟩;rcases hc with q|q
     . rw[q,show max (1:Int) 2=2 by decide,show min (1:Int) 2=1 by decide];unfold pk;simp
     . rw[q,show max (2:Int) 2=2 by decide,show min (2:Int) 2=2 by decide];unfold pk;simp
theorem kd5(x:Nat):kd x<=5:=by unfold kd;(repeat' split) <;> omega
theorem zK:∀(xs:List Nat) (s:Sp),jH xs->xs.foldl (λs x=>s.cnt (pK x 4607182418800017408) 1) s=⟨s.n+Ps.cn 5 xs,s.u+Ps.cn 3 xs,s.d+Ps.cn 4 xs,s.m+Ps.cn 1 xs,s.p+Ps.cn 2 xs,s.a+xs.length⟩
 | [],s,_=>by simp[Ps.cn]
 | x::xs,s,h=>by
   rw[List.foldl_cons,zK xs _ (λz hz=>h z (kJ _ hz)),(zJ (h x kK)).1];have hk:=kd5 x;unfold Sp.cnt kO13 Ps.cn;simp only[List.countP_cons,oO];obtain q|q|q|q|q|q:kd x=0\/kd x=1\/kd x=2\/kd x=3\/kd x=4\/kd x=5:=ae
   all_goals (rw[q];simp;(repeat' constructor) <;> omega)
theorem Uj{xs:List Nat}(h:jH xs):sS xs=⟨(Ps.cn 5 xs:Nat),(Ps.cn 3 xs:Nat),(Ps.cn 4 xs:Nat),(Ps.cn 1 xs:Nat),(Ps.cn 2 xs:Nat),(xs.length:Nat)⟩:=by
 unfold sS;rw[zK xs _ h];simp
theorem XV{xs:List Nat}(h:jH xs):∀x ∈ Ps.fin xs,bO x:=λx hx=>(zJ (h x (List.mem_filter.1 hx).1)).2.1 (by simpa using (List.mem_filter.1 hx).2)
theorem Uk{xs:List Nat}(h:jH xs)(hf:∀x ∈ xs,bO x):Ps.fin xs=xs:=List.filter_eq_self.2 λx hx=>by simpa using (zJ (h x hx)).2.2 (hf x hx)
theorem BQ:∀{xs:List Nat},((Ps.fin xs).length:Int)=(xs.length:Int)-(Ps.cn 5 xs:Nat)-(Ps.cn 3 xs:Nat)-(Ps.cn 4 xs:Nat)
 | []=>rfl
 | x::xs=>by
   have ih:=BQ (xs:=xs);have hk:=kd5 x;unfold Ps.fin Ps.cn at ih |-;simp only[List.countP_cons,oO,List.filter_cons];obtain q|q|q|q|q|q:kd x=0\/kd x=1\/kd x=2\/kd x=3\/kd x=4\/kd x=5:=ae
   all_goals (rw[q];simp;omega)
def Mm(pa pb:Int)(xs:List Nat):Int:=if may pa pb=false then 1 else if 65536<xs.length then 2 else Ps.rf (sS xs).n (sS xs).u (sS xs).d pa pb
def XW:Value:=.agg #[.int .i64 0,.int .i64 0,.int .i64 0,.int .i64 0,.int .i64 0,.int .i64 0]
theorem ps_rd{B:Nat}{w:World}{a:Option Addr}{xs:List Nat}(h:Fs B w a xs):Ps.Rd B w a xs:=h
theorem Zj{lo:Nat}{w:World}{v:Value}{xs:List Nat}(h:Ps.Lt lo w v xs):∃a c,v=.slice a xs.length c/\Fs w.heap.size w a xs/\∀b o p,a=some ⟨b,o,p⟩->lo<=b:=by
 have h2:=h.2;unfold Ps.Lt at h;rcases h2 with ⟨rfl,h0⟩|⟨g,cap,cur,rfl,hlo,hg,rest⟩
 . refine⟨none,0,by rw[h0],λhne=>absurd (rF h0) hne,λb o p h=>by cases h⟩
 . refine⟨_,cap,rfl,λ_=>⟨g,0,(dQ.1 hg).1,rfl,λi hi=>?_⟩,λb o p h=>by cases h;exact hlo⟩;have h1:=h.cells (g:=g) (by simp[Value.ownBlock]) i (.float .f64 (xs.getD i 0)) (by simp[Ps.U,hi]);have e:(⟨g,0,none⟩:Addr).add i=⟨g,0+i,none⟩:=by unfold Addr.add;split <;> simp_all
   rw[e] at h1;exact h1
theorem Ul(xs:List Nat)(a:Option Addr)(n c:Nat)(pa pb:Int)(w:World)(hn:n=xs.length)(hm:n<=35184372088832)(hF:Fs w.heap.size w a xs)(hW:jH xs) :
 As 53 #[.slice a n c,.agg #[.int .i64 pa,.int .i64 pb]] w λr w' =>
  ((Mm pa pb xs≠0/\∃a' c',r=.returned (.tuple #[.slice a' 0 c',XW,.int .i64 (Mm pa pb xs)])) \/
   (Mm pa pb xs=0/\∃a' c',r=.returned (.tuple #[.slice a' (Ps.fin xs).length c',(sS xs).agg,.int .i64 0])/\Fs w'.heap.size w' a' (Ps.fin xs)/\∀b o p,a'=some ⟨b,o,p⟩->w.heap.size<=b))/\An w w':=by
 have e1:Ps.mI pa pb xs=Mm pa pb xs:=by unfold Ps.mI Mm;rw[Uj hW]
 refine(Ps.Ui xs a n c w.heap.size pa pb w hn hm hW (ps_rd hF) (aA _)).mono ?_;rintro r w' ⟨v,rfl,hL,hb⟩;refine⟨?_,hb⟩;unfold Ps.Ml;unfold Ps.Mk at hL;rw[e1] at hL |-
 by_cases h0:Mm pa pb xs=0
 . rw[if_pos h0] at hL |-;obtain⟨a',c',rfl,hF',hlo⟩:=Zj hL;exact .inr ⟨h0,a',c',by rw[h0,Uj hW];rfl,hF',hlo⟩
 . rw[if_neg h0] at hL |-;obtain⟨a',c',rfl,_⟩:=Zj hL;exact .inl ⟨h0,a',c',rfl⟩
theorem Fs.but'{B:Nat}{w w':World}{ao:Option Addr}{xs:List Nat}{g:Nat}(h:Fs B w ao xs)(hb:But g w w')(hg:∀b o p,ao=some ⟨b,o,p⟩->b≠g):Fs B w' ao xs:=by
 intro hne;obtain⟨b,off,h1,h2,h3⟩:=h hne;have hbg:b≠g:=hg _ _ _ h2;refine⟨b,off,h1,h2,λi hi=>?_⟩;have hc:=h3 i hi
 have hlt:b<w.heap.size:=by
  rcases iE b w.heap.size with q|q
  . exact q
  . unfold World.cell? at hc;simp[yj q] at hc
 rw[sV (a:=⟨b,off+i,none⟩) (hb.block b hlt hbg)];exact hc
attribute [local go_sem] cZ
theorem GN(e:Int):ED e 0=0:=by unfold ED;split <;> rfl
end
section
open Go.RowKit J
attribute [local go_sem] cZ
def zX(xs:List Nat):Int:=if 65536<xs.length then 2 else if 0<(sS xs).n\/0<(sS xs).u+(sS xs).d then 30 else 0
theorem sf22(xs:List Nat):(Mm 2 2 xs=0/\zX xs=0)\/(Mm 2 2 xs=2/\zX xs=2)\/((Mm 2 2 xs=60\/Mm 2 2 xs=61)/\zX xs=30):=by
 have hm:may 2 2=true:=aM
 unfold Mm zX Ps.rf;rw[hm,if_neg aM]
 by_cases hl:65536<xs.length
 . rw[if_pos hl,if_pos hl];exact .inr (.inl ⟨rfl,rfl⟩)
 . rw[if_neg hl,if_neg hl]
   by_cases h1:0<(sS xs).n
   . rw[if_pos ⟨h1,rfl⟩,if_pos (.inl h1)];exact .inr (.inr ⟨.inl rfl,rfl⟩)
   . rw[if_neg (λh=>h1 h.1)]
     by_cases h2:0<(sS xs).u+(sS xs).d
     . rw[if_pos ⟨h2,rfl⟩,if_pos (.inr h2)];exact .inr (.inr ⟨.inr rfl,rfl⟩)
     . rw[if_neg (λh=>h2 h.1),if_neg ae];exact .inl ⟨rfl,rfl⟩
theorem Um {fn:Func}{p q:Tmp}(hfn:fn.results=#[.cell p 72,.tmp q]) {tmps:Array Value}{w:World}{g:Nat}{t1 t2 t3 t4 t5 t6 e:Int}{R:Ending->World->Prop}
 (h1:tmps.getD p undef=.pointer (some ⟨g,0,none⟩)) (h2:tmps.getD q undef=.int .i64 e) (hB:Bl w g 72 [.int .i64 t1,.int .i64 t2,.int .i64 t3,.int .i64 t4,.int .i64 t5,.int .i64 t6])
 (hR:R (.returned (.tuple #[.agg #[.int .i64 t1,.int .i64 t2,.int .i64 t3,.int .i64 t4,.int .i64 t5,.int .i64 t6],.int .i64 e])) w) :
 bodyPost Tryz.prog fn R .ret ⟨tmps,[]⟩ w:=by
 have c0:=hB.cell 0 _ rfl;have c1:=hB.cell 1 _ rfl;have c2:=hB.cell 2 _ rfl;have c3:=hB.cell 3 _ rfl;have c4:=hB.cell 4 _ rfl;have c5:=hB.cell 5 _ rfl;rw[Array.getD_eq_getD_getElem?] at h1 h2;exact aH (v:=.tuple #[.agg #[.int .i64 t1,.int .i64 t2,.int .i64 t3,.int .i64 t4,.int .i64 t5,.int .i64 t6],.int .i64 e]) (by simp[results,hfn,go_sem,Ps.GM,h1,h2,c0,c1,c2,c3,c4,c5]) rfl hR
theorem Qbj{P:Prop}(h:P:=by
 exact But.below B3.o.r2.1 (Ps.But.vL (But.refl w.heap.size _) _ _ _ _ _ _) B3.o.r2.1.size (aA _)):P:=h
theorem plain13(xs:List Nat)(a:Option Addr)(n c:Nat)(w:World)(hn:n=xs.length)(hF:Fs w.heap.size w a xs)(hW:jH xs)(hl:n<=35184372088832) :
 As 48 #[.slice a n c] w λr w'=>((zX xs≠0/\r=.returned (.tuple #[XW,.int .i64 (zX xs)]))\/(zX xs=0/\r=.returned (.tuple #[(sS xs).agg,.int .i64 0])))/\An w w':=by
 obtain⟨W,zL⟩:=ah (w.alloc (Obj.cells #[.int .i64 0,.int .i64 0,.int .i64 0,.int .i64 0,.int .i64 0,.int .i64 0] 72))
 have B0:Aside (Bl W w.heap.size 72 [.int .i64 0,.int .i64 0,.int .i64 0,.int .i64 0,.int .i64 0,.int .i64 0]/\An w W):=by
  rw[zL];exact⟨Bl.new _ 72 [_,_,_,_,_,_],aC _ _⟩
 have HS:=hid (Ul xs a n c 2 2 W hn hl ((hF.below B0.o.2).mono B0.o.2.size) hW);have hsf:=sf22 xs;obtain⟨es,hes⟩:∃e,Mm 2 2 xs=e:=⟨_,rfl⟩;obtain⟨ep,XY⟩:∃e,zX xs=e:=⟨_,rfl⟩;obtain⟨⟨sn,su,sd,sm,sp,sa⟩,hs⟩:∃s,sS xs=s:=⟨_,rfl⟩;obtain⟨fl,hfl⟩:∃f,Ps.fin xs=f:=⟨_,rfl⟩;rw[hs,hes,hfl] at HS;rw[hes,XY] at hsf;rw[XY,hs];simp only[Sp.agg] at HS |-;have HSF:=ak hsf;have GK:=ak zL;clear hn hF hW hl zL hes XY hs hfl hsf;go_enter Tryz.func48,Tryz.ntmps48;go_wp2_with fail;rw[<-GK.o];clear GK;refine HS.o.mono ?_;rintro r v ⟨hr,hb⟩;have B1:Aside (Bl v w.heap.size 72 [.int .i64 0,.int .i64 0,.int .i64 0,.int .i64 0,.int .i64 0,.int .i64 0]/\An w v):=⟨B0.o.1.below hb B0.o.1.lt,B0.o.2.trans (hb.mono B0.o.2.size)⟩
 have BU:Aside (∀(t1 t2 t3 t4 t5 t6:Int) (U:World),U=v.alloc (Obj.cells #[.int .i64 t1,.int .i64 t2,.int .i64 t3,.int .i64 t4,.int .i64 t5,.int .i64 t6] 72) ->
  Bl U w.heap.size 72 [.int .i64 0,.int .i64 0,.int .i64 0,.int .i64 0,.int .i64 0,.int .i64 0]/\Bl U v.heap.size 72 [.int .i64 t1,.int .i64 t2,.int .i64 t3,.int .i64 t4,.int .i64 t5,.int .i64 t6]/\An w U/\w.heap.size<v.heap.size):=by
  intro t1 t2 t3 t4 t5 t6 U hU;rw[hU];exact⟨B1.o.1.alloc _,Bl.new _ 72 [_,_,_,_,_,_],B1.o.2.trans ((aC _ _).mono B1.o.2.size),B1.o.1.lt⟩
 clear hb B0 HS;rcases hr with ⟨he,a',c',rfl⟩|⟨he,a',c',rfl,hF',hlo⟩
 . unfold XW;obtain⟨U,hU⟩:=ah (v.alloc (Obj.cells #[.int .i64 0,.int .i64 0,.int .i64 0,.int .i64 0,.int .i64 0,.int .i64 0] 72));obtain⟨u1,u2,u3,u4⟩:=BU.o _ _ _ _ _ _ _ hU;obtain⟨gs,hgs⟩:∃g,v.heap.size=g:=⟨_,rfl⟩;rw[hgs] at u2 u4;have B3:=(iN u1 u2 u3 u4);have s0:=u2.cell 0 _ rfl;have s1:=u2.cell 1 _ rfl;have s2:=u2.cell 2 _ rfl;have s3:=u2.cell 3 _ rfl;have s4:=u2.cell 4 _ rfl;have s5:=u2.cell 5 _ rfl;have z0:=u1.cell 0 _ rfl;have z1:=u1.cell 1 _ rfl;have z2:=u1.cell 2 _ rfl;have z3:=u1.cell 3 _ rfl;have z4:=u1.cell 4 _ rfl;have z5:=u1.cell 5 _ rfl;have y0:=u1.frozen 0;have y1:=u1.frozen 1;have y2:=u1.frozen 2;have y3:=u1.frozen 3;have y4:=u1.frozen 4;have y5:=u1.frozen 5;have Zl:=ak hgs;have HU:=ak hU;clear u1 u2 u3 u4 hU BU hgs
   go_upto_region 2 with fail
   rw[<-HU.o,Zl.o];clear HU Zl;obtain⟨h1,h2⟩|⟨h1,h2⟩|⟨h1|h1,h2⟩:=HSF.o
   . exact absurd h1 he
   all_goals
    subst h1 h2;clear he HSF;go_wp2;refine Um Tryz.results48 ?_ ?_ ((((((B3.o.1.set 0 _).set 1 _).set 2 _).set 3 _).set 4 _).set 5 _) ⟨by first | exact .inl ⟨aM,rfl⟩ | rfl,?_⟩
    . rfl
    . rfl
    . exact Qbj
 . subst he;obtain rfl:ep=0:=by rcases HSF.o with ⟨h1,h2⟩|⟨h1,h2⟩|⟨h1|h1,h2⟩ <;> omega
   obtain⟨U,hU⟩:=ah (v.alloc (Obj.cells #[.int .i64 sn,.int .i64 su,.int .i64 sd,.int .i64 sm,.int .i64 sp,.int .i64 sa] 72));obtain⟨u1,u2,u3,u4⟩:=BU.o _ _ _ _ _ _ _ hU;obtain⟨gs,hgs⟩:∃g,v.heap.size=g:=⟨_,rfl⟩;rw[hgs] at u2 u4;have B3:=(iN u1 u2 u3 u4);have s0:=u2.cell 0 _ rfl;have s1:=u2.cell 1 _ rfl;have s2:=u2.cell 2 _ rfl;have s3:=u2.cell 3 _ rfl;have s4:=u2.cell 4 _ rfl;have s5:=u2.cell 5 _ rfl;have z0:=u1.cell 0 _ rfl;have z1:=u1.cell 1 _ rfl;have z2:=u1.cell 2 _ rfl;have z3:=u1.cell 3 _ rfl;have z4:=u1.cell 4 _ rfl;have z5:=u1.cell 5 _ rfl;have y0:=u1.frozen 0;have y1:=u1.frozen 1;have y2:=u1.frozen 2;have y3:=u1.frozen 3;have y4:=u1.frozen 4;have y5:=u1.frozen 5;have Zl:=ak hgs;have HU:=ak hU;clear u1 u2 u3 u4 hU BU hgs hF' hlo
   go_upto_region 2 with fail
   rw[<-HU.o,Zl.o];clear HU Zl HSF;go_wp2;refine Um Tryz.results48 ?_ ?_ ((((((B3.o.1.set 0 _).set 1 _).set 2 _).set 3 _).set 4 _).set 5 _) ⟨by first | exact .inr ⟨rfl,rfl⟩ | rfl,?_⟩
   . rfl
   . rfl
   . exact Qbj
end
section
open Go.RowKit J
attribute [local go_sem] cZ
abbrev ClD(f:FuncId):Prop:=∀(gx ge x:Nat) (e:Int) (w:World),w.cell? ⟨gx,0,none⟩=some (.float .f64 x)->w.cell? ⟨ge,0,none⟩=some (.int .i64 e)->w.frozen? ⟨gx,0,none⟩=false->∀(u:FrameMode),
 CallsD Tryz.prog f #[.pointer (some ⟨ge,0,none⟩),.pointer (some ⟨gx,0,none⟩)] u w λr u' w'=>u'=u/\(r=.returned (.tuple #[])/\w'=w.setCell ⟨gx,0,none⟩ (.float .f64 (ED e x)))
theorem Ec {fn:Func}{f:FuncId}{px pe:Tmp}(hres:fn.results=#[.cell px 27,.cell pe 28]) (HC:ClD f) {tmps:Array Value}{gx ge x X:Nat}{e E:Int}{w v:World}
 (b1:Bl v gx 27 [.float .f64 x]) (b2:Bl v ge 28 [.int .i64 e]) (hb:An w v) (hgx:w.heap.size<=gx) (hne:ge≠gx) (hX:ED e x=X) (hE:e=E)
 (hi:(callFunc f #[.pointer (some ⟨ge,0,none⟩),.pointer (some ⟨gx,0,none⟩)]).run Tryz.prog v=.ok (.enter f #[.pointer (some ⟨ge,0,none⟩),.pointer (some ⟨gx,0,none⟩)]) v)
 (h1:tmps.getD px undef=.pointer (some ⟨gx,0,none⟩)) (h2:tmps.getD pe undef=.pointer (some ⟨ge,0,none⟩)) :
 Leaves Tryz.prog fn tmps (λr w'=>r=.returned (.tuple #[.float .f64 X,.int .i64 E])/\An w w') [{ target:=.fn (.func f) #[.pointer (some ⟨ge,0,none⟩),.pointer (some ⟨gx,0,none⟩)],args:=#[] }] .returning v:=by
 subst hX hE;refine door13 hres hi (HC gx ge x e v (b1.cell 0 _ rfl) (b2.cell 0 _ rfl) (b1.frozen 0)) h1 h2 (b1.cell 0 _ rfl) (b2.cell 0 _ rfl) hne ?_;have kb:But gx v (v.setCell ⟨gx,0,none⟩ (.float .f64 (ED e x))):=(But.refl gx _).set 0 _;exact⟨rfl,But.below hb kb hb.size hgx⟩
theorem Un {fn:Func}{f:FuncId}{px pe:Tmp}(hres:fn.results=#[.cell px 27,.cell pe 28]) (HC:ClD f) {tmps:Array Value}{gx ge x0 x X:Nat}{e0 e E:Int}{w v:World}
 (b1:Bl v gx 27 [.float .f64 x0]) (b2:Bl v ge 28 [.int .i64 e0]) (hb:An w v) (hgx:w.heap.size<=gx) (hge:w.heap.size<=ge) (hne:ge≠gx) (hX:ED e x=X) (hE:e=E)
 (hi:∀v:World,(callFunc f #[.pointer (some ⟨ge,0,none⟩),.pointer (some ⟨gx,0,none⟩)]).run Tryz.prog v=.ok (.enter f #[.pointer (some ⟨ge,0,none⟩),.pointer (some ⟨gx,0,none⟩)]) v)
 (h1:tmps.getD px undef=.pointer (some ⟨gx,0,none⟩)) (h2:tmps.getD pe undef=.pointer (some ⟨ge,0,none⟩)) :
 Leaves Tryz.prog fn tmps (λr w'=>r=.returned (.tuple #[.float .f64 X,.int .i64 E])/\An w w') [{ target:=.fn (.func f) #[.pointer (some ⟨ge,0,none⟩),.pointer (some ⟨gx,0,none⟩)],args:=#[] }] .returning ((v.setCell ⟨gx,0,none⟩ (.float .f64 x)).setCell ⟨ge,0,none⟩ (.int .i64 e)):=by
 have bt:But gx v (v.setCell ⟨gx,0,none⟩ (.float .f64 x)):=(But.refl _ _).set 0 _;have be:But ge (v.setCell ⟨gx,0,none⟩ (.float .f64 x)) ((v.setCell ⟨gx,0,none⟩ (.float .f64 x)).setCell ⟨ge,0,none⟩ (.int .i64 e)):=(But.refl _ _).set 0 _;have k0:=But.below hb bt hb.size hgx;exact Ec hres HC ((b1.set 0 (.float .f64 x)).but be (λh=>hne h.symm)) ((b2.but bt hne).set 0 (.int .i64 e)) (But.below k0 be k0.size hge) hgx hne hX hE (hi _) h1 h2
theorem two13(w:World):Bl ((w.alloc (Obj.cells #[.float .f64 0] 27)).alloc (Obj.cells #[.int .i64 0] 28)) w.heap.size 27 [.float .f64 0]/\Bl ((w.alloc (Obj.cells #[.float .f64 0] 27)).alloc (Obj.cells #[.int .i64 0] 28)) (w.heap.size+1) 28 [.int .i64 0]/\An w ((w.alloc (Obj.cells #[.float .f64 0] 27)).alloc (Obj.cells #[.int .i64 0] 28)):=by
 have z2:=Bl.new (w.alloc (Obj.cells #[.float .f64 0] 27)) 28 [.int .i64 0];rw[uL] at z2;exact⟨(Bl.new w 27 [_]).below (aC _ _) aN,z2,(aC _ _).trans ((aC _ _).mono aN)⟩
theorem GQ{w v:World}{gx ge x:Nat}{e0:Int}(e:Int)(b1:Bl v gx 27 [.float .f64 x])(b2:Bl v ge 28 [.int .i64 e0])(hb:An w v)(hge:w.heap.size<=ge)(hne:ge≠gx) :
 Bl (v.setCell ⟨ge,0,none⟩ (.int .i64 e)) gx 27 [.float .f64 x]/\Bl (v.setCell ⟨ge,0,none⟩ (.int .i64 e)) ge 28 [.int .i64 e]/\An w (v.setCell ⟨ge,0,none⟩ (.int .i64 e)):=by
 have be:But ge v (v.setCell ⟨ge,0,none⟩ (.int .i64 e)):=(But.refl _ _).set 0 _;exact⟨b1.but be (λh=>hne h.symm),b2.set 0 _,But.below hb be hb.size hge⟩
theorem Uo{w v:World}{gx ge x:Nat}{e0:Int}{ao:Option Addr}{xs:List Nat}(b1:Bl v gx 27 [.float .f64 x])(b2:Bl v ge 28 [.int .i64 e0])(hb:An w v)(hge:w.heap.size<=ge)(hne:ge≠gx)(hT:gP w)(hF:Fs v.heap.size v ao xs)(hg:∀b o p,ao=some ⟨b,o,p⟩->b≠ge)(e t1 t2 t3 t4 t5 t6:Int)(Z:World)(hZ:Z=(v.setCell ⟨ge,0,none⟩ (.int .i64 e)).alloc (Obj.cells #[.int .i64 t1,.int .i64 t2,.int .i64 t3,.int .i64 t4,.int .i64 t5,.int .i64 t6] 72)) :
 Bl Z gx 27 [.float .f64 x]/\Bl Z ge 28 [.int .i64 e]/\Bl Z v.heap.size 72 [.int .i64 t1,.int .i64 t2,.int .i64 t3,.int .i64 t4,.int .i64 t5,.int .i64 t6]/\An w Z/\gP Z/\Fs Z.heap.size Z ao xs:=by
 obtain⟨k1,k2,k3⟩:=GQ (w:=w) e b1 b2 hb hge hne;have be:But ge v (v.setCell ⟨ge,0,none⟩ (.int .i64 e)):=(But.refl _ _).set 0 _;have hsz:(v.setCell ⟨ge,0,none⟩ (.int .i64 e)).heap.size=v.heap.size:=by simp
 have z1:=Bl.new (v.setCell ⟨ge,0,none⟩ (.int .i64 e)) 72 [.int .i64 t1,.int .i64 t2,.int .i64 t3,.int .i64 t4,.int .i64 t5,.int .i64 t6];rw[hsz] at z1;rw[hZ];have hbb:=k3.trans ((aC (v.setCell ⟨ge,0,none⟩ (.int .i64 e)) (Obj.cells #[.int .i64 t1,.int .i64 t2,.int .i64 t3,.int .i64 t4,.int .i64 t5,.int .i64 t6] 72)).mono k3.size);exact⟨k1.alloc _,k2.alloc _,z1,hbb,hT.belows hbb,((hF.but' be hg).below ((aC _ _).mono aN)).mono aN⟩
noncomputable def Uq (xs:List Nat) (mode:Int):Nat×Int:=if zX xs=0 then(ED (mU xs (sS xs) mode).2 (mU xs (sS xs) mode).1,(mU xs (sS xs) mode).2) else(0,zX xs)
noncomputable def rC (x y:Nat) (mode:Int):Nat×Int:=if oJ mode=0 then Uq [x,y] mode else(0,oJ mode)
theorem Ed(w:World)(x y:Nat):Fs (w.alloc (Obj.cells #[.float .f64 x,.float .f64 y] 27)).heap.size (w.alloc (Obj.cells #[.float .f64 x,.float .f64 y] 27)) (some ⟨w.heap.size,0,none⟩) [x,y]:=by
 intro _;refine⟨w.heap.size,0,aN,rfl,λi hi=>?_⟩;have hB:=Bl.new w 27 [.float .f64 x,.float .f64 y]
 match i,hi with
 | 0,_=>exact hB.cell 0 _ rfl
 | 1,_=>exact hB.cell 1 _ rfl
theorem Ur(x y:Nat)(hx:x<18446744073709551616)(hy:y<18446744073709551616)(mode:Int)(w:World)(hT:gP w)(z:Nat×Int)(hz:rC x y mode=z) :
 At 33 #[.float .f64 x,.float .f64 y,.int .i64 mode] w (.tuple #[.float .f64 z.1,.int .i64 z.2]):=by
 obtain⟨X,E⟩:=z;simp only;have hmf:∀(fn:Fn) (first cap:Array Value) (w:World),(Instr.makeFunc fn first cap).run Tryz.prog w=.ok (.func fn first cap) w:=λ_ _ _ _=>rfl;have HA:=hid (λu:World=>XO mode u);unfold rC at hz;obtain⟨ea,hea⟩:∃e,oJ mode=e:=⟨_,rfl⟩;rw[hea] at HA hz;obtain⟨W,zL⟩:=ah ((w.alloc (Obj.cells #[.float .f64 0] 27)).alloc (Obj.cells #[.int .i64 0] 28));obtain⟨gx,hgx⟩:=ah (w.heap.size);obtain⟨ge,hge⟩:=ah (w.heap.size+1);have HG:Aside (gx=w.heap.size/\ge=w.heap.size+1/\w.heap.size<=gx/\w.heap.size<=ge/\ge≠gx):=⟨hgx,hge,ae,ae,ae⟩;have B0:=two13 w;rw[<-zL,<-hge] at B0;have B1:=ak (GQ ea (show Bl W gx 27 [.float .f64 0] by rw[hgx];exact B0.1) B0.2.1 B0.2.2 HG.o.r3.1 HG.o.r4);have c1:=B0.2.1.cell 0 _ rfl;have f1:=B0.2.1.frozen 0;have GK:=ak zL;have HX:=gp hx hy hT;clear hx hy hT zL hea hgx hge B0;go_enter_defers Tryz.func33,Tryz.ntmps33;go_wp2_with fail;rw[<-GK.o]
 try rw[show w.heap.size+1=ge by have:=HG.o;omega]
 try rw[show w.heap.size=gx by have:=HG.o;omega]
 clear GK;refine(HA.o _).mono ?_;rintro r v ⟨rfl,hv⟩;rw[hv];clear hv v
 by_cases h0:ea=0
 . subst h0;rw[if_pos rfl] at hz;obtain⟨V,hV⟩:=ah (W.setCell ⟨ge,0,none⟩ (.int .i64 0));rw[<-hV] at B1;have r1:=B1.o.2.1.cell 0 _ rfl;obtain⟨U,hU⟩:=ah (V.alloc (Obj.cells #[.float .f64 x,.float .f64 y] 27));obtain⟨ga,hga⟩:∃g,V.heap.size=g:=⟨_,rfl⟩
   have B2:Aside (Bl U gx 27 [.float .f64 0]/\Bl U ge 28 [.int .i64 0]/\An w U/\Fs U.heap.size U (some ⟨ga,0,none⟩) [x,y]/\gP U/\jH [x,y]):=by
    have zW:An w U:=by rw[hU];exact B1.o.r2.trans ((aC _ _).mono B1.o.r2.size)
    refine⟨by rw[hU];exact B1.o.1.alloc _,by rw[hU];exact B1.o.2.1.alloc _,zW,by rw[hU,<-hga];exact Ed V x y,HX.o.r2.belows zW,?_⟩;intro q hq;simp at hq;rcases hq with rfl|rfl
    . exact HX.o.1
    . exact HX.o.2.1
   have HP:=hid (plain13 [x,y] (some ⟨ga,0,none⟩) 2 2 U rfl B2.o.r3.1 B2.o.r5 aM);have HW2:=ak B2.o.r5;have HGN:Aside (ga≠ge):=by have:=B1.o.2.1.lt;rw[Aside,<-hga];omega
   obtain⟨ep,XY⟩:∃e,zX [x,y]=e:=⟨_,rfl⟩;obtain⟨⟨sn,su,sd,sm,sp,sa⟩,hs⟩:∃s,sS [x,y]=s:=⟨_,rfl⟩;unfold Uq at hz;rw[XY,hs] at HP hz;simp only[Sp.agg] at HP;have HV:=ak hV;have HU:=ak hU;have HGA:=ak hga;clear hV hU hga XY hs HA
   go_upto_region 3 with fail
   rw[<-HV.o];clear HV
   go_upto_region 5 with fail
   rw[<-HU.o,HGA.o];clear HU HGA;go_wp2_with fail;refine HP.o.mono ?_;rintro r v ⟨hr,hb⟩;have B3:Aside (Bl v gx 27 [.float .f64 0]/\Bl v ge 28 [.int .i64 0]/\An w v/\Fs v.heap.size v (some ⟨ga,0,none⟩) [x,y]/\ga≠ge):=⟨B2.o.1.below hb B2.o.1.lt,B2.o.2.1.below hb B2.o.2.1.lt,B2.o.r2.1.trans (hb.mono B2.o.r2.1.size),(B2.o.r3.1.below hb).mono hb.size,HGN.o⟩;have q1:=B3.o.2.1.cell 0 _ rfl;have q2:=B3.o.2.1.frozen 0;have hlt:=B3.o.2.1.lt;have BU:=ak (Uo B3.o.1 B3.o.2.1 B3.o.r2.1 HG.o.r3.1 HG.o.r4 HX.o.r2 B3.o.r3.1 (λb o p h=>by cases h;exact B3.o.r4));clear hb HP B2;rcases hr with ⟨he,rfl⟩|⟨he,rfl⟩
   . unfold XW;rw[if_neg he] at hz;have GU:=ak (jM hz);have h1:(ep==0)=false:=by simp[he]
     obtain⟨Z,hZ⟩:=ah ((v.setCell ⟨ge,0,none⟩ (.int .i64 ep)).alloc (Obj.cells #[.int .i64 0,.int .i64 0,.int .i64 0,.int .i64 0,.int .i64 0,.int .i64 0] 72));have B4:=ak (BU.o _ _ _ _ _ _ _ _ hZ);have r1:=B4.o.2.1.cell 0 _ rfl;have HZ:=ak hZ;clear hZ BU hz
     go_upto_region 6 with fail
     rw[<-HZ.o];clear HZ;go_wp2;refine Ec Tryz.results33 vN B4.o.1 B4.o.2.1 B4.o.r3.1 HG.o.r2.1 HG.o.r4 ((GN _).trans GU.o.1) GU.o.2 (by simp[go_sem]) ?_ ?_ <;> rfl
   . subst he;rw[if_pos rfl] at hz;obtain⟨Z,hZ⟩:=ah ((v.setCell ⟨ge,0,none⟩ (.int .i64 0)).alloc (Obj.cells #[.int .i64 sn,.int .i64 su,.int .i64 sd,.int .i64 sm,.int .i64 sp,.int .i64 sa] 72));have B4:=ak (BU.o _ _ _ _ _ _ _ _ hZ);obtain⟨gs,hgs⟩:∃g,v.heap.size=g:=⟨_,rfl⟩;rw[hgs] at B4;have r1:=B4.o.2.1.cell 0 _ rfl;have s0:=B4.o.r2.1.cell 0 _ rfl;have s1:=B4.o.r2.1.cell 1 _ rfl;have s2:=B4.o.r2.1.cell 2 _ rfl;have s3:=B4.o.r2.1.cell 3 _ rfl;have s4:=B4.o.r2.1.cell 4 _ rfl;have s5:=B4.o.r2.1.cell 5 _ rfl;obtain⟨⟨xl,el⟩,hl⟩:∃z,mU [x,y] ⟨sn,su,sd,sm,sp,sa⟩ mode=z:=⟨_,rfl⟩;rw[hl] at hz;have hz1:(ED el xl,el)=(X,E):=hz;obtain⟨hX,hE⟩:=jM hz1;have HL:=hid (XP [x,y] (some ⟨ga,0,none⟩) 2 2 sn su sd sm sp sa mode Z rfl B4.o.r5 HW2.o B4.o.r4.1 aM (xl,el) hl);simp only at HL;have GU:=bA hX hE;have HZ:=ak hZ;have Zl:=ak hgs;clear hZ BU hz hz1 hX hE hl hgs
     go_upto_region 6 with fail
     rw[<-HZ.o,Zl.o];clear HZ Zl q1 q2 hlt;go_wp2_with fail;refine HL.o.mono ?_;rintro r v4 ⟨rfl,hb⟩
     have B6:Aside (Bl v4 gx 27 [.float .f64 0]/\Bl v4 ge 28 [.int .i64 0]/\An w v4) :=
      ⟨B4.o.1.below hb B4.o.1.lt,B4.o.2.1.below hb B4.o.2.1.lt,B4.o.r3.1.trans (hb.mono B4.o.r3.1.size)⟩
     have t1:=B6.o.1.cell 0 _ rfl;have t2:=B6.o.1.frozen 0;have t3:=B6.o.2.1.cell 0 _ rfl;have t4:=B6.o.2.1.frozen 0;have hne1:ge≠gx:=HG.o.r4;have hne2:gx≠ge:=λh=>HG.o.r4 h.symm;clear hb B4 HL s0 s1 s2 s3 s4 s5;go_wp2;refine Un Tryz.results33 vN B6.o.1 B6.o.2.1 B6.o.r2 HG.o.r2.1 HG.o.r3.1 HG.o.r4 GU.o.1 GU.o.2 (λ_=>by simp[go_sem]) ?_ ?_ <;> rfl
 . rw[if_neg h0] at hz;have GU:=ak (jM hz);have h1:(ea==0)=false:=by simp[h0]
   clear hz HA;go_wp2;refine Ec Tryz.results33 vN B1.o.1 B1.o.2.1 B1.o.r2 HG.o.r2.1 HG.o.r4 ((GN _).trans GU.o.1) GU.o.2 (by simp[go_sem]) ?_ ?_ <;> rfl
end
section
open Go.RowKit J
theorem vO{P:Program}{c:Code}{K:Act->World->Prop}{Q:Exit->Act->World->Prop}{a:Act}{w:World}(h:c.wp P (Exit.then K (λ_ _ _=>False)) a w):c.wp P (Exit.then K Q) a w :=
 wp_mono h (λe a w h=>by cases e <;> first | exact h | exact False.elim h)
theorem Ee (x:Nat) (n:Int) (o p q:Option (Bool×Nat×Int)) (Fo:Fm o) (Fp:Fm p) (Fq:Fm q) (w:World) (hT:gP w)
 (HO:Hid (∀u:World,gP u->As 78 #[.float .f64 x] u λr w'=>(∃v,r=.returned (.tuple #[.agg #[.bool (dN o),v,.int .i64 (dE o)],.int .i64 0])/\Nt u.heap.size w' v (dX o))/\An u w'))
 (HI:Hid (∀u:World,gP u->As 57 #[.int .i64 n] u λr w'=>(∃v,r=.returned (.agg #[.bool (dN p),v,.int .i64 (dE p)])/\Nt u.heap.size w' v (dX p))/\An u w'))
 (HM:Hid (∀(u:World) (a b:Option Addr) (c d:Nat),gP u->Nt 0 u (.slice a (ws (dX o)).length c) (dX o)->Nt 0 u (.slice b (ws (dX p)).length d) (dX p)->As 79 #[.agg #[.bool (dN o),.slice a (ws (dX o)).length c,.int .i64 (dE o)],.agg #[.bool (dN p),.slice b (ws (dX p)).length d,.int .i64 (dE p)]] u λr w'=>(∃v,r=.returned (.tuple #[.agg #[.bool (dN q),v,.int .i64 (dE q)],.int .i64 0])/\Nt u.heap.size w' v (dX q))/\An u w')) :
 As 50 #[.float .f64 x,.int .i64 n] w λr w'=>Ju 0 w' r q/\An w w':=by
 have FF:=(iN Fo Fp Fq hT);clear Fo Fp Fq hT;obtain⟨W0,hW0⟩:=ah (w.alloc (Obj.cells zD3 79))
 have H0:Aside (Lo W0 w.heap.size GA/\An w W0):=by
  subst hW0;exact⟨Lo.zero w,af _ _⟩
 have HW:=ak hW0;have C:=hid (HO.o W0 (FF.o.r3.belows H0.o.2));clear hW0;go_enter Tryz.func50,Tryz.ntmps50
 go_upto_region 1 with fail
 rw[<-HW.o];clear HW;go_wp2_with fail;refine C.o.mono ?_;rintro r v0 ⟨⟨s0,rfl,hN⟩,hb⟩;obtain⟨a0,c0,rfl,hN0⟩:=Lo.shape FF.o.1 hN;obtain⟨V,hV⟩:=ah (v0.alloc (Obj.cells #[.bool (dN o),.slice a0 (ws (dX o)).length c0,.int .i64 (dE o)] 79));obtain⟨gd,hgd⟩:=ah (v0.heap.size)
 have H1:Aside (Lo V w.heap.size GA/\An w V/\Dk V gd (dN o) (.slice a0 (ws (dX o)).length c0) (dE o)/\Nt 0 V (.slice a0 (ws (dX o)).length c0) (dX o)):=by
  subst hV hgd;have hbv:=H0.o.2.trans (hb.mono H0.o.2.size);exact⟨(H0.o.1.below hb).below (af _ _),hbv.trans ((af _ _).mono hbv.size),Dk.new _ _ _ _,hN0.below (af _ _)⟩
 have HV:=(bA hV hgd);clear C H0 hb hN hN0 hV hgd
 go_upto_region 2 with fail
 rw[<-HV.o.1,<-HV.o.2];clear HV
 go_cut [7,8] from 14 to 20 (λpv ev wx=>∃g7,pv=.pointer (some ⟨g7,0,none⟩)/\ev=.int .i64 0/\Aside (Lo wx g7 q/\Lo wx w.heap.size GA/\An w wx))
 case first =>
  have hdr:=(aD V.heap.size V).drew;have BB:=iN (H1.o.1.below hdr) (H1.o.2.1.trans (hdr.mono H1.o.2.1.size)) (H1.o.r2.1.below hdr) (H1.o.r3.below hdr);clear hdr H1;obtain⟨p0,p1,p2,f0,f1,f2⟩:=BB.o.r2.1.facts;have hlt0:gd<V.heap.size:=BB.o.r2.1.lt;have q0:V.cell? ⟨gd,0,none⟩=some (.bool (dN o)):=p0;have q1:V.cell? ⟨gd,1,none⟩=some (.slice a0 (ws (dX o)).length c0):=p1;have q2:V.cell? ⟨gd,2,none⟩=some (.int .i64 (dE o)):=p2;have hne0:gd≠V.heap.size:=ae
  refine vO ?_
  go_region_with (first
   | (go_at_call 57
      first
      | (with_reducible refine(HI.o _ (FF.o.r3.belows BB.o.2.1)).mono ?_
         rintro r v ⟨⟨p,rfl,hN⟩,hb⟩;obtain⟨a2,c2,rfl,hN0⟩:=Lo.shape FF.o.2.1 hN;have BB:=iN (BB.o.1.below hb) (BB.o.2.1.trans (hb.mono BB.o.2.1.size)) (BB.o.r2.1.below hb) (BB.o.r3.below hb);have Q2:=ak hN0;obtain⟨p0,p1,p2,f0,f1,f2⟩:=BB.o.r2.1.facts;have hlt:=BB.o.r2.1.lt;have hne:=iR hlt
         clear hb hN hN0)
      | (have G7l:=ak BB.o.1.lt
         have BB:=iN (BB.o.1.below (af _ (Obj.cells zD3 79))) (BB.o.2.1.trans ((af _ (Obj.cells zD3 79)).mono BB.o.2.1.size)) (BB.o.r2.1.below (af _ (Obj.cells zD3 79))) (BB.o.r3.below (af _ (Obj.cells zD3 79)));refine(HI.o _ (FF.o.r3.belows BB.o.2.1)).mono ?_;rintro r v ⟨⟨p,rfl,hN⟩,hb⟩;obtain⟨a2,c2,rfl,hN0⟩:=Lo.shape FF.o.2.1 hN;have G7:=ak ((Lo.zero _).below hb);have BB:=iN (BB.o.1.below hb) (BB.o.2.1.trans (hb.mono BB.o.2.1.size)) (BB.o.r2.1.below hb) (BB.o.r3.below hb);have Q2:=ak hN0;obtain⟨p0,p1,p2,f0,f1,f2⟩:=BB.o.r2.1.facts;have hlt:=BB.o.r2.1.lt;have hne:=iR hlt
         clear hb hN hN0))
   | (go_at_call 79
      first
      | (with_reducible refine(HM.o _ a0 a2 c0 c2 (FF.o.r3.belows BB.o.2.1) BB.o.r3 Q2.o).mono ?_
         rintro r v ⟨⟨p,rfl,hN⟩,hb⟩;obtain⟨a3,c3,rfl,hN0⟩:=Lo.shape FF.o.r2.1 hN
         try (have G7:=ak (G7.o.below hb);obtain⟨e1,e2,D7,e3⟩:=G7.o;obtain⟨y0,y1,y2,z0,z1,z2⟩:=D7.facts;try dsimp only[World.drew] at y0 y1 y2 z0 z1 z2;clear D7 e3)
         have BB:=gp (BB.o.1.below hb) (BB.o.2.1.trans (hb.mono BB.o.2.1.size)) hN0
         clear hb hN hN0 p0 p1 p2 f0 f1 f2)
      | (have G7l:=ak BB.o.1.lt
         have BB:=iN (BB.o.1.below (af _ (Obj.cells zD3 79))) (BB.o.2.1.trans ((af _ (Obj.cells zD3 79)).mono BB.o.2.1.size)) (BB.o.r2.1.below (af _ (Obj.cells zD3 79))) (BB.o.r3.below (af _ (Obj.cells zD3 79)));have Q2:=ak (Q2.o.below (af _ (Obj.cells zD3 79)));refine(HM.o _ a0 a2 c0 c2 (FF.o.r3.belows BB.o.2.1) BB.o.r3 Q2.o).mono ?_;rintro r v ⟨⟨p,rfl,hN⟩,hb⟩;obtain⟨a3,c3,rfl,hN0⟩:=Lo.shape FF.o.r2.1 hN;have G7:=ak ((Lo.zero _).below hb);obtain⟨e1,e2,D7,e3⟩:=G7.o;obtain⟨y0,y1,y2,z0,z1,z2⟩:=D7.facts
         try dsimp only[World.drew] at y0 y1 y2 z0 z1 z2
         clear D7 e3;have BB:=gp (BB.o.1.below hb) (BB.o.2.1.trans (hb.mono BB.o.2.1.size)) hN0
         clear hb hN hN0 p0 p1 p2 f0 f1 f2)))
  all_goals
   go_wp2_with fail
   go_meet
   case rel=>first
    | exact⟨_,rfl,rfl,Lo.new BB.o.r2,BB.o.1.below (af _ _),BB.o.2.1.trans ((af _ _).mono BB.o.2.1.size)⟩
    | exact⟨_,rfl,rfl,G7.o.set BB.o.r2,BB.o.1.other G7.o (iR G7l.o) _ _ _,jU BB.o.2.1 BB.o.2.1.size (fU G7l.o) _ _ _⟩
 clear H1;obtain⟨g7,rfl,rfl,HA⟩:=hcut;obtain⟨W2,hW⟩:=ah wc;subst hW;obtain⟨⟨a3,c3,D3,N3⟩,⟨a4,c4,D4,N4⟩,hb⟩:=HA.o;obtain⟨p0,p1,p2,f0,f1,f2⟩:=D3.facts;obtain⟨y0,y1,y2,z0,z1,z2⟩:=D4.facts;have HN:=(bA N3 hb);clear D3 N3 D4 N4 hb;go_wp2;exact end14 Tryz.results50 rfl HA.o.2.1 HN.o.2 (aA _) HN.o.1
end
section
open Go.ChangeShapes Go.WideShapes Go.ChangeAt Go.RowKit
theorem trodF{H:Type}{enc:TypeId×Value->H}{P:Program}{w:World}{base:Nat}{spare:Nat->Bool}{held:Bool}{fuel:Nat}{t:TypeId}{cs:List Value}{x:DataW H×List MemPlace}{k:FloatKind}(ht:P.underlying t=some (.float k))(h:DataW.trod enc P w base spare held fuel t cs=some x):∃n,cs=[.float k n]/\x=(.lit (.float k n),[])/\(Lit.float k n).wf=true:=by
 cases fuel with
 | zero=>simp[DataW.trod] at h
 | succ m =>
   simp only[DataW.trod,ht] at h
   split at h <;> simp_all
structure Zm (w:World) (a:Option Addr) (n c:Nat) (xs:List Nat):Prop where
 len:n=xs.length
 cap:n<=c
 wf:jH xs
 rd:Fs w.heap.size w a xs
 nil:a=none->c=0
theorem PM(b off i:Nat):(⟨b,off,none⟩:Addr).add i=⟨b,off+i,none⟩:=by unfold Addr.add;split <;> simp_all
def XZ{H:Type}(y:DataW H×List MemPlace):Nat:=match y.1 with | .lit (.float _ n)=>n | _=>0
theorem Tryz.cellsF:Tryz.prog.cellsOf 27=1:=by kernel_rfl
theorem Tryz.bytesF:Tryz.prog.bytesOf 27=8:=by kernel_rfl
theorem Us{H:Type}{enc:TypeId×Value->H}{W:World}{a:Option Addr}{n c:Nat}{d:DataW H}{p:List MemPlace}(h:DataW.Trod enc Tryz.prog W 0 (λ_=>true) true 22 (.slice a n c) d p) :
 ∃xs,Zm W a n c xs/\((d=.nil/\c=0)\/∃elems spare:List (DataW H),d=.slice elems spare/\elems.length+spare.length=c):=by
 obtain⟨fuel,hf⟩:=h;rcases DataW.trod_slice Tryz.underlying22 hf with ⟨hcs,hx⟩|⟨x,l,cp,elems,rest,m,_,hcs,hx,hb,hl,hm,hlen,hel,hsp,hns⟩
 . simp[Value.cells] at hcs;obtain⟨rfl,rfl,rfl⟩:=hcs;exact⟨[],⟨rfl,aA _,(λx hx=>by cases hx),(λh=>absurd rfl h),λ_=>rfl⟩,.inl ⟨(jM hx).1,rfl⟩⟩
 . simp[Value.cells] at hcs;obtain⟨rfl,rfl,rfl⟩:=hcs
   have each:∀i y,i<n->elems[i]?=some y->y=(.lit (.float .f64 (XZ y)),[])/\(Lit.float .f64 (XZ y)).wf=true/\W.cell? (x.add i)=some (.float .f64 (XZ y)):=by
    intro i y hi hy;have hb':=hel i hi;rw[hy,Tryz.cellsF,eQ,Option.bind_eq_some_iff] at hb';obtain⟨cs',hcs,hy'⟩:=hb';obtain⟨k,rfl,rfl,hw⟩:=trodF Tryz.underlying27 hy';exact⟨rfl,hw,cell_of_cells?_one hcs⟩
   refine⟨elems.map XZ,⟨by simp[hlen],hl,?_,?_,λe=>by cases e⟩,.inr ⟨_,_,(jM hx).1,?_⟩⟩
   . intro y hy;obtain⟨z,hz,rfl⟩:=rE.1 hy;obtain⟨i,hi⟩:=List.getElem?_of_mem hz;have hil:=(iD.1 hi).1;have:=(each i z ae hi).2.1;exact of_decide_eq_true this
   . intro hne;obtain⟨b,off,spot⟩:=x
     have hn0:0<n:=by
      rcases kG n with h0|h0
      . rw[h0] at hlen;have:=rF hlen;subst this;simp at hne
      . exact h0
     have hc0:=(each 0 (elems[0]'(by omega)) hn0 (aY _)).2.2;have hspot:spot=none:=by simpa [Addr.add] using World.cell?_spot hc0
     subst hspot;refine⟨b,off,qZ W _ (by simpa [Addr.add] using hc0),rfl,λi hi=>?_⟩;rw[mZ] at hi;have hadd:=PM b off i;have:=(each i (elems[i]'hi) ae (aY _)).2.2;rw[hadd] at this;rw[this];simp[bF,hi]
   . have hr:=(hsp rfl).1;simp only[mZ];omega
theorem GV {H:Type}{ts:List TypeId}{ds:List (DataW H)}(h:(DataW.weightsEach Tryz.prog ts ds).all (·<=reachBytes)=true) {j:Nat}{d:DataW H}{c n:Nat}(ht:ts[j]?=some 22) (hd:ds[j]?=some d) (hn:n<=c)
 (hc:(d=.nil/\c=0)\/∃elems spare:List (DataW H),d=.slice elems spare/\elems.length+spare.length=c):n<=17592186043904:=by
 rcases hc with ⟨_,rfl⟩|⟨elems,spare,rfl,hl⟩
 . omega
 . have:=sized_slice h ht hd Tryz.underlying22;rw[Tryz.bytesF,hl] at this;simp only[reachBytes] at this;omega
end
section
def sw(L:List Nat)(i j:Nat):List Nat:=(L.set i (L.getD j 0)).set j (L.getD i 0)
theorem Ut(L:List Nat)(i j:Nat):(sw L i j).length=L.length:=by unfold sw;simp
theorem vP{L:List Nat}{i j:Nat}(hi:i<L.length)(hj:j<L.length)(k:Nat):(sw L i j).getD k 0=if k=j then L.getD i 0 else if k=i then L.getD j 0 else L.getD k 0:=by
 unfold sw;simp only[bF,xV,CF]
 by_cases h1:k=j
 . subst h1;simp[hj]
 . rw[if_neg (λh=>h1 h.symm),if_neg h1]
   by_cases h2:k=i
   . subst h2;simp[hi]
   . rw[if_neg (λh=>h2 h.symm),if_neg h2]
theorem X0{L:List Nat}{i j:Nat}(hi:i<L.length)(hj:j<L.length):(sw L i j).Perm L:=by
 unfold sw;have e1:L.getD i 0=L[i]:=by rw[bF,aY hi];rfl
 have e2:L.getD j 0=L[j]:=by rw[bF,aY hj];rfl
 rw[e1,e2];exact List.set_set_perm hi hj
structure Pm (a b:Nat) (L L':List Nat):Prop where
 len:L'.length=L.length
 perm:L'.Perm L
 o:∀k,k<a\/b<=k->L'.getD k 0=L.getD k 0
 X4:∀k,a<=k->k<b->∃j,a<=j/\j<b/\L'.getD k 0=L.getD j 0
theorem Pm.refl(a b:Nat)(L:List Nat):Pm a b L L:=⟨rfl,List.Perm.refl _,λ_ _=>rfl,λk h1 h2=>⟨k,h1,h2,rfl⟩⟩
theorem Pm.trans{a b:Nat}{L M N:List Nat}(h:Pm a b L M)(g:Pm a b M N):Pm a b L N :=
 ⟨g.len.trans h.len,g.perm.trans h.perm,λk hk=>(g.o k hk).trans (h.o k hk),λk h1 h2=>by
  obtain⟨j,j1,j2,j3⟩:=g.X4 k h1 h2;obtain⟨i,i1,i2,i3⟩:=h.X4 j j1 j2
  exact⟨i,i1,i2,j3.trans i3⟩⟩
theorem Pm.mono{a b c d:Nat}{L M:List Nat}(h:Pm a b L M)(h1:c<=a)(h2:b<=d):Pm c d L M :=
 ⟨h.len,h.perm,λk hk=>h.o k ae,λk k1 k2=>by
  by_cases q:a<=k/\k<b
  . obtain⟨j,j1,j2,j3⟩:=h.X4 k q.1 q.2;exact⟨j,ae,ae,j3⟩
  . exact⟨k,k1,k2,h.o k ae⟩⟩
theorem Pm.swap{a b i j:Nat}{L:List Nat}(hb:b<=L.length)(i1:a<=i)(i2:i<b)(j1:a<=j)(j2:j<b):Pm a b L (sw L i j):=by
 refine⟨Ut _ _ _,X0 ae ae,λk hk=>?_,λk k1 k2=>?_⟩
 . rw[vP ae ae,if_neg ae,if_neg ae]
 . rw[vP ae ae]
   by_cases h1:k=j
   . rw[if_pos h1];exact⟨i,i1,i2,rfl⟩
   . rw[if_neg h1]
     by_cases h2:k=i
     . rw[if_pos h2];exact⟨j,j1,j2,rfl⟩
     . rw[if_neg h2];exact⟨k,k1,k2,rfl⟩
def ky(K:Nat->Nat)(L:List Nat)(k:Nat):Nat:=K (L.getD k 0)
def Up(K:Nat->Nat)(a b:Nat)(L:List Nat):Prop:=∀i j,a<=i->i<j->j<b->ky K L i<=ky K L j
structure Ins (K:Nat->Nat) (a i j:Nat) (L:List Nat):Prop where
 aj:a<=j
 ji:j<=i
 up:∀x y,a<=x->x<y->y<=i->x≠j->y≠j->ky K L x<=ky K L y
 hi:∀y,j<y->y<=i->ky K L j<=ky K L y
theorem Ins.start{K:Nat->Nat}{a i:Nat}{L:List Nat}(h:Up K a i L)(ha:a<=i):Ins K a i i L :=
 ⟨ha,aA _,λx y h1 h2 h3 h4 h5=>h x y h1 h2 ae,λy h1 h2=>absurd h1 ae⟩
theorem Ins.step{K:Nat->Nat}{a i j:Nat}{L:List Nat}(h:Ins K a i j L)(hl:i<L.length)(hj:a<j)(hlt:ky K L j<ky K L (j-1)):Ins K a i (j-1) (sw L j (j-1)):=by
 have:=h.ji
 have g:∀k,ky K (sw L j (j-1)) k=if k=j-1 then ky K L j else if k=j then ky K L (j-1) else ky K L k:=λk=>by
  unfold ky;rw[vP ae ae]
  split
  . rfl
  . split <;> rfl
 refine⟨ae,ae,λx y h1 h2 h3 h4 h5=>?_,λy h1 h2=>?_⟩
 . rw[g,g,if_neg h4,if_neg h5]
   by_cases q1:x=j
   . rw[if_pos q1,if_neg ae];exact h.up (j-1) y ae ae h3 ae ae
   . rw[if_neg q1]
     by_cases q2:y=j
     . rw[if_pos q2];exact h.up x (j-1) h1 ae ae q1 ae
     . rw[if_neg q2];exact h.up x y h1 h2 h3 q1 q2
 . rw[g,g,if_pos rfl,if_neg ae]
   by_cases q:y=j
   . rw[if_pos q];omega
   . rw[if_neg q];exact h.hi y ae h2
theorem Ins.done{K:Nat->Nat}{a i j:Nat}{L:List Nat}(h:Ins K a i j L)(hs:j=a\/ky K L (j-1)<=ky K L j):Up K a (i+1) L:=by
 intro x y h1 h2 h3;have:=h.aj
 by_cases q1:x=j
 . rw[q1];exact h.hi y ae ae
 . by_cases q2:y=j
   . rw[q2];rcases hs with e|e
     . omega
     . by_cases q3:x=j-1
       . rw[q3];exact e
       . have:=h.up x (j-1) h1 ae (by have:=h.ji;omega) q1 ae;omega
   . exact h.up x y h1 h2 ae q1 q2
def Hp(K:Nat->Nat)(f lo hi:Nat)(L:List Nat):Prop:=∀c,0<c->c<hi->lo<=(c-1)/2->ky K L (f+c)<=ky K L (f+(c-1)/2)
structure Sf (K:Nat->Nat) (f lo hi r:Nat) (L:List Nat):Prop where
 ge:lo<=r
 hp:∀c,0<c->c<hi->lo<=(c-1)/2->(c-1)/2≠r->ky K L (f+c)<=ky K L (f+(c-1)/2)
 pr:0<r->lo<=(r-1)/2->∀c,0<c->c<hi->(c-1)/2=r->ky K L (f+c)<=ky K L (f+(r-1)/2)
theorem Sf.start{K:Nat->Nat}{f lo hi:Nat}{L:List Nat}(h:Hp K f (lo+1) hi L):Sf K f lo hi lo L :=
 ⟨aA _,λc h1 h2 h3 h4=>h c h1 h2 ae,λh1 h2=>by omega⟩
theorem Sf.done{K:Nat->Nat}{f lo hi r:Nat}{L:List Nat}(h:Sf K f lo hi r L)(hs:∀c,0<c->c<hi->(c-1)/2=r->ky K L (f+c)<=ky K L (f+r)):Hp K f lo hi L:=by
 intro c h1 h2 h3
 by_cases q:(c-1)/2=r
 . rw[q];exact hs c h1 h2 q
 . exact h.hp c h1 h2 h3 q
theorem Sf.step{K:Nat->Nat}{f lo hi r d:Nat}{L:List Nat}(h:Sf K f lo hi r L)(hl:f+hi<=L.length)(hd:d=2*r+1\/d=2*r+2)(hdh:d<hi)(hlt:ky K L (f+r)<ky K L (f+d))(hmax:∀c,0<c->c<hi->(c-1)/2=r->ky K L (f+c)<=ky K L (f+d)):Sf K f lo hi d (sw L (f+r) (f+d)):=by
 have g:∀k,ky K (sw L (f+r) (f+d)) (f+k)=if k=d then ky K L (f+r) else if k=r then ky K L (f+d) else ky K L (f+k):=λk=>by
  unfold ky;rw[vP ae ae]
  by_cases q:k=d
  . rw[if_pos ae,if_pos q]
  . rw[if_neg ae,if_neg q]
    by_cases q2:k=r
    . rw[if_pos ae,if_pos q2]
    . rw[if_neg ae,if_neg q2]
 have hge:=h.ge;refine⟨ae,λc h1 h2 h3 h4=>?_,λh1 h2 c c1 c2 c3=>?_⟩
 . rw[g,g,if_neg h4]
   by_cases q1:c=d
   . rw[if_pos q1,if_pos ae];omega
   . rw[if_neg q1]
     by_cases q2:c=r
     . rw[if_pos q2,if_neg ae];have:=h.pr ae ae d ae hdh ae;rw[q2];exact this
     . rw[if_neg q2]
       by_cases q3:(c-1)/2=r
       . rw[if_pos q3];exact hmax c h1 h2 q3
       . rw[if_neg q3];exact h.hp c h1 h2 h3 q3
 . rw[g,g,if_neg ae,if_neg ae,if_neg ae,if_pos ae];have:=h.hp c c1 c2 ae ae;rw[c3] at this;exact this
theorem Hp.top{K:Nat->Nat}{f hi:Nat}{L:List Nat}(h:Hp K f 0 hi L):∀c,c<hi->ky K L (f+c)<=ky K L f:=by
 intro c
 induction c using Nat.strongRecOn with
 | _ c ih =>
   intro hc
   by_cases q:c=0
   . rw[q];exact aA _
   . have h1:=h c ae hc (lD _);have h2:=ih ((c-1)/2) ae ae;omega
end
section
open Go.RowKit J
def X5(n:Nat):Value:=.int .i64 (n:Nat)
def df(w:World)(g:Nat)(L:List Nat):Prop:=w.heap[g]?=some (.cells (L.map X5).toArray 3 (0,0))
theorem df.lt{w:World}{g:Nat}{L:List Nat}(h:df w g L):g<w.heap.size:=(dQ.1 h).1
theorem df.cell{w:World}{g:Nat}{L:List Nat}(h:df w g L)(i:Nat)(hi:i<L.length):w.cell? ⟨g,i,none⟩=some (.int .i64 ((L.getD i 0:Nat):Int)):=by
 unfold df at h;simp[World.cell?,h,X5,hi]
theorem df.frozen{w:World}{g:Nat}{L:List Nat}(h:df w g L)(i:Nat):w.frozen? ⟨g,i,none⟩=false:=by
 unfold df at h;simp[World.frozen?,h]
theorem df.set{w:World}{g:Nat}{L:List Nat}(h:df w g L)(i x:Nat):df (w.setCell ⟨g,i,none⟩ (.int .i64 (x:Nat))) g (L.set i x):=by
 unfold df at h |-;simp only[World.setCell,gz,h];simp[X5,sO]
theorem df.below{w w':World}{g B:Nat}{L:List Nat}(h:df w g L)(hb:Below B w w')(hg:g<B):df w' g L:=by
 unfold df at h |-;rw[hb.block g hg];exact h
theorem df.sw{w:World}{g:Nat}{L:List Nat}(h:df w g L)(i j:Nat):df ((w.setCell ⟨g,i,none⟩ (.int .i64 (L.getD j 0:Nat))).setCell ⟨g,j,none⟩ (.int .i64 (L.getD i 0:Nat))) g (sw L i j):=(h.set i _).set j _
theorem But.bR{g:Nat}{a w w':World}(h:But g a w)(hb:An w w'):But g a w':=h.trans ⟨hb.os,hb.tape,hb.output,hb.size,λk hk _=>hb.block k hk⟩
def iX(K:Nat->Nat)(n g:Nat)(recv:Value)(w:World):Prop:=∀(u:World) (x y:Nat),But g w u->x<n->y<n->∃c:Int,(c<0↔K x<K y)/\At 59 #[recv,.int .i64 (x:Nat),.int .i64 (y:Nat)] u (.int .i64 c)
end
end Go.Proofs.YtjppdacikihpdaaGreatDoor
