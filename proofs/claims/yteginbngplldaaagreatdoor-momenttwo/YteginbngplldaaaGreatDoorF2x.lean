import Derived.Test.YteginbngplldaaaGreatDoorMO6x
import Derived.Deep.RegionWith
import Derived.Deep.Cut
import Derived.Test.YteginbngplldaaaGreatDoorZ22x
import Derived.Test.YteginbngplldaaaGreatDoorD39x
import Derived.Test.YteginbngplldaaaGreatDoorW40x
import Derived.BigQuiet
import Derived.Test.YteginbngplldaaaGreatDoorD32cx
import Derived.OwnWalk
import Derived.ArgAppend
import Derived.Maps.AppendAt
import Derived.WalkMore
import Derived.Test.YteginbngplldaaaGreatDoorM1x
import Derived.Test.YteginbngplldaaaGreatDoorW17x
import Derived.Test.YteginbngplldaaaGreatDoorD2x
set_option linter.unusedVariables false
set_option linter.unusedSimpArgs false
set_option maxHeartbeats 16000000
set_option maxRecDepth 20000
namespace Go.Proofs.YteginbngplldaaaGreatDoor
namespace J
end J
namespace Ps
open Go.RowKit
open Go.Proofs.YteginbngplldaaaGreatDoor.B (bB aF bw)
attribute [local go_sem] bB aF
theorem P7(b:Nat):kd b<=5:=by unfold kd;(repeat' split) <;> omega
open Go.RowKit
open Go.Proofs.YteginbngplldaaaGreatDoor.B (bB aF bw aO)
attribute [local go_sem] bB aF
def cn(k:Nat)(xs:List Nat):Nat:=xs.countP (fun x=>kd x==k)
theorem Mg(k:Nat)(xs ys:List Nat):cn k (xs++ys)=cn k xs+cn k ys:=by simp[cn,List.countP_append]
def one(k x:Nat):Nat:=if kd x=k then 1 else 0
theorem Xq(k x:Nat):cn k [x]=one k x:=by unfold cn one;by_cases h:kd x=k <;> simp[h]
theorem qL(xs:List Nat)(i:Nat)(h:i<xs.length):xs.take (i+1)=xs.take i++[xs.getD i 0]:=by
 rw[EM h,fP,jb h];rfl
theorem rY(k:Nat)(xs:List Nat)(i:Nat)(h:i<xs.length):cn k (xs.take (i+1))=cn k (xs.take i)+one k (xs.getD i 0):=by
 rw[qL xs i h,Mg,Xq]
theorem Zv(k:Nat)(xs:List Nat):cn k xs<=xs.length:=List.countP_le_length
def kJ(w:World)(g:Nat)(n u d m p a:Int):Prop:=w.heap[g]?=some (.cells #[.int .i64 n,.int .i64 u,.int .i64 d,.int .i64 m,.int .i64 p,.int .i64 a] 99 (0,0))
theorem kJ.lt{w:World}{g:Nat}{n u d m p a:Int}(h:kJ w g n u d m p a):g<w.heap.size:=(fV.1 h).1
theorem kJ.c0{w:World}{g:Nat}{n u d m p a:Int}(h:kJ w g n u d m p a):w.cell? ⟨g,0,none⟩=some (.int .i64 n):=by unfold kJ at h;simp[World.cell?,h]
theorem kJ.c1{w:World}{g:Nat}{n u d m p a:Int}(h:kJ w g n u d m p a):w.cell? ⟨g,1,none⟩=some (.int .i64 u):=by unfold kJ at h;simp[World.cell?,h]
theorem kJ.c2{w:World}{g:Nat}{n u d m p a:Int}(h:kJ w g n u d m p a):w.cell? ⟨g,2,none⟩=some (.int .i64 d):=by unfold kJ at h;simp[World.cell?,h]
theorem kJ.c3{w:World}{g:Nat}{n u d m p a:Int}(h:kJ w g n u d m p a):w.cell? ⟨g,3,none⟩=some (.int .i64 m):=by unfold kJ at h;simp[World.cell?,h]
theorem kJ.c4{w:World}{g:Nat}{n u d m p a:Int}(h:kJ w g n u d m p a):w.cell? ⟨g,4,none⟩=some (.int .i64 p):=by unfold kJ at h;simp[World.cell?,h]
theorem kJ.c5{w:World}{g:Nat}{n u d m p a:Int}(h:kJ w g n u d m p a):w.cell? ⟨g,5,none⟩=some (.int .i64 a):=by unfold kJ at h;simp[World.cell?,h]
theorem kJ.frozen{w:World}{g:Nat}{n u d m p a:Int}(h:kJ w g n u d m p a)(i:Nat):w.frozen? ⟨g,i,none⟩=false:=by unfold kJ at h;simp[World.frozen?,h]
theorem kJ.below{w w':World}{g B:Nat}{n u d m p a:Int}(h:kJ w g n u d m p a)(hb:Below B w w')(hg:g<B):kJ w' g n u d m p a:=by
 unfold kJ at h |-;rw[hb.block g hg];exact h
theorem qs{P:Prop}(h:P:=by
 go_end0
 refine⟨rfl,?_,(But.refl _ _).set _ _⟩;have h:=HB.o;unfold kJ at h |-;simp[World.setCell,kP,h]):P:=h
theorem Mh(k g:Nat)(n u d m p a:Int)(w:World)(hk:k<=5)(hB:kJ w g n u d m p a)(hn:0<=n/\n<=65536)(hu:0<=u/\u<=65536)(hd:0<=d/\d<=65536)(hm:0<=m/\m<=65536)(hp:0<=p/\p<=65536) :
 As 120 #[.pointer (some ⟨g,0,none⟩),.int .i64 (k:Nat)] w fun r w'=>r=.returned (.tuple #[]) /\
  kJ w' g (if k=0 then n+1 else n) (if k=1 then u+1 else u) (if k=2 then d+1 else d) (if k=3 then m+1 else m) (if k=4 then p+1 else p) a/\But g w w':=by
 have hc0:=hB.c0;have hc1:=hB.c1;have hc2:=hB.c2;have hc3:=hB.c3;have hc4:=hB.c4;have hf0:=hB.frozen 0;have hf1:=hB.frozen 1;have hf2:=hB.frozen 2;have hf3:=hB.frozen 3;have hf4:=hB.frozen 4;have HB:=ak hB;clear hB;obtain rfl|rfl|rfl|rfl|rfl|rfl:k=0\/k=1\/k=2\/k=3\/k=4\/k=5:=by omega
 · go_enter Tryz.func120,Tryz.ntmps120;go_wp2
   exact qs
 · go_enter Tryz.func120,Tryz.ntmps120;go_wp2
   exact qs
 · go_enter Tryz.func120,Tryz.ntmps120;go_wp2
   exact qs
 · go_enter Tryz.func120,Tryz.ntmps120;go_wp2
   exact qs
 · go_enter Tryz.func120,Tryz.ntmps120;go_wp2
   exact qs
 · go_enter Tryz.func120,Tryz.ntmps120;go_wp2
   go_end0
   exact⟨rfl,HB.o,But.refl _ _⟩
def rf(n u d a b:Int):Int:=if 0<n/\a=2 then 60 else if 0<u+d/\b=2 then 61 else 0
theorem qe{P:Prop}(h:P:=by
 by_cases h3:0<t
 · by_cases h4:b=2
   · rw[if_pos ⟨h3,h4⟩];subst h4;go_enter Tryz.func121,Tryz.ntmps121;go_wp2;go_ret;exact⟨rfl,below _ _⟩
   · have h4':(b==2)=false:=by rw[beq_eq_false_iff_ne];exact h4
     rw[if_neg (fun h=>h4 h.2)];go_enter Tryz.func121,Tryz.ntmps121;go_wp2;go_ret;exact⟨rfl,below _ _⟩
 · have h3':decide (0<t)=false:=decide_eq_false h3;rw[if_neg (fun h=>h3 h.1)];go_enter Tryz.func121,Tryz.ntmps121;go_wp2;go_ret;exact⟨rfl,below _ _⟩):P:=h
theorem D8(n u d m p l a b:Int)(w:World)(hu:0<=u/\u<=65536)(hd:0<=d/\d<=65536) :
 At 121 #[.agg #[.int .i64 n,.int .i64 u,.int .i64 d,.int .i64 m,.int .i64 p,.int .i64 l],.agg #[.int .i64 a,.int .i64 b]] w (.int .i64 (rf n u d a b)):=by
 have below:∀ o o',An w ((w.alloc o).alloc o'):=fun o o'=>((aB _ _).alloc (aA _) _).alloc (by simp) _;obtain⟨t,ht⟩:∃ t,u+d=t:=⟨_,rfl⟩;have ht2:-9223372036854775808<=t/\t<=9223372036854775807:=by omega
 unfold rf;rw[ht]
 by_cases h1:0<n
 · by_cases h2:a=2
   · rw[if_pos ⟨h1,h2⟩];subst h2;go_enter Tryz.func121,Tryz.ntmps121;go_wp2;go_ret;exact⟨rfl,below _ _⟩
   · have h2':(a==2)=false:=by rw[beq_eq_false_iff_ne];exact h2
     rw[if_neg (fun h=>h2 h.2)]
     exact qe
 · have h1':decide (0<n)=false:=decide_eq_false h1;rw[if_neg (fun h=>h1 h.1)]
   exact qe
open Go.RowKit
open Go.Proofs.YteginbngplldaaaGreatDoor.B (bB aF bw aO)
attribute [local go_sem] bB aF
theorem kJ.made(w:World)(n u d m p a:Int):kJ (w.alloc (.cells #[.int .i64 n,.int .i64 u,.int .i64 d,.int .i64 m,.int .i64 p,.int .i64 a] 99)) w.heap.size n u d m p a:=gZ w _
def TV(w:World)(g:Nat)(xs:List Nat)(a:Int):Prop:=kJ w g (cn 5 xs:Nat) (cn 3 xs:Nat) (cn 4 xs:Nat) (cn 1 xs:Nat) (cn 2 xs:Nat) a
theorem Vx(k:Nat)(xs:List Nat)(n:Nat)(h:xs.length<=n)(hn:n<=65536):0<=((cn k xs:Nat):Int)/\((cn k xs:Nat):Int)<=65536:=by have:=Zv k xs;omega
theorem But.TW{a w:World}{g:Nat}(h:But g a w)(u0 u1 u2 u3 u4 u5:Value) :
 But g a ((((((w.setCell ⟨g,0,none⟩ u0).setCell ⟨g,1,none⟩ u1).setCell ⟨g,2,none⟩ u2).setCell ⟨g,3,none⟩ u3).setCell ⟨g,4,none⟩ u4).setCell ⟨g,5,none⟩ u5) :=
 ((((((h.set 0 u0).set 1 u1).set 2 u2).set 3 u3).set 4 u4).set 5 u5)
theorem cset{w:World}{b o:Nat}{u:Value}(h:w.cell? ⟨b,o,none⟩=some u)(v:Value):(w.setCell ⟨b,o,none⟩ v).cell? ⟨b,o,none⟩=some v:=by
 simp only[World.cell?] at h |-;simp only[World.setCell,kP]
 cases hb:w.heap[b]? with
 | none=>rw[hb] at h;simp at h
 | some ob =>
   rw[hb] at h
   cases ob <;> simp_all
   rename_i cs _ _
   by_cases hl:o<cs.size
   · simp[hl]
   · rw[Array.getElem?_eq_none (by omega)] at h;cases h
theorem Ji(w:World)(b o:Nat)(v:Value):(w.setCell ⟨b,o,none⟩ v).cell? ⟨b,o,none⟩=(w.cell? ⟨b,o,none⟩).map (fun _=>v):=by
 cases h:w.cell? ⟨b,o,none⟩ with
 | some u=>rw[cset h v];rfl
 | none =>
   simp only[World.cell?] at h |-;simp only[World.setCell,kP]
   cases hb:w.heap[b]? with
   | none=>simp
   | some ob =>
     rw[hb] at h
     cases ob <;> simp_all
open Go.RowKit
open Go.Proofs.YteginbngplldaaaGreatDoor.B (bB aF bw aO)
attribute [local go_sem] bB aF
def fin(xs:List Nat):List Nat:=xs.filter (fun x=>decide (kd x<=2))
theorem xK(xs ys:List Nat):fin (xs++ys)=fin xs++fin ys:=by simp[fin,List.filter_append]
theorem P8(xs:List Nat):(fin xs).length<=xs.length:=List.length_filter_le _ _
theorem Xt(xs:List Nat)(i:Nat)(h:i<xs.length)(hk:kd (xs.getD i 0)<=2):fin (xs.take (i+1))=fin (xs.take i)++[xs.getD i 0]:=by
 rw[qL xs i h,xK];simp[fin];simpa [fP] using hk
theorem TY(xs:List Nat)(i:Nat)(h:i<xs.length)(hk:¬ kd (xs.getD i 0)<=2):fin (xs.take (i+1))=fin (xs.take i):=by
 rw[qL xs i h,xK];simp[fin];simpa [fP] using hk
def fG(a b:Int)(xs:List Nat):Int:=if may a b=false then 1 else if 65536<xs.length then 2 else rf (cn 5 xs:Nat) (cn 3 xs:Nat) (cn 4 xs:Nat) a b
def Jj(a b:Int)(xs:List Nat):List Nat:=if fG a b xs=0 then fin xs else[]
def Jk(a b:Int)(xs:List Nat):Value:=if fG a b xs=0 then .agg #[.int .i64 (cn 5 xs:Nat),.int .i64 (cn 3 xs:Nat),.int .i64 (cn 4 xs:Nat),.int .i64 (cn 1 xs:Nat),.int .i64 (cn 2 xs:Nat),.int .i64 (xs.length:Nat)] else .agg #[.int .i64 0,.int .i64 0,.int .i64 0,.int .i64 0,.int .i64 0,.int .i64 0]
def iV(w:World)(a b:Int)(xs:List Nat)(r:Ending)(w':World):Prop:=∃ v,r=.returned (.tuple #[v,Jk a b xs,.int .i64 (fG a b xs)])/\Lt w.heap.size w' v (Jj a b xs)/\An w w'
theorem iV.no{w w':World}{a b:Int}{xs:List Nat}(e:Int)(he:fG a b xs=e)(h0:e≠0)(hb:An w w'):iV w a b xs (.returned (.tuple #[.slice none 0 0,.agg #[.int .i64 0,.int .i64 0,.int .i64 0,.int .i64 0,.int .i64 0,.int .i64 0],.int .i64 e])) w':=by
 subst he;refine⟨.slice none 0 0,?_,?_,hb⟩
 · unfold Jk;rw[if_neg h0]
 · unfold Jj;rw[if_neg h0];exact Lt.nil _ _
theorem iV.yes{w w':World}{a b:Int}{xs:List Nat}{v:Value}(he:fG a b xs=0)(hv:Rw w.heap.size w' v (fin xs).length ((fin xs).map U))(hb:An w w') :
 iV w a b xs (.returned (.tuple #[v,.agg #[.int .i64 (cn 5 xs:Nat),.int .i64 (cn 3 xs:Nat),.int .i64 (cn 4 xs:Nat),.int .i64 (cn 1 xs:Nat),.int .i64 (cn 2 xs:Nat),.int .i64 (xs.length:Nat)],.int .i64 0])) w':=by
 refine⟨v,?_,?_,hb⟩
 · rw[he];unfold Jk;rw[if_pos he]
 · unfold Jj;rw[if_pos he];exact hv
theorem Rw.below{lo:Nat}{w w':World}{v:Value}{n:Nat}{ys:List Value}(h:Rw lo w v n ys)(hb:An w w'):Rw lo w' v n ys :=
 Mf.row h (Mf.below hb)
theorem Rw.but{lo g:Nat}{w w':World}{v:Value}{n:Nat}{ys:List Value}(h:Rw lo w v n ys)(hb:But g w w'){cur:Array Value}{e:TypeId}(he:e≠23)(hg:w.heap[g]?=some (.cells cur e (0,0))):Rw lo w' v n ys:=by
 refine tq h fun k hk=>?_;rcases h.2 with ⟨rfl,_⟩|⟨g2,cap,c2,rfl,_,hg2,_⟩
 · cases hk
 · cases hk
   refine hb.block _ (fV.1 hg2).1 (fun e2=>?_);subst e2;rw[hg] at hg2
   cases hg2
   exact he rfl
theorem Rw.mono{lo lo':Nat}{w:World}{v:Value}{n:Nat}{ys:List Value}(h:Rw lo w v n ys)(hl:lo'<=lo):Rw lo' w v n ys:=by
 exact xo
theorem Rw.low{lo:Nat}{w:World}{v:Value}{n:Nat}{ys:List Value}(h:Rw lo w v n ys):∀ b,v.ownBlock=some b->lo<=b:=by
 intro b hb;rcases h.2 with ⟨rfl,_⟩|⟨g,cap,cur,rfl,hlo,_⟩
 · cases hb
 · cases hb;exact hlo
theorem Mi(n:Nat)(hn:n<=65536)(w:World) :
 (Instr.makeSlice 27 (.int .i64 0) (.int .i64 (n:Nat))).run Tryz.prog w=.ok (.slice (some ⟨w.heap.size,0,none⟩) 0 n) (w.alloc (.cells (madeCells #[.float .f64 0] n) 23)):=by
 obtain⟨i0,hi,hz0,hz1,hz2⟩:=info_parts Tryz.P6;have hr:=run_make (P:=Tryz.prog) w 27 23 i0 (.float .f64 0) Tryz.underlying27 hi hz0 .i64 .i64 0 (n:Int) (Int.le_refl _) (by omega) (by rw[hz2];omega) (by omega);rw[hz1,eO] at hr;simp only[mF,Int.toNat_zero] at hr;exact hr
theorem P9(lo:Nat)(w:World)(n:Nat)(hn:n<=65536)(hlo:lo<=w.heap.size):Rw lo (w.alloc (.cells (madeCells #[.float .f64 0] n) 23)) (.slice (some ⟨w.heap.size,0,none⟩) 0 n) 0 []:=by
 refine⟨rfl,.inr ⟨w.heap.size,n,madeCells #[.float .f64 0] n,rfl,hlo,gZ w _,by omega,by unfold maxLen;omega,?_,?_⟩⟩
 · have:=congrArg List.length (toList_madeCells_one (.float .f64 0) n);simpa using this
 · simp
theorem push(lo:Nat)(w:World)(v:Value)(ys:List Nat)(x:Nat)(hrow:Rw lo w v ys.length (ys.map U))(hn:ys.length<=65536)(hlo:lo<=w.heap.size) :
 ∃ v' w',(Builtin.append_ #[27,27] 27 #[v,.slice (some ⟨w.heap.size,0,none⟩) 1 1]).run Tryz.prog (w.alloc (.cells #[.float .f64 x] 23))=.ok v' w'/\Rw lo w' v' (ys++[x]).length ((ys++[x]).map U) /\
   Below lo w w'/\(∀ (g:Nat) (cur:Array Value) (e:TypeId),e≠23->w.heap[g]?=some (.cells cur e (0,0))->w'.heap[g]?=some (.cells cur e (0,0)))/\w.heap.size<=w'.heap.size:=by
 obtain⟨v',w',h1,h2,h3,_,_⟩:=lZ (w.alloc (.cells #[.float .f64 x] 23)) lo v ys.length (ys.map U) (.float .f64 x) w.heap.size 27 (hrow.alloc _) (by unfold World.cell?;simp only[gZ];rfl) rfl (by omega) (by simp;omega);refine⟨v',w',h1,by simpa [U] using h2,((aB lo w).alloc hlo _).grown h3 (by simp;omega) hrow.low,?_,by have:=h3.size;simp at this;omega⟩;intro g cur e he hg;have hgl:=(fV.1 hg).1;rw[h3.block g (by simp;omega) (fun e2=>?_),Below.heap_alloc _ _ _ hgl]
 · exact hg
 · rcases hrow.2 with ⟨rfl,_⟩ | ⟨g2,cap,c2,rfl,_,hg2,_⟩
   · cases e2
   · cases e2
     rw[hg] at hg2
     cases hg2
     exact he rfl
structure SI (lo sb:Nat) (W1:World) (xs:List Nat) (i:Nat) (a:Int) (v:Value) (wr:World):Prop where
 row:Rw lo wr v (fin (xs.take i)).length ((fin (xs.take i)).map U)
 sp:TV wr sb (xs.take i) a
 au:Below lo W1 wr
 size:W1.heap.size<=wr.heap.size
theorem SI.kind{lo sb:Nat}{W1:World}{xs:List Nat}{i:Nat}{a:Int}{v:Value}{wr w1:World}(h:SI lo sb W1 xs i a v wr)(hb:An wr w1)(hlo:lo<=wr.heap.size):SI lo sb W1 xs i a v w1 :=
 ⟨h.row.below hb,kJ.below h.sp hb (kJ.lt h.sp),h.au.trans (hb.mono hlo),cB h.size hb.size⟩
theorem SI.o{lo sb:Nat}{W1:World}{xs:List Nat}{i:Nat}{a:Int}{v:Value}{wr w2:World}(h:SI lo sb W1 xs i a v wr)(hi:i<xs.length)(hs:TV w2 sb (xs.take (i+1)) a)(hb:But sb wr w2)(hlo:lo<=sb)(hl:lo<=wr.heap.size)(hk:¬ kd (xs.getD i 0)<=2):SI lo sb W1 xs (i+1) a v w2 :=
 ⟨by rw[TY xs i hi hk];exact h.row.but hb (by decide) h.sp,hs,But.below h.au hb hl hlo,cB h.size hb.size⟩
theorem SI.row2{lo sb:Nat}{W1:World}{xs:List Nat}{i:Nat}{a:Int}{v:Value}{wr w2:World}(h:SI lo sb W1 xs i a v wr)(hb:But sb wr w2):Rw lo w2 v (fin (xs.take i)).length ((fin (xs.take i)).map U):=h.row.but hb (by decide) h.sp
theorem kJ.keep{w w':World}{g:Nat}{n u d m p a:Int}(h:kJ w g n u d m p a)(hk:∀ (g:Nat) (cur:Array Value) (e:TypeId),e≠23->w.heap[g]?=some (.cells cur e (0,0))->w'.heap[g]?=some (.cells cur e (0,0))):kJ w' g n u d m p a :=
 hk _ _ _ (by decide) h
theorem SI.into {lo sb:Nat}{W1:World}{xs:List Nat}{i:Nat}{a:Int}{v v':Value}{wr w2 w3:World}(h:SI lo sb W1 xs i a v wr) (hi:i<xs.length) (hs:TV w2 sb (xs.take (i+1)) a) (hb:But sb wr w2) (hlo:lo<=sb) (hl:lo<=wr.heap.size) (hk:kd (xs.getD i 0)<=2)
 (hrow:Rw lo w3 v' (fin (xs.take i)++[xs.getD i 0]).length ((fin (xs.take i)++[xs.getD i 0]).map U)) (hb3:Below lo w2 w3) (hkeep:∀ (g:Nat) (cur:Array Value) (e:TypeId),e≠23->w2.heap[g]?=some (.cells cur e (0,0))->w3.heap[g]?=some (.cells cur e (0,0))) (hsz:w2.heap.size<=w3.heap.size):SI lo sb W1 xs (i+1) a v' w3 :=
 ⟨by rw[Xt xs i hi hk];exact hrow,kJ.keep hs hkeep,(But.below h.au hb hl hlo).trans hb3,cB (cB h.size hb.size) hsz⟩
theorem Xu(x:Nat)(n u d m p:Nat):(if kp (kd x)=0 then((n:Nat):Int)+1 else n)=((n+one 5 x:Nat):Int)/\(if kp (kd x)=1 then((u:Nat):Int)+1 else u)=((u+one 3 x:Nat):Int)/\(if kp (kd x)=2 then((d:Nat):Int)+1 else d)=((d+one 4 x:Nat):Int) /\
 (if kp (kd x)=3 then((m:Nat):Int)+1 else m)=((m+one 1 x:Nat):Int)/\(if kp (kd x)=4 then((p:Nat):Int)+1 else p)=((p+one 2 x:Nat):Int):=by
 have hk:=P7 x;unfold one;generalize kd x=k at hk;obtain rfl|rfl|rfl|rfl|rfl|rfl:k=0\/k=1\/k=2\/k=3\/k=4\/k=5:=by omega
 all_goals simp[kp]
theorem Zw(x:Nat):3<=kp (kd x)↔kd x<=2:=by
 have hk:=P7 x;generalize kd x=k at hk;obtain rfl|rfl|rfl|rfl|rfl|rfl:k=0\/k=1\/k=2\/k=3\/k=4\/k=5:=by omega
 all_goals simp[kp]
theorem Zx(x:Nat):kp (kd x)<=5:=by unfold kp;(repeat' split) <;> omega
theorem TV.counted {w w':World}{sb:Nat}{xs:List Nat}{i:Nat}{a:Int}(hi:i<xs.length)
 (h:kJ w' sb (if kp (kd (xs.getD i 0))=0 then((cn 5 (xs.take i):Nat):Int)+1 else((cn 5 (xs.take i):Nat):Int)) (if kp (kd (xs.getD i 0))=1 then((cn 3 (xs.take i):Nat):Int)+1 else((cn 3 (xs.take i):Nat):Int)) (if kp (kd (xs.getD i 0))=2 then((cn 4 (xs.take i):Nat):Int)+1 else((cn 4 (xs.take i):Nat):Int)) (if kp (kd (xs.getD i 0))=3 then((cn 1 (xs.take i):Nat):Int)+1 else((cn 1 (xs.take i):Nat):Int)) (if kp (kd (xs.getD i 0))=4 then((cn 2 (xs.take i):Nat):Int)+1 else((cn 2 (xs.take i):Nat):Int)) a) :
 TV w' sb (xs.take (i+1)) a:=by
 obtain⟨h1,h2,h3,h4,h5⟩:=Xu (xs.getD i 0) (cn 5 (xs.take i)) (cn 3 (xs.take i)) (cn 4 (xs.take i)) (cn 1 (xs.take i)) (cn 2 (xs.take i));rw[h1,h2,h3,h4,h5] at h;unfold TV;rw[rY 5 xs i hi,rY 3 xs i hi,rY 4 xs i hi,rY 1 xs i hi,rY 2 xs i hi];exact h
end Ps
namespace Ps
open Go.RowKit
open Go.Proofs.YteginbngplldaaaGreatDoor.B (bB aF bw aO)
attribute [local go_sem] bB aF
theorem Qa(xs:List Nat)(ao:Option Addr)(n cap:Nat)(a b:Int)(w:World)(hm:may a b=false) :
 As 78 #[.slice ao n cap,.agg #[.int .i64 a,.int .i64 b]] w (iV w a b xs):=by
 have H:=hid (vT a b);rw[hm] at H;have HE:Aside (fG a b xs=1):=by unfold fG;rw[hm];rfl
 clear hm;go_enter Tryz.func78,Tryz.ntmps78;go_wp2_with fail;refine(H.o _).mono ?_;rintro r w1 ⟨rfl,hb⟩;have hsz:=hb.size;simp at hsz;obtain⟨hc,hf⟩:=aO hb;have HB:=ak hb;clear hb;go_wp2;refine aC (v:=.tuple #[.slice none 0 0,.agg #[.int .i64 0,.int .i64 0,.int .i64 0,.int .i64 0,.int .i64 0,.int .i64 0],.int .i64 1]) (by simp[results,Tryz.results78,go_sem,Ji,hc]) rfl (iV.no 1 HE.o (by decide) ?_);exact But.below ((((aB _ w).alloc (aA _) _).alloc (by simp) _).trans (HB.o.mono (by simp;omega))) (But.TW (But.refl (w.heap.size+1) _) _ _ _ _ _ _) (by omega) (by omega)
theorem Mj(xs:List Nat)(ao:Option Addr)(n cap:Nat)(a b:Int)(w:World)(hn:n=xs.length)(hm:may a b=true)(hl:65536<n)(hn2:n<=35184372088832) :
 As 78 #[.slice ao n cap,.agg #[.int .i64 a,.int .i64 b]] w (iV w a b xs):=by
 have H:=hid (vT a b);rw[hm] at H;have HE:Aside (fG a b xs=2):=by unfold fG;rw[if_neg (by rw[hm];decide),if_pos (by omega),Aside]
 clear hm hn;go_enter Tryz.func78,Tryz.ntmps78;go_wp2_with fail;refine(H.o _).mono ?_;rintro r w1 ⟨rfl,hb⟩;have hsz:=hb.size;simp at hsz;obtain⟨hc,hf⟩:=aO hb;have HB:=ak hb;clear hb;go_wp2;refine aC (v:=.tuple #[.slice none 0 0,.agg #[.int .i64 0,.int .i64 0,.int .i64 0,.int .i64 0,.int .i64 0,.int .i64 0],.int .i64 2]) (by simp[results,Tryz.results78,go_sem,Ji,hc]) rfl (iV.no 2 HE.o (by decide) ?_);exact But.below ((((aB _ w).alloc (aA _) _).alloc (by simp) _).trans (HB.o.mono (by simp;omega))) (But.TW (But.refl (w.heap.size+1) _) _ _ _ _ _ _) (by omega) (by omega)
theorem Qab{P:Prop}(h:P:=by
 go_roundg (n-(i+1))
 case measure=>omega
 case rel=>exact⟨i+1,by omega,by first | go_num | (congr 1;omega),HI⟩):P:=h
set_option maxRecDepth 100000 in
theorem Mk(xs:List Nat)(ao:Option Addr)(n cap B:Nat)(a b:Int)(w:World)(hn:n=xs.length)(hm:may a b=true)(hl:n<=65536)(hx:Wf xs)(hR:Rd B w ao xs)(hB:B<=w.heap.size) :
 As 78 #[.slice ao n cap,.agg #[.int .i64 a,.int .i64 b]] w (iV w a b xs):=by
 have H:=hid (vT a b);rw[hm] at H;have HE:Aside (fG a b xs=rf (cn 5 xs:Nat) (cn 3 xs:Nat) (cn 4 xs:Nat) a b):=by unfold fG;rw[if_neg (by rw[hm];decide),if_neg (by omega),Aside]
 have hmk:=Mi n hl;have HX:=(fE hn hx hR hB);clear hm hn hx hR hB;go_enter Tryz.func78,Tryz.ntmps78;go_wp2_with fail;refine(H.o _).mono ?_;rintro r w1 ⟨rfl,hb⟩;have hsz:=hb.size;simp at hsz;obtain⟨hc,hf⟩:=aO hb;have HB:=ak hb
 have HZ:Aside (kJ w1 (w.heap.size+1) 0 0 0 0 0 0):=by
  have h1:=kJ.made (w.alloc (.cells #[.int .i64 a,.int .i64 b] 26)) 0 0 0 0 0 0;simp only[dA] at h1;exact h1.below hb (by simp)
 clear hb;go_wp2
 go_loopg [7,28] n (fun gk lv cv wr=>∃ (i:Nat),gk+i=n/\cv=.int .i64 (i:Nat)/\Aside (SI w1.heap.size (w1.heap.size+1) w1 xs i (n:Nat) lv wr))
 case atStart =>
  refine⟨0,by omega,rfl,?_⟩;have h1:=(P9 w1.heap.size w1 n hl (aA _)).alloc (.cells #[.int .i64 0,.int .i64 0,.int .i64 0,.int .i64 0,.int .i64 0,.int .i64 (n:Nat)] 99);have h2:=kJ.made (w1.alloc (.cells (madeCells #[.float .f64 0] n) 23)) 0 0 0 0 0 (n:Nat);simp only[dA] at h2;exact⟨h1,h2,((aB _ _).alloc (aA _) _).alloc (by simp) _,by simp;omega⟩
 case round =>
  obtain⟨i,hi,rfl,HA⟩:=hrel
  by_cases hin:i=n
  · obtain rfl:gk=0:=by omega
    obtain⟨hn,hx,hR,hB⟩:=HX.o;have hS:=HA.o;have e:xs.take i=xs:=iy (by omega);have hT:=hS.sp;unfold TV at hT;rw[e] at hT;have hc0:=hT.c0;have hc1:=hT.c1;have hc2:=hT.c2;have hc3:=hT.c3;have hc4:=hT.c4;have hc5:=hT.c5;have hlt:=hT.lt;have hcb:∀ b o,b<w1.heap.size->wr.cell? ⟨b,o,none⟩=w1.cell? ⟨b,o,none⟩:=fun b o h=>hS.au.cell (p:=⟨b,o,none⟩) h;have hp0:wr.cell? ⟨w.heap.size,0,none⟩=some (.int .i64 a):=by rw[hcb _ _ (by omega),hc _ _ (by simp;omega)];simp[go_sem]
    have hp1:wr.cell? ⟨w.heap.size,1,none⟩=some (.int .i64 b):=by rw[hcb _ _ (by omega),hc _ _ (by simp;omega)];simp[go_sem]
    have hZ:kJ wr (w.heap.size+1) 0 0 0 0 0 0:=HZ.o.below hS.au (by omega);have hbd:=fun k=>Vx k xs n (by omega) hl;have HRF:=hid (fun w=>D8 (cn 5 xs:Nat) (cn 3 xs:Nat) (cn 4 xs:Nat) (cn 1 xs:Nat) (cn 2 xs:Nat) (n:Nat) a b w (hbd 3) (hbd 4));obtain⟨ee,hee⟩:∃ ee,rf (cn 5 xs:Nat) (cn 3 xs:Nat) (cn 4 xs:Nat) a b=ee:=⟨_,rfl⟩;have HEE:Aside (fG a b xs=ee):=by rw[Aside,HE.o,hee]
    rw[hee] at HRF;obtain⟨c5,e5⟩:∃ c,cn 5 xs=c:=⟨_,rfl⟩;obtain⟨c3,e3⟩:∃ c,cn 3 xs=c:=⟨_,rfl⟩;obtain⟨c4,e4⟩:∃ c,cn 4 xs=c:=⟨_,rfl⟩;obtain⟨c1,e1⟩:∃ c,cn 1 xs=c:=⟨_,rfl⟩;obtain⟨c2,e2⟩:∃ c,cn 2 xs=c:=⟨_,rfl⟩;rw[e5,e3,e4,e1,e2] at hT HRF;rw[e5] at hc0;rw[e3] at hc1;rw[e4] at hc2;rw[e1] at hc3;rw[e2] at hc4;have HY:=(qb hZ hT e e1 e2 e3 e4 e5);have hBs:=hS.size;clear hn hx hR hB hS hT e hcb hbd hee e1 e2 e3 e4 e5 hZ;subst hin;go_wp2_with fail;refine(HRF.o _).mono ?_;rintro r w5 ⟨rfl,hb5⟩;obtain⟨hZ,hT,e,e1,e2,e3,e4,e5⟩:=HY.o;have MU:=hZ.below hb5 hZ.lt;have T9:=hT.below hb5 hT.lt;have hr5:=HA.o.row.below hb5;have hZf:=MU.frozen;have hz0:=MU.c0;have hz1:=MU.c1;have hz2:=MU.c2;have hz3:=MU.c3;have Ku:=MU.c4;have Kv:=MU.c5;have ht0:=T9.c0;have ht1:=T9.c1;have ht2:=T9.c2;have ht3:=T9.c3;have ht4:=T9.c4;have ht5:=T9.c5;have hzl:=MU.lt;have wI:An w w5:=((((aB _ w).alloc (aA _) _).alloc (by simp) _).trans (HB.o.mono (by simp;omega))).trans ((HA.o.au.mono (by omega)).trans (hb5.mono (by omega)));have HV:=(xZ wI hr5 MU T9 e e1 e2 e3 e4 e5);clear hZ hT e e1 e2 e3 e4 e5 hb5 MU T9 hr5 wI hc0 hc1 hc2 hc3 hc4 hc5 hp0 hp1 HY
    by_cases h0:ee=0
    · subst h0;go_wp2
      go_region
      all_goals
       go_wp2;refine aC (v:=.tuple #[u7,.agg #[.int .i64 (c5:Nat),.int .i64 (c3:Nat),.int .i64 (c4:Nat),.int .i64 (c1:Nat),.int .i64 (c2:Nat),.int .i64 (i:Nat)],.int .i64 0]) (by simp[results,Tryz.results78,go_sem,Ji,hz0,hz1,hz2,hz3,Ku,Kv]) rfl ?_;obtain⟨wI,hr5,MU,T9,e,e1,e2,e3,e4,e5⟩:=HV.o;have aG:But (w.heap.size+1) w5 _:=(But.TW (But.refl (w.heap.size+1) w5) (.int .i64 (c5:Nat)) (.int .i64 (c3:Nat)) (.int .i64 (c4:Nat)) (.int .i64 (c1:Nat)) (.int .i64 (c2:Nat)) (.int .i64 (i:Nat))).drew;have hR6:=Rw.mono (Rw.but hr5 aG (by decide) MU) (show w.heap.size<=w1.heap.size by omega);rw[e] at hR6;have Zy:=iV.yes HEE.o hR6 (But.below wI aG (by omega) (by omega));rw[<-HX.o.1,e1,e2,e3,e4,e5] at Zy;exact Zy
    · have h0':(ee==0)=false:=by rw[beq_eq_false_iff_ne];exact h0
      go_wp2;refine aC (v:=.tuple #[.slice none 0 0,.agg #[.int .i64 0,.int .i64 0,.int .i64 0,.int .i64 0,.int .i64 0,.int .i64 0],.int .i64 ee]) (by simp[results,Tryz.results78,go_sem,Ji,hz0,hz1,hz2,hz3,Ku,Kv]) rfl (iV.no ee HEE.o h0 ?_);exact But.below HV.o.1 (But.TW (But.refl (w.heap.size+1) _) _ _ _ _ _ _) (by omega) (by omega)
  · have hil:i<n:=by omega
    obtain⟨hn,hx,hR,hB⟩:=HX.o;have hS:=HA.o;have hbw:An w wr:=((((aB _ w).alloc (aA _) _).alloc (by simp) _).trans (HB.o.mono (by simp;omega))).trans (hS.au.mono (by omega));have hRw:Rd w.heap.size wr ao xs:=(hR.mono hB).below hbw;obtain⟨bb,off,hlt2,rfl,hcell⟩:=hRw (by intro e;rw[e] at hn;simp at hn;omega);have Wu:=hcell i (by omega);have hxw:=hx.get i;obtain⟨x,gF⟩:∃ x,xs.getD i 0=x:=⟨_,rfl⟩;rw[gF] at Wu hxw;have HK:=hid (PW x hxw);have hk5:=Zx x;have hk3:=Zw x;obtain⟨kk,hkk⟩:∃ kk,kp (kd x)=kk:=⟨_,rfl⟩;rw[hkk] at HK hk5 hk3;have l1:(xs.take i).length<=65536:=by rw[iw];omega
    have hbd:=fun k=>Vx k (xs.take i) 65536 l1 (aA _);have hwl:=hS.size;have HY:=(iC gF hkk hk3 hbd hn hlt2);clear hn hx hR hB hS hbw hRw hcell gF hkk hk3 hbd l1 hin;go_wp2_with fail;refine(HK.o _).mono ?_;rintro r w2 ⟨rfl,hb2⟩;have HS2:=ak (SI.kind HA.o hb2 hwl);have Xv:w2.cell? ⟨bb,off+i,none⟩=some (.float .f64 x):=by rw[hb2.cell (p:=⟨bb,off+i,none⟩) (by have:=HY.o.r5;simp;omega)];exact Wu
    have hsz2:=hb2.size;have HC:=hid (Mh kk (w1.heap.size+1) _ _ _ _ _ _ w2 hk5 HS2.o.sp (HY.o.r3.1 5) (HY.o.r3.1 3) (HY.o.r3.1 4) (HY.o.r3.1 1) (HY.o.r3.1 2));clear hb2 Wu;go_wp2_with fail;refine fH HC.o ?_;rintro r w3 ⟨rfl,hs3,xL⟩;obtain⟨gF,hkk,hk3,hbd,hn,hlt2⟩:=HY.o;have Ua:TV w3 (w1.heap.size+1) (xs.take (i+1)) (n:Nat):=TV.counted (w:=w2) (by omega) (by rw[gF,hkk];exact hs3);have hsz3:=xL.size
    have hxc3:w3.cell? ⟨bb,off+i,none⟩=some (.float .f64 x):=by
     have h9:=(But.below (aB w1.heap.size w2) xL (by omega) (by omega)).cell (p:=⟨bb,off+i,none⟩) (by simp;omega);rw[h9];exact Xv
    by_cases hk2:kd x<=2
    · have hge:(3:Int)<=(kk:Int):=by have:=hk3.2 hk2;omega
      obtain⟨v',w4,hap,hrow4,hb4,Qb,Zz⟩:=push w1.heap.size w3 u7 (fin (xs.take i)) x (SI.row2 HS2.o xL) (by have h1:=P8 (xs.take i);rw[iw] at h1;omega) (by omega);have HI:=ak (SI.into (v':=v') HS2.o (by omega) Ua xL (by omega) (by omega) (by rw[gF];exact hk2) (by rw[gF];exact hrow4) hb4 Qb Zz);have J5:=hid hap;clear hap hrow4 hb4 Qb Zz hs3 Ua xL gF hkk hk3 hbd hn hlt2 hk2 Xv
      go_wp2_with (at_builtin;refine dB rfl (.tmp 40) (.tmp 45) 27 rfl _ _ rfl rfl _ _ J5.o ?_)
      exact Qab
    · have hge:decide ((3:Int)<=(kk:Int))=false:=decide_eq_false (fun h=>hk2 (hk3.1 (by omega)));have HI:=ak (SI.o HS2.o (by omega) Ua xL (by omega) (by omega) (by rw[gF];exact hk2));clear hs3 Ua xL gF hkk hk3 hbd hn hlt2 hk2 Xv;go_wp2;exact Qab
theorem Qc(xs:List Nat)(ao:Option Addr)(n cap B:Nat)(a b:Int)(w:World)(hn:n=xs.length)(hm:n<=35184372088832)(hx:Wf xs)(hR:Rd B w ao xs)(hB:B<=w.heap.size) :
 As 78 #[.slice ao n cap,.agg #[.int .i64 a,.int .i64 b]] w (iV w a b xs):=by
 rcases h:may a b with _|_
 · exact Qa xs ao n cap a b w h
 · by_cases hl:65536<n
   · exact Mj xs ao n cap a b w hn h hl hm
   · exact Mk xs ao n cap B a b w hn h (by omega) hx hR hB
end Ps
section
open Go.RowKit
theorem Nt.al'{lo:Nat}{w:World}{v:Value}{X:Nat}(h:Nt lo w v X)(hl:(ws X).length<=2000000):Al w v X:=by
 obtain⟨a,c,rfl,hA⟩:=h.arg (by omega);exact⟨a,_,c,_,rfl,hA,aj _,hl⟩
theorem o7{w:World}{v u:Value}{X Y:Nat}(h1:Al w v X)(h2:Al w u Y):As 111 #[v,u] w fun r w'=>∃ p,r=.returned p/\Nt w.heap.size w' p (X*Y)/\An w w':=by
 obtain⟨a,l,c,xs,rfl,hA,rfl,hl⟩:=h1;obtain⟨b,k,d,ys,rfl,hB,rfl,hk⟩:=h2;exact lg hA hB (by omega) rfl
theorem xM{w:World}{v u:Value}{X Y:Nat}{e f:Int}(h1:Al w v X)(h2:Al w u Y)(be:-9223372036854775808<=e/\e<=9223372036854775807)(bf:-9223372036854775808<=f/\f<=9223372036854775807) :
 At 190 #[v,.int .i64 e,u,.int .i64 f] w (.int .i64 (Vk X e Y f)):=by
 obtain⟨a,l,c,xs,rfl,hA,rfl,hl⟩:=h1;obtain⟨b,k,d,ys,rfl,hB,rfl,hk⟩:=h2;exact Dj hA hB hl hk e f be.1 be.2 bf.1 bf.2
theorem D9{w:World}{n m:Bool}{p a b:Option Addr}{lp cp la ca lb cb A X Y:Nat}{g e f:Int}(hA:Al w (.slice p lp cp) A)(hN:Al w (.slice a la ca) X)(hD:Al w (.slice b lb cb) Y)(he:-9223372036854775808<=e/\e<=9223372036854775807)(h g2:Int)(e2:IntKind.i64.wrap (g+f)=h)(hh:-9223372036854775808<=h/\h<=9223372036854775807)(P:Nat)(hP:A*Y=P)(hl:(ws P).length<=2000000) :
 At 186 #[.slice p lp cp,.int .i64 g,.agg #[.bool n,.slice a la ca,.int .i64 e,.bool m,.slice b lb cb,.int .i64 f],.bool false] w (.int .i64 (Vk P h X e)):=by
 obtain⟨W1,hW1⟩:=af (w.alloc (.cells #[.bool n,.slice a la ca,.int .i64 e,.bool m,.slice b lb cb,.int .i64 f] 73));have hB:An w W1:=by rw[hW1];exact ae _ _
 have Ml:Rq W1 w.heap.size n (.slice a la ca) e m (.slice b lb cb) f:=by rw[hW1];exact Rq.new _ _ _ _ _ _ _
 have S0:=(dJ hB Ml (hA.below hB) (hN.below hB) (hD.below hB));have BD:=(fE he hh hl hP);clear hB Ml hA hN hD he hh hl hP;go_enter Tryz.func186,Tryz.ntmps186
 go_upto_region 1 with fail
 rw[<-hW1];clear hW1;obtain⟨x0,x1,x2,x3,x4,x5⟩:=S0.o.2.1.facts
 go_upto_region 6 with fail
 have dr:An W1 W1.drew:=(aB _ _).drew;have T1:=hid (o7 S0.o.r2.1 S0.o.r4);have T2:=hid (o7 (S0.o.r2.1.below dr) (S0.o.r4.below dr));rw[BD.o.r3] at T1 T2;clear dr
 go_region_held3 (fun w'=>w'.cell? ⟨w.heap.size,0,none⟩=some (.bool n)/\w'.cell? ⟨w.heap.size,1,none⟩=some (.slice a la ca)/\w'.cell? ⟨w.heap.size,2,none⟩=some (.int .i64 e)/\w'.cell? ⟨w.heap.size,3,none⟩=some (.bool m)/\w'.cell? ⟨w.heap.size,4,none⟩=some (.slice b lb cb)/\w'.cell? ⟨w.heap.size,5,none⟩=some (.int .i64 f)) (go_keep) (first
  | (go_at_call 111
     first | with_reducible refine T1.o.mono ?_ | with_reducible refine T2.o.mono ?_
     rintro r v1 ⟨pv,rfl,hN,hb⟩;obtain⟨q1,d1,rfl,-⟩:=hN.shape;have hb1:An W1 v1:=by first | exact hb | exact((aB _ W1).drew).trans (hb.mono (aA _))
     obtain⟨au,QR,AX,AN,AD⟩:=S0.o;obtain⟨m0,m1,m2,m3,m4,m5⟩:=(QR.below hb1).facts;have T3:=hid (xM (hN.al' BD.o.r2.1) (AN.below hb1) BD.o.2.1 BD.o.1);have S4:=(aJ (au.trans (hb1.mono au.size)) (QR.below hb1))
     clear hN hb hb1 au QR AX AN AD)
  | (go_at_call 190
     with_reducible refine T3.o.mono ?_
     rintro r v2 ⟨rfl,hb⟩;obtain⟨au,QR⟩:=S4.o;obtain⟨k0,k1,k2,k3,k4,k5⟩:=(QR.below hb).facts;have S5:=ak (au.trans (hb.mono au.size))
     clear hb au QR))
 all_goals (
  go_wp2;go_ret
  exact⟨rfl,S5.o⟩)
theorem Ea{w:World}{n m:Bool}{p a b:Option Addr}{lp cp la ca lb cb A X Y:Nat}{g e f:Int}(hA:Al w (.slice p lp cp) A)(hN:Al w (.slice a la ca) X)(hD:Al w (.slice b lb cb) Y)(he:-9223372036854775808<=e/\e<=9223372036854775807)(h g2:Int)(e1:IntKind.i64.wrap (2*g)=g2)(e2:IntKind.i64.wrap (g2+f)=h)(hh:-9223372036854775808<=h/\h<=9223372036854775807)(P:Nat)(hP:(A*A)*Y=P)(hl:(ws P).length<=2000000)(hl2:(ws (A*A)).length<=2000000) :
 At 186 #[.slice p lp cp,.int .i64 g,.agg #[.bool n,.slice a la ca,.int .i64 e,.bool m,.slice b lb cb,.int .i64 f],.bool true] w (.int .i64 (Vk P h X e)):=by
 obtain⟨W1,hW1⟩:=af (w.alloc (.cells #[.bool n,.slice a la ca,.int .i64 e,.bool m,.slice b lb cb,.int .i64 f] 73));have hB:An w W1:=by rw[hW1];exact ae _ _
 have Ml:Rq W1 w.heap.size n (.slice a la ca) e m (.slice b lb cb) f:=by rw[hW1];exact Rq.new _ _ _ _ _ _ _
 have S0:=(dJ hB Ml (hA.below hB) (hN.below hB) (hD.below hB));have BD:=(fE he hh hl hP);clear hB Ml hA hN hD he hh hl hP;go_enter Tryz.func186,Tryz.ntmps186
 go_upto_region 1 with fail
 rw[<-hW1];clear hW1;have HC:=hid (o7 S0.o.r2.1 S0.o.r2.1);have HL2:=ak hl2;clear hl2;go_wp2_with fail;refine HC.o.mono ?_;rintro r U ⟨v,rfl,hN,hb⟩;obtain⟨q2,d2,rfl,-⟩:=hN.shape;have S1:=(dJ (S0.o.1.trans (hb.mono S0.o.1.size)) (S0.o.2.1.below hb) (hN.al' HL2.o) (S0.o.r3.1.below hb) (S0.o.r4.below hb));clear HC hN hb S0 HL2;obtain⟨x0,x1,x2,x3,x4,x5⟩:=S1.o.2.1.facts
 go_upto_region 6 with fail
 have dr:An U U.drew:=(aB _ _).drew;have T1:=hid (o7 S1.o.r2.1 S1.o.r4);have T2:=hid (o7 (S1.o.r2.1.below dr) (S1.o.r4.below dr));rw[BD.o.r3] at T1 T2;clear dr
 go_region_held3 (fun w'=>w'.cell? ⟨w.heap.size,0,none⟩=some (.bool n)/\w'.cell? ⟨w.heap.size,1,none⟩=some (.slice a la ca)/\w'.cell? ⟨w.heap.size,2,none⟩=some (.int .i64 e)/\w'.cell? ⟨w.heap.size,3,none⟩=some (.bool m)/\w'.cell? ⟨w.heap.size,4,none⟩=some (.slice b lb cb)/\w'.cell? ⟨w.heap.size,5,none⟩=some (.int .i64 f)) (go_keep) (first
  | (go_at_call 111
     first | with_reducible refine T1.o.mono ?_ | with_reducible refine T2.o.mono ?_
     rintro r v1 ⟨pv,rfl,hN,hb⟩;obtain⟨q1,d1,rfl,-⟩:=hN.shape;have hb1:An U v1:=by first | exact hb | exact((aB _ U).drew).trans (hb.mono (aA _))
     obtain⟨au,QR,AX,AN,AD⟩:=S1.o;obtain⟨m0,m1,m2,m3,m4,m5⟩:=(QR.below hb1).facts;have T3:=hid (xM (hN.al' BD.o.r2.1) (AN.below hb1) BD.o.2.1 BD.o.1);have S4:=(aJ (au.trans (hb1.mono au.size)) (QR.below hb1))
     clear hN hb hb1 au QR AX AN AD)
  | (go_at_call 190
     with_reducible refine T3.o.mono ?_
     rintro r v2 ⟨rfl,hb⟩;obtain⟨au,QR⟩:=S4.o;obtain⟨k0,k1,k2,k3,k4,k5⟩:=(QR.below hb).facts;have S5:=ak (au.trans (hb.mono au.size))
     clear hb au QR))
 all_goals (
  go_wp2;go_ret
  exact⟨rfl,S5.o⟩)
def uf(mode:Int)(n:Bool)(k:Nat)(z hv:Int):Nat:=if z=0 then k else if ko mode k hv n then k+1 else k
theorem Ub{w:World}{v u:Value}{X Y:Nat}(h1:Al w v X)(h2:Al w u Y):As 153 #[v,u] w fun r w'=>∃ p,r=.returned p/\Nt w.heap.size w' p (X+Y)/\An w w':=by
 obtain⟨a,l,c,xs,rfl,hA,rfl,hl⟩:=h1;obtain⟨b,k,d,ys,rfl,hB,rfl,hk⟩:=h2;exact yX hA hB (by omega) (by omega) rfl
theorem kK(w:World)(dg ls:Int)(En:Nat)(n:Bool)(v:Value)(e:Int)(m:Bool)(u:Value)(f:Int)(W:World)(hW:W=(w.alloc (.cells #[.int .i64 dg,.int .i64 ls,.int .u64 (En:Nat)] 118)).alloc (.cells #[.bool n,v,.int .i64 e,.bool m,u,.int .i64 f] 73)) :
 An w W/\Zk W w.heap.size dg ls En/\Rq W (w.heap.size+1) n v e m u f:=by
 rw[hW];refine⟨(ae w _).alloc (by simp) _,?_,?_⟩
 · have h:Zk (w.alloc (.cells #[.int .i64 dg,.int .i64 ls,.int .u64 (En:Nat)] 118)) w.heap.size dg ls En:=gZ _ _;exact h.below (ae _ _)
 · have:=Rq.new (w.alloc (.cells #[.int .i64 dg,.int .i64 ls,.int .u64 (En:Nat)] 118)) n v e m u f;rw[dA] at this;exact this
theorem Xw {w:World}{n m:Bool}{a b:Option Addr}{la ca lb cb:Nat}{e f:Int}(dg ls:Int) (En:Nat) (k k1 g h q fm hv:Int) (A Bv SM:Nat) (sq:Bool)
 (hk1:IntKind.u64.wrap (k+1)=k1) (hq:IntKind.i64.wrap (h-g)=q) (hq0:0<=q) (hq1:q<=1) (hfm:IntKind.i64.wrap (g-1)=fm) (hS:A+Bv*2^q.toNat=SM) (hB0:Bv≠0) (lA:(ws A).length<=8192) (lB:(ws Bv).length<=8192) (lM:(ws (Bv*2^q.toNat)).length<=8192) (lS:(ws SM).length<=8192)
 (HN1:Hid (∀ u:World,As 185 #[.agg #[.int .i64 dg,.int .i64 ls,.int .u64 (En:Nat)],.int .u64 k] u fun r w'=>∃ v,r=.returned (.tuple #[v,.int .i64 g])/\Nt u.heap.size w' v A/\An u w'))
 (HN2:Hid (∀ u:World,As 185 #[.agg #[.int .i64 dg,.int .i64 ls,.int .u64 (En:Nat)],.int .u64 k1] u fun r w'=>∃ v,r=.returned (.tuple #[v,.int .i64 h])/\Nt u.heap.size w' v Bv/\An u w'))
 (HA:Hid (∀ (u:World) (p:Option Addr) (l c:Nat),An w u->Al u (.slice p l c) SM->At 186 #[.slice p l c,.int .i64 fm,.agg #[.bool n,.slice a la ca,.int .i64 e,.bool m,.slice b lb cb,.int .i64 f],.bool sq] u (.int .i64 hv))) :
 At 187 #[.agg #[.int .i64 dg,.int .i64 ls,.int .u64 (En:Nat)],.int .u64 k,.agg #[.bool n,.slice a la ca,.int .i64 e,.bool m,.slice b lb cb,.int .i64 f],.bool sq] w (.int .i64 hv):=by
 obtain⟨W1,hW1⟩:=af ((w.alloc (.cells #[.int .i64 dg,.int .i64 ls,.int .u64 (En:Nat)] 118)).alloc (.cells #[.bool n,.slice a la ca,.int .i64 e,.bool m,.slice b lb cb,.int .i64 f] 73));obtain⟨hB,Z,QR⟩:=kK w dg ls En n _ e m _ f W1 hW1;obtain⟨p0,p1,p2⟩:=Z.facts;have S0:=(bO hB Z QR);have LN:=(qb lA lB lM lS hB0 hS hq0 hq1);have H1:=hid (HN1.o W1);clear hB Z QR lA lB lM lS hB0 hS hq0 hq1 HN1;go_enter Tryz.func187,Tryz.ntmps187
 go_upto_region 1 with fail
 rw[<-hW1];clear hW1;go_wp2_with fail;clear p0 p1 p2;refine H1.o.mono ?_;rintro r u1 ⟨v,rfl,hN,hb⟩;obtain⟨a1,c1,rfl,-⟩:=hN.shape;have S1:=(fE (S0.o.1.trans (hb.mono S0.o.1.size)) (S0.o.2.1.below hb) (S0.o.r2.below hb) (hN.al' (cB LN.o.1 (by decide))));clear hN hb S0 H1;obtain⟨p0,p1,p2⟩:=S1.o.2.1.facts;have H2:=hid (HN2.o u1);clear HN2;go_wp2_with fail;clear p0 p1 p2;refine H2.o.mono ?_;rintro r u2 ⟨v,rfl,hN,hb⟩;have H3:=hid (pF hN q (by have:=LN.o;omega) (by have:=LN.o;omega) LN.o.r4.1 (cB LN.o.2.1 (by decide)));obtain⟨a2,c2,rfl,-⟩:=hN.shape;have S2:=(bO (S1.o.1.trans (hb.mono S1.o.1.size)) (S1.o.r2.1.below hb) (S1.o.r3.below hb));clear hN hb S1 H2;rw[if_neg (by have:=LN.o;omega)] at H3;go_wp2_with fail;refine H3.o.mono ?_;rintro r u3 ⟨v,rfl,hN,hb⟩;obtain⟨a3,c3,rfl,-⟩:=hN.shape;have S3:=(aJ (S2.o.1.trans (hb.mono S2.o.1.size)) (S2.o.2.1.below hb));have H4:=hid (Ub (S2.o.r2.below hb) (hN.al' (cB LN.o.r2.1 (by decide))));rw[LN.o.r5.1] at H4;clear hN hb S2 H3;go_wp2_with fail;refine H4.o.mono ?_;rintro r u4 ⟨v,rfl,hN,hb⟩;obtain⟨a4,c4,rfl,-⟩:=hN.shape;have S4:=(aJ (S3.o.1.trans (hb.mono S3.o.1.size)) (S3.o.2.below hb));obtain⟨x0,x1,x2,x3,x4,x5⟩:=S4.o.2.facts;have H5:=hid (HA.o u4 _ _ _ S4.o.1 (hN.al' (cB LN.o.r3.1 (by decide))));clear hN hb S3 H4 HA;go_wp2_with fail;clear x0 x1 x2 x3 x4 x5;refine H5.o.mono ?_;rintro r u5 ⟨rfl,hb⟩;have S5:=ak (S4.o.1.trans (hb.mono S4.o.1.size));clear hb S4 H5 LN;go_wp2;go_ret;exact⟨rfl,S5.o⟩
structure xN (w:World) (dg ls:Int) (En:Nat) (ag:Nat->Int) (n:Bool) (v:Value) (e:Int) (m:Bool) (x:Value) (y:Int) (f t:Nat) (u:World):Prop where
 au:An w u
 sz:Zk u w.heap.size dg ls En
 rq:Rq u (w.heap.size+1) n v e m x y
 ft:f<t
 tE:t<=En
 lo:f=0\/ag f<=0
 hi:t=En\/0<ag t
theorem xN.to{w:World}{dg ls:Int}{En:Nat}{ag:Nat->Int}{n:Bool}{v:Value}{e:Int}{m:Bool}{x:Value}{y:Int}{f t:Nat}{u u':World}(h:xN w dg ls En ag n v e m x y f t u)(hb:An u u'):xN w dg ls En ag n v e m x y f t u' :=
 ⟨h.au.trans (hb.mono h.au.size),h.sz.below hb,h.rq.below hb,h.ft,h.tE,h.lo,h.hi⟩
theorem Qaw{P:Prop}(h:P:=by
 go_wp2;go_ret;exact⟨⟨k,by rw[HE.o,<-HR2.o];simp[ko,hp],KK.o⟩,S4.o.au⟩):P:=h
theorem Qal{P:Prop}(h:P:=by
 cases n
 all_goals (
  go_wp2;go_ret
  exact⟨⟨k,by rw[HE.o,<-HR2.o];simp[ko],KK.o⟩,S4.o.au⟩)):P:=h
theorem ju{P:Prop}(h:P:=by
 go_wp2;go_ret;exact⟨⟨k,by rw[HE.o,<-HR2.o];simp[ko],KK.o⟩,S4.o.au⟩):P:=h
theorem Qd {w:World}{n m:Bool}{a b:Option Addr}{la ca lb cb:Nat}{e f:Int}(dg ls:Int) (En:Nat) (hE:0<En) (hE2:En<9223372036854775808) (num:Nat->Nat×Int) (ag hf:Nat->Int) (sq:Bool) (mode:Int) (hm0:0<=mode) (mO:mode<=4) (GN:∀ k,(ws (num k).1).length<=8192) (hv3:∀ k,hf k=-1\/hf k=0\/hf k=1)
 (HN:Hid (∀ (k:Nat) (u:World),k<En->As 185 #[.agg #[.int .i64 dg,.int .i64 ls,.int .u64 (En:Nat)],.int .u64 (k:Nat)] u fun r w'=>∃ v,r=.returned (.tuple #[v,.int .i64 (num k).2])/\Nt u.heap.size w' v (num k).1/\An u w'))
 (HA:Hid (∀ (k:Nat) (u:World) (p:Option Addr) (l c:Nat),k<En->An w u->Al u (.slice p l c) (num k).1->At 186 #[.slice p l c,.int .i64 (num k).2,.agg #[.bool n,.slice a la ca,.int .i64 e,.bool m,.slice b lb cb,.int .i64 f],.bool sq] u (.int .i64 (ag k))))
 (HH:Hid (∀ (k:Nat) (u:World),k<En->An w u->At 187 #[.agg #[.int .i64 dg,.int .i64 ls,.int .u64 (En:Nat)],.int .u64 (k:Nat),.agg #[.bool n,.slice a la ca,.int .i64 e,.bool m,.slice b lb cb,.int .i64 f],.bool sq] u (.int .i64 (hf k)))) :
 As 151 #[.agg #[.int .i64 dg,.int .i64 ls,.int .u64 (En:Nat)],.agg #[.bool n,.slice a la ca,.int .i64 e,.bool m,.slice b lb cb,.int .i64 f],.bool sq,.int .i64 mode] w fun r w'=>(∃ k:Nat,r=.returned (.int .u64 (uf mode n k (ag k) (-(hf k)):Nat))/\k<En/\(k=0\/ag k<=0)/\(k+1=En\/0<ag (k+1)))/\An w w':=by
 obtain⟨W1,hW1⟩:=af ((w.alloc (.cells #[.int .i64 dg,.int .i64 ls,.int .u64 (En:Nat)] 118)).alloc (.cells #[.bool n,.slice a la ca,.int .i64 e,.bool m,.slice b lb cb,.int .i64 f] 73));obtain⟨hB,Z,QR⟩:=kK w dg ls En n _ e m _ f W1 hW1;obtain⟨p0,p1,p2⟩:=Z.facts;have S0:Aside (xN w dg ls En ag n (.slice a la ca) e m (.slice b lb cb) f 0 En W1):=ak ⟨hB,Z,QR,hE,aA _,.inl rfl,.inl rfl⟩;have LN:=(aJ GN hv3);clear Z hB QR GN hv3;have hw:∀ n:Int,0<=n->n<18446744073709551616->IntKind.u64.wrap n=n:=fun n h1 h2=>by simp[IntKind.wrap,IntKind.bits,IntKind.signed];omega
 have HW:=ak hw;clear hw;go_enter Tryz.func151,Tryz.ntmps151
 go_upto_region 1 with fail
 rw[<-hW1];clear hW1;go_wp2_with fail;clear p0 p1 p2
 go_loopg [9,10] En (fun gk fv tv wr=>∃ f0 t:Nat,gk+f0=t/\fv=.int .u64 (f0:Nat)/\tv=.int .u64 (t:Nat)/\f0<t/\t<=En/\Aside (xN w dg ls En ag n (.slice a la ca) e m (.slice b lb cb) f f0 t wr))
 case atStart=>exact⟨0,En,by omega,rfl,rfl,hE,aA _,S0⟩
 case round =>
  obtain⟨f0,t,Ff,rfl,rfl,hft,htE,S1⟩:=hrel;have e1:=HW.o ((t:Int)-(f0:Int)) (by omega) (by omega)
  by_cases hone:1<(t:Int)-(f0:Int)
  · obtain⟨mi,hm⟩:∃ mi,(f0+t)/2=mi:=⟨_,rfl⟩;have e2:=HW.o ((f0:Int)+(t:Int)) (by omega) (by omega);have e3:((f0:Int)+(t:Int))/2=(mi:Nat):=by omega
    have e4:IntKind.u64.wrap ((mi:Nat):Int)=(mi:Nat):=HW.o _ (by omega) (by omega);have hmE:mi<En:=by omega
    obtain⟨p0,p1,p2⟩:=S1.o.sz.facts;obtain⟨X,hX⟩:∃ X,(num mi).1=X:=⟨_,rfl⟩;obtain⟨y,hy⟩:∃ y,(num mi).2=y:=⟨_,rfl⟩;have H1:=hid (HN.o mi wr hmE);have H2:=hid fun u p l c=>HA.o mi u p l c hmE;have lX:=LN.o.1 mi;rw[hX,hy] at H1 H2;rw[hX] at lX;have LX:=ak lX;clear lX hX hy;go_wp2_with fail;clear p0 p1 p2;refine H1.o.mono ?_;rintro r u1 ⟨v,rfl,hN,hb⟩;obtain⟨b1,c1,rfl,-⟩:=hN.shape;have S2:=ak (S1.o.to hb);have H3:=hid (H2.o u1 b1 _ c1 S2.o.au (hN.al' (cB LX.o (by decide))));clear hb hN S1 H1 H2;obtain⟨x0,x1,x2,x3,x4,x5⟩:=S2.o.rq.facts;go_wp2_with fail;clear x0 x1 x2 x3 x4 x5;refine H3.o.mono ?_;rintro r u2 ⟨rfl,hb⟩;have S3:=ak (S2.o.to hb);clear hb H3 S2
    by_cases hag:ag mi<=0
    · go_wp2_with fail;go_roundg (t-mi)
      case measure=>omega
      case rel=>exact⟨mi,t,by omega,rfl,rfl,by omega,htE,ak ⟨S3.o.au,S3.o.sz,S3.o.rq,by omega,htE,.inr hag,S3.o.hi⟩⟩
    · have hag':decide (ag mi<=0)=false:=decide_eq_false hag;go_wp2_with fail;go_roundg (mi-f0)
      case measure=>omega
      case rel=>exact⟨f0,mi,by omega,rfl,rfl,by omega,by omega,ak ⟨S3.o.au,S3.o.sz,S3.o.rq,by omega,by omega,S3.o.lo,.inr (by omega)⟩⟩
  · have hone':decide (1<(t:Int)-(f0:Int))=false:=decide_eq_false hone;obtain⟨k,hk⟩:=af f0;subst hk;have hkE:k<En:=by omega
    have KK:Aside (k<En/\(k=0\/ag k<=0)/\(k+1=En\/0<ag (k+1))):=by
     obtain rfl:t=k+1:=by omega
     exact ak ⟨hkE,S1.o.lo,S1.o.hi⟩
    have ek:IntKind.u64.wrap ((k:Int)+1)=(k:Int)+1:=HW.o _ (by omega) (by omega);obtain⟨p0,p1,p2⟩:=S1.o.sz.facts;obtain⟨X,hX⟩:∃ X,(num k).1=X:=⟨_,rfl⟩;obtain⟨y,hy⟩:∃ y,(num k).2=y:=⟨_,rfl⟩;obtain⟨z,hz⟩:∃ z,ag k=z:=⟨_,rfl⟩;obtain⟨hv,hhv⟩:∃ z,hf k=z:=⟨_,rfl⟩;have hv3:=LN.o.2 k;obtain⟨R,hR⟩:∃ R,uf mode n k z (-hv)=R:=⟨_,rfl⟩;have H1:=hid (HN.o k wr hkE);have H2:=hid fun u p l c=>HA.o k u p l c hkE;have H5:=hid fun u=>HH.o k u hkE;have lX:=LN.o.1 k;rw[hX,hy] at H1 H2;rw[hz] at H2;rw[hhv] at H5 hv3;rw[hX] at lX;have LX:=ak lX;have HE:Aside (uf mode n k (ag k) (-(hf k))=R):=ak (by rw[hz,hhv,hR]);clear lX hX hy hz hhv LN HN HA HH S0 HW;go_wp2_with fail;clear p0 p1 p2;refine H1.o.mono ?_;rintro r u1 ⟨v,rfl,hN,hb⟩;obtain⟨b1,c1,rfl,-⟩:=hN.shape;have S2:=ak (S1.o.to hb);have H3:=hid (H2.o u1 b1 _ c1 S2.o.au (hN.al' (cB LX.o (by decide))));clear hb hN S1 H1 H2 LX;obtain⟨x0,x1,x2,x3,x4,x5⟩:=S2.o.rq.facts;go_wp2_with fail;clear x0 x1 x2 x3 x4 x5;refine H3.o.mono ?_;rintro r u2 ⟨rfl,hb⟩;have S3:=ak (S2.o.to hb);clear hb H3 S2
    by_cases hz:z=0
    · subst hz;obtain rfl:k=R:=by rw[<-hR];unfold uf;rw[if_pos rfl]
      clear hR;go_wp2_with fail;go_ret;exact⟨⟨k,by rw[HE.o];first | rfl | simp,KK.o⟩,S3.o.au⟩
    · have hz':(z==0)=false:=by simpa using hz
      have hR2:(if ko mode k (-hv) n then k+1 else k)=R:=by rw[<-hR];unfold uf;rw[if_neg hz]
      have H6:=hid (H5.o u2 S3.o.au);obtain⟨p0,p1,p2⟩:=S3.o.sz.facts;obtain⟨x0,x1,x2,x3,x4,x5⟩:=S3.o.rq.facts;have HR2:=ak hR2;clear hR hz hR2 H5;go_wp2_with fail;clear p0 p1 p2 x0 x1 x2 x3 x4 x5;refine H6.o.mono ?_;rintro r u4 ⟨rfl,hb⟩;have S4:=ak (S3.o.to hb);obtain⟨x0,x1,x2,x3,x4,x5⟩:=S4.o.rq.facts;clear hb S3 H6 hz';have hc:mode=0\/mode=1\/mode=2\/mode=3\/mode=4:=by omega
      clear hm0 mO;rcases hc with rfl|rfl|rfl|rfl|rfl
      · rcases hv3 with rfl | rfl | rfl
        · exact ju
        · by_cases hp:k%2=1
          · have hp':(k:Int)%2=1:=by omega
            exact Qaw
          · have hp':(k:Int)%2=0:=by omega
            exact Qaw
        · exact ju
      · exact ju
      · exact Qal
      · exact Qal
      · rcases hv3 with rfl | rfl | rfl
        all_goals (
         go_wp2;go_ret
         exact⟨⟨k,by rw[HE.o,<-HR2.o];simp[ko],KK.o⟩,S4.o.au⟩)
theorem mq(x y c:Nat)(hc:0<c):jq ((x*c:Nat):Int) ((y*c:Nat):Int)=jq (x:Int) (y:Int):=by
 rw[fZ,fZ];exact Bo _ _ _ (by omega)
theorem Qe(A v X Y:Nat)(g e f B:Int)(u n:Nat)(hB1:B<=g)(hB2:B<=-((n*u:Nat):Int))(hA:A*2^(g-B).toNat=v*2^(-((n*u:Nat):Int)-B).toNat) :
 Vk (A*Y) (g+f) X e=jq ((v*gQ Y e f u n:Nat):Int) ((iQ X e f u n:Nat):Int):=by
 generalize hU:n*u=U at hB2 hA;obtain⟨D,hD1,hD2⟩:∃ D:Int,D<=f/\B+D<=e:=⟨min f (e-B),Int.min_le_left _ _,by have:=Int.min_le_right f (e-B);omega⟩;rw[YV (A*Y) (g+f) X e (B+D) (by omega) hD2];obtain⟨c,hc⟩:∃ c:Nat,(-(U:Int)-B).toNat+(f-D).toNat=(-(e-f+(U:Int))).toNat+c:=⟨(-(U:Int)-B).toNat+(f-D).toNat-(-(e-f+(U:Int))).toNat,by omega⟩;have hd:(e-(B+D)).toNat=(e-f+(U:Int)).toNat+c:=by omega
 have e1:A*Y*2^(g+f-(B+D)).toNat=v*gQ Y e f u n*2^c:=by
  rw[show(g+f-(B+D)).toNat=(g-B).toNat+(f-D).toNat by omega,aL,om,hA,om,<-aL,hc,aL];unfold gQ;rw[hU];simp only[aM]
 have e2:X*2^(e-(B+D)).toNat=iQ X e f u n*2^c:=by
  rw[hd,aL];unfold iQ;rw[hU];simp only[aM]
 rw[e1,e2];exact mq _ _ _ (bz c)
theorem GQ(v X Y:Nat)(e f:Int)(u n:Nat):jq ((v*gQ Y e f (u+1) n:Nat):Int) ((iQ X e f (u+1) n:Nat):Int)=jq ((v*gQ Y e f u n:Nat):Int) ((2^n*iQ X e f u n:Nat):Int):=by
 generalize hU:n*u=U;have hU':n*(u+1)=U+n:=by rw[jM,eO,hU]
 rw[<-mq (v*gQ Y e f (u+1) n) (iQ X e f (u+1) n) (2^(-(e-f+(U:Int))).toNat) (bz _),<-mq (v*gQ Y e f u n) (2^n*iQ X e f u n) (2^(-(e-f+((U+n:Nat):Int))).toNat) (bz _)];congr 2
 · unfold gQ;rw[hU,hU'];simp only[aM];rw[cZ (2^_) (2^_)]
 · unfold iQ;rw[hU,hU',aM,<-aL,cZ (2^n),aM,aM,<-aL,<-aL];congr 2;omega
theorem Mm{A v:Nat}{g B:Int}{u n:Nat}(h1:B<=g)(h2:B<=-(u:Int))(hA:A*2^(g-B).toNat=v*2^(-(u:Int)-B).toNat)(hn:n=1\/n=2):A^n*2^((n:Int)*g-(n:Int)*B).toNat=v^n*2^(-((n*u:Nat):Int)-(n:Int)*B).toNat:=by
 rcases hn with rfl|rfl
 · rw[mG,mG,iK];simpa using hA
 · rw[show(((2:Nat):Int)*g-((2:Nat):Int)*B).toNat=(g-B).toNat+(g-B).toNat by omega,show(-((2*u:Nat):Int)-((2:Nat):Int)*B).toNat=(-(u:Int)-B).toNat+(-(u:Int)-B).toNat by omega,aL,aL,Nat.pow_two,Nat.pow_two,om,hA,om]
theorem Mo{A Bv v v1 SM:Nat}{g h q B:Int}{u:Nat}(h1:B<=g-1)(h2:B<=-((u+1:Nat):Int))(hq:q=h-g)(hq0:0<=q)(hA:A*2^(g-B).toNat=v*2^(-(u:Int)-B).toNat)(hBv:Bv*2^(h-B).toNat=v1*2^(-(u:Int)-B).toNat)(hS:A+Bv*2^q.toNat=SM) :
 SM*2^(g-1-B).toNat=(v+v1)*2^(-((u+1:Nat):Int)-B).toNat:=by
 have k1:(g-B).toNat=(g-1-B).toNat+1:=by omega
 have k2:(-(u:Int)-B).toNat=(-((u+1:Nat):Int)-B).toNat+1:=by omega
 have k3:(h-B).toNat=q.toNat+((g-1-B).toNat+1):=by omega
 rw[k1,k2,iq,iq,<-aM,<-aM] at hA;rw[k3,k2,aL,iq,iq,<-aM,<-aM,<-aM] at hBv;have e1:=qg (by omega:0<2) hA;have e2:=qg (by omega:0<2) hBv;rw[<-hS,fF,fF,e1,e2]
theorem BJ(k:Nat):(ig k).2<=(ig (k+1)).2/\(ig (k+1)).2<=(ig k).2+1/\-1074<=(ig k).2:=by
 unfold ig
 by_cases h:k/4503599627370496=0
 · rw[if_pos h]
   by_cases h':(k+1)/4503599627370496=0
   · rw[if_pos h'];simp only;omega
   · rw[if_neg h'];simp only;omega
 · rw[if_neg h,if_neg (by omega)];simp only;omega
namespace S
end S
structure Xx (dg ls:Int) (En:Nat) (v:Nat->Nat) (u:Nat) (num:Nat->Nat×Int):Prop where
 grid:Pp v En
 small:En<9223372036854775808
 ub:u<=2000
 call:∀ (k:Nat) (w:World),k<=En->As 185 #[.agg #[.int .i64 dg,.int .i64 ls,.int .u64 (En:Nat)],.int .u64 (k:Nat)] w fun r w'=>∃ p,r=.returned (.tuple #[p,.int .i64 (num k).2])/\Nt w.heap.size w' p (num k).1/\An w w'
 val:∀ (k:Nat) (B:Int),B<=-(u:Int)->(num k).1*2^((num k).2-B).toNat=v k*2^(-(u:Int)-B).toNat/\(num k).1<9007199254740992/\B<=(num k).2/\((num k).1=0↔k=0)
 step:∀ k:Nat,(num k).2<=(num (k+1)).2/\(num (k+1)).2<=(num k).2+1/\-(u:Int)<=(num k).2
 top:∀ k:Nat,k<=En->(num k).2<=2000
theorem Jl:Xx 53 (-1074) 9218868437227405312 vK 1074 ig :=
 ⟨o5,by omega,by omega,fun k w hk=>y9 k hk w,fun k B hB=>Pn k B hB,BJ,fun k hk=>by unfold ig;split <;> simp only <;> omega⟩
theorem Eb{A Y:Nat}(hA:bl A<=200)(hY:bl Y<=262144):(ws (A*Y)).length<=2000000:=by
 have:=tY A Y;rw[il];omega
theorem rZ(x:Int)(h0:-4611686018427387904<=x)(h1:x<=4611686018427387904):IntKind.i64.wrap x=x:=by rw[zY];omega
theorem GU(x y:Int):jq x y=-1\/jq x y=0\/jq x y=1:=by unfold jq;(repeat' split) <;> simp
theorem Qf{x y:Nat}:jq (x:Int) (y:Int)<=0↔x<=y:=by unfold jq;(repeat' split) <;> omega
theorem Qg{x y:Nat}:0<jq (x:Int) (y:Int)↔y<x:=by unfold jq;(repeat' split) <;> omega
theorem Ec{x y:Nat}:jq (x:Int) (y:Int)=0↔x=y:=by unfold jq;(repeat' split) <;> omega
theorem Ed {dg ls:Int}{En:Nat}{v:Nat->Nat}{u:Nat}{num:Nat->Nat×Int}(H:Xx dg ls En v u num) {w:World}{s mb:Bool}{p a b:Option Addr}{lp cp la ca lb cb X Y:Nat}{e f:Int}(hN:Al w (.slice a la ca) X) (hD:Al w (.slice b lb cb) Y) (he:-1048576<=e/\e<=1048576) (hf:-1048576<=f/\f<=1048576) (hY:bl Y<=262144)
 (A W n U:Nat) (g B:Int) (hA:Al w (.slice p lp cp) A) (hn:n=1\/n=2) (hAb:bl A<=100) (hg:-4000<=g/\g<=4000) (hU:U<=4000) (h1:B<=g) (h2:B<=-(U:Int)) (hv:A*2^(g-B).toNat=W*2^(-(U:Int)-B).toNat) (sq:Bool) (Ip:sq=decide (n=2)) :
 At 186 #[.slice p lp cp,.int .i64 g,.agg #[.bool s,.slice a la ca,.int .i64 e,.bool mb,.slice b lb cb,.int .i64 f],.bool sq] w (.int .i64 (jq ((W^n*gQ Y e f U n:Nat):Int) ((iQ X e f U n:Nat):Int))):=by
 have P:=Mm h1 h2 hv hn;rcases hn with rfl|rfl
 · have e1:=Qe (A^1) (W^1) X Y (((1:Nat):Int)*g) e f (((1:Nat):Int)*B) U 1 (by omega) (by omega) P;rw[mG,show((1:Nat):Int)*g=g by omega] at e1;subst Ip;rw[<-e1];exact D9 hA hN hD (by omega) (g+f) 0 (rZ _ (by omega) (by omega)) (by omega) (A*Y) rfl (Eb (by omega) hY)
 · have e1:=Qe (A^2) (W^2) X Y (((2:Nat):Int)*g) e f (((2:Nat):Int)*B) U 2 (by omega) (by omega) P;rw[Nat.pow_two,show((2:Nat):Int)*g=2*g by omega] at e1;subst Ip;rw[<-e1];have hb:=tY A A;exact Ea hA hN hD (by omega) (2*g+f) (2*g) (rZ _ (by omega) (by omega)) (rZ _ (by omega) (by omega)) (by omega) (A*A*Y) rfl (Eb (by omega) hY) (by rw[il];omega)
theorem Jm {dg ls:Int}{En:Nat}{v:Nat->Nat}{u:Nat}{num:Nat->Nat×Int}(H:Xx dg ls En v u num) {w:World}{s mb:Bool}{a b:Option Addr}{la ca lb cb X Y:Nat}{e f:Int}(hN:Al w (.slice a la ca) X) (hD:Al w (.slice b lb cb) Y) (he:-1048576<=e/\e<=1048576) (hf:-1048576<=f/\f<=1048576) (hY:bl Y<=262144)
 {n K:Nat} {t:Bool} {m:Int} (hn:n=1\/n=2) (L:ik v En n K t m (iQ X e f u n) (gQ Y e f u n)) (sq:Bool) (Ip:sq=decide (n=2)) (mode:Int) (hm0:0<=mode) (mO:mode<=4) :
 At 151 #[.agg #[.int .i64 dg,.int .i64 ls,.int .u64 (En:Nat)],.agg #[.bool s,.slice a la ca,.int .i64 e,.bool mb,.slice b lb cb,.int .i64 f],.bool sq,.int .i64 mode] w (.int .u64 ((if t then K else if ko mode K m s then K+1 else K:Nat):Nat)):=by
 have hub:=H.ub;have hone:=H.grid.one;have hsm:=H.small;have GN:∀ k,bl (num k).1<=53:=fun k=>rH _ (H.val k _ (Int.le_refl _)).2.1
 have C:=Qd (w:=w) (n:=s) (m:=mb) (a:=a) (b:=b) (la:=la) (ca:=ca) (lb:=lb) (cb:=cb) (e:=e) (f:=f) dg ls En (by omega) hsm num
  (fun k=>jq ((v k^n*gQ Y e f u n:Nat):Int) ((iQ X e f u n:Nat):Int)) (fun k=>jq (((v k+v (k+1))^n*gQ Y e f u n:Nat):Int) ((2^n*iQ X e f u n:Nat):Int)) sq mode hm0 mO
  (fun k=>len8 (by have:=GN k;omega)) (fun k=>GU _ _) (hid fun k w' hk=>H.call k w' (by omega))
  (hid fun k w' p l c hk hb hA=>by
   obtain⟨h1,h2,h3,h4⟩:=H.val k (-(u:Int)) (Int.le_refl _);have h5:=H.top k (by omega)
   exact Ed H (hN.below hb) (hD.below hb) he hf hY (num k).1 (v k) n u (num k).2 (-(u:Int)) hA hn (by have:=GN k;omega) (by omega) (by omega) h3 (Int.le_refl _) h1 sq Ip)
  (hid fun k w' hk hb=>by
   obtain⟨h1,h2,h3,h4⟩:=H.val k (-(u:Int)-1) (by omega);obtain⟨i1,i2,i3,i4⟩:=H.val (k+1) (-(u:Int)-1) (by omega);obtain⟨j1,j2,j3⟩:=H.step k;have h5:=H.top k (by omega);have l1:=GN k;have l2:=GN (k+1);obtain⟨q,hq⟩:∃ q,(num (k+1)).2-(num k).2=q:=⟨_,rfl⟩;have hq2:q=0\/q=1:=by omega
   have hp:(2:Nat)^q.toNat<=2:=by rcases hq2 with h | h <;> subst h <;> decide
   have hM:(num (k+1)).1*2^q.toNat<=(num (k+1)).1*2:=gX _ hp;have M:=Mo (u:=u) (B:=-(u:Int)-1) (by omega) (by omega) hq.symm (by omega) h1 i1 rfl;have lM:bl ((num (k+1)).1*2^q.toNat)<=60:=dU (by rw[show(2:Nat)^60=1152921504606846976 by rfl];omega);have lS:bl ((num k).1+(num (k+1)).1*2^q.toNat)<=60:=dU (by rw[show(2:Nat)^60=1152921504606846976 by rfl];omega);refine Xw dg ls En (k:Int) ((k+1:Nat):Int) (num k).2 (num (k+1)).2 q ((num k).2-1) _ (num k).1 (num (k+1)).1 _ sq (by rw[kW];omega) (by rw[hq];exact rZ _ (by omega) (by omega)) (by omega) (by omega) (rZ _ (by omega) (by omega)) rfl (fun h=>by have:=i4.1 h;omega) (len8 (by omega)) (len8 (by omega)) (len8 (by omega)) (len8 (by omega)) (hid fun x=>H.call k x (by omega)) (hid fun x=>H.call (k+1) x (by omega)) (hid fun x p l c hx hA=>?_);have:=Ed H ((hN.below hb).below hx) ((hD.below hb).below hx) he hf hY ((num k).1+(num (k+1)).1*2^q.toNat) (v k+v (k+1)) n (u+1) ((num k).2-1) (-(u:Int)-1) hA hn (by omega) (by omega) (by omega) (by omega) (by omega) M sq Ip (s:=s) (mb:=mb);rw[GQ] at this
   exact this)
 refine C.mono ?_;rintro r w' ⟨⟨k,rfl,hk,k1,k2⟩,hb⟩;refine⟨?_,hb⟩
 obtain⟨d1,d2,d3⟩:=L.doc H.grid (by omega) k hk (by
  rcases k1 with rfl|h
  · rw[H.grid.zero,Nat.zero_pow (by omega),eG];exact oh _
  · exact Qf.1 h) (by
  rcases k2 with h|h
  · exact .inl h
  · exact .inr (Qg.1 h))
 subst d1;congr 3;unfold uf
 by_cases hx:iQ X e f u n=v k^n*gQ Y e f u n
 · rw[if_pos (Ec.2 hx.symm),d2,decide_eq_true hx,if_pos rfl]
 · have ht:t=false:=by rw[d2];exact decide_eq_false hx
   have hm:-jq (((v k+v (k+1))^n*gQ Y e f u n:Nat):Int) ((2^n*iQ X e f u n:Nat):Int)=m:=by
    rw[d3 ht,<-PR];unfold Tz jq;simp only[Int.ofNat_lt]
   rw[if_neg (fun h=>hx (Ec.1 h).symm),hm,ht];rfl
section
attribute [local go_sem] B.aF
theorem xO(k:Nat)(hk:k<9223372036854775808)(neg:Bool)(er:Int)(w:World) :
 Ax 106 #[.int .u64 (k:Nat),.bool neg,.int .i64 er] w (.tuple #[.float .f64 (k+(if neg then 9223372036854775808 else 0)),.int .i64 er]):=by
 have e1:IntKind.u64.wrap ((k:Int)+9223372036854775808)=((k+9223372036854775808:Nat):Int):=by rw[kW];omega
 cases neg
 · go_enter Tryz.func106,Tryz.ntmps106;go_wp2;exact aC (v:=.tuple #[.float .f64 k,.int .i64 er]) (by simp[results,Tryz.results106,go_sem]) rfl ⟨by simp,rfl⟩
 · go_enter Tryz.func106,Tryz.ntmps106;go_wp2;exact aC (v:=.tuple #[.float .f64 (k+9223372036854775808),.int .i64 er]) (by simp[results,Tryz.results106,go_sem] <;> omega) rfl ⟨by simp,rfl⟩
end
theorem Tryz.GV:Tryz.prog.underlying 130=some (.slice 73):=by kernel_rfl
theorem Tryz.GZ:(Tryz.prog.info? 73).map (fun i=>(i.zero,i.size,i.bytes))=some (some (.agg #[.bool false,.slice none 0 0,.int .i64 0,.bool false,.slice none 0 0,.int .i64 0]),6,80):=by kernel_rfl
structure R1 (w:World) (v:Value) (n:Bool) (x:Value) (e:Int) (m:Bool) (y:Value) (f:Int):Prop where
 ex:∃ g cap,v=.slice (some ⟨g,0,none⟩) 1 cap/\1<=cap/\g<w.heap.size/\(w.cell? ⟨g,0,none⟩=some (.bool n)/\w.cell? ⟨g,1,none⟩=some x/\w.cell? ⟨g,2,none⟩=some (.int .i64 e)/\w.cell? ⟨g,3,none⟩=some (.bool m)/\w.cell? ⟨g,4,none⟩=some y/\w.cell? ⟨g,5,none⟩=some (.int .i64 f))
theorem Qh(w:World)(n:Bool)(a:Option Addr)(l c:Nat)(e:Int)(m:Bool)(b:Option Addr)(k d:Nat)(f:Int) :
 ∃ v' w',(Builtin.append_ #[130,130] 130 #[.slice none 0 0,.slice (some ⟨w.heap.size,0,none⟩) 1 1]).run Tryz.prog (w.alloc (.cells #[.bool n,.slice a l c,.int .i64 e,.bool m,.slice b k d,.int .i64 f] 73))=.ok v' w'/\R1 w' v' n (.slice a l c) e m (.slice b k d) f/\An w w':=by
 obtain⟨i0,hi,hz0,hz1,hz2⟩:=info_parts Tryz.GZ;obtain⟨W,hW⟩:=af (w.alloc (.cells #[.bool n,.slice a l c,.int .i64 e,.bool m,.slice b k d,.int .i64 f] 73));have hq:Rq W w.heap.size n (.slice a l c) e m (.slice b k d) f:=by rw[hW];exact Rq.new _ _ _ _ _ _ _
 obtain⟨x0,x1,x2,x3,x4,x5⟩:=hq.facts;have hWs:w.heap.size<=W.heap.size:=by subst hW;simp
 obtain⟨v',w',r1,r2,r3,r4,r5⟩:=run_append_own_at (P:=Tryz.prog) W w.heap.size 130 130 73 i0 _ 6 80 Tryz.GV hi hz0 hz1 hz2 rfl (by decide) (.slice none 0 0) 0 [] (Cn W w.heap.size 73 6) ⟨w.heap.size,0,none⟩ 1 1 [.bool n,.slice a l c,.int .i64 e,.bool m,.slice b k d,.int .i64 f] rfl (by
  intro j u hj
  match j,hj with
  | 0,hj=>simp at hj;subst hj;simpa [Addr.add] using x0
  | 1,hj=>simp at hj;subst hj;simpa [Addr.add] using x1
  | 2,hj=>simp at hj;subst hj;simpa [Addr.add] using x2
  | 3,hj=>simp at hj;subst hj;simpa [Addr.add] using x3
  | 4,hj=>simp at hj;subst hj;simpa [Addr.add] using x4
  | 5,hj=>simp at hj;subst hj;simpa [Addr.add] using x5
  | j+6,hj=>simp at hj) (by intro u hu;simp at hu;rcases hu with rfl | rfl | rfl | rfl | rfl | rfl <;> rfl) (by unfold maxLen;omega) (by omega) hWs
 rw[<-hW];refine⟨v',w',r1,?_,?_⟩
 · rcases r2.2 with ⟨h1,h2⟩ | ⟨g,cap,cur,rfl,hlo,hg,hn1,hm,hs,ht⟩
   · exact absurd (r4.1 h1).2 (by decide)
   · have C:∀ i,i<6->w'.cell? ⟨g,i,none⟩=([.bool n,.slice a l c,.int .i64 e,.bool m,.slice b k d,.int .i64 f]:List Value)[i]?:=by
      intro i hi6;have:=World.ownsRow.cellAt r2 i (by simp;omega);simpa using this
     exact⟨g,cap,rfl,hn1,(fV.1 hg).1,C 0 (by omega),C 1 (by omega),C 2 (by omega),C 3 (by omega),C 4 (by omega),C 5 (by omega)⟩
 · have ZA:An w W:=by subst hW;exact ae _ _
   refine⟨r3.os.trans ZA.os,r3.tape.trans ZA.tape,r3.output.trans ZA.output,cB ZA.size r3.size,fun k hkl=>?_⟩;rw[r3.block k (by omega) (fun e=>by simp[Value.ownBlock] at e)];exact ZA.block k hkl
end
section
open Go.RowKit J
attribute [local go_sem] oK
def ug(n:Nat):Value:=.float .f64 n
theorem Tryz.qM:Tryz.prog.underlying 27=some (.slice 23):=by kernel_rfl
theorem Tryz.Qi:(Tryz.prog.info? 23).map (fun i=>(i.zero,i.size,i.bytes))=some (some (.float .f64 0),1,8):=by kernel_rfl
def fK(w:World)(g:Nat)(L:List Nat):Prop:=w.heap[g]?=some (.cells (L.map ug).toArray 23 (0,0))
theorem fK.lt{w:World}{g:Nat}{L:List Nat}(h:fK w g L):g<w.heap.size:=(fV.1 h).1
theorem fK.cell{w:World}{g:Nat}{L:List Nat}(h:fK w g L)(i:Nat)(hi:i<L.length):w.cell? ⟨g,i,none⟩=some (.float .f64 (L.getD i 0)):=by
 unfold fK at h;simp[World.cell?,h,ug,hi]
theorem fK.frozen{w:World}{g:Nat}{L:List Nat}(h:fK w g L)(i:Nat):w.frozen? ⟨g,i,none⟩=false:=by
 unfold fK at h;simp[World.frozen?,h]
theorem fK.set{w:World}{g:Nat}{L:List Nat}(h:fK w g L)(i x:Nat):fK (w.setCell ⟨g,i,none⟩ (.float .f64 x)) g (L.set i x):=by
 unfold fK at h |-;simp only[World.setCell,kP,h];simp[ug,List.map_set]
theorem fK.drew{w:World}{g:Nat}{L:List Nat}(h:fK w g L):fK w.drew g L:=h
theorem fK.below{w w':World}{g B:Nat}{L:List Nat}(h:fK w g L)(hb:Below B w w')(hg:g<B):fK w' g L:=by
 unfold fK at h |-;rw[hb.block g hg];exact h
theorem fK.fs{w:World}{g B:Nat}{L:List Nat}(h:fK w g L)(hg:g<B)(n:Nat):Fs B w (some ⟨g,0,none⟩) (L.take n):=by
 intro _;refine⟨g,0,hg,rfl,fun i hi=>?_⟩;rw[iw] at hi;rw[dK,h.cell i (by omega)];congr 2;rw[fP,fP,List.getElem?_take,if_pos (by omega)]
theorem uP(z:Int)(n:Nat)(hz:z=(n:Int))(hn:n<=17592186044416)(w:World) :
 (Instr.makeSlice 27 (.int .i64 z) (.int .i64 z)).run Tryz.prog w=.ok (.slice (some ⟨w.heap.size,0,none⟩) n n) (w.alloc (.cells (madeCells #[.float .f64 0] n) 23)):=by
 subst hz;exact run_make_row' 27 23 (.float .f64 0) 8 Tryz.qM Tryz.Qi rfl .i64 .i64 n (by omega) (by omega) w
theorem fK.made(w:World)(n:Nat):fK (w.alloc (.cells (madeCells #[.float .f64 0] n) 23)) w.heap.size (List.replicate n 0):=by
 unfold fK;have h1:=gZ w (.cells (madeCells #[.float .f64 0] n) 23);rw[h1];congr 2;apply Array.toList_inj.1;rw[toList_madeCells_one];simp[ug]
theorem Ee (w:World) (g dLen dCap:Nat) (ao:Option Addr) (sLen sCap B:Nat) (ty:TypeId)
 (L xs:List Nat) (hO:fK w g L) (hL:dLen<=L.length) (hx:sLen=xs.length) (hR:Fs B w ao xs) (hle:sLen<=dLen) :
 ∃ w',(Builtin.copy_ #[27,27] ty #[.slice (some ⟨g,0,none⟩) dLen dCap,.slice ao sLen sCap]).run Tryz.prog w=.ok (.int .i64 (sLen:Int)) w'/\fK w' g (xs++L.drop sLen)/\But g w w':=by
 subst hx;have hmin:Nat.min xs.length dLen=xs.length:=jd hle
 by_cases h0:xs=[]
 · subst h0;exact⟨w,run_copy_none (P:=Tryz.prog) w 27 27 ty 23 _ _ _ _ _ _ Tryz.qM (by kernel_rfl) (by simp at hmin |-),by simpa using hO,But.refl _ _⟩
 · obtain⟨b,off,hlt,rfl,hc⟩:=hR h0;have hadd:∀ j,(⟨b,off,none⟩:Addr).add j=⟨b,off+j,none⟩:=by intro j;unfold Addr.add;split <;> simp_all
   have hrun:=run_copy_row (P:=Tryz.prog) w 27 27 ty 23 g 0 dLen dCap ⟨b,off,none⟩ xs.length sCap (L.map ug).toArray 23 (xs.map ug) Tryz.qM (by kernel_rfl) hO (by rw[hmin];simp) (by
    intro j v hv;rw[hadd]
    have hj:j<xs.length:=by
     have:=(zH.1 hv).1;simpa using this
    rw[hc j hj];simp[hj,ug] at hv
    simp[hj,<-hv]) (by simp;omega) (by
    intro v hv;obtain⟨n,_,rfl⟩:=List.mem_map.1 hv
    rfl)
   refine⟨w.setRow g (((xs++L.drop xs.length).map ug)).toArray,?_,setRow_heap w g _ _ 23 _ hO,⟨rfl,rfl,rfl,by simp[World.setRow],fun k _ hk=>setRow_other w g k _ hk⟩⟩;simpa [Cc,List.map_drop,goInt] using hrun
theorem Fs.but{B g:Nat}{w w':World}{ao:Option Addr}{xs:List Nat}(h:Fs B w ao xs)(hb:But g w w')(hB:B<=w.heap.size)(hg:B<=g):Fs B w' ao xs:=by
 intro hne;obtain⟨b,off,h1,h2,h3⟩:=h hne;refine⟨b,off,h1,h2,fun i hi=>?_⟩;rw[<-h3 i hi];exact x8 (a:=⟨b,off+i,none⟩) (hb.block b (by omega) (by omega))
end
section
open Go.RowKit J
attribute [local go_sem] oK
theorem vk {w:World}{ops:Array Oper}{rest:List Oper}{o:Oper}{a:Act}{Q:Exit->Act->World->Prop}(hgd:o.guard=none) (s x:Operand) (t:TypeId)
 (ho:o.op=.call { callee:=.builtin .append,args:=#[s,x],argTypes:=#[t,t] }) (v u:Value) (hs:a.eval s=v) (hx:a.eval x=u) (v':Value) (w':World)
 (hrun:(Builtin.append_ #[t,t] o.type #[v,u]).run Tryz.prog w=.ok v' w') (h:wpList Tryz.prog ops Q rest (a.put o.dst v') w'):wpList Tryz.prog ops Q (o::rest) a w:=by
 refine wpList_plain hgd fun K hK=>?_;unfold Oper.wp;simp[execOp,ho,resolve,invoke,builtin,hs,hx,hrun,Result.andThen];exact hK _ _ h
end
section
open Go.RowKit
theorem Uc{w:World}{v:Value}{X:Nat}(h1:Al w v X)(ng:Bool)(e:Int):At 184 #[.agg #[.bool ng,v,.int .i64 e]] w (.int .i64 (rO ng X)):=by
 obtain⟨a,l,c,xs,rfl,hA,rfl,hl⟩:=h1;exact Gr hA ng e
theorem Jn{w:World}{v:Value}{X:Nat}(h1:Al w v X)(n:Bool)(e:Int)(be:-9223372036854775808<=e/\e<=9223372036854775807)(o:Option (Bool×Nat×Int))(ho:mkS n X e=o)(s:Bool)(hs:o.isSome=s):As 109 #[.agg #[.bool n,v,.int .i64 e]] w fun r w'=>(∃ p,r=.returned (.tuple #[.agg #[.bool (dN o),p,.int .i64 (dE o)],.bool s])/\Nt w.heap.size w' p (dX o))/\An w w':=by
 obtain⟨a,l,c,xs,rfl,hA,rfl,hl⟩:=h1;subst ho hs;exact mK hA hl n e be.1 be.2
def MayA(lo:Nat)(w:World)(r:Ending)(o p:Option (Bool×Nat×Int))(er:Int):Prop :=
 ∃ v,r=.returned (.tuple #[v,.int .i64 er])/\(er=0->∃ x y,R1 w v (dN o) x (dE o) (dN p) y (dE p)/\Nt lo w x (dX o)/\Nt lo w y (dX p))
theorem ya{P:Prop}(h:P:=by
 go_upto_region 12 with fail
 rw[<-dM];clear dM hbad;go_wp2;exact aC (v:=.tuple #[.slice none 0 0,.int .i64 2]) (by simp[results,Tryz.results150,go_sem]) rfl ⟨⟨_,by rw[HE.o],fun h=>by rw[HE.o] at h;cases h⟩,H5.o⟩):P:=h
theorem Xy {w:World}{g:Nat}{n m:Bool}{a b:Option Addr}{la ca lb cb X Y:Nat}{e f:Int}(hq:Rq w g n (.slice a la ca) e m (.slice b lb cb) f) (hN:Al w (.slice a la ca) X) (hD:Al w (.slice b lb cb) Y) (be:-9223372036854775808<=e/\e<=9223372036854775807) (bf:-9223372036854775808<=f/\f<=9223372036854775807)
 (o p:Option (Bool×Nat×Int)) (ho:mkS n X e=o) (hp:mkS m Y f=p) (er:Int) (her:jU X n e Y m f=er) :
 As 150 #[.slice (some ⟨g,0,none⟩) 1 1] w fun r w'=>MayA w.heap.size w' r o p er/\An w w':=by
 have S0:=(aJ (aB w.heap.size w) hq);have AA:=(jY hN hD be bf ho hp her);have LL:Aside ((ws (dX o)).length<=8192/\(ws (dX p)).length<=8192):=ak ⟨by rw[<-ho];exact aI _ _ _,by rw[<-hp];exact aI _ _ _⟩;obtain⟨sg,hsg⟩:∃ x,rO m Y=x:=⟨_,rfl⟩;have SG:=ak hsg;clear hq hN hD be bf ho hp her hsg;have one:decide ((1:Int)<1)=false:=by decide
 go_enter Tryz.func150,Tryz.ntmps150;go_wp2
 go_loopg [4] 1 (fun gk i wr=>∃ k:Nat,gk+k=1/\i=.int .i64 (k:Nat)/\Aside (An w wr/\(k=1->¬ rO m Y<0)))
 case atStart=>exact⟨0,by omega,by simp,ak ⟨S0.o.1,fun h=>by cases h⟩⟩
 case round =>
  obtain⟨k,Ff,rfl,HA⟩:=hrel
  by_cases hk:k<1
  · obtain rfl:k=0:=by omega
    obtain⟨x0,x1,x2,x3,x4,x5⟩:=(S0.o.2.below HA.o.1).facts;have HC:=hid (Uc (AA.o.2.1.below HA.o.1) m f);rw[SG.o] at HC;go_wp2_with fail;clear x0 x1 x2 x3 x4 x5;refine HC.o.mono ?_;rintro r u1 ⟨rfl,hb⟩;have HB:=ak (HA.o.1.trans (hb.mono HA.o.1.size));clear HC hb HA
    by_cases hs:sg<0
    · have hs':decide (sg<0)=true:=decide_eq_true hs;have HE:Aside (er=1):=ak (by rw[<-AA.o.r6];unfold jU;rw[if_pos (by rw[SG.o];exact hs)]);clear hs;go_wp2;exact aC (v:=.tuple #[.slice none 0 0,.int .i64 1]) (by simp[results,Tryz.results150,go_sem]) rfl ⟨⟨_,by rw[HE.o],fun h=>by rw[HE.o] at h;cases h⟩,HB.o⟩
    · have hs':decide (sg<0)=false:=decide_eq_false hs;have HS:=ak hs;clear hs;go_wp2_with fail;go_roundg 0
      case measure=>omega
      case rel=>exact⟨1,by omega,by first | rfl | simp,ak ⟨HB.o,fun _=>by rw[SG.o];exact HS.o⟩⟩
  · obtain rfl:k=1:=by omega
    have HS:=ak (HA.o.2 rfl);have HB:=ak HA.o.1;clear HA;go_wp2
    go_loopg [6,5] 1 (fun gk i v wr=>∃ (k:Nat) (v0:Value),gk+k=1/\i=.int .i64 (k:Nat)/\v=v0/\Aside (An w wr/\(k=0->v0=.slice none 0 0)/\(k=1->o.isSome=true/\p.isSome=true/\∃ x y,R1 wr v0 (dN o) x (dE o) (dN p) y (dE p)/\Nt w.heap.size wr x (dX o)/\Nt w.heap.size wr y (dX p))))
    case atStart=>exact⟨0,_,by omega,by simp,rfl,ak ⟨HB.o,fun _=>rfl,fun h=>by cases h⟩⟩
    case round =>
     obtain⟨j,v,hgj,rfl,hv,HA⟩:=hrel
     by_cases hj:j<1
     · obtain rfl:j=0:=by omega
       have hv0:=HA.o.2.1 rfl;subst hv0;subst hv;obtain⟨s1,hs1⟩:∃ x,o.isSome=x:=⟨_,rfl⟩;obtain⟨s2,hs2⟩:∃ x,p.isSome=x:=⟨_,rfl⟩;have SS:=(aJ hs1 hs2);have S1:=(fE HA.o.1 (S0.o.2.below HA.o.1) (AA.o.1.below HA.o.1) (AA.o.2.1.below HA.o.1));clear hs1 hs2 HA;obtain⟨x0,x1,x2,x3,x4,x5⟩:=S1.o.2.1.facts;have HC:=hid (Jn S1.o.r2.1 n e AA.o.r2.1 o AA.o.r4.1 s1 SS.o.1);go_wp2_with fail;clear x0 x1 x2 x3 x4 x5;refine HC.o.mono ?_;rintro r u1 ⟨⟨q,rfl,hN⟩,hb⟩;obtain⟨q1,d1,rfl,-⟩:=hN.shape;obtain⟨U1,aQ⟩:=af (u1.alloc (.cells #[.bool (dN o),.slice q1 (ws (dX o)).length d1,.int .i64 (dE o)] 37))
       have S2:Aside (An w U1/\Rq U1 g n (.slice a la ca) e m (.slice b lb cb) f/\Al U1 (.slice b lb cb) Y/\Dk U1 u1.heap.size (dN o) (.slice q1 (ws (dX o)).length d1) (dE o)/\Nt w.heap.size U1 (.slice q1 (ws (dX o)).length d1) (dX o)):=by
        have b0:=S1.o.1;have b1:=b0.trans (hb.mono b0.size);have hA:An u1 U1:=by rw[aQ];exact ae _ _
        exact ak ⟨b1.trans (hA.mono b1.size),(S1.o.2.1.below hb).below hA,(S1.o.r3.below hb).below hA,by rw[aQ];exact Dk.new _ _ _ _,(hN.mono b0.size).below hA⟩
       clear HC hb hN S1;obtain⟨x0,x1,x2,x3,x4,x5⟩:=S2.o.2.1.facts;have HC:=hid (Jn S2.o.r2.1 m f AA.o.r3.1 p AA.o.r5.1 s2 SS.o.2)
       go_upto_region 11 with fail
       rw[<-aQ];clear aQ;go_wp2_with fail;clear x0 x1 x2 x3 x4 x5;refine HC.o.mono ?_;rintro r u2 ⟨⟨q,rfl,hN⟩,hb⟩;obtain⟨q2,d2,rfl,-⟩:=hN.shape;obtain⟨U2,dM⟩:=af (u2.alloc (.cells #[.bool (dN p),.slice q2 (ws (dX p)).length d2,.int .i64 (dE p)] 37))
       have S3:Aside (An w U2/\Dk U2 u1.heap.size (dN o) (.slice q1 (ws (dX o)).length d1) (dE o)/\Nt w.heap.size U2 (.slice q1 (ws (dX o)).length d1) (dX o)/\Dk U2 u2.heap.size (dN p) (.slice q2 (ws (dX p)).length d2) (dE p)/\Nt w.heap.size U2 (.slice q2 (ws (dX p)).length d2) (dX p)):=by
        have b0:=S2.o.1;have b1:=b0.trans (hb.mono b0.size);have hA:An u2 U2:=by rw[dM];exact ae _ _
        exact ak ⟨b1.trans (hA.mono b1.size),(S2.o.r3.1.below hb).below hA,(S2.o.r4.below hb).below hA,by rw[dM];exact Dk.new _ _ _ _,(hN.mono b0.size).below hA⟩
       clear HC hb hN S2
       by_cases hbad:s1=true/\s2=true
       · obtain⟨rfl,rfl⟩:=hbad;obtain⟨x0,x1,x2,x3,x4,x5⟩:=S3.o.2.1.facts;obtain⟨y0,y1,y2,y3,y4,y5⟩:=S3.o.r3.1.facts;obtain⟨v',w',r1,r2,r3⟩:=Qh U2 (dN o) q1 (ws (dX o)).length d1 (dE o) (dN p) q2 (ws (dX p)).length d2 (dE p);have HR:=ak r1;have HN:=(fE r2 (S3.o.1.trans (r3.mono S3.o.1.size)) (S3.o.r2.1.below r3) (S3.o.r4.below r3));clear r1 r2 r3
         go_upto_region 14 with fail
         rw[<-dM];clear dM
         go_wp2_with (at_builtin;refine vk rfl (.tmp 55) (.tmp 59) 130 rfl _ _ rfl rfl _ _ HR.o ?_)
         go_roundg 0
         case measure=>omega
         case rel=>exact⟨1,_,by omega,by first | rfl | simp,rfl,ak ⟨HN.o.2.1,(fun h=>by cases h),fun _=>⟨SS.o.1,SS.o.2,_,_,HN.o.1,HN.o.r2.1,HN.o.r3⟩⟩⟩
       · have HE:Aside (er=2):=ak (by
          rw[<-AA.o.r6];unfold jU;rw[if_neg (by have:=HS.o;omega),AA.o.r4.1,AA.o.r5.1,SS.o.1,SS.o.2]
          rw[if_neg (by intro h;rw[oo] at h;exact hbad h)])
         have H5:=ak S3.o.1;clear S3
         cases s1
         · exact ya
         · cases s2
           · exact ya
           · exact absurd ⟨rfl,rfl⟩ hbad
     · obtain rfl:j=1:=by omega
       obtain⟨i1,i2,x,y,hR,hx,hy⟩:=HA.o.r2 rfl;obtain⟨gg,cap,rfl,hcap,hgg,c0,c1,c2,c3,c4,c5⟩:=hR.ex;subst hv;obtain⟨q1,d1,rfl,-⟩:=hx.shape;obtain⟨q2,d2,rfl,-⟩:=hy.shape;have HX:=(iC HA.o.1 hR hx hy i1 i2);clear HA hR hx hy hgg i1 i2;go_wp2
       go_loopg [11] 1 (fun gk i wq=>∃ (k:Nat),gk+k=1/\i=.int .i64 (k:Nat)/\wq=wr/\Aside (k=1->dX p≠0))
       case atStart=>exact⟨0,by omega,by simp,rfl,ak fun h=>by cases h⟩
       case round =>
        obtain⟨i,hgi,rfl,rfl,HP⟩:=hrel
        by_cases hi:i<1
        · obtain rfl:i=0:=by omega
          by_cases h0:dX p=0
          · have r1:((((ws (dX p)).length:Nat):Int)==0)=true:=by rw[h0,XT];rfl
            have r2:((ws (dX p)).length==0)=true:=by rw[h0,XT];rfl
            have HE:Aside (er=21):=ak (by
             rw[<-AA.o.r6];unfold jU
             rw[if_neg (by have:=HS.o;omega),AA.o.r4.1,AA.o.r5.1,HX.o.r4.1,HX.o.r5,if_pos (by decide),if_pos h0])
            clear h0;go_wp2;exact aC (v:=.tuple #[.slice none 0 0,.int .i64 21]) (by simp[results,Tryz.results150,go_sem]) rfl ⟨⟨_,by rw[HE.o],fun h=>by rw[HE.o] at h;cases h⟩,HX.o.1⟩
          · have r1:((((ws (dX p)).length:Nat):Int)==0)=false:=dC h0;have r2:((ws (dX p)).length==0)=false:=beq_eq_false_iff_ne.2 (fun h=>h0 ((aW _).1 h));have H0:=ak h0;clear h0;go_wp2_with fail;go_roundg 0
            case measure=>omega
            case rel=>exact⟨1,by omega,by first | rfl | simp,rfl,ak fun _=>H0.o⟩
        · obtain rfl:i=1:=by omega
          have HE:Aside (er=0):=ak (by
           rw[<-AA.o.r6];unfold jU
           rw[if_neg (by have:=HS.o;omega),AA.o.r4.1,AA.o.r5.1,HX.o.r4.1,HX.o.r5,if_pos (by decide),if_neg (HP.o rfl)])
          go_wp2;exact aC (v:=.tuple #[.slice (some ⟨gg,0,none⟩) 1 cap,.int .i64 0]) (by simp[results,Tryz.results150,go_sem]) rfl ⟨⟨_,by rw[HE.o],fun _=>⟨_,_,HX.o.2.1,HX.o.r2.1,HX.o.r3.1⟩⟩,HX.o.1⟩
end
end Go.Proofs.YteginbngplldaaaGreatDoor
