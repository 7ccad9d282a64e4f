import Derived.Test.YteginbngplldaaaGreatDoorMO6x
import Derived.Deep.RegionWith
import Derived.Deep.Cut
import Derived.Test.YteginbngplldaaaGreatDoorZ22x
import Derived.Test.YteginbngplldaaaGreatDoorD39x
import Derived.Test.YteginbngplldaaaGreatDoorW40x
import Derived.BigQuiet
import Derived.Test.YteginbngplldaaaGreatDoorD32cx
set_option linter.unusedVariables false
set_option linter.unusedSimpArgs false
set_option maxHeartbeats 16000000
set_option maxRecDepth 20000
namespace Go.Proofs.YteginbngplldaaaGreatDoor
namespace Ps
open Go.RowKit
open Go.Proofs.YteginbngplldaaaGreatDoor.B (aV aD bw)
attribute [local go_sem] aV aD
theorem I9 (b:Nat):kd b<=5:=by unfold kd;(repeat' split) <;> omega
open Go.RowKit
open Go.Proofs.YteginbngplldaaaGreatDoor.B (aV aD bw aN)
attribute [local go_sem] aV aD
def cn (k:Nat) (xs:List Nat):Nat:=xs.countP (fun x=>kd x==k)
theorem WV (k:Nat):cn k []=0:=rfl
theorem LC (k:Nat) (xs ys:List Nat):cn k (xs++ys)=cn k xs+cn k ys:=by simp [cn,List.countP_append]
def one (k x:Nat):Nat:=if kd x=k then 1 else 0
theorem WW (k x:Nat):cn k [x]=one k x:=by unfold cn one;by_cases h:kd x=k <;> simp [h]
theorem qD (xs:List Nat) (i:Nat) (h:i<xs.length):xs.take (i+1)=xs.take i++[xs.getD i 0]:=by
 rw [EH h,gN,jV h];rfl
theorem pz (k:Nat) (xs:List Nat) (i:Nat) (h:i<xs.length):cn k (xs.take (i+1))=cn k (xs.take i)+one k (xs.getD i 0):=by
 rw [qD xs i h,LC,WW]
theorem Zi (k:Nat) (xs:List Nat):cn k xs<=xs.length:=List.countP_le_length
def iL (w:World) (g:Nat) (n u d m p a:Int):Prop:=w.heap[g]?=some (.cells #[.int .i64 n,.int .i64 u,.int .i64 d,.int .i64 m,.int .i64 p,.int .i64 a] 99 (0,0))
theorem iL.lt {w:World}{g:Nat}{n u d m p a:Int}(h:iL w g n u d m p a):g<w.heap.size:=(fP.1 h).1
theorem iL.c0 {w:World}{g:Nat}{n u d m p a:Int}(h:iL w g n u d m p a):w.cell? ⟨g,0,none⟩=some (.int .i64 n):=by unfold iL at h;simp [World.cell?,h]
theorem iL.c1 {w:World}{g:Nat}{n u d m p a:Int}(h:iL w g n u d m p a):w.cell? ⟨g,1,none⟩=some (.int .i64 u):=by unfold iL at h;simp [World.cell?,h]
theorem iL.c2 {w:World}{g:Nat}{n u d m p a:Int}(h:iL w g n u d m p a):w.cell? ⟨g,2,none⟩=some (.int .i64 d):=by unfold iL at h;simp [World.cell?,h]
theorem iL.c3 {w:World}{g:Nat}{n u d m p a:Int}(h:iL w g n u d m p a):w.cell? ⟨g,3,none⟩=some (.int .i64 m):=by unfold iL at h;simp [World.cell?,h]
theorem iL.c4 {w:World}{g:Nat}{n u d m p a:Int}(h:iL w g n u d m p a):w.cell? ⟨g,4,none⟩=some (.int .i64 p):=by unfold iL at h;simp [World.cell?,h]
theorem iL.c5 {w:World}{g:Nat}{n u d m p a:Int}(h:iL w g n u d m p a):w.cell? ⟨g,5,none⟩=some (.int .i64 a):=by unfold iL at h;simp [World.cell?,h]
theorem iL.frozen {w:World}{g:Nat}{n u d m p a:Int}(h:iL w g n u d m p a) (i:Nat):w.frozen? ⟨g,i,none⟩=false:=by unfold iL at h;simp [World.frozen?,h]
theorem iL.but {w w':World}{g k:Nat}{n u d m p a:Int}(h:iL w g n u d m p a) (hb:But k w w') (hk:g≠k):iL w' g n u d m p a:=by
 have:=h.lt;unfold iL at h |-;rw [hb.block g this hk];exact h
theorem iL.below {w w':World}{g B:Nat}{n u d m p a:Int}(h:iL w g n u d m p a) (hb:Below B w w') (hg:g<B):iL w' g n u d m p a:=by
 unfold iL at h |-;rw [hb.block g hg];exact h
theorem qn{P:Prop}(h:P:=by
 go_end0
 refine ⟨rfl,?_,(But.refl _ _).set _ _⟩;have h:=HB.o;unfold iL at h |-;simp [World.setCell,jW,h]):P:=h
theorem LF (k g:Nat) (n u d m p a:Int) (w:World) (hk:k<=5) (hB:iL w g n u d m p a) (hn:0<=n/\n<=65536) (hu:0<=u/\u<=65536) (hd:0<=d/\d<=65536) (hm:0<=m/\m<=65536) (hp:0<=p/\p<=65536) :
 Calls Tryz.prog 120 #[.pointer (some ⟨g,0,none⟩),.int .i64 (k:Nat)] w fun r w'=>r=.returned (.tuple #[]) /\
  iL w' g (if k=0 then n+1 else n) (if k=1 then u+1 else u) (if k=2 then d+1 else d) (if k=3 then m+1 else m) (if k=4 then p+1 else p) a/\But g w w':=by
 have hc0:=hB.c0;have hc1:=hB.c1;have hc2:=hB.c2;have hc3:=hB.c3;have hc4:=hB.c4;have hf0:=hB.frozen 0;have hf1:=hB.frozen 1;have hf2:=hB.frozen 2;have hf3:=hB.frozen 3;have hf4:=hB.frozen 4;have HB:=ak hB;clear hB;obtain rfl|rfl|rfl|rfl|rfl|rfl:k=0\/k=1\/k=2\/k=3\/k=4\/k=5:=by omega
 · go_enter Tryz.func120,Tryz.ntmps120;go_wp2
   exact qn
 · go_enter Tryz.func120,Tryz.ntmps120;go_wp2
   exact qn
 · go_enter Tryz.func120,Tryz.ntmps120;go_wp2
   exact qn
 · go_enter Tryz.func120,Tryz.ntmps120;go_wp2
   exact qn
 · go_enter Tryz.func120,Tryz.ntmps120;go_wp2
   exact qn
 · go_enter Tryz.func120,Tryz.ntmps120;go_wp2
   go_end0
   exact ⟨rfl,HB.o,But.refl _ _⟩
def rf (n u d a b:Int):Int:=if 0<n/\a=2 then 60 else if 0<u+d/\b=2 then 61 else 0
theorem K0{P:Prop}(h:P:=by
 go_wp2;go_ret;exact ⟨rfl,below _ _⟩):P:=h
theorem D5 (n u d m p l a b:Int) (w:World) (hu:0<=u/\u<=65536) (hd:0<=d/\d<=65536) :
 Calls Tryz.prog 121 #[.agg #[.int .i64 n,.int .i64 u,.int .i64 d,.int .i64 m,.int .i64 p,.int .i64 l],.agg #[.int .i64 a,.int .i64 b]] w fun r w'=>r=.returned (.int .i64 (rf n u d a b))/\Below w.heap.size w w':=by
 have below:∀ o o',Below w.heap.size w ((w.alloc o).alloc o'):=fun o o'=>((aB _ _).alloc (aA _) _).alloc (by simp) _;obtain ⟨t,ht⟩:∃ t,u+d=t:=⟨_,rfl⟩;have ht2:-9223372036854775808<=t/\t<=9223372036854775807:=by omega
 unfold rf;rw [ht]
 by_cases h1:0<n
 · by_cases h2:a=2
   · rw [if_pos ⟨h1,h2⟩];subst h2;go_enter Tryz.func121,Tryz.ntmps121;exact K0
   · have h2':(a==2)=false:=by rw [beq_eq_false_iff_ne];exact h2
     rw [if_neg (fun h=>h2 h.2)]
     by_cases h3:0<t
     · by_cases h4:b=2
       · rw [if_pos ⟨h3,h4⟩];subst h4;go_enter Tryz.func121,Tryz.ntmps121;exact K0
       · have h4':(b==2)=false:=by rw [beq_eq_false_iff_ne];exact h4
         rw [if_neg (fun h=>h4 h.2)];go_enter Tryz.func121,Tryz.ntmps121;exact K0
     · have h3':decide (0<t)=false:=decide_eq_false h3;rw [if_neg (fun h=>h3 h.1)];go_enter Tryz.func121,Tryz.ntmps121;exact K0
 · have h1':decide (0<n)=false:=decide_eq_false h1;rw [if_neg (fun h=>h1 h.1)]
   by_cases h3:0<t
   · by_cases h4:b=2
     · rw [if_pos ⟨h3,h4⟩];subst h4;go_enter Tryz.func121,Tryz.ntmps121;exact K0
     · have h4':(b==2)=false:=by rw [beq_eq_false_iff_ne];exact h4
       rw [if_neg (fun h=>h4 h.2)];go_enter Tryz.func121,Tryz.ntmps121;exact K0
   · have h3':decide (0<t)=false:=decide_eq_false h3;rw [if_neg (fun h=>h3 h.1)];go_enter Tryz.func121,Tryz.ntmps121;exact K0
theorem D6 (n u d m p l a b:Int) (w:World) (hu:0<=u/\u<=65536) (hd:0<=d/\d<=65536) :
 Calls Tryz.prog 148 #[.agg #[.int .i64 n,.int .i64 u,.int .i64 d,.int .i64 m,.int .i64 p,.int .i64 l],.agg #[.int .i64 a,.int .i64 b]] w fun r w'=>r=.returned (.int .i64 (rf n u d a b))/\Below w.heap.size w w':=by
 have below:∀ o o',Below w.heap.size w ((w.alloc o).alloc o'):=fun o o'=>((aB _ _).alloc (aA _) _).alloc (by simp) _;obtain ⟨t,ht⟩:∃ t,u+d=t:=⟨_,rfl⟩;have ht2:-9223372036854775808<=t/\t<=9223372036854775807:=by omega
 unfold rf;rw [ht]
 by_cases h1:0<n
 · by_cases h2:a=2
   · rw [if_pos ⟨h1,h2⟩];subst h2;go_enter Tryz.func148,Tryz.ntmps148;exact K0
   · have h2':(a==2)=false:=by rw [beq_eq_false_iff_ne];exact h2
     rw [if_neg (fun h=>h2 h.2)]
     by_cases h3:0<t
     · by_cases h4:b=2
       · rw [if_pos ⟨h3,h4⟩];subst h4;go_enter Tryz.func148,Tryz.ntmps148;exact K0
       · have h4':(b==2)=false:=by rw [beq_eq_false_iff_ne];exact h4
         rw [if_neg (fun h=>h4 h.2)];go_enter Tryz.func148,Tryz.ntmps148;exact K0
     · have h3':decide (0<t)=false:=decide_eq_false h3;rw [if_neg (fun h=>h3 h.1)];go_enter Tryz.func148,Tryz.ntmps148;exact K0
 · have h1':decide (0<n)=false:=decide_eq_false h1;rw [if_neg (fun h=>h1 h.1)]
   by_cases h3:0<t
   · by_cases h4:b=2
     · rw [if_pos ⟨h3,h4⟩];subst h4;go_enter Tryz.func148,Tryz.ntmps148;exact K0
     · have h4':(b==2)=false:=by rw [beq_eq_false_iff_ne];exact h4
       rw [if_neg (fun h=>h4 h.2)];go_enter Tryz.func148,Tryz.ntmps148;exact K0
   · have h3':decide (0<t)=false:=decide_eq_false h3;rw [if_neg (fun h=>h3 h.1)];go_enter Tryz.func148,Tryz.ntmps148;exact K0
theorem GD (x:Nat) (n u d m p a:Int) (w:World) (hx:x<18446744073709551616) (hn:0<=n/\n<=65536) (hu:0<=u/\u<=65536) (hd:0<=d/\d<=65536) (hm:0<=m/\m<=65536) (hp:0<=p/\p<=65536) (ha:0<=a/\a<=65536) :
 Calls Tryz.prog 183 #[.agg #[.int .i64 n,.int .i64 u,.int .i64 d,.int .i64 m,.int .i64 p,.int .i64 a],.float .f64 x] w fun r w' =>
  r=.returned (.agg #[.int .i64 (n+one 5 x),.int .i64 (u+one 3 x),.int .i64 (d+one 4 x),.int .i64 (m+one 1 x),.int .i64 (p+one 2 x),.int .i64 (a+1)])/\Below w.heap.size w w':=by
 have H:=hid (DJ x hx);have hk:=I9 x;obtain ⟨k,hkk⟩:∃ k,kd x=k:=⟨_,rfl⟩;unfold one;rw [hkk] at H hk |-;clear hkk;obtain rfl|rfl|rfl|rfl|rfl|rfl:k=0\/k=1\/k=2\/k=3\/k=4\/k=5:=by omega
 all_goals
  simp;go_enter Tryz.func183,Tryz.ntmps183;go_wp2_with fail;refine (H.o _).mono ?_;rintro r w1 ⟨rfl,rfl⟩;go_wp2;refine aC (v:=.agg #[.int .i64 _,.int .i64 _,.int .i64 _,.int .i64 _,.int .i64 _,.int .i64 _]) (by simp [results,Tryz.results183,go_sem]) rfl ⟨rfl,(by repeat (first | exact aB _ _ | assumption | exact aA _ | (simp;done) | (simp;omega) | refine Below.alloc ?_ ?_ _ | refine Below.setCell ?_ ?_ _ | refine nV ?_))⟩
open Go.RowKit
open Go.Proofs.YteginbngplldaaaGreatDoor.B (aV aD bw aN)
attribute [local go_sem] aV aD
theorem iL.made (w:World) (n u d m p a:Int):iL (w.alloc (.cells #[.int .i64 n,.int .i64 u,.int .i64 d,.int .i64 m,.int .i64 p,.int .i64 a] 99)) w.heap.size n u d m p a:=gK w _
def LH (w:World) (g:Nat) (xs:List Nat) (a:Int):Prop:=iL w g (cn 5 xs:Nat) (cn 3 xs:Nat) (cn 4 xs:Nat) (cn 1 xs:Nat) (cn 2 xs:Nat) a
theorem uL (k:Nat) (xs:List Nat) (n:Nat) (h:xs.length<=n) (hn:n<=65536):0<=((cn k xs:Nat):Int)/\((cn k xs:Nat):Int)<=65536:=by have:=Zi k xs;omega
theorem iL.uY {w:World}{g:Nat}{n u d m p a:Int}(h:iL w g n u d m p a) (n' u' d' m' p' a':Int) :
 iL ((((((w.setCell ⟨g,0,none⟩ (.int .i64 n')).setCell ⟨g,1,none⟩ (.int .i64 u')).setCell ⟨g,2,none⟩ (.int .i64 d')).setCell ⟨g,3,none⟩ (.int .i64 m')).setCell ⟨g,4,none⟩ (.int .i64 p')).setCell ⟨g,5,none⟩ (.int .i64 a')) g n' u' d' m' p' a':=by
 unfold iL at h |-;simp [World.setCell,jW,h]
theorem But.uY {a w:World}{g:Nat}(h:But g a w) (u0 u1 u2 u3 u4 u5:Value) :
 But g a ((((((w.setCell ⟨g,0,none⟩ u0).setCell ⟨g,1,none⟩ u1).setCell ⟨g,2,none⟩ u2).setCell ⟨g,3,none⟩ u3).setCell ⟨g,4,none⟩ u4).setCell ⟨g,5,none⟩ u5) :=
 ((((((h.set 0 u0).set 1 u1).set 2 u2).set 3 u3).set 4 u4).set 5 u5)
theorem cset {w:World}{b o:Nat}{u:Value}(h:w.cell? ⟨b,o,none⟩=some u) (v:Value):(w.setCell ⟨b,o,none⟩ v).cell? ⟨b,o,none⟩=some v:=by
 simp only [World.cell?] at h |-;simp only [World.setCell,jW]
 cases hb:w.heap[b]? with
 | none=>rw [hb] at h;simp at h
 | some ob =>
   rw [hb] at h
   cases ob <;> simp_all
   rename_i cs _ _
   by_cases hl:o<cs.size
   · simp [hl]
   · rw [Array.getElem?_eq_none (by omega)] at h;cases h
theorem rU (w:World) (b o:Nat) (v:Value):(w.setCell ⟨b,o,none⟩ v).cell? ⟨b,o,none⟩=(w.cell? ⟨b,o,none⟩).map (fun _=>v):=by
 cases h:w.cell? ⟨b,o,none⟩ with
 | some u=>rw [cset h v];rfl
 | none =>
   simp only [World.cell?] at h |-;simp only [World.setCell,jW]
   cases hb:w.heap[b]? with
   | none=>simp
   | some ob =>
     rw [hb] at h
     cases ob <;> simp_all
theorem Az (xs:List Nat) (ao:Option Addr) (n cap B:Nat) (w:World) (hn:n=xs.length) (hm:n<=65536) (hx:Wf xs) (hR:Rd B w ao xs) (hB:B<=w.heap.size) :
 Calls Tryz.prog 147 #[.slice ao n cap] w fun r w'=>r=.returned (.agg #[.int .i64 (cn 5 xs:Nat),.int .i64 (cn 3 xs:Nat),.int .i64 (cn 4 xs:Nat),.int .i64 (cn 1 xs:Nat),.int .i64 (cn 2 xs:Nat),.int .i64 (n:Nat)])/\Below w.heap.size w w':=by
 obtain ⟨W1,hW1⟩:=af (w.alloc (.cells #[.int .i64 0,.int .i64 0,.int .i64 0,.int .i64 0,.int .i64 0,.int .i64 0] 99));obtain ⟨W2,hW2⟩:=af (W1.alloc (.cells #[.int .i64 0,.int .i64 0,.int .i64 0,.int .i64 0,.int .i64 0,.int .i64 0] 99));have hs1:W1.heap.size=w.heap.size+1:=by rw [hW1];simp
 have hs2:W2.heap.size=w.heap.size+2:=by rw [hW2];simp [hs1]
 have hbw:Below w.heap.size w W2:=by rw [hW2,hW1];exact ((aB _ _).alloc (aA _) _).alloc (by simp) _
 have hb0:iL W1 w.heap.size 0 0 0 0 0 0:=by rw [hW1];exact iL.made _ _ _ _ _ _ _
 have hb1:iL W2 (w.heap.size+1) 0 0 0 0 0 0:=by rw [hW2,<-hs1];exact iL.made _ _ _ _ _ _ _
 have hb2:iL W2 w.heap.size 0 0 0 0 0 0:=by
  refine hb0.below (B:=W1.heap.size) ?_ (by omega);rw [hW2];exact (aB _ _).alloc (aA _) _
 have HX:=(x8 hn hx hR hB hs2 hbw hb1 hb2 hW1 hW2);clear hn hx hR hB hs1 hs2 hbw hb0 hb1 hb2 hW1 hW2;go_enter Tryz.func147,Tryz.ntmps147;go_wp2
 go_loopg [4] n (fun gk iv wr=>∃ (i:Nat),gk+i=n/\iv=.int .i64 (i:Nat)/\Aside (LH wr (w.heap.size+1) (xs.take i) (i:Nat)/\But (w.heap.size+1) W2 wr))
 case atStart =>
  obtain ⟨hn,hx,hR,hB,hs2,hbw,hb1,hb2,hW1,hW2⟩:=HX.o;refine ⟨0,by omega,rfl,?_,?_⟩
  · rw [<-hW1,<-hW2];unfold LH;simpa [WV] using hb1
  · rw [<-hW1,<-hW2];exact But.refl _ _
 case round =>
  obtain ⟨i,hi,rfl,HA⟩:=hrel;obtain ⟨hn,hx,hR,hB,hs2,hbw,hb1,hb2,hW1,hW2⟩:=HX.o;obtain ⟨hS,aF⟩:=HA.o;have hT:=hS;unfold LH at hT;have hc0:=hT.c0;have hc1:=hT.c1;have hc2:=hT.c2;have hc3:=hT.c3;have hc4:=hT.c4;have X4:=hT.c5;have hfz:=hT.frozen;have hlt:=hT.lt;have hr:=hb2.but aF (by omega);have hg0:=hr.c0;have hg1:=hr.c1;have hg2:=hr.c2;have hg3:=hr.c3;have hg4:=hr.c4;have hg5:=hr.c5;have hgf:=hr.frozen;have hgl:=hr.lt
  by_cases hin:i=n
  · obtain rfl:gk=0:=by omega
    have e:xs.take i=xs:=gz (by omega);rw [e] at hc0 hc1 hc2 hc3 hc4;clear hn hx hR hB hs2 hbw hb1 hb2 hW1 hW2 hS aF hT hr e;subst hin;go_wp2;refine aC (v:=.agg #[.int .i64 (cn 5 xs:Nat),.int .i64 (cn 3 xs:Nat),.int .i64 (cn 4 xs:Nat),.int .i64 (cn 1 xs:Nat),.int .i64 (cn 2 xs:Nat),.int .i64 (i:Nat)]) (by simp [results,Tryz.results147,go_sem,rU,hg0,hg1,hg2,hg3,hg4,hg5]) rfl ⟨rfl,?_⟩;obtain ⟨hn,hx,hR,hB,hs2,hbw,hb1,hb2,hW1,hW2⟩:=HX.o;obtain ⟨hS,aF⟩:=HA.o;have h1:Below w.heap.size w wr:=But.below hbw aF (by omega) (by omega);exact But.below h1 (But.uY (But.refl _ _) _ _ _ _ _ _) (by omega) (aA _)
  · have hil:i<n:=by omega
    have TA:Rd w.heap.size wr ao xs:=((hR.mono hB).below hbw).but aF (by omega) (by omega);obtain ⟨b,off,hlt2,rfl,hcell⟩:=TA (by intro e;rw [e] at hn;simp at hn;omega);have Nw:=hcell i (by omega);have JE:=hx.get i;have WX:=fun k=>pz k xs i (by omega);obtain ⟨x,fC⟩:∃ x,xs.getD i 0=x:=⟨_,rfl⟩;rw [fC] at Nw JE WX;have l1:(xs.take i).length<=65536:=by rw [gm];omega
    have HC:=hid (fun w=>GD x (cn 5 (xs.take i):Nat) (cn 3 (xs.take i):Nat) (cn 4 (xs.take i):Nat) (cn 1 (xs.take i):Nat) (cn 2 (xs.take i):Nat) (i:Nat) w JE (uL _ _ _ l1 (aA _)) (uL _ _ _ l1 (aA _)) (uL _ _ _ l1 (aA _)) (uL _ _ _ l1 (aA _)) (uL _ _ _ l1 (aA _)) (by omega));have HS:=ak WX;obtain ⟨c5,e5⟩:∃ c,cn 5 (xs.take i)=c:=⟨_,rfl⟩;obtain ⟨c3,e3⟩:∃ c,cn 3 (xs.take i)=c:=⟨_,rfl⟩;obtain ⟨c4,e4⟩:∃ c,cn 4 (xs.take i)=c:=⟨_,rfl⟩;obtain ⟨c1,e1⟩:∃ c,cn 1 (xs.take i)=c:=⟨_,rfl⟩;obtain ⟨c2,e2⟩:∃ c,cn 2 (xs.take i)=c:=⟨_,rfl⟩;have HSB:=hid hT;rw [e5,e3,e4,e1,e2] at HSB;rw [e5] at HC hc0;rw [e3] at HC hc1;rw [e4] at HC hc2;rw [e1] at HC hc3;rw [e2] at HC hc4;have HE:=(dK e1 e2 e3 e4 e5);clear hn hx hR hB hs2 hbw hb1 hb2 hW1 hW2 hS aF hT hr hg0 hg1 hg2 hg3 hg4 hg5 hgf hgl hin JE WX fC l1 e1 e2 e3 e4 e5 TA hcell hfz;go_wp2
    go_region_with (go_at_call 183;refine (HC.o _).mono ?_;rintro r w3 ⟨rfl,hb3⟩;have HQ:=ak (iL.below (w:=wr.drew) HSB.o hb3 hlt);have q0:=HQ.o.c0;have q1:=HQ.o.c1;have q2:=HQ.o.c2;have q3:=HQ.o.c3;have q4:=HQ.o.c4;have q5:=HQ.o.c5;have qf:=HQ.o.frozen;have HB3:=ak hb3;clear hb3)
    all_goals
     go_wp2;go_roundg (n-(i+1))
     case measure=>omega
     case rel =>
      obtain ⟨hS,aF⟩:=HA.o;obtain ⟨e1,e2,e3,e4,e5⟩:=HE.o;refine ⟨i+1,by omega,by first | go_num | (congr 1;omega),?_,?_⟩
      · have h6:=iL.uY HQ.o ((c5:Int)+one 5 x) ((c3:Int)+one 3 x) ((c4:Int)+one 4 x) ((c1:Int)+one 1 x) ((c2:Int)+one 2 x) ((i:Int)+1);unfold LH;rw [HS.o 5,HS.o 3,HS.o 4,HS.o 1,HS.o 2,e1,e2,e3,e4,e5]
        first | exact h6 | exact_mod_cast h6
      · exact aF.trans (Ps.But.uY (But.of_below (w:=wr.drew) ((But.refl _ wr).drew) HB3.o) _ _ _ _ _ _)
open Go.RowKit
open Go.Proofs.YteginbngplldaaaGreatDoor.B (aV aD bw aN)
attribute [local go_sem] aV aD
def fin (xs:List Nat):List Nat:=xs.filter (fun x=>decide (kd x<=2))
theorem xK (xs ys:List Nat):fin (xs++ys)=fin xs++fin ys:=by simp [fin,List.filter_append]
theorem GG (xs:List Nat):(fin xs).length<=xs.length:=List.length_filter_le _ _
theorem PE (xs:List Nat) (i:Nat) (h:i<xs.length) (hk:kd (xs.getD i 0)<=2):fin (xs.take (i+1))=fin (xs.take i)++[xs.getD i 0]:=by
 rw [qD xs i h,xK];simp [fin];simpa [gN] using hk
theorem Ja (xs:List Nat) (i:Nat) (h:i<xs.length) (hk:¬ kd (xs.getD i 0)<=2):fin (xs.take (i+1))=fin (xs.take i):=by
 rw [qD xs i h,xK];simp [fin];simpa [gN] using hk
def bO (a b:Int) (xs:List Nat):Int:=if may a b=false then 1 else if 65536<xs.length then 2 else rf (cn 5 xs:Nat) (cn 3 xs:Nat) (cn 4 xs:Nat) a b
def D8 (a b:Int) (xs:List Nat):List Nat:=if bO a b xs=0 then fin xs else []
def D9 (a b:Int) (xs:List Nat):Value:=if bO a b xs=0 then .agg #[.int .i64 (cn 5 xs:Nat),.int .i64 (cn 3 xs:Nat),.int .i64 (cn 4 xs:Nat),.int .i64 (cn 1 xs:Nat),.int .i64 (cn 2 xs:Nat),.int .i64 (xs.length:Nat)] else .agg #[.int .i64 0,.int .i64 0,.int .i64 0,.int .i64 0,.int .i64 0,.int .i64 0]
def dY (w:World) (a b:Int) (xs:List Nat) (r:Ending) (w':World):Prop:=∃ v,r=.returned (.tuple #[v,D9 a b xs,.int .i64 (bO a b xs)])/\Lt w.heap.size w' v (D8 a b xs)/\Below w.heap.size w w'
theorem dY.no {w w':World}{a b:Int}{xs:List Nat}(e:Int) (he:bO a b xs=e) (h0:e≠0) (hb:Below w.heap.size w w'):dY w a b xs (.returned (.tuple #[.slice none 0 0,.agg #[.int .i64 0,.int .i64 0,.int .i64 0,.int .i64 0,.int .i64 0,.int .i64 0],.int .i64 e])) w':=by
 subst he;refine ⟨.slice none 0 0,?_,?_,hb⟩
 · unfold D9;rw [if_neg h0]
 · unfold D8;rw [if_neg h0];exact Lt.nil _ _
theorem dY.yes {w w':World}{a b:Int}{xs:List Nat}{v:Value}(he:bO a b xs=0) (hv:Rw w.heap.size w' v (fin xs).length ((fin xs).map U)) (hb:Below w.heap.size w w') :
 dY w a b xs (.returned (.tuple #[v,.agg #[.int .i64 (cn 5 xs:Nat),.int .i64 (cn 3 xs:Nat),.int .i64 (cn 4 xs:Nat),.int .i64 (cn 1 xs:Nat),.int .i64 (cn 2 xs:Nat),.int .i64 (xs.length:Nat)],.int .i64 0])) w':=by
 refine ⟨v,?_,?_,hb⟩
 · rw [he];unfold D9;rw [if_pos he]
 · unfold D8;rw [if_pos he];exact hv
theorem Rw.below {lo:Nat}{w w':World}{v:Value}{n:Nat}{ys:List Value}(h:Rw lo w v n ys) (hb:Below w.heap.size w w'):Rw lo w' v n ys :=
 LA.row h (LA.below hb)
theorem Rw.but {lo g:Nat}{w w':World}{v:Value}{n:Nat}{ys:List Value}(h:Rw lo w v n ys) (hb:But g w w') {cur:Array Value}{e:TypeId}(he:e≠23) (hg:w.heap[g]?=some (.cells cur e (0,0))):Rw lo w' v n ys:=by
 refine sW h fun k hk=>?_;rcases h.2 with ⟨rfl,_⟩|⟨g2,cap,c2,rfl,_,hg2,_⟩
 · cases hk
 · cases hk
   refine hb.block _ (fP.1 hg2).1 (fun e2=>?_);subst e2;rw [hg] at hg2
   cases hg2
   exact he rfl
theorem Rw.mono {lo lo':Nat}{w:World}{v:Value}{n:Nat}{ys:List Value}(h:Rw lo w v n ys) (hl:lo'<=lo):Rw lo' w v n ys:=by
 exact xf
theorem Rw.low {lo:Nat}{w:World}{v:Value}{n:Nat}{ys:List Value}(h:Rw lo w v n ys):∀ b,v.ownBlock=some b->lo<=b:=by
 intro b hb;rcases h.2 with ⟨rfl,_⟩|⟨g,cap,cur,rfl,hlo,_⟩
 · cases hb
 · cases hb;exact hlo
theorem LJ (n:Nat) (hn:n<=65536) (w:World) :
 (Instr.makeSlice 27 (.int .i64 0) (.int .i64 (n:Nat))).run Tryz.prog w=.ok (.slice (some ⟨w.heap.size,0,none⟩) 0 n) (w.alloc (.cells (madeCells #[.float .f64 0] n) 23)):=by
 obtain ⟨i0,hi,hz0,hz1,hz2⟩:=info_parts Tryz.PD;have hr:=run_make (P:=Tryz.prog) w 27 23 i0 (.float .f64 0) Tryz.underlying27 hi hz0 .i64 .i64 0 (n:Int) (Int.le_refl _) (by omega) (by rw [hz2];omega) (by omega);rw [hz1,eG] at hr;simp only [mh,Int.toNat_zero] at hr;exact hr
theorem PG (lo:Nat) (w:World) (n:Nat) (hn:n<=65536) (hlo:lo<=w.heap.size):Rw lo (w.alloc (.cells (madeCells #[.float .f64 0] n) 23)) (.slice (some ⟨w.heap.size,0,none⟩) 0 n) 0 []:=by
 refine ⟨rfl,.inr ⟨w.heap.size,n,madeCells #[.float .f64 0] n,rfl,hlo,gK w _,by omega,by unfold maxLen;omega,?_,?_⟩⟩
 · have:=congrArg List.length (toList_madeCells_one (.float .f64 0) n);simpa using this
 · simp
theorem push (lo:Nat) (w:World) (v:Value) (ys:List Nat) (x:Nat) (hrow:Rw lo w v ys.length (ys.map U)) (hn:ys.length<=65536) (hlo:lo<=w.heap.size) :
 ∃ v' w',(Builtin.append_ #[27,27] 27 #[v,.slice (some ⟨w.heap.size,0,none⟩) 1 1]).run Tryz.prog (w.alloc (.cells #[.float .f64 x] 23))=.ok v' w'/\Rw lo w' v' (ys++[x]).length ((ys++[x]).map U) /\
   Below lo w w'/\(∀ (g:Nat) (cur:Array Value) (e:TypeId),e≠23->w.heap[g]?=some (.cells cur e (0,0))->w'.heap[g]?=some (.cells cur e (0,0)))/\w.heap.size<=w'.heap.size:=by
 obtain ⟨v',w',h1,h2,h3,_,_⟩:=lT (w.alloc (.cells #[.float .f64 x] 23)) lo v ys.length (ys.map U) (.float .f64 x) w.heap.size 27 (hrow.alloc _) (by unfold World.cell?;simp only [gK];rfl) rfl (by omega) (by simp;omega);refine ⟨v',w',h1,by simpa [U] using h2,((aB lo w).alloc hlo _).grown h3 (by simp;omega) hrow.low,?_,by have:=h3.size;simp at this;omega⟩;intro g cur e he hg;have hgl:=(fP.1 hg).1;rw [h3.block g (by simp;omega) (fun e2=>?_),Below.heap_alloc _ _ _ hgl]
 · exact hg
 · rcases hrow.2 with ⟨rfl,_⟩ | ⟨g2,cap,c2,rfl,_,hg2,_⟩
   · cases e2
   · cases e2
     rw [hg] at hg2
     cases hg2
     exact he rfl
structure SI (lo sb:Nat) (W1:World) (xs:List Nat) (i:Nat) (a:Int) (v:Value) (wr:World):Prop where
 row:Rw lo wr v (fin (xs.take i)).length ((fin (xs.take i)).map U)
 sp:LH wr sb (xs.take i) a
 au:Below lo W1 wr
 size:W1.heap.size<=wr.heap.size
theorem SI.kind {lo sb:Nat}{W1:World}{xs:List Nat}{i:Nat}{a:Int}{v:Value}{wr w1:World}(h:SI lo sb W1 xs i a v wr) (hb:Below wr.heap.size wr w1) (hlo:lo<=wr.heap.size):SI lo sb W1 xs i a v w1 :=
 ⟨h.row.below hb,iL.below h.sp hb (iL.lt h.sp),h.au.trans (hb.mono hlo),dC h.size hb.size⟩
theorem SI.o {lo sb:Nat}{W1:World}{xs:List Nat}{i:Nat}{a:Int}{v:Value}{wr w2:World}(h:SI lo sb W1 xs i a v wr) (hi:i<xs.length) (hs:LH w2 sb (xs.take (i+1)) a) (hb:But sb wr w2) (hlo:lo<=sb) (hl:lo<=wr.heap.size) (hk:¬ kd (xs.getD i 0)<=2):SI lo sb W1 xs (i+1) a v w2 :=
 ⟨by rw [Ja xs i hi hk];exact h.row.but hb (by decide) h.sp,hs,But.below h.au hb hl hlo,dC h.size hb.size⟩
theorem SI.row2 {lo sb:Nat}{W1:World}{xs:List Nat}{i:Nat}{a:Int}{v:Value}{wr w2:World}(h:SI lo sb W1 xs i a v wr) (hb:But sb wr w2):Rw lo w2 v (fin (xs.take i)).length ((fin (xs.take i)).map U):=h.row.but hb (by decide) h.sp
theorem iL.keep {w w':World}{g:Nat}{n u d m p a:Int}(h:iL w g n u d m p a) (hk:∀ (g:Nat) (cur:Array Value) (e:TypeId),e≠23->w.heap[g]?=some (.cells cur e (0,0))->w'.heap[g]?=some (.cells cur e (0,0))):iL w' g n u d m p a :=
 hk _ _ _ (by decide) h
theorem SI.into {lo sb:Nat}{W1:World}{xs:List Nat}{i:Nat}{a:Int}{v v':Value}{wr w2 w3:World}(h:SI lo sb W1 xs i a v wr) (hi:i<xs.length) (hs:LH w2 sb (xs.take (i+1)) a) (hb:But sb wr w2) (hlo:lo<=sb) (hl:lo<=wr.heap.size) (hk:kd (xs.getD i 0)<=2)
 (hrow:Rw lo w3 v' (fin (xs.take i)++[xs.getD i 0]).length ((fin (xs.take i)++[xs.getD i 0]).map U)) (hb3:Below lo w2 w3) (hkeep:∀ (g:Nat) (cur:Array Value) (e:TypeId),e≠23->w2.heap[g]?=some (.cells cur e (0,0))->w3.heap[g]?=some (.cells cur e (0,0))) (hsz:w2.heap.size<=w3.heap.size):SI lo sb W1 xs (i+1) a v' w3 :=
 ⟨by rw [PE xs i hi hk];exact hrow,iL.keep hs hkeep,(But.below h.au hb hl hlo).trans hb3,dC (dC h.size hb.size) hsz⟩
theorem WY (x:Nat) (n u d m p:Nat):(if kp (kd x)=0 then ((n:Nat):Int)+1 else n)=((n+one 5 x:Nat):Int)/\(if kp (kd x)=1 then ((u:Nat):Int)+1 else u)=((u+one 3 x:Nat):Int)/\(if kp (kd x)=2 then ((d:Nat):Int)+1 else d)=((d+one 4 x:Nat):Int) /\
 (if kp (kd x)=3 then ((m:Nat):Int)+1 else m)=((m+one 1 x:Nat):Int)/\(if kp (kd x)=4 then ((p:Nat):Int)+1 else p)=((p+one 2 x:Nat):Int):=by
 have hk:=I9 x;unfold one;generalize kd x=k at hk;obtain rfl|rfl|rfl|rfl|rfl|rfl:k=0\/k=1\/k=2\/k=3\/k=4\/k=5:=by omega
 all_goals simp [kp]
theorem Zj (x:Nat):3<=kp (kd x)↔kd x<=2:=by
 have hk:=I9 x;generalize kd x=k at hk;obtain rfl|rfl|rfl|rfl|rfl|rfl:k=0\/k=1\/k=2\/k=3\/k=4\/k=5:=by omega
 all_goals simp [kp]
theorem Zl (x:Nat):kp (kd x)<=5:=by unfold kp;(repeat' split) <;> omega
theorem LH.counted {w w':World}{sb:Nat}{xs:List Nat}{i:Nat}{a:Int}(hi:i<xs.length)
 (h:iL w' sb (if kp (kd (xs.getD i 0))=0 then ((cn 5 (xs.take i):Nat):Int)+1 else ((cn 5 (xs.take i):Nat):Int)) (if kp (kd (xs.getD i 0))=1 then ((cn 3 (xs.take i):Nat):Int)+1 else ((cn 3 (xs.take i):Nat):Int)) (if kp (kd (xs.getD i 0))=2 then ((cn 4 (xs.take i):Nat):Int)+1 else ((cn 4 (xs.take i):Nat):Int)) (if kp (kd (xs.getD i 0))=3 then ((cn 1 (xs.take i):Nat):Int)+1 else ((cn 1 (xs.take i):Nat):Int)) (if kp (kd (xs.getD i 0))=4 then ((cn 2 (xs.take i):Nat):Int)+1 else ((cn 2 (xs.take i):Nat):Int)) a) :
 LH w' sb (xs.take (i+1)) a:=by
 obtain ⟨h1,h2,h3,h4,h5⟩:=WY (xs.getD i 0) (cn 5 (xs.take i)) (cn 3 (xs.take i)) (cn 4 (xs.take i)) (cn 1 (xs.take i)) (cn 2 (xs.take i));rw [h1,h2,h3,h4,h5] at h;unfold LH;rw [pz 5 xs i hi,pz 3 xs i hi,pz 4 xs i hi,pz 1 xs i hi,pz 2 xs i hi];exact h
end Ps
namespace Ps
open Go.RowKit
open Go.Proofs.YteginbngplldaaaGreatDoor.B (aV aD bw aN)
attribute [local go_sem] aV aD
theorem PH (xs:List Nat) (ao:Option Addr) (n cap:Nat) (a b:Int) (w:World) (hm:may a b=false) :
 Calls Tryz.prog 78 #[.slice ao n cap,.agg #[.int .i64 a,.int .i64 b]] w (dY w a b xs):=by
 have H:=hid (vP a b);rw [hm] at H;have HE:Aside (bO a b xs=1):=by unfold bO;rw [hm];rfl
 clear hm;go_enter Tryz.func78,Tryz.ntmps78;go_wp2_with fail;refine (H.o _).mono ?_;rintro r w1 ⟨rfl,hb⟩;have hsz:=hb.size;simp at hsz;obtain ⟨hc,hf⟩:=aN hb;have HB:=ak hb;clear hb;go_wp2;refine aC (v:=.tuple #[.slice none 0 0,.agg #[.int .i64 0,.int .i64 0,.int .i64 0,.int .i64 0,.int .i64 0,.int .i64 0],.int .i64 1]) (by simp [results,Tryz.results78,go_sem,rU,hc]) rfl (dY.no 1 HE.o (by decide) ?_);exact But.below ((((aB _ w).alloc (aA _) _).alloc (by simp) _).trans (HB.o.mono (by simp;omega))) (But.uY (But.refl (w.heap.size+1) _) _ _ _ _ _ _) (by omega) (by omega)
theorem LK (xs:List Nat) (ao:Option Addr) (n cap:Nat) (a b:Int) (w:World) (hn:n=xs.length) (hm:may a b=true) (hl:65536<n) (hn2:n<=35184372088832) :
 Calls Tryz.prog 78 #[.slice ao n cap,.agg #[.int .i64 a,.int .i64 b]] w (dY w a b xs):=by
 have H:=hid (vP a b);rw [hm] at H;have HE:Aside (bO a b xs=2):=by unfold bO;rw [if_neg (by rw [hm];decide),if_pos (by omega),Aside]
 clear hm hn;go_enter Tryz.func78,Tryz.ntmps78;go_wp2_with fail;refine (H.o _).mono ?_;rintro r w1 ⟨rfl,hb⟩;have hsz:=hb.size;simp at hsz;obtain ⟨hc,hf⟩:=aN hb;have HB:=ak hb;clear hb;go_wp2;refine aC (v:=.tuple #[.slice none 0 0,.agg #[.int .i64 0,.int .i64 0,.int .i64 0,.int .i64 0,.int .i64 0,.int .i64 0],.int .i64 2]) (by simp [results,Tryz.results78,go_sem,rU,hc]) rfl (dY.no 2 HE.o (by decide) ?_);exact But.below ((((aB _ w).alloc (aA _) _).alloc (by simp) _).trans (HB.o.mono (by simp;omega))) (But.uY (But.refl (w.heap.size+1) _) _ _ _ _ _ _) (by omega) (by omega)
theorem Qal{P:Prop}(h:P:=by
 exact But.below HV.o.1 (But.uY (But.refl (w.heap.size+1) _) _ _ _ _ _ _) (by omega) (by omega)):P:=h
theorem xl{P:Prop}(h:P:=by
 have h1:=iL.made (w.alloc (.cells #[.int .i64 a,.int .i64 b] 26)) 0 0 0 0 0 0;simp only [dw] at h1;exact h1.below hb (by simp)):P:=h
theorem q6{P:Prop}(h:P:=by
 go_roundg (n-(i+1))
 case measure=>omega
 case rel=>exact ⟨i+1,by omega,by first | go_num | (congr 1;omega),HI⟩):P:=h
set_option maxRecDepth 100000 in
theorem LM (xs:List Nat) (ao:Option Addr) (n cap B:Nat) (a b:Int) (w:World) (hn:n=xs.length) (hm:may a b=true) (hl:n<=65536) (hx:Wf xs) (hR:Rd B w ao xs) (hB:B<=w.heap.size) :
 Calls Tryz.prog 78 #[.slice ao n cap,.agg #[.int .i64 a,.int .i64 b]] w (dY w a b xs):=by
 have H:=hid (vP a b);rw [hm] at H;have HE:Aside (bO a b xs=rf (cn 5 xs:Nat) (cn 3 xs:Nat) (cn 4 xs:Nat) a b):=by unfold bO;rw [if_neg (by rw [hm];decide),if_neg (by omega),Aside]
 have hmk:=LJ n hl;have HX:=(fF hn hx hR hB);clear hm hn hx hR hB;go_enter Tryz.func78,Tryz.ntmps78;go_wp2_with fail;refine (H.o _).mono ?_;rintro r w1 ⟨rfl,hb⟩;have hsz:=hb.size;simp at hsz;obtain ⟨hc,hf⟩:=aN hb;have HB:=ak hb
 have HZ:Aside (iL w1 (w.heap.size+1) 0 0 0 0 0 0):=by
  exact xl
 clear hb;go_wp2
 go_loopg [7,28] n (fun gk lv cv wr=>∃ (i:Nat),gk+i=n/\cv=.int .i64 (i:Nat)/\Aside (SI w1.heap.size (w1.heap.size+1) w1 xs i (n:Nat) lv wr))
 case atStart =>
  refine ⟨0,by omega,rfl,?_⟩;have h1:=(PG w1.heap.size w1 n hl (aA _)).alloc (.cells #[.int .i64 0,.int .i64 0,.int .i64 0,.int .i64 0,.int .i64 0,.int .i64 (n:Nat)] 99);have h2:=iL.made (w1.alloc (.cells (madeCells #[.float .f64 0] n) 23)) 0 0 0 0 0 (n:Nat);simp only [dw] at h2;exact ⟨h1,h2,((aB _ _).alloc (aA _) _).alloc (by simp) _,by simp;omega⟩
 case round =>
  obtain ⟨i,hi,rfl,HA⟩:=hrel
  by_cases hin:i=n
  · obtain rfl:gk=0:=by omega
    obtain ⟨hn,hx,hR,hB⟩:=HX.o;have hS:=HA.o;have e:xs.take i=xs:=gz (by omega);have hT:=hS.sp;unfold LH at hT;rw [e] at hT;have hc0:=hT.c0;have hc1:=hT.c1;have hc2:=hT.c2;have hc3:=hT.c3;have hc4:=hT.c4;have X4:=hT.c5;have hlt:=hT.lt;have hcb:∀ b o,b<w1.heap.size->wr.cell? ⟨b,o,none⟩=w1.cell? ⟨b,o,none⟩:=fun b o h=>hS.au.cell (p:=⟨b,o,none⟩) h;have hp0:wr.cell? ⟨w.heap.size,0,none⟩=some (.int .i64 a):=by rw [hcb _ _ (by omega),hc _ _ (by simp;omega)];simp [go_sem]
    have hp1:wr.cell? ⟨w.heap.size,1,none⟩=some (.int .i64 b):=by rw [hcb _ _ (by omega),hc _ _ (by simp;omega)];simp [go_sem]
    have hZ:iL wr (w.heap.size+1) 0 0 0 0 0 0:=HZ.o.below hS.au (by omega);have hbd:=fun k=>uL k xs n (by omega) hl;have WZ:=hid (fun w=>D5 (cn 5 xs:Nat) (cn 3 xs:Nat) (cn 4 xs:Nat) (cn 1 xs:Nat) (cn 2 xs:Nat) (n:Nat) a b w (hbd 3) (hbd 4));obtain ⟨ee,W9⟩:∃ ee,rf (cn 5 xs:Nat) (cn 3 xs:Nat) (cn 4 xs:Nat) a b=ee:=⟨_,rfl⟩;have HEE:Aside (bO a b xs=ee):=by rw [Aside,HE.o,W9]
    rw [W9] at WZ;obtain ⟨c5,e5⟩:∃ c,cn 5 xs=c:=⟨_,rfl⟩;obtain ⟨c3,e3⟩:∃ c,cn 3 xs=c:=⟨_,rfl⟩;obtain ⟨c4,e4⟩:∃ c,cn 4 xs=c:=⟨_,rfl⟩;obtain ⟨c1,e1⟩:∃ c,cn 1 xs=c:=⟨_,rfl⟩;obtain ⟨c2,e2⟩:∃ c,cn 2 xs=c:=⟨_,rfl⟩;rw [e5,e3,e4,e1,e2] at hT WZ;rw [e5] at hc0;rw [e3] at hc1;rw [e4] at hc2;rw [e1] at hc3;rw [e2] at hc4;have HY:=(su hZ hT e e1 e2 e3 e4 e5);have hBs:=hS.size;clear hn hx hR hB hS hT e hcb hbd W9 e1 e2 e3 e4 e5 hZ;subst hin;go_wp2_with fail;refine (WZ.o _).mono ?_;rintro r w5 ⟨rfl,hb5⟩;obtain ⟨hZ,hT,e,e1,e2,e3,e4,e5⟩:=HY.o;have tY:=hZ.below hb5 hZ.lt;have BI:=hT.below hb5 hT.lt;have XH:=HA.o.row.below hb5;have hZf:=tY.frozen;have hz0:=tY.c0;have hz1:=tY.c1;have hz2:=tY.c2;have hz3:=tY.c3;have BS:=tY.c4;have BX:=tY.c5;have ht0:=BI.c0;have ht1:=BI.c1;have ht2:=BI.c2;have ht3:=BI.c3;have ht4:=BI.c4;have ht5:=BI.c5;have hzl:=tY.lt;have jX:Below w.heap.size w w5:=((((aB _ w).alloc (aA _) _).alloc (by simp) _).trans (HB.o.mono (by simp;omega))).trans ((HA.o.au.mono (by omega)).trans (hb5.mono (by omega)));have HV:=(x8 jX XH tY BI e e1 e2 e3 e4 e5);clear hZ hT e e1 e2 e3 e4 e5 hb5 tY BI XH jX hc0 hc1 hc2 hc3 hc4 X4 hp0 hp1 HY
    by_cases h0:ee=0
    · subst h0;go_wp2
      go_region
      all_goals
       go_wp2;refine aC (v:=.tuple #[u7,.agg #[.int .i64 (c5:Nat),.int .i64 (c3:Nat),.int .i64 (c4:Nat),.int .i64 (c1:Nat),.int .i64 (c2:Nat),.int .i64 (i:Nat)],.int .i64 0]) (by simp [results,Tryz.results78,go_sem,rU,hz0,hz1,hz2,hz3,BS,BX]) rfl ?_;obtain ⟨jX,XH,tY,BI,e,e1,e2,e3,e4,e5⟩:=HV.o;have aF:But (w.heap.size+1) w5 _:=(But.uY (But.refl (w.heap.size+1) w5) (.int .i64 (c5:Nat)) (.int .i64 (c3:Nat)) (.int .i64 (c4:Nat)) (.int .i64 (c1:Nat)) (.int .i64 (c2:Nat)) (.int .i64 (i:Nat))).drew;have Zm:=Rw.mono (Rw.but XH aF (by decide) tY) (show w.heap.size<=w1.heap.size by omega);rw [e] at Zm;have PI:=dY.yes HEE.o Zm (But.below jX aF (by omega) (by omega));rw [<-HX.o.1,e1,e2,e3,e4,e5] at PI;exact PI
    · have h0':(ee==0)=false:=by rw [beq_eq_false_iff_ne];exact h0
      go_wp2;refine aC (v:=.tuple #[.slice none 0 0,.agg #[.int .i64 0,.int .i64 0,.int .i64 0,.int .i64 0,.int .i64 0,.int .i64 0],.int .i64 ee]) (by simp [results,Tryz.results78,go_sem,rU,hz0,hz1,hz2,hz3,BS,BX]) rfl (dY.no ee HEE.o h0 ?_);exact Qal
  · have hil:i<n:=by omega
    obtain ⟨hn,hx,hR,hB⟩:=HX.o;have hS:=HA.o;have hbw:Below w.heap.size w wr:=((((aB _ w).alloc (aA _) _).alloc (by simp) _).trans (HB.o.mono (by simp;omega))).trans (hS.au.mono (by omega));have TA:Rd w.heap.size wr ao xs:=(hR.mono hB).below hbw;obtain ⟨bb,off,hlt2,rfl,hcell⟩:=TA (by intro e;rw [e] at hn;simp at hn;omega);have Nw:=hcell i (by omega);have JE:=hx.get i;obtain ⟨x,fC⟩:∃ x,xs.getD i 0=x:=⟨_,rfl⟩;rw [fC] at Nw JE;have HK:=hid (Pt x JE);have hk5:=Zl x;have hk3:=Zj x;obtain ⟨kk,hkk⟩:∃ kk,kp (kd x)=kk:=⟨_,rfl⟩;rw [hkk] at HK hk5 hk3;have l1:(xs.take i).length<=65536:=by rw [gm];omega
    have hbd:=fun k=>uL k (xs.take i) 65536 l1 (aA _);have hwl:=hS.size;have HY:=(iM fC hkk hk3 hbd hn hlt2);clear hn hx hR hB hS hbw TA hcell fC hkk hk3 hbd l1 hin;go_wp2_with fail;refine (HK.o _).mono ?_;rintro r w2 ⟨rfl,hb2⟩;have HS2:=ak (SI.kind HA.o hb2 hwl);have Xa:w2.cell? ⟨bb,off+i,none⟩=some (.float .f64 x):=by rw [hb2.cell (p:=⟨bb,off+i,none⟩) (by have:=HY.o.r5;simp;omega)];exact Nw
    have hsz2:=hb2.size;have HC:=hid (LF kk (w1.heap.size+1) _ _ _ _ _ _ w2 hk5 HS2.o.sp (HY.o.r3.1 5) (HY.o.r3.1 3) (HY.o.r3.1 4) (HY.o.r3.1 1) (HY.o.r3.1 2));clear hb2 Nw;go_wp2_with fail;refine fG HC.o ?_;rintro r w3 ⟨rfl,hs3,xL⟩;obtain ⟨fC,hkk,hk3,hbd,hn,hlt2⟩:=HY.o;have TB:LH w3 (w1.heap.size+1) (xs.take (i+1)) (n:Nat):=LH.counted (w:=w2) (by omega) (by rw [fC,hkk];exact hs3);have hsz3:=xL.size
    have hxc3:w3.cell? ⟨bb,off+i,none⟩=some (.float .f64 x):=by
     have h9:=(But.below (aB w1.heap.size w2) xL (by omega) (by omega)).cell (p:=⟨bb,off+i,none⟩) (by simp;omega);rw [h9];exact Xa
    by_cases hk2:kd x<=2
    · have hge:(3:Int)<=(kk:Int):=by have:=hk3.2 hk2;omega
      obtain ⟨v',w4,hap,hrow4,hb4,PK,Xb⟩:=push w1.heap.size w3 u7 (fin (xs.take i)) x (SI.row2 HS2.o xL) (by have h1:=GG (xs.take i);rw [gm] at h1;omega) (by omega);have HI:=ak (SI.into (v':=v') HS2.o (by omega) TB xL (by omega) (by omega) (by rw [fC];exact hk2) (by rw [fC];exact hrow4) hb4 PK Xb);have Fg:=hid hap;clear hap hrow4 hb4 PK Xb hs3 TB xL fC hkk hk3 hbd hn hlt2 hk2 Xa
      go_wp2_with (at_builtin;refine cZ rfl (.tmp 40) (.tmp 45) 27 rfl _ _ rfl rfl _ _ Fg.o ?_)
      exact q6
    · have hge:decide ((3:Int)<=(kk:Int))=false:=decide_eq_false (fun h=>hk2 (hk3.1 (by omega)));have HI:=ak (SI.o HS2.o (by omega) TB xL (by omega) (by omega) (by rw [fC];exact hk2));clear hs3 TB xL fC hkk hk3 hbd hn hlt2 hk2 Xa;go_wp2;exact q6
theorem PL (xs:List Nat) (ao:Option Addr) (n cap B:Nat) (a b:Int) (w:World) (hn:n=xs.length) (hm:n<=35184372088832) (hx:Wf xs) (hR:Rd B w ao xs) (hB:B<=w.heap.size) :
 Calls Tryz.prog 78 #[.slice ao n cap,.agg #[.int .i64 a,.int .i64 b]] w (dY w a b xs):=by
 rcases h:may a b with _|_
 · exact PH xs ao n cap a b w h
 · by_cases hl:65536<n
   · exact LK xs ao n cap a b w hn h hl hm
   · exact LM xs ao n cap B a b w hn h (by omega) hx hR hB
end Ps
namespace Ps
open Go.RowKit
open Go.Proofs.YteginbngplldaaaGreatDoor.B (aV aD bw aN)
attribute [local go_sem] aV aD
theorem LU (xs:List Nat) (ao:Option Addr) (n cap:Nat) (a b:Int) (w:World) (hm:may a b=false) :
 Calls Tryz.prog 102 #[.slice ao n cap,.agg #[.int .i64 a,.int .i64 b]] w (dY w a b xs):=by
 have H:=hid (oF a b);rw [hm] at H;have HE:Aside (bO a b xs=1):=by unfold bO;rw [hm];rfl
 clear hm;go_enter Tryz.func102,Tryz.ntmps102;go_wp2_with fail;refine (H.o _).mono ?_;rintro r w1 ⟨rfl,hb⟩;have hsz:=hb.size;simp at hsz;obtain ⟨hc,hf⟩:=aN hb;have HB:=ak hb;clear hb;go_wp2;refine aC (v:=.tuple #[.slice none 0 0,.agg #[.int .i64 0,.int .i64 0,.int .i64 0,.int .i64 0,.int .i64 0,.int .i64 0],.int .i64 1]) (by simp [results,Tryz.results102,go_sem,rU,hc]) rfl (dY.no 1 HE.o (by decide) ?_);exact But.below ((((aB _ w).alloc (aA _) _).alloc (by simp) _).trans (HB.o.mono (by simp;omega))) (But.uY (But.refl (w.heap.size+1) _) _ _ _ _ _ _) (by omega) (by omega)
theorem GH (xs:List Nat) (ao:Option Addr) (n cap:Nat) (a b:Int) (w:World) (hn:n=xs.length) (hm:may a b=true) (hl:65536<n) (hn2:n<=35184372088832) :
 Calls Tryz.prog 102 #[.slice ao n cap,.agg #[.int .i64 a,.int .i64 b]] w (dY w a b xs):=by
 have H:=hid (oF a b);rw [hm] at H;have HE:Aside (bO a b xs=2):=by unfold bO;rw [if_neg (by rw [hm];decide),if_pos (by omega),Aside]
 clear hm hn;go_enter Tryz.func102,Tryz.ntmps102;go_wp2_with fail;refine (H.o _).mono ?_;rintro r w1 ⟨rfl,hb⟩;have hsz:=hb.size;simp at hsz;obtain ⟨hc,hf⟩:=aN hb;have HB:=ak hb;clear hb;go_wp2;refine aC (v:=.tuple #[.slice none 0 0,.agg #[.int .i64 0,.int .i64 0,.int .i64 0,.int .i64 0,.int .i64 0,.int .i64 0],.int .i64 2]) (by simp [results,Tryz.results102,go_sem,rU,hc]) rfl (dY.no 2 HE.o (by decide) ?_);exact But.below ((((aB _ w).alloc (aA _) _).alloc (by simp) _).trans (HB.o.mono (by simp;omega))) (But.uY (But.refl (w.heap.size+1) _) _ _ _ _ _ _) (by omega) (by omega)
set_option maxRecDepth 100000 in
theorem GI (xs:List Nat) (ao:Option Addr) (n cap B:Nat) (a b:Int) (w:World) (hn:n=xs.length) (hm:may a b=true) (hl:n<=65536) (hx:Wf xs) (hR:Rd B w ao xs) (hB:B<=w.heap.size) :
 Calls Tryz.prog 102 #[.slice ao n cap,.agg #[.int .i64 a,.int .i64 b]] w (dY w a b xs):=by
 have H:=hid (oF a b);rw [hm] at H;obtain ⟨ee,W9⟩:∃ ee,rf (cn 5 xs:Nat) (cn 3 xs:Nat) (cn 4 xs:Nat) a b=ee:=⟨_,rfl⟩;have HE:Aside (bO a b xs=ee):=by unfold bO;rw [if_neg (by rw [hm];decide),if_neg (by omega),Aside];exact W9
 have hbd:=fun k=>uL k xs n (by omega) hl;have WZ:=hid (fun w=>D6 (cn 5 xs:Nat) (cn 3 xs:Nat) (cn 4 xs:Nat) (cn 1 xs:Nat) (cn 2 xs:Nat) (n:Nat) a b w (hbd 3) (hbd 4));have HOF:=hid (fun w B hR hB=>Az xs ao n cap B w hn hl hx hR hB);rw [W9] at WZ;obtain ⟨c5,e5⟩:∃ c,cn 5 xs=c:=⟨_,rfl⟩;obtain ⟨c3,e3⟩:∃ c,cn 3 xs=c:=⟨_,rfl⟩;obtain ⟨c4,e4⟩:∃ c,cn 4 xs=c:=⟨_,rfl⟩;obtain ⟨c1,e1⟩:∃ c,cn 1 xs=c:=⟨_,rfl⟩;obtain ⟨c2,e2⟩:∃ c,cn 2 xs=c:=⟨_,rfl⟩;rw [e5,e3,e4,e1,e2] at WZ HOF;have HX:=(QL hn hx hR hB e1 e2 e3 e4 e5);clear hm hn hx hR hB hbd W9 e1 e2 e3 e4 e5;go_enter Tryz.func102,Tryz.ntmps102;go_wp2_with fail;refine (H.o _).mono ?_;rintro r w1 ⟨rfl,hb⟩;have hsz:=hb.size;simp at hsz;have Xc:Below w.heap.size w w1:=(((aB _ w).alloc (aA _) _).alloc (by simp) _).trans (hb.mono (by simp;omega))
 have hZ1:iL w1 (w.heap.size+1) 0 0 0 0 0 0:=by
  exact xl
 have hp:w1.heap[w.heap.size]?=some (.cells #[.int .i64 a,.int .i64 b] 26 (0,0)):=by
  rw [hb.block w.heap.size (by simp;omega),Below.heap_alloc _ _ _ (by simp)];exact gK w _
 have HP:=(cK Xc hZ1 hp);have HRW:=hid ((HX.o.r2.1.mono HX.o.r3.1).below Xc);clear hb Xc hZ1 hp;go_wp2_with fail;refine (HOF.o _ _ HRW.o (by omega)).mono ?_;rintro r w2 ⟨rfl,hb2⟩;have hsz2:=hb2.size;obtain ⟨W3,hW3⟩:=af (w2.alloc (.cells #[.int .i64 (c5:Nat),.int .i64 (c3:Nat),.int .i64 (c4:Nat),.int .i64 (c1:Nat),.int .i64 (c2:Nat),.int .i64 (n:Nat)] 99));have hT3:iL W3 w2.heap.size (c5:Nat) (c3:Nat) (c4:Nat) (c1:Nat) (c2:Nat) (n:Nat):=by rw [hW3];exact iL.made _ _ _ _ _ _ _
 have hb3:Below w1.heap.size w1 W3:=by rw [hW3];exact hb2.alloc (by omega) _
 have hs3:W3.heap.size=w2.heap.size+1:=by rw [hW3];simp
 have hp3:W3.heap[w.heap.size]?=some (.cells #[.int .i64 a,.int .i64 b] 26 (0,0)):=by rw [hb3.block _ (by omega)];exact HP.o.r2
 have hq0:W3.cell? ⟨w.heap.size,0,none⟩=some (.int .i64 a):=by simp [World.cell?,hp3]
 have hq1:W3.cell? ⟨w.heap.size,1,none⟩=some (.int .i64 b):=by simp [World.cell?,hp3]
 have hcw0:w2.cell? ⟨w.heap.size,0,none⟩=some (.int .i64 a):=by rw [hb2.cell (p:=⟨w.heap.size,0,none⟩) (by simp;omega)];have:=HP.o.r2;simp [World.cell?,this]
 have hcw1:w2.cell? ⟨w.heap.size,1,none⟩=some (.int .i64 b):=by rw [hb2.cell (p:=⟨w.heap.size,1,none⟩) (by simp;omega)];have:=HP.o.r2;simp [World.cell?,this]
 have hlt2:w.heap.size<w2.heap.size:=by omega
 have HQ:=(cK hT3 hb3 hW3);clear hb2 hT3 hb3 hp3 hq0 hq1 hW3;go_wp2_with fail;refine (WZ.o _).mono ?_;rintro r w4 ⟨rfl,hb4⟩;have PM:Below W3.heap.size W3 w4:=by rw [HQ.o.r2];exact hb4
 have U9:=HQ.o.1.below PM HQ.o.1.lt;have GJ:=(HP.o.2.1.below HQ.o.2.1 HP.o.2.1.lt).below PM (by have:=HP.o.2.1.lt;omega);have Xb:=PM.size;have wG:Below w.heap.size w w4:=HP.o.1.trans ((HQ.o.2.1.mono (by omega)).trans (PM.mono (by omega)));have QP:=GJ.frozen;have hz0:=GJ.c0;have hz1:=GJ.c1;have hz2:=GJ.c2;have hz3:=GJ.c3;have BS:=GJ.c4;have BX:=GJ.c5;have HV:=(cK wG U9 GJ);clear hb4 PM U9 GJ wG hcw0 hcw1
 by_cases h0:ee=0
 · subst h0;clear QP hz0 hz1 hz2 hz3 BS BX;go_wp2
   go_loopg [10,11] n (fun gk lv cv wr=>∃ (i:Nat),gk+i=n/\cv=.int .i64 (i:Nat)/\Aside (Rw w4.heap.size wr lv (fin (xs.take i)).length ((fin (xs.take i)).map U)/\Below w4.heap.size w4 wr/\w4.heap.size<=wr.heap.size))
   case atStart=>exact ⟨0,by omega,rfl,zY _ _ _ _,aB _ _,aA _⟩
   case round =>
    obtain ⟨i,hi,rfl,HA⟩:=hrel;obtain ⟨hrow,hbel,hwl⟩:=HA.o;obtain ⟨wG,U9,GJ⟩:=HV.o;obtain ⟨hn,hx,hR,hB,e1,e2,e3,e4,e5⟩:=HX.o;have tY:=GJ.below hbel GJ.lt;have BI:=U9.below hbel U9.lt
    by_cases hin:i=n
    · obtain rfl:gk=0:=by omega
      have e:xs.take i=xs:=gz (by omega);have hZf:=tY.frozen;have hz0:=tY.c0;have hz1:=tY.c1;have hz2:=tY.c2;have hz3:=tY.c3;have BS:=tY.c4;have BX:=tY.c5;have ht0:=BI.c0;have ht1:=BI.c1;have ht2:=BI.c2;have ht3:=BI.c3;have ht4:=BI.c4;have ht5:=BI.c5;have hzl:=tY.lt;have jX:Below w.heap.size w wr:=wG.trans (hbel.mono (by omega));have HV2:=(fF jX hrow tY e);clear hn hx hR hB wG U9 GJ hrow hbel tY BI jX e e1 e2 e3 e4 e5;subst hin;go_wp2
      go_region
      all_goals
       go_wp2;refine aC (v:=.tuple #[u10,.agg #[.int .i64 (c5:Nat),.int .i64 (c3:Nat),.int .i64 (c4:Nat),.int .i64 (c1:Nat),.int .i64 (c2:Nat),.int .i64 (i:Nat)],.int .i64 0]) (by simp [results,Tryz.results102,go_sem,rU,hz0,hz1,hz2,hz3,BS,BX]) rfl ?_;obtain ⟨jX,XH,tY,e⟩:=HV2.o;obtain ⟨hn,hx,hR,hB,e1,e2,e3,e4,e5⟩:=HX.o;have aF:But (w.heap.size+1) wr _:=(But.uY (But.refl (w.heap.size+1) wr) (.int .i64 (c5:Nat)) (.int .i64 (c3:Nat)) (.int .i64 (c4:Nat)) (.int .i64 (c1:Nat)) (.int .i64 (c2:Nat)) (.int .i64 (i:Nat))).drew;have Zm:=Rw.mono (Rw.but XH aF (by decide) tY) (show w.heap.size<=w4.heap.size by omega);rw [e] at Zm;have PI:=dY.yes HE.o Zm (But.below jX aF (by omega) (by omega));rw [<-hn,e1,e2,e3,e4,e5] at PI;exact PI
    · have hil:i<n:=by omega
      have jX:Below w.heap.size w wr:=wG.trans (hbel.mono (by omega));have TA:Rd w.heap.size wr ao xs:=(hR.mono hB).below jX;obtain ⟨bb,off,hlt2,rfl,hcell⟩:=TA (by intro e;rw [e] at hn;simp at hn;omega);have Nw:=hcell i (by omega);have JE:=hx.get i;obtain ⟨x,fC⟩:∃ x,xs.getD i 0=x:=⟨_,rfl⟩;rw [fC] at Nw JE;have HK:=hid (DJ x JE);obtain ⟨kk,hkk⟩:∃ kk,kd x=kk:=⟨_,rfl⟩;rw [hkk] at HK
      by_cases hk2:kk<=2
      · have hle:(kk:Int)<=2:=by omega
        obtain ⟨v',w6,hap,Va,hb6,Xd,hsz6⟩:=push w4.heap.size wr u10 (fin (xs.take i)) x hrow (by have h1:=GG (xs.take i);rw [gm] at h1;omega) hwl
        have HI:Aside (Rw w4.heap.size w6 v' (fin (xs.take (i+1))).length ((fin (xs.take (i+1))).map U)/\Below w4.heap.size w4 w6/\w4.heap.size<=w6.heap.size):=by
         rw [PE xs i (by omega) (by rw [fC,hkk];exact hk2),fC];exact ⟨Va,hbel.trans hb6,by omega⟩
        have Fg:=hid hap;clear hn hx hR hB wG U9 GJ hrow hbel tY BI jX e1 e2 e3 e4 e5 TA hcell JE fC hkk hap Va hb6 Xd hsz6 hk2 hin;go_wp2_with fail;refine (HK.o _).mono ?_;rintro r w5 ⟨rfl,rfl⟩
        go_wp2_with (at_builtin;refine cZ rfl (.tmp 44) (.tmp 49) 27 rfl _ _ rfl rfl _ _ Fg.o ?_)
        exact q6
      · have hle:decide ((kk:Int)<=2)=false:=decide_eq_false (by omega)
        have HI:Aside (Rw w4.heap.size wr u10 (fin (xs.take (i+1))).length ((fin (xs.take (i+1))).map U)/\Below w4.heap.size w4 wr/\w4.heap.size<=wr.heap.size):=by
         rw [Ja xs i (by omega) (by rw [fC,hkk];exact hk2)];exact ⟨hrow,hbel,hwl⟩
        clear hn hx hR hB wG U9 GJ hrow hbel tY BI jX e1 e2 e3 e4 e5 TA hcell JE fC hkk hk2 hin;go_wp2_with fail;refine (HK.o _).mono ?_;rintro r w5 ⟨rfl,rfl⟩;go_wp2;exact q6
 · have h0':(ee==0)=false:=by rw [beq_eq_false_iff_ne];exact h0
   go_wp2;refine aC (v:=.tuple #[.slice none 0 0,.agg #[.int .i64 0,.int .i64 0,.int .i64 0,.int .i64 0,.int .i64 0,.int .i64 0],.int .i64 ee]) (by simp [results,Tryz.results102,go_sem,rU,hz0,hz1,hz2,hz3,BS,BX]) rfl (dY.no ee HE.o h0 ?_);exact Qal
theorem LV (xs:List Nat) (ao:Option Addr) (n cap B:Nat) (a b:Int) (w:World) (hn:n=xs.length) (hm:n<=35184372088832) (hx:Wf xs) (hR:Rd B w ao xs) (hB:B<=w.heap.size) :
 Calls Tryz.prog 102 #[.slice ao n cap,.agg #[.int .i64 a,.int .i64 b]] w (dY w a b xs):=by
 rcases h:may a b with _|_
 · exact LU xs ao n cap a b w h
 · by_cases hl:65536<n
   · exact GH xs ao n cap a b w hn h hl hm
   · exact GI xs ao n cap B a b w hn h (by omega) hx hR hB
end Ps
section
open Go.RowKit
theorem Nt.al' {lo:Nat}{w:World}{v:Value}{X:Nat}(h:Nt lo w v X) (hl:(ws X).length<=2000000):Al w v X:=by
 obtain ⟨a,c,rfl,hA⟩:=h.arg (by omega);exact ⟨a,_,c,_,rfl,hA,ah _,hl⟩
theorem oG {w:World}{v u:Value}{X Y:Nat}(h1:Al w v X) (h2:Al w u Y):Calls Tryz.prog 111 #[v,u] w fun r w'=>∃ p,r=.returned p/\Nt w.heap.size w' p (X*Y)/\Below w.heap.size w w':=by
 obtain ⟨a,l,c,xs,rfl,hA,rfl,hl⟩:=h1;obtain ⟨b,k,d,ys,rfl,hB,rfl,hk⟩:=h2;exact kR hA hB (by omega) rfl
theorem xM {w:World}{v u:Value}{X Y:Nat}{e f:Int}(h1:Al w v X) (h2:Al w u Y) (be:-9223372036854775808<=e/\e<=9223372036854775807) (bf:-9223372036854775808<=f/\f<=9223372036854775807) :
 Calls Tryz.prog 190 #[v,.int .i64 e,u,.int .i64 f] w fun r w'=>r=.returned (.int .i64 (UQ X e Y f))/\Below w.heap.size w w':=by
 obtain ⟨a,l,c,xs,rfl,hA,rfl,hl⟩:=h1;obtain ⟨b,k,d,ys,rfl,hB,rfl,hk⟩:=h2;exact Dh hA hB hl hk e f be.1 be.2 bf.1 bf.2
theorem Ea {w:World}{n m:Bool}{p a b:Option Addr}{lp cp la ca lb cb A X Y:Nat}{g e f:Int}(hA:Al w (.slice p lp cp) A) (hN:Al w (.slice a la ca) X) (hD:Al w (.slice b lb cb) Y) (he:-9223372036854775808<=e/\e<=9223372036854775807) (h g2:Int) (e2:IntKind.i64.wrap (g+f)=h) (hh:-9223372036854775808<=h/\h<=9223372036854775807) (P:Nat) (hP:A*Y=P) (hl:(ws P).length<=2000000) :
 Calls Tryz.prog 186 #[.slice p lp cp,.int .i64 g,.agg #[.bool n,.slice a la ca,.int .i64 e,.bool m,.slice b lb cb,.int .i64 f],.bool false] w fun r w'=>r=.returned (.int .i64 (UQ P h X e))/\Below w.heap.size w w':=by
 obtain ⟨W1,hW1⟩:=af (w.alloc (.cells #[.bool n,.slice a la ca,.int .i64 e,.bool m,.slice b lb cb,.int .i64 f] 73));have hB:Below w.heap.size w W1:=by rw [hW1];exact ae _ _
 have LW:Rq W1 w.heap.size n (.slice a la ca) e m (.slice b lb cb) f:=by rw [hW1];exact Rq.new _ _ _ _ _ _ _
 have S0:=(dK hB LW (hA.below hB) (hN.below hB) (hD.below hB));have BD:=(fF he hh hl hP);clear hB LW hA hN hD he hh hl hP;go_enter Tryz.func186,Tryz.ntmps186
 go_upto_region 1 with fail
 rw [<-hW1];clear hW1;obtain ⟨x0,x1,x2,x3,x4,x5⟩:=S0.o.2.1.facts
 go_upto_region 6 with fail
 have dr:Below W1.heap.size W1 W1.drew:=(aB _ _).drew;have T1:=hid (oG S0.o.r2.1 S0.o.r4);have T2:=hid (oG (S0.o.r2.1.below dr) (S0.o.r4.below dr));rw [BD.o.r3] at T1 T2;clear dr
 go_region_held3 (fun w'=>w'.cell? ⟨w.heap.size,0,none⟩=some (.bool n)/\w'.cell? ⟨w.heap.size,1,none⟩=some (.slice a la ca)/\w'.cell? ⟨w.heap.size,2,none⟩=some (.int .i64 e)/\w'.cell? ⟨w.heap.size,3,none⟩=some (.bool m)/\w'.cell? ⟨w.heap.size,4,none⟩=some (.slice b lb cb)/\w'.cell? ⟨w.heap.size,5,none⟩=some (.int .i64 f)) (go_keep) (first
  | (go_at_call 111
     first | with_reducible refine T1.o.mono ?_ | with_reducible refine T2.o.mono ?_
     rintro r v1 ⟨pv,rfl,hN,hb⟩;obtain ⟨q1,d1,rfl,-⟩:=hN.shape;have hb1:Below W1.heap.size W1 v1:=by first | exact hb | exact ((aB _ W1).drew).trans (hb.mono (aA _))
     obtain ⟨au,QR,AX,AN,AD⟩:=S0.o;obtain ⟨m0,m1,m2,m3,m4,m5⟩:=(QR.below hb1).facts;have T3:=hid (xM (hN.al' BD.o.r2.1) (AN.below hb1) BD.o.2.1 BD.o.1);have S4:=(aK (au.trans (hb1.mono au.size)) (QR.below hb1))
     clear hN hb hb1 au QR AX AN AD)
  | (go_at_call 190
     with_reducible refine T3.o.mono ?_
     rintro r v2 ⟨rfl,hb⟩;obtain ⟨au,QR⟩:=S4.o;obtain ⟨k0,k1,k2,k3,k4,k5⟩:=(QR.below hb).facts;have S5:=ak (au.trans (hb.mono au.size))
     clear hb au QR))
 all_goals (
  go_wp2;go_ret
  exact ⟨rfl,S5.o⟩)
theorem Eb {w:World}{n m:Bool}{p a b:Option Addr}{lp cp la ca lb cb A X Y:Nat}{g e f:Int}(hA:Al w (.slice p lp cp) A) (hN:Al w (.slice a la ca) X) (hD:Al w (.slice b lb cb) Y) (he:-9223372036854775808<=e/\e<=9223372036854775807) (h g2:Int) (e1:IntKind.i64.wrap (2*g)=g2) (e2:IntKind.i64.wrap (g2+f)=h) (hh:-9223372036854775808<=h/\h<=9223372036854775807) (P:Nat) (hP:(A*A)*Y=P) (hl:(ws P).length<=2000000) (hl2:(ws (A*A)).length<=2000000) :
 Calls Tryz.prog 186 #[.slice p lp cp,.int .i64 g,.agg #[.bool n,.slice a la ca,.int .i64 e,.bool m,.slice b lb cb,.int .i64 f],.bool true] w fun r w'=>r=.returned (.int .i64 (UQ P h X e))/\Below w.heap.size w w':=by
 obtain ⟨W1,hW1⟩:=af (w.alloc (.cells #[.bool n,.slice a la ca,.int .i64 e,.bool m,.slice b lb cb,.int .i64 f] 73));have hB:Below w.heap.size w W1:=by rw [hW1];exact ae _ _
 have LW:Rq W1 w.heap.size n (.slice a la ca) e m (.slice b lb cb) f:=by rw [hW1];exact Rq.new _ _ _ _ _ _ _
 have S0:=(dK hB LW (hA.below hB) (hN.below hB) (hD.below hB));have BD:=(fF he hh hl hP);clear hB LW hA hN hD he hh hl hP;go_enter Tryz.func186,Tryz.ntmps186
 go_upto_region 1 with fail
 rw [<-hW1];clear hW1;have HC:=hid (oG S0.o.r2.1 S0.o.r2.1);have HL2:=ak hl2;clear hl2;go_wp2_with fail;refine HC.o.mono ?_;rintro r U ⟨v,rfl,hN,hb⟩;obtain ⟨q2,d2,rfl,-⟩:=hN.shape;have S1:=(dK (S0.o.1.trans (hb.mono S0.o.1.size)) (S0.o.2.1.below hb) (hN.al' HL2.o) (S0.o.r3.1.below hb) (S0.o.r4.below hb));clear HC hN hb S0 HL2;obtain ⟨x0,x1,x2,x3,x4,x5⟩:=S1.o.2.1.facts
 go_upto_region 6 with fail
 have dr:Below U.heap.size U U.drew:=(aB _ _).drew;have T1:=hid (oG S1.o.r2.1 S1.o.r4);have T2:=hid (oG (S1.o.r2.1.below dr) (S1.o.r4.below dr));rw [BD.o.r3] at T1 T2;clear dr
 go_region_held3 (fun w'=>w'.cell? ⟨w.heap.size,0,none⟩=some (.bool n)/\w'.cell? ⟨w.heap.size,1,none⟩=some (.slice a la ca)/\w'.cell? ⟨w.heap.size,2,none⟩=some (.int .i64 e)/\w'.cell? ⟨w.heap.size,3,none⟩=some (.bool m)/\w'.cell? ⟨w.heap.size,4,none⟩=some (.slice b lb cb)/\w'.cell? ⟨w.heap.size,5,none⟩=some (.int .i64 f)) (go_keep) (first
  | (go_at_call 111
     first | with_reducible refine T1.o.mono ?_ | with_reducible refine T2.o.mono ?_
     rintro r v1 ⟨pv,rfl,hN,hb⟩;obtain ⟨q1,d1,rfl,-⟩:=hN.shape;have hb1:Below U.heap.size U v1:=by first | exact hb | exact ((aB _ U).drew).trans (hb.mono (aA _))
     obtain ⟨au,QR,AX,AN,AD⟩:=S1.o;obtain ⟨m0,m1,m2,m3,m4,m5⟩:=(QR.below hb1).facts;have T3:=hid (xM (hN.al' BD.o.r2.1) (AN.below hb1) BD.o.2.1 BD.o.1);have S4:=(aK (au.trans (hb1.mono au.size)) (QR.below hb1))
     clear hN hb hb1 au QR AX AN AD)
  | (go_at_call 190
     with_reducible refine T3.o.mono ?_
     rintro r v2 ⟨rfl,hb⟩;obtain ⟨au,QR⟩:=S4.o;obtain ⟨k0,k1,k2,k3,k4,k5⟩:=(QR.below hb).facts;have S5:=ak (au.trans (hb.mono au.size))
     clear hb au QR))
 all_goals (
  go_wp2;go_ret
  exact ⟨rfl,S5.o⟩)
def tZ (mode:Int) (n:Bool) (k:Nat) (z hv:Int):Nat:=if z=0 then k else if jU mode k hv n then k+1 else k
theorem TC {w:World}{v u:Value}{X Y:Nat}(h1:Al w v X) (h2:Al w u Y):Calls Tryz.prog 153 #[v,u] w fun r w'=>∃ p,r=.returned p/\Nt w.heap.size w' p (X+Y)/\Below w.heap.size w w':=by
 obtain ⟨a,l,c,xs,rfl,hA,rfl,hl⟩:=h1;obtain ⟨b,k,d,ys,rfl,hB,rfl,hk⟩:=h2;exact yZ hA hB (by omega) (by omega) rfl
theorem kz (w:World) (dg ls:Int) (En:Nat) (n:Bool) (v:Value) (e:Int) (m:Bool) (u:Value) (f:Int) (W:World) (hW:W=(w.alloc (.cells #[.int .i64 dg,.int .i64 ls,.int .u64 (En:Nat)] 118)).alloc (.cells #[.bool n,v,.int .i64 e,.bool m,u,.int .i64 f] 73)) :
 Below w.heap.size w W/\Zk W w.heap.size dg ls En/\Rq W (w.heap.size+1) n v e m u f:=by
 rw [hW];refine ⟨(ae w _).alloc (by simp) _,?_,?_⟩
 · have h:Zk (w.alloc (.cells #[.int .i64 dg,.int .i64 ls,.int .u64 (En:Nat)] 118)) w.heap.size dg ls En:=gK _ _;exact h.below (ae _ _)
 · have:=Rq.new (w.alloc (.cells #[.int .i64 dg,.int .i64 ls,.int .u64 (En:Nat)] 118)) n v e m u f;rw [dw] at this;exact this
theorem Xe {w:World}{n m:Bool}{a b:Option Addr}{la ca lb cb:Nat}{e f:Int}(dg ls:Int) (En:Nat) (k k1 g h q fm hv:Int) (A Bv SM:Nat) (sq:Bool)
 (hk1:IntKind.u64.wrap (k+1)=k1) (hq:IntKind.i64.wrap (h-g)=q) (hq0:0<=q) (hq1:q<=1) (hfm:IntKind.i64.wrap (g-1)=fm) (hS:A+Bv*2^q.toNat=SM) (hB0:Bv≠0) (lA:(ws A).length<=8192) (lB:(ws Bv).length<=8192) (lM:(ws (Bv*2^q.toNat)).length<=8192) (lS:(ws SM).length<=8192)
 (HN1:Hid (∀ u:World,Calls Tryz.prog 185 #[.agg #[.int .i64 dg,.int .i64 ls,.int .u64 (En:Nat)],.int .u64 k] u fun r w'=>∃ v,r=.returned (.tuple #[v,.int .i64 g])/\Nt u.heap.size w' v A/\Below u.heap.size u w'))
 (HN2:Hid (∀ u:World,Calls Tryz.prog 185 #[.agg #[.int .i64 dg,.int .i64 ls,.int .u64 (En:Nat)],.int .u64 k1] u fun r w'=>∃ v,r=.returned (.tuple #[v,.int .i64 h])/\Nt u.heap.size w' v Bv/\Below u.heap.size u w'))
 (HA:Hid (∀ (u:World) (p:Option Addr) (l c:Nat),Below w.heap.size w u->Al u (.slice p l c) SM->Calls Tryz.prog 186 #[.slice p l c,.int .i64 fm,.agg #[.bool n,.slice a la ca,.int .i64 e,.bool m,.slice b lb cb,.int .i64 f],.bool sq] u fun r w'=>r=.returned (.int .i64 hv)/\Below u.heap.size u w')) :
 Calls Tryz.prog 187 #[.agg #[.int .i64 dg,.int .i64 ls,.int .u64 (En:Nat)],.int .u64 k,.agg #[.bool n,.slice a la ca,.int .i64 e,.bool m,.slice b lb cb,.int .i64 f],.bool sq] w fun r w'=>r=.returned (.int .i64 hv)/\Below w.heap.size w w':=by
 obtain ⟨W1,hW1⟩:=af ((w.alloc (.cells #[.int .i64 dg,.int .i64 ls,.int .u64 (En:Nat)] 118)).alloc (.cells #[.bool n,.slice a la ca,.int .i64 e,.bool m,.slice b lb cb,.int .i64 f] 73));obtain ⟨hB,Z,QR⟩:=kz w dg ls En n _ e m _ f W1 hW1;obtain ⟨p0,p1,p2⟩:=Z.facts;have S0:=(cK hB Z QR);have LN:=(su lA lB lM lS hB0 hS hq0 hq1);have H1:=hid (HN1.o W1);clear hB Z QR lA lB lM lS hB0 hS hq0 hq1 HN1;go_enter Tryz.func187,Tryz.ntmps187
 go_upto_region 1 with fail
 rw [<-hW1];clear hW1;go_wp2_with fail;clear p0 p1 p2;refine H1.o.mono ?_;rintro r u1 ⟨v,rfl,hN,hb⟩;obtain ⟨a1,c1,rfl,-⟩:=hN.shape;have S1:=(fF (S0.o.1.trans (hb.mono S0.o.1.size)) (S0.o.2.1.below hb) (S0.o.r2.below hb) (hN.al' (dC LN.o.1 (by decide))));clear hN hb S0 H1;obtain ⟨p0,p1,p2⟩:=S1.o.2.1.facts;have H2:=hid (HN2.o u1);clear HN2;go_wp2_with fail;clear p0 p1 p2;refine H2.o.mono ?_;rintro r u2 ⟨v,rfl,hN,hb⟩;have H3:=hid (oZ hN q (by have:=LN.o;omega) (by have:=LN.o;omega) LN.o.r4.1 (dC LN.o.2.1 (by decide)));obtain ⟨a2,c2,rfl,-⟩:=hN.shape;have S2:=(cK (S1.o.1.trans (hb.mono S1.o.1.size)) (S1.o.r2.1.below hb) (S1.o.r3.below hb));clear hN hb S1 H2;rw [if_neg (by have:=LN.o;omega)] at H3;go_wp2_with fail;refine H3.o.mono ?_;rintro r u3 ⟨v,rfl,hN,hb⟩;obtain ⟨a3,c3,rfl,-⟩:=hN.shape;have S3:=(aK (S2.o.1.trans (hb.mono S2.o.1.size)) (S2.o.2.1.below hb));have H4:=hid (TC (S2.o.r2.below hb) (hN.al' (dC LN.o.r2.1 (by decide))));rw [LN.o.r5.1] at H4;clear hN hb S2 H3;go_wp2_with fail;refine H4.o.mono ?_;rintro r u4 ⟨v,rfl,hN,hb⟩;obtain ⟨a4,c4,rfl,-⟩:=hN.shape;have S4:=(aK (S3.o.1.trans (hb.mono S3.o.1.size)) (S3.o.2.below hb));obtain ⟨x0,x1,x2,x3,x4,x5⟩:=S4.o.2.facts;have H5:=hid (HA.o u4 _ _ _ S4.o.1 (hN.al' (dC LN.o.r3.1 (by decide))));clear hN hb S3 H4 HA;go_wp2_with fail;clear x0 x1 x2 x3 x4 x5;refine H5.o.mono ?_;rintro r u5 ⟨rfl,hb⟩;have S5:=ak (S4.o.1.trans (hb.mono S4.o.1.size));clear hb S4 H5 LN;go_wp2;go_ret;exact ⟨rfl,S5.o⟩
structure xN (w:World) (dg ls:Int) (En:Nat) (ag:Nat->Int) (n:Bool) (v:Value) (e:Int) (m:Bool) (x:Value) (y:Int) (f t:Nat) (u:World):Prop where
 au:Below w.heap.size w u
 sz:Zk u w.heap.size dg ls En
 rq:Rq u (w.heap.size+1) n v e m x y
 ft:f<t
 tE:t<=En
 lo:f=0\/ag f<=0
 hi:t=En\/0<ag t
theorem xN.to {w:World}{dg ls:Int}{En:Nat}{ag:Nat->Int}{n:Bool}{v:Value}{e:Int}{m:Bool}{x:Value}{y:Int}{f t:Nat}{u u':World}(h:xN w dg ls En ag n v e m x y f t u) (hb:Below u.heap.size u u'):xN w dg ls En ag n v e m x y f t u' :=
 ⟨h.au.trans (hb.mono h.au.size),h.sz.below hb,h.rq.below hb,h.ft,h.tE,h.lo,h.hi⟩
theorem Qat{P:Prop}(h:P:=by
 go_wp2;go_ret;exact ⟨⟨k,by rw [HE.o,<-HR2.o];simp [jU,hp],KK.o⟩,S4.o.au⟩):P:=h
theorem Qah{P:Prop}(h:P:=by
 cases n
 all_goals (
  go_wp2;go_ret
  exact ⟨⟨k,by rw [HE.o,<-HR2.o];simp [jU],KK.o⟩,S4.o.au⟩)):P:=h
theorem jn{P:Prop}(h:P:=by
 go_wp2;go_ret;exact ⟨⟨k,by rw [HE.o,<-HR2.o];simp [jU],KK.o⟩,S4.o.au⟩):P:=h
theorem PN {w:World}{n m:Bool}{a b:Option Addr}{la ca lb cb:Nat}{e f:Int}(dg ls:Int) (En:Nat) (hE:0<En) (hE2:En<9223372036854775808) (num:Nat->Nat×Int) (ag hf:Nat->Int) (sq:Bool) (mode:Int) (hm0:0<=mode) (mG:mode<=4) (GK:∀ k,(ws (num k).1).length<=8192) (hv3:∀ k,hf k=-1\/hf k=0\/hf k=1)
 (HN:Hid (∀ (k:Nat) (u:World),k<En->Calls Tryz.prog 185 #[.agg #[.int .i64 dg,.int .i64 ls,.int .u64 (En:Nat)],.int .u64 (k:Nat)] u fun r w'=>∃ v,r=.returned (.tuple #[v,.int .i64 (num k).2])/\Nt u.heap.size w' v (num k).1/\Below u.heap.size u w'))
 (HA:Hid (∀ (k:Nat) (u:World) (p:Option Addr) (l c:Nat),k<En->Below w.heap.size w u->Al u (.slice p l c) (num k).1->Calls Tryz.prog 186 #[.slice p l c,.int .i64 (num k).2,.agg #[.bool n,.slice a la ca,.int .i64 e,.bool m,.slice b lb cb,.int .i64 f],.bool sq] u fun r w'=>r=.returned (.int .i64 (ag k))/\Below u.heap.size u w'))
 (HH:Hid (∀ (k:Nat) (u:World),k<En->Below w.heap.size w u->Calls Tryz.prog 187 #[.agg #[.int .i64 dg,.int .i64 ls,.int .u64 (En:Nat)],.int .u64 (k:Nat),.agg #[.bool n,.slice a la ca,.int .i64 e,.bool m,.slice b lb cb,.int .i64 f],.bool sq] u fun r w'=>r=.returned (.int .i64 (hf k))/\Below u.heap.size u w')) :
 Calls Tryz.prog 151 #[.agg #[.int .i64 dg,.int .i64 ls,.int .u64 (En:Nat)],.agg #[.bool n,.slice a la ca,.int .i64 e,.bool m,.slice b lb cb,.int .i64 f],.bool sq,.int .i64 mode] w fun r w'=>(∃ k:Nat,r=.returned (.int .u64 (tZ mode n k (ag k) (-(hf k)):Nat))/\k<En/\(k=0\/ag k<=0)/\(k+1=En\/0<ag (k+1)))/\Below w.heap.size w w':=by
 obtain ⟨W1,hW1⟩:=af ((w.alloc (.cells #[.int .i64 dg,.int .i64 ls,.int .u64 (En:Nat)] 118)).alloc (.cells #[.bool n,.slice a la ca,.int .i64 e,.bool m,.slice b lb cb,.int .i64 f] 73));obtain ⟨hB,Z,QR⟩:=kz w dg ls En n _ e m _ f W1 hW1;obtain ⟨p0,p1,p2⟩:=Z.facts;have S0:Aside (xN w dg ls En ag n (.slice a la ca) e m (.slice b lb cb) f 0 En W1):=ak ⟨hB,Z,QR,hE,aA _,.inl rfl,.inl rfl⟩;have LN:=(aK GK hv3);clear Z hB QR GK hv3;have hw:∀ n:Int,0<=n->n<18446744073709551616->IntKind.u64.wrap n=n:=fun n h1 h2=>by simp [IntKind.wrap,IntKind.bits,IntKind.signed];omega
 have HW:=ak hw;clear hw;go_enter Tryz.func151,Tryz.ntmps151
 go_upto_region 1 with fail
 rw [<-hW1];clear hW1;go_wp2_with fail;clear p0 p1 p2
 go_loopg [9,10] En (fun gk fv tv wr=>∃ f0 t:Nat,gk+f0=t/\fv=.int .u64 (f0:Nat)/\tv=.int .u64 (t:Nat)/\f0<t/\t<=En/\Aside (xN w dg ls En ag n (.slice a la ca) e m (.slice b lb cb) f f0 t wr))
 case atStart=>exact ⟨0,En,by omega,rfl,rfl,hE,aA _,S0⟩
 case round =>
  obtain ⟨f0,t,Hw,rfl,rfl,hft,htE,S1⟩:=hrel;have e1:=HW.o ((t:Int)-(f0:Int)) (by omega) (by omega)
  by_cases hone:1<(t:Int)-(f0:Int)
  · obtain ⟨mi,hm⟩:∃ mi,(f0+t)/2=mi:=⟨_,rfl⟩;have e2:=HW.o ((f0:Int)+(t:Int)) (by omega) (by omega);have e3:((f0:Int)+(t:Int))/2=(mi:Nat):=by omega
    have e4:IntKind.u64.wrap ((mi:Nat):Int)=(mi:Nat):=HW.o _ (by omega) (by omega);have hmE:mi<En:=by omega
    obtain ⟨p0,p1,p2⟩:=S1.o.sz.facts;obtain ⟨X,hX⟩:∃ X,(num mi).1=X:=⟨_,rfl⟩;obtain ⟨y,hy⟩:∃ y,(num mi).2=y:=⟨_,rfl⟩;have H1:=hid (HN.o mi wr hmE);have H2:=hid fun u p l c=>HA.o mi u p l c hmE;have lX:=LN.o.1 mi;rw [hX,hy] at H1 H2;rw [hX] at lX;have LX:=ak lX;clear lX hX hy;go_wp2_with fail;clear p0 p1 p2;refine H1.o.mono ?_;rintro r u1 ⟨v,rfl,hN,hb⟩;obtain ⟨b1,c1,rfl,-⟩:=hN.shape;have S2:=ak (S1.o.to hb);have H3:=hid (H2.o u1 b1 _ c1 S2.o.au (hN.al' (dC LX.o (by decide))));clear hb hN S1 H1 H2;obtain ⟨x0,x1,x2,x3,x4,x5⟩:=S2.o.rq.facts;go_wp2_with fail;clear x0 x1 x2 x3 x4 x5;refine H3.o.mono ?_;rintro r u2 ⟨rfl,hb⟩;have S3:=ak (S2.o.to hb);clear hb H3 S2
    by_cases hag:ag mi<=0
    · go_wp2_with fail;go_roundg (t-mi)
      case measure=>omega
      case rel=>exact ⟨mi,t,by omega,rfl,rfl,by omega,htE,ak ⟨S3.o.au,S3.o.sz,S3.o.rq,by omega,htE,.inr hag,S3.o.hi⟩⟩
    · have hag':decide (ag mi<=0)=false:=decide_eq_false hag;go_wp2_with fail;go_roundg (mi-f0)
      case measure=>omega
      case rel=>exact ⟨f0,mi,by omega,rfl,rfl,by omega,by omega,ak ⟨S3.o.au,S3.o.sz,S3.o.rq,by omega,by omega,S3.o.lo,.inr (by omega)⟩⟩
  · have hone':decide (1<(t:Int)-(f0:Int))=false:=decide_eq_false hone;obtain ⟨k,hk⟩:=af f0;subst hk;have hkE:k<En:=by omega
    have KK:Aside (k<En/\(k=0\/ag k<=0)/\(k+1=En\/0<ag (k+1))):=by
     obtain rfl:t=k+1:=by omega
     exact ak ⟨hkE,S1.o.lo,S1.o.hi⟩
    have ek:IntKind.u64.wrap ((k:Int)+1)=(k:Int)+1:=HW.o _ (by omega) (by omega);obtain ⟨p0,p1,p2⟩:=S1.o.sz.facts;obtain ⟨X,hX⟩:∃ X,(num k).1=X:=⟨_,rfl⟩;obtain ⟨y,hy⟩:∃ y,(num k).2=y:=⟨_,rfl⟩;obtain ⟨z,hz⟩:∃ z,ag k=z:=⟨_,rfl⟩;obtain ⟨hv,hhv⟩:∃ z,hf k=z:=⟨_,rfl⟩;have hv3:=LN.o.2 k;obtain ⟨R,hR⟩:∃ R,tZ mode n k z (-hv)=R:=⟨_,rfl⟩;have H1:=hid (HN.o k wr hkE);have H2:=hid fun u p l c=>HA.o k u p l c hkE;have H5:=hid fun u=>HH.o k u hkE;have lX:=LN.o.1 k;rw [hX,hy] at H1 H2;rw [hz] at H2;rw [hhv] at H5 hv3;rw [hX] at lX;have LX:=ak lX;have HE:Aside (tZ mode n k (ag k) (-(hf k))=R):=ak (by rw [hz,hhv,hR]);clear lX hX hy hz hhv LN HN HA HH S0 HW;go_wp2_with fail;clear p0 p1 p2;refine H1.o.mono ?_;rintro r u1 ⟨v,rfl,hN,hb⟩;obtain ⟨b1,c1,rfl,-⟩:=hN.shape;have S2:=ak (S1.o.to hb);have H3:=hid (H2.o u1 b1 _ c1 S2.o.au (hN.al' (dC LX.o (by decide))));clear hb hN S1 H1 H2 LX;obtain ⟨x0,x1,x2,x3,x4,x5⟩:=S2.o.rq.facts;go_wp2_with fail;clear x0 x1 x2 x3 x4 x5;refine H3.o.mono ?_;rintro r u2 ⟨rfl,hb⟩;have S3:=ak (S2.o.to hb);clear hb H3 S2
    by_cases hz:z=0
    · subst hz;obtain rfl:k=R:=by rw [<-hR];unfold tZ;rw [if_pos rfl]
      clear hR;go_wp2_with fail;go_ret;exact ⟨⟨k,by rw [HE.o];first | rfl | simp,KK.o⟩,S3.o.au⟩
    · have hz':(z==0)=false:=by simpa using hz
      have hR2:(if jU mode k (-hv) n then k+1 else k)=R:=by rw [<-hR];unfold tZ;rw [if_neg hz]
      have H6:=hid (H5.o u2 S3.o.au);obtain ⟨p0,p1,p2⟩:=S3.o.sz.facts;obtain ⟨x0,x1,x2,x3,x4,x5⟩:=S3.o.rq.facts;have HR2:=ak hR2;clear hR hz hR2 H5;go_wp2_with fail;clear p0 p1 p2 x0 x1 x2 x3 x4 x5;refine H6.o.mono ?_;rintro r u4 ⟨rfl,hb⟩;have S4:=ak (S3.o.to hb);obtain ⟨x0,x1,x2,x3,x4,x5⟩:=S4.o.rq.facts;clear hb S3 H6 hz';have hc:mode=0\/mode=1\/mode=2\/mode=3\/mode=4:=by omega
      clear hm0 mG;rcases hc with rfl|rfl|rfl|rfl|rfl
      · rcases hv3 with rfl | rfl | rfl
        · exact jn
        · by_cases hp:k%2=1
          · have hp':(k:Int)%2=1:=by omega
            exact Qat
          · have hp':(k:Int)%2=0:=by omega
            exact Qat
        · exact jn
      · exact jn
      · exact Qah
      · exact Qah
      · rcases hv3 with rfl | rfl | rfl
        all_goals (
         go_wp2;go_ret
         exact ⟨⟨k,by rw [HE.o,<-HR2.o];simp [jU],KK.o⟩,S4.o.au⟩)
theorem mf (x y c:Nat) (hc:0<c):jl ((x*c:Nat):Int) ((y*c:Nat):Int)=jl (x:Int) (y:Int):=by
 rw [fQ,fQ];exact Bp _ _ _ (by omega)
theorem PO (A v X Y:Nat) (g e f B:Int) (u n:Nat) (hB1:B<=g) (hB2:B<=-((n*u:Nat):Int)) (hA:A*2^(g-B).toNat=v*2^(-((n*u:Nat):Int)-B).toNat) :
 UQ (A*Y) (g+f) X e=jl ((v*gL Y e f u n:Nat):Int) ((iP X e f u n:Nat):Int):=by
 generalize hU:n*u=U at hB2 hA;obtain ⟨D,hD1,hD2⟩:∃ D:Int,D<=f/\B+D<=e:=⟨min f (e-B),Int.min_le_left _ _,by have:=Int.min_le_right f (e-B);omega⟩;rw [YJ (A*Y) (g+f) X e (B+D) (by omega) hD2];obtain ⟨c,hc⟩:∃ c:Nat,(-(U:Int)-B).toNat+(f-D).toNat=(-(e-f+(U:Int))).toNat+c:=⟨(-(U:Int)-B).toNat+(f-D).toNat-(-(e-f+(U:Int))).toNat,by omega⟩;have hd:(e-(B+D)).toNat=(e-f+(U:Int)).toNat+c:=by omega
 have e1:A*Y*2^(g+f-(B+D)).toNat=v*gL Y e f u n*2^c:=by
  rw [show (g+f-(B+D)).toNat=(g-B).toNat+(f-D).toNat by omega,aJ,nU,hA,nU,<-aJ,hc,aJ];unfold gL;rw [hU];simp only [aL]
 have e2:X*2^(e-(B+D)).toNat=iP X e f u n*2^c:=by
  rw [hd,aJ];unfold iP;rw [hU];simp only [aL]
 rw [e1,e2];exact mf _ _ _ (aY c)
theorem GL (v X Y:Nat) (e f:Int) (u n:Nat):jl ((v*gL Y e f (u+1) n:Nat):Int) ((iP X e f (u+1) n:Nat):Int)=jl ((v*gL Y e f u n:Nat):Int) ((2^n*iP X e f u n:Nat):Int):=by
 generalize hU:n*u=U;have hU':n*(u+1)=U+n:=by rw [jI,eG,hU]
 rw [<-mf (v*gL Y e f (u+1) n) (iP X e f (u+1) n) (2^(-(e-f+(U:Int))).toNat) (aY _),<-mf (v*gL Y e f u n) (2^n*iP X e f u n) (2^(-(e-f+((U+n:Nat):Int))).toNat) (aY _)];congr 2
 · unfold gL;rw [hU,hU'];simp only [aL];rw [cB (2^_) (2^_)]
 · unfold iP;rw [hU,hU',aL,<-aJ,cB (2^n),aL,aL,<-aJ,<-aJ];congr 2;omega
theorem LY {A v:Nat}{g B:Int}{u n:Nat}(h1:B<=g) (h2:B<=-(u:Int)) (hA:A*2^(g-B).toNat=v*2^(-(u:Int)-B).toNat) (hn:n=1\/n=2):A^n*2^((n:Int)*g-(n:Int)*B).toNat=v^n*2^(-((n*u:Nat):Int)-(n:Int)*B).toNat:=by
 rcases hn with rfl|rfl
 · rw [mo,mo,iH];simpa using hA
 · rw [show (((2:Nat):Int)*g-((2:Nat):Int)*B).toNat=(g-B).toNat+(g-B).toNat by omega,show (-((2*u:Nat):Int)-((2:Nat):Int)*B).toNat=(-(u:Int)-B).toNat+(-(u:Int)-B).toNat by omega,aJ,aJ,Nat.pow_two,Nat.pow_two,nU,hA,nU]
theorem LZ {A Bv v v1 SM:Nat}{g h q B:Int}{u:Nat}(h1:B<=g-1) (h2:B<=-((u+1:Nat):Int)) (hq:q=h-g) (hq0:0<=q) (hA:A*2^(g-B).toNat=v*2^(-(u:Int)-B).toNat) (hBv:Bv*2^(h-B).toNat=v1*2^(-(u:Int)-B).toNat) (hS:A+Bv*2^q.toNat=SM) :
 SM*2^(g-1-B).toNat=(v+v1)*2^(-((u+1:Nat):Int)-B).toNat:=by
 have k1:(g-B).toNat=(g-1-B).toNat+1:=by omega
 have k2:(-(u:Int)-B).toNat=(-((u+1:Nat):Int)-B).toNat+1:=by omega
 have k3:(h-B).toNat=q.toNat+((g-1-B).toNat+1):=by omega
 rw [k1,k2,dM,dM,<-aL,<-aL] at hA;rw [k3,k2,aJ,dM,dM,<-aL,<-aL,<-aL] at hBv;have e1:=pR (by omega:0<2) hA;have e2:=pR (by omega:0<2) hBv;rw [<-hS,fE,fE,e1,e2]
theorem BJ (k:Nat):(gY k).2<=(gY (k+1)).2/\(gY (k+1)).2<=(gY k).2+1/\-1074<=(gY k).2:=by
 unfold gY
 by_cases h:k/4503599627370496=0
 · rw [if_pos h]
   by_cases h':(k+1)/4503599627370496=0
   · rw [if_pos h'];simp only;omega
   · rw [if_neg h'];simp only;omega
 · rw [if_neg h,if_neg (by omega)];simp only;omega
namespace S
end S
structure Xf (dg ls:Int) (En:Nat) (v:Nat->Nat) (u:Nat) (num:Nat->Nat×Int):Prop where
 grid:OW v En
 small:En<9223372036854775808
 ub:u<=2000
 call:∀ (k:Nat) (w:World),k<=En->Calls Tryz.prog 185 #[.agg #[.int .i64 dg,.int .i64 ls,.int .u64 (En:Nat)],.int .u64 (k:Nat)] w fun r w'=>∃ p,r=.returned (.tuple #[p,.int .i64 (num k).2])/\Nt w.heap.size w' p (num k).1/\Below w.heap.size w w'
 val:∀ (k:Nat) (B:Int),B<=-(u:Int)->(num k).1*2^((num k).2-B).toNat=v k*2^(-(u:Int)-B).toNat/\(num k).1<9007199254740992/\B<=(num k).2/\((num k).1=0↔k=0)
 step:∀ k:Nat,(num k).2<=(num (k+1)).2/\(num (k+1)).2<=(num k).2+1/\-(u:Int)<=(num k).2
 top:∀ k:Nat,k<=En->(num k).2<=2000
theorem Jb:Xf 53 (-1074) 9218868437227405312 vK 1074 gY :=
 ⟨oz,by omega,by omega,fun k w hk=>zb k hk w,fun k B hB=>OU k B hB,BJ,fun k hk=>by unfold gY;split <;> simp only <;> omega⟩
theorem Ec {A Y:Nat}(hA:bl A<=200) (hY:bl Y<=262144):(ws (A*Y)).length<=2000000:=by
 have:=tV A Y;rw [ic];omega
theorem rX (x:Int) (h0:-4611686018427387904<=x) (h1:x<=4611686018427387904):IntKind.i64.wrap x=x:=by rw [yc];omega
theorem GM (x y:Int):jl x y=-1\/jl x y=0\/jl x y=1:=by unfold jl;(repeat' split) <;> simp
theorem PQ {x y:Nat}:jl (x:Int) (y:Int)<=0↔x<=y:=by unfold jl;(repeat' split) <;> omega
theorem PR {x y:Nat}:0<jl (x:Int) (y:Int)↔y<x:=by unfold jl;(repeat' split) <;> omega
theorem Ed {x y:Nat}:jl (x:Int) (y:Int)=0↔x=y:=by unfold jl;(repeat' split) <;> omega
theorem Ee {dg ls:Int}{En:Nat}{v:Nat->Nat}{u:Nat}{num:Nat->Nat×Int}(H:Xf dg ls En v u num) {w:World}{s mb:Bool}{p a b:Option Addr}{lp cp la ca lb cb X Y:Nat}{e f:Int}(hN:Al w (.slice a la ca) X) (hD:Al w (.slice b lb cb) Y) (he:-1048576<=e/\e<=1048576) (hf:-1048576<=f/\f<=1048576) (hY:bl Y<=262144)
 (A W n U:Nat) (g B:Int) (hA:Al w (.slice p lp cp) A) (hn:n=1\/n=2) (hAb:bl A<=100) (hg:-4000<=g/\g<=4000) (hU:U<=4000) (h1:B<=g) (h2:B<=-(U:Int)) (hv:A*2^(g-B).toNat=W*2^(-(U:Int)-B).toNat) (sq:Bool) (Ig:sq=decide (n=2)) :
 Calls Tryz.prog 186 #[.slice p lp cp,.int .i64 g,.agg #[.bool s,.slice a la ca,.int .i64 e,.bool mb,.slice b lb cb,.int .i64 f],.bool sq] w fun r w'=>r=.returned (.int .i64 (jl ((W^n*gL Y e f U n:Nat):Int) ((iP X e f U n:Nat):Int)))/\Below w.heap.size w w':=by
 have P:=LY h1 h2 hv hn;rcases hn with rfl|rfl
 · have e1:=PO (A^1) (W^1) X Y (((1:Nat):Int)*g) e f (((1:Nat):Int)*B) U 1 (by omega) (by omega) P;rw [mo,show ((1:Nat):Int)*g=g by omega] at e1;subst Ig;rw [<-e1];exact Ea hA hN hD (by omega) (g+f) 0 (rX _ (by omega) (by omega)) (by omega) (A*Y) rfl (Ec (by omega) hY)
 · have e1:=PO (A^2) (W^2) X Y (((2:Nat):Int)*g) e f (((2:Nat):Int)*B) U 2 (by omega) (by omega) P;rw [Nat.pow_two,show ((2:Nat):Int)*g=2*g by omega] at e1;subst Ig;rw [<-e1];have hb:=tV A A;exact Eb hA hN hD (by omega) (2*g+f) (2*g) (rX _ (by omega) (by omega)) (rX _ (by omega) (by omega)) (by omega) (A*A*Y) rfl (Ec (by omega) hY) (by rw [ic];omega)
theorem Jc {dg ls:Int}{En:Nat}{v:Nat->Nat}{u:Nat}{num:Nat->Nat×Int}(H:Xf dg ls En v u num) {w:World}{s mb:Bool}{a b:Option Addr}{la ca lb cb X Y:Nat}{e f:Int}(hN:Al w (.slice a la ca) X) (hD:Al w (.slice b lb cb) Y) (he:-1048576<=e/\e<=1048576) (hf:-1048576<=f/\f<=1048576) (hY:bl Y<=262144)
 {n K:Nat} {t:Bool} {m:Int} (hn:n=1\/n=2) (L:gZ v En n K t m (iP X e f u n) (gL Y e f u n)) (sq:Bool) (Ig:sq=decide (n=2)) (mode:Int) (hm0:0<=mode) (mG:mode<=4) :
 Calls Tryz.prog 151 #[.agg #[.int .i64 dg,.int .i64 ls,.int .u64 (En:Nat)],.agg #[.bool s,.slice a la ca,.int .i64 e,.bool mb,.slice b lb cb,.int .i64 f],.bool sq,.int .i64 mode] w fun r w'=>r=.returned (.int .u64 ((if t then K else if jU mode K m s then K+1 else K:Nat):Nat))/\Below w.heap.size w w':=by
 have hub:=H.ub;have hone:=H.grid.one;have hsm:=H.small;have GK:∀ k,bl (num k).1<=53:=fun k=>rA _ (H.val k _ (Int.le_refl _)).2.1
 have C:=PN (w:=w) (n:=s) (m:=mb) (a:=a) (b:=b) (la:=la) (ca:=ca) (lb:=lb) (cb:=cb) (e:=e) (f:=f) dg ls En (by omega) hsm num
  (fun k=>jl ((v k^n*gL Y e f u n:Nat):Int) ((iP X e f u n:Nat):Int)) (fun k=>jl (((v k+v (k+1))^n*gL Y e f u n:Nat):Int) ((2^n*iP X e f u n:Nat):Int)) sq mode hm0 mG
  (fun k=>len8 (by have:=GK k;omega)) (fun k=>GM _ _) (hid fun k w' hk=>H.call k w' (by omega))
  (hid fun k w' p l c hk hb hA=>by
   obtain ⟨h1,h2,h3,h4⟩:=H.val k (-(u:Int)) (Int.le_refl _);have h5:=H.top k (by omega)
   exact Ee H (hN.below hb) (hD.below hb) he hf hY (num k).1 (v k) n u (num k).2 (-(u:Int)) hA hn (by have:=GK k;omega) (by omega) (by omega) h3 (Int.le_refl _) h1 sq Ig)
  (hid fun k w' hk hb=>by
   obtain ⟨h1,h2,h3,h4⟩:=H.val k (-(u:Int)-1) (by omega);obtain ⟨i1,i2,i3,i4⟩:=H.val (k+1) (-(u:Int)-1) (by omega);obtain ⟨j1,j2,j3⟩:=H.step k;have h5:=H.top k (by omega);have l1:=GK k;have l2:=GK (k+1);obtain ⟨q,hq⟩:∃ q,(num (k+1)).2-(num k).2=q:=⟨_,rfl⟩;have hq2:q=0\/q=1:=by omega
   have hp:(2:Nat)^q.toNat<=2:=by rcases hq2 with h | h <;> subst h <;> decide
   have hM:(num (k+1)).1*2^q.toNat<=(num (k+1)).1*2:=gT _ hp;have M:=LZ (u:=u) (B:=-(u:Int)-1) (by omega) (by omega) hq.symm (by omega) h1 i1 rfl;have lM:bl ((num (k+1)).1*2^q.toNat)<=60:=dP (by rw [show (2:Nat)^60=1152921504606846976 by rfl];omega);have lS:bl ((num k).1+(num (k+1)).1*2^q.toNat)<=60:=dP (by rw [show (2:Nat)^60=1152921504606846976 by rfl];omega);refine Xe dg ls En (k:Int) ((k+1:Nat):Int) (num k).2 (num (k+1)).2 q ((num k).2-1) _ (num k).1 (num (k+1)).1 _ sq (by rw [kL];omega) (by rw [hq];exact rX _ (by omega) (by omega)) (by omega) (by omega) (rX _ (by omega) (by omega)) rfl (fun h=>by have:=i4.1 h;omega) (len8 (by omega)) (len8 (by omega)) (len8 (by omega)) (len8 (by omega)) (hid fun x=>H.call k x (by omega)) (hid fun x=>H.call (k+1) x (by omega)) (hid fun x p l c hx hA=>?_);have:=Ee H ((hN.below hb).below hx) ((hD.below hb).below hx) he hf hY ((num k).1+(num (k+1)).1*2^q.toNat) (v k+v (k+1)) n (u+1) ((num k).2-1) (-(u:Int)-1) hA hn (by omega) (by omega) (by omega) (by omega) (by omega) M sq Ig (s:=s) (mb:=mb);rw [GL] at this
   exact this)
 refine C.mono ?_;rintro r w' ⟨⟨k,rfl,hk,k1,k2⟩,hb⟩;refine ⟨?_,hb⟩
 obtain ⟨d1,d2,d3⟩:=L.doc H.grid (by omega) k hk (by
  rcases k1 with rfl|h
  · rw [H.grid.zero,Nat.zero_pow (by omega),eF];exact pU _
  · exact PQ.1 h) (by
  rcases k2 with h|h
  · exact .inl h
  · exact .inr (PR.1 h))
 subst d1;congr 3;unfold tZ
 by_cases hx:iP X e f u n=v k^n*gL Y e f u n
 · rw [if_pos (Ed.2 hx.symm),d2,decide_eq_true hx,if_pos rfl]
 · have ht:t=false:=by rw [d2];exact decide_eq_false hx
   have hm:-jl (((v k+v (k+1))^n*gL Y e f u n:Nat):Int) ((2^n*iP X e f u n:Nat):Int)=m:=by
    rw [d3 ht,<-Pj];unfold SY jl;simp only [Int.ofNat_lt]
   rw [if_neg (fun h=>hx (Ed.1 h).symm),hm,ht];rfl
end
end Go.Proofs.YteginbngplldaaaGreatDoor
