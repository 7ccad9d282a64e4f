import Derived.Test.YthejkolknalpaaaGreatDoorZ9x
import Derived.Test.YthejkolknalpaaaGreatDoorSL6x
import Derived.ArgAppend
import Derived.Maps.AppendAt
import Derived.WalkMore
import Derived.OwnWalk
import Derived.Test.YthejkolknalpaaaGreatDoorD16x
import Derived.Test.YthejkolknalpaaaGreatDoorP2x
import Derived.Test.YthejkolknalpaaaGreatDoorD21x
import Derived.Deep.RegionWith
import Derived.Deep.RegionHeld3
import Derived.Deep.CutRange
import Derived.Test.YthejkolknalpaaaGreatDoorD30x
import Derived.Deep.Cut
import Derived.RangeFuncNested
import Derived.RangeFuncBound
import Derived.RangeFuncCalls
import Derived.RangeFuncLeaves
import Derived.RangeFuncBox
import Derived.Shelf.Abstract
import Derived.Shelf.RegionOpen
import Derived.WalkKit
import Derived.OwnWalkIn
import Derived.TacticsInMore
import Derived.LoopNIn
import Derived.LoopIn
import Derived.Test.YthejkolknalpaaaGreatDoorS11ax
import Derived.Test.YthejkolknalpaaaGreatDoorW24x
import Derived.Defers
import Derived.Test.YthejkolknalpaaaGreatDoorM1x
import Derived.Laws.CopyOwn
import Derived.Deep.OwnRows
import Derived.Laws.MakeOwn
set_option linter.unusedVariables false
set_option linter.unusedSimpArgs false
set_option maxHeartbeats 16000000
set_option maxRecDepth 20000
namespace Go.Proofs.YthejkolknalpaaaGreatDoor
namespace J
end J
section
open Go.RowKit
theorem of_any8 (x:Nat) (hx:Wd x∧finW x) (w:World) (hT:Tab w) :
 Calls Tryz.prog 112 #[.float .f64 x] w fun r w'=>(∃ v,r=.returned (.tuple #[.agg #[.bool (dN (fo8 (fvW x))),v,.int .i64 (dE (fo8 (fvW x)))],.int .i64 0])∧Nt w.heap.size w' v (dX (fo8 (fvW x))))∧Below w.heap.size w w':=by
 obtain ⟨h1,h2,h3,_⟩:=wd64_bw (negW x) (magW x) (Nat.le_of_lt hx.2);have:=Of_any (negW x) (magW x/4503599627370496) (magW x%4503599627370496) h2 h3 w hT;rw [←h1,←wd_of x hx.1] at this;refine this.mono ?_;rintro r w' ⟨⟨v,rfl,hN⟩,hb⟩;have e:=of_fo8 hx.1 hx.2;unfold ofK at e;rw [e] at hN ⊢;have he:ofE (magW x/4503599627370496)=0:=by unfold ofE;rw [if_neg (by have:=hx.2;omega)]
 rw [he];exact ⟨⟨v,rfl,hN⟩,hb⟩
end
section
open Go.RowKit J
theorem st3_but12 (g:Nat) (w:World) (x y z:Value):But g w (st3 w g x y z):=(((But.refl g w).set _ _).set _ _).set _ _
def Lo (w:World) (g:Nat) (o:Option (Bool×Nat×Int)):Prop:=∃ a c,Dk w g (dN o) (.slice a (ws (dX o)).length c) (dE o)∧Nt 0 w (.slice a (ws (dX o)).length c) (dX o)
theorem Lo.below {w w':World}{g:Nat}{o:Option (Bool×Nat×Int)}(h:Lo w g o) (hb:Below w.heap.size w w'):Lo w' g o:=by
 obtain ⟨a,c,h1,h2⟩:=h;exact ⟨a,c,h1.below hb,h2.below hb⟩
theorem Lo.lt {w:World}{g:Nat}{o:Option (Bool×Nat×Int)}(h:Lo w g o):g<w.heap.size:=by
 obtain ⟨a,c,h1,h2⟩:=h;exact h1.lt
theorem Nt.off12 {lo g:Nat}{w:World}{v:Value}{X:Nat}{n:Bool}{a:Option Addr}{l c:Nat}{e:Int}(h:Nt lo w v X) (D:Dk w g n (.slice a l c) e) (x y z:Value):Nt lo (st3 w g x y z) v X:=by
 refine h.off (st3_but12 g w x y z) ?_
 rcases h.2 with ⟨rfl,_⟩|⟨g',cap,cur,rfl,_,hg,_⟩
 · simp [Value.ownBlock]
 · intro e'
   obtain rfl:g'=g:=by simpa [Value.ownBlock] using e'
   rw [show w.heap[g']?=_ from D] at hg
   simp at hg
theorem Lo.set {w:World}{g:Nat}{o p:Option (Bool×Nat×Int)}(h:Lo w g o) {a:Option Addr}{c:Nat}(hN:Nt 0 w (.slice a (ws (dX p)).length c) (dX p)) :
 Lo (st3 w g (.bool (dN p)) (.slice a (ws (dX p)).length c) (.int .i64 (dE p))) g p:=by
 obtain ⟨a0,c0,h1,h2⟩:=h;exact ⟨a,c,h1.set _ _ _,hN.off12 h1 _ _ _⟩
theorem Lo.other {w:World}{g g':Nat}{o p:Option (Bool×Nat×Int)}(h:Lo w g o) (h':Lo w g' p) (hg:g≠g') (x y z:Value):Lo (st3 w g' x y z) g o:=by
 obtain ⟨a,c,h1,h2⟩:=h;obtain ⟨a0,c0,k1,k2⟩:=h';exact ⟨a,c,h1.other _ hg _ _ _,h2.off12 k1 _ _ _⟩
theorem Lo.new {w:World}{o:Option (Bool×Nat×Int)}{a:Option Addr}{c:Nat}(hN:Nt 0 w (.slice a (ws (dX o)).length c) (dX o)):Lo (w.alloc (Obj.cells #[.bool (dN o),.slice a (ws (dX o)).length c,.int .i64 (dE o)] 67)) w.heap.size o :=
 ⟨a,c,Dk.new _ _ _ _,hN.below (below_alloc _ _)⟩
abbrev o00:Option (Bool×Nat×Int):=some (false,0,0)
theorem len00:(ws (dX o00)).length=0:=by simp [dX,ws_zero]
theorem Lo.zero (w:World):Lo (w.alloc (Obj.cells #[.bool false,.slice none 0 0,.int .i64 0] 67)) w.heap.size o00:=by
 refine ⟨none,0,?_,?_⟩
 · rw [len00];exact Dk.new _ _ _ _
 · rw [len00];exact Nt.nil _ _
theorem Fm.er {o:Option (Bool×Nat×Int)}(h:Fm o):erS o=0:=by
 obtain ⟨B,x,h⟩:=h;obtain ⟨n,X,e,rfl,_⟩:=h.ex;rfl
theorem Fm.a12 {o:Option (Bool×Nat×Int)}{w:World}{a:Option Addr}{c:Nat}(F:Fm o) (N:Nt 0 w (.slice a (ws (dX o)).length c) (dX o)):Arg w a (ws (dX o)).length c (ws (dX o)):=(N.arg' (Nat.le_trans F.len (by decide))).2
theorem mulP12 {U:World}{a b:Option Addr}{c d:Nat}{o p q:Option (Bool×Nat×Int)}(F:Fm o) (G:Fm p) (N1:Nt 0 U (.slice a (ws (dX o)).length c) (dX o)) (N2:Nt 0 U (.slice b (ws (dX p)).length d) (dX p)) (hT:Tab U) (h:mulD o p=q) (H:Fm q) :
 Calls Tryz.prog 104 #[.agg #[.bool (dN o),.slice a (ws (dX o)).length c,.int .i64 (dE o)],.agg #[.bool (dN p),.slice b (ws (dX p)).length d,.int .i64 (dE p)]] U fun r w'=>(∃ v,r=.returned (.tuple #[.agg #[.bool (dN q),v,.int .i64 (dE q)],.int .i64 0])∧Nt U.heap.size w' v (dX q))∧Below U.heap.size U w':=by
 have:=Mul_any3 (F.a12 N1) (G.a12 N2) hT (dN o) (dN p) (dE o) (dE p) F.rng.1 F.rng.2 G.rng.1 G.rng.2;rw [val_ws,val_ws,F.re,G.re,h] at this;unfold DAns at this;rw [H.er] at this;exact this
theorem addP12' {U:World}{a b:Option Addr}{c d:Nat}{o p q:Option (Bool×Nat×Int)}(F:Fm o) (G:Fm p) (N1:Nt 0 U (.slice a (ws (dX o)).length c) (dX o)) (N2:Nt 0 U (.slice b (ws (dX p)).length d) (dX p)) (hT:Tab U) (h:addD o p=q) (H:Fm q) :
 Calls Tryz.prog 130 #[.agg #[.bool (dN o),.slice a (ws (dX o)).length c,.int .i64 (dE o)],.agg #[.bool (dN p),.slice b (ws (dX p)).length d,.int .i64 (dE p)]] U fun r w'=>(∃ v,r=.returned (.tuple #[.agg #[.bool (dN q),v,.int .i64 (dE q)],.int .i64 0])∧Nt U.heap.size w' v (dX q))∧Below U.heap.size U w':=by
 have:=Add_any3 (F.a12 N1) (G.a12 N2) hT (dN o) (dN p) (dE o) (dE p) F.rng.1 F.rng.2 G.rng.1 G.rng.2;rw [val_ws,val_ws,F.re,G.re,h] at this;unfold DAns at this;rw [H.er] at this;exact this
theorem Lo.shape {w:World}{lo:Nat}{v:Value}{q:Option (Bool×Nat×Int)}(H:Fm q) (h:Nt lo w v (dX q)):∃ a c,v=.slice a (ws (dX q)).length c∧Nt 0 w v (dX q):=by
 obtain ⟨a,c,rfl,_⟩:=h.arg (Nat.le_trans H.len (by decide))
 exact ⟨a,c,rfl,h.mono (Nat.zero_le _)⟩
end
section
open Go.RowKit
theorem frm_fv {n:Bool}{X:Nat}{e:Int}(F:Frm n X e) (B:Int):Fv B (some (n,X,e)) (zv B (n,X,e)):=⟨n,X,e,rfl,F,rfl⟩
theorem Iv.fm {o:Option (Bool×Nat×Int)}{a b:Int}(h:Iv o a b):Fm o:=by
 obtain ⟨n,X,e,rfl,F,_⟩:=h;exact ⟨0,_,frm_fv F 0⟩
theorem rebase {o:Option (Bool×Nat×Int)}{B x:Int}(h:Fv B o x) (hB:B≤-1048576) (D:Int) (hD:D≤0):Fv (B+D) o (x*((2^(0-D).toNat:Nat):Int)):=by
 obtain ⟨n',X',e',hx,F',hz⟩:=h.ex;refine ⟨n',X',e',hx,F',?_⟩;rw [←hz];unfold zv;simp only;rw [Int.mul_assoc,←Int.natCast_mul,Nat.mul_assoc,←Nat.pow_add];have:=F'.down;rw [show (e'-(B+D)).toNat=(e'-B).toNat+(0-D).toNat by omega]
end
section
open Go.RowKit J
def EK:Nat:=1048576
theorem exP (a:Nat):∃ u:Nat,u=2^a:=⟨_,rfl⟩
noncomputable def MM:Nat:=Classical.choose (exP EK)
theorem M_eq:MM=2^EK:=Classical.choose_spec (exP EK)
theorem M_pos:0<MM:=by rw [M_eq];exact Nat.two_pow_pos _
theorem Fm.sm {o:Option (Bool×Nat×Int)}(h:Fm o):o.isSome=true:=by
 obtain ⟨B,x,h⟩:=h;obtain ⟨n,X,e,rfl,_⟩:=h.ex;rfl
theorem Fm.val {o:Option (Bool×Nat×Int)}(h:Fm o):Fv (-1048576) o (valO o):=fvO h.re h.sm
theorem Fv.uniq {B x y:Int}{o:Option (Bool×Nat×Int)}(h1:Fv B o x) (h2:Fv B o y):x=y:=by
 obtain ⟨n,X,e,ho,_,hz⟩:=h1.ex;obtain ⟨n',X',e',ho',_,hz'⟩:=h2.ex;rw [ho] at ho'
 cases ho'
 exact hz.symm.trans hz'
theorem val_mul {o p:Option (Bool×Nat×Int)}(F:Fm o) (G:Fm p) (H:Fm (mulD o p)):valO (mulD o p)*(MM:Int)=valO o*valO p:=by
 have h1:=Fv.mul (by decide) (by decide) F.val G.val H.sm
 have h2:=rebase H.val (by decide) (-1048576) (by decide)
 rw [show ((0:Int) - -1048576).toNat=EK from rfl,←M_eq] at h2
 exact (h1.uniq h2).symm
theorem val_add {o p:Option (Bool×Nat×Int)}(F:Fm o) (G:Fm p) (H:Fm (addD o p)):valO (addD o p)=valO o+valO p :=
 H.val.uniq (Fv.add (by decide) F.val G.val H.sm)
theorem valO_inj {o p:Option (Bool×Nat×Int)}(F:Fm o) (G:Fm p) (h:valO o=valO p):o=p:=by
 obtain ⟨h1,h2,h3⟩:=Fv.same (by decide) F.val G.val h
 obtain ⟨n,X,e,rfl,_⟩:=F.val.ex;obtain ⟨m,Y,f,rfl,_⟩:=G.val.ex;have h1:n=m:=h1;have h2:X=Y:=h2;have h3:e=f:=h3;rw [h1,h2,h3]
theorem val_mk {n:Bool}{X:Nat}{e:Int}(h:Fm (mkS n X e)) (he:-1048576≤e) (k:Nat) (hk:(e+1048576).toNat=k):valO (mkS n X e)=sg1 n*((X*2^k:Nat):Int):=by
 obtain ⟨⟨n',Y,f⟩,ho⟩:=Option.isSome_iff_exists.1 h.sm;have:=zv_mkS ho (-1048576) (.inr he);rw [show (e - -1048576).toNat=k by rw [←hk];congr 1] at this
 rw [←this,ho];rfl
theorem sg1_natAbs (V:Int) (K:Nat):sg1 (decide (V<0))*((V.natAbs*K:Nat):Int)=V*(K:Int):=by
 rw [Int.natCast_mul,←Int.mul_assoc]
 congr 1
 unfold sg1
 by_cases h:V<0
 · rw [decide_eq_true h,if_pos rfl];omega
 · rw [decide_eq_false h,if_neg (by decide)];omega
theorem ex_iv (V:Int) (m:Nat) (hm:m≤100000) (hV:V.natAbs<2^m):Iv (exV V) (-2148) ((m:Int)-2148):=by
 unfold exV;refine mkS_iv _ _ _ _ _ (.inr ⟨by omega,?_⟩) (by omega) (by omega) (by omega)
 have:=bl_lt_pow hV;omega
theorem ex_fm (V:Int) (m:Nat) (hm:m≤100000) (hV:V.natAbs<2^m):Fm (exV V):=(ex_iv V m hm hV).fm
theorem ex_zero:exV 0=o00:=mkS_zero _ _
end
section
open Go.RowKit
open Go.Proofs.YthejkolknalpaaaGreatDoor.B (f64bits f64frombits bw)
attribute [local go_sem] f64bits f64frombits
def kd (b:Nat):Nat :=
 if 9218868437227405312<b%9223372036854775808 then 5
 else if b%9223372036854775808=9218868437227405312 then (if b/9223372036854775808=1 then 4 else 3)
 else if b%9223372036854775808=0 then (if b/9223372036854775808=1 then 1 else 2)
 else 0
def kp (k:Nat):Nat:=if k=5 then 0 else if k=3 then 1 else if k=4 then 2 else if k=1 then 3 else if k=2 then 4 else 5
theorem kd_bw (s:Bool) (e f:Nat) (he:e<2048) (hf:f<4503599627370496):kd (bw s e f)=if e=2047 then (if f=0 then (if s then 4 else 3) else 5) else if e=0∧f=0 then (if s then 1 else 2) else 0:=by
 unfold kd bw;have h1:(s.toNat*9223372036854775808+e*4503599627370496+f)%9223372036854775808=e*4503599627370496+f:=by cases s <;> simp only [Bool.toNat_true,Bool.toNat_false] <;> omega
 have h2:(s.toNat*9223372036854775808+e*4503599627370496+f)/9223372036854775808=s.toNat:=by cases s <;> simp only [Bool.toNat_true,Bool.toNat_false] <;> omega
 rw [h1,h2]
 by_cases he2:e=2047
 · subst he2
   rw [if_pos rfl]
   by_cases hf0:f=0
   · subst hf0;cases s <;> simp
   · rw [if_pos (by omega),if_neg hf0]
 · rw [if_neg he2,if_neg (by omega),if_neg (by omega)]
   by_cases h0:e=0∧f=0
   · obtain ⟨rfl,rfl⟩:=h0;cases s <;> simp
   · rw [if_neg (by omega),if_neg h0]
theorem bySign_any (neg:Bool) (a b:Int) (w:World):Calls Tryz.prog 111 #[.bool neg,.int .i64 a,.int .i64 b] w fun r w'=>r=.returned (.int .i64 (if neg then a else b))∧w'=w:=by
 cases neg <;>
 · go_enter Tryz.func111,Tryz.ntmps111
   go_wp2;go_ret;exact ⟨rfl,rfl⟩
theorem kind_any (b:Nat) (hb:b<18446744073709551616) (w:World):Calls Tryz.prog 78 #[.float .f64 b] w fun r w'=>r=.returned (.int .i64 (kp (kd b):Nat))∧Below w.heap.size w w':=by
 obtain ⟨s,e,f,he,hf,rfl⟩:=B.bw_of b hb;rw [kd_bw s e f he hf];have H:=hid (B.Split_any s e f he hf);obtain ⟨x1,hx1⟩:∃ x,B.xp e=x:=⟨_,rfl⟩;obtain ⟨x2,hx2⟩:∃ x,B.fr e f=x:=⟨_,rfl⟩;rw [hx1,hx2] at H;clear hx1 hx2 hb
 by_cases he2:e=2047
 · subst he2
   by_cases hf0:f=0
   · subst hf0
     have hc:B.cls 2047 0=3:=by unfold B.cls;rw [if_pos rfl,if_pos rfl]
     have hg:B.ng s 2047 0=s:=by unfold B.ng;rw [if_neg (by simp)]
     rw [hc,hg] at H;rw [if_pos rfl,if_pos rfl];have HS:=hid (bySign_any s 2 1);obtain ⟨x,hx⟩:∃ x:Int,(if s then 2 else 1)=x:=⟨_,rfl⟩
     rw [hx] at HS;have hk:((kp (if s then 4 else 3):Nat):Int)=x:=by cases s <;> (subst hx;rfl)
     rw [hk];clear hc hg hx hk;go_enter Tryz.func78,Tryz.ntmps78
     go_wp2_with fail
     refine (H.out _).mono ?_;rintro r w1 ⟨rfl,hb1⟩;have HB:=qsd hb1;have hz:=hb1.size;clear hb1
     go_wp2_with fail
     refine (HS.out _).mono ?_;rintro r w2 ⟨rfl,rfl⟩;go_wp2;go_ret;exact ⟨rfl,(HB.out.alloc hz _)⟩
   · have hc:B.cls 2047 f=4:=by unfold B.cls;rw [if_pos rfl,if_neg hf0]
     rw [hc] at H;rw [if_pos rfl,if_neg hf0];obtain ⟨x3,hx3⟩:∃ x,B.ng s 2047 f=x:=⟨_,rfl⟩;rw [hx3] at H;clear hc hx3;go_enter Tryz.func78,Tryz.ntmps78
     go_wp2_with fail
     refine (H.out _).mono ?_;rintro r w1 ⟨rfl,hb1⟩;have HB:=qsd hb1;have hz:=hb1.size;clear hb1;go_wp2;go_ret;exact ⟨rfl,(HB.out.alloc hz _)⟩
 · rw [if_neg he2]
   have hg:B.ng s e f=s:=by unfold B.ng;rw [if_neg (fun h=>he2 h.1)]
   rw [hg] at H
   by_cases h0:e=0∧f=0
   · obtain ⟨rfl,rfl⟩:=h0
     have hc:B.cls 0 0=0:=by unfold B.cls;rw [if_neg (by omega),if_pos rfl,if_pos rfl]
     rw [hc] at H;rw [if_pos ⟨rfl,rfl⟩];have HS:=hid (bySign_any s 3 4);obtain ⟨x,hx⟩:∃ x:Int,(if s then 3 else 4)=x:=⟨_,rfl⟩
     rw [hx] at HS;have hk:((kp (if s then 1 else 2):Nat):Int)=x:=by cases s <;> (subst hx;rfl)
     rw [hk];clear hc hg hx hk;go_enter Tryz.func78,Tryz.ntmps78
     go_wp2_with fail
     refine (H.out _).mono ?_;rintro r w1 ⟨rfl,hb1⟩;have HB:=qsd hb1;have hz:=hb1.size;clear hb1
     go_wp2_with fail
     refine (HS.out _).mono ?_;rintro r w2 ⟨rfl,rfl⟩;go_wp2;go_ret;exact ⟨rfl,(HB.out.alloc hz _)⟩
   · rw [if_neg h0]
     obtain ⟨c,hc,h1,h2,h3⟩:∃ c:Int,B.cls e f=c∧(c==4)=false∧(c==3)=false∧(c==0)=false:=by
      unfold B.cls;rw [if_neg he2]
      by_cases he0:e=0
      · rw [if_pos he0,if_neg (fun h=>h0 ⟨he0,h⟩)];exact ⟨_,rfl,by decide,by decide,by decide⟩
      · rw [if_neg he0];exact ⟨_,rfl,by decide,by decide,by decide⟩
     rw [hc] at H;clear hc hg;go_enter Tryz.func78,Tryz.ntmps78
     go_wp2_with fail
     refine (H.out _).mono ?_;rintro r w1 ⟨rfl,hb1⟩;have HB:=qsd hb1;have hz:=hb1.size;clear hb1;go_wp2;go_ret;exact ⟨rfl,(HB.out.alloc hz _)⟩
end
section
open Go.RowKit
theorem close13 {fn:Func}{p:Tmp}(hfn:fn.results=#[.cell p 67]) {w base:World}{tmps:Array Value}{o:Option (Bool×Nat×Int)}{v x y z:Value}{lo:Nat}(h2:tmps.getD p undef=.pointer (some ⟨w.heap.size,0,none⟩))
 (hZ:Bl base w.heap.size 67 [x,y,z]) (hbw:Below w.heap.size w base) (hN:Nt lo base v (dX o)) (hlo:w.heap.size<lo) :
 bodyPost Tryz.prog fn (fun r w'=>∃ v,r=.returned (.agg #[.bool (dN o),v,.int .i64 (dE o)])∧Nt w.heap.size w' v (dX o)∧Below w.heap.size w w') .ret ⟨tmps,[]⟩
  (((base.setCell ⟨w.heap.size,0,none⟩ (.bool (dN o))).setCell ⟨w.heap.size,1,none⟩ v).setCell ⟨w.heap.size,2,none⟩ (.int .i64 (dE o))):=by
 have q:Bl (((base.setCell ⟨w.heap.size,0,none⟩ (.bool (dN o))).setCell ⟨w.heap.size,1,none⟩ v).setCell ⟨w.heap.size,2,none⟩ (.int .i64 (dE o))) w.heap.size 67 [.bool (dN o),v,.int .i64 (dE o)]:=((hZ.set 0 _).set 1 _).set 2 _;have hbut:But w.heap.size base (((base.setCell ⟨w.heap.size,0,none⟩ (.bool (dN o))).setCell ⟨w.heap.size,1,none⟩ v).setCell ⟨w.heap.size,2,none⟩ (.int .i64 (dE o))):=(((But.refl _ _).set 0 _).set 1 _).set 2 _;refine bodyPost_ret (v:=.agg #[.bool (dN o),v,.int .i64 (dE o)]) (row_result hfn _ _ w.heap.size [.bool (dN o),v,.int .i64 (dE o)] h2 q Tryz.row_dyad (by rw [Tryz.size_dyad];rfl)) rfl ?_
 exact ⟨v,rfl,(hN.but7 hbut hlo).mono (by omega),But.below hbw hbut hbw.size (Nat.le_refl _)⟩
theorem HB13:∃ k:Nat,k=4238∧HB=2^k:=⟨4238,rfl,HB_two 4238 rfl⟩
theorem vS_bd {xs:List Nat}(hW:W64 xs) (hl:xs.length≤65536):∃ k:Nat,k=4238∧(vS xs).natAbs<2^k:=by
 obtain ⟨k,hk,e⟩:=HB13;refine ⟨k,hk,?_⟩;rw [←e];have h1:=vS_bound xs hW xs.length (Nat.le_refl _);rw [List.take_length] at h1;have h3:xs.length*QB≤65536*QB:=Nat.mul_le_mul_right _ hl;have h4:=QB_HB;have h5:=QB_pos;omega
theorem vS_fm {xs:List Nat}(hW:W64 xs) (hl:xs.length≤65536):Fm (exV (vS xs)):=by
 obtain ⟨k,hk,h⟩:=vS_bd hW hl;exact ex_fm _ k (by omega) h
theorem exact13 (xs:List Nat) (a:Option Addr) (n c:Nat) (w:World) (hn:n=xs.length) (hF:Fs w.heap.size w a xs) (hW:W64 xs) (hT:Tab w) (hl:n≤65536) :
 Calls Tryz.prog 81 #[.slice a n c] w fun r w'=>∃ v,r=.returned (.agg #[.bool (dN (exV (vS xs))),v,.int .i64 (dE (exV (vS xs)))])∧Nt w.heap.size w' v (dX (exV (vS xs)))∧Below w.heap.size w w':=by
 have HX:=qsd (ai hn (ai hF (ai hW (ai hT hl))));obtain ⟨o,ho⟩:∃ o,o=exV (vS xs):=⟨_,rfl⟩;rw [←ho];have HO:=qsd ho;clear hn hF hW hT ho;obtain ⟨W1,hW1⟩:∃ W,W=w.alloc (.cells #[.bool false,.slice none 0 0,.int .i64 0] 67):=⟨_,rfl⟩
 have H1:Aside (Below w.heap.size w W1∧Bl W1 w.heap.size 67 [.bool false,.slice none 0 0,.int .i64 0]∧W1.heap.size=w.heap.size+1):=by
  subst hW1;exact ⟨bel_alloc _ _,Bl.new _ 67 [_,_,_],by simp⟩
 go_enter Tryz.func81,Tryz.ntmps81
 go_wp2_with fail
 rw [←hW1];clear hW1;refine (New7 W1).mono ?_;rintro r w2 ⟨rfl,hA,hb2⟩;obtain ⟨g,hg⟩:∃ g,g=W1.heap.size:=⟨_,rfl⟩;rw [←hg] at hA ⊢
 have P2:Aside (Bl w2 w.heap.size 67 [.bool false,.slice none 0 0,.int .i64 0]∧Below w.heap.size w w2∧w.heap.size<g∧Acc7 w2 g 0 ⟨0,0,0,0,0,0⟩) :=
  ⟨H1.out.2.1.below hb2 (by have:=H1.out.2.2;omega),H1.out.1.trans (hb2.mono (by have:=H1.out.2.2;omega)),by have:=H1.out.2.2;omega,hA⟩
 clear hb2 hA hg H1;go_wp2
 go_loopg [9] n (fun gk i wr=>∃ k:Nat,gk+k=n∧i=.int .i64 (k:Nat)∧Aside (Acc7 wr g (vS (xs.take k)) (sS (xs.take k))∧Bl wr w.heap.size 67 [.bool false,.slice none 0 0,.int .i64 0]∧Below w.heap.size w wr))
 case atStart=>exact ⟨0,by omega,by simp,by simpa [vS,sS] using P2.out.2.2.2,P2.out.1,P2.out.2.1⟩
 case round =>
  obtain ⟨k,hgk,rfl,HA⟩:=hrel
  by_cases hk:k<n
  · obtain ⟨b,off,rfl,hc⟩:=HX.out.2.1.at HA.out.2.2 k (by rw [←HX.out.1];exact hk)
    obtain ⟨x,hx⟩:∃ x,x=xs.getD k 0:=⟨_,rfl⟩;rw [←hx] at hc
    have C:Hid (Calls Tryz.prog 40 #[.pointer (some ⟨g,0,none⟩),.float .f64 x] wr (Did g wr (0,vS (xs.take (k+1)),sS (xs.take (k+1))))):=by
     have hk2:k<xs.length:=by rw [←HX.out.1];exact hk
     obtain ⟨p1,p2⟩:=sS_pos xs k (by omega)
     obtain ⟨v1,v2⟩:=vS_bound xs HX.out.2.2.1 k (by omega)
     have hx64:x<18446744073709551616:=by rw [hx];exact HX.out.2.2.1.get k
     have hsm:=pT_small x 4607182418800017408 hx64 (by decide)
     have hl:=HX.out.2.2.2.2;have hkq:k*QB≤65536*QB:=Nat.mul_le_mul_right _ (by omega)
     have hQ:=QB_HB;have hqp:=QB_pos;have C:=Add7 g (vS (xs.take k)) (sS (xs.take k)) x wr HA.out.1 (p1.ok (by omega)) hx64
     rw [put_ok _ _ _ _ (by omega) (by omega) (by omega)] at C
     rw [vS_take xs k hk2,sS_take xs k hk2,←hx];exact C
    have hkb:k<4611686018427387904:=by have:=HX.out.2.2.2.2;omega
    clear hx
    go_wp2_with fail
    refine (C.out).mono ?_;rintro r w3 ⟨rfl,hA3,hbut⟩;have H3:=qsd (ai hA3 (ai (HA.out.2.1.but hbut (by have:=P2.out.2.2.1;omega)) (But.below HA.out.2.2 hbut HA.out.2.2.size (by have:=P2.out.2.2.1;omega))))
    clear hA3 hbut C;go_wp2
    go_roundg (gk-1)
    case measure=>omega
    case rel=>exact ⟨k+1,by omega,by first | rfl | simp,H3.out⟩
  · obtain rfl:n=k:=by omega
    have hd:decide ((n:Int)<n)=false:=by simp
    have C:Hid (Calls Tryz.prog 32 #[.pointer (some ⟨g,0,none⟩)] wr fun r w'=>∃ v,r=.returned (.agg #[.bool (dN o),v,.int .i64 (dE o)])∧Nt wr.heap.size w' v (dX o)∧Below wr.heap.size wr w'):=by
     have e:xs.take n=xs:=by rw [List.take_of_length_le];rw [←HX.out.1];omega
     have hA:=HA.out.1;rw [e] at hA;rw [HO.out];exact Exact7 g _ _ wr hA (HX.out.2.2.2.1.belows HA.out.2.2)
    have HL:=qsd (HA.out.2.1.lt)
    go_wp2_with fail
    refine (C.out).mono ?_;rintro r w3 ⟨v,rfl,hN,hb3⟩;obtain ⟨a9,c9,rfl,_⟩:=Lo.shape (q:=o) (by rw [HO.out];exact vS_fm HX.out.2.2.1 (by rw [←HX.out.1];exact HX.out.2.2.2.2)) hN
    have B3:=qsd (ai (HA.out.2.1.below hb3 HL.out) (ai (HA.out.2.2.trans (hb3.mono HA.out.2.2.size)) hN));have z0:=B3.out.1.cell 0 _ rfl;have z1:=B3.out.1.cell 1 _ rfl;have z2:=B3.out.1.cell 2 _ rfl;have f0:=B3.out.1.frozen 0;have f1:=B3.out.1.frozen 1;have f2:=B3.out.1.frozen 2;clear hb3 C hN;go_wp2;refine close13 Tryz.results81 ?_ B3.out.1 B3.out.2.1 B3.out.2.2 (HL.out);rfl
end
section
open Go.RowKit J
theorem ex_parts13 {V:Int}(hV:V≠0) (k:Nat) (hk:k≤90000) (hb:V.natAbs<2^k):∃ X e,exV V=some (decide (V<0),X,e)∧X%2=1∧-2148≤e∧e≤100000∧X*2^(e+2148).toNat=V.natAbs∧bl X≤262144∧Frm (decide (V<0)) X e:=by
 obtain ⟨n,X,e,ho,F,hx⟩:=ex_iv V k (by omega) hb
 have hm:mkS (decide (V<0)) V.natAbs (-2148)=some (n,X,e):=ho;have hz:=zv_mkS hm (-2148) (.inr (by omega))
 unfold zv at hz;simp only at hz;rw [show ((-2148:Int) - -2148).toNat=0 by decide,Nat.pow_zero,Nat.mul_one] at hz
 have hX0:X≠0:=by
  rintro rfl;simp [sg1] at hz
  split at hz <;> omega
 have hp:0<X*2^(e - -2148).toNat:=Nat.mul_pos (by omega) (Nat.two_pow_pos _)
 rcases hx with h|⟨h1,h2⟩
 · exact absurd h hX0
 have hn:n=decide (V<0):=by
  by_cases hs:V<0
  · rw [decide_eq_true hs] at hz ⊢
    cases n with
    | true=>rfl
    | false=>simp only [sg1,if_true,Bool.false_eq_true,if_false] at hz;omega
  · rw [decide_eq_false hs] at hz ⊢
    cases n with
    | false=>rfl
    | true=>simp only [sg1,if_true,Bool.false_eq_true,if_false] at hz;omega
 rw [hn] at hz ho F
 have hv:X*2^(e - -2148).toNat=V.natAbs:=by
  by_cases hs:V<0
  · rw [decide_eq_true hs] at hz;simp only [sg1,if_true] at hz;omega
  · rw [decide_eq_false hs] at hz;simp only [sg1,Bool.false_eq_true,if_false] at hz;omega
 refine ⟨X,e,ho,?_,h1,by omega,?_,by omega,F⟩
 · rcases F.odd with q | q
   · exact q
   · exact absurd q.1 hX0
 · rw [show (e+2148).toNat=(e - -2148).toNat by congr 1]
   exact hv
theorem int_ex (N:Nat) (k:Nat) (hk:k=2148):exV ((N:Int)*((2^k:Nat):Int))=mkS false N 0:=by
 unfold exV;rw [←Int.natCast_mul,decide_eq_false (by omega),Int.natAbs_natCast,Nat.mul_comm,mkS_pow11]
 congr 1
 omega
def askE (mode:Int):Int:=if mode<0∨4<mode then 1 else 0
theorem asked13 (mode:Int) (w:World):Calls Tryz.prog 43 #[.int .i64 mode] w fun r w'=>r=.returned (.int .i64 (askE mode))∧w'=w:=by
 by_cases h0:mode<0
 · have e:askE mode=1:=if_pos (.inl h0)
   rw [e];clear e;go_enter Tryz.func43,Tryz.ntmps43;go_wp2;go_ret;exact ⟨rfl,rfl⟩
 · have d0:decide (mode<0)=false:=decide_eq_false h0
   by_cases h4:4<mode
   · have e:askE mode=1:=if_pos (.inr h4)
     rw [e];clear e;go_enter Tryz.func43,Tryz.ntmps43;go_wp2;go_ret;exact ⟨rfl,rfl⟩
   · have d4:decide (4<mode)=false:=decide_eq_false h4
     have e:askE mode=0:=if_neg (by omega)
     rw [e];clear e;go_enter Tryz.func43,Tryz.ntmps43;go_wp2;go_ret;exact ⟨rfl,rfl⟩
theorem beside13 (e:Int) (x:Nat) (w:World):Calls Tryz.prog 42 #[.int .i64 e,.float .f64 x] w fun r w'=>r=.returned (.float .f64 (if e=0 then x else 0))∧w'=w:=by
 by_cases h0:e=0
 · subst h0
   go_enter Tryz.func42,Tryz.ntmps42;go_wp2;go_ret;exact ⟨rfl,rfl⟩
 · rw [if_neg h0]
   have h1:(e==0)=false:=by simp [h0]
   go_enter Tryz.func42,Tryz.ntmps42;go_wp2;go_ret;exact ⟨rfl,rfl⟩
noncomputable def qnR (V:Int) (N:Nat) (mode:Int):Nat×Int:=quoR rndS ⟨dN (exV V),.bool false,dX (exV V),dE (exV V),dN (mkS false N 0),.bool false,dX (mkS false N 0),dE (mkS false N 0)⟩ mode
theorem int_fm (N:Nat) (h:N<2^41):Fm (mkS false N 0):=by
 obtain ⟨k,hk⟩:∃ k:Nat,k=2148:=⟨_,rfl⟩;rw [←int_ex N k hk];refine ex_fm _ (41+k) (by omega) ?_
 rw [←Int.natCast_mul,Int.natAbs_natCast,Nat.pow_add];exact Nat.mul_lt_mul_of_pos_right h (Nat.two_pow_pos k)
noncomputable def levR (xs:List Nat) (s:Sp) (mode:Int):Nat×Int :=
 if xs=[] then (0,3) else if vS xs=0 then (nt (snd s.n s.u s.d s.m s.p s.a) s.n s.u s.d s.m s.p s.a mode,0) else qnR (vS xs) xs.length mode
theorem sgn_ex {V:Int}(k:Nat) (hk:k≤90000) (hb:V.natAbs<2^k):(V=0→sgn (dN (exV V)) (val (ws (dX (exV V))))=0)∧(V≠0→(sgn (dN (exV V)) (val (ws (dX (exV V))))==0)=false)∧(V<0↔sgn (dN (exV V)) (val (ws (dX (exV V))))<0):=by
 rw [val_ws]
 by_cases h0:V=0
 · subst h0
   rw [ex_zero];exact ⟨fun _=>rfl,fun h=>absurd rfl h,by constructor <;> (intro h;exact absurd h (by decide))⟩
 · obtain ⟨X,e,ho,hX,he0,he1,hv,hbl,F⟩:=ex_parts13 h0 k hk hb
   rw [ho]
   show (V=0→sgn (decide (V<0)) X=0)∧(V≠0→(sgn (decide (V<0)) X==0)=false)∧(V<0↔sgn (decide (V<0)) X<0)
   unfold sgn;refine ⟨fun h=>absurd h h0,fun _=>?_,?_⟩
   · rw [if_neg (by omega)];by_cases hs:V<0 <;> simp [hs]
   · rw [if_neg (by omega)];by_cases hs:V<0 <;> simp [hs]
theorem level13 (xs:List Nat) (a:Option Addr) (n c:Nat) (sn su sd sm sp sa mode:Int) (w:World) (hn:n=xs.length) (hF:Fs w.heap.size w a xs) (hW:W64 xs) (hT:Tab w) (hl:n≤65536) (z:Nat×Int) (hz:levR xs ⟨sn,su,sd,sm,sp,sa⟩ mode=z) :
 Calls Tryz.prog 45 #[.slice a n c,.agg #[.int .i64 sn,.int .i64 su,.int .i64 sd,.int .i64 sm,.int .i64 sp,.int .i64 sa],.int .i64 mode] w fun r w'=>r=.returned (.tuple #[.float .f64 z.1,.int .i64 z.2])∧Below w.heap.size w w':=by
 obtain ⟨X,E⟩:=z;simp only
 by_cases h0:n=0
 · have e:(X,E)=(0,3):=by rw [←hz];unfold levR;rw [if_pos (List.eq_nil_of_length_eq_zero (by omega))]
   obtain ⟨rfl,rfl⟩:=Prod.mk.inj e;subst h0;clear hz hn hF hW hT e;go_enter Tryz.func45,Tryz.ntmps45;go_wp2;exact bodyPost_ret (v:=.tuple #[.float .f64 0,.int .i64 3]) (by simp [results,Tryz.results45,go_sem]) rfl ⟨rfl,bel_alloc _ _⟩
 · have hx0:xs≠[]:=by rintro rfl;simp at hn;omega
   unfold levR at hz;rw [if_neg hx0] at hz;simp only at hz;obtain ⟨k,hk,hvb⟩:=vS_bd hW (by omega)
   obtain ⟨g1,g2,g3⟩:=sgn_ex k (by omega) hvb
   have Fv:=qsd (vS_fm hW (by omega))
   obtain ⟨sb,W,hWs,HW⟩:∃ (sb:Value) (W:World),sb=.agg #[.int .i64 sn,.int .i64 su,.int .i64 sd,.int .i64 sm,.int .i64 sp,.int .i64 sa]∧W=w.alloc (Obj.cells #[.int .i64 sn,.int .i64 su,.int .i64 sd,.int .i64 sm,.int .i64 sp,.int .i64 sa] 59):=⟨_,_,rfl,rfl⟩;clear hWs
   have BW:Aside (Below w.heap.size w W∧Bl W w.heap.size 59 [.int .i64 sn,.int .i64 su,.int .i64 sd,.int .i64 sm,.int .i64 sp,.int .i64 sa]∧Tab W):=by
    rw [HW];exact ⟨bel_alloc _ _,Bl.new _ 59 [_,_,_,_,_,_],hT.belows (bel_alloc _ _)⟩
   have HE:=hid (exact13 xs a n c W hn ((hF.below BW.out.1).mono BW.out.1.size) hW BW.out.2.2 hl);obtain ⟨V,hV⟩:∃ V,vS xs=V:=⟨_,rfl⟩;rw [hV] at HE hz g1 g2 Fv;obtain ⟨ov,hov⟩:∃ o,exV V=o:=⟨_,rfl⟩;rw [hov] at HE g1 g2 Fv;have HS:Hid (∀ (u:World) (p:Option Addr) (q:Nat),Nt 0 u (.slice p (ws (dX ov)).length q) (dX ov)→Calls Tryz.prog 34 #[.agg #[.bool (dN ov),.slice p (ws (dX ov)).length q,.int .i64 (dE ov)]] u fun r u'=>r=.returned (.int .i64 (sgn (dN ov) (val (ws (dX ov)))))∧Below u.heap.size u u'):=fun u p q hN=>Sign_any3 (Fv.out.a12 hN) _ _
   have hnb:(n:Int)≠0:=by omega
   have HN:=qsd hn;have HTW:=qsd BW.out.2.2;obtain ⟨sg,hsg⟩:∃ sg,sgn (dN ov) (val (ws (dX ov)))=sg:=⟨_,rfl⟩;rw [hsg] at HS g1 g2;have HWW:=qsd HW;have G:=qsd (ai g1 g2);clear hn hF hW hT hx0 g1 g2 g3 hvb hk k hsg HW;go_enter Tryz.func45,Tryz.ntmps45
   go_wp2_with fail
   rw [←HWW.out];refine HE.out.mono ?_;rintro r u ⟨v,rfl,hN,hb⟩;obtain ⟨a1,c1,rfl,hN0⟩:=Lo.shape Fv.out hN;obtain ⟨U,hU⟩:∃ U,U=u.alloc (Obj.cells #[.bool (dN ov),.slice a1 (ws (dX ov)).length c1,.int .i64 (dE ov)] 67):=⟨_,rfl⟩;have bU:Below W.heap.size W U:=by rw [hU];exact hb.trans ((below_alloc _ _).mono hb.size)
   have H1:Aside (Lo U u.heap.size ov∧Bl U w.heap.size 59 [.int .i64 sn,.int .i64 su,.int .i64 sd,.int .i64 sm,.int .i64 sp,.int .i64 sa]∧Below w.heap.size w U∧Tab U∧Dk U u.heap.size (dN ov) (.slice a1 (ws (dX ov)).length c1) (dE ov)∧Nt 0 U (.slice a1 (ws (dX ov)).length c1) (dX ov)):=by
    refine ⟨?_,BW.out.2.1.below bU BW.out.2.1.lt,BW.out.1.trans (bU.mono BW.out.1.size),HTW.out.belows bU,?_,?_⟩
    · rw [hU];exact Lo.new hN0
    · rw [hU];exact Dk.new _ _ _ _
    · rw [hU];exact hN0.below (below_alloc _ _)
   obtain ⟨gd,hgd⟩:∃ g,g=u.heap.size:=⟨_,rfl⟩;have HU:=qsd hU;have C:=hid (HS.out U a1 c1 H1.out.2.2.2.2.2);rw [←hgd] at H1;obtain ⟨y0,y1,y2,yf0,yf1,yf2⟩:=H1.out.2.2.2.2.1.facts;clear hN hN0 hb bU hU HE HS
   go_upto_region 4 with fail
   try rw [←hgd]
   rw [←HU.out];clear HU hgd
   go_wp2_with fail
   refine C.out.mono ?_;rintro r v ⟨rfl,hb⟩
   have H2:Aside (Bl v w.heap.size 59 [.int .i64 sn,.int .i64 su,.int .i64 sd,.int .i64 sm,.int .i64 sp,.int .i64 sa]∧Below w.heap.size w v∧Tab v∧Dk v gd (dN ov) (.slice a1 (ws (dX ov)).length c1) (dE ov)∧Nt 0 v (.slice a1 (ws (dX ov)).length c1) (dX ov)) :=
    ⟨H1.out.2.1.below hb H1.out.2.1.lt,H1.out.2.2.1.trans (hb.mono H1.out.2.2.1.size),H1.out.2.2.2.1.belows hb,H1.out.2.2.2.2.1.below hb,H1.out.2.2.2.2.2.below hb⟩
   clear hb H1 C y0 y1 y2 yf0 yf1 yf2
   by_cases hv0:V=0
   · rw [if_pos hv0] at hz
     obtain ⟨hX,hE⟩:=Prod.mk.inj hz;have hs:=G.out.1 hv0;have HNo:=hid (fun u:World=>Nought_any sn su sd sm sp sa mode u)
     rw [hX] at HNo;subst hs;subst hE;have q0:=H2.out.1.cell 0 _ rfl;have q1:=H2.out.1.cell 1 _ rfl;have q2:=H2.out.1.cell 2 _ rfl;have q3:=H2.out.1.cell 3 _ rfl;have q4:=H2.out.1.cell 4 _ rfl;have q5:=H2.out.1.cell 5 _ rfl;clear hX hz G hov
     go_wp2_with fail
     refine (HNo.out _).mono ?_;rintro r u2 ⟨rfl,hb⟩;have B3:=qsd (H2.out.2.1.trans (hb.mono H2.out.2.1.size));clear hb HNo q0 q1 q2 q3 q4 q5;go_wp2;exact bodyPost_ret (v:=.tuple #[.float .f64 X,.int .i64 0]) (by simp [results,Tryz.results45,go_sem]) rfl ⟨rfl,B3.out⟩
   · rw [if_neg hv0] at hz
     have hs:=G.out.2 hv0;have hnN:n<2^41:=by omega
     have F1:=qsd (int_fm n hnN)
     have HI:Hid (∀ u:World,Tab u→Calls Tryz.prog 69 #[.int .i64 (n:Nat)] u fun r w'=>(∃ v,r=.returned (.agg #[.bool (dN (mkS false n 0)),v,.int .i64 (dE (mkS false n 0))])∧Nt u.heap.size w' v (dX (mkS false n 0)))∧Below u.heap.size u w'):=fun u hT=>by
      have:=Int_any (n:Nat) u hT (by omega) (by omega)
      rw [decide_eq_false (by omega),Int.natAbs_natCast] at this
      exact this
     have HR:Hid (∀ (u:World) (p q:Option Addr) (cp cq:Nat),Tab u→Nt 0 u (.slice p (ws (dX ov)).length cp) (dX ov)→Nt 0 u (.slice q (ws (dX (mkS false n 0))).length cq) (dX (mkS false n 0))→Calls Tryz.prog 47 #[.agg #[.bool (dN ov),.slice p (ws (dX ov)).length cp,.int .i64 (dE ov),.bool (dN (mkS false n 0)),.slice q (ws (dX (mkS false n 0))).length cq,.int .i64 (dE (mkS false n 0))],.int .i64 mode] u fun r w'=>r=.returned (.tuple #[.float .f64 X,.int .i64 E])∧Below u.heap.size u w'):=fun u p q cp cq hT n1 n2=>by
      have:=Quot11 (w:=u) (n:=dN ov) (m:=dN (mkS false n 0)) (X:=dX ov) (Y:=dX (mkS false n 0)) (e:=dE ov) (f:=dE (mkS false n 0)) mode ⟨n1.av (Nat.le_trans Fv.out.len (by decide)),n2.av (Nat.le_trans F1.out.len (by decide)),Fv.out.rng,F1.out.rng⟩ hT
      rw [show quoR rndS ⟨dN ov,.slice p (ws (dX ov)).length cp,dX ov,dE ov,dN (mkS false n 0),.slice q (ws (dX (mkS false n 0))).length cq,dX (mkS false n 0),dE (mkS false n 0)⟩ mode=(X,E) from (by rw [←hov,←hz,←HN.out];rfl)] at this
      exact this
     obtain ⟨ow,how⟩:∃ o,mkS false n 0=o:=⟨_,rfl⟩;rw [how] at HR HI F1;clear hz how G hov hv0 hnN
     go_upto_region 6 with fail
     have hdr:=(Below.refl v.heap.size v).drew;have BD:=qsd (ai (H2.out.2.1.trans (hdr.mono H2.out.2.1.size)) (ai (H2.out.2.2.2.1.below hdr) (ai (H2.out.2.2.2.2.below hdr) (H2.out.2.2.1.belows hdr))));clear hdr H2;have kS:=qsd (ai BD.out.2.1.facts.1 (ai BD.out.2.1.facts.2.1 BD.out.2.1.facts.2.2.1))
     go_region_held3 (fun w'=>w'.cell? ⟨gd,0,none⟩=some (.bool (dN ov))∧w'.cell? ⟨gd,1,none⟩=some (.slice a1 (ws (dX ov)).length c1)∧w'.cell? ⟨gd,2,none⟩=some (.int .i64 (dE ov))) (with_reducible exact kS.out) (first
      | (go_at_call 47
         with_reducible refine (HR.out _ a1 a2 c1 c2 BD.out.2.2.2 BD.out.2.2.1 Q2.out).mono ?_
         rintro r v ⟨rfl,hb⟩;have BD:=qsd (ai (BD.out.1.trans (hb.mono BD.out.1.size)) (ai (BD.out.2.1.below hb) (ai (BD.out.2.2.1.below hb) (BD.out.2.2.2.belows hb))));have kS:=qsd (ai BD.out.2.1.facts.1 (ai BD.out.2.1.facts.2.1 BD.out.2.1.facts.2.2.1));clear hb)
      | (go_at_call 69
         with_reducible refine (HI.out _ BD.out.2.2.2).mono ?_
         rintro r v ⟨⟨p,rfl,hN⟩,hb⟩;obtain ⟨a2,c2,rfl,hN0⟩:=Lo.shape F1.out hN;have BD:=qsd (ai (BD.out.1.trans (hb.mono BD.out.1.size)) (ai (BD.out.2.1.below hb) (ai (BD.out.2.2.1.below hb) (BD.out.2.2.2.belows hb))));have Q2:=qsd hN0;have kS:=qsd (ai BD.out.2.1.facts.1 (ai BD.out.2.1.facts.2.1 BD.out.2.1.facts.2.2.1));clear hb hN hN0))
     clear kS Q2 HR HI;go_wp2;exact bodyPost_ret (v:=.tuple #[.float .f64 X,.int .i64 E]) (by simp [results,Tryz.results45,go_sem]) rfl ⟨rfl,BD.out.1⟩
attribute [local go_sem] st_float
def bsd (e:Int) (x:Nat):Nat:=if e=0 then x else 0
theorem door13 {fn:Func}{f:FuncId}{px pe:Tmp}(hres:fn.results=#[.cell px 28,.cell pe 31]) {tmps:Array Value}{gx ge:Nat}{w:World}{x:Nat}{e:Int}{R:Ending→World→Prop}
 (hi:(callFunc f #[.pointer (some ⟨ge,0,none⟩),.pointer (some ⟨gx,0,none⟩)]).run Tryz.prog w=.ok (.enter f #[.pointer (some ⟨ge,0,none⟩),.pointer (some ⟨gx,0,none⟩)]) w)
 (HC:∀ (u:FrameMode),CallsD Tryz.prog f #[.pointer (some ⟨ge,0,none⟩),.pointer (some ⟨gx,0,none⟩)] u w fun r u' w'=>u'=u∧(r=.returned (.tuple #[])∧w'=w.setCell ⟨gx,0,none⟩ (.float .f64 (bsd e x))))
 (h1:tmps.getD px undef=.pointer (some ⟨gx,0,none⟩)) (h2:tmps.getD pe undef=.pointer (some ⟨ge,0,none⟩))
 (cx:w.cell? ⟨gx,0,none⟩=some (.float .f64 x)) (ce:w.cell? ⟨ge,0,none⟩=some (.int .i64 e)) (hne:ge≠gx)
 (hR:R (.returned (.tuple #[.float .f64 (bsd e x),.int .i64 e])) (w.setCell ⟨gx,0,none⟩ (.float .f64 (bsd e x)))) :
 Leaves Tryz.prog fn tmps R [{ target:=.fn (.func f) #[.pointer (some ⟨ge,0,none⟩),.pointer (some ⟨gx,0,none⟩)],args:=#[] }] .returning w:=by
 refine leaves_cons (f:=f) (args:=#[.pointer (some ⟨ge,0,none⟩),.pointer (some ⟨gx,0,none⟩)]) (by simp) (by simp [go_sem,hi]) ?_
 refine (HC _).mono ?_;rintro r u' w' ⟨rfl,rfl,rfl⟩;have q1:(w.setCell ⟨gx,0,none⟩ (.float .f64 (bsd e x))).cell? ⟨gx,0,none⟩=some (.float .f64 (bsd e x)):=World.cell?_setCell_same _ _ _ cx
 have q2:(w.setCell ⟨gx,0,none⟩ (.float .f64 (bsd e x))).cell? ⟨ge,0,none⟩=some (.int .i64 e):=by
  rw [World.cell?_setCell_other _ _ _ _ (by intro h;cases h;exact hne rfl)];exact ce
 rw [Array.getD_eq_getD_getElem?] at h1 h2;exact ⟨.tuple #[.float .f64 (bsd e x),.int .i64 e],by simp [results,hres,go_sem,h1,h2,q1,q2],hR⟩
theorem Mean1_d (gx ge x:Nat) (e:Int) (w:World) (cx:w.cell? ⟨gx,0,none⟩=some (.float .f64 x)) (ce:w.cell? ⟨ge,0,none⟩=some (.int .i64 e)) (fx:w.frozen? ⟨gx,0,none⟩=false) (u:FrameMode) :
 CallsD Tryz.prog 41 #[.pointer (some ⟨ge,0,none⟩),.pointer (some ⟨gx,0,none⟩)] u w fun r u' w'=>u'=u∧(r=.returned (.tuple #[])∧w'=w.setCell ⟨gx,0,none⟩ (.float .f64 (bsd e x))):=by
 have HB:=hid (fun w:World=>beside13 e x w)
 go_enter_d Tryz.func41,Tryz.ntmps41
 go_wp2_with fail
 refine (HB.out _).mono ?_;rintro r v ⟨rfl,rfl⟩;obtain ⟨b,hb⟩:∃ b,b=bsd e x:=⟨_,rfl⟩;have hb2:(if e=0 then x else 0)=b:=hb.symm
 rw [hb2];have HBB:=qsd hb;clear hb hb2 HB;go_wp2
 go_end0
 exact ⟨rfl,by rw [HBB.out]⟩
theorem Of1_d (gx ge x:Nat) (e:Int) (w:World) (cx:w.cell? ⟨gx,0,none⟩=some (.float .f64 x)) (ce:w.cell? ⟨ge,0,none⟩=some (.int .i64 e)) (fx:w.frozen? ⟨gx,0,none⟩=false) (u:FrameMode) :
 CallsD Tryz.prog 68 #[.pointer (some ⟨ge,0,none⟩),.pointer (some ⟨gx,0,none⟩)] u w fun r u' w'=>u'=u∧(r=.returned (.tuple #[])∧w'=w.setCell ⟨gx,0,none⟩ (.float .f64 (bsd e x))):=by
 have HB:=hid (fun w:World=>beside13 e x w)
 go_enter_d Tryz.func68,Tryz.ntmps68
 go_wp2_with fail
 refine (HB.out _).mono ?_;rintro r v ⟨rfl,rfl⟩;obtain ⟨b,hb⟩:∃ b,b=bsd e x:=⟨_,rfl⟩;have hb2:(if e=0 then x else 0)=b:=hb.symm
 rw [hb2];have HBB:=qsd hb;clear hb hb2 HB;go_wp2
 go_end0
 exact ⟨rfl,by rw [HBB.out]⟩
end
namespace Ps
open Go.RowKit
open Go.RowKit
def Wf (xs:List Nat):Prop:=∀ x ∈ xs,x<18446744073709551616
theorem Wf.get {xs:List Nat}(h:Wf xs) (k:Nat):xs.getD k 0<18446744073709551616:=by
 by_cases hk:k<xs.length
 · rw [List.getD_eq_getElem?_getD,List.getElem?_eq_getElem hk];exact h _ (List.getElem_mem hk)
 · rw [List.getD_eq_getElem?_getD,List.getElem?_eq_none (by omega)];decide
def U (n:Nat):Value:=.float .f64 n
def Rd (B:Nat) (w:World) (ao:Option Addr) (xs:List Nat):Prop :=
 xs≠[]→∃ b off,b<B∧ao=some ⟨b,off,none⟩∧∀ i,i<xs.length→w.cell? ⟨b,off+i,none⟩=some (.float .f64 (xs.getD i 0))
theorem Rd.below {B:Nat}{w w':World}{ao:Option Addr}{xs:List Nat}(h:Rd B w ao xs) (hb:Below B w w'):Rd B w' ao xs:=by
 intro hx;obtain ⟨b,off,hlt,rfl,hc⟩:=h hx;exact ⟨b,off,hlt,rfl,fun i hi=>(hb.cell (p:=⟨b,off+i,none⟩) hlt).trans (hc i hi)⟩
theorem Rd.mono {B B':Nat}{w:World}{ao:Option Addr}{xs:List Nat}(h:Rd B w ao xs) (hB:B≤B'):Rd B' w ao xs:=by
 intro hx;obtain ⟨b,off,hlt,rfl,hc⟩:=h hx;exact ⟨b,off,by omega,rfl,hc⟩
def Lt (lo:Nat) (w:World) (v:Value) (xs:List Nat):Prop:=w.ownsRow lo 28 1 v xs.length (xs.map U)
theorem Lt.nil (lo:Nat) (w:World):Lt lo w (.slice none 0 0) []:=World.ownsRow_nil _ _ _ _
theorem Tryz.info28:(Tryz.prog.info? 28).map (fun i=>(i.zero,i.size,i.bytes))=some (some (.float .f64 0),1,8):=by kernel_rfl
open Go.RowKit
abbrev Rw (lo:Nat) (w:World) (v:Value) (n:Nat) (ys:List Value):Prop:=w.ownsRow lo 28 1 v n ys
def Keep (w w':World):Prop:=∀ (g:Nat) (cur:Array Value) (e:TypeId),e≠22→e≠24→w.heap[g]?=some (.cells cur e (0,0))→w'.heap[g]?=some (.cells cur e (0,0))
theorem Keep.row {w w':World}{lo:Nat}{v:Value}{n:Nat}{ys:List Value}(h:Rw lo w v n ys) (k:Keep w w'):Rw lo w' v n ys:=by
 refine ⟨h.1,?_⟩
 rcases h.2 with hn|⟨g,cap,cur,rfl,hlo,hg,rest⟩
 · exact .inl hn
 · exact .inr ⟨g,cap,cur,rfl,hlo,k _ _ _ (by decide) (by decide) hg,rest⟩
theorem Keep.below {w w':World}(h:Below w.heap.size w w'):Keep w w':=fun g cur _ _ _ e=>by rw [h.block g (Array.getElem?_eq_some_iff.1 e).1];exact e
theorem row_other {w w':World}{lo e s:Nat}{v:Value}{n:Nat}{ys:List Value}(h:w.ownsRow lo e s v n ys) (hb:∀ g,v.ownBlock=some g→w'.heap[g]?=w.heap[g]?):w'.ownsRow lo e s v n ys:=by
 refine ⟨h.1,?_⟩
 rcases h.2 with hn|⟨g,cap,cur,rfl,hlo,hg,rest⟩
 · exact .inl hn
 · refine .inr ⟨g,cap,cur,rfl,hlo,?_,rest⟩
   rw [hb g rfl];exact hg
theorem append_word (w:World) (lo:Nat) (v:Value) (n:Nat) (ys:List Value) (x:Value) (s:Nat) (ty:TypeId) (hown:Rw lo w v n ys) (hx:w.cell? ⟨s,0,none⟩=some x) (h1:x.oneCell'=true)
 (hbig:n+1≤17592186044416) (hlo:lo≤w.heap.size) :
 ∃ v' w',(Builtin.append_ #[22,22] ty #[v,.slice (some ⟨s,0,none⟩) 1 1]).run Tryz.prog w=.ok v' w'∧Rw lo w' v' (n+1) (ys++[x])∧w.grownBy w' v.ownBlock ∧
   (v'.ownBlock=v.ownBlock∨∃ g,v'.ownBlock=some g∧w.heap.size≤g)∧(∀ (u:Value) (k:Nat) (zs:List Value),Rw lo w u k zs→(u.ownBlock=v.ownBlock→k≤n)→Rw lo w' u k zs):=by
 obtain ⟨i0,hi,hz0,hz1,hz2⟩:=info_parts Tryz.info28
 have hnews:∀ j u,[x][j]?=some u→w.cell? ((⟨s,0,none⟩:Addr).add j)=some u:=by
  intro j u hj
  match j,hj with
  | 0,hj=>simp at hj;subst hj;simpa [Addr.add] using hx
 have h1':∀ u ∈ [x],u.oneCell'=true:=by intro u hu;simp at hu;subst hu;exact h1
 have keep:∀ w',w.grownBy w' none→∀ (u:Value) (k:Nat) (zs:List Value),Rw lo w u k zs→Rw lo w' u k zs:=by
  intro w' hg u k zs hr
  rcases hr.2 with hn|⟨g,cap,cur,rfl,hl,hgb,rest⟩
  · exact ⟨hr.1,.inl hn⟩
  · refine ⟨hr.1,.inr ⟨g,cap,cur,rfl,hl,?_,rest⟩⟩
    rw [hg.block g (Array.getElem?_eq_some_iff.1 hgb).1 (by simp)];exact hgb
 have newb:∀ (v':Value) (w':World) (m:Nat) (zs:List Value),w'.ownsRow w.heap.size 28 1 v' (m+1) zs→∃ g,v'.ownBlock=some g∧w.heap.size≤g:=by
  intro v' w' m zs h
  rcases h.2 with ⟨_,h0⟩|⟨g,cap,cur,rfl,hl,_⟩
  · omega
  · exact ⟨g,rfl,hl⟩
 have mono:∀ (v':Value) (w':World) (m:Nat) (zs:List Value),w'.ownsRow w.heap.size 28 1 v' m zs→Rw lo w' v' m zs:=by
  intro v' w' m zs h;refine ⟨h.1,?_⟩
  rcases h.2 with hn|⟨g,cap,cur,rfl,hl,rest⟩
  · exact .inl hn
  · exact .inr ⟨g,cap,cur,rfl,by omega,rest⟩
 rcases hown.2 with ⟨rfl,rfl⟩|⟨g,cap,cur,rfl,hlg,hg,hnc,hm,hs,ht⟩
 · obtain ⟨v',w',r1,r2,r3,_,_⟩:=run_append_own_at (P:=Tryz.prog) w w.heap.size 22 ty 28 i0 (.float .f64 0) 1 8 Tryz.underlying22 hi hz0 hz1 hz2 rfl (by decide) (.slice none 0 0) 0 [] (World.ownsRow_nil _ _ _ _) ⟨s,0,none⟩ 1 1 [x] rfl hnews h1' (by unfold maxLen;omega) (by omega) (Nat.le_refl _)
   have hy:ys=[]:=List.eq_nil_of_length_eq_zero (by simpa using hown.1)
   subst hy;exact ⟨v',w',r1,mono _ _ _ _ (by simpa using r2),r3,.inr (newb _ _ 0 _ (by simpa using r2)),fun u k zs hr _=>keep _ r3 u k zs hr⟩
 · by_cases hroom:n+1≤cap
   · have hr:=run_append_room (P:=Tryz.prog) w 22 ty 28 i0 Tryz.underlying22 hi g n cap cur hg ⟨s,0,none⟩ 1 1 [x] (by rw [hz1];rfl) hnews h1' hroom (by rw [hz1,hs];simp;omega)
     rw [hz1] at hr;refine ⟨_,_,hr,⟨by simpa using hown.1,.inr ⟨g,cap,_,rfl,hlg,setRow_heap w g cur _ 28 _ hg,hroom,hm,?_,?_⟩⟩,⟨rfl,rfl,rfl,by simp,fun k _ hk=>setRow_other w g k _ (fun e=>hk (by simp [Value.ownBlock,e]))⟩,.inl rfl,?_⟩
     · simp only [List.size_toArray,List.length_append,List.length_take,List.length_drop,Array.length_toList,List.length_cons,List.length_nil]
       omega
     · rw [ht]
       have hyl:ys.length=n:=by simpa using hown.1
       simp only [Nat.mul_one,List.append_assoc];rw [←List.append_assoc];rw [List.take_append_of_le_length (by simp [hyl])]
       rw [List.take_of_length_le (by simp [hyl])]
     · intro u k zs hr2 hle
       rcases hr2.2 with hn|⟨g2,cap2,cur2,rfl,hl2,hg2,hnc2,hm2,hs2,ht2⟩
       · exact ⟨hr2.1,.inl hn⟩
       · by_cases he:g2=g
         · subst he
           rw [hg] at hg2
           cases hg2
           have hk:=hle rfl;refine ⟨hr2.1,.inr ⟨g2,cap2,_,rfl,hl2,setRow_heap w g2 cur _ 28 _ hg,hnc2,hm2,?_,?_⟩⟩
           · simp only [List.size_toArray,List.length_append,List.length_take,List.length_drop,Array.length_toList,List.length_cons,List.length_nil]
             omega
           · have hcl:cur.toList.length=cap2:=by simpa using hs2
             rw [←ht2];simp only [Nat.mul_one,List.append_assoc];rw [List.take_append_of_le_length (by rw [List.length_take];omega),List.take_take,Nat.min_eq_left hk]
         · refine ⟨hr2.1,.inr ⟨g2,cap2,cur2,rfl,hl2,?_,hnc2,hm2,hs2,ht2⟩⟩
           rw [setRow_other w g g2 _ he];exact hg2
   · obtain ⟨v',w',r1,r2,r3⟩:=run_append_arg_grows (P:=Tryz.prog) w 22 ty 28 i0 (.float .f64 0) 1 8 Tryz.underlying22 hi hz0 hz1 hz2 rfl (by decide) ⟨g,0,none⟩ n cap ys (by simpa using hown.1) (fun j u hj=>hown.cells (g:=g) (by simp [Value.ownBlock]) j u hj) ⟨s,0,none⟩ 1 1 [x] rfl hnews (by omega) (by unfold maxLen;omega) (by omega)
     exact ⟨v',w',r1,mono _ _ _ _ r2,⟨r3.os,r3.tape,r3.output,r3.size,fun k hk _=>r3.block k hk (by simp)⟩,.inr (newb _ _ n _ r2),fun u k zs hr _=>keep _ r3 u k zs hr⟩
theorem wpList_append_run2 {w:World}{ops:Array Oper}{rest:List Oper}{o:Oper}{a:Act}{Q:Exit→Act→World→Prop}(hgd:o.guard=none) (s x:Operand) (t:TypeId)
 (ho:o.op=.call { callee:=.builtin .append,args:=#[s,x],argTypes:=#[t,t] }) (v u:Value) (hs:a.eval s=v) (hx:a.eval x=u) (v':Value) (w':World)
 (hrun:(Builtin.append_ #[t,t] o.type #[v,u]).run Tryz.prog w=.ok v' w') (h:wpList Tryz.prog ops Q rest (a.put o.dst v') w'):wpList Tryz.prog ops Q (o::rest) a w:=by
 refine wpList_plain hgd fun K hK=>?_
 unfold Oper.wp;simp [execOp,ho,resolve,invoke,builtin,hs,hx,hrun,Result.andThen];exact hK _ _ h
end Ps
namespace Ps
open Go.RowKit
open Go.Proofs.YthejkolknalpaaaGreatDoor.B (f64bits f64frombits bw)
attribute [local go_sem] f64bits f64frombits
theorem kd_le (b:Nat):kd b≤5:=by unfold kd;(repeat' split) <;> omega
open Go.RowKit
open Go.Proofs.YthejkolknalpaaaGreatDoor.B (f64bits f64frombits bw bcell)
attribute [local go_sem] f64bits f64frombits
def cn (k:Nat) (xs:List Nat):Nat:=xs.countP (fun x=>kd x==k)
theorem cn_append (k:Nat) (xs ys:List Nat):cn k (xs++ys)=cn k xs+cn k ys:=by simp [cn,List.countP_append]
def one (k x:Nat):Nat:=if kd x=k then 1 else 0
theorem cn_one (k x:Nat):cn k [x]=one k x:=by unfold cn one;by_cases h:kd x=k <;> simp [h]
theorem take_succ' (xs:List Nat) (i:Nat) (h:i<xs.length):xs.take (i+1)=xs.take i++[xs.getD i 0]:=by
 rw [List.take_succ_eq_append_getElem h,List.getD_eq_getElem?_getD,List.getElem?_eq_getElem h];rfl
theorem cn_succ (k:Nat) (xs:List Nat) (i:Nat) (h:i<xs.length):cn k (xs.take (i+1))=cn k (xs.take i)+one k (xs.getD i 0):=by
 rw [take_succ' xs i h,cn_append,cn_one]
theorem cn_le (k:Nat) (xs:List Nat):cn k xs≤xs.length:=List.countP_le_length
def SpB (w:World) (g:Nat) (n u d m p a:Int):Prop:=w.heap[g]?=some (.cells #[.int .i64 n,.int .i64 u,.int .i64 d,.int .i64 m,.int .i64 p,.int .i64 a] 59 (0,0))
theorem SpB.lt {w:World}{g:Nat}{n u d m p a:Int}(h:SpB w g n u d m p a):g<w.heap.size:=(Array.getElem?_eq_some_iff.1 h).1
theorem SpB.c0 {w:World}{g:Nat}{n u d m p a:Int}(h:SpB w g n u d m p a):w.cell? ⟨g,0,none⟩=some (.int .i64 n):=by unfold SpB at h;simp [World.cell?,h]
theorem SpB.c1 {w:World}{g:Nat}{n u d m p a:Int}(h:SpB w g n u d m p a):w.cell? ⟨g,1,none⟩=some (.int .i64 u):=by unfold SpB at h;simp [World.cell?,h]
theorem SpB.c2 {w:World}{g:Nat}{n u d m p a:Int}(h:SpB w g n u d m p a):w.cell? ⟨g,2,none⟩=some (.int .i64 d):=by unfold SpB at h;simp [World.cell?,h]
theorem SpB.c3 {w:World}{g:Nat}{n u d m p a:Int}(h:SpB w g n u d m p a):w.cell? ⟨g,3,none⟩=some (.int .i64 m):=by unfold SpB at h;simp [World.cell?,h]
theorem SpB.c4 {w:World}{g:Nat}{n u d m p a:Int}(h:SpB w g n u d m p a):w.cell? ⟨g,4,none⟩=some (.int .i64 p):=by unfold SpB at h;simp [World.cell?,h]
theorem SpB.c5 {w:World}{g:Nat}{n u d m p a:Int}(h:SpB w g n u d m p a):w.cell? ⟨g,5,none⟩=some (.int .i64 a):=by unfold SpB at h;simp [World.cell?,h]
theorem SpB.frozen {w:World}{g:Nat}{n u d m p a:Int}(h:SpB w g n u d m p a) (i:Nat):w.frozen? ⟨g,i,none⟩=false:=by unfold SpB at h;simp [World.frozen?,h]
theorem SpB.below {w w':World}{g B:Nat}{n u d m p a:Int}(h:SpB w g n u d m p a) (hb:Below B w w') (hg:g<B):SpB w' g n u d m p a:=by
 unfold SpB at h ⊢;rw [hb.block g hg];exact h
theorem count_any (k g:Nat) (n u d m p a:Int) (w:World) (hk:k≤5) (hB:SpB w g n u d m p a) (hn:0≤n∧n≤65536) (hu:0≤u∧u≤65536) (hd:0≤d∧d≤65536) (hm:0≤m∧m≤65536) (hp:0≤p∧p≤65536) :
 Calls Tryz.prog 79 #[.pointer (some ⟨g,0,none⟩),.int .i64 (k:Nat)] w fun r w'=>r=.returned (.tuple #[]) ∧
  SpB w' g (if k=0 then n+1 else n) (if k=1 then u+1 else u) (if k=2 then d+1 else d) (if k=3 then m+1 else m) (if k=4 then p+1 else p) a∧But g w w':=by
 have hc0:=hB.c0;have hc1:=hB.c1;have hc2:=hB.c2;have hc3:=hB.c3;have hc4:=hB.c4;have hf0:=hB.frozen 0;have hf1:=hB.frozen 1;have hf2:=hB.frozen 2;have hf3:=hB.frozen 3;have hf4:=hB.frozen 4;have HB:=qsd hB;clear hB;obtain rfl|rfl|rfl|rfl|rfl|rfl:k=0∨k=1∨k=2∨k=3∨k=4∨k=5:=by omega
 · go_enter Tryz.func79,Tryz.ntmps79
   go_wp2
   go_end0
   refine ⟨rfl,?_,(But.refl _ _).set _ _⟩;have h:=HB.out;unfold SpB at h ⊢;simp [World.setCell,Array.getElem?_modify,h]
 · go_enter Tryz.func79,Tryz.ntmps79
   go_wp2
   go_end0
   refine ⟨rfl,?_,(But.refl _ _).set _ _⟩;have h:=HB.out;unfold SpB at h ⊢;simp [World.setCell,Array.getElem?_modify,h]
 · go_enter Tryz.func79,Tryz.ntmps79
   go_wp2
   go_end0
   refine ⟨rfl,?_,(But.refl _ _).set _ _⟩;have h:=HB.out;unfold SpB at h ⊢;simp [World.setCell,Array.getElem?_modify,h]
 · go_enter Tryz.func79,Tryz.ntmps79
   go_wp2
   go_end0
   refine ⟨rfl,?_,(But.refl _ _).set _ _⟩;have h:=HB.out;unfold SpB at h ⊢;simp [World.setCell,Array.getElem?_modify,h]
 · go_enter Tryz.func79,Tryz.ntmps79
   go_wp2
   go_end0
   refine ⟨rfl,?_,(But.refl _ _).set _ _⟩;have h:=HB.out;unfold SpB at h ⊢;simp [World.setCell,Array.getElem?_modify,h]
 · go_enter Tryz.func79,Tryz.ntmps79
   go_wp2
   go_end0
   exact ⟨rfl,HB.out,But.refl _ _⟩
def rf (n u d a b:Int):Int:=if 0<n∧a=2 then 60 else if 0<u+d∧b=2 then 61 else 0
theorem refusal_any (n u d m p l a b:Int) (w:World) (hu:0≤u∧u≤65536) (hd:0≤d∧d≤65536) :
 Calls Tryz.prog 80 #[.agg #[.int .i64 n,.int .i64 u,.int .i64 d,.int .i64 m,.int .i64 p,.int .i64 l],.agg #[.int .i64 a,.int .i64 b]] w fun r w'=>r=.returned (.int .i64 (rf n u d a b))∧Below w.heap.size w w':=by
 have below:∀ o o',Below w.heap.size w ((w.alloc o).alloc o'):=fun o o'=>((Below.refl _ _).alloc (Nat.le_refl _) _).alloc (by simp) _
 obtain ⟨t,ht⟩:∃ t,u+d=t:=⟨_,rfl⟩;have ht2:-9223372036854775808≤t∧t≤9223372036854775807:=by omega
 unfold rf;rw [ht]
 by_cases h1:0<n
 · by_cases h2:a=2
   · rw [if_pos ⟨h1,h2⟩]
     subst h2;go_enter Tryz.func80,Tryz.ntmps80;go_wp2;go_ret;exact ⟨rfl,below _ _⟩
   · have h2':(a==2)=false:=by rw [beq_eq_false_iff_ne];exact h2
     rw [if_neg (fun h=>h2 h.2)]
     by_cases h3:0<t
     · by_cases h4:b=2
       · rw [if_pos ⟨h3,h4⟩]
         subst h4;go_enter Tryz.func80,Tryz.ntmps80;go_wp2;go_ret;exact ⟨rfl,below _ _⟩
       · have h4':(b==2)=false:=by rw [beq_eq_false_iff_ne];exact h4
         rw [if_neg (fun h=>h4 h.2)]
         go_enter Tryz.func80,Tryz.ntmps80;go_wp2;go_ret;exact ⟨rfl,below _ _⟩
     · have h3':decide (0<t)=false:=decide_eq_false h3
       rw [if_neg (fun h=>h3 h.1)]
       go_enter Tryz.func80,Tryz.ntmps80;go_wp2;go_ret;exact ⟨rfl,below _ _⟩
 · have h1':decide (0<n)=false:=decide_eq_false h1
   rw [if_neg (fun h=>h1 h.1)]
   by_cases h3:0<t
   · by_cases h4:b=2
     · rw [if_pos ⟨h3,h4⟩]
       subst h4;go_enter Tryz.func80,Tryz.ntmps80;go_wp2;go_ret;exact ⟨rfl,below _ _⟩
     · have h4':(b==2)=false:=by rw [beq_eq_false_iff_ne];exact h4
       rw [if_neg (fun h=>h4 h.2)]
       go_enter Tryz.func80,Tryz.ntmps80;go_wp2;go_ret;exact ⟨rfl,below _ _⟩
   · have h3':decide (0<t)=false:=decide_eq_false h3
     rw [if_neg (fun h=>h3 h.1)]
     go_enter Tryz.func80,Tryz.ntmps80;go_wp2;go_ret;exact ⟨rfl,below _ _⟩
open Go.RowKit
open Go.Proofs.YthejkolknalpaaaGreatDoor.B (f64bits f64frombits bw bcell)
attribute [local go_sem] f64bits f64frombits
theorem SpB.made (w:World) (n u d m p a:Int):SpB (w.alloc (.cells #[.int .i64 n,.int .i64 u,.int .i64 d,.int .i64 m,.int .i64 p,.int .i64 a] 59)) w.heap.size n u d m p a:=heap_alloc_new w _
def SpT (w:World) (g:Nat) (xs:List Nat) (a:Int):Prop:=SpB w g (cn 5 xs:Nat) (cn 3 xs:Nat) (cn 4 xs:Nat) (cn 1 xs:Nat) (cn 2 xs:Nat) a
theorem cn_bd (k:Nat) (xs:List Nat) (n:Nat) (h:xs.length≤n) (hn:n≤65536):0≤((cn k xs:Nat):Int)∧((cn k xs:Nat):Int)≤65536:=by have:=cn_le k xs;omega
theorem But.set6 {a w:World}{g:Nat}(h:But g a w) (u0 u1 u2 u3 u4 u5:Value) :
 But g a ((((((w.setCell ⟨g,0,none⟩ u0).setCell ⟨g,1,none⟩ u1).setCell ⟨g,2,none⟩ u2).setCell ⟨g,3,none⟩ u3).setCell ⟨g,4,none⟩ u4).setCell ⟨g,5,none⟩ u5) :=
 ((((((h.set 0 u0).set 1 u1).set 2 u2).set 3 u3).set 4 u4).set 5 u5)
theorem cset {w:World}{b o:Nat}{u:Value}(h:w.cell? ⟨b,o,none⟩=some u) (v:Value):(w.setCell ⟨b,o,none⟩ v).cell? ⟨b,o,none⟩=some v:=by
 simp only [World.cell?] at h ⊢;simp only [World.setCell,Array.getElem?_modify]
 cases hb:w.heap[b]? with
 | none=>rw [hb] at h;simp at h
 | some ob =>
   rw [hb] at h
   cases ob <;> simp_all
   rename_i cs _ _
   by_cases hl:o<cs.size
   · simp [hl]
   · rw [Array.getElem?_eq_none (by omega)] at h;cases h
theorem csetm (w:World) (b o:Nat) (v:Value):(w.setCell ⟨b,o,none⟩ v).cell? ⟨b,o,none⟩=(w.cell? ⟨b,o,none⟩).map (fun _=>v):=by
 cases h:w.cell? ⟨b,o,none⟩ with
 | some u=>rw [cset h v];rfl
 | none =>
   simp only [World.cell?] at h ⊢;simp only [World.setCell,Array.getElem?_modify]
   cases hb:w.heap[b]? with
   | none=>simp
   | some ob =>
     rw [hb] at h
     cases ob <;> simp_all
open Go.RowKit
open Go.Proofs.YthejkolknalpaaaGreatDoor.B (f64bits f64frombits bw bcell)
attribute [local go_sem] f64bits f64frombits
def fin (xs:List Nat):List Nat:=xs.filter (fun x=>decide (kd x≤2))
theorem fin_append (xs ys:List Nat):fin (xs++ys)=fin xs++fin ys:=by simp [fin,List.filter_append]
theorem fin_le (xs:List Nat):(fin xs).length≤xs.length:=List.length_filter_le _ _
theorem fin_in (xs:List Nat) (i:Nat) (h:i<xs.length) (hk:kd (xs.getD i 0)≤2):fin (xs.take (i+1))=fin (xs.take i)++[xs.getD i 0]:=by
 rw [take_succ' xs i h,fin_append];simp [fin];simpa [List.getD_eq_getElem?_getD] using hk
theorem fin_out (xs:List Nat) (i:Nat) (h:i<xs.length) (hk:¬ kd (xs.getD i 0)≤2):fin (xs.take (i+1))=fin (xs.take i):=by
 rw [take_succ' xs i h,fin_append];simp [fin];simpa [List.getD_eq_getElem?_getD] using hk
def siftE (a b:Int) (xs:List Nat):Int:=if may a b=false then 1 else if 65536<xs.length then 2 else rf (cn 5 xs:Nat) (cn 3 xs:Nat) (cn 4 xs:Nat) a b
def siftL (a b:Int) (xs:List Nat):List Nat:=if siftE a b xs=0 then fin xs else []
def siftS (a b:Int) (xs:List Nat):Value:=if siftE a b xs=0 then .agg #[.int .i64 (cn 5 xs:Nat),.int .i64 (cn 3 xs:Nat),.int .i64 (cn 4 xs:Nat),.int .i64 (cn 1 xs:Nat),.int .i64 (cn 2 xs:Nat),.int .i64 (xs.length:Nat)] else .agg #[.int .i64 0,.int .i64 0,.int .i64 0,.int .i64 0,.int .i64 0,.int .i64 0]
def SiftAns (w:World) (a b:Int) (xs:List Nat) (r:Ending) (w':World):Prop:=∃ v,r=.returned (.tuple #[v,siftS a b xs,.int .i64 (siftE a b xs)])∧Lt w.heap.size w' v (siftL a b xs)∧Below w.heap.size w w'
theorem SiftAns.no {w w':World}{a b:Int}{xs:List Nat}(e:Int) (he:siftE a b xs=e) (h0:e≠0) (hb:Below w.heap.size w w'):SiftAns w a b xs (.returned (.tuple #[.slice none 0 0,.agg #[.int .i64 0,.int .i64 0,.int .i64 0,.int .i64 0,.int .i64 0,.int .i64 0],.int .i64 e])) w':=by
 subst he;refine ⟨.slice none 0 0,?_,?_,hb⟩
 · unfold siftS;rw [if_neg h0]
 · unfold siftL;rw [if_neg h0];exact Lt.nil _ _
theorem SiftAns.yes {w w':World}{a b:Int}{xs:List Nat}{v:Value}(he:siftE a b xs=0) (hv:Rw w.heap.size w' v (fin xs).length ((fin xs).map U)) (hb:Below w.heap.size w w') :
 SiftAns w a b xs (.returned (.tuple #[v,.agg #[.int .i64 (cn 5 xs:Nat),.int .i64 (cn 3 xs:Nat),.int .i64 (cn 4 xs:Nat),.int .i64 (cn 1 xs:Nat),.int .i64 (cn 2 xs:Nat),.int .i64 (xs.length:Nat)],.int .i64 0])) w':=by
 refine ⟨v,?_,?_,hb⟩
 · rw [he];unfold siftS;rw [if_pos he]
 · unfold siftL;rw [if_pos he];exact hv
theorem Rw.below {lo:Nat}{w w':World}{v:Value}{n:Nat}{ys:List Value}(h:Rw lo w v n ys) (hb:Below w.heap.size w w'):Rw lo w' v n ys :=
 Keep.row h (Keep.below hb)
theorem Rw.but {lo g:Nat}{w w':World}{v:Value}{n:Nat}{ys:List Value}(h:Rw lo w v n ys) (hb:But g w w') {cur:Array Value}{e:TypeId}(he:e≠28) (hg:w.heap[g]?=some (.cells cur e (0,0))):Rw lo w' v n ys:=by
 refine row_other h fun k hk=>?_
 rcases h.2 with ⟨rfl,_⟩|⟨g2,cap,c2,rfl,_,hg2,_⟩
 · cases hk
 · cases hk
   refine hb.block _ (Array.getElem?_eq_some_iff.1 hg2).1 (fun e2=>?_)
   subst e2;rw [hg] at hg2
   cases hg2
   exact he rfl
theorem Rw.mono {lo lo':Nat}{w:World}{v:Value}{n:Nat}{ys:List Value}(h:Rw lo w v n ys) (hl:lo'≤lo):Rw lo' w v n ys:=by
 refine ⟨h.1,?_⟩
 rcases h.2 with hn|⟨g,cap,cur,rfl,hlo,rest⟩
 · exact .inl hn
 · exact .inr ⟨g,cap,cur,rfl,by omega,rest⟩
theorem Rw.low {lo:Nat}{w:World}{v:Value}{n:Nat}{ys:List Value}(h:Rw lo w v n ys):∀ b,v.ownBlock=some b→lo≤b:=by
 intro b hb
 rcases h.2 with ⟨rfl,_⟩|⟨g,cap,cur,rfl,hlo,_⟩
 · cases hb
 · cases hb;exact hlo
theorem make_room (n:Nat) (hn:n≤65536) (w:World) :
 (Instr.makeSlice 22 (.int .i64 0) (.int .i64 (n:Nat))).run Tryz.prog w=.ok (.slice (some ⟨w.heap.size,0,none⟩) 0 n) (w.alloc (.cells (madeCells #[.float .f64 0] n) 28)):=by
 obtain ⟨i0,hi,hz0,hz1,hz2⟩:=info_parts Tryz.info28;have hr:=run_make (P:=Tryz.prog) w 22 28 i0 (.float .f64 0) Tryz.underlying22 hi hz0 .i64 .i64 0 (n:Int) (Int.le_refl _) (by omega) (by rw [hz2];omega) (by omega)
 rw [hz1,Nat.mul_one] at hr;simp only [Int.toNat_natCast,Int.toNat_zero] at hr;exact hr
theorem row_made (lo:Nat) (w:World) (n:Nat) (hn:n≤65536) (hlo:lo≤w.heap.size):Rw lo (w.alloc (.cells (madeCells #[.float .f64 0] n) 28)) (.slice (some ⟨w.heap.size,0,none⟩) 0 n) 0 []:=by
 refine ⟨rfl,.inr ⟨w.heap.size,n,madeCells #[.float .f64 0] n,rfl,hlo,heap_alloc_new w _,by omega,by unfold maxLen;omega,?_,?_⟩⟩
 · have:=congrArg List.length (toList_madeCells_one (.float .f64 0) n)
   simpa using this
 · simp
theorem push (lo:Nat) (w:World) (v:Value) (ys:List Nat) (x:Nat) (hrow:Rw lo w v ys.length (ys.map U)) (hn:ys.length≤65536) (hlo:lo≤w.heap.size) :
 ∃ v' w',(Builtin.append_ #[22,22] 22 #[v,.slice (some ⟨w.heap.size,0,none⟩) 1 1]).run Tryz.prog (w.alloc (.cells #[.float .f64 x] 28))=.ok v' w'∧Rw lo w' v' (ys++[x]).length ((ys++[x]).map U) ∧
   Below lo w w'∧(∀ (g:Nat) (cur:Array Value) (e:TypeId),e≠28→w.heap[g]?=some (.cells cur e (0,0))→w'.heap[g]?=some (.cells cur e (0,0)))∧w.heap.size≤w'.heap.size:=by
 obtain ⟨v',w',h1,h2,h3,_,_⟩:=append_word (w.alloc (.cells #[.float .f64 x] 28)) lo v ys.length (ys.map U) (.float .f64 x) w.heap.size 22 (hrow.alloc _) (by unfold World.cell?;simp only [heap_alloc_new];rfl) rfl (by omega) (by simp;omega)
 refine ⟨v',w',h1,by simpa [U] using h2,((Below.refl lo w).alloc hlo _).grown h3 (by simp;omega) hrow.low,?_,by have:=h3.size;simp at this;omega⟩
 intro g cur e he hg;have hgl:=(Array.getElem?_eq_some_iff.1 hg).1;rw [h3.block g (by simp;omega) (fun e2=>?_),Below.heap_alloc _ _ _ hgl]
 · exact hg
 · rcases hrow.2 with ⟨rfl,_⟩ | ⟨g2,cap,c2,rfl,_,hg2,_⟩
   · cases e2
   · cases e2
     rw [hg] at hg2
     cases hg2
     exact he rfl
structure SI (lo sb:Nat) (W1:World) (xs:List Nat) (i:Nat) (a:Int) (v:Value) (wr:World):Prop where
 row:Rw lo wr v (fin (xs.take i)).length ((fin (xs.take i)).map U)
 sp:SpT wr sb (xs.take i) a
 bel:Below lo W1 wr
 size:W1.heap.size≤wr.heap.size
theorem SI.kind {lo sb:Nat}{W1:World}{xs:List Nat}{i:Nat}{a:Int}{v:Value}{wr w1:World}(h:SI lo sb W1 xs i a v wr) (hb:Below wr.heap.size wr w1) (hlo:lo≤wr.heap.size):SI lo sb W1 xs i a v w1 :=
 ⟨h.row.below hb,SpB.below h.sp hb (SpB.lt h.sp),h.bel.trans (hb.mono hlo),Nat.le_trans h.size hb.size⟩
theorem SI.out {lo sb:Nat}{W1:World}{xs:List Nat}{i:Nat}{a:Int}{v:Value}{wr w2:World}(h:SI lo sb W1 xs i a v wr) (hi:i<xs.length) (hs:SpT w2 sb (xs.take (i+1)) a) (hb:But sb wr w2) (hlo:lo≤sb) (hl:lo≤wr.heap.size) (hk:¬ kd (xs.getD i 0)≤2):SI lo sb W1 xs (i+1) a v w2 :=
 ⟨by rw [fin_out xs i hi hk];exact h.row.but hb (by decide) h.sp,hs,But.below h.bel hb hl hlo,Nat.le_trans h.size hb.size⟩
theorem SI.row2 {lo sb:Nat}{W1:World}{xs:List Nat}{i:Nat}{a:Int}{v:Value}{wr w2:World}(h:SI lo sb W1 xs i a v wr) (hb:But sb wr w2):Rw lo w2 v (fin (xs.take i)).length ((fin (xs.take i)).map U):=h.row.but hb (by decide) h.sp
theorem SpB.keep {w w':World}{g:Nat}{n u d m p a:Int}(h:SpB w g n u d m p a) (hk:∀ (g:Nat) (cur:Array Value) (e:TypeId),e≠28→w.heap[g]?=some (.cells cur e (0,0))→w'.heap[g]?=some (.cells cur e (0,0))):SpB w' g n u d m p a :=
 hk _ _ _ (by decide) h
theorem SI.into {lo sb:Nat}{W1:World}{xs:List Nat}{i:Nat}{a:Int}{v v':Value}{wr w2 w3:World}(h:SI lo sb W1 xs i a v wr) (hi:i<xs.length) (hs:SpT w2 sb (xs.take (i+1)) a) (hb:But sb wr w2) (hlo:lo≤sb) (hl:lo≤wr.heap.size) (hk:kd (xs.getD i 0)≤2)
 (hrow:Rw lo w3 v' (fin (xs.take i)++[xs.getD i 0]).length ((fin (xs.take i)++[xs.getD i 0]).map U)) (hb3:Below lo w2 w3) (hkeep:∀ (g:Nat) (cur:Array Value) (e:TypeId),e≠28→w2.heap[g]?=some (.cells cur e (0,0))→w3.heap[g]?=some (.cells cur e (0,0))) (hsz:w2.heap.size≤w3.heap.size):SI lo sb W1 xs (i+1) a v' w3 :=
 ⟨by rw [fin_in xs i hi hk];exact hrow,SpB.keep hs hkeep,(But.below h.bel hb hl hlo).trans hb3,Nat.le_trans (Nat.le_trans h.size hb.size) hsz⟩
theorem kp_one (x:Nat) (n u d m p:Nat):(if kp (kd x)=0 then ((n:Nat):Int)+1 else n)=((n+one 5 x:Nat):Int)∧(if kp (kd x)=1 then ((u:Nat):Int)+1 else u)=((u+one 3 x:Nat):Int)∧(if kp (kd x)=2 then ((d:Nat):Int)+1 else d)=((d+one 4 x:Nat):Int) ∧
 (if kp (kd x)=3 then ((m:Nat):Int)+1 else m)=((m+one 1 x:Nat):Int)∧(if kp (kd x)=4 then ((p:Nat):Int)+1 else p)=((p+one 2 x:Nat):Int):=by
 have hk:=kd_le x;unfold one;generalize kd x=k at hk;obtain rfl|rfl|rfl|rfl|rfl|rfl:k=0∨k=1∨k=2∨k=3∨k=4∨k=5:=by omega
 all_goals simp [kp]
theorem kp_ge (x:Nat):3≤kp (kd x)↔kd x≤2:=by
 have hk:=kd_le x;generalize kd x=k at hk;obtain rfl|rfl|rfl|rfl|rfl|rfl:k=0∨k=1∨k=2∨k=3∨k=4∨k=5:=by omega
 all_goals simp [kp]
theorem kp_le (x:Nat):kp (kd x)≤5:=by unfold kp;(repeat' split) <;> omega
theorem SpT.counted {w w':World}{sb:Nat}{xs:List Nat}{i:Nat}{a:Int}(hi:i<xs.length)
 (h:SpB w' sb (if kp (kd (xs.getD i 0))=0 then ((cn 5 (xs.take i):Nat):Int)+1 else ((cn 5 (xs.take i):Nat):Int)) (if kp (kd (xs.getD i 0))=1 then ((cn 3 (xs.take i):Nat):Int)+1 else ((cn 3 (xs.take i):Nat):Int)) (if kp (kd (xs.getD i 0))=2 then ((cn 4 (xs.take i):Nat):Int)+1 else ((cn 4 (xs.take i):Nat):Int)) (if kp (kd (xs.getD i 0))=3 then ((cn 1 (xs.take i):Nat):Int)+1 else ((cn 1 (xs.take i):Nat):Int)) (if kp (kd (xs.getD i 0))=4 then ((cn 2 (xs.take i):Nat):Int)+1 else ((cn 2 (xs.take i):Nat):Int)) a) :
 SpT w' sb (xs.take (i+1)) a:=by
 obtain ⟨h1,h2,h3,h4,h5⟩:=kp_one (xs.getD i 0) (cn 5 (xs.take i)) (cn 3 (xs.take i)) (cn 4 (xs.take i)) (cn 1 (xs.take i)) (cn 2 (xs.take i));rw [h1,h2,h3,h4,h5] at h;unfold SpT;rw [cn_succ 5 xs i hi,cn_succ 3 xs i hi,cn_succ 4 xs i hi,cn_succ 1 xs i hi,cn_succ 2 xs i hi];exact h
end Ps
namespace Ps
open Go.RowKit
open Go.Proofs.YthejkolknalpaaaGreatDoor.B (f64bits f64frombits bw bcell)
attribute [local go_sem] f64bits f64frombits
theorem Sift_arg (xs:List Nat) (ao:Option Addr) (n cap:Nat) (a b:Int) (w:World) (hm:may a b=false) :
 Calls Tryz.prog 44 #[.slice ao n cap,.agg #[.int .i64 a,.int .i64 b]] w (SiftAns w a b xs):=by
 have H:=hid (May_any a b);rw [hm] at H;have HE:Aside (siftE a b xs=1):=by unfold siftE;rw [hm];rfl
 clear hm;go_enter Tryz.func44,Tryz.ntmps44
 go_wp2_with fail
 refine (H.out _).mono ?_;rintro r w1 ⟨rfl,hb⟩;have hsz:=hb.size;simp at hsz;obtain ⟨hc,hf⟩:=bcell hb;have HB:=qsd hb;clear hb;go_wp2;refine bodyPost_ret (v:=.tuple #[.slice none 0 0,.agg #[.int .i64 0,.int .i64 0,.int .i64 0,.int .i64 0,.int .i64 0,.int .i64 0],.int .i64 1]) (by simp [results,Tryz.results44,go_sem,csetm,hc]) rfl (SiftAns.no 1 HE.out (by decide) ?_)
 exact But.below ((((Below.refl _ w).alloc (Nat.le_refl _) _).alloc (by simp) _).trans (HB.out.mono (by simp;omega))) (But.set6 (But.refl (w.heap.size+1) _) _ _ _ _ _ _) (by omega) (by omega)
theorem Sift_long (xs:List Nat) (ao:Option Addr) (n cap:Nat) (a b:Int) (w:World) (hn:n=xs.length) (hm:may a b=true) (hl:65536<n) (hn2:n≤35184372088832) :
 Calls Tryz.prog 44 #[.slice ao n cap,.agg #[.int .i64 a,.int .i64 b]] w (SiftAns w a b xs):=by
 have H:=hid (May_any a b);rw [hm] at H;have HE:Aside (siftE a b xs=2):=by unfold siftE;rw [if_neg (by rw [hm];decide),if_pos (by omega),Aside]
 clear hm hn;go_enter Tryz.func44,Tryz.ntmps44
 go_wp2_with fail
 refine (H.out _).mono ?_;rintro r w1 ⟨rfl,hb⟩;have hsz:=hb.size;simp at hsz;obtain ⟨hc,hf⟩:=bcell hb;have HB:=qsd hb;clear hb;go_wp2;refine bodyPost_ret (v:=.tuple #[.slice none 0 0,.agg #[.int .i64 0,.int .i64 0,.int .i64 0,.int .i64 0,.int .i64 0,.int .i64 0],.int .i64 2]) (by simp [results,Tryz.results44,go_sem,csetm,hc]) rfl (SiftAns.no 2 HE.out (by decide) ?_)
 exact But.below ((((Below.refl _ w).alloc (Nat.le_refl _) _).alloc (by simp) _).trans (HB.out.mono (by simp;omega))) (But.set6 (But.refl (w.heap.size+1) _) _ _ _ _ _ _) (by omega) (by omega)
set_option maxRecDepth 100000 in
theorem Sift_rest (xs:List Nat) (ao:Option Addr) (n cap B:Nat) (a b:Int) (w:World) (hn:n=xs.length) (hm:may a b=true) (hl:n≤65536) (hx:Wf xs) (hR:Rd B w ao xs) (hB:B≤w.heap.size) :
 Calls Tryz.prog 44 #[.slice ao n cap,.agg #[.int .i64 a,.int .i64 b]] w (SiftAns w a b xs):=by
 have H:=hid (May_any a b);rw [hm] at H;have HE:Aside (siftE a b xs=rf (cn 5 xs:Nat) (cn 3 xs:Nat) (cn 4 xs:Nat) a b):=by unfold siftE;rw [if_neg (by rw [hm];decide),if_neg (by omega),Aside]
 have hmk:=make_room n hl;have HX:=(qsd (ai hn (ai hx (ai hR hB))));clear hm hn hx hR hB;go_enter Tryz.func44,Tryz.ntmps44
 go_wp2_with fail
 refine (H.out _).mono ?_;rintro r w1 ⟨rfl,hb⟩;have hsz:=hb.size;simp at hsz;obtain ⟨hc,hf⟩:=bcell hb;have HB:=qsd hb
 have HZ:Aside (SpB w1 (w.heap.size+1) 0 0 0 0 0 0):=by
  have h1:=SpB.made (w.alloc (.cells #[.int .i64 a,.int .i64 b] 24)) 0 0 0 0 0 0;simp only [World.size_alloc] at h1;exact h1.below hb (by simp)
 clear hb;go_wp2
 go_loopg [7,28] n (fun gk lv cv wr=>∃ (i:Nat),gk+i=n∧cv=.int .i64 (i:Nat)∧Aside (SI w1.heap.size (w1.heap.size+1) w1 xs i (n:Nat) lv wr))
 case atStart =>
  refine ⟨0,by omega,rfl,?_⟩
  have h1:=(row_made w1.heap.size w1 n hl (Nat.le_refl _)).alloc (.cells #[.int .i64 0,.int .i64 0,.int .i64 0,.int .i64 0,.int .i64 0,.int .i64 (n:Nat)] 59);have h2:=SpB.made (w1.alloc (.cells (madeCells #[.float .f64 0] n) 28)) 0 0 0 0 0 (n:Nat);simp only [World.size_alloc] at h2;exact ⟨h1,h2,((Below.refl _ _).alloc (Nat.le_refl _) _).alloc (by simp) _,by simp;omega⟩
 case round =>
  obtain ⟨i,hi,rfl,HA⟩:=hrel
  by_cases hin:i=n
  · obtain rfl:gk=0:=by omega
    obtain ⟨hn,hx,hR,hB⟩:=HX.out;have hS:=HA.out;have e:xs.take i=xs:=List.take_of_length_le (by omega)
    have hT:=hS.sp;unfold SpT at hT;rw [e] at hT;have hc0:=hT.c0;have hc1:=hT.c1;have hc2:=hT.c2;have hc3:=hT.c3;have hc4:=hT.c4;have hc5:=hT.c5;have hlt:=hT.lt;have hcb:∀ b o,b<w1.heap.size→wr.cell? ⟨b,o,none⟩=w1.cell? ⟨b,o,none⟩:=fun b o h=>hS.bel.cell (p:=⟨b,o,none⟩) h
    have hp0:wr.cell? ⟨w.heap.size,0,none⟩=some (.int .i64 a):=by rw [hcb _ _ (by omega),hc _ _ (by simp;omega)];simp [go_sem]
    have hp1:wr.cell? ⟨w.heap.size,1,none⟩=some (.int .i64 b):=by rw [hcb _ _ (by omega),hc _ _ (by simp;omega)];simp [go_sem]
    have hZ:SpB wr (w.heap.size+1) 0 0 0 0 0 0:=HZ.out.below hS.bel (by omega)
    have hbd:=fun k=>cn_bd k xs n (by omega) hl
    have HRF:=hid (fun w=>refusal_any (cn 5 xs:Nat) (cn 3 xs:Nat) (cn 4 xs:Nat) (cn 1 xs:Nat) (cn 2 xs:Nat) (n:Nat) a b w (hbd 3) (hbd 4))
    obtain ⟨ee,hee⟩:∃ ee,rf (cn 5 xs:Nat) (cn 3 xs:Nat) (cn 4 xs:Nat) a b=ee:=⟨_,rfl⟩;have HEE:Aside (siftE a b xs=ee):=by rw [Aside,HE.out,hee]
    rw [hee] at HRF;obtain ⟨c5,e5⟩:∃ c,cn 5 xs=c:=⟨_,rfl⟩;obtain ⟨c3,e3⟩:∃ c,cn 3 xs=c:=⟨_,rfl⟩;obtain ⟨c4,e4⟩:∃ c,cn 4 xs=c:=⟨_,rfl⟩;obtain ⟨c1,e1⟩:∃ c,cn 1 xs=c:=⟨_,rfl⟩;obtain ⟨c2,e2⟩:∃ c,cn 2 xs=c:=⟨_,rfl⟩;rw [e5,e3,e4,e1,e2] at hT HRF;rw [e5] at hc0;rw [e3] at hc1;rw [e4] at hc2;rw [e1] at hc3;rw [e2] at hc4;have HY:=(qsd (ai hZ (ai hT (ai e (ai e1 (ai e2 (ai e3 (ai e4 e5))))))));have hBs:=hS.size;clear hn hx hR hB hS hT e hcb hbd hee e1 e2 e3 e4 e5 hZ;subst hin
    go_wp2_with fail
    refine (HRF.out _).mono ?_;rintro r w5 ⟨rfl,hb5⟩;obtain ⟨hZ,hT,e,e1,e2,e3,e4,e5⟩:=HY.out;have hZ5:=hZ.below hb5 hZ.lt;have hT5:=hT.below hb5 hT.lt;have hr5:=HA.out.row.below hb5;have hZf:=hZ5.frozen;have hz0:=hZ5.c0;have hz1:=hZ5.c1;have hz2:=hZ5.c2;have hz3:=hZ5.c3;have hz4:=hZ5.c4;have hz5:=hZ5.c5;have ht0:=hT5.c0;have ht1:=hT5.c1;have ht2:=hT5.c2;have ht3:=hT5.c3;have ht4:=hT5.c4;have ht5:=hT5.c5;have hzl:=hZ5.lt;have hbel5:Below w.heap.size w w5:=((((Below.refl _ w).alloc (Nat.le_refl _) _).alloc (by simp) _).trans (HB.out.mono (by simp;omega))).trans ((HA.out.bel.mono (by omega)).trans (hb5.mono (by omega)))
    have HV:=(qsd (ai hbel5 (ai hr5 (ai hZ5 (ai hT5 (ai e (ai e1 (ai e2 (ai e3 (ai e4 e5))))))))));clear hZ hT e e1 e2 e3 e4 e5 hb5 hZ5 hT5 hr5 hbel5 hc0 hc1 hc2 hc3 hc4 hc5 hp0 hp1 HY
    by_cases h0:ee=0
    · subst h0
      go_wp2
      go_region
      all_goals
       go_wp2;refine bodyPost_ret (v:=.tuple #[u7,.agg #[.int .i64 (c5:Nat),.int .i64 (c3:Nat),.int .i64 (c4:Nat),.int .i64 (c1:Nat),.int .i64 (c2:Nat),.int .i64 (i:Nat)],.int .i64 0]) (by simp [results,Tryz.results44,go_sem,csetm,hz0,hz1,hz2,hz3,hz4,hz5]) rfl ?_
       obtain ⟨hbel5,hr5,hZ5,hT5,e,e1,e2,e3,e4,e5⟩:=HV.out;have hbut:But (w.heap.size+1) w5 _:=(But.set6 (But.refl (w.heap.size+1) w5) (.int .i64 (c5:Nat)) (.int .i64 (c3:Nat)) (.int .i64 (c4:Nat)) (.int .i64 (c1:Nat)) (.int .i64 (c2:Nat)) (.int .i64 (i:Nat))).drew;have hR6:=Rw.mono (Rw.but hr5 hbut (by decide) hZ5) (show w.heap.size≤w1.heap.size by omega)
       rw [e] at hR6;have hans:=SiftAns.yes HEE.out hR6 (But.below hbel5 hbut (by omega) (by omega))
       rw [←HX.out.1,e1,e2,e3,e4,e5] at hans;exact hans
    · have h0':(ee==0)=false:=by rw [beq_eq_false_iff_ne];exact h0
      go_wp2;refine bodyPost_ret (v:=.tuple #[.slice none 0 0,.agg #[.int .i64 0,.int .i64 0,.int .i64 0,.int .i64 0,.int .i64 0,.int .i64 0],.int .i64 ee]) (by simp [results,Tryz.results44,go_sem,csetm,hz0,hz1,hz2,hz3,hz4,hz5]) rfl (SiftAns.no ee HEE.out h0 ?_)
      exact But.below HV.out.1 (But.set6 (But.refl (w.heap.size+1) _) _ _ _ _ _ _) (by omega) (by omega)
  · have hil:i<n:=by omega
    obtain ⟨hn,hx,hR,hB⟩:=HX.out;have hS:=HA.out;have hbw:Below w.heap.size w wr:=((((Below.refl _ w).alloc (Nat.le_refl _) _).alloc (by simp) _).trans (HB.out.mono (by simp;omega))).trans (hS.bel.mono (by omega))
    have hRw:Rd w.heap.size wr ao xs:=(hR.mono hB).below hbw;obtain ⟨bb,off,hlt2,rfl,hcell⟩:=hRw (by intro e;rw [e] at hn;simp at hn;omega)
    have hxc:=hcell i (by omega)
    have hxw:=hx.get i;obtain ⟨x,hxx⟩:∃ x,xs.getD i 0=x:=⟨_,rfl⟩;rw [hxx] at hxc hxw;have HK:=hid (kind_any x hxw);have hk5:=kp_le x;have hk3:=kp_ge x;obtain ⟨kk,hkk⟩:∃ kk,kp (kd x)=kk:=⟨_,rfl⟩;rw [hkk] at HK hk5 hk3;have l1:(xs.take i).length≤65536:=by rw [List.length_take];omega
    have hbd:=fun k=>cn_bd k (xs.take i) 65536 l1 (Nat.le_refl _)
    have hwl:=hS.size;have HY:=(qsd (ai hxx (ai hkk (ai hk3 (ai hbd (ai hn hlt2))))));clear hn hx hR hB hS hbw hRw hcell hxx hkk hk3 hbd l1 hin
    go_wp2_with fail
    refine (HK.out _).mono ?_;rintro r w2 ⟨rfl,hb2⟩;have HS2:=qsd (SI.kind HA.out hb2 hwl);have hxc2:w2.cell? ⟨bb,off+i,none⟩=some (.float .f64 x):=by rw [hb2.cell (p:=⟨bb,off+i,none⟩) (by have:=HY.out.2.2.2.2.2;simp;omega)];exact hxc
    have hsz2:=hb2.size;have HC:=hid (count_any kk (w1.heap.size+1) _ _ _ _ _ _ w2 hk5 HS2.out.sp (HY.out.2.2.2.1 5) (HY.out.2.2.2.1 3) (HY.out.2.2.2.1 4) (HY.out.2.2.2.1 1) (HY.out.2.2.2.1 2));clear hb2 hxc
    go_wp2_with fail
    refine Calls.mono HC.out ?_;rintro r w3 ⟨rfl,hs3,hbut3⟩;obtain ⟨hxx,hkk,hk3,hbd,hn,hlt2⟩:=HY.out;have hs3':SpT w3 (w1.heap.size+1) (xs.take (i+1)) (n:Nat):=SpT.counted (w:=w2) (by omega) (by rw [hxx,hkk];exact hs3)
    have hsz3:=hbut3.size
    have hxc3:w3.cell? ⟨bb,off+i,none⟩=some (.float .f64 x):=by
     have h9:=(But.below (Below.refl w1.heap.size w2) hbut3 (by omega) (by omega)).cell (p:=⟨bb,off+i,none⟩) (by simp;omega)
     rw [h9];exact hxc2
    by_cases hk2:kd x≤2
    · have hge:(3:Int)≤(kk:Int):=by have:=hk3.2 hk2;omega
      obtain ⟨v',w4,hap,hrow4,hb4,hkeep4,hsz4⟩:=push w1.heap.size w3 u7 (fin (xs.take i)) x (SI.row2 HS2.out hbut3) (by have h1:=fin_le (xs.take i);rw [List.length_take] at h1;omega) (by omega)
      have HI:=qsd (SI.into (v':=v') HS2.out (by omega) hs3' hbut3 (by omega) (by omega) (by rw [hxx];exact hk2) (by rw [hxx];exact hrow4) hb4 hkeep4 hsz4)
      have HAP:=hid hap;clear hap hrow4 hb4 hkeep4 hsz4 hs3 hs3' hbut3 hxx hkk hk3 hbd hn hlt2 hk2 hxc2
      go_wp2_with (at_builtin;refine wpList_append_run2 rfl (.tmp 40) (.tmp 45) 22 rfl _ _ rfl rfl _ _ HAP.out ?_)
      go_roundg (n-(i+1))
      case measure=>omega
      case rel=>exact ⟨i+1,by omega,by first | go_num | (congr 1;omega),HI⟩
    · have hge:decide ((3:Int)≤(kk:Int))=false:=decide_eq_false (fun h=>hk2 (hk3.1 (by omega)))
      have HI:=qsd (SI.out HS2.out (by omega) hs3' hbut3 (by omega) (by omega) (by rw [hxx];exact hk2))
      clear hs3 hs3' hbut3 hxx hkk hk3 hbd hn hlt2 hk2 hxc2;go_wp2
      go_roundg (n-(i+1))
      case measure=>omega
      case rel=>exact ⟨i+1,by omega,by first | go_num | (congr 1;omega),HI⟩
theorem Sift_any (xs:List Nat) (ao:Option Addr) (n cap B:Nat) (a b:Int) (w:World) (hn:n=xs.length) (hm:n≤35184372088832) (hx:Wf xs) (hR:Rd B w ao xs) (hB:B≤w.heap.size) :
 Calls Tryz.prog 44 #[.slice ao n cap,.agg #[.int .i64 a,.int .i64 b]] w (SiftAns w a b xs):=by
 rcases h:may a b with _|_
 · exact Sift_arg xs ao n cap a b w h
 · by_cases hl:65536<n
   · exact Sift_long xs ao n cap a b w hn h hl hm
   · exact Sift_rest xs ao n cap B a b w hn h (by omega) hx hR hB
end Ps
end Go.Proofs.YthejkolknalpaaaGreatDoor
