import Derived.Test.YtihjfhpoiheomaaGreatDoorW26x
import Derived.Test.YtihjfhpoiheomaaGreatDoorBIeeex
import Derived.Test.YtihjfhpoiheomaaGreatDoorW3x
import Derived.Deep.MidRow
import Derived.ChangeKeysEq
import Derived.Laws.OwnMore
import Derived.Lib.SliceRun
import Derived.Deep.RegionHeld
import Derived.Test.YtihjfhpoiheomaaGreatDoorRS8x
import Derived.Deep.RegionWith
import Derived.Test.YtihjfhpoiheomaaGreatDoorD21x
import Derived.Test.YtihjfhpoiheomaaGreatDoorD16x
import Derived.Test.YtihjfhpoiheomaaGreatDoorRS14x
import Derived.Test.YtihjfhpoiheomaaGreatDoorD30x
import Derived.Deep.RegionHeld3
import Derived.Laws.IdiomStrings
import Derived.Test.YtihjfhpoiheomaaGreatDoorD8x
import Derived.BigQuiet
import Derived.Deep.Cut
import Derived.Deep.CutRange
import Derived.Deep.OwnRows
import Derived.Deep.LoopGhost
import Derived.Laws.FloatArith
import Derived.OwnWalk
import Derived.ArgAppend
import Derived.Maps.AppendAt
import Derived.WalkMore
import Derived.RangeFuncNested
import Derived.RangeFuncBound
import Derived.RangeFuncCalls
import Derived.RangeFuncLeaves
import Derived.RangeFuncBox
import Derived.Shelf.Abstract
import Derived.Shelf.RegionOpen
import Derived.WalkKit
import Derived.OwnWalkIn
import Derived.TacticsInMore
import Derived.LoopNIn
import Derived.LoopIn
set_option linter.unusedVariables false
set_option linter.unusedSimpArgs false
set_option maxHeartbeats 16000000
set_option maxRecDepth 20000
namespace Go.Proofs.YtihjfhpoiheomaaGreatDoor
namespace J
end J
section
open Go.RowKit J
theorem st3_but12 (g:Nat) (w:World) (x y z:Value):But g w (st3 w g x y z):=(((But.refl g w).set _ _).set _ _).set _ _
def Lo (w:World) (g:Nat) (o:Option (Bool×Nat×Int)):Prop:=∃ a c,Dk w g (dN o) (.slice a (ws (dX o)).length c) (dE o)∧Nt 0 w (.slice a (ws (dX o)).length c) (dX o)
theorem Lo.below {w w':World}{g:Nat}{o:Option (Bool×Nat×Int)}(h:Lo w g o) (hb:Below w.heap.size w w'):Lo w' g o:=by
 obtain ⟨a,c,h1,h2⟩:=h;exact ⟨a,c,h1.below hb,h2.below hb⟩
theorem Nt.off12 {lo g:Nat}{w:World}{v:Value}{X:Nat}{n:Bool}{a:Option Addr}{l c:Nat}{e:Int}(h:Nt lo w v X) (D:Dk w g n (.slice a l c) e) (x y z:Value):Nt lo (st3 w g x y z) v X:=by
 refine h.off (st3_but12 g w x y z) ?_
 rcases h.2 with ⟨rfl,_⟩|⟨g',cap,cur,rfl,_,hg,_⟩
 · simp [Value.ownBlock]
 · intro e'
   obtain rfl:g'=g:=by simpa [Value.ownBlock] using e'
   rw [show w.heap[g']?=_ from D] at hg
   simp at hg
abbrev o00:Option (Bool×Nat×Int):=some (false,0,0)
theorem len00:(ws (dX o00)).length=0:=by simp [dX,ws_zero]
theorem Lo.zero (w:World):Lo (w.alloc (Obj.cells #[.bool false,.slice none 0 0,.int .i64 0] 77)) w.heap.size o00:=by
 refine ⟨none,0,?_,?_⟩
 · rw [len00];exact Dk.new _ _ _ _
 · rw [len00];exact Nt.nil _ _
theorem st3_bel12 {B g:Nat}{a w:World}(h:Below B a w) (hB:B≤w.heap.size) (hg:B≤g) (x y z:Value):Below B a (st3 w g x y z):=But.below h (st3_but12 g w x y z) hB hg
theorem Fm.er {o:Option (Bool×Nat×Int)}(h:Fm o):erS o=0:=by
 obtain ⟨B,x,h⟩:=h;obtain ⟨n,X,e,rfl,_⟩:=h.ex;rfl
theorem Fm.a12 {o:Option (Bool×Nat×Int)}{w:World}{a:Option Addr}{c:Nat}(F:Fm o) (N:Nt 0 w (.slice a (ws (dX o)).length c) (dX o)):Arg w a (ws (dX o)).length c (ws (dX o)):=(N.arg' (Nat.le_trans F.len (by decide))).2
theorem mulP12 {U:World}{a b:Option Addr}{c d:Nat}{o p q:Option (Bool×Nat×Int)}(F:Fm o) (G:Fm p) (N1:Nt 0 U (.slice a (ws (dX o)).length c) (dX o)) (N2:Nt 0 U (.slice b (ws (dX p)).length d) (dX p)) (hT:Tab U) (h:mulD o p=q) (H:Fm q) :
 Calls Tryz.prog 76 #[.agg #[.bool (dN o),.slice a (ws (dX o)).length c,.int .i64 (dE o)],.agg #[.bool (dN p),.slice b (ws (dX p)).length d,.int .i64 (dE p)]] U fun r w'=>(∃ v,r=.returned (.tuple #[.agg #[.bool (dN q),v,.int .i64 (dE q)],.int .i64 0])∧Nt U.heap.size w' v (dX q))∧Below U.heap.size U w':=by
 have:=Mul_any3 (F.a12 N1) (G.a12 N2) hT (dN o) (dN p) (dE o) (dE p) F.rng.1 F.rng.2 G.rng.1 G.rng.2;rw [val_ws,val_ws,F.re,G.re,h] at this;unfold DAns at this;rw [H.er] at this;exact this
theorem addP12' {U:World}{a b:Option Addr}{c d:Nat}{o p q:Option (Bool×Nat×Int)}(F:Fm o) (G:Fm p) (N1:Nt 0 U (.slice a (ws (dX o)).length c) (dX o)) (N2:Nt 0 U (.slice b (ws (dX p)).length d) (dX p)) (hT:Tab U) (h:addD o p=q) (H:Fm q) :
 Calls Tryz.prog 75 #[.agg #[.bool (dN o),.slice a (ws (dX o)).length c,.int .i64 (dE o)],.agg #[.bool (dN p),.slice b (ws (dX p)).length d,.int .i64 (dE p)]] U fun r w'=>(∃ v,r=.returned (.tuple #[.agg #[.bool (dN q),v,.int .i64 (dE q)],.int .i64 0])∧Nt U.heap.size w' v (dX q))∧Below U.heap.size U w':=by
 have:=Add_any3 (F.a12 N1) (G.a12 N2) hT (dN o) (dN p) (dE o) (dE p) F.rng.1 F.rng.2 G.rng.1 G.rng.2;rw [val_ws,val_ws,F.re,G.re,h] at this;unfold DAns at this;rw [H.er] at this;exact this
theorem Lo.shape {w:World}{lo:Nat}{v:Value}{q:Option (Bool×Nat×Int)}(H:Fm q) (h:Nt lo w v (dX q)):∃ a c,v=.slice a (ws (dX q)).length c∧Nt 0 w v (dX q):=by
 obtain ⟨a,c,rfl,_⟩:=h.arg (Nat.le_trans H.len (by decide))
 exact ⟨a,c,rfl,h.mono (Nat.zero_le _)⟩
end
section
open Go.RowKit
theorem frm_fv {n:Bool}{X:Nat}{e:Int}(F:Frm n X e) (B:Int):Fv B (some (n,X,e)) (zv B (n,X,e)):=⟨n,X,e,rfl,F,rfl⟩
end
section
open Go.RowKit Go.Shelf J
attribute [local go_sem] Oper.semAt_some
def oW (x:Nat):Option (Bool×Nat×Int):=fo8 (fvW x)
theorem of12 (x:Nat) (hx:x<18446744073709551616) (fx:finW x) (u:World) (hT:Tab u):Calls Tryz.prog 74 #[.float .f64 x] u fun r w'=>(∃ v,r=.returned (.tuple #[.agg #[.bool (dN (oW x)),v,.int .i64 (dE (oW x))],.int .i64 0])∧Nt u.heap.size w' v (dX (oW x)))∧Below u.heap.size u w':=of_any8 x ⟨hx,fx⟩ u hT
end
section
open Go.RowKit
theorem Iv.fm {o:Option (Bool×Nat×Int)}{a b:Int}(h:Iv o a b):Fm o:=by
 obtain ⟨n,X,e,rfl,F,_⟩:=h;exact ⟨0,_,frm_fv F 0⟩
end
section
open Go.RowKit
theorem rebase {o:Option (Bool×Nat×Int)}{B x:Int}(h:Fv B o x) (hB:B≤-1048576) (D:Int) (hD:D≤0):Fv (B+D) o (x*((2^(0-D).toNat:Nat):Int)):=by
 obtain ⟨n',X',e',hx,F',hz⟩:=h.ex;refine ⟨n',X',e',hx,F',?_⟩;rw [←hz];unfold zv;simp only;rw [Int.mul_assoc,←Int.natCast_mul,Nat.mul_assoc,←Nat.pow_add];have:=F'.down;rw [show (e'-(B+D)).toNat=(e'-B).toNat+(0-D).toNat by omega]
end
section
open Go.RowKit J
def EK:Nat:=1048576
theorem exP (a:Nat):∃ u:Nat,u=2^a:=⟨_,rfl⟩
noncomputable def MM:Nat:=Classical.choose (exP EK)
theorem M_eq:MM=2^EK:=Classical.choose_spec (exP EK)
theorem M_pos:0<MM:=by rw [M_eq];exact Nat.two_pow_pos _
theorem Fm.sm {o:Option (Bool×Nat×Int)}(h:Fm o):o.isSome=true:=by
 obtain ⟨B,x,h⟩:=h;obtain ⟨n,X,e,rfl,_⟩:=h.ex;rfl
theorem Fm.val {o:Option (Bool×Nat×Int)}(h:Fm o):Fv (-1048576) o (valO o):=fvO h.re h.sm
theorem Fv.uniq {B x y:Int}{o:Option (Bool×Nat×Int)}(h1:Fv B o x) (h2:Fv B o y):x=y:=by
 obtain ⟨n,X,e,ho,_,hz⟩:=h1.ex;obtain ⟨n',X',e',ho',_,hz'⟩:=h2.ex;rw [ho] at ho'
 cases ho'
 exact hz.symm.trans hz'
theorem val_mul {o p:Option (Bool×Nat×Int)}(F:Fm o) (G:Fm p) (H:Fm (mulD o p)):valO (mulD o p)*(MM:Int)=valO o*valO p:=by
 have h1:=Fv.mul (by decide) (by decide) F.val G.val H.sm
 have h2:=rebase H.val (by decide) (-1048576) (by decide)
 rw [show ((0:Int) - -1048576).toNat=EK from rfl,←M_eq] at h2
 exact (h1.uniq h2).symm
theorem val_add {o p:Option (Bool×Nat×Int)}(F:Fm o) (G:Fm p) (H:Fm (addD o p)):valO (addD o p)=valO o+valO p :=
 H.val.uniq (Fv.add (by decide) F.val G.val H.sm)
theorem valO_inj {o p:Option (Bool×Nat×Int)}(F:Fm o) (G:Fm p) (h:valO o=valO p):o=p:=by
 obtain ⟨h1,h2,h3⟩:=Fv.same (by decide) F.val G.val h
 obtain ⟨n,X,e,rfl,_⟩:=F.val.ex;obtain ⟨m,Y,f,rfl,_⟩:=G.val.ex;have h1:n=m:=h1;have h2:X=Y:=h2;have h3:e=f:=h3;rw [h1,h2,h3]
theorem val_mk {n:Bool}{X:Nat}{e:Int}(h:Fm (mkS n X e)) (he:-1048576≤e) (k:Nat) (hk:(e+1048576).toNat=k):valO (mkS n X e)=sg1 n*((X*2^k:Nat):Int):=by
 obtain ⟨⟨n',Y,f⟩,ho⟩:=Option.isSome_iff_exists.1 h.sm;have:=zv_mkS ho (-1048576) (.inr he);rw [show (e - -1048576).toNat=k by rw [←hk];congr 1] at this
 rw [←this,ho];rfl
theorem sg1_natAbs (V:Int) (K:Nat):sg1 (decide (V<0))*((V.natAbs*K:Nat):Int)=V*(K:Int):=by
 rw [Int.natCast_mul,←Int.mul_assoc]
 congr 1
 unfold sg1
 by_cases h:V<0
 · rw [decide_eq_true h,if_pos rfl];omega
 · rw [decide_eq_false h,if_neg (by decide)];omega
end
section
open Go.RowKit J
def Bd (m:Nat) (V:Int):Prop:=V.natAbs≤2^m
theorem Bd.lt {m:Nat}{V:Int}(h:Bd m V):V.natAbs<2^(m+1):=by
 unfold Bd at h;rw [Nat.pow_succ];have:=Nat.two_pow_pos m;omega
theorem Bd.mul {a b:Nat}{V W:Int}(h:Bd a V) (k:Bd b W):Bd (a+b) (V*W):=by
 unfold Bd at *;rw [Int.natAbs_mul,Nat.pow_add];exact Nat.mul_le_mul h k
theorem Bd.add {m:Nat}{V W:Int}(h:Bd m V) (k:Bd m W):Bd (m+1) (V+W):=by
 unfold Bd at *;rw [Nat.pow_succ];omega
theorem Bd.nat {n k:Nat}(h:n≤2^k):Bd k (n:Int):=h
def gV (u:Nat) (V:Int):Option (Bool×Nat×Int):=mkS (decide (V<0)) V.natAbs (-(u:Int))
theorem g_iv {u m:Nat}{V:Int}(hu:u≤100000) (hm:m≤99999) (hV:Bd m V):Iv (gV u V) (-(u:Int)) (((m+1:Nat):Int)-(u:Int)):=by
 unfold gV;refine mkS_iv _ _ _ _ _ (.inr ⟨by omega,?_⟩) (by omega) (by omega) (by omega)
 have:=bl_lt_pow hV.lt;omega
theorem g_fm {u m:Nat}{V:Int}(hu:u≤100000) (hm:m≤99999) (hV:Bd m V):Fm (gV u V):=(g_iv hu hm hV).fm
theorem val_g {u:Nat}{V:Int}(h:Fm (gV u V)) (hu:u≤1000000) (k:Nat) (hk:k+u=EK):valO (gV u V)=V*((2^k:Nat):Int):=by
 unfold gV at h ⊢;rw [val_mk h (by omega) k (by unfold EK at hk;omega),sg1_natAbs]
theorem exK (u:Nat) (hu:u≤1000000):∃ k,k+u=EK:=⟨EK-u,by unfold EK;omega⟩
theorem g_mul {u v a b:Nat}{V W:Int}(hu:u≤50000) (hv:v≤50000) (ha:a≤40000) (hb:b≤40000) (h1:Bd a V) (h2:Bd b W):mulD (gV u V) (gV v W)=gV (u+v) (V*W):=by
 have F:=g_iv (u:=u) (by omega) (by omega) h1
 have G:=g_iv (u:=v) (by omega) (by omega) h2
 have hF:=(F.mul G (by omega) (by omega) (by omega)).fm
 have hG:=g_fm (u:=u+v) (by omega) (by omega) (h1.mul h2)
 refine valO_inj hF hG ?_;obtain ⟨k1,e1⟩:=exK u (by omega)
 obtain ⟨k2,e2⟩:=exK v (by omega)
 obtain ⟨k3,e3⟩:=exK (u+v) (by omega)
 have h:=val_mul F.fm G.fm hF;rw [val_g F.fm (by omega) k1 e1,val_g G.fm (by omega) k2 e2] at h
 rw [val_g hG (by omega) k3 e3]
 have hM:=M_pos;refine Int.eq_of_mul_eq_mul_right (a:=(MM:Int)) (by omega) (h.trans ?_)
 have e:((2^k1:Nat):Int)*((2^k2:Nat):Int)=((2^k3:Nat):Int)*(MM:Int):=by
  rw [←Int.natCast_mul,←Int.natCast_mul,M_eq,←Nat.pow_add,←Nat.pow_add,show k1+k2=k3+EK by omega]
 rw [Int.mul_assoc (V*W),←e,Int.mul_assoc,Int.mul_assoc,Int.mul_left_comm W]
theorem g_add {u m:Nat}{V W:Int}(hu:u≤100000) (hm:m≤90000) (h1:Bd m V) (h2:Bd m W):addD (gV u V) (gV u W)=gV u (V+W):=by
 have F:=g_iv (u:=u) (by omega) (by omega) h1
 have G:=g_iv (u:=u) (by omega) (by omega) h2
 have hF:=(F.add G (by omega) (by omega) (by omega)).fm
 have hG:=g_fm (u:=u) (by omega) (by omega) (h1.add h2)
 refine valO_inj hF hG ?_;obtain ⟨k1,e1⟩:=exK u (by omega)
 rw [val_add F.fm G.fm hF,val_g F.fm (by omega) k1 e1,val_g G.fm (by omega) k1 e1,val_g hG (by omega) k1 e1,Int.add_mul]
theorem fv_bd {x:Nat}(hx:x<18446744073709551616) (fx:finW x):Bd 2098 (fvW x):=by
 obtain ⟨m,hm⟩:∃ m,m=2098:=⟨_,rfl⟩;have h:Bd m (fvW x):=Nat.le_of_lt (top_fv hx fx m hm);rw [hm] at h;exact h
attribute [irreducible] Bd
end
section
open Go.RowKit Go.Shelf J
theorem roundP12 {U:World}{a:Option Addr}{c:Nat}{o:Option (Bool×Nat×Int)}(F:Fm o) (N:Nt 0 U (.slice a (ws (dX o)).length c) (dX o)) (hT:Tab U) (mode:Int) (z:Nat×Int) (hz:rndS o mode=z) :
 Calls Tryz.prog 58 #[.agg #[.bool (dN o),.slice a (ws (dX o)).length c,.int .i64 (dE o)],.int .i64 mode] U fun r w'=>r=.returned (.tuple #[.float .f64 z.1,.int .i64 z.2])∧Below U.heap.size U w':=by
 have:=Round_any (F.a12 N) hT (dN o) (dE o) mode F.rng.1 F.rng.2;rw [val_ws,F.re,hz] at this;exact this
attribute [local go_sem] Oper.semAt_some st_float
end
section
open Go Go.RowKit J
section
variable {P : Program} {ops : Array Oper} {Q : Exit → Act → World → Prop} {md : Region.Mode} {S : World → Prop} {stop : Nat}
end
theorem row14d:∃ d:TypeDesc,Tryz.prog.underlying 77=some d∧d.isRow=true:=by
 have h:(Tryz.prog.underlying 77).any (·.isRow)=true:=by kernel_rfl
 cases hd:Tryz.prog.underlying 77 with
 | none=>rw [hd] at h;cases h
 | some d=>rw [hd] at h;exact ⟨d,rfl,h⟩
theorem size14d:(Tryz.prog.info? 77).map (·.size)=some 3:=by kernel_rfl
theorem result14 {fn:Func}{p:Tmp}(h:fn.results=#[.cell p 77]) (tmps:Array Value) (W:World) (g:Nat) (n:Bool) (v:Value) (e:Int) (hp:tmps.getD p undef=.pointer (some ⟨g,0,none⟩)) (hD:Dk W g n v e) :
 (results fn tmps).run Tryz.prog W=.ok (.agg #[.bool n,v,.int .i64 e]) W:=by
 obtain ⟨d,h1,h2⟩:=row14d
 cases d <;> first
  | exact results_cell_row (P:=Tryz.prog) h tmps W g 77 _ _ _ hp hD h1 rfl (by rw [size14d];rfl)
  | exact absurd h2 (by simp [TypeDesc.isRow])
theorem end14 {fn:Func}{p:Tmp}(hfn:fn.results=#[.cell p 77]) {w base:World}{tmps:Array Value}{o q:Option (Bool×Nat×Int)}{a:Option Addr}{c g:Nat}(h2:tmps.getD p undef=.pointer (some ⟨g,0,none⟩))
 (hL:Lo base g q) (hbw:Below w.heap.size w base) (hg:w.heap.size≤g) (hN:Nt 0 base (.slice a (ws (dX o)).length c) (dX o)) :
 bodyPost Tryz.prog fn (fun r w'=>DVal 0 w' r o∧Below w.heap.size w w') .ret ⟨tmps,[]⟩
  (((base.setCell ⟨g,0,none⟩ (.bool (dN o))).setCell ⟨g,1,none⟩ (.slice a (ws (dX o)).length c)).setCell ⟨g,2,none⟩ (.int .i64 (dE o))):=by
 obtain ⟨a0,c0,hD,hM⟩:=hL;exact bodyPost_ret (v:=.agg #[.bool (dN o),.slice a (ws (dX o)).length c,.int .i64 (dE o)]) (result14 hfn _ _ g _ _ _ h2 (hD.set _ _ _)) rfl ⟨⟨_,rfl,hN.off12 hD _ _ _⟩,st3_bel12 hbw hbw.size hg _ _ _⟩
end
section
open Go Go.RowKit J
attribute [local go_sem] st_float
theorem half_core16 (x y:Nat) (ox oy os oh oq:Option (Bool×Nat×Int)) (F1:Fm ox) (F2:Fm oy) (F3:Fm os) (F4:Fm oh) (F5:Fm oq) (w:World) (hT:Tab w)
 (HX:Hid (∀ u:World,Tab u→Calls Tryz.prog 74 #[.float .f64 x] u fun r w'=>(∃ v,r=.returned (.tuple #[.agg #[.bool (dN ox),v,.int .i64 (dE ox)],.int .i64 0])∧Nt u.heap.size w' v (dX ox))∧Below u.heap.size u w'))
 (HY:Hid (∀ u:World,Tab u→Calls Tryz.prog 74 #[.float .f64 y] u fun r w'=>(∃ v,r=.returned (.tuple #[.agg #[.bool (dN oy),v,.int .i64 (dE oy)],.int .i64 0])∧Nt u.heap.size w' v (dX oy))∧Below u.heap.size u w'))
 (HH:Hid (∀ u:World,Tab u→Calls Tryz.prog 74 #[.float .f64 4602678819172646912] u fun r w'=>(∃ v,r=.returned (.tuple #[.agg #[.bool (dN oh),v,.int .i64 (dE oh)],.int .i64 0])∧Nt u.heap.size w' v (dX oh))∧Below u.heap.size u w'))
 (HS:Hid (∀ (u:World) (a b:Option Addr) (c d:Nat),Tab u→Nt 0 u (.slice a (ws (dX ox)).length c) (dX ox)→Nt 0 u (.slice b (ws (dX oy)).length d) (dX oy)→Calls Tryz.prog 75 #[.agg #[.bool (dN ox),.slice a (ws (dX ox)).length c,.int .i64 (dE ox)],.agg #[.bool (dN oy),.slice b (ws (dX oy)).length d,.int .i64 (dE oy)]] u fun r w'=>(∃ v,r=.returned (.tuple #[.agg #[.bool (dN os),v,.int .i64 (dE os)],.int .i64 0])∧Nt u.heap.size w' v (dX os))∧Below u.heap.size u w'))
 (HM:Hid (∀ (u:World) (a b:Option Addr) (c d:Nat),Tab u→Nt 0 u (.slice a (ws (dX os)).length c) (dX os)→Nt 0 u (.slice b (ws (dX oh)).length d) (dX oh)→Calls Tryz.prog 76 #[.agg #[.bool (dN os),.slice a (ws (dX os)).length c,.int .i64 (dE os)],.agg #[.bool (dN oh),.slice b (ws (dX oh)).length d,.int .i64 (dE oh)]] u fun r w'=>(∃ v,r=.returned (.tuple #[.agg #[.bool (dN oq),v,.int .i64 (dE oq)],.int .i64 0])∧Nt u.heap.size w' v (dX oq))∧Below u.heap.size u w')) :
 Calls Tryz.prog 59 #[.float .f64 x,.float .f64 y] w fun r w'=>DVal 0 w' r oq∧Below w.heap.size w w':=by
 have FF:=(qsd (ai F1 (ai F2 (ai F3 (ai F4 (ai F5 hT))))));clear F1 F2 F3 F4 F5 hT;obtain ⟨W0,hW0⟩:∃ W,W=w.alloc (Obj.cells #[.bool false,.slice none 0 0,.int .i64 0] 77):=⟨_,rfl⟩
 have H:Aside (Lo W0 w.heap.size o00∧Below w.heap.size w W0):=by
  subst hW0;exact ⟨Lo.zero w,below_alloc _ _⟩
 have HW:=qsd hW0;clear hW0;go_enter Tryz.func59,Tryz.ntmps59
 go_upto_region 1 with fail
 rw [←HW.out];clear HW;have C:=hid (HX.out _ (FF.out.2.2.2.2.2.belows H.out.2))
 go_wp2_with fail
 refine C.out.mono ?_;rintro r v1 ⟨⟨s1,rfl,hN⟩,hb⟩;obtain ⟨a1,c1,rfl,hN0⟩:=Lo.shape FF.out.1 hN;obtain ⟨V1,hV⟩:∃ V,V=v1.alloc (Obj.cells #[.bool (dN ox),.slice a1 (ws (dX ox)).length c1,.int .i64 (dE ox)] 77):=⟨_,rfl⟩;obtain ⟨g1,hgd⟩:∃ g,g=v1.heap.size:=⟨_,rfl⟩;have hbl:Below v1.heap.size v1 V1:=by rw [hV];exact below_alloc _ _
 have K1:Aside (Dk V1 g1 (dN ox) (.slice a1 (ws (dX ox)).length c1) (dE ox)∧Nt 0 V1 (.slice a1 (ws (dX ox)).length c1) (dX ox)):=by
  subst hV hgd;exact ⟨Dk.new _ _ _ _,hN0.below (below_alloc _ _)⟩
 replace H:=qsd (ai ((H.out.1.below hb).below hbl) ((H.out.2.trans (hb.mono H.out.2.size)).trans (hbl.mono (Nat.le_trans H.out.2.size hb.size))));have HV:=(qsd (ai hV hgd));clear C hb hbl hN hN0 hV hgd
 go_upto_region 2 with fail
 rw [←HV.out.1,←HV.out.2];clear HV;have C:=hid (HY.out _ (FF.out.2.2.2.2.2.belows H.out.2))
 go_wp2_with fail
 refine C.out.mono ?_;rintro r v2 ⟨⟨s2,rfl,hN⟩,hb⟩;obtain ⟨a2,c2,rfl,hN0⟩:=Lo.shape FF.out.2.1 hN;obtain ⟨V2,hV⟩:∃ V,V=v2.alloc (Obj.cells #[.bool (dN oy),.slice a2 (ws (dX oy)).length c2,.int .i64 (dE oy)] 77):=⟨_,rfl⟩;obtain ⟨g2,hgd⟩:∃ g,g=v2.heap.size:=⟨_,rfl⟩;have hbl:Below v2.heap.size v2 V2:=by rw [hV];exact below_alloc _ _
 have K2:Aside (Dk V2 g2 (dN oy) (.slice a2 (ws (dX oy)).length c2) (dE oy)∧Nt 0 V2 (.slice a2 (ws (dX oy)).length c2) (dX oy)):=by
  subst hV hgd;exact ⟨Dk.new _ _ _ _,hN0.below (below_alloc _ _)⟩
 replace H:=qsd (ai ((H.out.1.below hb).below hbl) ((H.out.2.trans (hb.mono H.out.2.size)).trans (hbl.mono (Nat.le_trans H.out.2.size hb.size))));replace K1:=qsd (ai ((K1.out.1.below hb).below hbl) ((K1.out.2.below hb).below hbl));have HV:=(qsd (ai hV hgd));clear C hb hbl hN hN0 hV hgd
 go_upto_region 3 with fail
 rw [←HV.out.1,←HV.out.2];clear HV;obtain ⟨p10,p11,p12,f10,f11,f12⟩:=K1.out.1.facts;obtain ⟨p20,p21,p22,f20,f21,f22⟩:=K2.out.1.facts;have C:=hid (HS.out _ a1 a2 c1 c2 (FF.out.2.2.2.2.2.belows H.out.2) K1.out.2 K2.out.2);clear f10 f11 f12 f20 f21 f22
 go_wp2_with fail
 refine C.out.mono ?_;rintro r v3 ⟨⟨s3,rfl,hN⟩,hb⟩;obtain ⟨a3,c3,rfl,hN0⟩:=Lo.shape FF.out.2.2.1 hN;obtain ⟨V3,hV⟩:∃ V,V=v3.alloc (Obj.cells #[.bool (dN os),.slice a3 (ws (dX os)).length c3,.int .i64 (dE os)] 77):=⟨_,rfl⟩;obtain ⟨g3,hgd⟩:∃ g,g=v3.heap.size:=⟨_,rfl⟩;have hbl:Below v3.heap.size v3 V3:=by rw [hV];exact below_alloc _ _
 have K3:Aside (Dk V3 g3 (dN os) (.slice a3 (ws (dX os)).length c3) (dE os)∧Nt 0 V3 (.slice a3 (ws (dX os)).length c3) (dX os)):=by
  subst hV hgd;exact ⟨Dk.new _ _ _ _,hN0.below (below_alloc _ _)⟩
 replace H:=qsd (ai ((H.out.1.below hb).below hbl) ((H.out.2.trans (hb.mono H.out.2.size)).trans (hbl.mono (Nat.le_trans H.out.2.size hb.size))));have HV:=(qsd (ai hV hgd));clear C hb hbl hN hN0 hV hgd K1 p10 p11 p12 K2 p20 p21 p22
 go_upto_region 4 with fail
 rw [←HV.out.1,←HV.out.2];clear HV;have C:=hid (HH.out _ (FF.out.2.2.2.2.2.belows H.out.2))
 go_wp2_with fail
 refine C.out.mono ?_;rintro r v4 ⟨⟨s4,rfl,hN⟩,hb⟩;obtain ⟨a4,c4,rfl,hN0⟩:=Lo.shape FF.out.2.2.2.1 hN;obtain ⟨V4,hV⟩:∃ V,V=v4.alloc (Obj.cells #[.bool (dN oh),.slice a4 (ws (dX oh)).length c4,.int .i64 (dE oh)] 77):=⟨_,rfl⟩;obtain ⟨g4,hgd⟩:∃ g,g=v4.heap.size:=⟨_,rfl⟩;have hbl:Below v4.heap.size v4 V4:=by rw [hV];exact below_alloc _ _
 have K4:Aside (Dk V4 g4 (dN oh) (.slice a4 (ws (dX oh)).length c4) (dE oh)∧Nt 0 V4 (.slice a4 (ws (dX oh)).length c4) (dX oh)):=by
  subst hV hgd;exact ⟨Dk.new _ _ _ _,hN0.below (below_alloc _ _)⟩
 replace H:=qsd (ai ((H.out.1.below hb).below hbl) ((H.out.2.trans (hb.mono H.out.2.size)).trans (hbl.mono (Nat.le_trans H.out.2.size hb.size))));replace K3:=qsd (ai ((K3.out.1.below hb).below hbl) ((K3.out.2.below hb).below hbl));have HV:=(qsd (ai hV hgd));clear C hb hbl hN hN0 hV hgd
 go_upto_region 5 with fail
 rw [←HV.out.1,←HV.out.2];clear HV;obtain ⟨p30,p31,p32,f30,f31,f32⟩:=K3.out.1.facts;obtain ⟨p40,p41,p42,f40,f41,f42⟩:=K4.out.1.facts;have C:=hid (HM.out _ a3 a4 c3 c4 (FF.out.2.2.2.2.2.belows H.out.2) K3.out.2 K4.out.2);clear f30 f31 f32 f40 f41 f42
 go_wp2_with fail
 refine C.out.mono ?_;rintro r v5 ⟨⟨s5,rfl,hN⟩,hb⟩;obtain ⟨a5,c5,rfl,hN0⟩:=Lo.shape FF.out.2.2.2.2.1 hN;obtain ⟨V5,hV⟩:∃ V,V=v5.alloc (Obj.cells #[.bool (dN oq),.slice a5 (ws (dX oq)).length c5,.int .i64 (dE oq)] 77):=⟨_,rfl⟩;obtain ⟨g5,hgd⟩:∃ g,g=v5.heap.size:=⟨_,rfl⟩;have hbl:Below v5.heap.size v5 V5:=by rw [hV];exact below_alloc _ _
 have K5:Aside (Dk V5 g5 (dN oq) (.slice a5 (ws (dX oq)).length c5) (dE oq)∧Nt 0 V5 (.slice a5 (ws (dX oq)).length c5) (dX oq)):=by
  subst hV hgd;exact ⟨Dk.new _ _ _ _,hN0.below (below_alloc _ _)⟩
 replace H:=qsd (ai ((H.out.1.below hb).below hbl) ((H.out.2.trans (hb.mono H.out.2.size)).trans (hbl.mono (Nat.le_trans H.out.2.size hb.size))));have HV:=(qsd (ai hV hgd));clear C hb hbl hN hN0 hV hgd K3 p30 p31 p32 K4 p40 p41 p42
 go_upto_region 6 with fail
 rw [←HV.out.1,←HV.out.2];clear HV;obtain ⟨p0,p1,p2,f0,f1,f2⟩:=K5.out.1.facts;obtain ⟨a0,c0,D0,N0⟩:=H.out.1;obtain ⟨y0,y1,y2,z0,z1,z2⟩:=D0.facts;clear D0 N0;go_wp2;exact end14 Tryz.results59 rfl H.out.1 H.out.2 (Nat.le_refl _) K5.out.2
theorem g_scale15 {u k m:Nat}{V:Int}(hu:u+k≤100000) (hm:m+k≤90000) (hV:Bd m V):gV (u+k) (V*((2^k:Nat):Int))=gV u V:=by
 have F:=g_fm (u:=u+k) hu (m:=m+k) (by omega) (hV.mul (Bd.nat (Nat.le_refl (2^k))))
 have G:=g_fm (u:=u) (by omega) (m:=m) (by omega) hV
 obtain ⟨j1,e1⟩:=exK (u+k) (by omega)
 obtain ⟨j2,e2⟩:=exK u (by omega)
 refine valO_inj F G ?_;rw [val_g F (by omega) j1 e1,val_g G (by omega) j2 e2,Int.mul_assoc,←Int.natCast_mul,←Nat.pow_add,show k+j1=j2 by omega]
theorem fv_half15 (k:Nat) (hk:k=1073):fvW 4602678819172646912=((2^k:Nat):Int):=by subst hk;decide +kernel
theorem half15 (x y:Nat) (hx:x<18446744073709551616) (fx:finW x) (hy:y<18446744073709551616) (fy:finW y) (w:World) (hT:Tab w) :
 Calls Tryz.prog 59 #[.float .f64 x,.float .f64 y] w fun r w'=>DVal 0 w' r (gV 1075 (fvW x+fvW y))∧Below w.heap.size w w':=by
 obtain ⟨h,hh⟩:∃ z,z=1073:=⟨_,rfl⟩;have b1:=fv_bd hx fx;have b2:=fv_bd hy fy;have bs:=b1.add b2;have f5:finW 4602678819172646912:=by decide
 have b5:=fv_bd (x:=4602678819172646912) (by decide) f5
 have ea:addD (gV 1074 (fvW x)) (gV 1074 (fvW y))=gV 1074 (fvW x+fvW y):=g_add (u:=1074) (by omega) (by omega) b1 b2
 have em:mulD (gV 1074 (fvW x+fvW y)) (gV 1074 (fvW 4602678819172646912))=gV 1075 (fvW x+fvW y):=by
  rw [g_mul (by omega) (by omega) (by omega) (by omega) bs b5,fv_half15 h hh]
  have:=g_scale15 (u:=1075) (k:=h) (m:=2099) (by omega) (by omega) bs
  rw [show 1075+h=1074+1074 by omega] at this
  exact this
 have F1:=g_fm (u:=1074) (by omega) (by omega) b1
 have F2:=g_fm (u:=1074) (by omega) (by omega) b2
 have F3:=g_fm (u:=1074) (by omega) (by omega) bs
 have F4:=g_fm (u:=1074) (by omega) (by omega) b5
 have F5:=g_fm (u:=1075) (by omega) (by omega) bs
 exact half_core16 x y _ _ _ _ _ F1 F2 F3 F4 F5 w hT (fun u hT=>of12 x hx fx u hT) (fun u hT=>of12 y hy fy u hT) (fun u hT=>of12 _ (by decide) f5 u hT)
  (fun u a b c d hT N1 N2=>addP12' F1 F2 N1 N2 hT ea F3) (fun u a b c d hT N1 N2=>mulP12 F3 F4 N1 N2 hT em F5)
def midW (x y:Nat) (mode:Int):Nat×Int :=
 if x=y then (x,0) else if magW x=9218868437227405312∧magW y=9218868437227405312 then (0,30) else if magW x=9218868437227405312 then (x,0) else if magW y=9218868437227405312 then (y,0) else rndS (gV 1075 (fvW x+fvW y)) mode
theorem nnan {x:Nat}(h:nanW x=false):magW x≤9218868437227405312:=by unfold nanW at h;unfold magW;have:=of_decide_eq_false h;omega
theorem same15 {x y:Nat}(hx:x<18446744073709551616) (hy:y<18446744073709551616) (nx:nanW x=false) (ny:nanW y=false) (w:World) :
 Calls Tryz.prog 56 #[.float .f64 x,.float .f64 y] w fun r w'=>r=.returned (.bool (decide (x=y)))∧w'=w:=by
 obtain ⟨s,e,f,h1,h2,h3,h4,h5,h6⟩:=bw15 hx;obtain ⟨t,u,v,i1,i2,i3,i4,i5,i6⟩:=bw15 hy;have a:=nnan nx;have b:=nnan ny;have:=B.Same_any s t e f u v h1 h2 i1 i2 w;rw [B.cb_else _ _ _ (by omega),B.cb_else _ _ _ (by omega),←h3,←i3] at this
 exact this
def infN (x:Nat):Bool:=negW x&&decide (magW x=9218868437227405312)
def infP (x:Nat):Bool:=!negW x&&decide (magW x=9218868437227405312)
theorem parts_inf (m:Nat):(m/4503599627370496==2047&&m%4503599627370496==0)=decide (m=9218868437227405312):=by
 rw [Bool.eq_iff_iff];simp;omega
theorem infN15 {x:Nat}(hx:x<18446744073709551616) (w:World) :
 Calls Tryz.prog 57 #[.float .f64 x,.int .i64 (-1)] w fun r w'=>r=.returned (.bool (infN x))∧w'=w:=by
 obtain ⟨s,e,f,h1,h2,h3,h4,h5,h6⟩:=bw15 hx;have:=B.isInf_neg s e f h1 h2 w;rw [←h3,h4,h5,h6,parts_inf] at this;exact this
theorem infP15 {x:Nat}(hx:x<18446744073709551616) (w:World) :
 Calls Tryz.prog 57 #[.float .f64 x,.int .i64 1] w fun r w'=>r=.returned (.bool (infP x))∧w'=w:=by
 obtain ⟨s,e,f,h1,h2,h3,h4,h5,h6⟩:=bw15 hx;have:=B.isInf_pos s e f h1 h2 w;rw [←h3,h4,h5,h6,parts_inf] at this;exact this
theorem clx_inf {x:Nat}(nx:nanW x=false):(clx x==3)=decide (magW x=9218868437227405312):=by
 have:=nnan nx;unfold clx B.cls
 by_cases h:magW x=9218868437227405312
 · rw [h];rfl
 · rw [decide_eq_false h,if_neg (by omega)]
   split
   · split <;> rfl
   · rfl
theorem ends15 {x y:Nat}(hx:x<18446744073709551616) (hy:y<18446744073709551616) (nx:nanW x=false) (ny:nanW y=false) (ho:tk x≤tk y) (hne:x≠y) :
 (magW x=9218868437227405312→negW x=true)∧(magW y=9218868437227405312→negW y=false):=by
 have a:=nnan nx;have b:=nnan ny;have tx:tk x=if negW x then -1-(magW x:Int) else magW x:=by unfold tk;exact if_neg (by omega)
 have ty:tk y=if negW y then -1-(magW y:Int) else magW y:=by unfold tk;exact if_neg (by omega)
 rw [tx,ty] at ho;have ex:=wd_of x hx;have ey:=wd_of y hy
 constructor
 · intro h
   cases hn:negW x
   · exfalso
     rw [hn,h] at ho
     cases hm:negW y
     · rw [hm] at ho
       simp at ho;have:magW y=9218868437227405312:=by omega
       exact hne (by rw [ex,ey,hn,hm,h,this])
     · rw [hm] at ho
       simp at ho;omega
   · rfl
 · intro h
   cases hm:negW y
   · rfl
   · exfalso
     rw [hm,h] at ho
     cases hn:negW x
     · rw [hn] at ho
       simp at ho;omega
     · rw [hn] at ho
       simp at ho;have:magW x=9218868437227405312:=by omega
       exact hne (by rw [ex,ey,hn,hm,h,this])
theorem middle15 (x y:Nat) (hx:x<18446744073709551616) (hy:y<18446744073709551616) (nx:nanW x=false) (ny:nanW y=false) (ho:tk x≤tk y) (mode:Int) (w:World) (hT:Tab w) :
 Calls Tryz.prog 42 #[.float .f64 x,.float .f64 y,.int .i64 mode] w fun r w'=>r=.returned (.tuple #[.float .f64 (midW x y mode).1,.int .i64 (midW x y mode).2])∧Below w.heap.size w w':=by
 have CS:=hid (same15 hx hy nx ny w)
 by_cases h:x=y
 · have e:midW x y mode=(x,0):=if_pos h
   rw [e];rw [decide_eq_true h] at CS;clear e h;go_enter Tryz.func42,Tryz.ntmps42
   go_wp2_with fail
   refine CS.out.mono ?_;rintro r u ⟨rfl,hu⟩;rw [hu];clear hu u CS;go_wp2
   go_ret2
   exact ⟨rfl,Below.refl _ _⟩
 · rw [decide_eq_false h] at CS
   obtain ⟨e1,e2⟩:=ends15 hx hy nx ny ho h;have CI:=hid (infN15 hx w);have CJ:=hid (infP15 hy w);have CX:=hid (class15 hx w);have CY:=hid (fun u:World=>class15 hy u)
   have kx:=clx_inf nx;have ky:=clx_inf ny;obtain ⟨cx,hcx⟩:∃ c,c=clx x:=⟨_,rfl⟩;obtain ⟨cy,hcy⟩:∃ c,c=clx y:=⟨_,rfl⟩;rw [←hcx] at CX kx;rw [←hcy] at CY ky;clear hcx hcy
   by_cases ix:magW x=9218868437227405312
   · rw [decide_eq_true ix] at kx
     by_cases iy:magW y=9218868437227405312
     · have e:midW x y mode=(0,30):=by unfold midW;rw [if_neg h,if_pos ⟨ix,iy⟩]
       have j1:infN x=true:=by unfold infN;rw [e1 ix,ix];rfl
       have j2:infP y=true:=by unfold infP;rw [e2 iy,iy];rfl
       rw [j1] at CI;rw [j2] at CJ;rw [e];clear e j1 j2 h e1 e2 kx ky CX CY ix iy ho hT;go_enter Tryz.func42,Tryz.ntmps42
       go_wp2_with fail
       refine CS.out.mono ?_;rintro r u ⟨rfl,hu⟩;rw [hu];clear hu u CS
       go_wp2_with fail
       refine CI.out.mono ?_;rintro r u ⟨rfl,hu⟩;rw [hu];clear hu u CI
       go_wp2_with fail
       refine CJ.out.mono ?_;rintro r u ⟨rfl,hu⟩;rw [hu];clear hu u CJ;go_wp2
       go_ret2
       exact ⟨rfl,Below.refl _ _⟩
     · have e:midW x y mode=(x,0):=by unfold midW;rw [if_neg h,if_neg (fun q=>iy q.2),if_pos ix]
       have j1:infN x=true:=by unfold infN;rw [e1 ix,ix];rfl
       have j2:infP y=false:=by unfold infP;rw [decide_eq_false iy,Bool.and_false]
       rw [j1] at CI;rw [j2] at CJ;rw [e];clear e j1 j2 h e1 e2 ky CY ix iy ho hT;go_enter Tryz.func42,Tryz.ntmps42
       go_wp2_with fail
       refine CS.out.mono ?_;rintro r u ⟨rfl,hu⟩;rw [hu];clear hu u CS
       go_wp2_with fail
       refine CI.out.mono ?_;rintro r u ⟨rfl,hu⟩;rw [hu];clear hu u CI
       go_wp2_with fail
       refine CJ.out.mono ?_;rintro r u ⟨rfl,hu⟩;rw [hu];clear hu u CJ
       go_wp2_with fail
       refine CX.out.mono ?_;rintro r u ⟨rfl,hb⟩;have HB:=qsd hb;clear hb CX;go_wp2
       go_ret2
       exact ⟨rfl,HB.out⟩
   · rw [decide_eq_false ix] at kx
     have j1:infN x=false:=by unfold infN;rw [decide_eq_false ix,Bool.and_false]
     rw [j1] at CI
     by_cases iy:magW y=9218868437227405312
     · have e:midW x y mode=(y,0):=by unfold midW;rw [if_neg h,if_neg (fun q=>ix q.1),if_neg ix,if_pos iy]
       rw [decide_eq_true iy] at ky;rw [e];clear e j1 h e1 e2 CJ ix iy ho hT;go_enter Tryz.func42,Tryz.ntmps42
       go_wp2_with fail
       refine CS.out.mono ?_;rintro r u ⟨rfl,hu⟩;rw [hu];clear hu u CS
       go_wp2_with fail
       refine CI.out.mono ?_;rintro r u ⟨rfl,hu⟩;rw [hu];clear hu u CI
       go_wp2_with fail
       refine CX.out.mono ?_;rintro r u1 ⟨rfl,hb⟩;have HB:=qsd hb;clear hb CX
       go_wp2_with fail
       refine (CY.out _).mono ?_;rintro r u2 ⟨rfl,hb⟩;replace HB:=qsd (HB.out.trans (hb.mono HB.out.size));clear hb CY;go_wp2
       go_ret2
       exact ⟨rfl,HB.out⟩
     · have e:midW x y mode=rndS (gV 1075 (fvW x+fvW y)) mode:=by unfold midW;rw [if_neg h,if_neg (fun q=>ix q.1),if_neg ix,if_neg iy]
       rw [decide_eq_false iy] at ky;have fx:finW x:=by have:=nnan nx;unfold finW;omega
       have fy:finW y:=by have:=nnan ny;unfold finW;omega
       have F5:=g_fm (u:=1075) (by omega) (by omega) ((fv_bd hx fx).add (fv_bd hy fy))
       have CH:=hid (fun (u:World) (hu:Below w.heap.size w u)=>half15 x y hx fx hy fy u (hT.belows hu))
       have CR:=hid (fun (u:World) (a:Option Addr) (c:Nat) (hu:Below w.heap.size w u) (N:Nt 0 u (.slice a (ws (dX (gV 1075 (fvW x+fvW y)))).length c) (dX (gV 1075 (fvW x+fvW y))))=>roundP12 F5 N (hT.belows hu) mode _ e.symm)
       obtain ⟨zz,hzz⟩:∃ q,q=midW x y mode:=⟨_,rfl⟩;rw [←hzz] at CR ⊢;obtain ⟨oq,hoq⟩:∃ o,o=gV 1075 (fvW x+fvW y):=⟨_,rfl⟩;rw [←hoq] at CH F5;simp only [←hoq] at CR;have HF:=qsd F5;clear hoq hzz e j1 h e1 e2 CJ ix iy ho hT fx fy F5;go_enter Tryz.func42,Tryz.ntmps42
       go_wp2_with fail
       refine CS.out.mono ?_;rintro r u ⟨rfl,hu⟩;rw [hu];clear hu u CS
       go_wp2_with fail
       refine CI.out.mono ?_;rintro r u ⟨rfl,hu⟩;rw [hu];clear hu u CI
       go_wp2_with fail
       refine CX.out.mono ?_;rintro r u1 ⟨rfl,hb⟩;have HB:=qsd hb;clear hb CX
       go_wp2_with fail
       refine (CY.out _).mono ?_;rintro r u2 ⟨rfl,hb⟩;replace HB:=qsd (HB.out.trans (hb.mono HB.out.size));clear hb CY;have C:=hid (CH.out _ HB.out)
       go_wp2_with fail
       refine C.out.mono ?_;rintro r u3 ⟨⟨v,rfl,hN⟩,hb⟩;obtain ⟨a0,c0,rfl,hN0⟩:=Lo.shape HF.out hN;replace HB:=qsd (HB.out.trans (hb.mono HB.out.size));have C2:=hid (CR.out _ a0 c0 HB.out hN0);clear C hb hN hN0 CH CR
       go_wp2_with fail
       refine C2.out.mono ?_;rintro r u4 ⟨rfl,hb⟩;replace HB:=qsd (HB.out.trans (hb.mono HB.out.size));clear hb C2;go_wp2
       go_ret2
       exact ⟨rfl,HB.out⟩
end
section
open Go Go.RowKit J
attribute [local go_sem] st_float
theorem isnan15 {x:Nat}(hx:x<18446744073709551616) (w:World):Calls Tryz.prog 41 #[.float .f64 x] w fun r w'=>r=.returned (.bool (nanW x))∧Below w.heap.size w w':=by
 refine (isNaN_w x hx w).mono fun r w' h=>?_
 obtain ⟨h1,h2⟩:=h;rw [h2];exact ⟨h1,Below.refl _ _⟩
theorem any_take15n {xs:List Nat}{k:Nat}(h:k<xs.length):(xs.take (k+1)).any nanW=((xs.take k).any nanW || nanW (xs.getD k 0)):=by
 rw [List.take_add_one,List.getElem?_eq_getElem h,List.getD_eq_getElem?_getD,List.getElem?_eq_getElem h,List.any_append]
 simp only [Option.toList,List.any_cons,List.any_nil,Bool.or_false,Option.getD_some]
theorem index15n (xs:List Nat) (ao:Option Addr) (n cap:Nat) (w:World) (hF:Fs w.heap.size w ao xs) (hn:n=xs.length) (hb:n≤17592186044416) (hW:W64 xs) :
 Calls Tryz.prog 55 #[.slice ao n cap,.func (.func 41) #[] #[]] w fun r w'=>∃ z:Int,r=.returned (.int .i64 z)∧(decide (0≤z)=xs.any nanW)∧Below w.heap.size w w':=by
 have HN:=(qsd (ai hn (ai hW hF)));clear hF hn hW;go_enter Tryz.func55,Tryz.ntmps55;go_wp2
 go_loopg [8] n (fun gk iv wr=>∃ k:Nat,gk+k=n∧iv=.int .i64 (k:Nat)∧Aside ((xs.take k).any nanW=false∧Below w.heap.size w wr))
 case atStart=>exact ⟨0,rfl,by first | rfl | simp,by simp,Below.refl _ _⟩
 case round =>
  obtain ⟨k,hgk,rfl,HA⟩:=hrel
  by_cases hk:k<n
  · have hdk:decide ((k:Int)<(n:Int))=true:=by simp;omega
    have bk:(k:Int)<(n:Int):=by omega
    obtain ⟨k1,hk1⟩:∃ x,x=k+1:=⟨_,rfl⟩;have wk:IntKind.i64.wrap ((k:Int)+1)=(k1:Int):=wrapZ (by omega) (by omega)
    obtain ⟨hn,hW,hF⟩:=HN.out;obtain ⟨b,off,rfl,c2⟩:=hF.at HA.out.2 k (by omega)
    have hx:xs.getD k 0<18446744073709551616:=hW _ (getD_mem15 (by omega))
    have ht:=any_take15n (xs:=xs) (k:=k) (by omega)
    obtain ⟨x,hxx⟩:∃ x,x=xs.getD k 0:=⟨_,rfl⟩;rw [←hxx] at c2 hx ht;have D:=hid (isnan15 hx wr);rw [HA.out.1,Bool.false_or] at ht;have HK:=(qsd (ai hk1 ht));obtain ⟨t,htt⟩:∃ t,t=nanW x:=⟨_,rfl⟩;rw [←htt] at D ht;have HT:=qsd htt
    have hany:Aside (t=true→xs.any nanW=true):=fun h=>by
     rw [List.any_eq_true];exact ⟨x,by rw [hxx];exact getD_mem15 (by omega),by rw [←HT.out];exact h⟩
    have HT2:=qsd ht;clear hn hW hF hx ht hxx hk1 htt
    go_wp2_with fail
    refine D.out.mono ?_;rintro r v ⟨rfl,hv⟩;have HB:=qsd (HA.out.2.trans (hv.mono HA.out.2.size));clear D hv
    cases t
    · go_wp2
      go_roundg (n-k1)
      case measure=>have:=HK.out;omega
      case rel=>exact ⟨k1,by have:=HK.out;omega,by first | rfl | simp,by rw [HK.out.1];exact HT2.out,HB.out⟩
    · go_wp2
      refine bodyPost_ret (v:=.int .i64 (k:Nat)) (by simp [results,Tryz.results55,go_sem]) rfl ?_
      exact ⟨k,rfl,by rw [hany.out (by first | rfl | trivial)];simp,HB.out⟩
  · have hdk:decide ((k:Int)<(n:Int))=false:=by simp;omega
    have E:Aside (xs.any nanW=false):=by
     have h1:=HA.out.1;rw [List.take_of_length_le (by have:=HN.out.1;omega)] at h1
     exact h1
    go_wp2;refine bodyPost_ret (v:=.int .i64 (-1)) (by simp [results,Tryz.results55,go_sem]) rfl ?_
    exact ⟨-1,rfl,by rw [E.out];rfl,HA.out.2⟩
theorem contains15n (xs:List Nat) (ao:Option Addr) (n cap:Nat) (w:World) (hF:Fs w.heap.size w ao xs) (hn:n=xs.length) (hb:n≤17592186044416) (hW:W64 xs) :
 Calls Tryz.prog 40 #[.slice ao n cap,.func (.func 41) #[] #[]] w fun r w'=>r=.returned (.bool (xs.any nanW))∧Below w.heap.size w w':=by
 have C:=hid (index15n xs ao n cap w hF hn hb hW);clear hF hn hW;go_enter Tryz.func40,Tryz.ntmps40
 go_wp2_with fail
 refine C.out.mono ?_;rintro r v ⟨z,rfl,hz,hv⟩;have HZ:=(qsd (ai hz hv));clear C hz hv;go_wp2;go_ret;exact ⟨by rw [←HZ.out.1];first | rfl | simp,HZ.out.2⟩
theorem Median_mode (a:Option Addr) (n c:Nat) (mode:Int) (w:World) (h:mode<0∨4<mode) :
 Calls Tryz.prog 23 #[.slice a n c,.int .i64 mode] w fun r w'=>r=.returned (.tuple #[.float .f64 0,.int .i64 1])∧Below w.heap.size w w':=by
 by_cases h1:mode<0
 · have d1:decide (mode<0)=true:=decide_eq_true h1
   clear h;go_enter Tryz.func23,Tryz.ntmps23;go_wp2
   go_ret2
   exact ⟨rfl,Below.refl _ _⟩
 · have d1:decide (mode<0)=false:=decide_eq_false h1
   have d2:decide (4<mode)=true:=decide_eq_true (by omega)
   clear h;go_enter Tryz.func23,Tryz.ntmps23;go_wp2
   go_ret2
   exact ⟨rfl,Below.refl _ _⟩
theorem Median_long (a:Option Addr) (n c:Nat) (mode:Int) (w:World) (hm0:0≤mode) (hm4:mode≤4) (hn:65536<n) :
 Calls Tryz.prog 23 #[.slice a n c,.int .i64 mode] w fun r w'=>r=.returned (.tuple #[.float .f64 0,.int .i64 2])∧Below w.heap.size w w':=by
 have d1:decide (mode<0)=false:=decide_eq_false (by omega)
 have d2:decide (4<mode)=false:=decide_eq_false (by omega)
 have d3:decide ((65536:Int)<(n:Int))=true:=by simp;omega
 clear hm0 hm4 hn;go_enter Tryz.func23,Tryz.ntmps23;go_wp2
 go_ret2
 exact ⟨rfl,Below.refl _ _⟩
theorem Median_none (a:Option Addr) (c:Nat) (mode:Int) (w:World) (hm0:0≤mode) (hm4:mode≤4) :
 Calls Tryz.prog 23 #[.slice a 0 c,.int .i64 mode] w fun r w'=>r=.returned (.tuple #[.float .f64 0,.int .i64 3])∧Below w.heap.size w w':=by
 have d1:decide (mode<0)=false:=decide_eq_false (by omega)
 have d2:decide (4<mode)=false:=decide_eq_false (by omega)
 have C:=hid (contains15n [] a 0 c w (Fs.nil _ _ _) rfl (by omega) (fun x hx=>by cases hx))
 rw [List.any_nil] at C;clear hm0 hm4;go_enter Tryz.func23,Tryz.ntmps23
 go_wp2_with fail
 refine C.out.mono ?_;rintro r u ⟨rfl,hb⟩;go_wp2
 go_ret2
 exact ⟨rfl,hb⟩
theorem nrm_nrm (x:Nat):nrm (nrm x)=nrm x:=by
 unfold nrm
 by_cases h:nanW x=true
 · rw [if_pos h];decide
 · rw [if_neg h,if_neg h]
theorem tk_nrm_eq {x:Nat}(hx:x<18446744073709551616):tk (nrm x)=tk x:=(tk_nrm (nrm_lt15 hx) hx).2 (nrm_nrm x)
theorem sort_ky {xs:List Nat}(hW:W64 xs) {k:Nat}(h:k<xs.length):tk ((sortL xs).getD k 0)=kyR xs k∧(sortL xs).getD k 0<18446744073709551616:=by
 have hx:=hW _ (getD_mem15 (rowL_lt h));rw [sortL_get h];exact ⟨tk_nrm_eq hx,nrm_lt15 hx⟩
theorem sort_nn {xs:List Nat}(hn:xs.any nanW=false) {k:Nat}(h:k<xs.length):nanW ((sortL xs).getD k 0)=false∧(sortL xs).getD k 0 ∈ xs:=by
 have hm:=getD_mem15 (rowL_lt h)
 have hq:nanW (xs.getD ((rowL xs).getD k 0) 0)=false:=by
  have:=List.any_eq_false.1 hn _ hm;simpa using this
 rw [sortL_get h];unfold nrm;rw [if_neg (by rw [hq];decide)]
 exact ⟨hq,hm⟩
def medR (xs:List Nat) (mode:Int):Nat×Int :=
 if mode<0∨4<mode then (0,1) else if 65536<xs.length then (0,2) else if xs.any nanW then (0,30) else if xs.length=0 then (0,3) else midW ((sortL xs).getD ((xs.length-1)/2) 0) ((sortL xs).getD (xs.length/2) 0) mode
theorem Median_odd (xs:List Nat) (a:Option Addr) (n c:Nat) (mode:Int) (w:World) (hm0:0≤mode) (hm4:mode≤4) (hF:Fs w.heap.size w a xs) (hn:n=xs.length) (hb:n≤65536) (hW:W64 xs) (ha:xs.any nanW=true) :
 Calls Tryz.prog 23 #[.slice a n c,.int .i64 mode] w fun r w'=>r=.returned (.tuple #[.float .f64 0,.int .i64 30])∧Below w.heap.size w w':=by
 have d1:decide (mode<0)=false:=decide_eq_false (by omega)
 have d2:decide (4<mode)=false:=decide_eq_false (by omega)
 have d3:decide ((65536:Int)<(n:Int))=false:=by simp;omega
 have C:=hid (contains15n xs a n c w hF hn (by omega) hW)
 rw [ha] at C;clear hm0 hm4 hF hn hb hW ha;go_enter Tryz.func23,Tryz.ntmps23
 go_wp2_with fail
 refine C.out.mono ?_;rintro r u ⟨rfl,hb⟩;go_wp2
 go_ret2
 exact ⟨rfl,hb⟩
theorem Median_mid (xs:List Nat) (a:Option Addr) (n c:Nat) (mode:Int) (w:World) (hT:Tab w) (hF:Fs w.heap.size w a xs) (hn:n=xs.length) (hW:W64 xs) (ha:xs.any nanW=false) (h1:1≤n) (h2:n≤65536) (hm0:0≤mode) (hm4:mode≤4) (z:Nat) (ez:Int) (hz:midW ((sortL xs).getD ((n-1)/2) 0) ((sortL xs).getD (n/2) 0) mode=(z,ez)) :
 Calls Tryz.prog 23 #[.slice a n c,.int .i64 mode] w fun r w'=>r=.returned (.tuple #[.float .f64 z,.int .i64 ez])∧Below w.heap.size w w':=by
 have d1:decide (mode<0)=false:=decide_eq_false (by omega)
 have d2:decide (4<mode)=false:=decide_eq_false (by omega)
 have d3:decide ((65536:Int)<(n:Int))=false:=by simp;omega
 have d4:((n:Int)==0)=false:=by simp;omega
 have C1:=hid (contains15n xs a n c w hF hn (by omega) hW)
 rw [ha] at C1;have C2:=hid (fun (u:World) (hu:Below w.heap.size w u)=>Sort15 xs a n c u ((hF.below hu).mono hu.size) hn (by omega) hW)
 obtain ⟨n1,e1⟩:∃ k,k=n-1:=⟨_,rfl⟩;obtain ⟨i,ei⟩:∃ k,k=n1/2:=⟨_,rfl⟩;obtain ⟨j,ej⟩:∃ k,k=n/2:=⟨_,rfl⟩;rw [←e1,←ei,←ej] at hz;have hi:i<xs.length:=by omega
 have hj:j<xs.length:=by omega
 obtain ⟨k1,l1⟩:=sort_ky hW hi;obtain ⟨k2,l2⟩:=sort_ky hW hj;have m1:=(sort_nn ha hi).1;have m2:=(sort_nn ha hj).1;have ho:tk ((sortL xs).getD i 0)≤tk ((sortL xs).getD j 0):=by rw [k1,k2];exact kyR_mono (by omega) hj
 obtain ⟨x,hx⟩:∃ x,x=(sortL xs).getD i 0:=⟨_,rfl⟩;obtain ⟨y,hy⟩:∃ y,y=(sortL xs).getD j 0:=⟨_,rfl⟩;rw [←hx] at m1 l1 ho hz;rw [←hy] at m2 l2 ho hz;have C3:=hid (fun (u:World) (hu:Below w.heap.size w u)=>middle15 x y l1 l2 m1 m2 ho mode u (hT.belows hu))
 rw [hz] at C3;have w1:IntKind.i64.wrap ((n:Int)-1)=(n1:Int):=wrapZ (by omega) (by omega)
 have w2:Int.tdiv (n1:Int) 2=(i:Int):=by rw [ei];rfl
 have w3:Int.tdiv (n:Int) 2=(j:Int):=by rw [ej];rfl
 have w4:IntKind.i64.wrap (i:Int)=(i:Int):=wrapZ rfl (by omega)
 have w5:IntKind.i64.wrap (j:Int)=(j:Int):=wrapZ rfl (by omega)
 have w6:((n:Int)-1)=(n1:Int):=by omega
 have w7:IntKind.i64.wrap (n1:Int)=(n1:Int):=wrapZ rfl (by omega)
 have hin:(i:Int)<(n:Int):=by omega
 have hjn:(j:Int)<(n:Int):=by omega
 have hi0:(0:Int)≤(i:Int):=by omega
 have hj0:(0:Int)≤(j:Int):=by omega
 have HX:=(qsd (ai hx (ai hy (ai hi (ai hj hn)))));clear hT hF hW ha h1 h2 hm0 hm4 e1 ei ej m1 m2 hx hy hi hj hn k1 k2 l1 l2 ho hz;go_enter Tryz.func23,Tryz.ntmps23
 go_wp2_with fail
 refine C1.out.mono ?_;rintro r u ⟨rfl,hb⟩;have HB:=qsd hb;have C:=hid (C2.out _ hb);clear hb C1 C2
 go_wp2_with fail
 refine C.out.mono ?_;rintro r u2 ⟨rfl,hO,hb⟩;replace HB:=qsd (HB.out.trans (hb.mono HB.out.size));obtain ⟨b,hb0⟩:∃ b,b=u.heap.size:=⟨_,rfl⟩;rw [←hb0] at hO ⊢
 have c1:u2.cell? ⟨b,i,none⟩=some (.float .f64 x):=by
  have:=hO.cell i (by rw [sortL_len];exact HX.out.2.2.1)
  rw [this,HX.out.1]
 have c2:u2.cell? ⟨b,j,none⟩=some (.float .f64 y):=by
  have:=hO.cell j (by rw [sortL_len];exact HX.out.2.2.2.1)
  rw [this,HX.out.2.1]
 have HD:Aside (Below w.heap.size w u2.drew):=⟨HB.out.os,HB.out.tape,HB.out.output,HB.out.size,HB.out.block⟩;have kS:Aside (u2.drew.cell? ⟨b,i,none⟩=some (.float .f64 x)∧u2.drew.cell? ⟨b,j,none⟩=some (.float .f64 y)):=⟨c1,c2⟩;have HLt:=qsd hO.lt;clear hO hb hb0 C
 go_upto_region 10 with fail
 go_region_held3 (fun w'=>w'.cell? ⟨b,i,none⟩=some (.float .f64 x)∧w'.cell? ⟨b,j,none⟩=some (.float .f64 y)) (with_reducible exact kS.out) (first
  | (go_at_call 42
     with_reducible refine (C3.out _ HD.out).mono ?_
     rintro r v ⟨rfl,hb⟩;have HZ:=qsd (HD.out.trans (hb.mono HD.out.size))
     have kS:Aside (v.cell? ⟨b,i,none⟩=some (.float .f64 x)∧v.cell? ⟨b,j,none⟩=some (.float .f64 y)):=by
      have e:=hb.block b HLt.out;exact ⟨(World.cell?_of_block (a:=⟨b,i,none⟩) e).trans kS.out.1,(World.cell?_of_block (a:=⟨b,j,none⟩) e).trans kS.out.2⟩
     clear hb))
 all_goals
  go_wp2_with fail
  go_ret2
  exact ⟨rfl,HZ.out⟩
theorem Median15 (xs:List Nat) (a:Option Addr) (n c:Nat) (mode:Int) (w:World) (hT:Tab w) (hF:Fs w.heap.size w a xs) (hn:n=xs.length) (hW:W64 xs) :
 Calls Tryz.prog 23 #[.slice a n c,.int .i64 mode] w fun r w'=>r=.returned (.tuple #[.float .f64 (medR xs mode).1,.int .i64 (medR xs mode).2])∧Below w.heap.size w w':=by
 unfold medR
 by_cases h1:mode<0∨4<mode
 · rw [if_pos h1];exact Median_mode a n c mode w h1
 · rw [if_neg h1]
   by_cases h2:65536<xs.length
   · rw [if_pos h2];exact Median_long a n c mode w (by omega) (by omega) (by omega)
   · rw [if_neg h2]
     by_cases h3:xs.any nanW=true
     · rw [if_pos h3];exact Median_odd xs a n c mode w (by omega) (by omega) hF hn (by omega) hW h3
     · rw [if_neg h3]
       have h3':xs.any nanW=false:=by simpa using h3
       by_cases h4:xs.length=0
       · rw [if_pos h4]
         obtain rfl:n=0:=by omega
         exact Median_none a c mode w (by omega) (by omega)
       · rw [if_neg h4,←hn]
         exact Median_mid xs a n c mode w hT hF hn hW h3' (by omega) (by omega) (by omega) (by omega) _ _ rfl
end
section
open Go Go.RowKit J
def five15:List Nat:=[4619567317775286272,4617315517961601024,4619567317775286272,4619567317775286272,4621256167635550208]
theorem row_eq15 {xs M:List Nat}(hP:M.Perm (List.range xs.length)) (hU:M.Pairwise (fun a b=>leI xs a b=true)):M=rowL xs :=
 List.Perm.eq_of_pairwise (le:=fun a b=>leI xs a b=true) (fun a b ha hb h1 h2=>leI_anti xs a b h1 h2) hU (rowI_sorted xs _) (hP.trans (rowL_perm xs).symm)
theorem row5:rowL five15=[1,0,2,3,4]:=(row_eq15 (by decide) (by decide +kernel)).symm
theorem sort5:sortL five15=[4617315517961601024,4619567317775286272,4619567317775286272,4619567317775286272,4621256167635550208]:=by
 unfold sortL;rw [row5]
 decide +kernel
theorem place5:eachL five15 (fun k=>k)=[1,0,2,3,4]:=by
 unfold eachL plI;rw [row5]
 decide +kernel
theorem eachL_get {xs:List Nat}(f:Nat→Nat) {i:Nat}(h:i<xs.length):(eachL xs f).getD i 0=f (plI xs i):=by
 unfold eachL;rw [List.getD_eq_getElem?_getD,List.getElem?_map,List.getElem?_range h]
 rfl
theorem rank5:(rkL five15 2).getD 0 0=4613937818241073152∧(rkL five15 2).length=5:=by
 refine ⟨?_,by unfold rkL;rw [eachL_len];rfl⟩
 have e:(rkL five15 2).getD 0 0=rkW 2 (rnR five15 (plI five15 0)).1 (rnR five15 (plI five15 0)).2.1 (rnR five15 (plI five15 0)).2.2 (plI five15 0):=by
  unfold rkL;exact eachL_get _ (by decide)
 have p:plI five15 0=1:=by unfold plI;rw [row5];rfl
 have q:rnR five15 1=(1,3,1):=by
  unfold rnR enR;have k:∀ i,kyR five15 i=tk (five15.getD ([1,0,2,3,4].getD i 0) 0):=fun i=>by unfold kyR;rw [row5]
  have s0:stR five15 1=(1,1):=by
   show (if kyR five15 1=kyR five15 0 then stR five15 0 else (1,(stR five15 0).2+1))=_
   rw [k,k,if_neg (by decide +kernel)]
   rfl
  have hB:Bh five15 1 4:=by
   refine ⟨by decide,by decide,fun j h1 h2=>?_,fun _=>?_⟩
   · obtain rfl | rfl | rfl:j=1∨j=2∨j=3:=by omega
     · rfl
     all_goals (rw [k,k];decide +kernel)
   · rw [k,k];decide +kernel
  have:=hB.en (p:=1) (by decide) (by decide)
  unfold enR at this;rw [s0,this];rfl
 rw [e,p,q]
 show hvW ((6:Nat):Int)=_
 have h:=hv_even 3 (by decide) (by decide)
 rw [show ((6:Nat):Int)=2*3 by rfl,h]
 decide +kernel
theorem med2:medR [4607182418800017408,4611686018427387904] 0=(4609434218613702656,0):=by
 have e:rowL [4607182418800017408,4611686018427387904]=[0,1]:=(row_eq15 (by decide) (by decide +kernel)).symm
 have s:sortL [4607182418800017408,4611686018427387904]=[4607182418800017408,4611686018427387904]:=by
  unfold sortL;rw [e]
  decide +kernel
 unfold medR;rw [if_neg (by decide),if_neg (by decide),if_neg (by decide +kernel),if_neg (by decide),s]
 show midW 4607182418800017408 4611686018427387904 0=_
 unfold midW;rw [if_neg (by decide),if_neg (by decide +kernel),if_neg (by decide +kernel),if_neg (by decide +kernel)]
 decide +kernel
theorem med0:medR [] 0=(0,3):=by
 unfold medR;rw [if_neg (by decide),if_neg (by decide),if_neg (by decide),if_pos (show ([]:List Nat).length=0 from rfl)]
end
section
open Go Go.RowKit J
attribute [local go_sem] st_float
theorem lit15 (w:World) (xs:List Nat) (g:Nat) (hg:g=w.heap.size):Fs (w.alloc (Obj.cells (xs.map fun x=>Value.float .f64 x).toArray 40)).heap.size (w.alloc (Obj.cells (xs.map fun x=>Value.float .f64 x).toArray 40)) (some ⟨g,0,none⟩) xs:=by
 intro _;refine ⟨g,0,by simp;omega,rfl,fun i hi=>?_⟩
 rw [hg,World.cell?_alloc_new,Nat.zero_add,List.getElem?_toArray,List.getElem?_map,List.getD_eq_getElem?_getD,List.getElem?_eq_getElem hi]
 rfl
theorem awake15 (w:World) (hT:Tab w):Calls Tryz.prog 7 #[] w fun r w'=>r=.returned (.bool true)∧Below w.heap.size w w':=by
 have o5:(FloatKind.f64.format.order 4617315517961601024 4617315517961601024==some .eq)=true:=by decide +kernel
 have o9:(FloatKind.f64.format.order 4621256167635550208 4621256167635550208==some .eq)=true:=by decide +kernel
 have o3:(FloatKind.f64.format.order 4613937818241073152 4613937818241073152==some .eq)=true:=by decide +kernel
 have o15:(FloatKind.f64.format.order 4609434218613702656 4609434218613702656==some .eq)=true:=by decide +kernel
 obtain ⟨W1,hW1⟩:∃ W,W=w.alloc (Obj.cells #[.float .f64 4619567317775286272,.float .f64 4617315517961601024,.float .f64 4619567317775286272,.float .f64 4619567317775286272,.float .f64 4621256167635550208] 40):=⟨_,rfl⟩;obtain ⟨g,hg⟩:∃ g,g=w.heap.size:=⟨_,rfl⟩
 have B1:Aside (Below w.heap.size w W1∧Fs W1.heap.size W1 (some ⟨g,0,none⟩) five15):=by
  rw [hW1];exact ⟨below_alloc _ _,lit15 w five15 _ hg⟩
 have hW:W64 five15:=by unfold W64;decide
 have HX:Aside (∀ u,Below W1.heap.size W1 u→Fs u.heap.size u (some ⟨g,0,none⟩) five15):=fun u hu=>(B1.out.2.below hu).mono hu.size
 have HT:=(qsd (ai hT hW));have HW1:=(qsd (ai hW1 hg));have C1:=hid (Sort15 five15 (some ⟨g,0,none⟩) 5 5 W1 B1.out.2 rfl (by decide) hW)
 have C2:=hid (fun (u:World) (hu:Below W1.heap.size W1 u)=>Places15 five15 (some ⟨g,0,none⟩) 5 5 u (HX.out u hu) rfl (by decide) hW)
 have C3:=hid (fun (u:World) (hu:Below W1.heap.size W1 u)=>Ranks15 five15 (some ⟨g,0,none⟩) 5 5 2 u (HX.out u hu) rfl (by decide) hW (by decide) (by decide))
 have C4:=hid (fun (u:World) (hu:Below W1.heap.size W1 u)=>Pick15 five15 (some ⟨g,0,none⟩) 5 5 0 u (HX.out u hu) rfl (by decide) hW (by decide))
 rw [show (sortL five15).getD 0 0=4617315517961601024 by rw [sort5];rfl] at C4
 have C6:=hid (fun (u:World) (hu:Below w.heap.size w u)=>Median15 [] none 0 0 0 u (hT.belows hu) (Fs.nil _ _ _) rfl (fun x hx=>by cases hx))
 rw [med0] at C6;have C5:=hid (fun (u:World) (hT':Tab u) (a:Option Addr) (hF:Fs u.heap.size u a [4607182418800017408,4611686018427387904])=>Median15 [4607182418800017408,4611686018427387904] a 2 2 0 u hT' hF rfl (by unfold W64;decide))
 rw [med2] at C5;simp only at C4 C5 C6;clear hW1 hT hg hW HX;go_enter Tryz.func7,Tryz.ntmps7
 go_wp2_with fail
 rw [←HW1.out.1,←HW1.out.2];refine C1.out.mono ?_;rintro r u1 ⟨rfl,e1,hb1⟩;obtain ⟨g1,hg1⟩:∃ x,x=W1.heap.size:=⟨_,rfl⟩;rw [←hg1] at e1 ⊢;have B2:Aside (Below W1.heap.size W1 u1∧OwnF u1 g1 (sortL five15)):=⟨hb1,e1⟩;clear hb1 C1 e1 hg1;have C:=hid (C2.out _ B2.out.1)
 go_wp2_with fail
 refine C.out.mono ?_;rintro r u2 ⟨g2,rfl,e2,hb2,_⟩;have B3:Aside (Below W1.heap.size W1 u2∧OwnF u2 g1 (sortL five15)∧OwnI u2 g2 (eachL five15 fun k=>k)):=⟨B2.out.1.trans (hb2.mono B2.out.1.size),B2.out.2.below hb2 B2.out.2.lt,e2⟩
 clear hb2 C C2 B2 e2;have C:=hid (C3.out _ B3.out.1)
 go_wp2_with fail
 refine C.out.mono ?_;rintro r u3 ⟨g3,rfl,e3,hb3,_⟩;have B4:Aside (Below W1.heap.size W1 u3∧OwnF u3 g1 (sortL five15)∧OwnI u3 g2 (eachL five15 fun k=>k)∧OwnF u3 g3 (rkL five15 2)):=⟨B3.out.1.trans (hb3.mono B3.out.1.size),B3.out.2.1.below hb3 B3.out.2.1.lt,B3.out.2.2.below hb3 B3.out.2.2.lt,e3⟩
 clear hb3 C C3 B3 e3;have C:=hid (C4.out _ B4.out.1)
 go_wp2_with fail
 refine C.out.mono ?_;rintro r u4 ⟨rfl,hb4⟩;obtain ⟨W5,hW5⟩:∃ W,W=u4.alloc (Obj.cells #[.float .f64 4607182418800017408,.float .f64 4611686018427387904] 40):=⟨_,rfl⟩;obtain ⟨g5,hg5⟩:∃ g,g=u4.heap.size:=⟨_,rfl⟩;have ba:Below u4.heap.size u4 W5:=by rw [hW5];exact below_alloc _ _
 have f5:Fs W5.heap.size W5 (some ⟨g5,0,none⟩) [4607182418800017408,4611686018427387904]:=by rw [hW5];exact lit15 u4 _ _ hg5
 have B5:Aside (Below W1.heap.size W1 W5∧OwnF W5 g1 (sortL five15)∧OwnI W5 g2 (eachL five15 fun k=>k)∧OwnF W5 g3 (rkL five15 2)):=by
  obtain ⟨h1,h2,h3,h4⟩:=B4.out;have hs:=hb4.size;exact ⟨(h1.trans (hb4.mono h1.size)).trans (ba.mono (by have:=h1.size;omega)),(h2.below hb4 h2.lt).below ba (by have:=h2.lt;omega),(h3.below hb4 h3.lt).below ba (by have:=h3.lt;omega),(h4.below hb4 h4.lt).below ba (by have:=h4.lt;omega)⟩
 have C:=hid (C5.out W5 ((HT.out.1.belows B1.out.1).belows B5.out.1) _ f5);have HW5:=(qsd (ai hW5 hg5));clear hb4 C4 B4 hW5 hg5 ba f5 C5
 go_wp2_with fail
 rw [←HW5.out.1,←HW5.out.2];refine C.out.mono ?_;rintro r u5 ⟨rfl,hb5⟩
 have B6:Aside (Below W1.heap.size W1 u5∧OwnF u5 g1 (sortL five15)∧OwnI u5 g2 (eachL five15 fun k=>k)∧OwnF u5 g3 (rkL five15 2)):=by
  obtain ⟨h1,h2,h3,h4⟩:=B5.out;exact ⟨h1.trans (hb5.mono h1.size),h2.below hb5 h2.lt,h3.below hb5 h3.lt,h4.below hb5 h4.lt⟩
 clear hb5 C B5;have C:=hid (C6.out _ (B1.out.1.trans (B6.out.1.mono B1.out.1.size)))
 go_wp2_with fail
 refine C.out.mono ?_;rintro r u6 ⟨rfl,hb6⟩;have HB:Aside (Below w.heap.size w u6):=(B1.out.1.trans (B6.out.1.mono B1.out.1.size)).trans (hb6.mono (Nat.le_trans B1.out.1.size B6.out.1.size));obtain ⟨h1,h2,h3,h4⟩:=B6.out;have i1:=h2.below hb6 h2.lt;have i2:=h3.below hb6 h3.lt;have i3:=h4.below hb6 h4.lt;have s0:=i1.cell 0 (by rw [sortL_len];decide)
 have s4:=i1.cell 4 (by rw [sortL_len];decide)
 have p0:=i2.cell 0 (by rw [eachL_len];decide)
 have p1:=i2.cell 1 (by rw [eachL_len];decide)
 have r0:=i3.cell 0 (by rw [rank5.2];decide)
 rw [sort5] at s0 s4;rw [place5] at p0 p1;rw [rank5.1] at r0;have s0':u6.cell? ⟨g1,0,none⟩=some (.float .f64 4617315517961601024):=s0;have s4':u6.cell? ⟨g1,4,none⟩=some (.float .f64 4621256167635550208):=s4;have p0':u6.cell? ⟨g2,0,none⟩=some (.int .i64 1):=p0;have p1':u6.cell? ⟨g2,1,none⟩=some (.int .i64 0):=p1;clear C C6 B6 h1 h2 h3 h4 i1 i2 i3 s0 s4 p0 p1 hb6 B1;go_wp2;go_ret;exact ⟨rfl,HB.out⟩
end
section
open Go.RowKit J
attribute [local go_sem] st_float
theorem wpList_append10 {w:World}{ops:Array Oper}{rest:List Oper}{o:Oper}{a:Act}{Q:Exit→Act→World→Prop}(hgd:o.guard=none) (s x:Operand) (t:TypeId)
 (ho:o.op=.call { callee:=.builtin .append,args:=#[s,x],argTypes:=#[t,t] }) (v u:Value) (hs:a.eval s=v) (hx:a.eval x=u) (v':Value) (w':World)
 (hrun:(Builtin.append_ #[t,t] o.type #[v,u]).run Tryz.prog w=.ok v' w') (h:wpList Tryz.prog ops Q rest (a.put o.dst v') w'):wpList Tryz.prog ops Q (o::rest) a w:=by
 refine wpList_plain hgd fun K hK=>?_
 unfold Oper.wp;simp [execOp,ho,resolve,invoke,builtin,hs,hx,hrun,Result.andThen];exact hK _ _ h
theorem append10 (lo:Nat) (v:Value) (K:List Nat) (x:Nat) (w:World) (hb:w.ownsRow lo 40 1 v K.length (K.map Fw10)) (hlo:lo≤w.heap.size) (hk:K.length≤1000000) :
 ∃ v' w',(Builtin.append_ #[22,22] 22 #[v,.slice (some ⟨w.heap.size,0,none⟩) 1 1]).run Tryz.prog (w.alloc (.cells #[.float .f64 x] 40))=.ok v' w'∧w'.ownsRow lo 40 1 v' (K++[x]).length ((K++[x]).map Fw10)∧Below lo w w'∧w.heap.size≤w'.heap.size:=by
 obtain ⟨i0,hi,hz0,hz1,hz2⟩:=info_parts Tryz.info_f64;obtain ⟨W,hW⟩:∃ W,W=w.alloc (.cells #[.float .f64 x] 40):=⟨_,rfl⟩;have hcx:W.cell? ⟨w.heap.size,0,none⟩=some (.float .f64 x):=by subst hW;unfold World.cell?;simp only [heap_alloc_new];rfl
 have hWb:W.ownsRow lo 40 1 v K.length (K.map Fw10):=by subst hW;exact World.ownsRow.alloc hb _
 have hWs:w.heap.size≤W.heap.size:=by subst hW;simp
 obtain ⟨v',w',r1,r2,r3,_,r5⟩:=run_append_own_at (P:=Tryz.prog) W lo 22 22 40 i0 (.float .f64 0) 1 8 Tryz.und_floats hi hz0 hz1 hz2 rfl (by decide) v K.length (K.map Fw10) hWb ⟨w.heap.size,0,none⟩ 1 1 [.float .f64 x] rfl (by
  intro j u hj
  match j,hj with
  | 0,hj=>simp at hj;subst hj;simpa [Addr.add] using hcx) (by intro u hu;simp at hu;subst hu;rfl) (by unfold maxLen;omega) (by omega) (by omega)
 rw [←hW];refine ⟨v',w',r1,?_,?_,?_⟩
 · rw [List.length_append,List.map_append];exact r2
 · have hlw:Below lo w W:=by subst hW;exact (Below.refl _ _).alloc hlo _
   refine ⟨r3.os.trans hlw.os,r3.tape.trans hlw.tape,r3.output.trans hlw.output,Nat.le_trans hlw.size r3.size,fun k hkl=>?_⟩
   rw [r3.block k (by omega) (fun e=>by
    rcases hWb.2 with ⟨e2,_⟩|⟨g,cap,cur,e2,hlo2,_⟩
    · rw [e2] at e;simp [Value.ownBlock] at e
    · rw [e2] at e;simp [Value.ownBlock] at e;omega)]
   exact hlw.block k hkl
 · exact Nat.le_trans hWs r3.size
theorem own_fs10 {w:World}{lo n:Nat}{v:Value}{xs:List Nat}(h:w.ownsRow lo 40 1 v n (xs.map Fw10)) (hn:n=xs.length):∃ a c,v=.slice a n c∧n≤c∧Fs w.heap.size w a xs:=by
 have h':=h
 rcases h.2 with ⟨rfl,hn0⟩|⟨g,cap,cur,rfl,hlo,hg,hn1,hm,hs,ht⟩
 · have e:xs=[]:=List.eq_nil_of_length_eq_zero (by rw [←hn];simpa using hn0)
   subst e;have:n=0:=by simpa using hn
   subst this;exact ⟨none,0,rfl,Nat.le_refl _,Fs.nil _ _ _⟩
 · refine ⟨some ⟨g,0,none⟩,cap,rfl,hn1,fun _=>⟨g,0,(Array.getElem?_eq_some_iff.1 hg).1,rfl,fun i hi=>?_⟩⟩
   have:=World.ownsRow.cellAt h' i (by omega)
   rw [Nat.zero_add,this,List.getElem?_map,List.getElem?_eq_getElem hi,List.getD_eq_getElem?_getD,List.getElem?_eq_getElem hi]
   rfl
end
section
open Go Go.RowKit J
open Go.Proofs.YtihjfhpoiheomaaGreatDoor.B (f64bits f64frombits)
attribute [local go_sem] st_float f64bits f64frombits
theorem rBitsN15 {x:Nat}(hx:x<18446744073709551616) (w:World):Calls Tryz.prog 47 #[.float .f64 x] w fun r w'=>r=.returned (.int .u64 (nrm x:Nat))∧w'=w:=rBits10 hx w
theorem rplace15 {x:Nat}(hx:x<18446744073709551616) (w:World) :
 Calls Tryz.prog 46 #[.float .f64 x] w fun r w'=>r=.returned (.int .i64 (tk x))∧w'=w:=by
 have HB:=hid (rBitsN15 hx w);have hn:=nrm_lt15 hx
 have ht:tk x=if 9223372036854775808≤nrm x then -1-((nrm x:Int)-9223372036854775808) else nrm x:=by
  unfold tk nrm nanW oddW negW magW
  by_cases a:9218868437227405312<x%9223372036854775808 <;> by_cases c:9223372036854775808≤x <;> simp only [a,c,decide_true,decide_false,if_true,if_false,Bool.false_eq_true] <;> omega
 rw [ht];generalize nrm x=y at *;clear ht
 by_cases h:9223372036854775808≤y
 · have e1:IntKind.u64.wrap ((y:Int)-9223372036854775808)=(y:Int)-9223372036854775808:=by rw [IntKind.wrap_u64];omega
   have e2:IntKind.i64.wrap ((y:Int)-9223372036854775808)=(y:Int)-9223372036854775808:=by rw [IntKind.wrap_i64];omega
   have e3:IntKind.i64.wrap (-1-((y:Int)-9223372036854775808))=-1-((y:Int)-9223372036854775808):=by rw [IntKind.wrap_i64];omega
   have d1:decide ((9223372036854775808:Int)≤(y:Int))=true:=by simp;omega
   rw [if_pos h];go_enter Tryz.func46,Tryz.ntmps46
   go_wp2_with (go_at_call 47;refine HB.out.mono ?_;rintro r w1 ⟨rfl,rfl⟩)
   go_ret
   first | exact ⟨rfl,rfl⟩ | exact ⟨by simp [e1,e2,e3],rfl⟩
 · have e2:IntKind.i64.wrap ((y:Int))=(y:Int):=by rw [IntKind.wrap_i64];omega
   have d1:decide ((9223372036854775808:Int)≤(y:Int))=false:=by simp;omega
   rw [if_neg h];go_enter Tryz.func46,Tryz.ntmps46
   go_wp2_with (go_at_call 47;refine HB.out.mono ?_;rintro r w1 ⟨rfl,rfl⟩)
   go_ret
   first | exact ⟨rfl,rfl⟩ | exact ⟨by simp [e2],rfl⟩
theorem rOrder15 {x y:Nat}(hx:x<18446744073709551616) (hy:y<18446744073709551616) (w:World) :
 Calls Tryz.prog 27 #[.float .f64 x,.float .f64 y] w fun r w'=>r=.returned (.int .i64 (B.oc (tk x) (tk y)))∧w'=w:=by
 have H1:=hid (rplace15 hx w);have H2:=hid (rplace15 hy w);generalize tk x=a at *;generalize tk y=b at *;unfold B.oc
 by_cases h1:a<b
 · have d1:decide (a<b)=true:=by simp [h1]
   rw [if_pos h1];go_enter Tryz.func27,Tryz.ntmps27
   go_wp2_with (go_at_call 46;first | (with_reducible refine H1.out.mono ?_;rintro r w1 ⟨rfl,rfl⟩) | (with_reducible refine H2.out.mono ?_;rintro r w1 ⟨rfl,rfl⟩))
   go_ret;exact ⟨rfl,rfl⟩
 · have d1:decide (a<b)=false:=by simp [h1]
   rw [if_neg h1]
   by_cases h2:b<a
   · have d2:decide (b<a)=true:=by simp [h2]
     rw [if_pos h2];go_enter Tryz.func27,Tryz.ntmps27
     go_wp2_with (go_at_call 46;first | (with_reducible refine H1.out.mono ?_;rintro r w1 ⟨rfl,rfl⟩) | (with_reducible refine H2.out.mono ?_;rintro r w1 ⟨rfl,rfl⟩))
     go_ret;exact ⟨rfl,rfl⟩
   · have d2:decide (b<a)=false:=by simp [h2]
     rw [if_neg h2];go_enter Tryz.func27,Tryz.ntmps27
     go_wp2_with (go_at_call 46;first | (with_reducible refine H1.out.mono ?_;rintro r w1 ⟨rfl,rfl⟩) | (with_reducible refine H2.out.mono ?_;rintro r w1 ⟨rfl,rfl⟩))
     go_ret;exact ⟨rfl,rfl⟩
theorem cb_nrm {x:Nat}(hx:x<18446744073709551616):B.cb (negW x) (magW x/4503599627370496) (magW x%4503599627370496)=nrm x:=by
 obtain ⟨s,e,f,h1,h2,h3,rfl,rfl,rfl⟩:=bw15 hx;have hm:magW x<9223372036854775808:=by unfold magW;omega
 unfold B.cb nrm nanW
 by_cases h:9218868437227405312<magW x
 · have:9218868437227405312<x%9223372036854775808:=h
   rw [if_pos (by omega),if_pos (by simp [this])];rfl
 · have:¬ 9218868437227405312<x%9223372036854775808:=h
   rw [if_neg (by omega),if_neg (by simp [this]),←h3]
theorem rSame15 {x y:Nat}(hx:x<18446744073709551616) (hy:y<18446744073709551616) (w:World) :
 Calls Tryz.prog 28 #[.float .f64 x,.float .f64 y] w fun r w'=>r=.returned (.bool (decide (nrm x=nrm y)))∧w'=w:=by
 have a:=cb_nrm hx;have b:=cb_nrm hy;obtain ⟨s,e,f,h1,h2,h3,rfl,rfl,rfl⟩:=bw15 hx;obtain ⟨t,u,v,i1,i2,i3,rfl,rfl,rfl⟩:=bw15 hy;have h:=B.rSame_any (negW x) (negW y) _ _ _ _ h1 h2 i1 i2 w;rw [a,b,←h3,←i3] at h;exact h
theorem alike15 (x:Nat) (w:World):Calls Tryz.prog 26 #[.float .f64 x,.float .f64 x] w fun r w'=>r=.returned (.bool true)∧w'=w:=by
 go_enter Tryz.func26,Tryz.ntmps26;go_wp2;go_ret;exact ⟨by first | rfl | simp,rfl⟩
theorem alikeL15 (L:List Nat) (a b:Option Addr) (n c d:Nat) (w:World) (hn:n=L.length) (hl:n≤17592186044416) (h1:Fs w.heap.size w a L) (h2:Fs w.heap.size w b L) :
 Calls Tryz.prog 14 #[.slice a n c,.slice b n d] w fun r w'=>r=.returned (.bool true)∧Below w.heap.size w w':=by
 have hne:((n:Int) != n)=false:=by simp
 have HN:=(qsd (ai hn (ai h1 h2)));clear hn h1 h2;go_enter Tryz.func14,Tryz.ntmps14;go_wp2
 go_loopg [5] n (fun gk iv wr=>∃ k:Nat,gk+k=n∧iv=.int .i64 (k:Nat)∧Aside (Below w.heap.size w wr))
 case atStart=>exact ⟨0,by omega,by first | rfl | simp,Below.refl _ _⟩
 case round =>
  obtain ⟨k,hgk,rfl,HA⟩:=hrel
  by_cases hk:k<n
  · have hdk:decide ((k:Int)<(n:Int))=true:=by simp;omega
    have bk:(k:Int)<(n:Int):=by omega
    obtain ⟨k1,hk1⟩:∃ x,x=k+1:=⟨_,rfl⟩;have wk:IntKind.i64.wrap ((k:Int)+1)=(k1:Int):=wrapZ (by omega) (by omega)
    obtain ⟨b1,o1,rfl,c1⟩:=HN.out.2.1.at HA.out k (by rw [←HN.out.1];exact hk)
    obtain ⟨b2,o2,rfl,c2⟩:=HN.out.2.2.at HA.out k (by rw [←HN.out.1];exact hk)
    obtain ⟨x,hx⟩:∃ x,x=L.getD k 0:=⟨_,rfl⟩;rw [←hx] at c1 c2;have CA:=hid (fun v:World=>alike15 x v)
    have HD:Aside (∀ m,Below w.heap.size w (wr.drewN m)):=fun m=>by have h:=HA.out;exact ⟨h.os,h.tape,h.output,h.size,h.block⟩
    have HK:=qsd hk1;clear HA hx hk1
    go_wp2_with fail
    go_quiet (first | (go_at_call 26;exact Calls.quiet_of_same (CA.out _)))
    go_wp2
    go_roundg (n-k1)
    case measure=>have:=HK.out;omega
    case rel=>exact ⟨k1,by have:=HK.out;omega,by first | rfl | simp,HD.out _⟩
  · have hdk:decide ((k:Int)<(n:Int))=false:=by simp;omega
    go_wp2;go_ret;exact ⟨rfl,HA.out⟩
def turnL (xs:List Nat) (k:Nat):List Nat:=(xs.take (k+1)).reverse++(xs.drop (k+1)).reverse
theorem turn_perm15 (xs:List Nat) (k:Nat):(turnL xs k).Perm xs:=by
 unfold turnL;refine ((List.reverse_perm _).append (List.reverse_perm _)).trans ?_;rw [List.take_append_drop]
theorem turn_len (xs:List Nat) (k:Nat):(turnL xs k).length=xs.length:=(turn_perm15 xs k).length_eq
theorem turn_get {xs:List Nat}{k i:Nat}(hk:k<xs.length) (hi:i<xs.length):(turnL xs k).getD i 0=xs.getD ((k+xs.length-i)%xs.length) 0:=by
 have hl:((xs.take (k+1)).reverse).length=k+1:=by rw [List.length_reverse,List.length_take];omega
 unfold turnL
 by_cases h:i≤k
 · have e:(k+xs.length-i)%xs.length=k-i:=by
    rw [show k+xs.length-i=(k-i)+xs.length by omega,Nat.add_mod_right,Nat.mod_eq_of_lt (by omega)]
   rw [e,List.getD_eq_getElem?_getD,List.getD_eq_getElem?_getD,List.getElem?_append_left (by omega),List.getElem?_reverse (by rw [List.length_take];omega),List.length_take,List.getElem?_take,if_pos (by omega)]
   congr 2;omega
 · have e:(k+xs.length-i)%xs.length=k+xs.length-i:=Nat.mod_eq_of_lt (by omega)
   rw [e,List.getD_eq_getElem?_getD,List.getD_eq_getElem?_getD,List.getElem?_append_right (by omega),hl,List.getElem?_reverse (by rw [List.length_drop];omega),List.length_drop,List.getElem?_drop]
   congr 2;omega
theorem take_snoc15 {L:List Nat}{k:Nat}(h:k<L.length):L.take (k+1)=L.take k++[L.getD k 0]:=by
 rw [List.take_add_one,List.getElem?_eq_getElem h,List.getD_eq_getElem?_getD,List.getElem?_eq_getElem h];rfl
theorem w64n {n:Nat}(h:n≤1000000):RowKit.wrap64 (n:Int)=(n:Int):=IntWalk.wrap64_in _ (by omega)
theorem w64s {a n s:Nat}(h:s=a+n) (hs:s≤1000000):RowKit.wrap64 ((a:Int)+(n:Int))=(s:Int):=by
 have e:(a:Int)+(n:Int)=(s:Int):=by omega
 rw [e];exact w64n hs
theorem w64d {a n s:Nat}(h:s=a-n) (hn:n≤a) (hs:s≤1000000):RowKit.wrap64 ((a:Int)-(n:Int))=(s:Int):=by
 have e:(a:Int)-(n:Int)=(s:Int):=by omega
 rw [e];exact w64n hs
theorem w64t {n:Nat}{t:Int}(h:n≤65536) (h1:-(n:Int)<t) (h2:t<n):RowKit.wrap64 (t+(n:Int))=t+(n:Int):=IntWalk.wrap64_in _ (by omega)
theorem mod_nat (a n:Nat):Int.tmod (a:Int) (n:Int)=((a%n:Nat):Int):=rfl
theorem turned15 (xs:List Nat) (ao:Option Addr) (n cap:Nat) (fr:Int) (w:World) (h0:-9223372036854775808≤fr) (h1:fr≤9223372036854775807) (hF:Fs w.heap.size w ao xs) (hn:n=xs.length) (hl:n≤65536) :
 Calls Tryz.prog 29 #[.slice ao n cap,.int .i64 fr] w fun r w'=>(∃ k a c,r=.returned (.slice a n c)∧Fs w'.heap.size w' a (turnL xs k))∧Below w.heap.size w w':=by
 have HN:=(qsd (ai hn hF));clear hn hF
 obtain ⟨k0,hk0⟩:∃ k:Nat,0<n→((k:Int)=((fr.tmod n)+n).tmod n∧k<n∧-(n:Int)<fr.tmod n∧fr.tmod n<n):=by
  by_cases hp:0<n
  · have a1:=Int.tmod_lt_of_pos fr (show (0:Int)<n by omega)
    have a2:-(n:Int)<fr.tmod n:=by
     have:=Int.tmod_lt_of_pos (-fr) (show (0:Int)<n by omega)
     rw [Int.neg_tmod] at this;omega
    refine ⟨(((fr.tmod n)+n).tmod n).toNat,fun _=>?_⟩
    have b1:=Int.tmod_lt_of_pos ((fr.tmod n)+n) (show (0:Int)<n by omega)
    have b2:=Int.tmod_nonneg (n:Int) (show 0≤(fr.tmod n)+n by omega)
    refine ⟨by rw [Int.toNat_of_nonneg b2],by omega,a2,a1⟩
  · exact ⟨0,fun h=>absurd h hp⟩
 have HK0:=qsd hk0;clear hk0;go_enter Tryz.func29,Tryz.ntmps29;go_wp2
 go_loopg [5,7] n (fun gk ov iv wr=>∃ (i:Nat) (v:Value),gk+i=n∧iv=.int .i64 (i:Nat)∧ov=v∧Aside (wr.ownsRow w.heap.size 40 1 v ((turnL xs k0).take i).length (((turnL xs k0).take i).map Fw10)∧Below w.heap.size w wr))
 case atStart=>exact ⟨0,.slice none 0 0,by omega,by first | rfl | simp,rfl,by simpa using World.ownsRow_nil _ _ _ _,Below.refl _ _⟩
 case round =>
  obtain ⟨i,v,hgk,rfl,hv,HA⟩:=hrel;have hv':=hv.symm;clear hv;subst hv'
  by_cases hk:i<n
  · have hdk:decide ((i:Int)<(n:Int))=true:=by simp;omega
    obtain ⟨hn,hF⟩:=HN.out;have hp:0<n:=by omega
    have kb:k0<n:=(HK0.out hp).2.1;obtain ⟨s1,hs1⟩:∃ s:Nat,s=k0+n:=⟨_,rfl⟩;obtain ⟨s2,hs2⟩:∃ s:Nat,s=s1-i:=⟨_,rfl⟩;obtain ⟨i1,hi1⟩:∃ x,x=i+1:=⟨_,rfl⟩;have nz:((n:Int)==0)=false:=by simp;omega
    have nz2:¬ (n:Int)=0:=by omega
    have b1:s1≤1000000:=by omega
    have b2:i≤s1:=by omega
    have b3:s2≤1000000:=by omega
    have wk:IntKind.i64.wrap ((i:Int)+1)=(i1:Int):=wrapZ (by omega) (by omega)
    obtain ⟨m,hm⟩:∃ m:Nat,m=s2%n:=⟨_,rfl⟩;have hmn:m<n:=by rw [hm];exact Nat.mod_lt _ hp
    have V6:Aside (Int.tmod (s2:Int) (n:Int)=(m:Int)):=by rw [mod_nat,hm];exact qsd rfl
    have HM:Aside (m=(k0+n-i)%n):=by rw [hm,hs2,hs1];exact qsd rfl
    clear hm;have hmi:(m:Int)<(n:Int):=by omega
    have hm0:(0:Int)≤(m:Int):=by omega
    obtain ⟨b,off,rfl,hc⟩:=hF.at HA.out.2 m (by omega)
    obtain ⟨x,hx⟩:∃ x,x=xs.getD m 0:=⟨_,rfl⟩;rw [←hx] at hc;have et:(turnL xs k0).take i1=(turnL xs k0).take i++[x]:=by rw [hi1,take_snoc15 (by rw [turn_len];omega),turn_get (by omega) (by omega),←hn,←HM.out,hx]
    obtain ⟨v',w',r1,r2,r3,r4⟩:=append10 w.heap.size v ((turnL xs k0).take i) x wr HA.out.1 HA.out.2.size (by rw [List.length_take];omega)
    rw [←et] at r2;have HR:=qsd r1;have HX:=(qsd (ai r2 (ai (HA.out.2.trans r3) hi1)));obtain ⟨q1,q2,q3,q4⟩:=HK0.out hp;obtain ⟨t,ht⟩:∃ t,t=fr.tmod (n:Int):=⟨_,rfl⟩;rw [←ht] at q1 q3 q4;have v2':=w64t hl q3 q4;obtain ⟨t1,ht1⟩:∃ t1,t1=t+(n:Int):=⟨_,rfl⟩;rw [←ht1] at q1;have v2:RowKit.wrap64 (t+(n:Int))=t1:=v2'.trans ht1.symm;have v1:fr.tmod (n:Int)=t:=ht.symm;have v3:Int.tmod t1 (n:Int)=(k0:Int):=q1.symm;have v6:=V6.out;have v4:RowKit.wrap64 ((k0:Int)+(n:Int))=(s1:Int):=w64s hs1 b1;have v5:RowKit.wrap64 ((s1:Int)-(i:Int))=(s2:Int):=w64d hs2 b2 b3;clear b1 b2 b3 r1 r2 r3 r4 et hx hmn hs1 hs2 ht ht1 q1 q2 q3 q4 hi1 HA hn hF h0 h1 v2' hp kb
    go_wp2_with (at_builtin;refine wpList_append10 rfl (.tmp 23) (.tmp 34) 22 rfl _ _ rfl rfl _ _ HR.out ?_)
    go_roundg (gk-1)
    case measure=>omega
    case rel=>exact ⟨i1,_,by have:=HX.out.2.2;omega,by first | rfl | simp,rfl,HX.out.1,HX.out.2.1⟩
  · have hdk:decide ((i:Int)<(n:Int))=false:=by simp;omega
    have hl2:(turnL xs k0).take i=turnL xs k0:=List.take_of_length_le (by rw [turn_len];have:=HN.out.1;omega)
    have HO:=HA.out.1;rw [hl2,turn_len,←HN.out.1] at HO;obtain ⟨a,c,rfl,_,hf⟩:=own_fs10 HO (by rw [turn_len];exact HN.out.1)
    have HF:=(qsd (ai hf HA.out.2));clear HO hf HA;go_wp2;go_ret;exact ⟨⟨k0,a,c,rfl,HF.out.1⟩,HF.out.2⟩
end
end Go.Proofs.YtihjfhpoiheomaaGreatDoor
