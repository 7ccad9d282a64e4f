import Derived.Test.YthfkleadcnkglaaGreatDoorO2x
import Derived.Test.YthfkleadcnkglaaGreatDoorD9x
import Derived.Test.YthfkleadcnkglaaGreatDoorM1x
import Derived.Test.YthfkleadcnkglaaGreatDoorW25x
import Derived.Laws.IdiomStrings
import Derived.Test.YthfkleadcnkglaaGreatDoorBW0x
import Derived.BigQuiet
import Derived.Deep.Cut
import Derived.Test.YthfkleadcnkglaaGreatDoorS11x
import Derived.Deep.RegionHeld3
import Derived.Deep.CutRange
import Derived.Test.YthfkleadcnkglaaGreatDoorD32bx
import Derived.Deep.OwnRows
import Derived.Deep.LoopGhost
import Derived.Test.YthfkleadcnkglaaGreatDoorD24x
import Derived.Laws.FloatArith
import Derived.ProofKit
import Derived.OpenShut
import Derived.ChangeOld
import Derived.SizedLaws
import Derived.ChangeArms
import Derived.KernelRfl
import Derived.ArgAppend
import Derived.Maps.AppendAt
import Derived.WalkMore
import Derived.OwnWalk
import Derived.Deep.RegionWith
import Derived.RangeFuncNested
import Derived.RangeFuncBound
import Derived.RangeFuncCalls
import Derived.RangeFuncLeaves
import Derived.RangeFuncBox
import Derived.Shelf.Abstract
import Derived.Shelf.RegionOpen
import Derived.WalkKit
import Derived.OwnWalkIn
import Derived.TacticsInMore
import Derived.LoopNIn
import Derived.LoopIn
import Derived.Test.YthfkleadcnkglaaGreatDoorW52x
import Derived.Laws.Cover2
set_option linter.unusedVariables false
set_option linter.unusedSimpArgs false
set_option maxHeartbeats 16000000
set_option maxRecDepth 20000
namespace Go.Proofs.YthfkleadcnkglaaGreatDoor
namespace J
end J
section
open Go.RowKit
def rd10 (V:Int) (s:Sp) (mode a b:Int):Nat×Int:=if 0<s.n∧a=2 then (0,60) else if 0<s.u+s.d∧b=2 then (0,61) else rd7 V s mode a b
theorem round10_ok (g:Nat) (V:Int) (s:Sp) (mode a b:Int) (w:World) (hA:Acc7 w g V s) (hs:s.ok) (hT:Tab w) (hm0:0≤mode) (hm1:mode≤4) (hab:may a b=true) (ha:¬ (0<s.n∧a=2)) (hb:¬ (0<s.u+s.d∧b=2)) :
 Calls Tryz.prog 39 #[.pointer (some ⟨g,0,none⟩),.int .i64 mode,.agg #[.int .i64 a,.int .i64 b]] w fun r w'=>r=.returned (.tuple #[.float .f64 (rd7 V s mode a b).1,.int .i64 (rd7 V s mode a b).2])∧Below w.heap.size w w':=by
 obtain ⟨⟨X,er⟩,hX⟩:∃ X,X=rd7 V s mode a b:=⟨_,rfl⟩;rw [←hX];simp only;have hb0:=bel_alloc w (Obj.cells #[.int .i64 a,.int .i64 b] 24);have HH:=hid (ahead10 g V s mode a b _ (hA.bel hb0) hs hm0 hm1 hab ha hb);have her:=ahd_er V s mode a b;unfold rd7 at hX;obtain ⟨⟨ax,at',ae⟩,hAh⟩:∃ Y,Y=ahd V s mode a b:=⟨_,rfl⟩;rw [←hAh] at HH her hX;simp only at HH her hX;subst her;have HX:=qsd hX;have HA:=qsd (ai hA (ai hT hb0));clear hA hT hb0 hX hAh hs hab ha hb;go_enter Tryz.func39,Tryz.ntmps39
 go_wp2_with fail
 refine HH.out.mono ?_;rintro r w1 ⟨rfl,hb1⟩;have B1:=qsd (HA.out.2.2.trans (hb1.mono HA.out.2.2.size));clear hb1
 cases at'
 · go_wp2_with fail
   refine (Exact7 g V s w1 (HA.out.1.bel B1.out) (HA.out.2.1.belows B1.out)).mono ?_;rintro r w2 ⟨v,rfl,hN,hb2⟩;obtain ⟨L,_,_,_,h0,h1,_⟩:=HA.out.1;obtain ⟨ad,c,rfl,AV⟩:=hN.arg (Nat.le_trans (dX_small h0 h1) (by decide))
   have HR:=hid (Round_any AV (HA.out.2.1.belows (B1.out.trans (hb2.mono B1.out.size))) (dN (exV V)) (dE (exV V)) mode (dE_small V).1 (dE_small V).2);rw [val_ws] at HR;have HX2:=HX.out;rw [if_neg (by decide)] at HX2
   rw [←HX2] at HR;simp only at HR;have B2:=qsd (B1.out.trans (hb2.mono B1.out.size));clear hN hb2 AV h0 h1 HX2
   go_wp2_with fail
   refine HR.out.mono ?_;rintro r w3 ⟨rfl,hb3⟩;have B3:=qsd hb3;clear hb3;go_wp2;refine bodyPost_ret (v:=.tuple #[.float .f64 X,.int .i64 er]) (by simp [results,Tryz.results39,go_sem]) rfl ?_
   exact ⟨rfl,B2.out.trans (B3.out.mono B2.out.size)⟩
 · go_wp2
   have HX2:=HX.out;rw [if_pos trivial] at HX2
   cases HX2
   refine bodyPost_ret (v:=.tuple #[.float .f64 X,.int .i64 0]) (by simp [results,Tryz.results39,go_sem]) rfl ?_
   exact ⟨rfl,B1.out⟩
theorem round10_nan (g:Nat) (mode a b:Int) (w:World)
 (HH:Hid (∀ u:World,Below w.heap.size w u→Calls Tryz.prog 86 #[.pointer (some ⟨g,0,none⟩),.int .i64 mode,.agg #[.int .i64 a,.int .i64 b]] u fun r w'=>r=.returned (.tuple #[.float .f64 0,.bool false,.int .i64 60])∧Below u.heap.size u w')) :
 Calls Tryz.prog 39 #[.pointer (some ⟨g,0,none⟩),.int .i64 mode,.agg #[.int .i64 a,.int .i64 b]] w fun r w'=>r=.returned (.tuple #[.float .f64 0,.int .i64 60])∧Below w.heap.size w w':=by
 have hb0:=qsd (bel_alloc w (Obj.cells #[.int .i64 a,.int .i64 b] 24));go_enter Tryz.func39,Tryz.ntmps39
 go_wp2_with fail
 refine (HH.out _ hb0.out).mono ?_;rintro r w1 ⟨rfl,hb1⟩;have B1:=qsd (hb0.out.trans (hb1.mono hb0.out.size));clear hb1 HH;go_wp2;refine bodyPost_ret (v:=.tuple #[.float .f64 0,.int .i64 60]) (by simp [results,Tryz.results39,go_sem]) rfl ?_
 exact ⟨rfl,B1.out⟩
theorem round10_inf (g:Nat) (mode a b:Int) (w:World)
 (HH:Hid (∀ u:World,Below w.heap.size w u→Calls Tryz.prog 86 #[.pointer (some ⟨g,0,none⟩),.int .i64 mode,.agg #[.int .i64 a,.int .i64 b]] u fun r w'=>r=.returned (.tuple #[.float .f64 0,.bool false,.int .i64 61])∧Below u.heap.size u w')) :
 Calls Tryz.prog 39 #[.pointer (some ⟨g,0,none⟩),.int .i64 mode,.agg #[.int .i64 a,.int .i64 b]] w fun r w'=>r=.returned (.tuple #[.float .f64 0,.int .i64 61])∧Below w.heap.size w w':=by
 have hb0:=qsd (bel_alloc w (Obj.cells #[.int .i64 a,.int .i64 b] 24));go_enter Tryz.func39,Tryz.ntmps39
 go_wp2_with fail
 refine (HH.out _ hb0.out).mono ?_;rintro r w1 ⟨rfl,hb1⟩;have B1:=qsd (hb0.out.trans (hb1.mono hb0.out.size));clear hb1 HH;go_wp2;refine bodyPost_ret (v:=.tuple #[.float .f64 0,.int .i64 61]) (by simp [results,Tryz.results39,go_sem]) rfl ?_
 exact ⟨rfl,B1.out⟩
theorem Round10 (g:Nat) (V:Int) (s:Sp) (mode a b:Int) (w:World) (hA:Acc7 w g V s) (hs:s.ok) (hT:Tab w) (hm0:0≤mode) (hm1:mode≤4) (hab:may a b=true) :
 Calls Tryz.prog 39 #[.pointer (some ⟨g,0,none⟩),.int .i64 mode,.agg #[.int .i64 a,.int .i64 b]] w fun r w'=>r=.returned (.tuple #[.float .f64 (rd10 V s mode a b).1,.int .i64 (rd10 V s mode a b).2])∧Below w.heap.size w w':=by
 unfold rd10
 by_cases h1:0<s.n∧a=2
 · rw [if_pos h1]
   exact round10_nan g mode a b w (hid fun u hb=>ahead10_nan g V s mode a b u (hA.bel hb) hs hm0 hm1 hab h1)
 · rw [if_neg h1]
   by_cases h2:0<s.u+s.d∧b=2
   · rw [if_pos h2]
     exact round10_inf g mode a b w (hid fun u hb=>ahead10_inf g V s mode a b u (hA.bel hb) hs hm0 hm1 hab h1 h2)
   · rw [if_neg h2]
     exact round10_ok g V s mode a b w hA hs hT hm0 hm1 hab h1 h2
theorem Exact10_any (xs:List Nat) (a:Option Addr) (n c:Nat) (mode pa pb:Int) (w:World) (hn:n=xs.length) (hF:Fs w.heap.size w a xs) (hW:W64 xs) (hT:Tab w) (hm0:0≤mode) (hm1:mode≤4) (hab:may pa pb=true) (hl:n≤65536) :
 Calls Tryz.prog 23 #[.slice a n c,.int .i64 mode,.agg #[.int .i64 pa,.int .i64 pb]] w fun r w'=>r=.returned (.tuple #[.float .f64 (rd10 (vS xs) (sS xs) mode pa pb).1,.int .i64 (rd10 (vS xs) (sS xs) mode pa pb).2])∧Below w.heap.size w w' :=
 exact_core xs a n c mode pa pb _ _ w hn hF hW hT hm0 hm1 hab hl (hid fun g u hA hs hT=>Round10 g (vS xs) (sS xs) mode pa pb u hA hs hT hm0 hm1 hab)
theorem Exact10_arg (a:Option Addr) (n c:Nat) (mode pa pb:Int) (w:World) (h:mode<0∨4<mode∨may pa pb=false) :
 Calls Tryz.prog 23 #[.slice a n c,.int .i64 mode,.agg #[.int .i64 pa,.int .i64 pb]] w fun r w'=>r=.returned (.tuple #[.float .f64 0,.int .i64 1])∧Below w.heap.size w w':=by
 have HM:=hid (fun u:World=>May_any pa pb u)
 by_cases h0:mode<0
 · have b0:decide (mode<0)=true:=by simpa using h0
   clear h h0 HM;go_enter Tryz.func23,Tryz.ntmps23;go_wp2
   go_ret2
   exact ⟨rfl,bel_alloc _ _⟩
 · have b0:decide (mode<0)=false:=by simp;omega
   by_cases h1:4<mode
   · have b1:decide (4<mode)=true:=by simpa using h1
     clear h h0 h1 HM;go_enter Tryz.func23,Tryz.ntmps23;go_wp2
     go_ret2
     exact ⟨rfl,bel_alloc _ _⟩
   · have b1:decide (4<mode)=false:=by simp;omega
     have hab:may pa pb=false:=by
      rcases h with h|h|h
      · exact absurd h h0
      · exact absurd h h1
      · exact h
     rw [hab] at HM;clear h h0 h1 hab;go_enter Tryz.func23,Tryz.ntmps23
     go_wp2_with fail
     refine (HM.out _).mono ?_;rintro r w1 ⟨rfl,hb1⟩;have B1:=qsd ((bel_alloc w (Obj.cells #[.int .i64 pa,.int .i64 pb] 24)).trans (hb1.mono (by simp)))
     clear hb1 HM;go_wp2
     go_ret2
     exact ⟨rfl,B1.out⟩
theorem Exact10_long (a:Option Addr) (n c:Nat) (mode pa pb:Int) (w:World) (hm0:0≤mode) (hm1:mode≤4) (hab:may pa pb=true) (hl:65536<n) :
 Calls Tryz.prog 23 #[.slice a n c,.int .i64 mode,.agg #[.int .i64 pa,.int .i64 pb]] w fun r w'=>r=.returned (.tuple #[.float .f64 0,.int .i64 2])∧Below w.heap.size w w':=by
 have HM:=hid (fun u:World=>May_any pa pb u)
 rw [hab] at HM;have b0:decide (mode<0)=false:=by simp;omega
 have b1:decide (4<mode)=false:=by simp;omega
 have b2:decide ((65536:Int)<(n:Int))=true:=by simp;omega
 clear hm0 hm1 hab hl;go_enter Tryz.func23,Tryz.ntmps23
 go_wp2_with fail
 refine (HM.out _).mono ?_;rintro r w1 ⟨rfl,hb1⟩;have B1:=qsd ((bel_alloc w (Obj.cells #[.int .i64 pa,.int .i64 pb] 24)).trans (hb1.mono (by simp)))
 clear hb1 HM;go_wp2
 go_ret2
 exact ⟨rfl,B1.out⟩
end
section
open Go.RowKit
theorem Nt.off {lo:Nat}{w w':World}{v:Value}{X g:Nat}(h:Nt lo w v X) (hb:But g w w') (hg:v.ownBlock≠Option.some g):Nt lo w' v X:=by
 refine ⟨h.1,?_⟩
 rcases h.2 with hn|⟨g',cap,cur,rfl,hlo,hg',rest⟩
 · exact .inl hn
 · refine .inr ⟨g',cap,cur,rfl,hlo,?_,rest⟩
   rw [hb.block g' (Array.getElem?_eq_some_iff.1 hg').1 (by intro e;subst e;exact hg (by simp [Value.ownBlock]))];exact hg'
end
section
open Go.RowKit
theorem bl_lt_pow {X k:Nat}(h:X<2^k):bl X≤k:=by
 by_cases h0:X=0
 · subst h0;rw [bl_zero];omega
 · have:=(Nat.pow_lt_pow_iff_right (a:=2) (by decide)).1 (Nat.lt_of_le_of_lt (bl_ge X h0) h)
   have:=bl_pos X h0;omega
end
section
open Go.RowKit
attribute [local go_sem] B.f64bits
end
section
open Go.RowKit
def Iv (o:Option (Bool×Nat×Int)) (lo hi:Int):Prop:=∃ n X e,o=some (n,X,e)∧Frm n X e∧(X=0∨(lo≤e∧e+(bl X:Int)≤hi))
theorem Iv.mono {o:Option (Bool×Nat×Int)}{a b c d:Int}(h:Iv o a b) (h1:c≤a) (h2:b≤d):Iv o c d:=by
 obtain ⟨n,X,e,h,F,hb⟩:=h;exact ⟨n,X,e,h,F,by omega⟩
theorem mkS_iv (n:Bool) (X:Nat) (e a b:Int) (h:X=0∨(a≤e∧e+(bl X:Int)≤b)) (hw:b-a≤262144) (ha:-1048576≤a) (hb:b≤1048576):Iv (mkS n X e) a b:=by
 by_cases h0:X=0
 · subst h0
   rw [mkS_zero];exact ⟨false,0,0,rfl,⟨.inr ⟨rfl,rfl,rfl⟩,by rw [bl_zero];omega,by omega,by omega⟩,.inl rfl⟩
 · obtain ⟨h1,h2⟩:=h.resolve_left h0
   obtain ⟨k,o1,o2,o3⟩:=odd_part X h0;have hp:=bl_pos (X/2^lo X) (by omega)
   have e1:mkS n X e=some (n,X/2^lo X,e+lo X):=by
    unfold mkS;rw [if_neg h0,if_neg (by omega)]
   exact ⟨n,_,_,e1,mkS_frm e1,.inr (by omega)⟩
theorem pow_bound {X k:Nat}{j:Nat}(h:bl X+k≤j):X*2^k<2^j:=by
 have h1:=bl_lt X;have h2:X*2^k<2^bl X*2^k:=Nat.mul_lt_mul_of_pos_right h1 (Nat.two_pow_pos k);rw [←Nat.pow_add] at h2;exact Nat.lt_of_lt_of_le h2 (Nat.pow_le_pow_right (by decide) h)
theorem addUp_iv (n m:Bool) (X Y:Nat) (e f a b:Int) (hfe:f≤e) (ha:a≤f) (h1:e+(bl X:Int)≤b) (h2:f+(bl Y:Int)≤b) (hw:b+1-a≤262144) (hl:-1048576≤a) (hh:b+1≤1048576) (hX:X≠0):Iv (addUp n X e m Y f) a (b+1):=by
 have hp:=bl_pos X hX;unfold addUp;rw [if_neg (by omega)]
 obtain ⟨j,hj⟩:∃ j:Nat,(j:Int)=b-f:=⟨(b-f).toNat,by omega⟩
 have b1:X*2^(e-f).toNat<2^j:=pow_bound (by omega)
 have b2:Y<2^j:=Nat.lt_of_lt_of_le (bl_lt Y) (Nat.pow_le_pow_right (by decide) (by omega))
 have fin:∀ (s:Bool) (Z:Nat),Z<2^(j+1)→Iv (mkS s Z f) a (b+1):=by
  intro s Z hZ;refine mkS_iv s Z f a (b+1) ?_ hw hl hh
  by_cases h0:Z=0
  · exact .inl h0
  · right
    have:=bl_lt_pow hZ;omega
 have b3:(2:Nat)^(j+1)=2*2^j:=by rw [Nat.pow_succ,Nat.mul_comm]
 split
 · exact fin _ _ (by omega)
 · split
   · exact fin _ _ (by omega)
   · exact fin _ _ (by omega)
theorem Iv.add {o p:Option (Bool×Nat×Int)}{a b:Int}(h1:Iv o a b) (h2:Iv p a b) (hw:b+1-a≤262144) (hl:-1048576≤a) (hh:b+1≤1048576):Iv (addD o p) a (b+1):=by
 have h1':=h1;have h2':=h2;obtain ⟨n,X,e,rfl,F,hx⟩:=h1;obtain ⟨m,Y,f,rfl,G,hy⟩:=h2
 show Iv (addF (n,X,e) (m,Y,f)) a (b+1)
 unfold addF;simp only
 by_cases hX:X=0
 · rw [if_pos hX];exact h2'.mono (by omega) (by omega)
 · rw [if_neg hX]
   by_cases hY:Y=0
   · rw [if_pos hY];exact h1'.mono (by omega) (by omega)
   · rw [if_neg hY]
     have ex:=hx.resolve_left hX;have ey:=hy.resolve_left hY
     split
     · exact addUp_iv m n Y X f e a b (by omega) ex.1 ey.2 ex.2 hw hl hh hY
     · exact addUp_iv n m X Y e f a b (by omega) ey.1 ex.2 ey.2 hw hl hh hX
def valO (o:Option (Bool×Nat×Int)):Int:=zv (-1048576) (dN o,dX o,dE o)
theorem fvO {o:Option (Bool×Nat×Int)}{n:Bool}{X:Nat}{e:Int}(h:mkS n X e=o) (hs:o.isSome=true):Fv (-1048576) o (valO o):=by
 cases o with
 | none=>cases hs
 | some d=>obtain ⟨n1,X1,e1⟩:=d;exact ⟨n1,X1,e1,rfl,mkS_frm h,rfl⟩
theorem Fv.reform {o:Option (Bool×Nat×Int)}{B z:Int}(h:Fv B o z):mkS (dN o) (dX o) (dE o)=o:=by
 obtain ⟨n,X,e,rfl,F,rfl⟩:=h.ex;exact F.self
end
section
open Go.RowKit
theorem Fv.len {o:Option (Bool×Nat×Int)}{B z:Int}(h:Fv B o z):(ws (dX o)).length≤8192:=by
 obtain ⟨n,X,e,rfl,F,_⟩:=h.ex;exact frm_len F
end
section
open Go.RowKit
def Fm (o:Option (Bool×Nat×Int)):Prop:=∃ B x,Fv B o x
theorem Fm.len {o:Option (Bool×Nat×Int)}(h:Fm o):(ws (dX o)).length≤8192:=by obtain ⟨B,x,h⟩:=h;exact h.len
theorem Fm.rng {o:Option (Bool×Nat×Int)}(h:Fm o):-9223372036854775808≤dE o∧dE o≤9223372036854775807:=by
 obtain ⟨B,x,h⟩:=h;obtain ⟨n,X,e,rfl,F,_⟩:=h.ex;have:=F.up;have:=F.down
 show -9223372036854775808≤e∧e≤9223372036854775807
 omega
end
section
open Go.RowKit
theorem vK_zero:vK 0=0:=by
 have:=vK_word 0 0 (.inl rfl) (by omega)
 simpa using this
end
section
open Go.RowKit
def fo8 (V:Int):Option (Bool×Nat×Int):=mkS (decide (V<0)) V.natAbs (-1074)
theorem sg1_abs (V:Int):sg1 (decide (V<0))*(V.natAbs:Int)=V:=by
 unfold sg1
 by_cases h:V<0
 · rw [decide_eq_true h,if_pos rfl];omega
 · rw [decide_eq_false h,if_neg (by decide)];omega
theorem fo8_fo (V:Int) (m:Nat) (hm:m≤200000) (hV:V.natAbs<2^m):Fo (fo8 V) (V*(UU:Int)) (-1074) ((m:Int)-1074):=by
 by_cases h0:V=0
 · subst h0
   refine ⟨⟨false,0,0,?_,?_,?_,.inl rfl⟩⟩
   · unfold fo8;exact mkS_zero _ _
   · exact mkS_frm (mkS_zero false 0)
   · rw [zv_zero _ rfl];simp
 · obtain ⟨X,e,h1,h2,h3,h4⟩:=mkS_sz (decide (V<0)) V.natAbs (-1074) (-1074) ((m:Int)-1074) (by omega) (by omega) (by have:=blLe hV;omega) (by omega) (by omega) (by omega)
   refine ⟨⟨_,X,e,h1,mkS_frm h1,?_,.inr ⟨h3,h4⟩⟩⟩;rw [zv_mkS h1 (-2097152) (.inr (by omega))]
   have e1:(2:Nat)^((-1074:Int) - -2097152).toNat=UU*SS:=US _ (by decide)
   rw [e1,Int.natCast_mul,Int.natCast_mul,←Int.mul_assoc,sg1_abs,Int.mul_assoc]
theorem fo8_one {o:Option (Bool×Nat×Int)}{V L H:Int}(h:Fo o (V*(UU:Int)) L H) (m:Nat) (hm:m≤200000) (hV:V.natAbs<2^m):o=fo8 V:=by
 obtain ⟨n,X,e,rfl,F1,z1,_⟩:=h.ex;obtain ⟨n',X',e',h2,F2,z2,_⟩:=(fo8_fo V m hm hV).ex;rw [h2];obtain ⟨rfl,rfl,rfl⟩:=zv_inj F1 F2 (-2097152) (by omega) (by rw [z1,z2])
 rfl
theorem top_fv {x:Nat}(hx:Wd x) (fx:finW x) (m:Nat) (hm:m=2098):(fvW x).natAbs<2^m:=by
 unfold fvW;rw [sg_abs];have:=top_v (magW x) fx 2045 rfl;obtain ⟨a,ha⟩:∃ a,a=2045:=⟨_,rfl⟩;have h2:=top_v (magW x) fx a ha;rw [show m=53+a by omega,Nat.pow_add]
 exact h2
theorem of_fo8 {x:Nat}(hx:Wd x) (fx:finW x):ofK (negW x) (magW x)=fo8 (fvW x):=by
 obtain ⟨n,X,e,h1,h2,_⟩:=of_fo (negW x) (magW x) fx;rw [h1];exact fo8_one h2 2098 (by omega) (top_fv hx fx 2098 rfl)
end
section
open Go.RowKit J
theorem st3_but12 (g:Nat) (w:World) (x y z:Value):But g w (st3 w g x y z):=(((But.refl g w).set _ _).set _ _).set _ _
theorem Fm.re {o:Option (Bool×Nat×Int)}(h:Fm o):mkS (dN o) (dX o) (dE o)=o:=by obtain ⟨B,x,h⟩:=h;exact h.reform
def Lo (w:World) (g:Nat) (o:Option (Bool×Nat×Int)):Prop:=∃ a c,Dk w g (dN o) (.slice a (ws (dX o)).length c) (dE o)∧Nt 0 w (.slice a (ws (dX o)).length c) (dX o)
theorem Lo.below {w w':World}{g:Nat}{o:Option (Bool×Nat×Int)}(h:Lo w g o) (hb:Below w.heap.size w w'):Lo w' g o:=by
 obtain ⟨a,c,h1,h2⟩:=h;exact ⟨a,c,h1.below hb,h2.below hb⟩
theorem Nt.off12 {lo g:Nat}{w:World}{v:Value}{X:Nat}{n:Bool}{a:Option Addr}{l c:Nat}{e:Int}(h:Nt lo w v X) (D:Dk w g n (.slice a l c) e) (x y z:Value):Nt lo (st3 w g x y z) v X:=by
 refine h.off (st3_but12 g w x y z) ?_
 rcases h.2 with ⟨rfl,_⟩|⟨g',cap,cur,rfl,_,hg,_⟩
 · simp [Value.ownBlock]
 · intro e'
   obtain rfl:g'=g:=by simpa [Value.ownBlock] using e'
   rw [show w.heap[g']?=_ from D] at hg
   simp at hg
theorem Lo.set {w:World}{g:Nat}{o p:Option (Bool×Nat×Int)}(h:Lo w g o) {a:Option Addr}{c:Nat}(hN:Nt 0 w (.slice a (ws (dX p)).length c) (dX p)) :
 Lo (st3 w g (.bool (dN p)) (.slice a (ws (dX p)).length c) (.int .i64 (dE p))) g p:=by
 obtain ⟨a0,c0,h1,h2⟩:=h;exact ⟨a,c,h1.set _ _ _,hN.off12 h1 _ _ _⟩
theorem Lo.new {w:World}{o:Option (Bool×Nat×Int)}{a:Option Addr}{c:Nat}(hN:Nt 0 w (.slice a (ws (dX o)).length c) (dX o)):Lo (w.alloc (Obj.cells #[.bool (dN o),.slice a (ws (dX o)).length c,.int .i64 (dE o)] 47)) w.heap.size o :=
 ⟨a,c,Dk.new _ _ _ _,hN.below (below_alloc _ _)⟩
abbrev o00:Option (Bool×Nat×Int):=some (false,0,0)
theorem len00:(ws (dX o00)).length=0:=by simp [dX,ws_zero]
theorem Lo.zero (w:World):Lo (w.alloc (Obj.cells #[.bool false,.slice none 0 0,.int .i64 0] 47)) w.heap.size o00:=by
 refine ⟨none,0,?_,?_⟩
 · rw [len00];exact Dk.new _ _ _ _
 · rw [len00];exact Nt.nil _ _
theorem st3_bel12 {B g:Nat}{a w:World}(h:Below B a w) (hB:B≤w.heap.size) (hg:B≤g) (x y z:Value):Below B a (st3 w g x y z):=But.below h (st3_but12 g w x y z) hB hg
theorem Fm.er {o:Option (Bool×Nat×Int)}(h:Fm o):erS o=0:=by
 obtain ⟨B,x,h⟩:=h;obtain ⟨n,X,e,rfl,_⟩:=h.ex;rfl
theorem Fm.a12 {o:Option (Bool×Nat×Int)}{w:World}{a:Option Addr}{c:Nat}(F:Fm o) (N:Nt 0 w (.slice a (ws (dX o)).length c) (dX o)):Arg w a (ws (dX o)).length c (ws (dX o)):=(N.arg' (Nat.le_trans F.len (by decide))).2
theorem Lo.shape {w:World}{lo:Nat}{v:Value}{q:Option (Bool×Nat×Int)}(H:Fm q) (h:Nt lo w v (dX q)):∃ a c,v=.slice a (ws (dX q)).length c∧Nt 0 w v (dX q):=by
 obtain ⟨a,c,rfl,_⟩:=h.arg (Nat.le_trans H.len (by decide))
 exact ⟨a,c,rfl,h.mono (Nat.zero_le _)⟩
end
section
open Go.RowKit
theorem frm_fv {n:Bool}{X:Nat}{e:Int}(F:Frm n X e) (B:Int):Fv B (some (n,X,e)) (zv B (n,X,e)):=⟨n,X,e,rfl,F,rfl⟩
theorem ofK_iv (s:Bool) (K:Nat) (hK:K<9218868437227405312):Iv (ofK s K) (-1074) 1024:=by
 obtain ⟨x,hx⟩:∃ x,K/4503599627370496=x:=⟨_,rfl⟩;obtain ⟨f,hf⟩:∃ f,K%4503599627370496=f:=⟨_,rfl⟩;have hxl:x<2047:=by omega
 have hfl:f<4503599627370496:=by omega
 obtain ⟨M,hM⟩:∃ M,(if x=0 then f else f+4503599627370496)=M:=⟨_,rfl⟩
 obtain ⟨E,hE⟩:∃ E:Int,(if x=0 then (-1074:Int) else (x:Int)-1075)=E:=⟨_,rfl⟩
 have hME:(x=0∧M=f∧E=-1074)∨(x≠0∧M=f+4503599627370496∧E=(x:Int)-1075):=by
  by_cases h:x=0
  · rw [if_pos h] at hM hE;exact .inl ⟨h,hM.symm,hE.symm⟩
  · rw [if_neg h] at hM hE;exact .inr ⟨h,hM.symm,hE.symm⟩
 have hMl:M<9007199254740992:=by omega
 have hO:ofK s K=mkS s M E:=by unfold ofK ofR;rw [hx,hf,if_neg (by omega),hM,hE]
 rw [hO];have hb:=bl_le53 M hMl;exact mkS_iv s M E (-1074) 1024 (.inr (by omega)) (by omega) (by omega) (by omega)
end
section
open Go.RowKit Go.Shelf J
attribute [local go_sem] Oper.semAt_some
def oW (x:Nat):Option (Bool×Nat×Int):=fo8 (fvW x)
theorem oW_iv (x:Nat) (hx:x<18446744073709551616) (fx:finW x):Iv (oW x) (-1074) 1024:=by
 unfold oW;rw [←of_fo8 hx fx];exact ofK_iv _ _ fx
theorem o00_iv (a b:Int):Iv o00 a b:=by
 refine ⟨false,0,0,rfl,mkS_frm (mkS_zero false 0),.inl rfl⟩
end
section
open Go.RowKit
theorem Iv.fm {o:Option (Bool×Nat×Int)}{a b:Int}(h:Iv o a b):Fm o:=by
 obtain ⟨n,X,e,rfl,F,_⟩:=h;exact ⟨0,_,frm_fv F 0⟩
end
section
open Go.RowKit J
def EX:Nat:=1046428
def EY:Nat:=1047502
theorem exP (a:Nat):∃ u:Nat,u=2^a:=⟨_,rfl⟩
noncomputable def XX:Nat:=Classical.choose (exP EX)
noncomputable def YY:Nat:=Classical.choose (exP EY)
theorem X_eq:XX=2^EX:=Classical.choose_spec (exP EX)
theorem Y_eq:YY=2^EY:=Classical.choose_spec (exP EY)
theorem X_pos:0<XX:=by rw [X_eq];exact Nat.two_pow_pos _
theorem Fm.sm {o:Option (Bool×Nat×Int)}(h:Fm o):o.isSome=true:=by
 obtain ⟨B,x,h⟩:=h;obtain ⟨n,X,e,rfl,_⟩:=h.ex;rfl
theorem Fm.val {o:Option (Bool×Nat×Int)}(h:Fm o):Fv (-1048576) o (valO o):=fvO h.re h.sm
theorem Fv.uniq {B x y:Int}{o:Option (Bool×Nat×Int)}(h1:Fv B o x) (h2:Fv B o y):x=y:=by
 obtain ⟨n,X,e,ho,_,hz⟩:=h1.ex;obtain ⟨n',X',e',ho',_,hz'⟩:=h2.ex;rw [ho] at ho'
 cases ho'
 exact hz.symm.trans hz'
theorem val_add {o p:Option (Bool×Nat×Int)}(F:Fm o) (G:Fm p) (H:Fm (addD o p)):valO (addD o p)=valO o+valO p :=
 H.val.uniq (Fv.add (by decide) F.val G.val H.sm)
theorem valO_inj {o p:Option (Bool×Nat×Int)}(F:Fm o) (G:Fm p) (h:valO o=valO p):o=p:=by
 obtain ⟨h1,h2,h3⟩:=Fv.same (by decide) F.val G.val h
 obtain ⟨n,X,e,rfl,_⟩:=F.val.ex;obtain ⟨m,Y,f,rfl,_⟩:=G.val.ex;have h1:n=m:=h1;have h2:X=Y:=h2;have h3:e=f:=h3;rw [h1,h2,h3]
theorem val_mk {n:Bool}{X:Nat}{e:Int}(h:Fm (mkS n X e)) (he:-1048576≤e) (k:Nat) (hk:(e+1048576).toNat=k):valO (mkS n X e)=sg1 n*((X*2^k:Nat):Int):=by
 obtain ⟨⟨n',Y,f⟩,ho⟩:=Option.isSome_iff_exists.1 h.sm;have:=zv_mkS ho (-1048576) (.inr he);rw [show (e - -1048576).toNat=k by rw [←hk];congr 1] at this
 rw [←this,ho];rfl
theorem sg1_natAbs (V:Int) (K:Nat):sg1 (decide (V<0))*((V.natAbs*K:Nat):Int)=V*(K:Int):=by
 rw [Int.natCast_mul,←Int.mul_assoc]
 congr 1
 unfold sg1
 by_cases h:V<0
 · rw [decide_eq_true h,if_pos rfl];omega
 · rw [decide_eq_false h,if_neg (by decide)];omega
theorem val_ex {V:Int}(h:Fm (exV V)):valO (exV V)=V*(XX:Int):=by
 unfold exV at h ⊢;rw [val_mk h (by decide) EX rfl,←X_eq,sg1_natAbs]
theorem val_fo {V:Int}(h:Fm (fo8 V)):valO (fo8 V)=V*(YY:Int):=by
 unfold fo8 at h ⊢;rw [val_mk h (by decide) EY rfl,←Y_eq,sg1_natAbs]
theorem ex_iv (V:Int) (m:Nat) (hm:m≤100000) (hV:V.natAbs<2^m):Iv (exV V) (-2148) ((m:Int)-2148):=by
 unfold exV;refine mkS_iv _ _ _ _ _ (.inr ⟨by omega,?_⟩) (by omega) (by omega) (by omega)
 have:=bl_lt_pow hV;omega
theorem ex_fm (V:Int) (m:Nat) (hm:m≤100000) (hV:V.natAbs<2^m):Fm (exV V):=(ex_iv V m hm hV).fm
theorem oW_fm (x:Nat) (hx:x<18446744073709551616) (fx:finW x):Fm (oW x):=(oW_iv x hx fx).fm
theorem add_ex {V U:Int}(m:Nat) (hm:m≤90000) (hV:V.natAbs<2^m) (hU:U.natAbs<2^m):addD (exV V) (exV U)=exV (V+U):=by
 have hF:=((ex_iv V m (by omega) hV).add (ex_iv U m (by omega) hU) (by omega) (by omega) (by omega)).fm
 have hs:(V+U).natAbs<2^(m+1):=by rw [Nat.pow_succ];omega
 have hG:=ex_fm (V+U) (m+1) (by omega) hs
 refine valO_inj hF hG ?_;rw [val_add (ex_fm V m (by omega) hV) (ex_fm U m (by omega) hU) hF,val_ex hG,val_ex (ex_fm V m (by omega) hV),val_ex (ex_fm U m (by omega) hU),Int.add_mul]
theorem ex_zero:exV 0=o00:=mkS_zero _ _
end
section
open Go.RowKit J
def exR (xs:List Nat) (mode a b:Int):Nat×Int:=if mode<0∨4<mode∨may a b=false then (0,1) else if 65536<xs.length then (0,2) else rd10 (vS xs) (sS xs) mode a b
theorem Exact12 (xs:List Nat) (a:Option Addr) (n c:Nat) (mode pa pb:Int) (w:World) (hn:n=xs.length) (hF:Fs w.heap.size w a xs) (hW:W64 xs) (hT:Tab w) :
 Calls Tryz.prog 23 #[.slice a n c,.int .i64 mode,.agg #[.int .i64 pa,.int .i64 pb]] w fun r w'=>r=.returned (.tuple #[.float .f64 (exR xs mode pa pb).1,.int .i64 (exR xs mode pa pb).2])∧Below w.heap.size w w':=by
 unfold exR;rw [←hn]
 by_cases h1:mode<0∨4<mode∨may pa pb=false
 · rw [if_pos h1];exact Exact10_arg a n c mode pa pb w h1
 · rw [if_neg h1]
   have hm0:0≤mode:=by omega
   have hm1:mode≤4:=by omega
   have hab:may pa pb=true:=by
    cases h:may pa pb
    · exact absurd (.inr (.inr h)) h1
    · rfl
   by_cases h2:65536<n
   · rw [if_pos h2];exact Exact10_long a n c mode pa pb w hm0 hm1 hab h2
   · rw [if_neg h2];exact Exact10_any xs a n c mode pa pb w hn hF hW hT hm0 hm1 hab (by omega)
end
section
open Go.RowKit
def kOf (k:Nat):Nat:=if k=5 then 1 else if k=3 then 2 else if k=4 then 3 else if k=1 then 4 else if k=2 then 5 else 0
theorem rcounted7 (n u d m p a:Int) (k:Nat) (hk:k≤5) (hs:(Sp.mk n u d m p a).ok) (w:World) :
 Calls Tryz.prog 89 #[.agg #[.int .i64 n,.int .i64 u,.int .i64 d,.int .i64 m,.int .i64 p,.int .i64 a],.int .i64 (k:Nat),.int .i64 1] w fun r w'=>r=.returned ((Sp.mk n u d m p a).cnt (kOf k) 1).agg∧Below w.heap.size w w':=by
 obtain ⟨h0,h1,h2,h3,h4,h5⟩:=hs;simp only at h0 h1 h2 h3 h4 h5;have hne:w.heap.size≠w.heap.size+1:=by omega
 have hc:k=0∨k=1∨k=2∨k=3∨k=4∨k=5:=by omega
 clear hk
 rcases hc with rfl|rfl|rfl|rfl|rfl|rfl
 · go_enter Tryz.func89,Tryz.ntmps89
   go_wp2;exact bodyPost_ret (v:=.agg #[.int .i64 n,.int .i64 u,.int .i64 d,.int .i64 m,.int .i64 p,.int .i64 (a+1)]) (by simp [results,Tryz.results89,go_sem]) rfl ⟨by first | rfl | simp [Sp.cnt,kOf,Sp.agg],(bel_alloc _ _).trans ((bel_alloc _ _).mono (by simp))⟩
 · go_enter Tryz.func89,Tryz.ntmps89
   go_wp2;exact bodyPost_ret (v:=.agg #[.int .i64 n,.int .i64 u,.int .i64 d,.int .i64 (m+1),.int .i64 p,.int .i64 (a+1)]) (by simp [results,Tryz.results89,go_sem]) rfl ⟨by first | rfl | simp [Sp.cnt,kOf,Sp.agg],(bel_alloc _ _).trans ((bel_alloc _ _).mono (by simp))⟩
 · go_enter Tryz.func89,Tryz.ntmps89
   go_wp2;exact bodyPost_ret (v:=.agg #[.int .i64 n,.int .i64 u,.int .i64 d,.int .i64 m,.int .i64 (p+1),.int .i64 (a+1)]) (by simp [results,Tryz.results89,go_sem]) rfl ⟨by first | rfl | simp [Sp.cnt,kOf,Sp.agg],(bel_alloc _ _).trans ((bel_alloc _ _).mono (by simp))⟩
 · go_enter Tryz.func89,Tryz.ntmps89
   go_wp2;exact bodyPost_ret (v:=.agg #[.int .i64 n,.int .i64 (u+1),.int .i64 d,.int .i64 m,.int .i64 p,.int .i64 (a+1)]) (by simp [results,Tryz.results89,go_sem]) rfl ⟨by first | rfl | simp [Sp.cnt,kOf,Sp.agg],(bel_alloc _ _).trans ((bel_alloc _ _).mono (by simp))⟩
 · go_enter Tryz.func89,Tryz.ntmps89
   go_wp2;exact bodyPost_ret (v:=.agg #[.int .i64 n,.int .i64 u,.int .i64 (d+1),.int .i64 m,.int .i64 p,.int .i64 (a+1)]) (by simp [results,Tryz.results89,go_sem]) rfl ⟨by first | rfl | simp [Sp.cnt,kOf,Sp.agg],(bel_alloc _ _).trans ((bel_alloc _ _).mono (by simp))⟩
 · go_enter Tryz.func89,Tryz.ntmps89
   go_wp2;exact bodyPost_ret (v:=.agg #[.int .i64 (n+1),.int .i64 u,.int .i64 d,.int .i64 m,.int .i64 p,.int .i64 (a+1)]) (by simp [results,Tryz.results89,go_sem]) rfl ⟨by first | rfl | simp [Sp.cnt,kOf,Sp.agg],(bel_alloc _ _).trans ((bel_alloc _ _).mono (by simp))⟩
end
section
open Go.RowKit
open Go.Proofs.YthfkleadcnkglaaGreatDoor.B (f64bits f64frombits bw)
attribute [local go_sem] f64bits f64frombits
theorem within_any (a:Int) (w:World):Calls Tryz.prog 175 #[.int .i64 a] w fun r w'=>r=.returned (.bool (ct a))∧w'=w:=by
 unfold ct
 by_cases h:0≤a
 · have hd:decide (0≤a)=true:=decide_eq_true h
   rw [hd];go_enter Tryz.func175,Tryz.ntmps175;go_wp2;go_ret;exact ⟨by first | rfl | simp,rfl⟩
 · have hd:decide (0≤a)=false:=decide_eq_false h
   rw [hd];go_enter Tryz.func175,Tryz.ntmps175;go_wp2;go_ret;exact ⟨by first | rfl | simp,rfl⟩
theorem rMay_any (a b:Int) (w:World):Calls Tryz.prog 41 #[.agg #[.int .i64 a,.int .i64 b]] w fun r w'=>r=.returned (.bool (may a b))∧Below w.heap.size w w':=by
 unfold may kn
 rcases ha:decide (0≤a) with _|_ <;> rcases ha2:decide (a≤2) with _|_ <;> rcases hb:decide (0≤b) with _|_ <;>
 · go_enter Tryz.func41,Tryz.ntmps41
   go_wp2;go_ret;exact ⟨by first | rfl | simp,(Below.refl _ _).alloc (Nat.le_refl _) _⟩
def zrR (neg:Bool):Nat:=if neg then 9223372036854775808 else 0
def infR (neg:Bool):Nat:=if neg then 18442240474082181120 else 9218868437227405312
theorem Zero_any (neg:Bool) (w:World):Calls Tryz.prog 138 #[.bool neg] w fun r w'=>r=.returned (.float .f64 (zrR neg))∧w'=w:=by
 cases neg <;>
 · go_enter Tryz.func138,Tryz.ntmps138
   go_wp2;go_ret;exact ⟨rfl,rfl⟩
theorem rInf_any (neg:Bool) (w:World):Calls Tryz.prog 51 #[.bool neg] w fun r w'=>r=.returned (.float .f64 (infR neg))∧w'=w:=by
 cases neg <;>
 · go_enter Tryz.func51,Tryz.ntmps51
   go_wp2;go_ret;exact ⟨rfl,rfl⟩
theorem TheNaN_any (w:World):Calls Tryz.prog 50 #[] w fun r w'=>r=.returned (.float .f64 9221120237041090560)∧w'=w:=by
 go_enter Tryz.func50,Tryz.ntmps50;go_wp2;go_ret;exact ⟨rfl,rfl⟩
def kd (b:Nat):Nat :=
 if 9218868437227405312<b%9223372036854775808 then 5
 else if b%9223372036854775808=9218868437227405312 then (if b/9223372036854775808=1 then 4 else 3)
 else if b%9223372036854775808=0 then (if b/9223372036854775808=1 then 1 else 2)
 else 0
theorem Kind_any (b:Nat) (hb:b<18446744073709551616) (w:World):Calls Tryz.prog 54 #[.float .f64 b] w fun r w'=>r=.returned (.int .i64 (kd b:Nat))∧w'=w:=by
 unfold kd;obtain ⟨z,hz⟩:∃ z,b%9223372036854775808=z:=⟨_,rfl⟩;obtain ⟨s,hs⟩:∃ s,b/9223372036854775808=s:=⟨_,rfl⟩;have hz2:(b:Int)%9223372036854775808=(z:Int):=by omega
 have hs2:(b:Int)/9223372036854775808=(s:Int):=by omega
 have hz3:(b:Int).tmod 9223372036854775808=(z:Int):=by rw [Int.tmod_eq_emod_of_nonneg (by omega)];exact hz2
 have hzl:z<9223372036854775808:=by omega
 have hsl:s<2:=by omega
 rw [hz,hs];clear hz hs
 by_cases h1:9218868437227405312<z
 · rw [if_pos h1]
   have h1':(9218868437227405312:Int)<(z:Int):=by omega
   go_enter Tryz.func54,Tryz.ntmps54;go_wp2;go_ret;exact ⟨rfl,rfl⟩
 · rw [if_neg h1]
   have h1':decide ((9218868437227405312:Int)<(z:Int))=false:=decide_eq_false (by omega)
   have hs01:s=0∨s=1:=by omega
   by_cases h2:z=9218868437227405312
   · subst h2
     rcases hs01 with rfl|rfl
     · go_enter Tryz.func54,Tryz.ntmps54
       go_wp2;go_ret;exact ⟨rfl,rfl⟩
     · go_enter Tryz.func54,Tryz.ntmps54
       go_wp2;go_ret;exact ⟨rfl,rfl⟩
   · rw [if_neg h2]
     have h2':((z:Int)==9218868437227405312)=false:=by rw [beq_eq_false_iff_ne];omega
     by_cases h3:z=0
     · subst h3
       rcases hs01 with rfl|rfl
       · go_enter Tryz.func54,Tryz.ntmps54
         go_wp2;go_ret;exact ⟨rfl,rfl⟩
       · go_enter Tryz.func54,Tryz.ntmps54
         go_wp2;go_ret;exact ⟨rfl,rfl⟩
     · rw [if_neg h3]
       have h3':((z:Int)==0)=false:=by rw [beq_eq_false_iff_ne];omega
       clear h1 h2 h3 hz3
       rcases hs01 with rfl|rfl
       · go_enter Tryz.func54,Tryz.ntmps54
         go_wp2;go_ret;exact ⟨rfl,rfl⟩
       · go_enter Tryz.func54,Tryz.ntmps54
         go_wp2;go_ret;exact ⟨rfl,rfl⟩
end
section
open Go.RowKit J
theorem kd_le12 (b:Nat):kd b≤5:=by unfold kd;(repeat' split) <;> omega
end
section
open Go.RowKit
theorem rof8 (x:Nat) (hx:Wd x∧finW x) (w:World) :
 Calls Tryz.prog 25 #[.float .f64 x] w fun r w'=>(∃ v,r=.returned (.tuple #[.agg #[.bool (dN (fo8 (fvW x))),v,.int .i64 (dE (fo8 (fvW x)))],.int .i64 0])∧Nt w.heap.size w' v (dX (fo8 (fvW x))))∧Below w.heap.size w w':=by
 obtain ⟨h1,h2,h3,_⟩:=wd64_bw (negW x) (magW x) (Nat.le_of_lt hx.2);have:=rOf3_any (negW x) (magW x/4503599627370496) (magW x%4503599627370496) h2 h3 w;rw [←h1,←wd_of x hx.1] at this;refine this.mono ?_;rintro r w' ⟨⟨v,rfl,hN⟩,hb⟩;have e:=of_fo8 hx.1 hx.2;unfold ofK at e;rw [e] at hN ⊢;have he:ofE (magW x/4503599627370496)=0:=by unfold ofE;rw [if_neg (by have:=hx.2;omega)]
 rw [he];exact ⟨⟨v,rfl,hN⟩,hb⟩
section
attribute [local go_sem] B.f64bits B.f64frombits
end
end
section
open Go.RowKit J
theorem Fm.two {o:Option (Bool×Nat×Int)}(h:Fm o):(ws (dX o)).length≤2000000:=Nat.le_trans h.len (by decide)
theorem radd12 {U:World}{a b:Option Addr}{c d:Nat}{o p q:Option (Bool×Nat×Int)}(F:Fm o) (G:Fm p) (N1:Nt 0 U (.slice a (ws (dX o)).length c) (dX o)) (N2:Nt 0 U (.slice b (ws (dX p)).length d) (dX p)) (h:addD o p=q) (H:Fm q) :
 Calls Tryz.prog 27 #[.agg #[.bool (dN o),.slice a (ws (dX o)).length c,.int .i64 (dE o)],.agg #[.bool (dN p),.slice b (ws (dX p)).length d,.int .i64 (dE p)]] U fun r w'=>(∃ v,r=.returned (.tuple #[.agg #[.bool (dN q),v,.int .i64 (dE q)],.int .i64 0])∧Nt U.heap.size w' v (dX q))∧Below U.heap.size U w':=by
 have:=rAdd_any3 (F.a12 N1) (G.a12 N2) F.two G.two (dN o) (dN p) (dE o) (dE p) F.rng.1 F.rng.2 G.rng.1 G.rng.2;rw [val_ws,val_ws,F.re,G.re,h] at this;unfold DAns at this;rw [H.er] at this;exact this
theorem rof12 (x:Nat) (hx:x<18446744073709551616) (fx:finW x) (w:World) :
 Calls Tryz.prog 25 #[.float .f64 x] w fun r w'=>(∃ v,r=.returned (.tuple #[.agg #[.bool (dN (oW x)),v,.int .i64 (dE (oW x))],.int .i64 0])∧Nt w.heap.size w' v (dX (oW x)))∧Below w.heap.size w w':=rof8 x ⟨hx,fx⟩ w
end
section
open Go.RowKit J
def nrm (z:Nat):Nat:=if nanW z then oddW else z
theorem nan_odd:nanW oddW=true:=by decide
theorem nrm_idem (z:Nat):nrm (nrm z)=nrm z:=by
 unfold nrm
 cases h:nanW z
 · simp [h]
 · simp [nan_odd]
theorem nrm_lt {z:Nat}(h:z<18446744073709551616):nrm z<18446744073709551616:=by
 unfold nrm
 split
 · decide
 · exact h
theorem nan_nrm (z:Nat):nanW (nrm z)=nanW z:=by
 unfold nrm
 cases h:nanW z
 · simp [h]
 · simp [nan_odd]
theorem nan_mag {x:Nat}(h:nanW x=true):9218868437227405312<magW x:=of_decide_eq_true h
theorem nan_turn (y:Nat) (hy:y<18446744073709551616):nanW (turnW y)=nanW y:=by
 unfold nanW turnW;rw [decide_eq_decide]
 split <;> omega
theorem add_nan_l {x:Nat}(y:Nat) (h:nanW x=true):arW .add x y=oddW:=by
 obtain ⟨s,t,hr⟩:=read_nanW x (nan_mag h);rw [arW_add,hr];rfl
theorem add_nan_r {x y:Nat}(hx:x<18446744073709551616) (h:nanW y=true):arW .add x y=oddW:=by
 obtain ⟨s,t,hr2⟩:=read_nanW y (nan_mag h)
 rcases kinds x hx with ⟨a1,a2,a3,a4⟩|⟨a1,a2,a3,a4⟩|⟨a1,a2,a4⟩
 · exact add_nan_l y a1
 · rw [arW_add,read_infW x hx a4,hr2];rfl
 · obtain ⟨m,k,hr,_⟩:=read_finW x hx a4
   rw [arW_add,hr,hr2];rfl
theorem sub_nan_l {x y:Nat}(hy:y<18446744073709551616) (h:nanW x=true):arW .sub x y=oddW:=by rw [sub_turn x y hy];exact add_nan_l _ h
theorem sub_nan_r {x y:Nat}(hx:x<18446744073709551616) (hy:y<18446744073709551616) (h:nanW y=true):arW .sub x y=oddW:=by
 rw [sub_turn x y hy];exact add_nan_r hx (by rw [nan_turn y hy];exact h)
theorem add_nrm {x y:Nat}(hx:x<18446744073709551616) (hy:y<18446744073709551616):arW .add (nrm x) (nrm y)=arW .add x y:=by
 cases h1:nanW x
 · have e1:nrm x=x:=by unfold nrm;rw [h1];rfl
   rw [e1]
   cases h2:nanW y
   · have e2:nrm y=y:=by unfold nrm;rw [h2];rfl
     rw [e2]
   · rw [add_nan_r hx h2,add_nan_r hx (by rw [nan_nrm];exact h2)]
 · rw [add_nan_l _ h1,add_nan_l _ (by rw [nan_nrm];exact h1)]
theorem sub_nrm {x y:Nat}(hx:x<18446744073709551616) (hy:y<18446744073709551616):arW .sub (nrm x) (nrm y)=arW .sub x y:=by
 cases h1:nanW x
 · have e1:nrm x=x:=by unfold nrm;rw [h1];rfl
   rw [e1]
   cases h2:nanW y
   · have e2:nrm y=y:=by unfold nrm;rw [h2];rfl
     rw [e2]
   · rw [sub_nan_r hx hy h2,sub_nan_r hx (nrm_lt hy) (by rw [nan_nrm];exact h2)]
 · rw [sub_nan_l hy h1,sub_nan_l (nrm_lt hy) (by rw [nan_nrm];exact h1)]
theorem gives_nrm {op:BinOp}{x y z:Nat}(ho:op=.add∨op=.sub∨op=.mul) (h:Gives op x y z):nrm z=arW op x y∧z<18446744073709551616:=by
 rcases h with h|⟨h,h2,h3⟩
 · have hb:=bits_fin ho h
   refine ⟨?_,hb.2⟩;unfold nrm nanW arW;rw [h,if_neg (by simp;omega)];rfl
 · refine ⟨?_,h3⟩
   unfold nrm nanW arW;rw [h,if_pos (by simpa using h2)];rfl
theorem arW_nrm {op:BinOp}(ho:op=.add∨op=.sub∨op=.mul) (x y:Nat):nrm (arW op x y)=arW op x y∧arW op x y<18446744073709551616:=by
 unfold arW
 cases h:floatBits op .f64 x y with
 | none=>exact ⟨by decide,by decide⟩
 | some z =>
   have hb:=bits_fin ho h;refine ⟨?_,hb.2⟩
   show nrm z=z
   unfold nrm nanW;rw [if_neg (by simp;omega)]
abbrev plF (x y:Nat):Nat:=arW .add x y
abbrev miF (x y:Nat):Nat:=arW .sub x y
theorem plF_lt (x y:Nat):plF x y<18446744073709551616:=(arW_nrm (.inl rfl) x y).2
theorem miF_lt (x y:Nat):miF x y<18446744073709551616:=(arW_nrm (.inr (.inl rfl)) x y).2
theorem plF_nrm (x y:Nat):nrm (plF x y)=plF x y:=(arW_nrm (.inl rfl) x y).1
theorem miF_nrm (x y:Nat):nrm (miF x y)=miF x y:=(arW_nrm (.inr (.inl rfl)) x y).1
def runF:List Nat→Nat
 | []=>0
 | x::l=>l.foldl plF (nrm x)
theorem runF_snoc (l:List Nat) (y:Nat) (h:l≠[]):runF (l++[y])=plF (runF l) y:=by
 cases l with
 | nil=>exact absurd rfl h
 | cons x l=>simp [runF,List.foldl_append]
theorem runF_take (l:List Nat) (k:Nat) (h0:0<k) (h:k<l.length):runF (l.take (k+1))=plF (runF (l.take k)) (l.getD k 0):=by
 have e:l.take (k+1)=l.take k++[l.getD k 0]:=by
  rw [List.take_succ_eq_append_getElem h,List.getD_eq_getElem?_getD,List.getElem?_eq_getElem h];rfl
 rw [e,runF_snoc];intro h2;have:=congrArg List.length h2;rw [List.length_take,List.length_nil] at this;omega
theorem runF_one (l:List Nat) (h:0<l.length):runF (l.take 1)=nrm (l.getD 0 0):=by
 cases l with
 | nil=>simp at h
 | cons x l=>simp [runF]
theorem foldl_lt (l:List Nat) (s:Nat) (hs:s<18446744073709551616∧nrm s=s):l.foldl plF s<18446744073709551616∧nrm (l.foldl plF s)=l.foldl plF s:=by
 induction l generalizing s with
 | nil=>exact hs
 | cons x l ih=>exact ih _ ⟨plF_lt _ _,plF_nrm _ _⟩
theorem runF_ok (l:List Nat) (h:∀ x ∈ l,x<18446744073709551616):runF l<18446744073709551616∧nrm (runF l)=runF l:=by
 cases l with
 | nil=>exact ⟨by decide,by decide⟩
 | cons x l=>exact foldl_lt l _ ⟨nrm_lt (h x (List.mem_cons_self ..)),nrm_idem x⟩
def nbW (s x:Nat):Bool:=!nanW s&&!nanW x&&decide (magW x≤magW s)
def neV (s x:Nat):Nat:=if nbW s x then plF (miF s (plF s x)) x else plF (miF x (plF s x)) s
def neS (q:Nat×Nat) (x:Nat):Nat×Nat:=(plF q.1 x,plF q.2 (neV q.1 x))
def neF (l:List Nat):Nat×Nat:=l.foldl neS (0,0)
theorem foldl_take {α:Type}(f:α→Nat→α) (a:α) (l:List Nat) (k:Nat) (h:k<l.length):(l.take (k+1)).foldl f a=f ((l.take k).foldl f a) (l.getD k 0):=by
 have e:l.take (k+1)=l.take k++[l.getD k 0]:=by
  rw [List.take_succ_eq_append_getElem h,List.getD_eq_getElem?_getD,List.getElem?_eq_getElem h];rfl
 rw [e,List.foldl_append];rfl
theorem nbW_nrm (s x:Nat):nbW (nrm s) (nrm x)=nbW s x:=by
 unfold nbW;rw [nan_nrm,nan_nrm]
 cases h1:nanW s <;> cases h2:nanW x <;> simp [nrm,h1,h2]
theorem neS_ok (q:Nat×Nat) (x:Nat):(neS q x).1<18446744073709551616∧(neS q x).2<18446744073709551616∧nrm (neS q x).1=(neS q x).1∧nrm (neS q x).2=(neS q x).2:=⟨plF_lt _ _,plF_lt _ _,plF_nrm _ _,plF_nrm _ _⟩
theorem fold_ok (f:Nat×Nat→Nat→Nat×Nat) (hf:∀ q x,(f q x).1<18446744073709551616∧(f q x).2<18446744073709551616∧nrm (f q x).1=(f q x).1∧nrm (f q x).2=(f q x).2) (l:List Nat):(l.foldl f (0,0)).1<18446744073709551616∧(l.foldl f (0,0)).2<18446744073709551616∧nrm (l.foldl f (0,0)).1=(l.foldl f (0,0)).1∧nrm (l.foldl f (0,0)).2=(l.foldl f (0,0)).2:=by
 have h:∀ (l:List Nat) (q:Nat×Nat),(q.1<18446744073709551616∧q.2<18446744073709551616∧nrm q.1=q.1∧nrm q.2=q.2)→((l.foldl f q).1<18446744073709551616∧(l.foldl f q).2<18446744073709551616∧nrm (l.foldl f q).1=(l.foldl f q).1∧nrm (l.foldl f q).2=(l.foldl f q).2):=by
  intro l
  induction l with
  | nil=>intro q h;exact h
  | cons x l ih=>intro q _;exact ih _ (hf q x)
 exact h l (0,0) ⟨by decide,by decide,by decide,by decide⟩
end
section
open Go.RowKit J
attribute [local go_sem] B.f64bits B.f64frombits st_float
theorem rOf10 (b:Nat) (w:World):Calls Tryz.prog 80 #[.int .u64 (b:Nat)] w fun r w'=>r=.returned (.float .f64 b)∧w'=w:=by
 go_enter Tryz.func80,Tryz.ntmps80;go_wp2;exact bodyPost_ret (v:=.float .f64 b) (by simp [results,Tryz.results80,go_sem]) rfl ⟨rfl,rfl⟩
theorem rOf10z (w:World):Calls Tryz.prog 80 #[.int .u64 0] w fun r w'=>r=.returned (.float .f64 0)∧w'=w:=rOf10 0 w
theorem rraw10 (x:Nat) (w:World):Calls Tryz.prog 81 #[.float .f64 x] w fun r w'=>r=.returned (.int .u64 (x:Nat))∧w'=w:=by
 go_enter Tryz.func81,Tryz.ntmps81;go_wp2;exact bodyPost_ret (v:=.int .u64 (x:Nat)) (by simp [results,Tryz.results81,go_sem]) rfl ⟨rfl,rfl⟩
end
section
open Go.RowKit J
attribute [local go_sem] st_float
def Fw10 (n:Nat):Value:=.float .f64 n
theorem Tryz.und_floats:Tryz.prog.underlying 22=some (.slice 27):=by kernel_rfl
theorem Tryz.info_f64:(Tryz.prog.info? 27).map (fun i=>(i.zero,i.size,i.bytes))=some (some (.float .f64 0),1,8):=by kernel_rfl
def OwnF (w:World) (g:Nat) (L:List Nat):Prop:=w.heap[g]?=some (.cells (L.map Fw10).toArray 27 (0,0))
theorem OwnF.lt {w:World}{g:Nat}{L:List Nat}(h:OwnF w g L):g<w.heap.size:=(Array.getElem?_eq_some_iff.1 h).1
theorem OwnF.cell {w:World}{g:Nat}{L:List Nat}(h:OwnF w g L) (i:Nat) (hi:i<L.length):w.cell? ⟨g,i,none⟩=some (.float .f64 (L.getD i 0)):=by
 unfold OwnF at h;simp [World.cell?,h,Fw10,hi]
theorem OwnF.frozen {w:World}{g:Nat}{L:List Nat}(h:OwnF w g L) (i:Nat):w.frozen? ⟨g,i,none⟩=false:=by
 unfold OwnF at h;simp [World.frozen?,h]
theorem OwnF.set {w:World}{g:Nat}{L:List Nat}(h:OwnF w g L) (i x:Nat):OwnF (w.setCell ⟨g,i,none⟩ (.float .f64 x)) g (L.set i x):=by
 unfold OwnF at h ⊢;simp only [World.setCell,Array.getElem?_modify,h];simp [Fw10,List.map_set]
theorem OwnF.below {w w':World}{g B:Nat}{L:List Nat}(h:OwnF w g L) (hb:Below B w w') (hg:g<B):OwnF w' g L:=by
 unfold OwnF at h ⊢;rw [hb.block g hg];exact h
theorem OwnF.fs {w:World}{g B:Nat}{L:List Nat}(h:OwnF w g L) (hg:g<B) (n:Nat):Fs B w (some ⟨g,0,none⟩) (L.take n):=by
 intro _;refine ⟨g,0,hg,rfl,fun i hi=>?_⟩
 rw [List.length_take] at hi;rw [Nat.zero_add,h.cell i (by omega)]
 congr 2
 rw [List.getD_eq_getElem?_getD,List.getD_eq_getElem?_getD,List.getElem?_take,if_pos (by omega)]
theorem make_floats (z:Int) (n:Nat) (hz:z=(n:Int)) (hn:n≤17592186044416) (w:World) :
 (Instr.makeSlice 22 (.int .i64 z) (.int .i64 z)).run Tryz.prog w=.ok (.slice (some ⟨w.heap.size,0,none⟩) n n) (w.alloc (.cells (madeCells #[.float .f64 0] n) 27)):=by
 subst hz;exact run_make_row' 22 27 (.float .f64 0) 8 Tryz.und_floats Tryz.info_f64 rfl .i64 .i64 n (by omega) (by omega) w
theorem OwnF.made (w:World) (n:Nat):OwnF (w.alloc (.cells (madeCells #[.float .f64 0] n) 27)) w.heap.size (List.replicate n 0):=by
 unfold OwnF;have h1:=heap_alloc_new w (.cells (madeCells #[.float .f64 0] n) 27);rw [h1]
 congr 2
 apply Array.toList_inj.1
 rw [toList_madeCells_one];simp [Fw10]
theorem copy_floats (w:World) (g dLen dCap:Nat) (ao:Option Addr) (sLen sCap B:Nat) (ty:TypeId)
 (L xs:List Nat) (hO:OwnF w g L) (hL:dLen≤L.length) (hx:sLen=xs.length) (hR:Fs B w ao xs) (hle:sLen≤dLen) :
 ∃ w',(Builtin.copy_ #[22,22] ty #[.slice (some ⟨g,0,none⟩) dLen dCap,.slice ao sLen sCap]).run Tryz.prog w=.ok (.int .i64 (sLen:Int)) w'∧OwnF w' g (xs++L.drop sLen)∧But g w w':=by
 subst hx;have hmin:Nat.min xs.length dLen=xs.length:=Nat.min_eq_left hle
 by_cases h0:xs=[]
 · subst h0
   exact ⟨w,run_copy_none (P:=Tryz.prog) w 22 22 ty 27 _ _ _ _ _ _ Tryz.und_floats (by kernel_rfl) (by simp at hmin ⊢),by simpa using hO,But.refl _ _⟩
 · obtain ⟨b,off,hlt,rfl,hc⟩:=hR h0
   have hadd:∀ j,(⟨b,off,none⟩:Addr).add j=⟨b,off+j,none⟩:=by intro j;unfold Addr.add;split <;> simp_all
   have hrun:=run_copy_row (P:=Tryz.prog) w 22 22 ty 27 g 0 dLen dCap ⟨b,off,none⟩ xs.length sCap (L.map Fw10).toArray 27 (xs.map Fw10) Tryz.und_floats (by kernel_rfl) hO (by rw [hmin];simp) (by
    intro j v hv;rw [hadd]
    have hj:j<xs.length:=by
     have:=(List.getElem?_eq_some_iff.1 hv).1;simpa using this
    rw [hc j hj];simp [hj,Fw10] at hv;simp [hj,←hv]) (by simp;omega) (by
    intro v hv;obtain ⟨n,_,rfl⟩:=List.mem_map.1 hv
    rfl)
   refine ⟨w.setRow g (((xs++L.drop xs.length).map Fw10)).toArray,?_,setRow_heap w g _ _ 27 _ hO,⟨rfl,rfl,rfl,by simp [World.setRow],fun k _ hk=>setRow_other w g k _ hk⟩⟩
   simpa [List.map_append,List.map_drop,goInt] using hrun
def mrk10:Nat:=4693671547643874799
theorem lent8_zeros (xs:List Nat) (n:Nat) (hn:n=xs.length):xs++(List.replicate (n+8) 0).drop n=xs++List.replicate 8 0:=by
 rw [List.drop_replicate,show n+8-n=8 by omega]
theorem lent8_set (xs:List Nat) (n k:Nat) (hn:n=xs.length) (hk:k<8):(xs++(List.replicate k mrk10++List.replicate (8-k) 0)).set (n+k) mrk10=xs++(List.replicate (k+1) mrk10++List.replicate (8-(k+1)) 0):=by
 subst hn;have hc:k=0∨k=1∨k=2∨k=3∨k=4∨k=5∨k=6∨k=7:=by omega
 rw [List.set_append_right _ _ (by omega),Nat.add_sub_cancel_left]
 rcases hc with rfl|rfl|rfl|rfl|rfl|rfl|rfl|rfl <;> rfl
theorem rLent10 (xs:List Nat) (ao:Option Addr) (n cap B:Nat) (w:World) (hn:n=xs.length) (hm:n≤17592186043904) (hR:Fs B w ao xs) (hB:B≤w.heap.size) :
 Calls Tryz.prog 31 #[.slice ao n cap] w fun r w'=>r=.returned (.slice (some ⟨w.heap.size,0,none⟩) n (n+8))∧OwnF w' w.heap.size (xs++List.replicate 8 mrk10)∧Below w.heap.size w w':=by
 have hmk:=make_floats ((n+8:Nat):Int) (n+8) rfl (by omega)
 have hmk2:=make_floats ((n:Int)+8) (n+8) (by omega) (by omega)
 have HO2:Hid (OwnF (w.alloc (.cells (madeCells #[.float .f64 0] (n+8)) 27)) w.heap.size (List.replicate (n+8) 0)):=OwnF.made w (n+8);obtain ⟨w2,hcp,hO2,hbut⟩:=copy_floats _ w.heap.size (n+8) (n+8) ao n cap B 3 (List.replicate (n+8) 0) xs HO2.out (by simp) hn (hR.below ((Below.refl _ _).alloc hB _)) (by omega)
 rw [lent8_zeros xs n hn] at hO2;have HX:=(qsd (ai hO2 (ai hbut hn)));have HM:=hid (fun u:World=>rOf10 mrk10 u)
 clear hO2 hbut HO2 hn hR;go_enter Tryz.func31,Tryz.ntmps31;go_wp2
 go_loopg [4] 8 (fun gk i wr=>∃ k:Nat,gk+k=8∧i=.int .i64 ((n+k:Nat):Int)∧Aside (OwnF wr w.heap.size (xs++(List.replicate k mrk10++List.replicate (8-k) 0))∧But w.heap.size w2 wr))
 case atStart=>exact ⟨0,by omega,by simp,HX.out.1,But.refl _ _⟩
 case round =>
  obtain ⟨k,hgk,rfl,HA⟩:=hrel
  by_cases hk:k<8
  · have hd:decide (((n+k:Nat):Int)<(n:Int)+8)=true:=by simp;omega
    have hfz:=HA.out.1.frozen (n+k);have hcl:=HA.out.1.cell (n+k) (by rw [HX.out.2.2];simp;omega)
    go_wp2_with fail
    refine (HM.out _).mono ?_;rintro r w3 ⟨rfl,rfl⟩;go_wp2
    go_roundg (gk-1)
    case measure=>omega
    case rel =>
     refine ⟨k+1,by omega,by go_num,?_,HA.out.2.set _ _⟩
     rw [←lent8_set xs n k HX.out.2.2 hk];exact HA.out.1.set (n+k) mrk10
  · obtain rfl:k=8:=by omega
    have hd:decide (((n+8:Nat):Int)<(n:Int)+8)=false:=by simp
    go_wp2;go_ret;refine ⟨rfl,?_,?_⟩
    · simpa using HA.out.1
    · exact But.below ((Below.refl _ _).alloc (Nat.le_refl _) _) (HX.out.2.1.trans HA.out.2) (by simp) (Nat.le_refl _)
theorem rAsLent10 (xs:List Nat) (ao:Option Addr) (n cap B g:Nat) (w:World) (hn:n=xs.length) (hm:n≤17592186043904) (hR:Fs B w ao xs) (hB:B≤w.heap.size) (hO:OwnF w g (xs++List.replicate 8 mrk10)) :
 Calls Tryz.prog 32 #[.slice (some ⟨g,0,none⟩) n (n+8),.slice ao n cap] w fun r w'=>r=.returned (.bool true)∧Below w.heap.size w w':=by
 have hgl:=hO.lt;have HX:=(qsd (ai hR (ai hO (ai hn (ai hB hgl)))));have HR:=hid (fun (x:Nat) (u:World)=>rraw10 x u)
 clear hR hO hn hB hgl;go_enter Tryz.func32,Tryz.ntmps32;go_wp2
 go_loopg [6] (n+8) (fun gk i wr=>∃ k:Nat,gk+k=n+8∧i=.int .i64 (k:Nat)∧wr=w)
 case atStart=>exact ⟨0,by omega,by simp,rfl⟩
 case round =>
  obtain ⟨k,hgk,rfl,rfl⟩:=hrel
  by_cases hk:k<n
  · have hcg:=HX.out.2.1.cell k (by simp;rw [←HX.out.2.2.1];omega)
    have e1:(xs++List.replicate 8 mrk10).getD k 0=xs.getD k 0:=by
     rw [List.getD_eq_getElem?_getD,List.getElem?_append_left (by rw [←HX.out.2.2.1];exact hk),List.getD_eq_getElem?_getD]
    rw [e1] at hcg;obtain ⟨b,off,rfl,hcl⟩:=HX.out.1.at (Below.refl _ _) k (by rw [←HX.out.2.2.1];exact hk)
    obtain ⟨x,hx⟩:∃ x,x=xs.getD k 0:=⟨_,rfl⟩;rw [←hx] at hcg hcl;have hd:decide ((k:Int)<(n:Int)+8)=true:=by simp;omega
    have hne:(((x:Nat):Int) != ((x:Nat):Int))=false:=by simp
    clear hx e1
    go_wp2_with fail
    refine (HR.out _ _).mono ?_;rintro r w3 ⟨rfl,rfl⟩
    go_wp2_with fail
    refine (HR.out _ _).mono ?_;rintro r w3 ⟨rfl,rfl⟩;go_wp2
    go_roundg (gk-1)
    case measure=>omega
    case rel=>exact ⟨k+1,by omega,by go_num,rfl⟩
  · by_cases hk8:k<n+8
    · have hcg:=HX.out.2.1.cell k (by simp;rw [←HX.out.2.2.1];omega)
      have e1:(xs++List.replicate 8 mrk10).getD k 0=4693671547643874799:=by
       rw [List.getD_eq_getElem?_getD,List.getElem?_append_right (by rw [←HX.out.2.2.1];omega),List.getElem?_replicate,if_pos (by rw [←HX.out.2.2.1];omega)]
       rfl
      rw [e1] at hcg;have hd:decide ((k:Int)<(n:Int)+8)=true:=by simp;omega
      have hd2:decide ((k:Int)<(n:Int))=false:=by simp;omega
      clear e1
      go_wp2_with fail
      refine (HR.out _ _).mono ?_;rintro r w3 ⟨rfl,rfl⟩;go_wp2
      go_roundg (gk-1)
      case measure=>omega
      case rel=>exact ⟨k+1,by omega,by go_num,rfl⟩
    · have hd:decide ((k:Int)<(n:Int)+8)=false:=by simp;omega
      go_wp2;go_ret;exact ⟨rfl,Below.refl _ _⟩
end
section
open Go.RowKit J
theorem f1 (k:Nat) (hk:k=1074):fvW 4607182418800017408=((1*2^k:Nat):Int):=by subst hk;decide +kernel
theorem valO_00:valO o00=0:=by unfold valO zv;simp [dX]
end
section
open Go.RowKit J
noncomputable def oZ (x:Nat):Option (Bool×Nat×Int):=open Classical in if finW x then oW x else o00
theorem oZ_fin {x:Nat}(h:finW x):oZ x=oW x:=if_pos h
theorem oZ_odd {x:Nat}(h:¬ finW x):oZ x=o00:=if_neg h
theorem oZ_iv (x:Nat) (hx:x<18446744073709551616):Iv (oZ x) (-1074) 1024:=by
 by_cases h:finW x
 · rw [oZ_fin h];exact oW_iv x hx h
 · rw [oZ_odd h];exact o00_iv _ _
theorem rround12 {U:World}{a:Option Addr}{c:Nat}{o:Option (Bool×Nat×Int)}(F:Fm o) (N:Nt 0 U (.slice a (ws (dX o)).length c) (dX o)) (mode:Int) (z:Nat×Int) (hz:rndS o mode=z) :
 Calls Tryz.prog 62 #[.agg #[.bool (dN o),.slice a (ws (dX o)).length c,.int .i64 (dE o)],.int .i64 mode] U fun r w'=>r=.returned (.tuple #[.float .f64 z.1,.int .i64 z.2])∧Below U.heap.size U w':=by
 have:=rRound_any (F.a12 N) F.two (dN o) (dE o) mode F.rng.1 F.rng.2;rw [val_ws,F.re,hz] at this;exact this
end
section
open Go.RowKit J
attribute [local go_sem] st_float
def Is (z v:Nat):Prop:=z<18446744073709551616∧nrm z=v
theorem Is.self {x:Nat}(h:x<18446744073709551616):Is x (nrm x):=⟨h,rfl⟩
theorem Is.pl {x y a b z:Nat}(hx:Is x a) (hy:Is y b) (hz:Gives .add x y z):Is z (plF a b):=by
 obtain ⟨h1,rfl⟩:=hx;obtain ⟨h2,rfl⟩:=hy;obtain ⟨h3,h4⟩:=gives_nrm (.inl rfl) hz;exact ⟨h4,h3.trans (add_nrm h1 h2).symm⟩
theorem Is.mi {x y a b z:Nat}(hx:Is x a) (hy:Is y b) (hz:Gives .sub x y z):Is z (miF a b):=by
 obtain ⟨h1,rfl⟩:=hx;obtain ⟨h2,rfl⟩:=hy;obtain ⟨h3,h4⟩:=gives_nrm (.inr (.inl rfl)) hz;exact ⟨h4,h3.trans (sub_nrm h1 h2).symm⟩
theorem plus10 {x y a b:Nat}(hx:Is x a) (hy:Is y b) (w:World):Calls Tryz.prog 170 #[.float .f64 x,.float .f64 y] w fun r w'=>∃ z,r=.returned (.float .f64 z)∧Is z (plF a b)∧Below w.heap.size w w':=by
 have HZ:Aside (∀ z,Gives .add x y z→Is z (plF a b)):=fun z hz=>hx.pl hy hz
 clear hx hy;go_enter Tryz.func170,Tryz.ntmps170
 cases h:floatBits .add .f64 x y with
 | some z =>
   have d:=run_float_arith (P:=Tryz.prog) w .add 27 .f64 x y z h
   go_wp2_with (simp only [d])
   exact bodyPost_ret (v:=.float .f64 z) (by simp [results,Tryz.results170,go_sem]) rfl ⟨z,rfl,HZ.out z (.inl h),Below.refl _ _⟩
 | none =>
   obtain ⟨z,hz,d⟩:=run_float_none (P:=Tryz.prog) w .add 27 x y (.inl rfl) h
   go_wp2_with (simp only [d])
   exact bodyPost_ret (v:=.float .f64 z) (by simp [results,Tryz.results170,go_sem]) rfl ⟨z,rfl,HZ.out z (.inr ⟨h,hz⟩),(Below.refl _ _).drew⟩
theorem minus10 {x y a b:Nat}(hx:Is x a) (hy:Is y b) (w:World):Calls Tryz.prog 171 #[.float .f64 x,.float .f64 y] w fun r w'=>∃ z,r=.returned (.float .f64 z)∧Is z (miF a b)∧Below w.heap.size w w':=by
 have HZ:Aside (∀ z,Gives .sub x y z→Is z (miF a b)):=fun z hz=>hx.mi hy hz
 clear hx hy;go_enter Tryz.func171,Tryz.ntmps171
 cases h:floatBits .sub .f64 x y with
 | some z =>
   have d:=run_float_arith (P:=Tryz.prog) w .sub 27 .f64 x y z h
   go_wp2_with (simp only [d])
   exact bodyPost_ret (v:=.float .f64 z) (by simp [results,Tryz.results171,go_sem]) rfl ⟨z,rfl,HZ.out z (.inl h),Below.refl _ _⟩
 | none =>
   obtain ⟨z,hz,d⟩:=run_float_none (P:=Tryz.prog) w .sub 27 x y (.inr (.inl rfl)) h
   go_wp2_with (simp only [d])
   exact bodyPost_ret (v:=.float .f64 z) (by simp [results,Tryz.results171,go_sem]) rfl ⟨z,rfl,HZ.out z (.inr ⟨h,hz⟩),(Below.refl _ _).drew⟩
theorem told10 {x a:Nat}(hx:Is x a) (w:World):Calls Tryz.prog 127 #[.float .f64 x] w fun r w'=>r=.returned (.float .f64 a)∧w'=w:=by
 obtain ⟨s,e,f,he,hf,h1,h2⟩:=bwz x hx.1;have h3:=B.order_self s e f he hf;rw [←h1,h2] at h3;have h4:=hx.2;unfold nrm at h4;have HN:=hid (fun u:World=>B.nan_any u)
 clear h1 h2 he hf hx
 cases hn:nanW x
 · rw [hn] at h3 h4
   rw [if_neg (by decide)] at h4
   subst h4;go_enter Tryz.func127,Tryz.ntmps127;go_wp2;go_ret;exact ⟨rfl,rfl⟩
 · rw [hn] at h3 h4
   rw [if_pos rfl] at h4;subst h4;go_enter Tryz.func127,Tryz.ntmps127
   go_wp2_with fail
   refine (HN.out _).mono ?_;rintro r w1 ⟨rfl,rfl⟩;go_wp2;exact bodyPost_ret (v:=.float .f64 oddW) (by simp [results,Tryz.results127,go_sem,oddW]) rfl ⟨rfl,rfl⟩
theorem running10 (xs:List Nat) (a:Option Addr) (n c:Nat) (w:World) (hn:n=xs.length) (hF:Fs w.heap.size w a xs) (hW:W64 xs) (hc:n≤c) (hm:n≤4611686018427387904) :
 Calls Tryz.prog 128 #[.slice a n c] w fun r w'=>∃ z,r=.returned (.float .f64 z)∧Is z (runF xs)∧Below w.heap.size w w':=by
 by_cases h0:n=0
 · have e:xs=[]:=List.eq_nil_of_length_eq_zero (by omega)
   subst h0 e;clear hF hW hn;go_enter Tryz.func128,Tryz.ntmps128;go_wp2;exact bodyPost_ret (v:=.float .f64 0) (by simp [results,Tryz.results128,go_sem]) rfl ⟨0,rfl,⟨by decide,by decide⟩,Below.refl _ _⟩
 · have hne:xs≠[]:=by intro e;subst e;simp at hn;omega
   obtain ⟨b,off,hlt,rfl,hcl⟩:=hF hne;have hc0:=hcl 0 (by omega)
   rw [Nat.add_zero] at hc0;have HR:Aside (Fs w.heap.size w (some ⟨b,off,none⟩) xs∧W64 xs∧n=xs.length):=⟨hF,hW,hn⟩;have hz0:((n:Int)==0)=false:=by simp;omega
   have hz1:decide ((0:Int)<n)=true:=by simp;omega
   obtain ⟨x0,hx0⟩:∃ x0,x0=xs.getD 0 0:=⟨_,rfl⟩;rw [←hx0] at hc0;have HX:=qsd (show Is x0 (runF (xs.take 1)) by rw [runF_one xs (by omega),←hx0];exact Is.self (by rw [hx0];exact hW.get 0))
   have hnc:c=1∨c≠1:=by omega
   clear hF hW hn hcl hne hlt hx0;have hcc:(c=1∧n=1)∨c≠1:=by omega
   clear hnc
   rcases hcc with ⟨hc1,hn1⟩|hc1
   · subst hc1 hn1
     have HK:=qsd (show xs.take 1=xs by rw [List.take_of_length_le];rw [←HR.out.2.2];omega)
     go_enter Tryz.func128,Tryz.ntmps128;go_wp2
     go_loopg [15,3] 1 (fun gk i s wr=>i=.int .i64 0∧s=.float .f64 x0∧wr=w)
     case atStart=>exact ⟨by simp,rfl,rfl⟩
     case round =>
      obtain ⟨rfl,rfl,rfl⟩:=hrel;go_wp2;refine bodyPost_ret (v:=.float .f64 x0) (by simp [results,Tryz.results128,go_sem]) rfl ?_
      have e:=HX.out;rw [HK.out] at e;exact ⟨x0,rfl,e,Below.refl _ _⟩
   · go_enter Tryz.func128,Tryz.ntmps128
     go_wp2
     go_loopg [15,3] n (fun gk i s wr=>∃ (k z:Nat),gk+k=n∧i=.int .i64 (k:Nat)∧s=.float .f64 z∧Aside (Is z (runF (xs.take (k+1)))∧Below w.heap.size w wr))
     case atStart=>exact ⟨0,x0,by omega,by simp,rfl,HX.out,Below.refl _ _⟩
     case round =>
      obtain ⟨k,z,hgk,rfl,rfl,HA⟩:=hrel
      by_cases hk:k+1<n
      · have hcell:=HR.out.1.cell HA.out.2 (k+1) (by rw [←HR.out.2.2];exact hk)
        rw [show off+(k+1)=off+1+k by omega] at hcell
        obtain ⟨x,hx⟩:∃ x,x=xs.getD (k+1) 0:=⟨_,rfl⟩;rw [←hx] at hcell
        have HP:Hid (∀ u:World,Calls Tryz.prog 170 #[.float .f64 z,.float .f64 x] u fun r w'=>∃ z',r=.returned (.float .f64 z')∧Is z' (runF (xs.take (k+1+1)))∧Below u.heap.size u w'):=fun u=>by
         have hx64:x<18446744073709551616:=by rw [hx];exact HR.out.2.1.get (k+1)
         have h:=plus10 HA.out.1 (Is.self hx64) u;have hw:=runF_ok (xs.take (k+1)) (fun y hy=>HR.out.2.1 y (List.mem_of_mem_take hy))
         have e:=add_nrm hw.1 hx64;rw [hw.2] at e;rw [runF_take xs (k+1) (by omega) (by rw [←HR.out.2.2];exact hk),←hx]
         rw [show plF (runF (xs.take (k+1))) (nrm x)=plF (runF (xs.take (k+1))) x from e] at h
         exact h
        have hd:decide ((k:Int)<(n:Int)-1)=true:=by simp;omega
        clear hx
        go_wp2_with fail
        refine (HP.out _).mono ?_;rintro r w2 ⟨z',rfl,hz',hb2⟩;have HB:=qsd (ai hz' hb2);clear hz' hb2 HP;go_wp2
        go_roundg (gk-1)
        case measure=>omega
        case rel=>exact ⟨k+1,z',by omega,by first | rfl | simp,rfl,HB.out.1,HA.out.2.trans (HB.out.2.mono HA.out.2.size)⟩
      · have hd:decide ((k:Int)<(n:Int)-1)=false:=by simp;omega
        have HK:=qsd (show xs.take (k+1)=xs by rw [List.take_of_length_le];rw [←HR.out.2.2];omega)
        go_wp2;refine bodyPost_ret (v:=.float .f64 z) (by simp [results,Tryz.results128,go_sem]) rfl ?_
        have e:=HA.out.1;rw [HK.out] at e;exact ⟨z,rfl,e,HA.out.2⟩
theorem Running10 (xs:List Nat) (a:Option Addr) (n c:Nat) (w:World) (hn:n=xs.length) (hF:Fs w.heap.size w a xs) (hW:W64 xs) (hc:n≤c) (hm:n≤4611686018427387904) :
 Calls Tryz.prog 78 #[.slice a n c] w fun r w'=>r=.returned (.float .f64 (runF xs))∧Below w.heap.size w w':=by
 have H1:=hid (running10 xs a n c w hn hF hW hc hm);obtain ⟨y,hy⟩:∃ y,y=runF xs:=⟨_,rfl⟩;rw [←hy] at H1 ⊢;clear hn hF hW hc hm hy;go_enter Tryz.func78,Tryz.ntmps78
 go_wp2_with fail
 refine (H1.out).mono ?_;rintro r w1 ⟨z,rfl,hz,hb⟩;have H2:=hid (fun u:World=>told10 hz u)
 have HB:=qsd hb;clear hz hb H1
 go_wp2_with fail
 refine (H2.out _).mono ?_;rintro r w2 ⟨rfl,rfl⟩;go_wp2;exact bodyPost_ret (v:=.float .f64 y) (by simp [results,Tryz.results78,go_sem]) rfl ⟨rfl,HB.out⟩
end
section
open Go.RowKit J
theorem fo_iv (V:Int) (m:Nat) (hm:m≤100000) (hV:V.natAbs<2^m):Iv (fo8 V) (-1074) ((m:Int)-1074):=by
 unfold fo8;refine mkS_iv _ _ _ _ _ (.inr ⟨by omega,?_⟩) (by omega) (by omega) (by omega)
 have:=bl_lt_pow hV;omega
theorem fo_fm (V:Int) (m:Nat) (hm:m≤100000) (hV:V.natAbs<2^m):Fm (fo8 V):=(fo_iv V m hm hV).fm
end
section
open Go.RowKit J
theorem YX (k:Nat) (hk:k=1074):YY=2^k*XX:=by
 rw [Y_eq,X_eq,←Nat.pow_add,show k+EX=EY by rw [hk];decide]
end
section
open Go.ChangeShapes Go.WideShapes Go.ChangeAt Go.RowKit
theorem trodF {H:Type}{enc:TypeId×Value→H}{P:Program}{w:World}{base:Nat}{spare:Nat→Bool}{held:Bool}{fuel:Nat}{t:TypeId}{cs:List Value}{x:DataW H×List MemPlace}{k:FloatKind}(ht:P.underlying t=some (.float k)) (h:DataW.trod enc P w base spare held fuel t cs=some x):∃ n,cs=[.float k n]∧x=(.lit (.float k n),[])∧(Lit.float k n).wf=true:=by
 cases fuel with
 | zero=>simp [DataW.trod] at h
 | succ m =>
   simp only [DataW.trod,ht] at h
   split at h <;> simp_all
structure CameF (w:World) (a:Option Addr) (n c:Nat) (xs:List Nat):Prop where
 len:n=xs.length
 cap:n≤c
 wf:W64 xs
 rd:Fs w.heap.size w a xs
 nil:a=none→c=0
theorem add_noneF (b off i:Nat):(⟨b,off,none⟩:Addr).add i=⟨b,off+i,none⟩:=by unfold Addr.add;split <;> simp_all
def numF {H:Type} (y:DataW H×List MemPlace):Nat:=match y.1 with | .lit (.float _ n)=>n | _=>0
theorem Tryz.cellsF:Tryz.prog.cellsOf 27=1:=by kernel_rfl
theorem Tryz.bytesF:Tryz.prog.bytesOf 27=8:=by kernel_rfl
theorem cameF_of {H:Type}{enc:TypeId×Value→H}{W:World}{a:Option Addr}{n c:Nat}{d:DataW H}{p:List MemPlace}(h:DataW.Trod enc Tryz.prog W 0 (fun _=>true) true 22 (.slice a n c) d p) :
 ∃ xs,CameF W a n c xs∧((d=.nil∧c=0)∨∃ elems spare:List (DataW H),d=.slice elems spare∧elems.length+spare.length=c):=by
 obtain ⟨fuel,hf⟩:=h
 rcases DataW.trod_slice Tryz.underlying22 hf with ⟨hcs,hx⟩|⟨x,l,cp,elems,rest,m,_,hcs,hx,hb,hl,hm,hlen,hel,hsp,hns⟩
 · simp [Value.cells] at hcs
   obtain ⟨rfl,rfl,rfl⟩:=hcs;exact ⟨[],⟨rfl,Nat.le_refl _,(fun x hx=>by cases hx),(fun h=>absurd rfl h),fun _=>rfl⟩,.inl ⟨(Prod.mk.inj hx).1,rfl⟩⟩
 · simp [Value.cells] at hcs
   obtain ⟨rfl,rfl,rfl⟩:=hcs
   have each:∀ i y,i<n→elems[i]?=some y→y=(.lit (.float .f64 (numF y)),[])∧(Lit.float .f64 (numF y)).wf=true∧W.cell? (x.add i)=some (.float .f64 (numF y)):=by
    intro i y hi hy;have hb':=hel i hi;rw [hy,Tryz.cellsF,Nat.mul_one,Option.bind_eq_some_iff] at hb';obtain ⟨cs',hcs,hy'⟩:=hb';obtain ⟨k,rfl,rfl,hw⟩:=trodF Tryz.underlying27 hy';exact ⟨rfl,hw,cell_of_cells?_one hcs⟩
   refine ⟨elems.map numF,⟨by simp [hlen],hl,?_,?_,fun e=>by cases e⟩,.inr ⟨_,_,(Prod.mk.inj hx).1,?_⟩⟩
   · intro y hy
     obtain ⟨z,hz,rfl⟩:=List.mem_map.1 hy;obtain ⟨i,hi⟩:=List.getElem?_of_mem hz;have hil:=(List.getElem?_eq_some_iff.1 hi).1;have:=(each i z (by omega) hi).2.1
     exact of_decide_eq_true this
   · intro hne
     obtain ⟨b,off,spot⟩:=x
     have hn0:0<n:=by
      rcases Nat.eq_zero_or_pos n with h0|h0
      · rw [h0] at hlen;have:=List.eq_nil_of_length_eq_zero hlen;subst this;simp at hne
      · exact h0
     have hc0:=(each 0 (elems[0]'(by omega)) hn0 (List.getElem?_eq_getElem _)).2.2
     have hspot:spot=none:=by simpa [Addr.add] using World.cell?_spot hc0
     subst hspot;refine ⟨b,off,World.block_lt_of_cell? W _ (by simpa [Addr.add] using hc0),rfl,fun i hi=>?_⟩
     rw [List.length_map] at hi;have hadd:=add_noneF b off i;have:=(each i (elems[i]'hi) (by omega) (List.getElem?_eq_getElem _)).2.2
     rw [hadd] at this;rw [this];simp [List.getD_eq_getElem?_getD,hi]
   · have hr:=(hsp rfl).1
     simp only [List.length_map];omega
theorem cameF_reach {H:Type}{ts:List TypeId}{ds:List (DataW H)}(h:(DataW.weightsEach Tryz.prog ts ds).all (·≤reachBytes)=true) {j:Nat}{d:DataW H}{c n:Nat}(ht:ts[j]?=some 22) (hd:ds[j]?=some d) (hn:n≤c)
 (hc:(d=.nil∧c=0)∨∃ elems spare:List (DataW H),d=.slice elems spare∧elems.length+spare.length=c):n≤17592186043904:=by
 rcases hc with ⟨_,rfl⟩|⟨elems,spare,rfl,hl⟩
 · omega
 · have:=sized_slice h ht hd Tryz.underlying22
   rw [Tryz.bytesF,hl] at this;simp only [reachBytes] at this;omega
end
section
open Go.RowKit J
theorem kd_cases {x:Nat}(hx:x<18446744073709551616):(9218868437227405312<magW x∧kd x=5)∨(magW x=9218868437227405312∧negW x=true∧kd x=4)∨(magW x=9218868437227405312∧negW x=false∧kd x=3)∨(magW x<9218868437227405312∧kd x≤2):=by
 have e:magW x=x%9223372036854775808:=rfl;have e2:negW x=decide (9223372036854775808≤x):=rfl;rw [e,e2];unfold kd
 by_cases h1:9218868437227405312<x%9223372036854775808
 · exact .inl ⟨h1,if_pos h1⟩
 · rw [if_neg h1]
   by_cases h2:x%9223372036854775808=9218868437227405312
   · rw [if_pos h2]
     by_cases h3:x/9223372036854775808=1
     · exact .inr (.inl ⟨h2,decide_eq_true (by omega),if_pos h3⟩)
     · exact .inr (.inr (.inl ⟨h2,decide_eq_false (by omega),if_neg h3⟩))
   · rw [if_neg h2]
     refine .inr (.inr (.inr ⟨by omega,?_⟩))
     repeat' split
     all_goals omega
end
section
open Go.RowKit
theorem rgreat7 (b:Bool) (X:Nat) (e:Int) (a:Option Addr) (c:Nat) (w:World) (hA:Arg w a (ws X).length c (ws X)) (hbl:bl X≤262144) (he0:-2000000≤e) (he1:e≤2000000) :
 Calls Tryz.prog 88 #[.agg #[.bool b,.slice a (ws X).length c,.int .i64 e]] w fun r w'=>r=.returned (.bool (decide ((2090:Int)<(bl X:Int)+e)))∧Below w.heap.size w w':=by
 have HL:Hid (∀ u:World,Below w.heap.size w u→Calls Tryz.prog 124 #[.slice a (ws X).length c] u fun r w'=>r=.returned (.int .i64 (bl X:Nat))∧w'=u):=fun u hb=>by
  have hA':=hA.below hb;have h8:=hA'.big;have:=rLen_any (ws X) a (ws X).length c u.heap.size u rfl (by omega) hA'.wf hA'.rd
  rw [val_ws] at this;exact this
 obtain ⟨W,hW⟩:∃ W,W=w.alloc (Obj.cells #[.bool b,.slice a (ws X).length c,.int .i64 e] 47):=⟨_,rfl⟩;have HD:Aside (Dk W w.heap.size b (.slice a (ws X).length c) e∧Below w.heap.size w W):=by rw [hW];exact ⟨Dk.new _ _ _ _,bel_alloc _ _⟩
 have HW:=qsd hW;obtain ⟨B,hB⟩:∃ B:Nat,B=bl X:=⟨_,rfl⟩;rw [←hB] at HL hbl ⊢;have hwr:IntKind.i64.wrap ((B:Int)+e)=(B:Int)+e:=by rw [IntKind.wrap_i64];omega
 clear hA hW hB;go_enter Tryz.func88,Tryz.ntmps88
 go_upto_region 1 with fail
 rw [←HW.out];have kS:Aside (W.drew.cell? ⟨w.heap.size,1,none⟩=some (.slice a (ws X).length c)∧W.drew.cell? ⟨w.heap.size,2,none⟩=some (.int .i64 e)):=⟨HD.out.1.facts.2.1,HD.out.1.facts.2.2.1⟩
 go_region_held3 (fun w'=>w'.cell? ⟨w.heap.size,1,none⟩=some (.slice a (ws X).length c)∧w'.cell? ⟨w.heap.size,2,none⟩=some (.int .i64 e)) (with_reducible exact kS.out) (first
  | (go_at_call 124
     with_reducible refine (HL.out _ HD.out.2.drew).mono ?_
     rintro r u ⟨rfl,rfl⟩))
 all_goals (
  clear kS;go_wp2;refine bodyPost_ret (v:=.bool (decide ((2090:Int)<(B:Int)+e))) (by simp [results,Tryz.results88,go_sem]) rfl ⟨rfl,HD.out.2.drew⟩)
theorem Nt.stay {lo lo':Nat}{w w':World}{v:Value}{X:Nat}(h:Nt lo w v X) (hb:∀ g,lo≤g→w'.heap[g]?=w.heap[g]?) (hl:lo'≤lo):Nt lo' w' v X:=by
 refine ⟨h.1,?_⟩
 rcases h.2 with hn|⟨g,cap,cur,rfl,hlo,hgc,rest⟩
 · exact .inl hn
 · exact .inr ⟨g,cap,cur,rfl,by omega,(hb g hlo).trans hgc,rest⟩
theorem st_bel7 {B:Nat}{a w:World}{g i:Nat}{v:Value}(hg:B≤g) (h:Below B a w):Below B a (w.setCell ⟨g,i,none⟩ v):=h.trans ⟨rfl,rfl,rfl,by simp [World.setCell],fun k hk=>Below.heap_setCell _ _ _ _ (by simp;omega)⟩
theorem rOf7_no (x k:Nat) (w:World) (HK:Hid (∀ u:World,Calls Tryz.prog 54 #[.float .f64 x] u fun r w'=>r=.returned (.int .i64 (k:Nat))∧w'=u)) (hk:((k:Int)==0)=false) :
 Calls Tryz.prog 90 #[.float .f64 x] w fun r w'=>r=.returned (.agg #[.int .i64 (k:Nat),.bool false,.slice none 0 0,.int .i64 0])∧Below w.heap.size w w':=by
 have hne:w.heap.size≠w.heap.size+1:=by omega
 go_enter Tryz.func90,Tryz.ntmps90
 go_wp2_with fail
 refine (HK.out _).mono ?_;rintro r w1 ⟨rfl,rfl⟩;clear HK;go_wp2;exact bodyPost_ret (v:=.agg #[.int .i64 (k:Nat),.bool false,.slice none 0 0,.int .i64 0]) (by simp [results,Tryz.results90,go_sem]) rfl ⟨rfl,by first | exact (bel_alloc _ _).trans ((bel_alloc _ _).mono (by simp)) | exact st_bel7 (by simp) ((bel_alloc _ _).trans ((bel_alloc _ _).mono (by simp)))⟩
end
section
open Go.RowKit J
attribute [local go_sem] st_float
theorem cls_kd {x:Nat}(hx:x<18446744073709551616):(kd x=5∧clW x=4)∨((kd x=3∨kd x=4)∧clW x=3∧ngW x=negW x)∨((kd x=1∨kd x=2)∧clW x=0∧ngW x=negW x∧finW x∧fvW x=0)∨(kd x=0∧(clW x=1∨clW x=2)∧ngW x=negW x∧finW x):=by
 rcases kd_cases hx with ⟨a1,a2⟩|⟨a1,a2,a3⟩|⟨a1,a2,a3⟩|⟨a1,a2⟩
 · exact .inl ⟨a2,cl_nan a1⟩
 · exact .inr (.inl ⟨.inr a3,(cl_inf a1).1,(cl_inf a1).2⟩)
 · exact .inr (.inl ⟨.inl a3,(cl_inf a1).1,(cl_inf a1).2⟩)
 · have fx:finW x:=a1
   obtain ⟨p1,p2,p3,p4⟩:=fin_parts hx fx
   by_cases h0:magW x=0
   · have hk:kd x=1∨kd x=2:=by
      have e:x%9223372036854775808=0:=h0;unfold kd;rw [if_neg (by omega),if_neg (by omega),if_pos e]
      split
      · exact .inl rfl
      · exact .inr rfl
     rw [h0,vK_zero] at p2
     have hfr:frW x=0:=by
      rcases Nat.mul_eq_zero.1 p2.symm with q|q
      · exact q
      · have:=Nat.two_pow_pos (xpW x+1074).toNat;omega
     refine .inr (.inr (.inl ⟨hk,?_,p1,fx,?_⟩))
     · rcases p4 with q | q
       · exact q.1
       · exact absurd hfr q.2
     · unfold fvW
       rw [h0,vK_zero]
       cases negW x <;> rfl
   · have hk:kd x=0:=by
      have e:¬ x%9223372036854775808=0:=h0;have e2:x%9223372036854775808<9218868437227405312:=a1;unfold kd;rw [if_neg (by omega),if_neg (by omega),if_neg e]
     refine .inr (.inr (.inr ⟨hk,?_,p1,fx⟩))
     rcases p4 with q|q
     · exfalso
       rw [q.2,Nat.zero_mul] at p2;have:=(vK_lt (K:=0) (L:=magW x)).2 (by omega)
       omega
     · exact q.1
theorem oZ_zero {x:Nat}(h:finW x) (h0:fvW x=0):oZ x=o00:=by
 rw [oZ_fin h];unfold oW;rw [h0];exact mkS_zero _ _
theorem rOf7y (x:Nat) (w:World) (hx:x<18446744073709551616) (fx:finW x) (hk:kd x=0) :
 Calls Tryz.prog 90 #[.float .f64 x] w fun r w'=>(∃ v,r=.returned (.agg #[.int .i64 0,.bool (dN (oZ x)),v,.int .i64 (dE (oZ x))])∧Nt w.heap.size w' v (dX (oZ x)))∧Below w.heap.size w w':=by
 have HK:=hid (fun u:World=>Kind_any x hx u)
 rw [hk] at HK;have HO:=hid (fun u:World=>rof12 x hx fx u)
 have FX:=qsd (oW_fm x hx fx);rw [oZ_fin fx];obtain ⟨ox,hox⟩:∃ o,o=oW x:=⟨_,rfl⟩;rw [←hox] at HO FX ⊢;have hne:w.heap.size≠w.heap.size+1:=by omega
 obtain ⟨W,hW⟩:∃ W,W=(w.alloc (Obj.cells #[.int .i64 0,.bool false,.slice none 0 0,.int .i64 0] 68)).alloc (Obj.cells #[.int .i64 0,.bool false,.slice none 0 0,.int .i64 0] 68):=⟨_,rfl⟩
 have HD:Aside (Bl W w.heap.size 68 [.int .i64 0,.bool false,.slice none 0 0,.int .i64 0]∧Bl W (w.heap.size+1) 68 [.int .i64 0,.bool false,.slice none 0 0,.int .i64 0]∧Below w.heap.size w W∧W.heap.size=w.heap.size+2):=by
  rw [hW];exact ⟨(Bl.new w 68 [_,_,_,_]).alloc _,Bl.new' (w.alloc _) 68 _ [_,_,_,_] (by simp),(bel_alloc _ _).trans ((bel_alloc _ _).mono (by simp)),by simp⟩
 have HWW:=qsd hW;clear hW hx fx hk hox;go_enter Tryz.func90,Tryz.ntmps90
 go_wp2_with fail
 refine (HK.out _).mono ?_;rintro r w1 ⟨rfl,rfl⟩;clear HK
 go_upto_region 2 with fail
 first | rw [←HWW.out] | skip
 have z0:=HD.out.2.1.cell 0 _ rfl
 go_wp2_with fail
 refine (HO.out W).mono ?_;rintro r u ⟨⟨v1,rfl,hN1⟩,hb1⟩;obtain ⟨a1,c1,rfl,hN0⟩:=Lo.shape FX.out hN1;have D1:=HD.out.1.below hb1 HD.out.1.lt;have D2:=HD.out.2.1.below hb1 HD.out.2.1.lt;obtain ⟨U,hU⟩:∃ U,U=((u.setCell ⟨w.heap.size+1,1,none⟩ (.bool (dN ox))).setCell ⟨w.heap.size+1,2,none⟩ (.slice a1 (ws (dX ox)).length c1)).setCell ⟨w.heap.size+1,3,none⟩ (.int .i64 (dE ox)):=⟨_,rfl⟩;have s0:=D2.cell 0 _ rfl;have s1:=D2.cell 1 _ rfl;have s2:=D2.cell 2 _ rfl;have s3:=D2.cell 3 _ rfl;have g1:=D2.frozen 1;have g2:=D2.frozen 2;have g3:=D2.frozen 3
 have HN:Aside (Bl U w.heap.size 68 [.int .i64 0,.bool false,.slice none 0 0,.int .i64 0]∧Bl U (w.heap.size+1) 68 [.int .i64 0,.bool (dN ox),.slice a1 (ws (dX ox)).length c1,.int .i64 (dE ox)]∧Nt (w.heap.size+2) U (.slice a1 (ws (dX ox)).length c1) (dX ox)∧Below w.heap.size w U):=by
  have hz:=HD.out.2.2.2;rw [hU];refine ⟨Bl.but D1 ((((But.refl _ _).set 1 _).set 2 _).set 3 _) hne,((D2.set 1 _).set 2 _).set 3 _,?_,?_⟩
  · refine (hN1.mono (show w.heap.size+2≤W.heap.size by omega)).stay (fun g hg=>?_) (Nat.le_refl _)
    rw [Below.heap_setCell _ _ _ _ (by simp;omega),Below.heap_setCell _ _ _ _ (by simp;omega),Below.heap_setCell _ _ _ _ (by simp;omega)]
  · have:=HD.out.2.2.1.trans (hb1.mono HD.out.2.2.1.size)
    exact st_bel7 (by omega) (st_bel7 (by omega) (st_bel7 (by omega) this))
 have HU:=qsd hU;clear hU hN1 hN0 hb1 HO D1 D2 HD HWW z0
 go_upto_region 4 with fail
 rw [←HU.out];clear HU s0 s1 s2 s3 g1 g2 g3;have q0:=HN.out.1.cell 0 _ rfl;have q1:=HN.out.1.cell 1 _ rfl;have q2:=HN.out.1.cell 2 _ rfl;have q3:=HN.out.1.cell 3 _ rfl;have f0:=HN.out.1.frozen 0;have f1:=HN.out.1.frozen 1;have f2:=HN.out.1.frozen 2;have f3:=HN.out.1.frozen 3;have s0:=HN.out.2.1.cell 0 _ rfl;have s1:=HN.out.2.1.cell 1 _ rfl;have s2:=HN.out.2.1.cell 2 _ rfl;have s3:=HN.out.2.1.cell 3 _ rfl
 have HF:Aside (Bl ((((U.setCell ⟨w.heap.size,0,none⟩ (.int .i64 0)).setCell ⟨w.heap.size,1,none⟩ (.bool (dN ox))).setCell ⟨w.heap.size,2,none⟩ (.slice a1 (ws (dX ox)).length c1)).setCell ⟨w.heap.size,3,none⟩ (.int .i64 (dE ox))) w.heap.size 68 [.int .i64 0,.bool (dN ox),.slice a1 (ws (dX ox)).length c1,.int .i64 (dE ox)]∧Nt w.heap.size ((((U.setCell ⟨w.heap.size,0,none⟩ (.int .i64 0)).setCell ⟨w.heap.size,1,none⟩ (.bool (dN ox))).setCell ⟨w.heap.size,2,none⟩ (.slice a1 (ws (dX ox)).length c1)).setCell ⟨w.heap.size,3,none⟩ (.int .i64 (dE ox))) (.slice a1 (ws (dX ox)).length c1) (dX ox)∧Below w.heap.size w ((((U.setCell ⟨w.heap.size,0,none⟩ (.int .i64 0)).setCell ⟨w.heap.size,1,none⟩ (.bool (dN ox))).setCell ⟨w.heap.size,2,none⟩ (.slice a1 (ws (dX ox)).length c1)).setCell ⟨w.heap.size,3,none⟩ (.int .i64 (dE ox)))):=by
  refine ⟨(((HN.out.1.set 0 _).set 1 _).set 2 _).set 3 _,?_,?_⟩
  · refine HN.out.2.2.1.stay (fun g hg=>?_) (by omega)
    rw [Below.heap_setCell _ _ _ _ (by simp;omega),Below.heap_setCell _ _ _ _ (by simp;omega),Below.heap_setCell _ _ _ _ (by simp;omega),Below.heap_setCell _ _ _ _ (by simp;omega)]
  · exact st_bel7 (Nat.le_refl _) (st_bel7 (Nat.le_refl _) (st_bel7 (Nat.le_refl _) (st_bel7 (Nat.le_refl _) HN.out.2.2.2)))
 clear HN;go_wp2;have t0:=HF.out.1.cell 0 _ rfl;have t1:=HF.out.1.cell 1 _ rfl;have t2:=HF.out.1.cell 2 _ rfl;have t3:=HF.out.1.cell 3 _ rfl;refine bodyPost_ret (v:=.agg #[.int .i64 0,.bool (dN ox),.slice a1 (ws (dX ox)).length c1,.int .i64 (dE ox)]) (by simp [results,Tryz.results90,go_sem,t0,t1,t2,t3]) rfl ⟨⟨_,rfl,HF.out.2.1⟩,HF.out.2.2⟩
theorem rOf7x (x:Nat) (w:World) (hx:x<18446744073709551616) :
 Calls Tryz.prog 90 #[.float .f64 x] w fun r w'=>(∃ v,r=.returned (.agg #[.int .i64 (kd x:Nat),.bool (dN (oZ x)),v,.int .i64 (dE (oZ x))])∧Nt w.heap.size w' v (dX (oZ x)))∧Below w.heap.size w w':=by
 have no:∀ k:Nat,kd x=k→((k:Int)==0)=false→oZ x=o00→Calls Tryz.prog 90 #[.float .f64 x] w fun r w'=>(∃ v,r=.returned (.agg #[.int .i64 (kd x:Nat),.bool (dN (oZ x)),v,.int .i64 (dE (oZ x))])∧Nt w.heap.size w' v (dX (oZ x)))∧Below w.heap.size w w':=fun k hk h0 ho=>by
  refine (rOf7_no x k w (hid (fun u=>by have:=Kind_any x hx u;rw [hk] at this;exact this)) h0).mono ?_
  rintro r w' ⟨rfl,hb⟩;rw [ho,hk];exact ⟨⟨_,rfl,Nt.nil _ _⟩,hb⟩
 rcases cls_kd hx with ⟨k,c⟩|⟨k,c,_⟩|⟨k,c,n,f,v⟩|⟨k,c,n,f⟩
 · refine no 5 k rfl (oZ_odd ?_)
   intro f
   rcases (fin_parts hx f).2.2.2 with q|q <;> omega
 · have nf:¬ finW x:=by intro f;rcases (fin_parts hx f).2.2.2 with q | q <;> omega
   rcases k with k|k
   · exact no 3 k rfl (oZ_odd nf)
   · exact no 4 k rfl (oZ_odd nf)
 · rcases k with k | k
   · exact no 1 k rfl (oZ_zero f v)
   · exact no 2 k rfl (oZ_zero f v)
 · rw [k]
   exact rOf7y x w hx f k
end
section
open Go.RowKit J
attribute [local go_sem] st_float
def nz7 (j:Nat):Bool:=((j:Int)==1) || ((j:Int)==2)
def en7 (j:Nat):Bool:=((j:Int)==3) || ((j:Int)==4)
def na7 (x y:Nat):Bool:=((kd x:Int)==5) || ((kd y:Int)==5) || ((nz7 (kd x) || nz7 (kd y))&&(en7 (kd x) || en7 (kd y)))
theorem prod7 {x y:Nat}(hx:x<18446744073709551616) (hy:y<18446744073709551616) :
 (na7 x y=true→pK x y=1∧pT x y=0)∧(na7 x y=false→(en7 (kd x) || en7 (kd y))=true→(magW x≤9218868437227405312∧magW y≤9218868437227405312)∧pK x y=(if (negW x != negW y) then 3 else 2)∧pT x y=0) ∧
 (na7 x y=false→(en7 (kd x) || en7 (kd y))=false→(nz7 (kd x) || nz7 (kd y))=true→(magW x≤9218868437227405312∧magW y≤9218868437227405312)∧pK x y=(if (negW x != negW y) then 4 else 5)∧pT x y=0) ∧
 (na7 x y=false→(en7 (kd x) || en7 (kd y))=false→(nz7 (kd x) || nz7 (kd y))=false→finW x∧finW y∧pK x y=0):=by
 have hng:∀ a b:Bool,(!a==b)=(a != b):=by decide
 have inf:∀ z:Nat,clW z=3→magW z≤9218868437227405312:=fun z h=>by
  rcases Nat.lt_or_ge 9218868437227405312 (magW z) with q|q
  · rw [cl_nan q] at h;omega
  · exact q
 have tz:pK x y≠0→pT x y=0:=fun h=>by unfold pT;unfold pK at h;exact pv7_no h
 unfold na7
 rcases cls_kd hx with ⟨k,c⟩|⟨k,c,n⟩|⟨k,c,n,f,v⟩|⟨k,c,n,f⟩
 · have e:pK x y=1:=by
    unfold pK pk;rw [c,if_pos (.inl (by have:=cl_range y;omega))]
   rw [k];refine ⟨fun _=>⟨e,tz (by omega)⟩,(fun h=>by simp at h),(fun h=>by simp at h),(fun h=>by simp at h)⟩
 · rcases cls_kd hy with ⟨k',c'⟩ | ⟨k',c',n'⟩ | ⟨k',c',n',f',v'⟩ | ⟨k',c',n',f'⟩
   · have e:pK x y=1:=by unfold pK pk;rw [c,c',if_pos (.inl (by omega))]
     rw [k'];refine ⟨fun _=>⟨e,tz (by omega)⟩,(fun h=>by simp at h),(fun h=>by simp at h),(fun h=>by simp at h)⟩
   · have e:pK x y=(if (negW x != negW y) then 3 else 2):=by unfold pK pk;rw [c,c',n,n',hng,if_neg (by omega),if_pos (by omega)]
     have e0:pK x y≠0:=by rw [e];split <;> omega
     refine ⟨fun h=>?_,fun _ _=>⟨⟨inf x c,inf y c'⟩,e,tz e0⟩,fun _ h=>?_,fun _ h=>?_⟩
     · exfalso;rcases k with k | k <;> rcases k' with k' | k' <;> rw [k,k'] at h <;> simp [nz7,en7] at h
     · exfalso;rcases k with k | k <;> rw [k] at h <;> simp [en7] at h
     · exfalso;rcases k with k | k <;> rw [k] at h <;> simp [en7] at h
   · have e:pK x y=1:=by unfold pK pk;rw [c,c',if_pos (.inr (by omega))]
     refine ⟨fun _=>⟨e,tz (by omega)⟩,fun h=>?_,fun h=>?_,fun h=>?_⟩
     all_goals exfalso;rcases k with k | k <;> rcases k' with k' | k' <;> rw [k,k'] at h <;> simp [nz7,en7] at h
   · have e:pK x y=(if (negW x != negW y) then 3 else 2):=by unfold pK pk;rw [c,n,n',hng,if_neg (by omega),if_pos (by omega)]
     have e0:pK x y≠0:=by rw [e];split <;> omega
     have hyf:magW y≤9218868437227405312:=Nat.le_of_lt f';refine ⟨fun h=>?_,fun _ _=>⟨⟨inf x c,hyf⟩,e,tz e0⟩,fun _ h=>?_,fun _ h=>?_⟩
     · exfalso;rcases k with k | k <;> rw [k,k'] at h <;> simp [nz7,en7] at h
     · exfalso;rcases k with k | k <;> rw [k] at h <;> simp [en7] at h
     · exfalso;rcases k with k | k <;> rw [k] at h <;> simp [en7] at h
 · have hxf:magW x≤9218868437227405312:=Nat.le_of_lt f
   rcases cls_kd hy with ⟨k',c'⟩|⟨k',c',n'⟩|⟨k',c',n',f',v'⟩|⟨k',c',n',f'⟩
   · have e:pK x y=1:=by unfold pK pk;rw [c,c',if_pos (.inl (by omega))]
     rw [k'];refine ⟨fun _=>⟨e,tz (by omega)⟩,(fun h=>by simp at h),(fun h=>by simp at h),(fun h=>by simp at h)⟩
   · have e:pK x y=1:=by unfold pK pk;rw [c,c',if_pos (.inr (by omega))]
     refine ⟨fun _=>⟨e,tz (by omega)⟩,fun h=>?_,fun h=>?_,fun h=>?_⟩
     all_goals exfalso;rcases k with k | k <;> rcases k' with k' | k' <;> rw [k,k'] at h <;> simp [nz7,en7] at h
   · have e:pK x y=(if (negW x != negW y) then 4 else 5):=by unfold pK pk;rw [c,c',n,n',hng,if_neg (by omega),if_neg (by omega),if_pos (by omega)]
     have e0:pK x y≠0:=by rw [e];split <;> omega
     have hyf:magW y≤9218868437227405312:=Nat.le_of_lt f';refine ⟨fun h=>?_,fun _ h=>?_,fun _ _ _=>⟨⟨hxf,hyf⟩,e,tz e0⟩,fun _ _ h=>?_⟩
     · exfalso;rcases k with k | k <;> rcases k' with k' | k' <;> rw [k,k'] at h <;> simp [nz7,en7] at h
     · exfalso;rcases k with k | k <;> rcases k' with k' | k' <;> rw [k,k'] at h <;> simp [en7] at h
     · exfalso;rcases k with k | k <;> rw [k] at h <;> simp [nz7] at h
   · have e:pK x y=(if (negW x != negW y) then 4 else 5):=by unfold pK pk;rw [c,n,n',hng,if_neg (by omega),if_neg (by omega),if_pos (by omega)]
     have e0:pK x y≠0:=by rw [e];split <;> omega
     have hyf:magW y≤9218868437227405312:=Nat.le_of_lt f';refine ⟨fun h=>?_,fun _ h=>?_,fun _ _ _=>⟨⟨hxf,hyf⟩,e,tz e0⟩,fun _ _ h=>?_⟩
     · exfalso;rcases k with k | k <;> rw [k,k'] at h <;> simp [nz7,en7] at h
     · exfalso;rcases k with k | k <;> rw [k,k'] at h <;> simp [en7] at h
     · exfalso;rcases k with k | k <;> rw [k] at h <;> simp [nz7] at h
 · have hxf:magW x≤9218868437227405312:=Nat.le_of_lt f
   rcases cls_kd hy with ⟨k',c'⟩|⟨k',c',n'⟩|⟨k',c',n',f',v'⟩|⟨k',c',n',f'⟩
   · have e:pK x y=1:=by unfold pK pk;rw [c',if_pos (.inl (by omega))]
     rw [k'];refine ⟨fun _=>⟨e,tz (by omega)⟩,(fun h=>by simp at h),(fun h=>by simp at h),(fun h=>by simp at h)⟩
   · have e:pK x y=(if (negW x != negW y) then 3 else 2):=by unfold pK pk;rw [c',n,n',hng,if_neg (by omega),if_pos (by omega)]
     have e0:pK x y≠0:=by rw [e];split <;> omega
     refine ⟨fun h=>?_,fun _ _=>⟨⟨hxf,inf y c'⟩,e,tz e0⟩,fun _ h=>?_,fun _ h=>?_⟩
     · exfalso;rcases k' with k' | k' <;> rw [k,k'] at h <;> simp [nz7,en7] at h
     · exfalso;rcases k' with k' | k' <;> rw [k'] at h <;> simp [en7] at h
     · exfalso;rcases k' with k' | k' <;> rw [k'] at h <;> simp [en7] at h
   · have e:pK x y=(if (negW x != negW y) then 4 else 5):=by unfold pK pk;rw [c',n,n',hng,if_neg (by omega),if_neg (by omega),if_pos (by omega)]
     have e0:pK x y≠0:=by rw [e];split <;> omega
     have hyf:magW y≤9218868437227405312:=Nat.le_of_lt f';refine ⟨fun h=>?_,fun _ h=>?_,fun _ _ _=>⟨⟨hxf,hyf⟩,e,tz e0⟩,fun _ _ h=>?_⟩
     · exfalso;rcases k' with k' | k' <;> rw [k,k'] at h <;> simp [nz7,en7] at h
     · exfalso;rcases k' with k' | k' <;> rw [k,k'] at h <;> simp [en7] at h
     · exfalso;rcases k' with k' | k' <;> rw [k'] at h <;> simp [nz7] at h
   · have e:pK x y=0:=by unfold pK pk;rw [if_neg (by omega),if_neg (by omega),if_neg (by omega)]
     refine ⟨fun h=>?_,fun _ h=>?_,fun _ _ h=>?_,fun _ _ _=>⟨f,f',e⟩⟩
     all_goals exfalso;rw [k,k'] at h;simp [nz7,en7] at h
end
end Go.Proofs.YthfkleadcnkglaaGreatDoor
