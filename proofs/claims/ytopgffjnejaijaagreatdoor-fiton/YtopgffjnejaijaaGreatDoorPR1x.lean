import Derived.Test.YtopgffjnejaijaaGreatDoorS11ax
import Derived.Deep.RegionWith
import Derived.Test.YtopgffjnejaijaaGreatDoorZ8x
import Derived.RangeFuncNested
import Derived.RangeFuncBound
import Derived.RangeFuncCalls
import Derived.RangeFuncLeaves
import Derived.RangeFuncBox
import Derived.Shelf.Abstract
import Derived.Shelf.RegionOpen
import Derived.WalkKit
import Derived.OwnWalkIn
import Derived.TacticsInMore
import Derived.LoopNIn
import Derived.LoopIn
import Derived.Test.YtopgffjnejaijaaGreatDoorD21x
import Derived.Test.YtopgffjnejaijaaGreatDoorD16x
import Derived.Test.YtopgffjnejaijaaGreatDoorJ2x
import Derived.Deep.RegionHeld3
import Derived.Test.YtopgffjnejaijaaGreatDoorW24x
import Derived.Deep.CutRange
import Derived.Test.YtopgffjnejaijaaGreatDoorD14x
import Derived.BigQuiet
import Derived.Deep.Cut
import Derived.Test.YtopgffjnejaijaaGreatDoorBIeeex
import Derived.Deep.RegionHeld
import Derived.Deep.LoopGhost
set_option linter.unusedVariables false
set_option linter.unusedSimpArgs false
set_option maxHeartbeats 16000000
set_option maxRecDepth 20000
namespace Go.Proofs.YtopgffjnejaijaaGreatDoor
namespace J
end J
section
open Go.RowKit
open Go.Proofs.YtopgffjnejaijaaGreatDoor.B (f64bits f64frombits bw)
attribute [local go_sem] f64bits f64frombits
def kd (b:Nat):Nat :=
 if 9218868437227405312<b%9223372036854775808 then 5
 else if b%9223372036854775808=9218868437227405312 then (if b/9223372036854775808=1 then 4 else 3)
 else if b%9223372036854775808=0 then (if b/9223372036854775808=1 then 1 else 2)
 else 0
def kp (k:Nat):Nat:=if k=5 then 0 else if k=3 then 1 else if k=4 then 2 else if k=1 then 3 else if k=2 then 4 else 5
theorem kd_bw (s:Bool) (e f:Nat) (he:e<2048) (hf:f<4503599627370496):kd (bw s e f)=if e=2047 then (if f=0 then (if s then 4 else 3) else 5) else if e=0∧f=0 then (if s then 1 else 2) else 0:=by
 unfold kd bw;have h1:(s.toNat*9223372036854775808+e*4503599627370496+f)%9223372036854775808=e*4503599627370496+f:=by cases s <;> simp only [Bool.toNat_true,Bool.toNat_false] <;> omega
 have h2:(s.toNat*9223372036854775808+e*4503599627370496+f)/9223372036854775808=s.toNat:=by cases s <;> simp only [Bool.toNat_true,Bool.toNat_false] <;> omega
 rw [h1,h2]
 by_cases he2:e=2047
 · subst he2
   rw [if_pos rfl]
   by_cases hf0:f=0
   · subst hf0;cases s <;> simp
   · rw [if_pos (by omega),if_neg hf0]
 · rw [if_neg he2,if_neg (by omega),if_neg (by omega)]
   by_cases h0:e=0∧f=0
   · obtain ⟨rfl,rfl⟩:=h0;cases s <;> simp
   · rw [if_neg (by omega),if_neg h0]
theorem bySign_any (neg:Bool) (a b:Int) (w:World):Calls Tryz.prog 110 #[.bool neg,.int .i64 a,.int .i64 b] w fun r w'=>r=.returned (.int .i64 (if neg then a else b))∧w'=w:=by
 cases neg <;>
 · go_enter Tryz.func110,Tryz.ntmps110
   go_wp2;go_ret;exact ⟨rfl,rfl⟩
theorem kind_any (b:Nat) (hb:b<18446744073709551616) (w:World):Calls Tryz.prog 91 #[.float .f64 b] w fun r w'=>r=.returned (.int .i64 (kp (kd b):Nat))∧Below w.heap.size w w':=by
 obtain ⟨s,e,f,he,hf,rfl⟩:=B.bw_of b hb;rw [kd_bw s e f he hf];have H:=hid (B.Split_any s e f he hf);obtain ⟨x1,hx1⟩:∃ x,B.xp e=x:=⟨_,rfl⟩;obtain ⟨x2,hx2⟩:∃ x,B.fr e f=x:=⟨_,rfl⟩;rw [hx1,hx2] at H;clear hx1 hx2 hb
 by_cases he2:e=2047
 · subst he2
   by_cases hf0:f=0
   · subst hf0
     have hc:B.cls 2047 0=3:=by unfold B.cls;rw [if_pos rfl,if_pos rfl]
     have hg:B.ng s 2047 0=s:=by unfold B.ng;rw [if_neg (by simp)]
     rw [hc,hg] at H;rw [if_pos rfl,if_pos rfl];have HS:=hid (bySign_any s 2 1);obtain ⟨x,hx⟩:∃ x:Int,(if s then 2 else 1)=x:=⟨_,rfl⟩
     rw [hx] at HS;have hk:((kp (if s then 4 else 3):Nat):Int)=x:=by cases s <;> (subst hx;rfl)
     rw [hk];clear hc hg hx hk;go_enter Tryz.func91,Tryz.ntmps91
     go_wp2_with fail
     refine (H.out _).mono ?_;rintro r w1 ⟨rfl,hb1⟩;have HB:=qsd hb1;have hz:=hb1.size;clear hb1
     go_wp2_with fail
     refine (HS.out _).mono ?_;rintro r w2 ⟨rfl,rfl⟩;go_wp2;go_ret;exact ⟨rfl,(HB.out.alloc hz _)⟩
   · have hc:B.cls 2047 f=4:=by unfold B.cls;rw [if_pos rfl,if_neg hf0]
     rw [hc] at H;rw [if_pos rfl,if_neg hf0];obtain ⟨x3,hx3⟩:∃ x,B.ng s 2047 f=x:=⟨_,rfl⟩;rw [hx3] at H;clear hc hx3;go_enter Tryz.func91,Tryz.ntmps91
     go_wp2_with fail
     refine (H.out _).mono ?_;rintro r w1 ⟨rfl,hb1⟩;have HB:=qsd hb1;have hz:=hb1.size;clear hb1;go_wp2;go_ret;exact ⟨rfl,(HB.out.alloc hz _)⟩
 · rw [if_neg he2]
   have hg:B.ng s e f=s:=by unfold B.ng;rw [if_neg (fun h=>he2 h.1)]
   rw [hg] at H
   by_cases h0:e=0∧f=0
   · obtain ⟨rfl,rfl⟩:=h0
     have hc:B.cls 0 0=0:=by unfold B.cls;rw [if_neg (by omega),if_pos rfl,if_pos rfl]
     rw [hc] at H;rw [if_pos ⟨rfl,rfl⟩];have HS:=hid (bySign_any s 3 4);obtain ⟨x,hx⟩:∃ x:Int,(if s then 3 else 4)=x:=⟨_,rfl⟩
     rw [hx] at HS;have hk:((kp (if s then 1 else 2):Nat):Int)=x:=by cases s <;> (subst hx;rfl)
     rw [hk];clear hc hg hx hk;go_enter Tryz.func91,Tryz.ntmps91
     go_wp2_with fail
     refine (H.out _).mono ?_;rintro r w1 ⟨rfl,hb1⟩;have HB:=qsd hb1;have hz:=hb1.size;clear hb1
     go_wp2_with fail
     refine (HS.out _).mono ?_;rintro r w2 ⟨rfl,rfl⟩;go_wp2;go_ret;exact ⟨rfl,(HB.out.alloc hz _)⟩
   · rw [if_neg h0]
     obtain ⟨c,hc,h1,h2,h3⟩:∃ c:Int,B.cls e f=c∧(c==4)=false∧(c==3)=false∧(c==0)=false:=by
      unfold B.cls;rw [if_neg he2]
      by_cases he0:e=0
      · rw [if_pos he0,if_neg (fun h=>h0 ⟨he0,h⟩)];exact ⟨_,rfl,by decide,by decide,by decide⟩
      · rw [if_neg he0];exact ⟨_,rfl,by decide,by decide,by decide⟩
     rw [hc] at H;clear hc hg;go_enter Tryz.func91,Tryz.ntmps91
     go_wp2_with fail
     refine (H.out _).mono ?_;rintro r w1 ⟨rfl,hb1⟩;have HB:=qsd hb1;have hz:=hb1.size;clear hb1;go_wp2;go_ret;exact ⟨rfl,(HB.out.alloc hz _)⟩
end
section
open Go Go.RowKit J
theorem row14d:∃ d:TypeDesc,Tryz.prog.underlying 42=some d∧d.isRow=true:=by
 have h:(Tryz.prog.underlying 42).any (·.isRow)=true:=by kernel_rfl
 cases hd:Tryz.prog.underlying 42 with
 | none=>rw [hd] at h;cases h
 | some d=>rw [hd] at h;exact ⟨d,rfl,h⟩
theorem size14d:(Tryz.prog.info? 42).map (·.size)=some 3:=by kernel_rfl
theorem result14 {fn:Func}{p:Tmp}(h:fn.results=#[.cell p 42]) (tmps:Array Value) (W:World) (g:Nat) (n:Bool) (v:Value) (e:Int) (hp:tmps.getD p undef=.pointer (some ⟨g,0,none⟩)) (hD:Dk W g n v e) :
 (results fn tmps).run Tryz.prog W=.ok (.agg #[.bool n,v,.int .i64 e]) W:=by
 obtain ⟨d,h1,h2⟩:=row14d
 cases d <;> first
  | exact results_cell_row (P:=Tryz.prog) h tmps W g 42 _ _ _ hp hD h1 rfl (by rw [size14d];rfl)
  | exact absurd h2 (by simp [TypeDesc.isRow])
theorem end14 {fn:Func}{p:Tmp}(hfn:fn.results=#[.cell p 42]) {w base:World}{tmps:Array Value}{o q:Option (Bool×Nat×Int)}{a:Option Addr}{c g:Nat}(h2:tmps.getD p undef=.pointer (some ⟨g,0,none⟩))
 (hL:Lo base g q) (hbw:Below w.heap.size w base) (hg:w.heap.size≤g) (hN:Nt 0 base (.slice a (ws (dX o)).length c) (dX o)) :
 bodyPost Tryz.prog fn (fun r w'=>DVal 0 w' r o∧Below w.heap.size w w') .ret ⟨tmps,[]⟩
  (((base.setCell ⟨g,0,none⟩ (.bool (dN o))).setCell ⟨g,1,none⟩ (.slice a (ws (dX o)).length c)).setCell ⟨g,2,none⟩ (.int .i64 (dE o))):=by
 obtain ⟨a0,c0,hD,hM⟩:=hL;exact bodyPost_ret (v:=.agg #[.bool (dN o),.slice a (ws (dX o)).length c,.int .i64 (dE o)]) (result14 hfn _ _ g _ _ _ h2 (hD.set _ _ _)) rfl ⟨⟨_,rfl,hN.off12 hD _ _ _⟩,st3_bel12 hbw hbw.size hg _ _ _⟩
end
section
open Go Go.RowKit J
theorem DVal.mono14 {w:World}{r:Ending}{lo:Nat}{q:Option (Bool×Nat×Int)}(h:DVal lo w r q):DVal 0 w r q:=by
 obtain ⟨v,rfl,hN⟩:=h;exact ⟨v,rfl,hN.mono (Nat.zero_le _)⟩
theorem Int14 (n:Int) (w:World) (hT:Tab w) (h0:-9223372036854775808≤n) (h1:n≤9223372036854775807) :
 Calls Tryz.prog 45 #[.int .i64 n] w fun r w'=>DVal 0 w' r (gV 0 n)∧Below w.heap.size w w' :=
 (Int_any n w hT h0 h1).mono fun r w' h=>⟨h.1.mono14,h.2⟩
end
section
open Go Go.RowKit J
theorem times19_core (w:World) (a b:Option Addr) (ca cb:Nat) (o p q:Option (Bool×Nat×Int)) (F:Fm q)
 (HC:Hid (∀ u:World,Below w.heap.size w u→Calls Tryz.prog 17 #[.agg #[.bool (dN o),.slice a (ws (dX o)).length ca,.int .i64 (dE o)],.agg #[.bool (dN p),.slice b (ws (dX p)).length cb,.int .i64 (dE p)]] u fun r w'=>(∃ v,r=.returned (.tuple #[.agg #[.bool (dN q),v,.int .i64 (dE q)],.int .i64 0])∧Nt u.heap.size w' v (dX q))∧Below u.heap.size u w')) :
 Calls Tryz.prog 30 #[.agg #[.bool (dN o),.slice a (ws (dX o)).length ca,.int .i64 (dE o)],.agg #[.bool (dN p),.slice b (ws (dX p)).length cb,.int .i64 (dE p)]] w fun r w'=>DVal 0 w' r q∧Below w.heap.size w w':=by
 obtain ⟨W,hW⟩:∃ W,W=((w.alloc (Obj.cells #[.bool (dN o),.slice a (ws (dX o)).length ca,.int .i64 (dE o)] 42)).alloc (Obj.cells #[.bool (dN p),.slice b (ws (dX p)).length cb,.int .i64 (dE p)] 42)).alloc (Obj.cells #[.bool false,.slice none 0 0,.int .i64 0] 42):=⟨_,rfl⟩
 have H0:Aside (Dk W w.heap.size (dN o) (.slice a (ws (dX o)).length ca) (dE o)∧Dk W (w.heap.size+1) (dN p) (.slice b (ws (dX p)).length cb) (dE p)∧Lo W (w.heap.size+2) o00∧Below w.heap.size w W):=by
  subst hW;have z1:=Dk.new (w.alloc (Obj.cells #[.bool (dN o),.slice a (ws (dX o)).length ca,.int .i64 (dE o)] 42)) (dN p) (.slice b (ws (dX p)).length cb) (dE p);have z2:=Lo.zero ((w.alloc (Obj.cells #[.bool (dN o),.slice a (ws (dX o)).length ca,.int .i64 (dE o)] 42)).alloc (Obj.cells #[.bool (dN p),.slice b (ws (dX p)).length cb,.int .i64 (dE p)] 42));rw [World.size_alloc] at z1;rw [World.size_alloc,World.size_alloc] at z2;exact ⟨((Dk.new _ _ _ _).below (below_alloc _ _)).below (below_alloc _ _),z1.below (below_alloc _ _),z2,((below_alloc _ _).trans ((below_alloc _ _).mono (by simp))).trans ((below_alloc _ _).mono (by simp;omega))⟩
 have HW:=qsd hW;have HC1:=hid (HC.out W H0.out.2.2.2);have FF:=qsd F;clear hW HC F;go_enter Tryz.func30,Tryz.ntmps30
 go_upto_region 1 with fail
 rw [←HW.out];clear HW;obtain ⟨x0,x1,x2,xf0,xf1,xf2⟩:=H0.out.1.facts;obtain ⟨y0,y1,y2,yf0,yf1,yf2⟩:=H0.out.2.1.facts
 go_wp2_with fail
 refine HC1.out.mono ?_;rintro r u ⟨⟨v,rfl,hN⟩,hb⟩;obtain ⟨a1,c1,rfl,hN0⟩:=Lo.shape FF.out hN;obtain ⟨U,hU⟩:∃ U,U=u.alloc (Obj.cells #[.bool (dN q),.slice a1 (ws (dX q)).length c1,.int .i64 (dE q)] 42):=⟨_,rfl⟩
 have H1:Aside (Lo U (w.heap.size+2) o00∧Dk U u.heap.size (dN q) (.slice a1 (ws (dX q)).length c1) (dE q)∧Nt 0 U (.slice a1 (ws (dX q)).length c1) (dX q)∧Below w.heap.size w U):=by
  rw [hU];have b0:=H0.out.2.2.2;exact ⟨(H0.out.2.2.1.below hb).below (below_alloc _ _),Dk.new _ _ _ _,hN0.below (below_alloc _ _),(b0.trans (hb.mono b0.size)).trans ((below_alloc _ _).mono (Nat.le_trans b0.size hb.size))⟩
 obtain ⟨gq,hgq⟩:∃ g,g=u.heap.size:=⟨_,rfl⟩;rw [←hgq] at H1;have HU:=(qsd (ai hU hgq));clear hU hN hN0 hb HC1 H0 x0 x1 x2 xf0 xf1 xf2 y0 y1 y2 yf0 yf1 yf2 hgq
 go_upto_region 2 with fail
 rw [←HU.out.1,←HU.out.2];clear HU;obtain ⟨x0,x1,x2,xf0,xf1,xf2⟩:=H1.out.2.1.facts;obtain ⟨p4,q4,D4,M4⟩:=H1.out.1;obtain ⟨y0,y1,y2,yf0,yf1,yf2⟩:=D4.facts;clear D4 M4;go_wp2;exact end14 Tryz.results30 rfl H1.out.1 H1.out.2.2.2 (by omega) H1.out.2.2.1
theorem plus19_core (w:World) (a b:Option Addr) (ca cb:Nat) (o p q:Option (Bool×Nat×Int)) (F:Fm q)
 (HC:Hid (∀ u:World,Below w.heap.size w u→Calls Tryz.prog 19 #[.agg #[.bool (dN o),.slice a (ws (dX o)).length ca,.int .i64 (dE o)],.agg #[.bool (dN p),.slice b (ws (dX p)).length cb,.int .i64 (dE p)]] u fun r w'=>(∃ v,r=.returned (.tuple #[.agg #[.bool (dN q),v,.int .i64 (dE q)],.int .i64 0])∧Nt u.heap.size w' v (dX q))∧Below u.heap.size u w')) :
 Calls Tryz.prog 29 #[.agg #[.bool (dN o),.slice a (ws (dX o)).length ca,.int .i64 (dE o)],.agg #[.bool (dN p),.slice b (ws (dX p)).length cb,.int .i64 (dE p)]] w fun r w'=>DVal 0 w' r q∧Below w.heap.size w w':=by
 obtain ⟨W,hW⟩:∃ W,W=((w.alloc (Obj.cells #[.bool (dN o),.slice a (ws (dX o)).length ca,.int .i64 (dE o)] 42)).alloc (Obj.cells #[.bool (dN p),.slice b (ws (dX p)).length cb,.int .i64 (dE p)] 42)).alloc (Obj.cells #[.bool false,.slice none 0 0,.int .i64 0] 42):=⟨_,rfl⟩
 have H0:Aside (Dk W w.heap.size (dN o) (.slice a (ws (dX o)).length ca) (dE o)∧Dk W (w.heap.size+1) (dN p) (.slice b (ws (dX p)).length cb) (dE p)∧Lo W (w.heap.size+2) o00∧Below w.heap.size w W):=by
  subst hW;have z1:=Dk.new (w.alloc (Obj.cells #[.bool (dN o),.slice a (ws (dX o)).length ca,.int .i64 (dE o)] 42)) (dN p) (.slice b (ws (dX p)).length cb) (dE p);have z2:=Lo.zero ((w.alloc (Obj.cells #[.bool (dN o),.slice a (ws (dX o)).length ca,.int .i64 (dE o)] 42)).alloc (Obj.cells #[.bool (dN p),.slice b (ws (dX p)).length cb,.int .i64 (dE p)] 42));rw [World.size_alloc] at z1;rw [World.size_alloc,World.size_alloc] at z2;exact ⟨((Dk.new _ _ _ _).below (below_alloc _ _)).below (below_alloc _ _),z1.below (below_alloc _ _),z2,((below_alloc _ _).trans ((below_alloc _ _).mono (by simp))).trans ((below_alloc _ _).mono (by simp;omega))⟩
 have HW:=qsd hW;have HC1:=hid (HC.out W H0.out.2.2.2);have FF:=qsd F;clear hW HC F;go_enter Tryz.func29,Tryz.ntmps29
 go_upto_region 1 with fail
 rw [←HW.out];clear HW;obtain ⟨x0,x1,x2,xf0,xf1,xf2⟩:=H0.out.1.facts;obtain ⟨y0,y1,y2,yf0,yf1,yf2⟩:=H0.out.2.1.facts
 go_wp2_with fail
 refine HC1.out.mono ?_;rintro r u ⟨⟨v,rfl,hN⟩,hb⟩;obtain ⟨a1,c1,rfl,hN0⟩:=Lo.shape FF.out hN;obtain ⟨U,hU⟩:∃ U,U=u.alloc (Obj.cells #[.bool (dN q),.slice a1 (ws (dX q)).length c1,.int .i64 (dE q)] 42):=⟨_,rfl⟩
 have H1:Aside (Lo U (w.heap.size+2) o00∧Dk U u.heap.size (dN q) (.slice a1 (ws (dX q)).length c1) (dE q)∧Nt 0 U (.slice a1 (ws (dX q)).length c1) (dX q)∧Below w.heap.size w U):=by
  rw [hU];have b0:=H0.out.2.2.2;exact ⟨(H0.out.2.2.1.below hb).below (below_alloc _ _),Dk.new _ _ _ _,hN0.below (below_alloc _ _),(b0.trans (hb.mono b0.size)).trans ((below_alloc _ _).mono (Nat.le_trans b0.size hb.size))⟩
 obtain ⟨gq,hgq⟩:∃ g,g=u.heap.size:=⟨_,rfl⟩;rw [←hgq] at H1;have HU:=(qsd (ai hU hgq));clear hU hN hN0 hb HC1 H0 x0 x1 x2 xf0 xf1 xf2 y0 y1 y2 yf0 yf1 yf2 hgq
 go_upto_region 2 with fail
 rw [←HU.out.1,←HU.out.2];clear HU;obtain ⟨x0,x1,x2,xf0,xf1,xf2⟩:=H1.out.2.1.facts;obtain ⟨p4,q4,D4,M4⟩:=H1.out.1;obtain ⟨y0,y1,y2,yf0,yf1,yf2⟩:=D4.facts;clear D4 M4;go_wp2;exact end14 Tryz.results29 rfl H1.out.1 H1.out.2.2.2 (by omega) H1.out.2.2.1
theorem less19_core (w:World) (a b:Option Addr) (ca cb:Nat) (o p q:Option (Bool×Nat×Int)) (F:Fm q)
 (HC:Hid (∀ u:World,Below w.heap.size w u→Calls Tryz.prog 18 #[.agg #[.bool (dN o),.slice a (ws (dX o)).length ca,.int .i64 (dE o)],.agg #[.bool (dN p),.slice b (ws (dX p)).length cb,.int .i64 (dE p)]] u fun r w'=>(∃ v,r=.returned (.tuple #[.agg #[.bool (dN q),v,.int .i64 (dE q)],.int .i64 0])∧Nt u.heap.size w' v (dX q))∧Below u.heap.size u w')) :
 Calls Tryz.prog 47 #[.agg #[.bool (dN o),.slice a (ws (dX o)).length ca,.int .i64 (dE o)],.agg #[.bool (dN p),.slice b (ws (dX p)).length cb,.int .i64 (dE p)]] w fun r w'=>DVal 0 w' r q∧Below w.heap.size w w':=by
 obtain ⟨W,hW⟩:∃ W,W=((w.alloc (Obj.cells #[.bool (dN o),.slice a (ws (dX o)).length ca,.int .i64 (dE o)] 42)).alloc (Obj.cells #[.bool (dN p),.slice b (ws (dX p)).length cb,.int .i64 (dE p)] 42)).alloc (Obj.cells #[.bool false,.slice none 0 0,.int .i64 0] 42):=⟨_,rfl⟩
 have H0:Aside (Dk W w.heap.size (dN o) (.slice a (ws (dX o)).length ca) (dE o)∧Dk W (w.heap.size+1) (dN p) (.slice b (ws (dX p)).length cb) (dE p)∧Lo W (w.heap.size+2) o00∧Below w.heap.size w W):=by
  subst hW;have z1:=Dk.new (w.alloc (Obj.cells #[.bool (dN o),.slice a (ws (dX o)).length ca,.int .i64 (dE o)] 42)) (dN p) (.slice b (ws (dX p)).length cb) (dE p);have z2:=Lo.zero ((w.alloc (Obj.cells #[.bool (dN o),.slice a (ws (dX o)).length ca,.int .i64 (dE o)] 42)).alloc (Obj.cells #[.bool (dN p),.slice b (ws (dX p)).length cb,.int .i64 (dE p)] 42));rw [World.size_alloc] at z1;rw [World.size_alloc,World.size_alloc] at z2;exact ⟨((Dk.new _ _ _ _).below (below_alloc _ _)).below (below_alloc _ _),z1.below (below_alloc _ _),z2,((below_alloc _ _).trans ((below_alloc _ _).mono (by simp))).trans ((below_alloc _ _).mono (by simp;omega))⟩
 have HW:=qsd hW;have HC1:=hid (HC.out W H0.out.2.2.2);have FF:=qsd F;clear hW HC F;go_enter Tryz.func47,Tryz.ntmps47
 go_upto_region 1 with fail
 rw [←HW.out];clear HW;obtain ⟨x0,x1,x2,xf0,xf1,xf2⟩:=H0.out.1.facts;obtain ⟨y0,y1,y2,yf0,yf1,yf2⟩:=H0.out.2.1.facts
 go_wp2_with fail
 refine HC1.out.mono ?_;rintro r u ⟨⟨v,rfl,hN⟩,hb⟩;obtain ⟨a1,c1,rfl,hN0⟩:=Lo.shape FF.out hN;obtain ⟨U,hU⟩:∃ U,U=u.alloc (Obj.cells #[.bool (dN q),.slice a1 (ws (dX q)).length c1,.int .i64 (dE q)] 42):=⟨_,rfl⟩
 have H1:Aside (Lo U (w.heap.size+2) o00∧Dk U u.heap.size (dN q) (.slice a1 (ws (dX q)).length c1) (dE q)∧Nt 0 U (.slice a1 (ws (dX q)).length c1) (dX q)∧Below w.heap.size w U):=by
  rw [hU];have b0:=H0.out.2.2.2;exact ⟨(H0.out.2.2.1.below hb).below (below_alloc _ _),Dk.new _ _ _ _,hN0.below (below_alloc _ _),(b0.trans (hb.mono b0.size)).trans ((below_alloc _ _).mono (Nat.le_trans b0.size hb.size))⟩
 obtain ⟨gq,hgq⟩:∃ g,g=u.heap.size:=⟨_,rfl⟩;rw [←hgq] at H1;have HU:=(qsd (ai hU hgq));clear hU hN hN0 hb HC1 H0 x0 x1 x2 xf0 xf1 xf2 y0 y1 y2 yf0 yf1 yf2 hgq
 go_upto_region 2 with fail
 rw [←HU.out.1,←HU.out.2];clear HU;obtain ⟨x0,x1,x2,xf0,xf1,xf2⟩:=H1.out.2.1.facts;obtain ⟨p4,q4,D4,M4⟩:=H1.out.1;obtain ⟨y0,y1,y2,yf0,yf1,yf2⟩:=D4.facts;clear D4 M4;go_wp2;exact end14 Tryz.results47 rfl H1.out.1 H1.out.2.2.2 (by omega) H1.out.2.2.1
theorem sub19 {U:World}{a b:Option Addr}{c d:Nat}{o p q:Option (Bool×Nat×Int)}(F:Fm o) (G:Fm p) (N1:Nt 0 U (.slice a (ws (dX o)).length c) (dX o)) (N2:Nt 0 U (.slice b (ws (dX p)).length d) (dX p)) (hT:Tab U) (h:addD o (mkS (!dN p) (dX p) (dE p))=q) (H:Fm q) :
 Calls Tryz.prog 18 #[.agg #[.bool (dN o),.slice a (ws (dX o)).length c,.int .i64 (dE o)],.agg #[.bool (dN p),.slice b (ws (dX p)).length d,.int .i64 (dE p)]] U fun r w'=>(∃ v,r=.returned (.tuple #[.agg #[.bool (dN q),v,.int .i64 (dE q)],.int .i64 0])∧Nt U.heap.size w' v (dX q))∧Below U.heap.size U w':=by
 have:=Sub_any3 (F.a12 N1) (G.a12 N2) hT (dN o) (dN p) (dE o) (dE p) F.rng.1 F.rng.2 G.rng.1 G.rng.2;rw [val_ws,val_ws,F.re,h] at this;unfold DAns at this;rw [H.er] at this;exact this
theorem times19 {w:World}{a b:Option Addr}{ca cb:Nat}{o p q:Option (Bool×Nat×Int)}(F:Fm o) (G:Fm p) (H:Fm q) (N1:Nt 0 w (.slice a (ws (dX o)).length ca) (dX o)) (N2:Nt 0 w (.slice b (ws (dX p)).length cb) (dX p)) (hT:Tab w) (h:mulD o p=q) :
 Calls Tryz.prog 30 #[.agg #[.bool (dN o),.slice a (ws (dX o)).length ca,.int .i64 (dE o)],.agg #[.bool (dN p),.slice b (ws (dX p)).length cb,.int .i64 (dE p)]] w fun r w'=>DVal 0 w' r q∧Below w.heap.size w w' :=
 times19_core w a b ca cb o p q H (hid fun u hu=>mulP12 F G (N1.below hu) (N2.below hu) (hT.belows hu) h H)
theorem plus19 {w:World}{a b:Option Addr}{ca cb:Nat}{o p q:Option (Bool×Nat×Int)}(F:Fm o) (G:Fm p) (H:Fm q) (N1:Nt 0 w (.slice a (ws (dX o)).length ca) (dX o)) (N2:Nt 0 w (.slice b (ws (dX p)).length cb) (dX p)) (hT:Tab w) (h:addD o p=q) :
 Calls Tryz.prog 29 #[.agg #[.bool (dN o),.slice a (ws (dX o)).length ca,.int .i64 (dE o)],.agg #[.bool (dN p),.slice b (ws (dX p)).length cb,.int .i64 (dE p)]] w fun r w'=>DVal 0 w' r q∧Below w.heap.size w w' :=
 plus19_core w a b ca cb o p q H (hid fun u hu=>addP12' F G (N1.below hu) (N2.below hu) (hT.belows hu) h H)
theorem less19 {w:World}{a b:Option Addr}{ca cb:Nat}{o p q:Option (Bool×Nat×Int)}(F:Fm o) (G:Fm p) (H:Fm q) (N1:Nt 0 w (.slice a (ws (dX o)).length ca) (dX o)) (N2:Nt 0 w (.slice b (ws (dX p)).length cb) (dX p)) (hT:Tab w) (h:addD o (mkS (!dN p) (dX p) (dE p))=q) :
 Calls Tryz.prog 47 #[.agg #[.bool (dN o),.slice a (ws (dX o)).length ca,.int .i64 (dE o)],.agg #[.bool (dN p),.slice b (ws (dX p)).length cb,.int .i64 (dE p)]] w fun r w'=>DVal 0 w' r q∧Below w.heap.size w w' :=
 less19_core w a b ca cb o p q H (hid fun u hu=>sub19 F G (N1.below hu) (N2.below hu) (hT.belows hu) h H)
end
section
open Go Go.RowKit J
def zS {α:Type} (f:α→Int):List α→Int
 | []=>0
 | a::l=>f a+zS f l
theorem zS_fold {α:Type}(f:α→Int):∀ (l:List α) (v:Int),l.foldl (fun v x=>v+f x) v=v+zS f l
 | [],v=>by simp [zS]
 | x::l,v=>by rw [List.foldl_cons,zS_fold f l];show _=v+(f x+zS f l);omega
theorem zS_congr {α:Type}{f g:α→Int}:∀ {l:List α},(∀ x ∈ l,f x=g x)→zS f l=zS g l
 | [],_=>rfl
 | x::l,h=>by show f x+zS f l=g x+zS g l;rw [h x List.mem_cons_self,zS_congr fun y hy=>h y (List.mem_cons_of_mem _ hy)]
theorem zS_mul {α:Type}(f:α→Int) (c:Int):∀ l:List α,zS (fun x=>f x*c) l=zS f l*c
 | []=>by simp [zS]
 | x::l=>by show f x*c+zS _ l=(f x+zS f l)*c;rw [zS_mul f c l,Int.add_mul]
theorem zS_map {α β:Type}(f:β→Int) (g:α→β):∀ l:List α,zS f (l.map g)=zS (fun x=>f (g x)) l
 | []=>rfl
 | x::l=>by show f (g x)+zS f (l.map g)=f (g x)+zS _ l;rw [zS_map f g l]
theorem zS_le {α:Type}{f:α→Int}{m:Nat}:∀ {l:List α},(∀ x ∈ l,Bd m (f x))→(zS f l).natAbs≤l.length*2^m
 | [],_=>by simp [zS]
 | x::l,h=>by
   have h1:=zS_le (l:=l) fun y hy=>h y (List.mem_cons_of_mem _ hy)
   have h2:=h x List.mem_cons_self;unfold Bd at h2
   show (f x+zS f l).natAbs≤(l.length+1)*2^m
   rw [Nat.succ_mul];omega
theorem zS_bd {α:Type}{f:α→Int}{m:Nat}{l:List α}(h:∀ x ∈ l,Bd m (f x)) (hn:l.length≤65536):Bd (m+16) (zS f l):=by
 have h1:=zS_le h;have h2:l.length*2^m≤65536*2^m:=Nat.mul_le_mul_right _ hn;unfold Bd;rw [Nat.pow_add,Nat.mul_comm (2^m)];exact Nat.le_trans h1 h2
theorem fv_one (k:Nat) (hk:k=1074):fvW 4607182418800017408=((2^k:Nat):Int):=by subst hk;decide +kernel
theorem vS_zS (k:Nat) (hk:k=1074) {xs:List Nat}(hW:W64 xs) (hf:∀ x ∈ xs,finW x):vS xs=zS fvW xs*((2^k:Nat):Int):=by
 unfold vS;rw [zS_fold,Int.zero_add,←zS_mul];refine zS_congr fun x hx=>?_
 rw [(pT_mul (hW x hx) (by decide) (hf x hx) (by decide)).1,fv_one k hk]
theorem g_scale {u k m:Nat}{V:Int}(hu:u+k≤100000) (hm:m+k≤90000) (hV:Bd m V):gV (u+k) (V*((2^k:Nat):Int))=gV u V:=by
 have F:=g_fm (u:=u+k) hu (m:=m+k) (by omega) (hV.mul (Bd.nat (Nat.le_refl (2^k))))
 have G:=g_fm (u:=u) (by omega) (m:=m) (by omega) hV
 obtain ⟨j1,e1⟩:=exK (u+k) (by omega)
 obtain ⟨j2,e2⟩:=exK u (by omega)
 refine valO_inj F G ?_;rw [val_g F (by omega) j1 e1,val_g G (by omega) j2 e2,Int.mul_assoc,←Int.natCast_mul,←Nat.pow_add,show k+j1=j2 by omega]
theorem fS_bd19 {xs:List Nat}(hW:W64 xs) (hf:∀ x ∈ xs,finW x) (hl:xs.length≤65536):Bd 2114 (zS fvW xs):=zS_bd (m:=2098) (fun x hx=>fv_bd (hW x hx) (hf x hx)) hl
theorem ex_g (V:Int):exV V=gV 2148 V:=rfl
theorem exS19 {xs:List Nat}(hW:W64 xs) (hf:∀ x ∈ xs,finW x) (hl:xs.length≤65536):exV (vS xs)=gV 1074 (zS fvW xs):=by
 obtain ⟨k,hk⟩:∃ k:Nat,k=1074:=⟨_,rfl⟩;rw [vS_zS k hk hW hf,ex_g];have:=g_scale (u:=1074) (k:=k) (m:=2114) (by omega) (by omega) (fS_bd19 hW hf hl)
 rw [show 1074+k=2148 by omega] at this
 exact this
theorem close19 {fn:Func}{p:Tmp}(hfn:fn.results=#[.cell p 42]) {w base:World}{tmps:Array Value}{o:Option (Bool×Nat×Int)}{v x y z:Value}{lo:Nat}(h2:tmps.getD p undef=.pointer (some ⟨w.heap.size,0,none⟩))
 (hZ:Bl base w.heap.size 42 [x,y,z]) (hbw:Below w.heap.size w base) (hN:Nt lo base v (dX o)) (hlo:w.heap.size<lo) :
 bodyPost Tryz.prog fn (fun r w'=>∃ v,r=.returned (.agg #[.bool (dN o),v,.int .i64 (dE o)])∧Nt w.heap.size w' v (dX o)∧Below w.heap.size w w') .ret ⟨tmps,[]⟩
  (((base.setCell ⟨w.heap.size,0,none⟩ (.bool (dN o))).setCell ⟨w.heap.size,1,none⟩ v).setCell ⟨w.heap.size,2,none⟩ (.int .i64 (dE o))):=by
 have q:Bl (((base.setCell ⟨w.heap.size,0,none⟩ (.bool (dN o))).setCell ⟨w.heap.size,1,none⟩ v).setCell ⟨w.heap.size,2,none⟩ (.int .i64 (dE o))) w.heap.size 42 [.bool (dN o),v,.int .i64 (dE o)]:=((hZ.set 0 _).set 1 _).set 2 _;have hbut:But w.heap.size base (((base.setCell ⟨w.heap.size,0,none⟩ (.bool (dN o))).setCell ⟨w.heap.size,1,none⟩ v).setCell ⟨w.heap.size,2,none⟩ (.int .i64 (dE o))):=(((But.refl _ _).set 0 _).set 1 _).set 2 _;refine bodyPost_ret (v:=.agg #[.bool (dN o),v,.int .i64 (dE o)]) (row_result hfn _ _ w.heap.size [.bool (dN o),v,.int .i64 (dE o)] h2 q Tryz.row_dyad (by rw [Tryz.size_dyad];rfl)) rfl ?_
 exact ⟨v,rfl,(hN.but7 hbut hlo).mono (by omega),But.below hbw hbut hbw.size (Nat.le_refl _)⟩
theorem HB19:∃ k:Nat,k=4238∧HB=2^k:=⟨4238,rfl,HB_two 4238 rfl⟩
theorem vS_bd {xs:List Nat}(hW:W64 xs) (hl:xs.length≤65536):∃ k:Nat,k=4238∧(vS xs).natAbs<2^k:=by
 obtain ⟨k,hk,e⟩:=HB19;refine ⟨k,hk,?_⟩;rw [←e];have h1:=vS_bound xs hW xs.length (Nat.le_refl _);rw [List.take_length] at h1;have h3:xs.length*QB≤65536*QB:=Nat.mul_le_mul_right _ hl;have h4:=QB_HB;have h5:=QB_pos;omega
theorem vS_fm {xs:List Nat}(hW:W64 xs) (hl:xs.length≤65536):Fm (exV (vS xs)):=by
 obtain ⟨k,hk,h⟩:=vS_bd hW hl;exact ex_fm _ k (by omega) h
theorem total19a (xs:List Nat) (a:Option Addr) (n c:Nat) (w:World) (hn:n=xs.length) (hF:Fs w.heap.size w a xs) (hW:W64 xs) (hT:Tab w) (hl:n≤65536) :
 Calls Tryz.prog 46 #[.slice a n c] w fun r w'=>∃ v,r=.returned (.agg #[.bool (dN (exV (vS xs))),v,.int .i64 (dE (exV (vS xs)))])∧Nt w.heap.size w' v (dX (exV (vS xs)))∧Below w.heap.size w w':=by
 have HX:=qsd (ai hn (ai hF (ai hW (ai hT hl))));obtain ⟨o,ho⟩:∃ o,o=exV (vS xs):=⟨_,rfl⟩;rw [←ho];have HO:=qsd ho;clear hn hF hW hT ho;obtain ⟨W1,hW1⟩:∃ W,W=w.alloc (.cells #[.bool false,.slice none 0 0,.int .i64 0] 42):=⟨_,rfl⟩
 have H1:Aside (Below w.heap.size w W1∧Bl W1 w.heap.size 42 [.bool false,.slice none 0 0,.int .i64 0]∧W1.heap.size=w.heap.size+1):=by
  subst hW1;exact ⟨bel_alloc _ _,Bl.new _ 42 [_,_,_],by simp⟩
 go_enter Tryz.func46,Tryz.ntmps46
 go_wp2_with fail
 rw [←hW1];clear hW1;refine (New7 W1).mono ?_;rintro r w2 ⟨rfl,hA,hb2⟩;obtain ⟨g,hg⟩:∃ g,g=W1.heap.size:=⟨_,rfl⟩;rw [←hg] at hA ⊢
 have P2:Aside (Bl w2 w.heap.size 42 [.bool false,.slice none 0 0,.int .i64 0]∧Below w.heap.size w w2∧w.heap.size<g∧Acc7 w2 g 0 ⟨0,0,0,0,0,0⟩) :=
  ⟨H1.out.2.1.below hb2 (by have:=H1.out.2.2;omega),H1.out.1.trans (hb2.mono (by have:=H1.out.2.2;omega)),by have:=H1.out.2.2;omega,hA⟩
 clear hb2 hA hg H1;go_wp2
 go_loopg [9] n (fun gk i wr=>∃ k:Nat,gk+k=n∧i=.int .i64 (k:Nat)∧Aside (Acc7 wr g (vS (xs.take k)) (sS (xs.take k))∧Bl wr w.heap.size 42 [.bool false,.slice none 0 0,.int .i64 0]∧Below w.heap.size w wr))
 case atStart=>exact ⟨0,by omega,by simp,by simpa [vS,sS] using P2.out.2.2.2,P2.out.1,P2.out.2.1⟩
 case round =>
  obtain ⟨k,hgk,rfl,HA⟩:=hrel
  by_cases hk:k<n
  · obtain ⟨b,off,rfl,hc⟩:=HX.out.2.1.at HA.out.2.2 k (by rw [←HX.out.1];exact hk)
    obtain ⟨x,hx⟩:∃ x,x=xs.getD k 0:=⟨_,rfl⟩;rw [←hx] at hc
    have C:Hid (Calls Tryz.prog 74 #[.pointer (some ⟨g,0,none⟩),.float .f64 x] wr (Did g wr (0,vS (xs.take (k+1)),sS (xs.take (k+1))))):=by
     have hk2:k<xs.length:=by rw [←HX.out.1];exact hk
     obtain ⟨p1,p2⟩:=sS_pos xs k (by omega)
     obtain ⟨v1,v2⟩:=vS_bound xs HX.out.2.2.1 k (by omega)
     have hx64:x<18446744073709551616:=by rw [hx];exact HX.out.2.2.1.get k
     have hsm:=pT_small x 4607182418800017408 hx64 (by decide)
     have hl:=HX.out.2.2.2.2;have hkq:k*QB≤65536*QB:=Nat.mul_le_mul_right _ (by omega)
     have hQ:=QB_HB;have hqp:=QB_pos;have C:=Add7 g (vS (xs.take k)) (sS (xs.take k)) x wr HA.out.1 (p1.ok (by omega)) hx64
     rw [put_ok _ _ _ _ (by omega) (by omega) (by omega)] at C
     rw [vS_take xs k hk2,sS_take xs k hk2,←hx];exact C
    have hkb:k<4611686018427387904:=by have:=HX.out.2.2.2.2;omega
    clear hx
    go_wp2_with fail
    refine (C.out).mono ?_;rintro r w3 ⟨rfl,hA3,hbut⟩;have H3:=qsd (ai hA3 (ai (HA.out.2.1.but hbut (by have:=P2.out.2.2.1;omega)) (But.below HA.out.2.2 hbut HA.out.2.2.size (by have:=P2.out.2.2.1;omega))))
    clear hA3 hbut C;go_wp2
    go_roundg (gk-1)
    case measure=>omega
    case rel=>exact ⟨k+1,by omega,by first | rfl | simp,H3.out⟩
  · obtain rfl:n=k:=by omega
    have hd:decide ((n:Int)<n)=false:=by simp
    have C:Hid (Calls Tryz.prog 51 #[.pointer (some ⟨g,0,none⟩)] wr fun r w'=>∃ v,r=.returned (.agg #[.bool (dN o),v,.int .i64 (dE o)])∧Nt wr.heap.size w' v (dX o)∧Below wr.heap.size wr w'):=by
     have e:xs.take n=xs:=by rw [List.take_of_length_le];rw [←HX.out.1];omega
     have hA:=HA.out.1;rw [e] at hA;rw [HO.out];exact Exact7 g _ _ wr hA (HX.out.2.2.2.1.belows HA.out.2.2)
    have HL:=qsd (HA.out.2.1.lt)
    go_wp2_with fail
    refine (C.out).mono ?_;rintro r w3 ⟨v,rfl,hN,hb3⟩;obtain ⟨a9,c9,rfl,_⟩:=Lo.shape (q:=o) (by rw [HO.out];exact vS_fm HX.out.2.2.1 (by rw [←HX.out.1];exact HX.out.2.2.2.2)) hN
    have B3:=qsd (ai (HA.out.2.1.below hb3 HL.out) (ai (HA.out.2.2.trans (hb3.mono HA.out.2.2.size)) hN));have z0:=B3.out.1.cell 0 _ rfl;have z1:=B3.out.1.cell 1 _ rfl;have z2:=B3.out.1.cell 2 _ rfl;have f0:=B3.out.1.frozen 0;have f1:=B3.out.1.frozen 1;have f2:=B3.out.1.frozen 2;clear hb3 C hN;go_wp2;refine close19 Tryz.results46 ?_ B3.out.1 B3.out.2.1 B3.out.2.2 (HL.out);rfl
theorem total19 (xs:List Nat) (a:Option Addr) (n c:Nat) (w:World) (hn:n=xs.length) (hF:Fs w.heap.size w a xs) (hW:W64 xs) (hf:∀ x ∈ xs,finW x) (hT:Tab w) (hl:n≤65536) :
 Calls Tryz.prog 46 #[.slice a n c] w fun r w'=>DVal 0 w' r (gV 1074 (zS fvW xs))∧Below w.heap.size w w':=by
 refine (total19a xs a n c w hn hF hW hT hl).mono ?_;rintro r w' ⟨v,rfl,hN,hb⟩;rw [exS19 hW hf (by omega)] at hN ⊢
 exact ⟨⟨v,rfl,hN.mono (Nat.zero_le _)⟩,hb⟩
def prI (xs ys:List Nat):List (Nat×Int):=(xs.zip ys).map fun p=>(pK p.1 p.2,pT p.1 p.2)
theorem prI_len {xs ys:List Nat}(h:xs.length=ys.length):(prI xs ys).length=xs.length:=by unfold prI;rw [List.length_map,List.length_zip];omega
theorem prI_take {xs ys:List Nat}(h:xs.length=ys.length) (k:Nat) (hk:k<xs.length):(prI xs ys).take (k+1)=(prI xs ys).take k++[(pK (xs.getD k 0) (ys.getD k 0),pT (xs.getD k 0) (ys.getD k 0))]:=by
 have hk2:k<ys.length:=by omega
 rw [List.take_succ_eq_append_getElem (by rw [prI_len h];exact hk)]
 congr 2
 unfold prI;rw [List.getElem_map,List.getElem_zip];simp [List.getD_eq_getElem?_getD,List.getElem?_eq_getElem hk,List.getElem?_eq_getElem hk2]
theorem vI_zS (I:List (Nat×Int)):vI I=zS (fun p=>p.2) I:=by unfold vI;rw [zS_fold,Int.zero_add]
def pS (xs ys:List Nat):Int:=zS (fun p:Nat×Nat=>fvW p.1*fvW p.2) (xs.zip ys)
theorem prI_v {xs ys:List Nat}(hW:W64 xs) (hV:W64 ys) (hf:∀ x ∈ xs,finW x) (hg:∀ x ∈ ys,finW x):vI (prI xs ys)=pS xs ys:=by
 unfold prI pS;rw [vI_zS,zS_map];refine zS_congr fun p hp=>?_
 have hp:=List.of_mem_zip hp;exact (pT_mul (hW _ hp.1) (hV _ hp.2) (hf _ hp.1) (hg _ hp.2)).1
theorem pS_bd {xs ys:List Nat}(hW:W64 xs) (hV:W64 ys) (hf:∀ x ∈ xs,finW x) (hg:∀ x ∈ ys,finW x) (hl:xs.length≤65536):Bd 4212 (pS xs ys):=by
 refine zS_bd (m:=4196) (fun p hp=>?_) (by rw [List.length_zip];omega)
 have hp:=List.of_mem_zip hp;exact (fv_bd (hW _ hp.1) (hf _ hp.1)).mul (fv_bd (hV _ hp.2) (hg _ hp.2))
theorem products19a (xs ys:List Nat) (a b:Option Addr) (n c d:Nat) (w:World) (hn:n=xs.length) (hn2:n=ys.length) (hF:Fs w.heap.size w a xs) (hF2:Fs w.heap.size w b ys) (hW:W64 xs) (hW2:W64 ys) (hf:∀ x ∈ xs,finW x) (hf2:∀ x ∈ ys,finW x) (hT:Tab w) (hl:n≤65536) :
 Calls Tryz.prog 27 #[.slice a n c,.slice b n d] w fun r w'=>∃ v,r=.returned (.agg #[.bool (dN (gV 2148 (pS xs ys))),v,.int .i64 (dE (gV 2148 (pS xs ys)))])∧Nt w.heap.size w' v (dX (gV 2148 (pS xs ys)))∧Below w.heap.size w w':=by
 have HX:=qsd (ai (ai hn hn2) (ai (ai hF hF2) (ai (ai hW hW2) (ai hT hl))));have HV:Aside (vI (prI xs ys)=pS xs ys∧Fm (gV 2148 (pS xs ys))∧n=(prI xs ys).length):=⟨prI_v hW hW2 hf hf2,g_fm (m:=4212) (by omega) (by omega) (pS_bd hW hW2 hf hf2 (by omega)),by rw [prI_len (by omega)];exact hn⟩
 obtain ⟨o,ho⟩:∃ o,o=gV 2148 (pS xs ys):=⟨_,rfl⟩;rw [←ho];have HO:=qsd ho;clear hn hn2 hF hF2 hW hW2 hf hf2 hT ho;obtain ⟨W1,hW1⟩:∃ W,W=w.alloc (.cells #[.bool false,.slice none 0 0,.int .i64 0] 42):=⟨_,rfl⟩
 have H1:Aside (Below w.heap.size w W1∧Bl W1 w.heap.size 42 [.bool false,.slice none 0 0,.int .i64 0]∧W1.heap.size=w.heap.size+1):=by
  subst hW1;exact ⟨bel_alloc _ _,Bl.new _ 42 [_,_,_],by simp⟩
 go_enter Tryz.func27,Tryz.ntmps27
 go_wp2_with fail
 rw [←hW1];clear hW1;refine (New7 W1).mono ?_;rintro r w2 ⟨rfl,hA,hb2⟩;obtain ⟨g,hg⟩:∃ g,g=W1.heap.size:=⟨_,rfl⟩;rw [←hg] at hA ⊢
 have P2:Aside (Bl w2 w.heap.size 42 [.bool false,.slice none 0 0,.int .i64 0]∧Below w.heap.size w w2∧w.heap.size<g∧Acc7 w2 g 0 ⟨0,0,0,0,0,0⟩) :=
  ⟨H1.out.2.1.below hb2 (by have:=H1.out.2.2;omega),H1.out.1.trans (hb2.mono (by have:=H1.out.2.2;omega)),by have:=H1.out.2.2;omega,hA⟩
 clear hb2 hA hg H1;go_wp2
 go_loopg [11] n (fun gk i wr=>∃ k:Nat,gk+k=n∧i=.int .i64 (k:Nat)∧Aside (At12 wr g ((prI xs ys).take k)∧Bl wr w.heap.size 42 [.bool false,.slice none 0 0,.int .i64 0]∧Below w.heap.size w wr))
 case atStart=>exact ⟨0,by omega,by simp,⟨by simpa [vI,sI] using P2.out.2.2.2,by simp⟩,P2.out.1,P2.out.2.1⟩
 case round =>
  obtain ⟨k,hgk,rfl,HA⟩:=hrel
  by_cases hk:k<n
  · obtain ⟨b1,off,rfl,hc⟩:=HX.out.2.1.1.at HA.out.2.2 k (by rw [←HX.out.1.1];exact hk)
    obtain ⟨b2,off2,rfl,hc2⟩:=HX.out.2.1.2.at HA.out.2.2 k (by rw [←HX.out.1.2];exact hk)
    obtain ⟨x,hx⟩:∃ x,x=xs.getD k 0:=⟨_,rfl⟩;rw [←hx] at hc;obtain ⟨y,hy⟩:∃ x,x=ys.getD k 0:=⟨_,rfl⟩;rw [←hy] at hc2
    have C:Hid (Calls Tryz.prog 50 #[.pointer (some ⟨g,0,none⟩),.float .f64 x,.float .f64 y] wr fun r w'=>r=.returned (.int .i64 0)∧At12 w' g ((prI xs ys).take (k+1))∧But g wr w'):=by
     have hk2:k<xs.length:=by rw [←HX.out.1.1];exact hk
     have hx64:x<18446744073709551616:=by rw [hx];exact HX.out.2.2.1.1.get k
     have hy64:y<18446744073709551616:=by rw [hy];exact HX.out.2.2.1.2.get k
     have hl:=HX.out.2.2.2.2;rw [prI_take (by rw [←HX.out.1.1];exact HX.out.1.2) k hk2,←hx,←hy]
     exact addP12 g _ x y wr HA.out.1 (by rw [List.length_take];omega) hx64 hy64
    have hkb:k<4611686018427387904:=by have:=HX.out.2.2.2.2;omega
    clear hx hy
    go_wp2_with fail
    refine (C.out).mono ?_;rintro r w3 ⟨rfl,hA3,hbut⟩;have H3:=qsd (ai hA3 (ai (HA.out.2.1.but hbut (by have:=P2.out.2.2.1;omega)) (But.below HA.out.2.2 hbut HA.out.2.2.size (by have:=P2.out.2.2.1;omega))))
    clear hA3 hbut C;go_wp2
    go_roundg (gk-1)
    case measure=>omega
    case rel=>exact ⟨k+1,by omega,by first | rfl | simp,H3.out⟩
  · obtain rfl:n=k:=by omega
    have hd:decide ((n:Int)<n)=false:=by simp
    have C:Hid (Calls Tryz.prog 51 #[.pointer (some ⟨g,0,none⟩)] wr fun r w'=>∃ v,r=.returned (.agg #[.bool (dN o),v,.int .i64 (dE o)])∧Nt wr.heap.size w' v (dX o)∧Below wr.heap.size wr w'):=by
     have e:(prI xs ys).take n=prI xs ys:=by rw [List.take_of_length_le];rw [←HV.out.2.2];omega
     have hA:=HA.out.1.1;rw [e] at hA;rw [HO.out,←HV.out.1];exact Exact7 g _ _ wr hA (HX.out.2.2.2.1.belows HA.out.2.2)
    have HL:=qsd (HA.out.2.1.lt)
    go_wp2_with fail
    refine (C.out).mono ?_;rintro r w3 ⟨v,rfl,hN,hb3⟩;obtain ⟨a9,c9,rfl,_⟩:=Lo.shape (q:=o) (by rw [HO.out];exact HV.out.2.1) hN
    have B3:=qsd (ai (HA.out.2.1.below hb3 HL.out) (ai (HA.out.2.2.trans (hb3.mono HA.out.2.2.size)) hN));have z0:=B3.out.1.cell 0 _ rfl;have z1:=B3.out.1.cell 1 _ rfl;have z2:=B3.out.1.cell 2 _ rfl;have f0:=B3.out.1.frozen 0;have f1:=B3.out.1.frozen 1;have f2:=B3.out.1.frozen 2;clear hb3 C hN;go_wp2;refine close19 Tryz.results27 ?_ B3.out.1 B3.out.2.1 B3.out.2.2 (HL.out);rfl
theorem products19 (xs ys:List Nat) (a b:Option Addr) (n c d:Nat) (w:World) (hn:n=xs.length) (hn2:n=ys.length) (hF:Fs w.heap.size w a xs) (hF2:Fs w.heap.size w b ys) (hW:W64 xs) (hW2:W64 ys) (hf:∀ x ∈ xs,finW x) (hf2:∀ x ∈ ys,finW x) (hT:Tab w) (hl:n≤65536) :
 Calls Tryz.prog 27 #[.slice a n c,.slice b n d] w fun r w'=>DVal 0 w' r (gV 2148 (pS xs ys))∧Below w.heap.size w w':=by
 refine (products19a xs ys a b n c d w hn hn2 hF hF2 hW hW2 hf hf2 hT hl).mono ?_;rintro r w' ⟨v,rfl,hN,hb⟩;exact ⟨⟨v,rfl,hN.mono (Nat.zero_le _)⟩,hb⟩
end
end Go.Proofs.YtopgffjnejaijaaGreatDoor
