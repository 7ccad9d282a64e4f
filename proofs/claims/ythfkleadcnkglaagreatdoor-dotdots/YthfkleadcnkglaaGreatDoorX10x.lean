import Derived.Test.YthfkleadcnkglaaGreatDoorZ9x
import Derived.Test.YthfkleadcnkglaaGreatDoorD30x
import Derived.Deep.Cut
import Derived.RangeFuncNested
import Derived.RangeFuncBound
import Derived.RangeFuncCalls
import Derived.RangeFuncLeaves
import Derived.RangeFuncBox
import Derived.Shelf.Abstract
import Derived.Shelf.RegionOpen
import Derived.WalkKit
import Derived.OwnWalkIn
import Derived.TacticsInMore
import Derived.LoopNIn
import Derived.LoopIn
import Derived.OwnWalk
import Derived.ArgAppend
import Derived.Maps.AppendAt
import Derived.WalkMore
import Derived.Test.YthfkleadcnkglaaGreatDoorD5x
import Derived.Test.YthfkleadcnkglaaGreatDoorD21x
import Derived.Test.YthfkleadcnkglaaGreatDoorD16x
import Derived.Test.YthfkleadcnkglaaGreatDoorX6x
import Derived.Test.YthfkleadcnkglaaGreatDoorS5x
import Derived.Test.YthfkleadcnkglaaGreatDoorW9x
import Derived.Test.YthfkleadcnkglaaGreatDoorP2x
import Derived.Deep.RegionWith
import Derived.Test.YthfkleadcnkglaaGreatDoorD32cx
import Derived.Test.YthfkleadcnkglaaGreatDoorO4x
import Derived.Deep.CutRange
import Derived.Test.YthfkleadcnkglaaGreatDoorM1x
import Derived.Test.YthfkleadcnkglaaGreatDoorW13x
import Derived.BigQuiet
set_option linter.unusedVariables false
set_option linter.unusedSimpArgs false
set_option maxHeartbeats 16000000
set_option maxRecDepth 20000
namespace Go.Proofs.YthfkleadcnkglaaGreatDoor
namespace J
end J
section
open Go.RowKit J
theorem st3_but12 (g:Nat) (w:World) (x y z:Value):But g w (st3 w g x y z):=(((But.refl g w).set _ _).set _ _).set _ _
theorem Fm.re {o:Option (Bool×Nat×Int)}(h:Fm o):mkS (dN o) (dX o) (dE o)=o:=by obtain ⟨B,x,h⟩:=h;exact h.reform
def Lo (w:World) (g:Nat) (o:Option (Bool×Nat×Int)):Prop:=∃ a c,Dk w g (dN o) (.slice a (ws (dX o)).length c) (dE o)∧Nt 0 w (.slice a (ws (dX o)).length c) (dX o)
theorem Lo.below {w w':World}{g:Nat}{o:Option (Bool×Nat×Int)}(h:Lo w g o) (hb:Below w.heap.size w w'):Lo w' g o:=by
 obtain ⟨a,c,h1,h2⟩:=h;exact ⟨a,c,h1.below hb,h2.below hb⟩
theorem Nt.off12 {lo g:Nat}{w:World}{v:Value}{X:Nat}{n:Bool}{a:Option Addr}{l c:Nat}{e:Int}(h:Nt lo w v X) (D:Dk w g n (.slice a l c) e) (x y z:Value):Nt lo (st3 w g x y z) v X:=by
 refine h.off (st3_but12 g w x y z) ?_
 rcases h.2 with ⟨rfl,_⟩|⟨g',cap,cur,rfl,_,hg,_⟩
 · simp [Value.ownBlock]
 · intro e'
   obtain rfl:g'=g:=by simpa [Value.ownBlock] using e'
   rw [show w.heap[g']?=_ from D] at hg
   simp at hg
theorem Lo.set {w:World}{g:Nat}{o p:Option (Bool×Nat×Int)}(h:Lo w g o) {a:Option Addr}{c:Nat}(hN:Nt 0 w (.slice a (ws (dX p)).length c) (dX p)) :
 Lo (st3 w g (.bool (dN p)) (.slice a (ws (dX p)).length c) (.int .i64 (dE p))) g p:=by
 obtain ⟨a0,c0,h1,h2⟩:=h;exact ⟨a,c,h1.set _ _ _,hN.off12 h1 _ _ _⟩
theorem Lo.other {w:World}{g g':Nat}{o p:Option (Bool×Nat×Int)}(h:Lo w g o) (h':Lo w g' p) (hg:g≠g') (x y z:Value):Lo (st3 w g' x y z) g o:=by
 obtain ⟨a,c,h1,h2⟩:=h;obtain ⟨a0,c0,k1,k2⟩:=h';exact ⟨a,c,h1.other _ hg _ _ _,h2.off12 k1 _ _ _⟩
theorem Lo.new {w:World}{o:Option (Bool×Nat×Int)}{a:Option Addr}{c:Nat}(hN:Nt 0 w (.slice a (ws (dX o)).length c) (dX o)):Lo (w.alloc (Obj.cells #[.bool (dN o),.slice a (ws (dX o)).length c,.int .i64 (dE o)] 47)) w.heap.size o :=
 ⟨a,c,Dk.new _ _ _ _,hN.below (below_alloc _ _)⟩
abbrev o00:Option (Bool×Nat×Int):=some (false,0,0)
theorem len00:(ws (dX o00)).length=0:=by simp [dX,ws_zero]
theorem Lo.zero (w:World):Lo (w.alloc (Obj.cells #[.bool false,.slice none 0 0,.int .i64 0] 47)) w.heap.size o00:=by
 refine ⟨none,0,?_,?_⟩
 · rw [len00];exact Dk.new _ _ _ _
 · rw [len00];exact Nt.nil _ _
theorem st3_bel12 {B g:Nat}{a w:World}(h:Below B a w) (hB:B≤w.heap.size) (hg:B≤g) (x y z:Value):Below B a (st3 w g x y z):=But.below h (st3_but12 g w x y z) hB hg
theorem Fm.er {o:Option (Bool×Nat×Int)}(h:Fm o):erS o=0:=by
 obtain ⟨B,x,h⟩:=h;obtain ⟨n,X,e,rfl,_⟩:=h.ex;rfl
theorem Fm.a12 {o:Option (Bool×Nat×Int)}{w:World}{a:Option Addr}{c:Nat}(F:Fm o) (N:Nt 0 w (.slice a (ws (dX o)).length c) (dX o)):Arg w a (ws (dX o)).length c (ws (dX o)):=(N.arg' (Nat.le_trans F.len (by decide))).2
theorem mulP12 {U:World}{a b:Option Addr}{c d:Nat}{o p q:Option (Bool×Nat×Int)}(F:Fm o) (G:Fm p) (N1:Nt 0 U (.slice a (ws (dX o)).length c) (dX o)) (N2:Nt 0 U (.slice b (ws (dX p)).length d) (dX p)) (hT:Tab U) (h:mulD o p=q) (H:Fm q) :
 Calls Tryz.prog 111 #[.agg #[.bool (dN o),.slice a (ws (dX o)).length c,.int .i64 (dE o)],.agg #[.bool (dN p),.slice b (ws (dX p)).length d,.int .i64 (dE p)]] U fun r w'=>(∃ v,r=.returned (.tuple #[.agg #[.bool (dN q),v,.int .i64 (dE q)],.int .i64 0])∧Nt U.heap.size w' v (dX q))∧Below U.heap.size U w':=by
 have:=Mul_any3 (F.a12 N1) (G.a12 N2) hT (dN o) (dN p) (dE o) (dE p) F.rng.1 F.rng.2 G.rng.1 G.rng.2;rw [val_ws,val_ws,F.re,G.re,h] at this;unfold DAns at this;rw [H.er] at this;exact this
theorem addP12' {U:World}{a b:Option Addr}{c d:Nat}{o p q:Option (Bool×Nat×Int)}(F:Fm o) (G:Fm p) (N1:Nt 0 U (.slice a (ws (dX o)).length c) (dX o)) (N2:Nt 0 U (.slice b (ws (dX p)).length d) (dX p)) (hT:Tab U) (h:addD o p=q) (H:Fm q) :
 Calls Tryz.prog 112 #[.agg #[.bool (dN o),.slice a (ws (dX o)).length c,.int .i64 (dE o)],.agg #[.bool (dN p),.slice b (ws (dX p)).length d,.int .i64 (dE p)]] U fun r w'=>(∃ v,r=.returned (.tuple #[.agg #[.bool (dN q),v,.int .i64 (dE q)],.int .i64 0])∧Nt U.heap.size w' v (dX q))∧Below U.heap.size U w':=by
 have:=Add_any3 (F.a12 N1) (G.a12 N2) hT (dN o) (dN p) (dE o) (dE p) F.rng.1 F.rng.2 G.rng.1 G.rng.2;rw [val_ws,val_ws,F.re,G.re,h] at this;unfold DAns at this;rw [H.er] at this;exact this
theorem Lo.shape {w:World}{lo:Nat}{v:Value}{q:Option (Bool×Nat×Int)}(H:Fm q) (h:Nt lo w v (dX q)):∃ a c,v=.slice a (ws (dX q)).length c∧Nt 0 w v (dX q):=by
 obtain ⟨a,c,rfl,_⟩:=h.arg (Nat.le_trans H.len (by decide))
 exact ⟨a,c,rfl,h.mono (Nat.zero_le _)⟩
theorem onward12 (w:World) (a b:Option Addr) (ca cb:Nat) (o0 ox oc o1 o2:Option (Bool×Nat×Int)) (c:Nat) (hT:Tab w)
 (FF:Aside (Fm o0∧Fm ox∧Fm oc∧Fm o1∧Fm o2)) (EQ:Aside (mulD o0 ox=o1∧addD o1 oc=o2))
 (N1:Nt 0 w (.slice a (ws (dX o0)).length ca) (dX o0)) (N2:Nt 0 w (.slice b (ws (dX ox)).length cb) (dX ox))
 (HO:Hid (∀ u:World,Tab u→Calls Tryz.prog 57 #[.float .f64 c] u fun r w'=>(∃ v,r=.returned (.tuple #[.agg #[.bool (dN oc),v,.int .i64 (dE oc)],.int .i64 0])∧Nt u.heap.size w' v (dX oc))∧Below u.heap.size u w')) :
 Calls Tryz.prog 59 #[.agg #[.bool (dN o0),.slice a (ws (dX o0)).length ca,.int .i64 (dE o0)],.agg #[.bool (dN ox),.slice b (ws (dX ox)).length cb,.int .i64 (dE ox)],.float .f64 c] w fun r w'=>(∃ v,r=.returned (.tuple #[.agg #[.bool (dN o2),v,.int .i64 (dE o2)],.int .i64 0])∧Nt w.heap.size w' v (dX o2))∧Below w.heap.size w w':=by
 have HT:=qsd hT;obtain ⟨W,hW⟩:∃ W,W=((w.alloc (Obj.cells #[.bool (dN o0),.slice a (ws (dX o0)).length ca,.int .i64 (dE o0)] 47)).alloc (Obj.cells #[.bool (dN ox),.slice b (ws (dX ox)).length cb,.int .i64 (dE ox)] 47)).alloc (Obj.cells #[.bool false,.slice none 0 0,.int .i64 0] 47):=⟨_,rfl⟩
 have H0:Aside (Lo W w.heap.size o0∧Lo W (w.heap.size+1) ox∧Lo W (w.heap.size+2) o00∧Below w.heap.size w W∧W.heap.size=w.heap.size+3):=by
  subst hW;have z2:=Lo.zero ((w.alloc (Obj.cells #[.bool (dN o0),.slice a (ws (dX o0)).length ca,.int .i64 (dE o0)] 47)).alloc (Obj.cells #[.bool (dN ox),.slice b (ws (dX ox)).length cb,.int .i64 (dE ox)] 47));have z1:=(Lo.new (o:=ox) (N2.below (below_alloc w (Obj.cells #[.bool (dN o0),.slice a (ws (dX o0)).length ca,.int .i64 (dE o0)] 47))));rw [World.size_alloc] at z1;rw [World.size_alloc,World.size_alloc] at z2;exact ⟨((Lo.new N1).below (below_alloc _ _)).below (below_alloc _ _),z1.below (below_alloc _ _),z2,((below_alloc _ _).trans ((below_alloc _ _).mono (by simp))).trans ((below_alloc _ _).mono (by simp;omega)),by simp⟩
 have HW:=qsd hW;clear N1 N2 hT hW;have l0:=FF.out.1.len;go_enter Tryz.func59,Tryz.ntmps59
 go_upto_region 1 with fail
 rw [←HW.out];clear HW;have HO1:=hid (HO.out W (HT.out.belows H0.out.2.2.2.1))
 go_wp2_with fail
 refine HO1.out.mono ?_;rintro r u ⟨⟨v,rfl,hN⟩,hb⟩;obtain ⟨a1,c1,rfl,hN0⟩:=Lo.shape FF.out.2.2.1 hN;obtain ⟨U,hU⟩:∃ U,U=u.alloc (Obj.cells #[.bool (dN oc),.slice a1 (ws (dX oc)).length c1,.int .i64 (dE oc)] 47):=⟨_,rfl⟩;have bU:Below W.heap.size W U:=by rw [hU];exact hb.trans ((below_alloc _ _).mono hb.size)
 have H1:Aside (Lo U w.heap.size o0∧Lo U (w.heap.size+1) ox∧Lo U (w.heap.size+2) o00∧Lo U u.heap.size oc∧Below w.heap.size w U∧w.heap.size+2<u.heap.size):=by
  refine ⟨H0.out.1.below bU,H0.out.2.1.below bU,H0.out.2.2.1.below bU,?_,H0.out.2.2.2.1.trans (bU.mono H0.out.2.2.2.1.size),by have:=hb.size;have:=H0.out.2.2.2.2;omega⟩
  rw [hU];exact Lo.new hN0
 have HU:=qsd hU;clear hU hN hN0 hb bU HO1 HO H0
 go_upto_region 4 with fail
 rw [←HU.out];clear HU;obtain ⟨p0,q0,D0,M0⟩:=H1.out.1;obtain ⟨p1,q1,D1,M1⟩:=H1.out.2.1;obtain ⟨x0,x1,x2,xf0,xf1,xf2⟩:=D0.facts;obtain ⟨y0,y1,y2,yf0,yf1,yf2⟩:=D1.facts;have HM:=hid (mulP12 FF.out.1 FF.out.2.1 M0 M1 (HT.out.belows H1.out.2.2.2.2.1) EQ.out.1 FF.out.2.2.2.1);clear D0 M0 D1 M1
 go_wp2_with fail
 refine HM.out.mono ?_;rintro r u2 ⟨⟨v,rfl,hN⟩,hb⟩;obtain ⟨a2,c2,rfl,hN0⟩:=Lo.shape FF.out.2.2.2.1 hN;have s1:=H1.out.1.below hb;have s2:=H1.out.2.2.1.below hb;have s3:=H1.out.2.2.2.1.below hb;have b2:=H1.out.2.2.2.2.1.trans (hb.mono H1.out.2.2.2.2.1.size);obtain ⟨U2,hU2⟩:∃ U2,U2=st3 u2 w.heap.size (.bool (dN o1)) (.slice a2 (ws (dX o1)).length c2) (.int .i64 (dE o1)):=⟨_,rfl⟩
 have H2:Aside (Lo U2 w.heap.size o1∧Lo U2 (w.heap.size+2) o00∧Lo U2 u.heap.size oc∧Below w.heap.size w U2∧w.heap.size+2<u.heap.size):=by
  rw [hU2];have h5:=H1.out.2.2.2.2.2;exact ⟨s1.set hN0,s2.other s1 (by omega) _ _ _,s3.other s1 (by omega) _ _ _,st3_bel12 b2 b2.size (Nat.le_refl _) _ _ _,h5⟩
 obtain ⟨p3,q3,D3,M3⟩:=s1;obtain ⟨z0,z1,z2,zf0,zf1,zf2⟩:=D3.facts;unfold st3 at hU2;have HU2:=qsd hU2;clear D3 M3 hN hN0 hb HM H1 x0 x1 x2 xf0 xf1 xf2 y0 y1 y2 yf0 yf1 yf2 s2 s3 b2 hU2
 go_upto_region 7 with fail
 rw [←HU2.out];clear HU2 z0 z1 z2 zf0 zf1 zf2;obtain ⟨p0,q0,D0,M0⟩:=H2.out.1;obtain ⟨p1,q1,D1,M1⟩:=H2.out.2.2.1;obtain ⟨x0,x1,x2,xf0,xf1,xf2⟩:=D0.facts;obtain ⟨y0,y1,y2,yf0,yf1,yf2⟩:=D1.facts;have HA:=hid (addP12' FF.out.2.2.2.1 FF.out.2.2.1 M0 M1 (HT.out.belows H2.out.2.2.2.1) EQ.out.2 FF.out.2.2.2.2);clear D0 M0 D1 M1
 go_wp2_with fail
 refine HA.out.mono ?_;rintro r u3 ⟨⟨v,rfl,hN⟩,hb⟩;obtain ⟨a3,c3,rfl,hN0⟩:=Lo.shape FF.out.2.2.2.2 hN;have s2:=H2.out.2.1.below hb;have b3:=H2.out.2.2.2.1.trans (hb.mono H2.out.2.2.2.1.size);have h5:=H2.out.2.2.2.2;obtain ⟨p4,q4,D4,M4⟩:=s2;obtain ⟨z0,z1,z2,zf0,zf1,zf2⟩:=D4.facts
 have HF:Aside (Dk (st3 u3 (w.heap.size+2) (.bool (dN o2)) (.slice a3 (ws (dX o2)).length c3) (.int .i64 (dE o2))) (w.heap.size+2) (dN o2) (.slice a3 (ws (dX o2)).length c3) (dE o2)∧Nt w.heap.size (st3 u3 (w.heap.size+2) (.bool (dN o2)) (.slice a3 (ws (dX o2)).length c3) (.int .i64 (dE o2))) (.slice a3 (ws (dX o2)).length c3) (dX o2)∧Below w.heap.size w (st3 u3 (w.heap.size+2) (.bool (dN o2)) (.slice a3 (ws (dX o2)).length c3) (.int .i64 (dE o2)))) :=
  ⟨D4.set _ _ _,(hN.mono (by have:=H2.out.2.2.2.1.size;omega)).off12 D4 _ _ _,st3_bel12 b3 b3.size (by omega) _ _ _⟩
 unfold st3 at HF;clear D4 M4 hN hN0 hb HA H2 x0 x1 x2 xf0 xf1 xf2 y0 y1 y2 yf0 yf1 yf2 b3 h5 FF EQ HT;go_wp2;obtain ⟨f0,f1,f2,_,_,_⟩:=HF.out.1.facts;refine bodyPost_ret (v:=.tuple #[.agg #[.bool (dN o2),.slice a3 (ws (dX o2)).length c3,.int .i64 (dE o2)],.int .i64 0]) (by simp [results,Tryz.results59,go_sem,f0,f1,f2]) rfl ⟨⟨_,rfl,HF.out.2.1⟩,HF.out.2.2⟩
end
section
open Go.RowKit Go.Shelf J
attribute [local go_sem] Oper.semAt_some
abbrev W12:={ x:Nat // x<18446744073709551616 }
def up12 {α:Type} (f:Nat→α) (k:Nat):List α:=(List.range k).map f
theorem up12_succ {α:Type}(f:Nat→α) (k:Nat):up12 f (k+1)=up12 f k++[f k]:=by simp [up12,List.range_succ]
theorem up12_len {α:Type}(f:Nat→α) (k:Nat):(up12 f k).length=k:=by simp [up12]
def dn12 (xs:List Nat) (hW:W64 xs) (n k:Nat):Nat×W12:=(n-1-k,⟨xs.getD (n-1-k) 0,hW.get _⟩)
def Kp12 (n₀ Bs:Nat) (A B:World):Prop:=Below n₀ A B∧B.heap[Bs]?=A.heap[Bs]?
theorem Kp12.trans {n₀ Bs:Nat}{A B C:World}(h:Kp12 n₀ Bs A B) (k:Kp12 n₀ Bs B C):Kp12 n₀ Bs A C:=⟨h.1.trans k.1,k.2.trans h.2⟩
set_option maxRecDepth 100000 in
theorem back1_in (F:Fence) (n:Nat) (h8:F.fn 110) (hro:F.round=none) (hn:1≤n) (l Bs n₀ b off len cap:Nat) (xs:List Nat) (hW:W64 xs) (hlen:len≤33) (hb:b<n₀) (J Jx:List (Nat×W12)→World→Prop)
 (hY:∀ pre x W,J pre W→pre.length<len→YieldAt F (n-1) Tryz.prog l #[.int .i64 (x.1:Int),.float .f64 x.2.1] W fun e W' =>
  (e=.returned (.bool true)∧J (pre++[x]) W'∧Kp12 n₀ Bs W W')∨(e=.returned (.bool false)∧Jx (pre++[x]) W'))
 (W:World) (hBs:W.cell? ⟨Bs,0,none⟩=some (.slice (some ⟨b,off,none⟩) len cap)) (hc:∀ j,j<len→W.cell? ⟨b,off+j,none⟩=some (.float .f64 (xs.getD j 0))) (h0:J [] W) :
 CallsIn F n Tryz.prog 110 #[.func (.yield l) #[] #[],.pointer (some ⟨Bs,0,none⟩)] W fun e W'=>(∃ v,e=.returned v) ∧
  ((∃ ys,ys=up12 (dn12 xs hW len) len∧J ys W')∨(∃ pre,(∃ k,k≤len∧pre=up12 (dn12 xs hW len) k)∧Jx pre W')):=by
 refine callsIn_of_wp Tryz.func110 rfl h8 ?_ hro;simp only [Tryz.ntmps110,List.size_toArray,List.length_cons,List.length_nil,Nat.reduceAdd,Nat.reduceSub,Array.replicate_succ,Array.replicate_zero,List.push_toArray,List.append_toArray,List.nil_append,List.cons_append]
 gi_wp2
 gi_loopw [3] (fun i wr=>∃ m:Nat,m≤len∧i=.int .i64 ((m:Int)-1)∧J (up12 (dn12 xs hW len) (len-m)) wr∧Kp12 n₀ Bs W wr)
  (fun i _=>(intOf i+1).toNat)
 case atStart=>exact ⟨len,Nat.le_refl _,by first | rfl | simp,by simpa [up12] using h0,Below.refl _ _,rfl⟩
 case round =>
  obtain ⟨m,hm,rfl,hJs,hnx⟩:=hrel
  cases m with
  | zero =>
    gi_wp2
    go_end0
    exact ⟨⟨_,rfl⟩,.inl ⟨_,rfl,by simpa using hJs⟩⟩
  | succ j =>
    have ej:((j+1:Nat):Int)-1=(j:Nat):=by omega
    rw [ej];obtain ⟨x,hx⟩:∃ x,x=xs.getD j 0:=⟨_,rfl⟩;have hx64:x<18446744073709551616:=by rw [hx];exact hW.get j
    have hcx:wr.cell? ⟨b,off+j,none⟩=some (.float .f64 x):=by rw [hx];exact (hnx.1.cell (p:=⟨b,off+j,none⟩) hb).trans (hc j (by omega))
    have hcb:wr.cell? ⟨Bs,0,none⟩=some (.slice (some ⟨b,off,none⟩) len cap):=(World.cell?_of_block (a:=⟨Bs,0,none⟩) hnx.2).trans hBs
    have ed:dn12 xs hW len (len-(j+1))=(j,⟨x,hx64⟩):=by
     unfold dn12;have:len-1-(len-(j+1))=j:=by omega
     simp only [this,←hx]
    obtain ⟨fn,tmps,assign,body,hy,hR⟩:=hY _ (j,⟨x,hx64⟩) wr hJs (by rw [up12_len];omega)
    dsimp only at hy
    have hjl:j<len:=by omega
    have hjb:j<33:=by omega
    clear hx
    gi_wp2
    refine hR.mono ?_;rintro e W3 (⟨rfl,hJ3,hk3⟩|⟨rfl,hJx3⟩)
    · gi_wp2
      go_roundw
      case rel=>exact ⟨j,by omega,by first | rfl | simp,by rw [show len-j=len-(j+1)+1 by omega,up12_succ,ed];exact hJ3,hnx.trans hk3⟩
      case measure=>simp [intOf];try omega
    · gi_wp2
      refine bodyPost_ret (results_none rfl _ _ _) rfl ?_;exact ⟨⟨_,rfl⟩,.inr ⟨_,⟨len-(j+1)+1,by omega,by rw [up12_succ,ed]⟩,hJx3⟩⟩
set_option maxRecDepth 100000 in
theorem back1_nil (F:Fence) (n:Nat) (h8:F.fn 110) (hro:F.round=none) (l Bs:Nat) (J:List (Nat×W12)→World→Prop) (W:World) (a:Option Addr) (cap:Nat) (hBs:W.cell? ⟨Bs,0,none⟩=some (.slice a 0 cap)) (h0:J [] W) :
 CallsIn F n Tryz.prog 110 #[.func (.yield l) #[] #[],.pointer (some ⟨Bs,0,none⟩)] W fun e W'=>(∃ v,e=.returned v)∧J [] W':=by
 refine callsIn_of_wp Tryz.func110 rfl h8 ?_ hro;simp only [Tryz.ntmps110,List.size_toArray,List.length_cons,List.length_nil,Nat.reduceAdd,Nat.reduceSub,Array.replicate_succ,Array.replicate_zero,List.push_toArray,List.append_toArray,List.nil_append,List.cons_append]
 gi_wp2
 gi_loopw [3] (fun i wr=>i=.int .i64 (-1)∧J [] wr) (fun _ _=>0)
 case atStart=>exact ⟨by first | rfl | simp,h0⟩
 case round =>
  obtain ⟨rfl,hJs⟩:=hrel
  gi_wp2
  go_end0
  exact ⟨⟨_,rfl⟩,hJs⟩
theorem back_in (F:Fence) (n:Nat) (h6:F.fn 58) (hro:F.round=none) (a:Option Addr) (len cap:Nat) (w:World) :
 CallsIn F n Tryz.prog 58 #[.slice a len cap] w fun e w'=>e=.returned (.func (.func 110) #[] #[.pointer (some ⟨w.heap.size,0,none⟩)])∧w'=w.alloc (.cells #[.slice a len cap] 22):=by
 refine callsIn_of_wp Tryz.func58 rfl h6 ?_ hro;simp only [Tryz.ntmps58,List.size_toArray,List.length_cons,List.length_nil,Nat.reduceAdd,Nat.reduceSub,Array.replicate_succ,Array.replicate_zero,List.push_toArray,List.append_toArray,List.nil_append,List.cons_append]
 gi_wp2
 go_ret;exact ⟨rfl,rfl⟩
theorem back_stops (F:Fence) (n:Nat) (h8:F.fn 110) (hro:F.round=none) (hn:1≤n) (Bs n₀:Nat) (a:Option Addr) (len cap:Nat) (xs:List Nat) (hW:W64 xs) (hl:len=xs.length) (hlen:len≤33) (w:World) (hBs:Bs<w.heap.size) (hn₀:n₀≤w.heap.size)
 (hc:w.cell? ⟨Bs,0,none⟩=some (.slice a len cap)) (hF:Fs n₀ w a xs) :
 SeqStopsK F n Tryz.prog 110 #[.pointer (some ⟨Bs,0,none⟩)] (fun x:Nat×W12=>#[Value.int .i64 (x.1:Int),Value.float .f64 x.2.1]) (Kp12 n₀ Bs) (fun ys=>ys=up12 (dn12 xs hW len) len)
  (fun pre=>∃ k,k≤len∧pre=up12 (dn12 xs hW len) k) len w:=fun l J Jx W hWW _ _ hY h0=>by
 have hc':=(hWW.cell (p:=⟨Bs,0,none⟩) hBs).trans hc
 by_cases hx:xs=[]
 · subst hx
   obtain rfl:len=0:=by simpa using hl
   exact (back1_nil F n h8 hro l Bs J W a cap hc' h0).mono fun e W' ⟨he,hj⟩=>⟨he,.inl ⟨_,rfl,hj⟩⟩
 · obtain ⟨b,off,hb,rfl,hcs⟩:=(hF.below (hWW.mono hn₀)) hx
   exact back1_in F n h8 hro hn l Bs n₀ b off len cap xs hW hlen hb J Jx hY W hc' (fun j hj=>hcs j (by omega)) h0
end
section
open Go.RowKit
theorem frm_fv {n:Bool}{X:Nat}{e:Int}(F:Frm n X e) (B:Int):Fv B (some (n,X,e)) (zv B (n,X,e)):=⟨n,X,e,rfl,F,rfl⟩
theorem ofK_iv (s:Bool) (K:Nat) (hK:K<9218868437227405312):Iv (ofK s K) (-1074) 1024:=by
 obtain ⟨x,hx⟩:∃ x,K/4503599627370496=x:=⟨_,rfl⟩;obtain ⟨f,hf⟩:∃ f,K%4503599627370496=f:=⟨_,rfl⟩;have hxl:x<2047:=by omega
 have hfl:f<4503599627370496:=by omega
 obtain ⟨M,hM⟩:∃ M,(if x=0 then f else f+4503599627370496)=M:=⟨_,rfl⟩
 obtain ⟨E,hE⟩:∃ E:Int,(if x=0 then (-1074:Int) else (x:Int)-1075)=E:=⟨_,rfl⟩
 have hME:(x=0∧M=f∧E=-1074)∨(x≠0∧M=f+4503599627370496∧E=(x:Int)-1075):=by
  by_cases h:x=0
  · rw [if_pos h] at hM hE;exact .inl ⟨h,hM.symm,hE.symm⟩
  · rw [if_neg h] at hM hE;exact .inr ⟨h,hM.symm,hE.symm⟩
 have hMl:M<9007199254740992:=by omega
 have hO:ofK s K=mkS s M E:=by unfold ofK ofR;rw [hx,hf,if_neg (by omega),hM,hE]
 rw [hO];have hb:=bl_le53 M hMl;exact mkS_iv s M E (-1074) 1024 (.inr (by omega)) (by omega) (by omega) (by omega)
end
section
open Go.RowKit Go.Shelf J
attribute [local go_sem] Oper.semAt_some
def oW (x:Nat):Option (Bool×Nat×Int):=fo8 (fvW x)
def pH (x:Nat) (L:List (Nat×W12)):Option (Bool×Nat×Int):=L.foldl (fun o c=>addD (mulD o (oW x)) (oW c.2.1)) o00
theorem pH_snoc (x:Nat) (L:List (Nat×W12)) (c:Nat×W12):pH x (L++[c])=addD (mulD (pH x L) (oW x)) (oW c.2.1):=by simp [pH]
theorem oW_iv (x:Nat) (hx:x<18446744073709551616) (fx:finW x):Iv (oW x) (-1074) 1024:=by
 unfold oW;rw [←of_fo8 hx fx];exact ofK_iv _ _ fx
theorem o00_iv (a b:Int):Iv o00 a b:=by
 refine ⟨false,0,0,rfl,mkS_frm (mkS_zero false 0),.inl rfl⟩
theorem pH_iv (x:Nat) (hx:x<18446744073709551616) (fx:finW x):∀ (L:List (Nat×W12)),(∀ c ∈ L,finW c.2.1)→L.length≤40→Iv (pH x L) (-1074*(L.length+1:Nat)) (1025*(L.length+1:Nat)):=by
 intro L;obtain ⟨k,hk⟩:∃ k,k=L.length:=⟨_,rfl⟩
 induction k generalizing L with
 | zero =>
   intro _ _;have:L=[]:=List.eq_nil_of_length_eq_zero hk.symm;subst this;exact o00_iv _ _
 | succ k ih =>
   intro hf hl;obtain ⟨L',c,rfl⟩:∃ L' c,L=L'++[c]:=⟨L.dropLast,L.getLast (by intro e;subst e;simp at hk),(List.dropLast_concat_getLast _).symm⟩
   have hk':k=L'.length:=by simp at hk;omega
   have h1:=ih L' hk' (fun d hd=>hf d (List.mem_append_left _ hd)) (by simp at hl;omega)
   rw [pH_snoc];simp only [List.length_append,List.length_cons,List.length_nil] at hl ⊢;have h2:=h1.mul (oW_iv x hx fx) (by omega) (by omega) (by omega)
   have h3:=(h2.mono (c:=-1074*((L'.length+1+1:Nat):Int)) (d:=1025*((L'.length+1+1:Nat):Int)-1) (by omega) (by omega)).add ((oW_iv c.2.1 c.2.2 (hf c (by simp))).mono (c:=-1074*((L'.length+1+1:Nat):Int)) (d:=1025*((L'.length+1+1:Nat):Int)-1) (by omega) (by omega)) (by omega) (by omega) (by omega)
   exact h3.mono (by omega) (by omega)
theorem blk_kept {W W':World}{row:Option Nat}(hg:W.grownBy W' row) (hr:∀ r,row=some r→∃ o:Obj,W.heap[r]?=some o∧o.isCells=false) {g:Nat}{cs:Array Value}{t:TypeId}{fz:Nat×Nat}(h:W.heap[g]?=some (.cells cs t fz)):W'.heap[g]?=some (.cells cs t fz) :=
 (grownBy_keeps_cells hg hr h rfl).trans h
theorem Nt.kept12 {lo:Nat}{W W':World}{v:Value}{X:Nat}(h:Nt lo W v X) {row:Option Nat}(hg:W.grownBy W' row) (hr:∀ r,row=Option.some r→∃ o:Obj,W.heap[r]?=Option.some o∧o.isCells=false):Nt lo W' v X:=by
 refine ⟨h.1,?_⟩
 rcases h.2 with hn|⟨g,cap,cur,rfl,hlo,hgc,rest⟩
 · exact .inl hn
 · exact .inr ⟨g,cap,cur,rfl,hlo,blk_kept hg hr hgc,rest⟩
theorem Lo.kept {g:Nat}{W W':World}{o:Option (Bool×Nat×Int)}(h:Lo W g o) {row:Option Nat}(hg:W.grownBy W' row) (hr:∀ r,row=some r→∃ o:Obj,W.heap[r]?=some o∧o.isCells=false):Lo W' g o:=by
 obtain ⟨a,c,h1,h2⟩:=h;exact ⟨a,c,blk_kept hg hr h1,h2.kept12 hg hr⟩
theorem Bx.kept {g t:Nat}{W W':World}{v:Value}(h:Boxed W g t v) {row:Option Nat}(hg:W.grownBy W' row) (hr:∀ r,row=some r→∃ o:Obj,W.heap[r]?=some o∧o.isCells=false):Boxed W' g t v:=blk_kept hg hr h
theorem Bx.below {g t:Nat}{W W':World}{v:Value}(h:Boxed W g t v) (hb:Below W.heap.size W W'):Boxed W' g t v:=(hb.block g h.lt).trans h
theorem of12 (x:Nat) (hx:x<18446744073709551616) (fx:finW x) (u:World) (hT:Tab u):Calls Tryz.prog 57 #[.float .f64 x] u fun r w'=>(∃ v,r=.returned (.tuple #[.agg #[.bool (dN (oW x)),v,.int .i64 (dE (oW x))],.int .i64 0])∧Nt u.heap.size w' v (dX (oW x)))∧Below u.heap.size u w':=of_any8 x ⟨hx,fx⟩ u hT
theorem of12_odd (x:Nat) (hx:x<18446744073709551616) (fx:¬ finW x) (u:World) (hT:Tab u):Calls Tryz.prog 57 #[.float .f64 x] u fun r w'=>(∃ a c,r=.returned (.tuple #[.agg #[.bool false,.slice a 0 c,.int .i64 0],.int .i64 30]))∧Below u.heap.size u w':=by
 have e:B.bw (negW x) (magW x/4503599627370496) (magW x%4503599627370496)=x:=by
  have h1:magW x=x%9223372036854775808:=rfl;unfold B.bw
  by_cases h:9223372036854775808≤x
  · rw [show negW x=true from decide_eq_true h];simp only [Bool.toNat_true];omega
  · rw [show negW x=false from decide_eq_false h];simp only [Bool.toNat_false];omega
 have hm:magW x<9223372036854775808:=Nat.mod_lt _ (by decide)
 have hm2:¬ magW x<9218868437227405312:=fx;have:=Of_any (negW x) (magW x/4503599627370496) (magW x%4503599627370496) (by omega) (by omega) u hT
 rw [e] at this;refine this.mono ?_;rintro r w' ⟨⟨v,rfl,hN⟩,hb⟩;have e1:ofR (negW x) (magW x/4503599627370496) (magW x%4503599627370496)=none:=by unfold ofR;rw [if_pos (by omega)]
 have e2:ofE (magW x/4503599627370496)=30:=by unfold ofE;rw [if_pos (by omega)]
 rw [e1] at hN ⊢;rw [e2];obtain ⟨a,c,rfl,_⟩:=hN.arg (by show (ws 0).length≤_;rw [ws_zero];decide)
 refine ⟨⟨a,c,?_⟩,hb⟩;rw [show (ws (dX (none:Option (Bool×Nat×Int)))).length=0 by simp [dX,ws_zero]]
 rfl
end
section
open Go.RowKit
theorem Iv.fm {o:Option (Bool×Nat×Int)}{a b:Int}(h:Iv o a b):Fm o:=by
 obtain ⟨n,X,e,rfl,F,_⟩:=h;exact ⟨0,_,frm_fv F 0⟩
end
section
open Go.RowKit Go.Shelf J
theorem onward12_odd (w:World) (a b:Option Addr) (la ca lb cb:Nat) (n m:Bool) (e f:Int) (c:Nat)
 (HO:Hid (∀ u:World,Below w.heap.size w u→Calls Tryz.prog 57 #[.float .f64 c] u fun r w'=>(∃ a c,r=.returned (.tuple #[.agg #[.bool false,.slice a 0 c,.int .i64 0],.int .i64 30]))∧Below u.heap.size u w')) :
 Calls Tryz.prog 59 #[.agg #[.bool n,.slice a la ca,.int .i64 e],.agg #[.bool m,.slice b lb cb,.int .i64 f],.float .f64 c] w fun r w'=>r=.returned (.tuple #[.agg #[.bool false,.slice none 0 0,.int .i64 0],.int .i64 30])∧Below w.heap.size w w':=by
 obtain ⟨W,hW⟩:∃ W,W=((w.alloc (Obj.cells #[.bool n,.slice a la ca,.int .i64 e] 47)).alloc (Obj.cells #[.bool m,.slice b lb cb,.int .i64 f] 47)).alloc (Obj.cells #[.bool false,.slice none 0 0,.int .i64 0] 47):=⟨_,rfl⟩
 have H0:Aside (Dk W (w.heap.size+2) false (.slice none 0 0) 0∧Below w.heap.size w W):=by
  subst hW;have z2:=Dk.new ((w.alloc (Obj.cells #[.bool n,.slice a la ca,.int .i64 e] 47)).alloc (Obj.cells #[.bool m,.slice b lb cb,.int .i64 f] 47)) false (.slice none 0 0) 0;rw [World.size_alloc,World.size_alloc] at z2;exact ⟨z2,((below_alloc _ _).trans ((below_alloc _ _).mono (by simp))).trans ((below_alloc _ _).mono (by simp;omega))⟩
 have HW:=qsd hW;clear hW;go_enter Tryz.func59,Tryz.ntmps59
 go_upto_region 1 with fail
 rw [←HW.out];clear HW
 go_wp2_with fail
 refine (HO.out _ H0.out.2).mono ?_;rintro r u ⟨⟨a1,c1,rfl⟩,hb⟩;have D:=(H0.out.1.below hb).below (below_alloc u (Obj.cells #[.bool false,.slice a1 0 c1,.int .i64 0] 47));have B2:=H0.out.2.trans (hb.mono H0.out.2.size)
 have HF:Aside (Dk (st3 (u.alloc (Obj.cells #[.bool false,.slice a1 0 c1,.int .i64 0] 47)) (w.heap.size+2) (.bool false) (.slice none 0 0) (.int .i64 0)) (w.heap.size+2) false (.slice none 0 0) 0∧Below w.heap.size w (st3 (u.alloc (Obj.cells #[.bool false,.slice a1 0 c1,.int .i64 0] 47)) (w.heap.size+2) (.bool false) (.slice none 0 0) (.int .i64 0))) :=
  ⟨D.set _ _ _,st3_bel12 (B2.trans ((below_alloc _ _).mono B2.size)) (Nat.le_trans B2.size (by simp)) (by omega) _ _ _⟩
 obtain ⟨z0,z1,z2,zf0,zf1,zf2⟩:=D.facts;unfold st3 at HF;clear hb HO H0 D B2;go_wp2;obtain ⟨f0,f1,f2,_,_,_⟩:=HF.out.1.facts;refine bodyPost_ret (v:=.tuple #[.agg #[.bool false,.slice none 0 0,.int .i64 0],.int .i64 30]) (by simp [results,Tryz.results59,go_sem,f0,f1,f2]) rfl ⟨rfl,HF.out.2⟩
theorem KeepsOthers.of_below12 {W W':World}(h:Below W.heap.size W W'):KeepsOthers W W':=⟨h.size,fun k o hk _=>(h.block k (Array.getElem?_eq_some_iff.1 hk).1).trans hk⟩
theorem Lo.alloc12 {w:World}{g:Nat}{o:Option (Bool×Nat×Int)}(h:Lo w g o) (b:Obj):Lo (w.alloc b) g o:=h.below (below_alloc _ _)
structure Pl (w W:World) (r v8 v9 vv:Nat) (o ox:Option (Bool×Nat×Int)) (e:Int):Prop where
 val:Lo W vv o
 at8:Lo W v8 ox
 err:Boxed W v9 28 (.int .i64 e)
 r1:Boxed W r 27 (.float .f64 0)
 r2:Boxed W (r+1) 28 (.int .i64 0)
 bel:Below w.heap.size w W
theorem roundP12 {U:World}{a:Option Addr}{c:Nat}{o:Option (Bool×Nat×Int)}(F:Fm o) (N:Nt 0 U (.slice a (ws (dX o)).length c) (dX o)) (hT:Tab U) (mode:Int) (z:Nat×Int) (hz:rndS o mode=z) :
 Calls Tryz.prog 60 #[.agg #[.bool (dN o),.slice a (ws (dX o)).length c,.int .i64 (dE o)],.int .i64 mode] U fun r w'=>r=.returned (.tuple #[.float .f64 z.1,.int .i64 z.2])∧Below U.heap.size U w':=by
 have:=Round_any (F.a12 N) hT (dN o) (dE o) mode F.rng.1 F.rng.2;rw [val_ws,F.re,hz] at this;exact this
theorem up12_sub {α:Type}(f:Nat→α) {k n:Nat}(h:k≤n) {y:α}(hy:y ∈ up12 f k):y ∈ up12 f n:=by
 unfold up12 at hy ⊢;obtain ⟨i,hi,e⟩:=List.mem_map.1 hy;exact List.mem_map.2 ⟨i,List.mem_range.2 (Nat.lt_of_lt_of_le (List.mem_range.1 hi) h),e⟩
theorem Bx.set12 {W:World}{g g' t:Nat}{v:Value}(h:Boxed W g t v) (i:Nat) (u:Value) (hne:g≠g'):Boxed (W.setCell ⟨g',i,none⟩ u) g t v:=(Below.heap_setCell W ⟨g',i,none⟩ u g hne).trans h
theorem Bx.st3 {W:World}{g g' t:Nat}{v:Value}(h:Boxed W g t v) (x y z:Value) (hne:g≠g'):Boxed (st3 W g' x y z) g t v:=Bx.set12 (Bx.set12 (Bx.set12 h 0 x hne) 1 y hne) 2 z hne
theorem Lo.set12 {w:World}{g g':Nat}{o:Option (Bool×Nat×Int)}{t:Nat}{v:Value}(h:Lo w g o) (hb:Boxed w g' t v) (hg:g≠g') (ht:t≠133) (u:Value):Lo (w.setCell ⟨g',0,none⟩ u) g o:=by
 obtain ⟨a,c,h1,h2⟩:=h;refine ⟨a,c,(Below.heap_setCell w ⟨g',0,none⟩ u g hg).trans h1,?_⟩;refine h2.off ((But.refl g' w).set 0 u) ?_
 rcases h2.2 with ⟨e,_⟩|⟨k,cap,cur,e,_,hk,_⟩
 · rw [e];simp [Value.ownBlock]
 · rw [e]
   intro e';obtain rfl:k=g':=by simpa [Value.ownBlock] using e'
   rw [show w.heap[k]?=_ from hb] at hk
   simp at hk;exact ht hk.2
attribute [local go_sem] Oper.semAt_some st_float
set_option maxRecDepth 100000 in
theorem poly12_main (cs:List Nat) (a:Option Addr) (n c x:Nat) (mode:Int) (w:World) (hn:n=cs.length) (hF:Fs w.heap.size w a cs) (hW:W64 cs) (hx:x<18446744073709551616) (fx:finW x) (hT:Tab w) (hm:md mode=true) (hl:n≤33) :
 Calls Tryz.prog 19 #[.slice a n c,.float .f64 x,.int .i64 mode] w fun r w' =>
  ((∀ y ∈ up12 (dn12 cs hW n) n,finW y.2.1)∧r=.returned (.tuple #[.float .f64 (rndS (pH x (up12 (dn12 cs hW n) n)) mode).1,.int .i64 (rndS (pH x (up12 (dn12 cs hW n) n)) mode).2])∨(∃ y ∈ up12 (dn12 cs hW n) n,¬ finW y.2.1)∧r=.returned (.tuple #[.float .f64 0,.int .i64 30]))∧Below w.heap.size w w':=by
 have HI:=hid (fun u:World=>isMode12 mode u)
 rw [hm] at HI;have HO:=hid (fun (u:World) (h:Tab u)=>of12 x hx fx u h)
 have hd:decide ((33:Int)<(n:Int))=false:=by simp;omega
 obtain ⟨ox,hox⟩:∃ o,o=oW x:=⟨_,rfl⟩;rw [←hox] at HO;have Fx:Fm ox:=by rw [hox];exact (oW_iv x hx fx).fm
 have HX:=qsd (ai hn (ai hF (ai hx (ai fx (ai hT (ai hox hl))))));clear hn hF hT hox hm fx hx hl;refine (callsIn_wide (n:=10)).1 ?_;refine callsIn_of_wp_marks Tryz.func19 rfl trivial ?_ rfl;simp only [Tryz.ntmps19,List.size_toArray,List.length_cons,List.length_nil,Nat.reduceAdd,Nat.reduceSub,Array.replicate_succ,Array.replicate_zero,List.push_toArray,List.append_toArray,List.nil_append,List.cons_append]
 gi_wp2_with fail
 refine ⟨trivial,(callsIn_wide.2 (HI.out _)).mono ?_⟩;rintro e w' ⟨rfl,rfl⟩;obtain ⟨W,hW'⟩:∃ W,W=(w.alloc (Obj.cells #[.float .f64 0] 27)).alloc (Obj.cells #[.int .i64 0] 28):=⟨_,rfl⟩
 have H0:Aside (Boxed W w.heap.size 27 (.float .f64 0)∧Boxed W (w.heap.size+1) 28 (.int .i64 0)∧Below w.heap.size w W∧W.heap.size=w.heap.size+2):=by
  subst hW';have z:=Boxed.new (w.alloc (Obj.cells #[.float .f64 0] 27)) 28 (.int .i64 0);rw [World.size_alloc] at z;exact ⟨(Boxed.new w _ _).alloc _,z,(below_alloc _ _).trans ((below_alloc _ _).mono (by simp)),by simp⟩
 clear HI;rw [←hW'];clear hW'
 gi_wp2_with fail
 refine ⟨trivial,(callsIn_wide.2 (HO.out W (HX.out.2.2.2.2.1.belows H0.out.2.2.1))).mono ?_⟩;rintro e u ⟨⟨v,rfl,hN⟩,hb⟩;obtain ⟨a1,c1,rfl,hN0⟩:=Lo.shape Fx hN;have HN:=qsd (ai hN0 hb);clear hN hN0 hb HO
 gi_wp2_with fail
 refine ⟨trivial,(back_in Fence.wide _ trivial rfl _ _ _ _).mono ?_⟩;rintro e w' ⟨rfl,rfl⟩
 gi_wp2_with fail
 obtain ⟨L,hL⟩:∃ L,L=(((u.alloc (Obj.cells #[.bool (dN ox),.slice a1 (ws (dX ox)).length c1,.int .i64 (dE ox)] 47)).alloc (Obj.cells #[.int .i64 0] 28)).alloc (Obj.cells #[.bool false,.slice none 0 0,.int .i64 0] 47)).alloc (Obj.cells #[.slice a n c] 22):=⟨_,rfl⟩;have hLs:L.heap.size=u.heap.size+4:=by rw [hL];simp
 have hus:w.heap.size+2≤u.heap.size:=by have:=HN.out.2.size;have:=H0.out.2.2.2;omega
 have HL:Aside (Pl w L w.heap.size u.heap.size (u.heap.size+1) (u.heap.size+1+1) o00 ox 0∧Boxed L (u.heap.size+1+1+1) 22 (.slice a n c)):=by
  rw [hL];have q1:=Lo.new (o:=ox) HN.out.1;have q2:=Boxed.new (u.alloc (Obj.cells #[.bool (dN ox),.slice a1 (ws (dX ox)).length c1,.int .i64 (dE ox)] 47)) 28 (.int .i64 0);have q3:=Lo.zero ((u.alloc (Obj.cells #[.bool (dN ox),.slice a1 (ws (dX ox)).length c1,.int .i64 (dE ox)] 47)).alloc (Obj.cells #[.int .i64 0] 28));have q4:=Boxed.new (((u.alloc (Obj.cells #[.bool (dN ox),.slice a1 (ws (dX ox)).length c1,.int .i64 (dE ox)] 47)).alloc (Obj.cells #[.int .i64 0] 28)).alloc (Obj.cells #[.bool false,.slice none 0 0,.int .i64 0] 47)) 22 (.slice a n c);rw [World.size_alloc] at q2;rw [World.size_alloc,World.size_alloc] at q3;rw [World.size_alloc,World.size_alloc,World.size_alloc] at q4;have bu:=H0.out.2.2.1.trans (HN.out.2.mono H0.out.2.2.1.size);exact ⟨⟨q3.alloc12 _,((q1.alloc12 _).alloc12 _).alloc12 _,(q2.alloc _).alloc _,((((Bx.below H0.out.1 HN.out.2).alloc _).alloc _).alloc _).alloc _,((((Bx.below H0.out.2.1 HN.out.2).alloc _).alloc _).alloc _).alloc _,(((bu.trans ((below_alloc _ _).mono bu.size)).trans ((below_alloc _ _).mono (by simp;omega))).trans ((below_alloc _ _).mono (by simp;omega))).trans ((below_alloc _ _).mono (by simp;omega))⟩,q4⟩
 rw [←hL];have HLL:=qsd hL;clear hL HN H0
 refine wpIn_rangeFunc_ownF (hro:=rfl) (by omega) (gf:=110) (lb:=#[.pointer (some ⟨u.heap.size+1+1+1,0,none⟩)]) rfl trivial (enters_of Tryz.func110 (by kernel_rfl) rfl)
  (back_stops Fence.wide _ trivial rfl (by omega) (u.heap.size+1+1+1) w.heap.size a n c cs hW HX.out.1 HX.out.2.2.2.2.2.2 L (by omega) (by omega) HL.out.2.cell (HX.out.2.1.below HL.out.1.bel))
  Kp12.trans (fun A l o o' hl h hc hw=>⟨belowK_b (w:=L) (by omega) A l o o' hl h hc hw,World.putObj_heap_other (by omega)⟩) (Below.refl _ _) (fun _=>rfl)
  (fun pre A=>(Lo A (u.heap.size+1+1) (pH x pre)∧Lo A u.heap.size ox∧Boxed A (u.heap.size+1) 28 (.int .i64 0)∧Boxed A w.heap.size 27 (.float .f64 0)∧Boxed A (w.heap.size+1) 28 (.int .i64 0)∧Boxed A (u.heap.size+1+1+1) 22 (.slice a n c)∧∀ y ∈ pre,finW y.2.1)∧Below w.heap.size w A)
  (fun c pre A=>(c=.ret∧Boxed A w.heap.size 27 (.float .f64 0)∧Boxed A (w.heap.size+1) 28 (.int .i64 30)∧∃ y ∈ pre,¬ finW y.2.1)∧Below w.heap.size w A)
  (OwnFrom.and (Own.from (fun s A B row hs hg hr=>⟨hs.1.kept hg hr,hs.2.1.kept hg hr,Bx.kept hs.2.2.1 hg hr,Bx.kept hs.2.2.2.1 hg hr,Bx.kept hs.2.2.2.2.1 hg hr,Bx.kept hs.2.2.2.2.2.1 hg hr,hs.2.2.2.2.2.2⟩) _) (ownFrom_below (Nat.le_refl _) (by omega)))
  (fun c=>OwnFrom.and (Own.from (fun s A B row hs hg hr=>⟨hs.1,Bx.kept hs.2.1 hg hr,Bx.kept hs.2.2.1 hg hr,hs.2.2.2⟩) _) (ownFrom_below (Nat.le_refl _) (by omega)))
  ⟨⟨HL.out.1.val,HL.out.1.at8,HL.out.1.err,HL.out.1.r1,HL.out.1.r2,HL.out.2,fun y hy=>by cases hy⟩,HL.out.1.bel⟩
  (fun y:Nat×W12=>{ tmps:=#[.slice a n c,.float .f64 x,.int .i64 mode,undef,undef,undef,.pointer (some ⟨w.heap.size,0,none⟩),.pointer (some ⟨w.heap.size+1,0,none⟩),.pointer (some ⟨u.heap.size,0,none⟩),.pointer (some ⟨u.heap.size+1,0,none⟩),.pointer (some ⟨u.heap.size+1+1,0,none⟩),undef,.float .f64 y.2.1,.bool false,.int .i64 mode,.bool true,.bool false,.bool false,.slice a n c,.int .i64 (n:Nat),.bool false,.tuple #[.agg #[.bool (dN ox),.slice a1 (ws (dX ox)).length c1,.int .i64 (dE ox)],.int .i64 0],.float .f64 x,.tuple #[.agg #[.bool (dN ox),.slice a1 (ws (dX ox)).length c1,.int .i64 (dE ox)],.int .i64 0],.agg #[.bool (dN ox),.slice a1 (ws (dX ox)).length c1,.int .i64 (dE ox)],.int .i64 0,.int .i64 0,.bool false,undef,.slice a n c,.func (.func 110) #[] #[.pointer (some ⟨u.heap.size+1+1+1,0,none⟩)],.int .i64 (y.1:Int),.float .f64 y.2.1,undef,undef,undef,undef,undef,undef,undef,undef,undef,undef,undef,undef,undef,undef,undef],defers:=[] }) ?assign ?body ?done ?stop
 case assign =>
  intro l y A K hK
  gi_wp2
  exact hK
 case body =>
  rintro l pre y A ⟨⟨hV,hA8,hE,hR1,hR2,hBs,hfin⟩,hB⟩ hlen;have hTA:Tab A:=HX.out.2.2.2.2.1.belows hB;obtain ⟨o0,ho0⟩:∃ o,o=pH x pre:=⟨_,rfl⟩;have hlen33:pre.length<33:=by have:=HX.out.2.2.2.2.2.2;omega
  have iv0:=pH_iv x HX.out.2.2.1 HX.out.2.2.2.1 pre hfin (by omega)
  rw [←ho0] at hV iv0;have HV:Aside (Lo A (u.heap.size+1+1) o0∧Lo A u.heap.size ox∧Boxed A (u.heap.size+1) 28 (.int .i64 0)∧Boxed A w.heap.size 27 (.float .f64 0)∧Boxed A (w.heap.size+1) 28 (.int .i64 0)∧Below w.heap.size w A∧Tab A∧Boxed A (u.heap.size+1+1+1) 22 (.slice a n c)):=⟨hV,hA8,hE,hR1,hR2,hB,hTA,hBs⟩;obtain ⟨p0,q0,D0,M0⟩:=hV;obtain ⟨p1,q1,D1,M1⟩:=hA8;obtain ⟨x0,x1,x2,xf0,xf1,xf2⟩:=D0.facts;obtain ⟨y0,y1,y2,yf0,yf1,yf2⟩:=D1.facts;obtain ⟨yi,⟨yw,hyw⟩⟩:=y
  by_cases fy:finW yw
  · have iv1:=pH_iv x HX.out.2.2.1 HX.out.2.2.2.1 (pre++[(yi,⟨yw,hyw⟩)]) (fun z hz=>by
     rcases List.mem_append.1 hz with h|h
     · exact hfin z h
     · rw [List.mem_singleton] at h;subst h;exact fy) (by simp;omega)
    have ivm:=iv0.mul (oW_iv x HX.out.2.2.1 HX.out.2.2.2.1) (by omega) (by omega) (by omega)
    have hFM:Fm (mulD o0 ox):=by rw [HX.out.2.2.2.2.2.1];exact ivm.fm
    obtain ⟨o2,ho2⟩:∃ o,o=pH x (pre++[(yi,⟨yw,hyw⟩)]):=⟨_,rfl⟩;have F2:Fm o2:=by rw [ho2];exact iv1.fm
    have e2:addD (mulD o0 ox) (oW yw)=o2:=by rw [ho2,pH_snoc,ho0,HX.out.2.2.2.2.2.1]
    have HC:=hid (onward12 A p0 p1 q0 q1 o0 ox (oW yw) (mulD o0 ox) o2 yw hTA ⟨iv0.fm,Fx,(oW_iv yw hyw fy).fm,hFM,F2⟩ ⟨rfl,e2⟩ M0 M1 (hid (fun U hU=>of12 yw hyw fy U hU)))
    have HP:=qsd (ai F2 (ai ho2 (ai hfin fy)));clear D0 M0 D1 M1 hE hR1 hR2 hBs hB hTA iv0 iv1 ivm hFM e2 F2 ho2 ho0 hfin fy hlen
    gi_wp2_with fail
    refine ⟨trivial,(CallsIn.inRound l (callsIn_wide.2 HC.out)).mono ?_⟩;rintro e A2 ⟨⟨v,rfl,hN⟩,hb⟩;obtain ⟨a3,c3,rfl,hN0⟩:=Lo.shape HP.out.1 hN;have s1:=HV.out.1.below hb;have s2:=Bx.below HV.out.2.2.1 hb;have hne1:u.heap.size+1≠u.heap.size+1+1:=by omega
    obtain ⟨A3,hA3⟩:∃ A3,A3=(st3 A2 (u.heap.size+1+1) (.bool (dN o2)) (.slice a3 (ws (dX o2)).length c3) (.int .i64 (dE o2))).setCell ⟨u.heap.size+1,0,none⟩ (.int .i64 0):=⟨_,rfl⟩
    have H3:Aside (KeepsOthers A A3∧Kp12 w.heap.size (u.heap.size+1+1+1) A A3∧(Lo A3 (u.heap.size+1+1) o2∧Lo A3 u.heap.size ox∧Boxed A3 (u.heap.size+1) 28 (.int .i64 0)∧Boxed A3 w.heap.size 27 (.float .f64 0)∧Boxed A3 (w.heap.size+1) 28 (.int .i64 0)∧Boxed A3 (u.heap.size+1+1+1) 22 (.slice a n c))∧Below w.heap.size w A3):=by
     have t1:=s1.set hN0;have t2:=(HV.out.2.1.below hb).other s1 (by omega) (.bool (dN o2)) (.slice a3 (ws (dX o2)).length c3) (.int .i64 (dE o2))
     have t3:=Bx.st3 s2 (.bool (dN o2)) (.slice a3 (ws (dX o2)).length c3) (.int .i64 (dE o2)) hne1;have t4:=Bx.st3 (Bx.below HV.out.2.2.2.1 hb) (.bool (dN o2)) (.slice a3 (ws (dX o2)).length c3) (.int .i64 (dE o2)) (show w.heap.size≠u.heap.size+1+1 by omega)
     have t5:=Bx.st3 (Bx.below HV.out.2.2.2.2.1 hb) (.bool (dN o2)) (.slice a3 (ws (dX o2)).length c3) (.int .i64 (dE o2)) (show w.heap.size+1≠u.heap.size+1+1 by omega)
     have t6:=Bx.st3 (Bx.below HV.out.2.2.2.2.2.2.2 hb) (.bool (dN o2)) (.slice a3 (ws (dX o2)).length c3) (.int .i64 (dE o2)) (show u.heap.size+1+1+1≠u.heap.size+1+1 by omega)
     have hbw:Below w.heap.size A A2:=hb.mono HV.out.2.2.2.2.2.1.size;rw [hA3];have b1:Below w.heap.size A (st3 A2 (u.heap.size+1+1) (.bool (dN o2)) (.slice a3 (ws (dX o2)).length c3) (.int .i64 (dE o2))):=But.below hbw (st3_but12 _ _ _ _ _) (Nat.le_trans HV.out.2.2.2.2.2.1.size hb.size) (by omega)
     have b2:Below w.heap.size A ((st3 A2 (u.heap.size+1+1) (.bool (dN o2)) (.slice a3 (ws (dX o2)).length c3) (.int .i64 (dE o2))).setCell ⟨u.heap.size+1,0,none⟩ (.int .i64 0)):=But.below b1 ((But.refl _ _).set 0 _) (Nat.le_trans HV.out.2.2.2.2.2.1.size b1.size) (by omega)
     refine ⟨((((KeepsOthers.of_below12 hb).trans (KeepsOthers.setCell _ _ _)).trans (KeepsOthers.setCell _ _ _)).trans (KeepsOthers.setCell _ _ _)).trans (KeepsOthers.setCell _ _ _),⟨b2,?_⟩,⟨Lo.set12 t1 t3 (by omega) (by decide) _,Lo.set12 t2 t3 (by omega) (by decide) _,t3.set _,Bx.set12 t4 0 _ (by omega),Bx.set12 t5 0 _ (by omega),Bx.set12 t6 0 _ (by omega)⟩,HV.out.2.2.2.2.2.1.trans b2⟩
     have hk:u.heap.size+1+1+1<A.heap.size:=HV.out.2.2.2.2.2.2.2.lt;have c1:=hb.block _ hk;have c2:=(st3_but12 (u.heap.size+1+1) A2 (.bool (dN o2)) (.slice a3 (ws (dX o2)).length c3) (.int .i64 (dE o2))).block (u.heap.size+1+1+1) (Nat.lt_of_lt_of_le hk hb.size) (by omega)
     have c3':=Below.heap_setCell (st3 A2 (u.heap.size+1+1) (.bool (dN o2)) (.slice a3 (ws (dX o2)).length c3) (.int .i64 (dE o2))) ⟨u.heap.size+1,0,none⟩ (.int .i64 0) (u.heap.size+1+1+1) (show u.heap.size+1+1+1≠u.heap.size+1 by omega)
     exact c3'.trans (c2.trans c1)
    obtain ⟨p3,q3,D3,M3⟩:=s1;obtain ⟨z0,z1,z2,zf0,zf1,zf2⟩:=D3.facts;have ec:=s2.cell;have ef:=s2.frozen;unfold st3 at hA3;have HA3:=qsd hA3;clear D3 M3 hN hN0 hb HC x0 x1 x2 xf0 xf1 xf2 y0 y1 y2 yf0 yf1 yf2 s2 hA3
    gi_wp2
    rw [←HA3.out];obtain ⟨_,e2,hfin,fy⟩:=HP.out;rw [e2] at H3;refine ⟨H3.out.1,H3.out.2.1,⟨H3.out.2.2.1.1,H3.out.2.2.1.2.1,H3.out.2.2.1.2.2.1,H3.out.2.2.1.2.2.2.1,H3.out.2.2.1.2.2.2.2.1,H3.out.2.2.1.2.2.2.2.2,fun z hz=>?_⟩,H3.out.2.2.2⟩
    rcases List.mem_append.1 hz with h|h
    · exact hfin z h
    · rw [List.mem_singleton] at h;subst h;exact fy
  · have HC:=hid (onward12_odd A p0 p1 (ws (dX o0)).length q0 (ws (dX ox)).length q1 (dN o0) (dN ox) (dE o0) (dE ox) yw (hid (fun U hU=>of12_odd yw hyw fy U (hTA.belows hU))))
    have HP:=qsd fy;clear D0 M0 D1 M1 hE hR1 hR2 hBs hB hTA iv0 ho0 hfin fy hlen
    gi_wp2_with fail
    refine ⟨trivial,(CallsIn.inRound l (callsIn_wide.2 HC.out)).mono ?_⟩;rintro e A2 ⟨rfl,hb⟩;have s1:=HV.out.1.below hb;have s2:=Bx.below HV.out.2.2.1 hb;have s3:=Bx.below HV.out.2.2.2.1 hb;have s4:=Bx.below HV.out.2.2.2.2.1 hb;have hne1:u.heap.size+1≠u.heap.size+1+1:=by omega
    have hne2:w.heap.size≠u.heap.size+1+1:=by omega
    have hne3:w.heap.size+1≠u.heap.size+1+1:=by omega
    have hne4:w.heap.size≠u.heap.size+1:=by omega
    have hne5:w.heap.size+1≠u.heap.size+1:=by omega
    have hne6:w.heap.size≠w.heap.size+1:=by omega
    obtain ⟨A3,hA3⟩:∃ A3,A3=(st3 A2 (u.heap.size+1+1) (.bool false) (.slice none 0 0) (.int .i64 0)).setCell ⟨u.heap.size+1,0,none⟩ (.int .i64 30):=⟨_,rfl⟩
    have H3:Aside (KeepsOthers A A3∧Boxed A3 (u.heap.size+1) 28 (.int .i64 30)∧Boxed A3 w.heap.size 27 (.float .f64 0)∧Boxed A3 (w.heap.size+1) 28 (.int .i64 0)∧Below w.heap.size w A3):=by
     rw [hA3];have hbw:Below w.heap.size w A2:=HV.out.2.2.2.2.2.1.trans (hb.mono HV.out.2.2.2.2.2.1.size);have b1:=st3_bel12 hbw hbw.size (show w.heap.size≤u.heap.size+1+1 by omega) (.bool false) (.slice none 0 0) (.int .i64 0)
     exact ⟨((((KeepsOthers.of_below12 hb).trans (KeepsOthers.setCell _ _ _)).trans (KeepsOthers.setCell _ _ _)).trans (KeepsOthers.setCell _ _ _)).trans (KeepsOthers.setCell _ _ _),(Bx.st3 s2 _ _ _ hne1).set _,Bx.set12 (Bx.st3 s3 _ _ _ hne2) 0 _ hne4,Bx.set12 (Bx.st3 s4 _ _ _ hne3) 0 _ hne5,But.below b1 ((But.refl _ _).set 0 _) b1.size (by omega)⟩
    obtain ⟨p3,q3,D3,M3⟩:=s1;obtain ⟨z0,z1,z2,zf0,zf1,zf2⟩:=D3.facts;have ec:=s2.cell;have ef:=s2.frozen;unfold st3 at hA3;have HA3:=qsd hA3;clear HC x0 x1 x2 xf0 xf1 xf2 y0 y1 y2 yf0 yf1 yf2 s2 s3 s4 hA3 hne1 hne2 hne3 D3 M3
    gi_wp2
    rw [←HA3.out];clear HA3 z0 z1 z2 zf0 zf1 zf2 ec ef;have ec:=H3.out.2.1.cell;have r1c:=H3.out.2.2.1.cell;have r1f:=H3.out.2.2.1.frozen;have r2c:=H3.out.2.2.2.1.cell;have r2f:=H3.out.2.2.2.1.frozen;have hmx:Tryz.prog.follows .mixedOrders=true:=by kernel_rfl
    have HF:Aside (KeepsOthers A ((A3.setCell ⟨w.heap.size,0,none⟩ (.float .f64 0)).setCell ⟨w.heap.size+1,0,none⟩ (.int .i64 30)).drew∧(Boxed ((A3.setCell ⟨w.heap.size,0,none⟩ (.float .f64 0)).setCell ⟨w.heap.size+1,0,none⟩ (.int .i64 30)).drew w.heap.size 27 (.float .f64 0)∧Boxed ((A3.setCell ⟨w.heap.size,0,none⟩ (.float .f64 0)).setCell ⟨w.heap.size+1,0,none⟩ (.int .i64 30)).drew (w.heap.size+1) 28 (.int .i64 30))∧Below w.heap.size w ((A3.setCell ⟨w.heap.size,0,none⟩ (.float .f64 0)).setCell ⟨w.heap.size+1,0,none⟩ (.int .i64 30)).drew):=by
     have b1:=But.below H3.out.2.2.2.2 ((But.refl w.heap.size A3).set 0 (.float .f64 0)) H3.out.2.2.2.2.size (Nat.le_refl _);exact ⟨H3.out.1.trans (((KeepsOthers.setCell _ _ _).trans (KeepsOthers.setCell _ _ _)).trans (KeepsOthers.drew _)),⟨Bx.set12 (H3.out.2.2.1.set _) 0 _ hne6,(Bx.set12 H3.out.2.2.2.1 0 _ (by omega)).set _⟩,(But.below b1 ((But.refl (w.heap.size+1) _).set 0 _) b1.size (by omega)).drew⟩
    gi_region_with_o (fail)
    all_goals gi_wp2
    all_goals exact ⟨HF.out.1,⟨rfl,HF.out.2.1.1,HF.out.2.1.2,⟨(yi,⟨yw,hyw⟩),by simp,HP.out⟩⟩,HF.out.2.2⟩
 case done =>
  rintro D ys A hD rfl ⟨⟨hV,hA8,hE,hR1,hR2,hBs,hfin⟩,hB⟩ hK;have hTA:Tab A:=HX.out.2.2.2.2.1.belows hB;have iv0:=pH_iv x HX.out.2.2.1 HX.out.2.2.2.1 _ hfin (by rw [up12_len];have:=HX.out.2.2.2.2.2.2;omega)
  have HP:=qsd hfin;obtain ⟨o0,ho0⟩:∃ o,o=pH x (up12 (dn12 cs hW n) n):=⟨_,rfl⟩;rw [←ho0] at hV iv0;obtain ⟨z,hz⟩:∃ z,rndS o0 mode=z:=⟨_,rfl⟩;obtain ⟨p0,q0,D0,M0⟩:=hV;obtain ⟨x0,x1,x2,xf0,xf1,xf2⟩:=D0.facts;have HR:=hid (roundP12 iv0.fm M0 hTA mode z hz);have HV:Aside (Boxed A w.heap.size 27 (.float .f64 0)∧Boxed A (w.heap.size+1) 28 (.int .i64 0)∧Below w.heap.size w A∧A.heap[D]?=some (.deferred (some []))∧rndS (pH x (up12 (dn12 cs hW n) n)) mode=z):=⟨hR1,hR2,hB,hK,by rw [←ho0];exact hz⟩
  have hne:w.heap.size≠w.heap.size+1:=by omega
  clear D0 M0 hA8 hE hR1 hR2 hBs hfin hB hTA iv0 ho0 hz hK
  gi_wp2_with fail
  refine ⟨trivial,(callsIn_wide.2 HR.out).mono ?_⟩;rintro e A2 ⟨rfl,hb⟩;have s1:=Bx.below HV.out.1 hb;have s2:=Bx.below HV.out.2.1 hb;have e1:=s1.cell;have e2:=s2.cell;have f1:=s1.frozen;have f2:=s2.frozen
  have H3:Aside (Boxed ((A2.setCell ⟨w.heap.size,0,none⟩ (.float .f64 z.1)).setCell ⟨w.heap.size+1,0,none⟩ (.int .i64 z.2)) w.heap.size 27 (.float .f64 z.1)∧Boxed ((A2.setCell ⟨w.heap.size,0,none⟩ (.float .f64 z.1)).setCell ⟨w.heap.size+1,0,none⟩ (.int .i64 z.2)) (w.heap.size+1) 28 (.int .i64 z.2)∧Below w.heap.size w ((A2.setCell ⟨w.heap.size,0,none⟩ (.float .f64 z.1)).setCell ⟨w.heap.size+1,0,none⟩ (.int .i64 z.2))∧((A2.setCell ⟨w.heap.size,0,none⟩ (.float .f64 z.1)).setCell ⟨w.heap.size+1,0,none⟩ (.int .i64 z.2)).heap[D]?=some (.deferred (some []))):=by
   have hbw:=HV.out.2.2.1.trans (hb.mono HV.out.2.2.1.size);refine ⟨Bx.set12 (s1.set _) 0 _ hne,(Bx.set12 s2 0 _ (by omega)).set _,?_,?_⟩
   · have b1:=But.below hbw ((But.refl w.heap.size A2).set 0 (.float .f64 z.1)) hbw.size (Nat.le_refl _)
     exact But.below b1 ((But.refl (w.heap.size+1) _).set 0 _) b1.size (by omega)
   · exact ((KeepsOthers.of_below12 hb).trans ((KeepsOthers.setCell _ _ _).trans (KeepsOthers.setCell _ _ _))).same D _ HV.out.2.2.2.1 rfl
  have HZ:=qsd HV.out.2.2.2.2;clear HV HR hb x0 x1 x2 xf0 xf1 xf2 s1 s2
  gi_wp2
  have g1:=cell_kept H3.out.1.cell (grownBy_putObj' _ D (.deferred none)) (fun r e=>by cases e;exact ⟨_,H3.out.2.2.2,rfl⟩)
  have g2:=cell_kept H3.out.2.1.cell (grownBy_putObj' _ D (.deferred none)) (fun r e=>by cases e;exact ⟨_,H3.out.2.2.2,rfl⟩)
  refine ⟨by simp,.inl ⟨_,_,rfl,run_takeDeferred H3.out.2.2.2,?_⟩⟩
  exact ⟨.tuple #[.float .f64 z.1,.int .i64 z.2],by simp [results,Tryz.results19,go_sem,g1,g2],.inl ⟨HP.out,by rw [HZ.out]⟩,H3.out.2.2.1.trans (belowK_b (w:=L) (by omega) _ D _ _ hD H3.out.2.2.2 rfl rfl)⟩
 case stop =>
  rintro D c pre A hD ⟨k,hk,rfl⟩ ⟨⟨rfl,hR1,hR2,y,hy,hyf⟩,hB⟩ hK
  gi_wp2
  have g1:=cell_kept hR1.cell (grownBy_putObj' A D (.deferred none)) (fun r e=>by cases e;exact ⟨_,hK,rfl⟩)
  have g2:=cell_kept hR2.cell (grownBy_putObj' A D (.deferred none)) (fun r e=>by cases e;exact ⟨_,hK,rfl⟩)
  refine ⟨by simp,.inl ⟨_,_,rfl,run_takeDeferred hK,?_⟩⟩
  exact ⟨.tuple #[.float .f64 0,.int .i64 30],by simp [results,Tryz.results19,go_sem,g1,g2],.inr ⟨⟨y,up12_sub _ hk hy,hyf⟩,rfl⟩,hB.trans (belowK_b (w:=L) (by omega) A D _ _ hD hK rfl rfl)⟩
end
section
open Go.RowKit J
attribute [local go_sem] st_float
set_option maxRecDepth 100000 in
theorem poly12_mode (a:Option Addr) (n c x:Nat) (mode:Int) (w:World) (hm:md mode=false) :
 Calls Tryz.prog 19 #[.slice a n c,.float .f64 x,.int .i64 mode] w fun r w'=>r=.returned (.tuple #[.float .f64 0,.int .i64 1])∧Below w.heap.size w w':=by
 have HI:=hid (fun u:World=>isMode12 mode u)
 rw [hm] at HI;have hne:w.heap.size≠w.heap.size+1:=by omega
 clear hm;go_enter Tryz.func19,Tryz.ntmps19
 go_wp2_with fail
 refine (HI.out _).mono ?_;rintro r w1 ⟨rfl,rfl⟩;clear HI;go_wp2;refine bodyPost_ret (v:=.tuple #[.float .f64 0,.int .i64 1]) (by simp [results,Tryz.results19,go_sem]) rfl ⟨rfl,?_⟩
 first
  | exact (bel_alloc _ _).trans ((bel_alloc _ _).mono (by simp))
  | exact st_bel7 (by simp) (st_bel7 (by simp) ((bel_alloc _ _).trans ((bel_alloc _ _).mono (by simp))))
set_option maxRecDepth 100000 in
theorem poly12_long (a:Option Addr) (n c x:Nat) (mode:Int) (w:World) (hm:md mode=true) (hl:33<n) :
 Calls Tryz.prog 19 #[.slice a n c,.float .f64 x,.int .i64 mode] w fun r w'=>r=.returned (.tuple #[.float .f64 0,.int .i64 2])∧Below w.heap.size w w':=by
 have HI:=hid (fun u:World=>isMode12 mode u)
 rw [hm] at HI;have hne:w.heap.size≠w.heap.size+1:=by omega
 have hd:decide ((33:Int)<(n:Int))=true:=by simp;omega
 clear hm hl;go_enter Tryz.func19,Tryz.ntmps19
 go_wp2_with fail
 refine (HI.out _).mono ?_;rintro r w1 ⟨rfl,rfl⟩;clear HI;go_wp2;refine bodyPost_ret (v:=.tuple #[.float .f64 0,.int .i64 2]) (by simp [results,Tryz.results19,go_sem]) rfl ⟨rfl,?_⟩
 first
  | exact (bel_alloc _ _).trans ((bel_alloc _ _).mono (by simp))
  | exact st_bel7 (by simp) (st_bel7 (by simp) ((bel_alloc _ _).trans ((bel_alloc _ _).mono (by simp))))
set_option maxRecDepth 100000 in
theorem poly12_odd (a:Option Addr) (n c x:Nat) (mode:Int) (w:World) (hm:md mode=true) (hl:n≤33) (hx:x<18446744073709551616) (fx:¬ finW x) (hT:Tab w) :
 Calls Tryz.prog 19 #[.slice a n c,.float .f64 x,.int .i64 mode] w fun r w'=>r=.returned (.tuple #[.float .f64 0,.int .i64 30])∧Below w.heap.size w w':=by
 have HI:=hid (fun u:World=>isMode12 mode u)
 rw [hm] at HI;have HO:=hid (fun (u:World) (h:Tab u)=>of12_odd x hx fx u h)
 have hne:w.heap.size≠w.heap.size+1:=by omega
 have hd:decide ((33:Int)<(n:Int))=false:=by simp;omega
 have HT:=qsd hT;clear hm hl hx fx hT;obtain ⟨W,hW'⟩:∃ W,W=(w.alloc (Obj.cells #[.float .f64 0] 27)).alloc (Obj.cells #[.int .i64 0] 28):=⟨_,rfl⟩
 have H0:Aside (Boxed W w.heap.size 27 (.float .f64 0)∧Boxed W (w.heap.size+1) 28 (.int .i64 0)∧Below w.heap.size w W∧W.heap.size=w.heap.size+2):=by
  subst hW';have z:=Boxed.new (w.alloc (Obj.cells #[.float .f64 0] 27)) 28 (.int .i64 0);rw [World.size_alloc] at z;exact ⟨(Boxed.new w _ _).alloc _,z,(below_alloc _ _).trans ((below_alloc _ _).mono (by simp)),by simp⟩
 go_enter Tryz.func19,Tryz.ntmps19
 go_wp2_with fail
 rw [←hW'];refine (HI.out _).mono ?_;rintro r w1 ⟨rfl,rfl⟩;clear HI hW'
 go_wp2_with fail
 refine (HO.out _ (HT.out.belows H0.out.2.2.1)).mono ?_;rintro r u ⟨⟨a1,c1,rfl⟩,hb⟩;obtain ⟨U,hU⟩:∃ U,U=(u.alloc (Obj.cells #[.bool false,.slice a1 0 c1,.int .i64 0] 47)).alloc (Obj.cells #[.int .i64 30] 28):=⟨_,rfl⟩;have hus:w.heap.size+2≤u.heap.size:=by have:=hb.size;have:=H0.out.2.2.2;omega
 have H1:Aside (Boxed U w.heap.size 27 (.float .f64 0)∧Boxed U (w.heap.size+1) 28 (.int .i64 0)∧Boxed U (u.heap.size+1) 28 (.int .i64 30)∧Below w.heap.size w U):=by
  rw [hU];have z:=Boxed.new (u.alloc (Obj.cells #[.bool false,.slice a1 0 c1,.int .i64 0] 47)) 28 (.int .i64 30);rw [World.size_alloc] at z;have bu:=H0.out.2.2.1.trans (hb.mono H0.out.2.2.1.size);exact ⟨((Bx.below H0.out.1 hb).alloc _).alloc _,((Bx.below H0.out.2.1 hb).alloc _).alloc _,z,((bu.trans ((below_alloc _ _).mono bu.size)).trans ((below_alloc _ _).mono (by simp;omega)))⟩
 have HU:=qsd hU;clear hb HO H0 hU
 go_upto_region 7 with fail
 rw [←HU.out];clear HU;have r1c:=H1.out.1.cell;have r1f:=H1.out.1.frozen;have r2c:=H1.out.2.1.cell;have r2f:=H1.out.2.1.frozen;have ec:=H1.out.2.2.1.cell;have hne4:w.heap.size≠u.heap.size+1:=by omega
 have hne5:w.heap.size+1≠u.heap.size+1:=by omega
 have HF:Aside (Boxed ((U.setCell ⟨w.heap.size,0,none⟩ (.float .f64 0)).setCell ⟨w.heap.size+1,0,none⟩ (.int .i64 30)).drew w.heap.size 27 (.float .f64 0)∧Boxed ((U.setCell ⟨w.heap.size,0,none⟩ (.float .f64 0)).setCell ⟨w.heap.size+1,0,none⟩ (.int .i64 30)).drew (w.heap.size+1) 28 (.int .i64 30)∧Below w.heap.size w ((U.setCell ⟨w.heap.size,0,none⟩ (.float .f64 0)).setCell ⟨w.heap.size+1,0,none⟩ (.int .i64 30)).drew):=by
  have b1:=But.below H1.out.2.2.2 ((But.refl w.heap.size U).set 0 (.float .f64 0)) H1.out.2.2.2.size (Nat.le_refl _);exact ⟨Bx.set12 (H1.out.1.set _) 0 _ hne,(Bx.set12 H1.out.2.1 0 _ (by omega)).set _,(But.below b1 ((But.refl (w.heap.size+1) _).set 0 _) b1.size (by omega)).drew⟩
 go_region
 all_goals (
  go_wp2;have f1:=HF.out.1.cell;have f2:=HF.out.2.1.cell;exact bodyPost_ret (v:=.tuple #[.float .f64 0,.int .i64 30]) (by simp [results,Tryz.results19,go_sem,f1,f2]) rfl ⟨rfl,HF.out.2.2⟩)
def pHw (x:Nat) (L:List Nat):Option (Bool×Nat×Int):=L.foldl (fun o c=>addD (mulD o (oW x)) (oW c)) o00
theorem pH_w (x:Nat) (L:List (Nat×W12)):pH x L=pHw x (L.map (fun y=>y.2.1)):=by unfold pH pHw;rw [List.foldl_map]
theorem dn_rev (cs:List Nat) (hW:W64 cs):(up12 (dn12 cs hW cs.length) cs.length).map (fun y=>y.2.1)=cs.reverse:=by
 unfold up12 dn12;rw [List.map_map]
 apply List.ext_getElem
 · simp
 · intro i h1 h2
   simp at h1;simp [List.getElem_reverse,h1];rw [List.getElem?_eq_getElem (by omega)]
   rfl
noncomputable def plR (cs:List Nat) (x:Nat) (mode:Int):Nat×Int:=open Classical in if md mode=false then (0,1) else if 33<cs.length then (0,2) else if finW x∧∀ y ∈ cs,finW y then rndS (pHw x cs.reverse) mode else (0,30)
theorem Poly12 (cs:List Nat) (a:Option Addr) (n c x:Nat) (mode:Int) (w:World) (hn:n=cs.length) (hF:Fs w.heap.size w a cs) (hW:W64 cs) (hx:x<18446744073709551616) (hT:Tab w) :
 Calls Tryz.prog 19 #[.slice a n c,.float .f64 x,.int .i64 mode] w fun r w'=>r=.returned (.tuple #[.float .f64 (plR cs x mode).1,.int .i64 (plR cs x mode).2])∧Below w.heap.size w w':=by
 unfold plR
 by_cases hm:md mode=false
 · rw [if_pos hm]
   exact poly12_mode a n c x mode w hm
 · rw [if_neg hm]
   have hm:md mode=true:=by simpa using hm
   rw [←hn]
   by_cases hl:33<n
   · rw [if_pos hl]
     exact poly12_long a n c x mode w hm hl
   · rw [if_neg hl]
     by_cases fx:finW x
     · refine (poly12_main cs a n c x mode w hn hF hW hx fx hT hm (by omega)).mono ?_
       subst hn;have hr:=dn_rev cs hW;rintro r w' ⟨h,hb⟩;refine ⟨?_,hb⟩
       rcases h with ⟨h1,rfl⟩|⟨⟨y,hy,hyf⟩,rfl⟩
       · have h2:∀ y ∈ cs,finW y:=fun y hy=>by
          have:y ∈ (up12 (dn12 cs hW cs.length) cs.length).map (fun y=>y.2.1):=by rw [hr];exact List.mem_reverse.2 hy
          obtain ⟨z,hz,rfl⟩:=List.mem_map.1 this;exact h1 z hz
         rw [if_pos ⟨fx,h2⟩,pH_w,hr]
       · rw [if_neg (fun q=>hyf (q.2 _ (List.mem_reverse.1 (by rw [←hr];exact List.mem_map_of_mem hy))))]
     · rw [if_neg (fun q=>fx q.1)]
       exact poly12_odd a n c x mode w hm (by omega) hx fx hT
end
section
open Go.RowKit
theorem rebase {o:Option (Bool×Nat×Int)}{B x:Int}(h:Fv B o x) (hB:B≤-1048576) (D:Int) (hD:D≤0):Fv (B+D) o (x*((2^(0-D).toNat:Nat):Int)):=by
 obtain ⟨n',X',e',hx,F',hz⟩:=h.ex;refine ⟨n',X',e',hx,F',?_⟩;rw [←hz];unfold zv;simp only;rw [Int.mul_assoc,←Int.natCast_mul,Nat.mul_assoc,←Nat.pow_add];have:=F'.down;rw [show (e'-(B+D)).toNat=(e'-B).toNat+(0-D).toNat by omega]
end
section
open Go.RowKit J
def EK:Nat:=1048576
def EX:Nat:=1046428
def EY:Nat:=1047502
theorem exP (a:Nat):∃ u:Nat,u=2^a:=⟨_,rfl⟩
noncomputable def MM:Nat:=Classical.choose (exP EK)
noncomputable def XX:Nat:=Classical.choose (exP EX)
noncomputable def YY:Nat:=Classical.choose (exP EY)
theorem M_eq:MM=2^EK:=Classical.choose_spec (exP EK)
theorem X_eq:XX=2^EX:=Classical.choose_spec (exP EX)
theorem Y_eq:YY=2^EY:=Classical.choose_spec (exP EY)
theorem M_pos:0<MM:=by rw [M_eq];exact Nat.two_pow_pos _
theorem X_pos:0<XX:=by rw [X_eq];exact Nat.two_pow_pos _
theorem YYXM:YY*YY=XX*MM:=by
 rw [M_eq,X_eq,Y_eq,←Nat.pow_add,←Nat.pow_add,show EY+EY=EX+EK by decide]
theorem Fm.sm {o:Option (Bool×Nat×Int)}(h:Fm o):o.isSome=true:=by
 obtain ⟨B,x,h⟩:=h;obtain ⟨n,X,e,rfl,_⟩:=h.ex;rfl
theorem Fm.val {o:Option (Bool×Nat×Int)}(h:Fm o):Fv (-1048576) o (valO o):=fvO h.re h.sm
theorem Fv.uniq {B x y:Int}{o:Option (Bool×Nat×Int)}(h1:Fv B o x) (h2:Fv B o y):x=y:=by
 obtain ⟨n,X,e,ho,_,hz⟩:=h1.ex;obtain ⟨n',X',e',ho',_,hz'⟩:=h2.ex;rw [ho] at ho'
 cases ho'
 exact hz.symm.trans hz'
theorem val_mul {o p:Option (Bool×Nat×Int)}(F:Fm o) (G:Fm p) (H:Fm (mulD o p)):valO (mulD o p)*(MM:Int)=valO o*valO p:=by
 have h1:=Fv.mul (by decide) (by decide) F.val G.val H.sm
 have h2:=rebase H.val (by decide) (-1048576) (by decide)
 rw [show ((0:Int) - -1048576).toNat=EK from rfl,←M_eq] at h2
 exact (h1.uniq h2).symm
theorem val_add {o p:Option (Bool×Nat×Int)}(F:Fm o) (G:Fm p) (H:Fm (addD o p)):valO (addD o p)=valO o+valO p :=
 H.val.uniq (Fv.add (by decide) F.val G.val H.sm)
theorem valO_inj {o p:Option (Bool×Nat×Int)}(F:Fm o) (G:Fm p) (h:valO o=valO p):o=p:=by
 obtain ⟨h1,h2,h3⟩:=Fv.same (by decide) F.val G.val h
 obtain ⟨n,X,e,rfl,_⟩:=F.val.ex;obtain ⟨m,Y,f,rfl,_⟩:=G.val.ex;have h1:n=m:=h1;have h2:X=Y:=h2;have h3:e=f:=h3;rw [h1,h2,h3]
theorem val_mk {n:Bool}{X:Nat}{e:Int}(h:Fm (mkS n X e)) (he:-1048576≤e) (k:Nat) (hk:(e+1048576).toNat=k):valO (mkS n X e)=sg1 n*((X*2^k:Nat):Int):=by
 obtain ⟨⟨n',Y,f⟩,ho⟩:=Option.isSome_iff_exists.1 h.sm;have:=zv_mkS ho (-1048576) (.inr he);rw [show (e - -1048576).toNat=k by rw [←hk];congr 1] at this
 rw [←this,ho];rfl
theorem sg1_natAbs (V:Int) (K:Nat):sg1 (decide (V<0))*((V.natAbs*K:Nat):Int)=V*(K:Int):=by
 rw [Int.natCast_mul,←Int.mul_assoc]
 congr 1
 unfold sg1
 by_cases h:V<0
 · rw [decide_eq_true h,if_pos rfl];omega
 · rw [decide_eq_false h,if_neg (by decide)];omega
theorem val_ex {V:Int}(h:Fm (exV V)):valO (exV V)=V*(XX:Int):=by
 unfold exV at h ⊢;rw [val_mk h (by decide) EX rfl,←X_eq,sg1_natAbs]
theorem val_fo {V:Int}(h:Fm (fo8 V)):valO (fo8 V)=V*(YY:Int):=by
 unfold fo8 at h ⊢;rw [val_mk h (by decide) EY rfl,←Y_eq,sg1_natAbs]
theorem ex_iv (V:Int) (m:Nat) (hm:m≤100000) (hV:V.natAbs<2^m):Iv (exV V) (-2148) ((m:Int)-2148):=by
 unfold exV;refine mkS_iv _ _ _ _ _ (.inr ⟨by omega,?_⟩) (by omega) (by omega) (by omega)
 have:=bl_lt_pow hV;omega
theorem ex_fm (V:Int) (m:Nat) (hm:m≤100000) (hV:V.natAbs<2^m):Fm (exV V):=(ex_iv V m hm hV).fm
theorem oW_fm (x:Nat) (hx:x<18446744073709551616) (fx:finW x):Fm (oW x):=(oW_iv x hx fx).fm
theorem val_oW (x:Nat) (hx:x<18446744073709551616) (fx:finW x):valO (oW x)=fvW x*(YY:Int):=val_fo (oW_fm x hx fx)
theorem top_sq {x y:Nat}(hx:x<18446744073709551616) (fx:finW x) (hy:y<18446744073709551616) (fy:finW y) (m:Nat) (hm:m=4196):(fvW x*fvW y).natAbs<2^m:=by
 obtain ⟨z,hz⟩:∃ z,z=2098:=⟨_,rfl⟩;have h1:=top_fv hx fx z hz;have h2:=top_fv hy fy z hz;rw [Int.natAbs_mul,show m=z+z by omega,Nat.pow_add]
 exact Nat.mul_lt_mul'' h1 h2
theorem mul_ex {x y:Nat}(hx:x<18446744073709551616) (fx:finW x) (hy:y<18446744073709551616) (fy:finW y):mulD (oW x) (oW y)=exV (fvW x*fvW y):=by
 obtain ⟨m,hm⟩:∃ m,m=4196:=⟨_,rfl⟩;have hF:=((oW_iv x hx fx).mul (oW_iv y hy fy) (by omega) (by omega) (by omega)).fm
 have hG:=ex_fm _ m (by omega) (top_sq hx fx hy fy m hm)
 refine valO_inj hF hG ?_;have h:=val_mul (oW_fm x hx fx) (oW_fm y hy fy) hF;rw [val_oW x hx fx,val_oW y hy fy] at h;rw [val_ex hG];have hM:(0:Int)<(MM:Int):=by have:=M_pos;omega
 refine Int.eq_of_mul_eq_mul_right (by omega) (h.trans ?_)
 have e:(YY:Int)*(YY:Int)=(XX:Int)*(MM:Int):=by rw [←Int.natCast_mul,YYXM,Int.natCast_mul]
 rw [Int.mul_assoc (fvW x),Int.mul_comm (YY:Int) (fvW y*_),Int.mul_assoc (fvW y),e,Int.mul_assoc,Int.mul_assoc]
theorem add_ex {V U:Int}(m:Nat) (hm:m≤90000) (hV:V.natAbs<2^m) (hU:U.natAbs<2^m):addD (exV V) (exV U)=exV (V+U):=by
 have hF:=((ex_iv V m (by omega) hV).add (ex_iv U m (by omega) hU) (by omega) (by omega) (by omega)).fm
 have hs:(V+U).natAbs<2^(m+1):=by rw [Nat.pow_succ];omega
 have hG:=ex_fm (V+U) (m+1) (by omega) hs
 refine valO_inj hF hG ?_;rw [val_add (ex_fm V m (by omega) hV) (ex_fm U m (by omega) hU) hF,val_ex hG,val_ex (ex_fm V m (by omega) hV),val_ex (ex_fm U m (by omega) hU),Int.add_mul]
theorem ex_zero:exV 0=o00:=mkS_zero _ _
end
section
open Go.RowKit J
theorem vd_none (ok:Bool):vd ok 0 0 0 0 0=(0,false):=by unfold vd;cases ok <;> simp
theorem len_fin {V:Int}{s:Sp}{mode:Int}(h1:s.n=0) (h2:s.u=0) (h3:s.d=0):lenV V s mode=sq12 V mode:=by
 unfold lenV;rw [h1,h2,h3,vd_none];rfl
theorem rd_fin {V:Int}{s:Sp}{mode:Int}(h1:s.n=0) (h2:s.u=0) (h3:s.d=0) (hV:V≠0) (hF:Fm (exV V)):rd10 V s mode 0 0=rndS (exV V) mode:=by
 unfold rd10 rd7 ahd;rw [h1,h2,h3,vd_none,if_neg (by omega),if_neg (by omega)]
 simp only [if_neg hV,Bool.false_eq_true,if_false];rw [hF.re]
theorem ex_whole (Y k:Nat) (hk:k=2148):exV ((Y*2^k:Nat):Int)=mkS false Y 0:=by
 unfold exV;rw [decide_eq_false (by omega),Int.natAbs_natCast,Nat.mul_comm,mkS_pow11]
 congr 1
 omega
theorem sqW25:sqW 25 0 1 0=531691198313966349161522824112137830400:=by decide +kernel
theorem s25:sqZ 25 0 1 0=some (false,5,0):=by
 have e1:sqR 531691198313966349161522824112137830400=23058430092136939520:=(sqR_is _).unique ⟨by decide +kernel,by decide +kernel⟩
 have e2:sqD 25 0 1 0=true:=by
  unfold sqD;rw [sqW25,e1]
  decide +kernel
 have e3:clampE (hvX (sqX 25 0 1 0)/2)=-63:=by decide +kernel
 unfold sqZ;rw [sqW25,e1,e2,e3]
 show mkS false 46116860184273879040 (-63)=_
 have:=mkS_pow11 false 63 5 (-63);rw [show 2^63*5=46116860184273879040 by decide] at this
 rw [this];exact mkS_sm false 5 0 (by decide) (by decide) (by decide) (by decide)
theorem sq25 (k:Nat) (hk:k=2148):sq12 ((25*2^k:Nat):Int) 0=(4617315517961601024,0):=by
 have e:mkS false 25 0=some (false,25,0):=by rw [mkS_odd _ _ _ (by decide),if_neg (by decide +kernel)]
 unfold sq12;rw [ex_whole 25 k hk,e]
 show sqrR rndS ⟨false,.bool false,25,0,false,.bool false,1,0⟩ 0=_
 unfold sqrR;rw [if_neg (by decide),if_pos (by rw [errL_one];show errN 25 false 0 1 false 0=0;unfold errN;rw [if_neg (by decide),e,mk_one];decide),e,mk_one]
 show (if false=true then ((0,110):Nat×Int) else rndS (sqZ 25 0 1 0) 0)=_
 rw [if_neg (by decide),s25]
 decide +kernel
theorem v34 (k:Nat) (hk:k=2148):vI (nI [4613937818241073152,4616189618054758400])=((25*2^k:Nat):Int):=by
 subst hk;decide +kernel
theorem v1246 (k:Nat) (hk:k=2148):vI (aI [4607182418800017408,4611686018427387904] [4616189618054758400,4618441417868443648])=((25*2^k:Nat):Int):=by
 subst hk;decide +kernel
theorem norm34:normR [4613937818241073152,4616189618054758400] 0=(4617315517961601024,0):=by
 obtain ⟨k,hk⟩:∃ k,k=2148:=⟨_,rfl⟩;unfold normR;rw [if_pos (by decide),len_fin (by decide +kernel) (by decide +kernel) (by decide +kernel),v34 k hk,sq25 k hk]
theorem dist25:distR [4607182418800017408,4611686018427387904] [4616189618054758400,4618441417868443648] 0=(4617315517961601024,0):=by
 obtain ⟨k,hk⟩:∃ k,k=2148:=⟨_,rfl⟩;unfold distR;rw [if_pos (by decide),len_fin (by decide +kernel) (by decide +kernel) (by decide +kernel),v1246 k hk,sq25 k hk]
theorem vbig (k:Nat) (hk:k=2148):vI (dI [7309342195222315008,4607182418800017408,7309342195222315008] [7309342195222315008,4607182418800017408,16532714232077090816])=((1*2^k:Nat):Int):=by
 subst hk;decide +kernel
theorem o1:Fm (mkS false 1 0):=by rw [mk_one];exact ⟨0,_,frm_fv (mkS_frm mk_one) 0⟩
theorem dotbig:dotR [7309342195222315008,4607182418800017408,7309342195222315008] [7309342195222315008,4607182418800017408,16532714232077090816] 0 0 0=(4607182418800017408,0):=by
 obtain ⟨k,hk⟩:∃ k,k=2148:=⟨_,rfl⟩;have hp:0<2^k:=Nat.two_pow_pos _;unfold dotR;rw [if_neg (by decide),if_pos (by decide),vbig k hk,rd_fin (by decide +kernel) (by decide +kernel) (by decide +kernel) (by omega) (by rw [ex_whole 1 k hk];exact o1),ex_whole 1 k hk,mk_one]
 decide +kernel
theorem dotlen:dotR [4607182418800017408] [] 0 0 0=(0,4):=by
 unfold dotR;rw [if_neg (by decide),if_neg (by decide)]
 decide
end
section
open Go.RowKit J
theorem rf12_comm (mode:Int) (n m:Nat):rf12 mode n m=rf12 mode m n:=by
 unfold rf12
 by_cases h1:md mode=false
 · simp [h1]
 · by_cases h2:65536<n
   · simp [h1,h2]
   · by_cases h3:65536<m
     · simp [h1,h2,h3]
     · simp [h1,h2,h3,eq_comm]
theorem pK_comm12 (x y:Nat):pK x y=pK y x:=by
 unfold pK;rw [Int.max_comm,Int.min_comm,show (!ngW x==ngW y)=(!ngW y==ngW x) by cases ngW x <;> cases ngW y <;> rfl]
theorem pT_comm12 (x y:Nat):pT x y=pT y x:=by
 unfold pT pv7;rw [Int.max_comm,Int.min_comm,show (!ngW x==ngW y)=(!ngW y==ngW x) by cases ngW x <;> cases ngW y <;> rfl,Nat.mul_comm (frW x),Int.add_comm (xpW x)]
theorem dI_comm (xs ys:List Nat):dI ys xs=dI xs ys:=by
 unfold dI;rw [List.zipWith_comm]
 congr 1
 funext x y
 rw [pK_comm12,pT_comm12]
end
section
open Go.RowKit
def kOf (k:Nat):Nat:=if k=5 then 1 else if k=3 then 2 else if k=4 then 3 else if k=1 then 4 else if k=2 then 5 else 0
theorem rcounted7 (n u d m p a:Int) (k:Nat) (hk:k≤5) (hs:(Sp.mk n u d m p a).ok) (w:World) :
 Calls Tryz.prog 89 #[.agg #[.int .i64 n,.int .i64 u,.int .i64 d,.int .i64 m,.int .i64 p,.int .i64 a],.int .i64 (k:Nat),.int .i64 1] w fun r w'=>r=.returned ((Sp.mk n u d m p a).cnt (kOf k) 1).agg∧Below w.heap.size w w':=by
 obtain ⟨h0,h1,h2,h3,h4,h5⟩:=hs;simp only at h0 h1 h2 h3 h4 h5;have hne:w.heap.size≠w.heap.size+1:=by omega
 have hc:k=0∨k=1∨k=2∨k=3∨k=4∨k=5:=by omega
 clear hk
 rcases hc with rfl|rfl|rfl|rfl|rfl|rfl
 · go_enter Tryz.func89,Tryz.ntmps89
   go_wp2;exact bodyPost_ret (v:=.agg #[.int .i64 n,.int .i64 u,.int .i64 d,.int .i64 m,.int .i64 p,.int .i64 (a+1)]) (by simp [results,Tryz.results89,go_sem]) rfl ⟨by first | rfl | simp [Sp.cnt,kOf,Sp.agg],(bel_alloc _ _).trans ((bel_alloc _ _).mono (by simp))⟩
 · go_enter Tryz.func89,Tryz.ntmps89
   go_wp2;exact bodyPost_ret (v:=.agg #[.int .i64 n,.int .i64 u,.int .i64 d,.int .i64 (m+1),.int .i64 p,.int .i64 (a+1)]) (by simp [results,Tryz.results89,go_sem]) rfl ⟨by first | rfl | simp [Sp.cnt,kOf,Sp.agg],(bel_alloc _ _).trans ((bel_alloc _ _).mono (by simp))⟩
 · go_enter Tryz.func89,Tryz.ntmps89
   go_wp2;exact bodyPost_ret (v:=.agg #[.int .i64 n,.int .i64 u,.int .i64 d,.int .i64 m,.int .i64 (p+1),.int .i64 (a+1)]) (by simp [results,Tryz.results89,go_sem]) rfl ⟨by first | rfl | simp [Sp.cnt,kOf,Sp.agg],(bel_alloc _ _).trans ((bel_alloc _ _).mono (by simp))⟩
 · go_enter Tryz.func89,Tryz.ntmps89
   go_wp2;exact bodyPost_ret (v:=.agg #[.int .i64 n,.int .i64 (u+1),.int .i64 d,.int .i64 m,.int .i64 p,.int .i64 (a+1)]) (by simp [results,Tryz.results89,go_sem]) rfl ⟨by first | rfl | simp [Sp.cnt,kOf,Sp.agg],(bel_alloc _ _).trans ((bel_alloc _ _).mono (by simp))⟩
 · go_enter Tryz.func89,Tryz.ntmps89
   go_wp2;exact bodyPost_ret (v:=.agg #[.int .i64 n,.int .i64 u,.int .i64 (d+1),.int .i64 m,.int .i64 p,.int .i64 (a+1)]) (by simp [results,Tryz.results89,go_sem]) rfl ⟨by first | rfl | simp [Sp.cnt,kOf,Sp.agg],(bel_alloc _ _).trans ((bel_alloc _ _).mono (by simp))⟩
 · go_enter Tryz.func89,Tryz.ntmps89
   go_wp2;exact bodyPost_ret (v:=.agg #[.int .i64 (n+1),.int .i64 u,.int .i64 d,.int .i64 m,.int .i64 p,.int .i64 (a+1)]) (by simp [results,Tryz.results89,go_sem]) rfl ⟨by first | rfl | simp [Sp.cnt,kOf,Sp.agg],(bel_alloc _ _).trans ((bel_alloc _ _).mono (by simp))⟩
end
section
open Go.RowKit
open Go.Proofs.YthfkleadcnkglaaGreatDoor.B (f64bits f64frombits bw)
attribute [local go_sem] f64bits f64frombits
theorem within_any (a:Int) (w:World):Calls Tryz.prog 175 #[.int .i64 a] w fun r w'=>r=.returned (.bool (ct a))∧w'=w:=by
 unfold ct
 by_cases h:0≤a
 · have hd:decide (0≤a)=true:=decide_eq_true h
   rw [hd];go_enter Tryz.func175,Tryz.ntmps175;go_wp2;go_ret;exact ⟨by first | rfl | simp,rfl⟩
 · have hd:decide (0≤a)=false:=decide_eq_false h
   rw [hd];go_enter Tryz.func175,Tryz.ntmps175;go_wp2;go_ret;exact ⟨by first | rfl | simp,rfl⟩
theorem rMay_any (a b:Int) (w:World):Calls Tryz.prog 41 #[.agg #[.int .i64 a,.int .i64 b]] w fun r w'=>r=.returned (.bool (may a b))∧Below w.heap.size w w':=by
 unfold may kn
 rcases ha:decide (0≤a) with _|_ <;> rcases ha2:decide (a≤2) with _|_ <;> rcases hb:decide (0≤b) with _|_ <;>
 · go_enter Tryz.func41,Tryz.ntmps41
   go_wp2;go_ret;exact ⟨by first | rfl | simp,(Below.refl _ _).alloc (Nat.le_refl _) _⟩
def zrR (neg:Bool):Nat:=if neg then 9223372036854775808 else 0
def infR (neg:Bool):Nat:=if neg then 18442240474082181120 else 9218868437227405312
theorem Zero_any (neg:Bool) (w:World):Calls Tryz.prog 138 #[.bool neg] w fun r w'=>r=.returned (.float .f64 (zrR neg))∧w'=w:=by
 cases neg <;>
 · go_enter Tryz.func138,Tryz.ntmps138
   go_wp2;go_ret;exact ⟨rfl,rfl⟩
theorem rInf_any (neg:Bool) (w:World):Calls Tryz.prog 51 #[.bool neg] w fun r w'=>r=.returned (.float .f64 (infR neg))∧w'=w:=by
 cases neg <;>
 · go_enter Tryz.func51,Tryz.ntmps51
   go_wp2;go_ret;exact ⟨rfl,rfl⟩
theorem TheNaN_any (w:World):Calls Tryz.prog 50 #[] w fun r w'=>r=.returned (.float .f64 9221120237041090560)∧w'=w:=by
 go_enter Tryz.func50,Tryz.ntmps50;go_wp2;go_ret;exact ⟨rfl,rfl⟩
def kd (b:Nat):Nat :=
 if 9218868437227405312<b%9223372036854775808 then 5
 else if b%9223372036854775808=9218868437227405312 then (if b/9223372036854775808=1 then 4 else 3)
 else if b%9223372036854775808=0 then (if b/9223372036854775808=1 then 1 else 2)
 else 0
theorem Kind_any (b:Nat) (hb:b<18446744073709551616) (w:World):Calls Tryz.prog 54 #[.float .f64 b] w fun r w'=>r=.returned (.int .i64 (kd b:Nat))∧w'=w:=by
 unfold kd;obtain ⟨z,hz⟩:∃ z,b%9223372036854775808=z:=⟨_,rfl⟩;obtain ⟨s,hs⟩:∃ s,b/9223372036854775808=s:=⟨_,rfl⟩;have hz2:(b:Int)%9223372036854775808=(z:Int):=by omega
 have hs2:(b:Int)/9223372036854775808=(s:Int):=by omega
 have hz3:(b:Int).tmod 9223372036854775808=(z:Int):=by rw [Int.tmod_eq_emod_of_nonneg (by omega)];exact hz2
 have hzl:z<9223372036854775808:=by omega
 have hsl:s<2:=by omega
 rw [hz,hs];clear hz hs
 by_cases h1:9218868437227405312<z
 · rw [if_pos h1]
   have h1':(9218868437227405312:Int)<(z:Int):=by omega
   go_enter Tryz.func54,Tryz.ntmps54;go_wp2;go_ret;exact ⟨rfl,rfl⟩
 · rw [if_neg h1]
   have h1':decide ((9218868437227405312:Int)<(z:Int))=false:=decide_eq_false (by omega)
   have hs01:s=0∨s=1:=by omega
   by_cases h2:z=9218868437227405312
   · subst h2
     rcases hs01 with rfl|rfl
     · go_enter Tryz.func54,Tryz.ntmps54
       go_wp2;go_ret;exact ⟨rfl,rfl⟩
     · go_enter Tryz.func54,Tryz.ntmps54
       go_wp2;go_ret;exact ⟨rfl,rfl⟩
   · rw [if_neg h2]
     have h2':((z:Int)==9218868437227405312)=false:=by rw [beq_eq_false_iff_ne];omega
     by_cases h3:z=0
     · subst h3
       rcases hs01 with rfl|rfl
       · go_enter Tryz.func54,Tryz.ntmps54
         go_wp2;go_ret;exact ⟨rfl,rfl⟩
       · go_enter Tryz.func54,Tryz.ntmps54
         go_wp2;go_ret;exact ⟨rfl,rfl⟩
     · rw [if_neg h3]
       have h3':((z:Int)==0)=false:=by rw [beq_eq_false_iff_ne];omega
       clear h1 h2 h3 hz3
       rcases hs01 with rfl|rfl
       · go_enter Tryz.func54,Tryz.ntmps54
         go_wp2;go_ret;exact ⟨rfl,rfl⟩
       · go_enter Tryz.func54,Tryz.ntmps54
         go_wp2;go_ret;exact ⟨rfl,rfl⟩
end
section
open Go.RowKit
theorem rof8 (x:Nat) (hx:Wd x∧finW x) (w:World) :
 Calls Tryz.prog 25 #[.float .f64 x] w fun r w'=>(∃ v,r=.returned (.tuple #[.agg #[.bool (dN (fo8 (fvW x))),v,.int .i64 (dE (fo8 (fvW x)))],.int .i64 0])∧Nt w.heap.size w' v (dX (fo8 (fvW x))))∧Below w.heap.size w w':=by
 obtain ⟨h1,h2,h3,_⟩:=wd64_bw (negW x) (magW x) (Nat.le_of_lt hx.2);have:=rOf3_any (negW x) (magW x/4503599627370496) (magW x%4503599627370496) h2 h3 w;rw [←h1,←wd_of x hx.1] at this;refine this.mono ?_;rintro r w' ⟨⟨v,rfl,hN⟩,hb⟩;have e:=of_fo8 hx.1 hx.2;unfold ofK at e;rw [e] at hN ⊢;have he:ofE (magW x/4503599627370496)=0:=by unfold ofE;rw [if_neg (by have:=hx.2;omega)]
 rw [he];exact ⟨⟨v,rfl,hN⟩,hb⟩
section
attribute [local go_sem] B.f64bits B.f64frombits
end
end
section
open Go.RowKit J
theorem Fm.two {o:Option (Bool×Nat×Int)}(h:Fm o):(ws (dX o)).length≤2000000:=Nat.le_trans h.len (by decide)
theorem rmul12 {U:World}{a b:Option Addr}{c d:Nat}{o p q:Option (Bool×Nat×Int)}(F:Fm o) (G:Fm p) (N1:Nt 0 U (.slice a (ws (dX o)).length c) (dX o)) (N2:Nt 0 U (.slice b (ws (dX p)).length d) (dX p)) (h:mulD o p=q) (H:Fm q) :
 Calls Tryz.prog 26 #[.agg #[.bool (dN o),.slice a (ws (dX o)).length c,.int .i64 (dE o)],.agg #[.bool (dN p),.slice b (ws (dX p)).length d,.int .i64 (dE p)]] U fun r w'=>(∃ v,r=.returned (.tuple #[.agg #[.bool (dN q),v,.int .i64 (dE q)],.int .i64 0])∧Nt U.heap.size w' v (dX q))∧Below U.heap.size U w':=by
 have:=rMul_any3 (F.a12 N1) (G.a12 N2) F.two G.two (dN o) (dN p) (dE o) (dE p) F.rng.1 F.rng.2 G.rng.1 G.rng.2;rw [val_ws,val_ws,F.re,G.re,h] at this;unfold DAns at this;rw [H.er] at this;exact this
theorem radd12 {U:World}{a b:Option Addr}{c d:Nat}{o p q:Option (Bool×Nat×Int)}(F:Fm o) (G:Fm p) (N1:Nt 0 U (.slice a (ws (dX o)).length c) (dX o)) (N2:Nt 0 U (.slice b (ws (dX p)).length d) (dX p)) (h:addD o p=q) (H:Fm q) :
 Calls Tryz.prog 27 #[.agg #[.bool (dN o),.slice a (ws (dX o)).length c,.int .i64 (dE o)],.agg #[.bool (dN p),.slice b (ws (dX p)).length d,.int .i64 (dE p)]] U fun r w'=>(∃ v,r=.returned (.tuple #[.agg #[.bool (dN q),v,.int .i64 (dE q)],.int .i64 0])∧Nt U.heap.size w' v (dX q))∧Below U.heap.size U w':=by
 have:=rAdd_any3 (F.a12 N1) (G.a12 N2) F.two G.two (dN o) (dN p) (dE o) (dE p) F.rng.1 F.rng.2 G.rng.1 G.rng.2;rw [val_ws,val_ws,F.re,G.re,h] at this;unfold DAns at this;rw [H.er] at this;exact this
theorem rof12 (x:Nat) (hx:x<18446744073709551616) (fx:finW x) (w:World) :
 Calls Tryz.prog 25 #[.float .f64 x] w fun r w'=>(∃ v,r=.returned (.tuple #[.agg #[.bool (dN (oW x)),v,.int .i64 (dE (oW x))],.int .i64 0])∧Nt w.heap.size w' v (dX (oW x)))∧Below w.heap.size w w':=rof8 x ⟨hx,fx⟩ w
end
section
open Go.RowKit J
attribute [local go_sem] B.f64bits B.f64frombits st_float
theorem rOf10 (b:Nat) (w:World):Calls Tryz.prog 80 #[.int .u64 (b:Nat)] w fun r w'=>r=.returned (.float .f64 b)∧w'=w:=by
 go_enter Tryz.func80,Tryz.ntmps80;go_wp2;exact bodyPost_ret (v:=.float .f64 b) (by simp [results,Tryz.results80,go_sem]) rfl ⟨rfl,rfl⟩
theorem rOf10z (w:World):Calls Tryz.prog 80 #[.int .u64 0] w fun r w'=>r=.returned (.float .f64 0)∧w'=w:=rOf10 0 w
end
section
open Go.RowKit J
attribute [local go_sem] st_float
def Fw10 (n:Nat):Value:=.float .f64 n
theorem Tryz.und_floats:Tryz.prog.underlying 22=some (.slice 27):=by kernel_rfl
theorem Tryz.info_f64:(Tryz.prog.info? 27).map (fun i=>(i.zero,i.size,i.bytes))=some (some (.float .f64 0),1,8):=by kernel_rfl
def OwnF (w:World) (g:Nat) (L:List Nat):Prop:=w.heap[g]?=some (.cells (L.map Fw10).toArray 27 (0,0))
theorem OwnF.lt {w:World}{g:Nat}{L:List Nat}(h:OwnF w g L):g<w.heap.size:=(Array.getElem?_eq_some_iff.1 h).1
theorem OwnF.cell {w:World}{g:Nat}{L:List Nat}(h:OwnF w g L) (i:Nat) (hi:i<L.length):w.cell? ⟨g,i,none⟩=some (.float .f64 (L.getD i 0)):=by
 unfold OwnF at h;simp [World.cell?,h,Fw10,hi]
theorem OwnF.frozen {w:World}{g:Nat}{L:List Nat}(h:OwnF w g L) (i:Nat):w.frozen? ⟨g,i,none⟩=false:=by
 unfold OwnF at h;simp [World.frozen?,h]
theorem OwnF.set {w:World}{g:Nat}{L:List Nat}(h:OwnF w g L) (i x:Nat):OwnF (w.setCell ⟨g,i,none⟩ (.float .f64 x)) g (L.set i x):=by
 unfold OwnF at h ⊢;simp only [World.setCell,Array.getElem?_modify,h];simp [Fw10,List.map_set]
theorem OwnF.drew {w:World}{g:Nat}{L:List Nat}(h:OwnF w g L):OwnF w.drew g L:=h
theorem OwnF.below {w w':World}{g B:Nat}{L:List Nat}(h:OwnF w g L) (hb:Below B w w') (hg:g<B):OwnF w' g L:=by
 unfold OwnF at h ⊢;rw [hb.block g hg];exact h
theorem OwnF.fs {w:World}{g B:Nat}{L:List Nat}(h:OwnF w g L) (hg:g<B) (n:Nat):Fs B w (some ⟨g,0,none⟩) (L.take n):=by
 intro _;refine ⟨g,0,hg,rfl,fun i hi=>?_⟩
 rw [List.length_take] at hi;rw [Nat.zero_add,h.cell i (by omega)]
 congr 2
 rw [List.getD_eq_getElem?_getD,List.getD_eq_getElem?_getD,List.getElem?_take,if_pos (by omega)]
theorem make_floats (z:Int) (n:Nat) (hz:z=(n:Int)) (hn:n≤17592186044416) (w:World) :
 (Instr.makeSlice 22 (.int .i64 z) (.int .i64 z)).run Tryz.prog w=.ok (.slice (some ⟨w.heap.size,0,none⟩) n n) (w.alloc (.cells (madeCells #[.float .f64 0] n) 27)):=by
 subst hz;exact run_make_row' 22 27 (.float .f64 0) 8 Tryz.und_floats Tryz.info_f64 rfl .i64 .i64 n (by omega) (by omega) w
theorem OwnF.made (w:World) (n:Nat):OwnF (w.alloc (.cells (madeCells #[.float .f64 0] n) 27)) w.heap.size (List.replicate n 0):=by
 unfold OwnF;have h1:=heap_alloc_new w (.cells (madeCells #[.float .f64 0] n) 27);rw [h1]
 congr 2
 apply Array.toList_inj.1
 rw [toList_madeCells_one];simp [Fw10]
theorem copy_floats (w:World) (g dLen dCap:Nat) (ao:Option Addr) (sLen sCap B:Nat) (ty:TypeId)
 (L xs:List Nat) (hO:OwnF w g L) (hL:dLen≤L.length) (hx:sLen=xs.length) (hR:Fs B w ao xs) (hle:sLen≤dLen) :
 ∃ w',(Builtin.copy_ #[22,22] ty #[.slice (some ⟨g,0,none⟩) dLen dCap,.slice ao sLen sCap]).run Tryz.prog w=.ok (.int .i64 (sLen:Int)) w'∧OwnF w' g (xs++L.drop sLen)∧But g w w':=by
 subst hx;have hmin:Nat.min xs.length dLen=xs.length:=Nat.min_eq_left hle
 by_cases h0:xs=[]
 · subst h0
   exact ⟨w,run_copy_none (P:=Tryz.prog) w 22 22 ty 27 _ _ _ _ _ _ Tryz.und_floats (by kernel_rfl) (by simp at hmin ⊢),by simpa using hO,But.refl _ _⟩
 · obtain ⟨b,off,hlt,rfl,hc⟩:=hR h0
   have hadd:∀ j,(⟨b,off,none⟩:Addr).add j=⟨b,off+j,none⟩:=by intro j;unfold Addr.add;split <;> simp_all
   have hrun:=run_copy_row (P:=Tryz.prog) w 22 22 ty 27 g 0 dLen dCap ⟨b,off,none⟩ xs.length sCap (L.map Fw10).toArray 27 (xs.map Fw10) Tryz.und_floats (by kernel_rfl) hO (by rw [hmin];simp) (by
    intro j v hv;rw [hadd]
    have hj:j<xs.length:=by
     have:=(List.getElem?_eq_some_iff.1 hv).1;simpa using this
    rw [hc j hj];simp [hj,Fw10] at hv;simp [hj,←hv]) (by simp;omega) (by
    intro v hv;obtain ⟨n,_,rfl⟩:=List.mem_map.1 hv
    rfl)
   refine ⟨w.setRow g (((xs++L.drop xs.length).map Fw10)).toArray,?_,setRow_heap w g _ _ 27 _ hO,⟨rfl,rfl,rfl,by simp [World.setRow],fun k _ hk=>setRow_other w g k _ hk⟩⟩
   simpa [List.map_append,List.map_drop,goInt] using hrun
theorem Fs.but {B g:Nat}{w w':World}{ao:Option Addr}{xs:List Nat}(h:Fs B w ao xs) (hb:But g w w') (hB:B≤w.heap.size) (hg:B≤g):Fs B w' ao xs:=by
 intro hne;obtain ⟨b,off,h1,h2,h3⟩:=h hne;refine ⟨b,off,h1,h2,fun i hi=>?_⟩
 rw [←h3 i hi];exact World.cell?_of_block (a:=⟨b,off+i,none⟩) (hb.block b (by omega) (by omega))
end
end Go.Proofs.YthfkleadcnkglaaGreatDoor
