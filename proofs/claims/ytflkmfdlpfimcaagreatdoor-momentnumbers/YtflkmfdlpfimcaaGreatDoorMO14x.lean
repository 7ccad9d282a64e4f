import Derived.Test.YtflkmfdlpfimcaaGreatDoorMC3x
import Derived.Test.YtflkmfdlpfimcaaGreatDoorMO10x
import Derived.Test.YtflkmfdlpfimcaaGreatDoorZ14x
import Derived.RangeFuncNested
import Derived.RangeFuncBound
import Derived.RangeFuncCalls
import Derived.RangeFuncLeaves
import Derived.RangeFuncBox
import Derived.Shelf.Abstract
import Derived.Shelf.RegionOpen
import Derived.WalkKit
import Derived.OwnWalkIn
import Derived.TacticsInMore
import Derived.LoopNIn
import Derived.LoopIn
import Derived.Test.YtflkmfdlpfimcaaGreatDoorW10x
import Derived.ChangeKeysEq
import Derived.Laws.OwnMore
import Derived.Lib.SliceRun
import Derived.Deep.RegionHeld
import Derived.Test.YtflkmfdlpfimcaaGreatDoorM5x
import Derived.Test.YtflkmfdlpfimcaaGreatDoorD4x
import Derived.Deep.RegionWith
import Derived.Test.YtflkmfdlpfimcaaGreatDoorD21x
import Derived.Test.YtflkmfdlpfimcaaGreatDoorD16x
import Derived.Test.YtflkmfdlpfimcaaGreatDoorM1x
import Derived.Test.YtflkmfdlpfimcaaGreatDoorD30x
import Derived.Deep.RegionHeld3
import Derived.Test.YtflkmfdlpfimcaaGreatDoorD11x
import Derived.Deep.CutRange
import Derived.Deep.Cut
set_option linter.unusedVariables false
set_option linter.unusedSimpArgs false
set_option maxHeartbeats 16000000
set_option maxRecDepth 20000
namespace Go.Proofs.YtflkmfdlpfimcaaGreatDoor
namespace J
end J
section
open Go Go.RowKit J
def boE (xs ys:List Nat):Int:=if 65536<xs.length∨65536<ys.length then 2 else if xs.length≠ys.length then 4 else if exE xs=0 then exE ys else exE xs
def Bo14 (xs ys:List Nat) (n:Nat) (r:Ending) (w':World):Prop :=
 (boE xs ys≠0∧r=.returned (.tuple #[.agg #[.slice none 0 0,.bool false,.slice none 0 0,.int .i64 0],.agg #[.slice none 0 0,.bool false,.slice none 0 0,.int .i64 0],.int .i64 (boE xs ys)])) ∨
 (boE xs ys=0∧∃ v1 v2,r=.returned (.tuple #[v1,v2,.int .i64 0])∧Rr w' v1 n (fun i=>gV 1074 (fX xs i)) (gV 1074 (sX xs))∧Rr w' v2 n (fun i=>gV 1074 (fX ys i)) (gV 1074 (sX ys)))
theorem bo_ok {xs ys:List Nat}(h:boE xs ys=0):xs.length=ys.length∧xs.length≤65536∧(∀ x ∈ xs,finW x)∧(∀ x ∈ ys,finW x):=by
 unfold boE at h
 by_cases h1:65536<xs.length∨65536<ys.length
 · rw [if_pos h1] at h;exact absurd h (by decide)
 · rw [if_neg h1] at h
   by_cases h2:xs.length≠ys.length
   · rw [if_pos h2] at h;exact absurd h (by decide)
   · rw [if_neg h2] at h
     by_cases h3:exE xs=0
     · rw [if_pos h3] at h
       exact ⟨by omega,(ex_ok h3).1,(ex_ok h3).2,(ex_ok h).2⟩
     · rw [if_neg h3] at h;exact absurd h h3
structure Bb14 (w u:World) (L M:List Value):Prop where
 x:Bl u w.heap.size 62 L
 y:Bl u (w.heap.size+1) 62 M
 b:Below w.heap.size w u
theorem Bb14.below {w u v:World}{L M:List Value}(h:Bb14 w u L M) (hb:Below u.heap.size u v):Bb14 w v L M:=⟨h.x.below hb h.x.lt,h.y.below hb h.y.lt,h.b.trans (hb.mono h.b.size)⟩
abbrev s4r (w:World) (g:Nat) (a b c d:Value):World:=(((w.setCell ⟨g,0,none⟩ a).setCell ⟨g,1,none⟩ b).setCell ⟨g,2,none⟩ c).setCell ⟨g,3,none⟩ d
theorem s4r_but (g:Nat) (w:World) (a b c d:Value):But g w (s4r w g a b c d):=((((But.refl g w).set 0 _).set 1 _).set 2 _).set 3 _
theorem Bb14.setx {w u:World}{x0 x1 x2 x3:Value}{M:List Value}(h:Bb14 w u [x0,x1,x2,x3] M) (a b c d:Value):Bb14 w (s4r u w.heap.size a b c d) [a,b,c,d] M :=
 ⟨(((h.x.set 0 a).set 1 b).set 2 c).set 3 d,h.y.but (s4r_but _ _ _ _ _ _) (by omega),But.below h.b (s4r_but _ _ _ _ _ _) h.b.size (Nat.le_refl _)⟩
theorem Bb14.sety {w u:World}{y0 y1 y2 y3:Value}{L:List Value}(h:Bb14 w u L [y0,y1,y2,y3]) (a b c d:Value):Bb14 w (s4r u (w.heap.size+1) a b c d) L [a,b,c,d] :=
 ⟨h.x.but (s4r_but _ _ _ _ _ _) (by omega),(((h.y.set 0 a).set 1 b).set 2 c).set 3 d,But.below h.b (s4r_but _ _ _ _ _ _) h.b.size (by omega)⟩
theorem Rr.s4r {u:World}{g n:Nat}{v:Value}{A:Nat→Option (Bool×Nat×Int)}{S:Option (Bool×Nat×Int)}{L:List Value}(h:Rr u v n A S) (hB:Bl u g 62 L) (a b c d:Value) (hg:∀ gA ax cx,v=.agg #[.slice (some ⟨gA,0,none⟩) n n,.bool (dN S),.slice ax (ws (dX S)).length cx,.int .i64 (dE S)]→Dr u gA n n A→gA≠g):Rr (Proofs.YtflkmfdlpfimcaaGreatDoor.s4r u g a b c d) v n A S:=by
 obtain ⟨gA,ax,cx,rfl,hD,hN⟩:=h;exact ⟨gA,ax,cx,rfl,hD.but (s4r_but _ _ _ _ _ _) hB (hg gA ax cx rfl hD) (by decide),hN.off (s4r_but _ _ _ _ _ _) (hN.notin (by decide) hB)⟩
theorem Dr.ne14 {u:World}{g gA n k:Nat}{A:Nat→Option (Bool×Nat×Int)}{L:List Value}(h:Dr u gA n k A) (hB:Bl u g 62 L):gA≠g:=by
 rintro rfl;obtain ⟨c,h,_⟩:=h;unfold Bl at hB;rw [h] at hB
 injection hB with hB
 injection hB with _ hB
 exact absurd hB (by decide)
theorem both_long (xs ys:List Nat) (a a2:Option Addr) (n n2 c c2:Nat) (w:World) (d:decide ((65536:Int)<(n:Nat))=true∨(decide ((65536:Int)<(n:Nat))=false∧decide ((65536:Int)<(n2:Nat))=true)) :
 Calls Tryz.prog 39 #[.slice a n c,.slice a2 n2 c2] w fun r w'=>r=.returned (.tuple #[.agg #[.slice none 0 0,.bool false,.slice none 0 0,.int .i64 0],.agg #[.slice none 0 0,.bool false,.slice none 0 0,.int .i64 0],.int .i64 2])∧Below w.heap.size w w':=by
 obtain ⟨W,hWW⟩:∃ W,W=(w.alloc (Obj.cells #[.slice none 0 0,.bool false,.slice none 0 0,.int .i64 0] 62)).alloc (Obj.cells #[.slice none 0 0,.bool false,.slice none 0 0,.int .i64 0] 62):=⟨_,rfl⟩
 have B0:Aside (Bb14 w W [.slice none 0 0,.bool false,.slice none 0 0,.int .i64 0] [.slice none 0 0,.bool false,.slice none 0 0,.int .i64 0]):=by
  have z:=Bl.new (w.alloc (Obj.cells #[.slice none 0 0,.bool false,.slice none 0 0,.int .i64 0] 62)) 62 [.slice none 0 0,.bool false,.slice none 0 0,.int .i64 0];rw [World.size_alloc] at z;rw [hWW];exact ⟨(Bl.new _ 62 [.slice none 0 0,.bool false,.slice none 0 0,.int .i64 0]).alloc _,z,(bel_alloc _ _).trans ((bel_alloc _ _).mono (by simp))⟩
 have HWW:=qsd hWW;clear hWW
 rcases d with d|⟨d,d2⟩
 all_goals
 ( go_enter Tryz.func39,Tryz.ntmps39
   go_upto_region 1 with fail
   rw [←HWW.out];clear HWW;have kx0:=B0.out.x.cell 0 _ rfl;have kfx0:=B0.out.x.frozen 0;have kx1:=B0.out.x.cell 1 _ rfl;have kfx1:=B0.out.x.frozen 1;have kx2:=B0.out.x.cell 2 _ rfl;have kfx2:=B0.out.x.frozen 2;have kx3:=B0.out.x.cell 3 _ rfl;have kfx3:=B0.out.x.frozen 3;have ky0:=B0.out.y.cell 0 _ rfl;have kfy0:=B0.out.y.frozen 0;have ky1:=B0.out.y.cell 1 _ rfl;have kfy1:=B0.out.y.frozen 1;have ky2:=B0.out.y.cell 2 _ rfl;have kfy2:=B0.out.y.frozen 2;have ky3:=B0.out.y.cell 3 _ rfl;have kfy3:=B0.out.y.frozen 3;go_wp2;have q:=(B0.out.setx (.slice none 0 0) (.bool false) (.slice none 0 0) (.int .i64 0)).sety (.slice none 0 0) (.bool false) (.slice none 0 0) (.int .i64 0);have gx0:=q.x.cell 0 _ rfl;have gx1:=q.x.cell 1 _ rfl;have gx2:=q.x.cell 2 _ rfl;have gx3:=q.x.cell 3 _ rfl;have gy0:=q.y.cell 0 _ rfl;have gy1:=q.y.cell 1 _ rfl;have gy2:=q.y.cell 2 _ rfl;have gy3:=q.y.cell 3 _ rfl;exact bodyPost_ret (v:=.tuple #[.agg #[.slice none 0 0,.bool false,.slice none 0 0,.int .i64 0],.agg #[.slice none 0 0,.bool false,.slice none 0 0,.int .i64 0],.int .i64 2]) (by simp [results,Tryz.results39,go_sem,gx0,gx1,gx2,gx3,gy0,gy1,gy2,gy3]) rfl ⟨rfl,q.b⟩
 )
theorem both_unlike (xs ys:List Nat) (a a2:Option Addr) (n n2 c c2:Nat) (w:World) (d1:decide ((65536:Int)<(n:Nat))=false) (d2:decide ((65536:Int)<(n2:Nat))=false) (hne:((n:Int)==(n2:Int))=false) (hne':(n:Int)≠(n2:Int)) :
 Calls Tryz.prog 39 #[.slice a n c,.slice a2 n2 c2] w fun r w'=>r=.returned (.tuple #[.agg #[.slice none 0 0,.bool false,.slice none 0 0,.int .i64 0],.agg #[.slice none 0 0,.bool false,.slice none 0 0,.int .i64 0],.int .i64 4])∧Below w.heap.size w w':=by
 obtain ⟨W,hWW⟩:∃ W,W=(w.alloc (Obj.cells #[.slice none 0 0,.bool false,.slice none 0 0,.int .i64 0] 62)).alloc (Obj.cells #[.slice none 0 0,.bool false,.slice none 0 0,.int .i64 0] 62):=⟨_,rfl⟩
 have B0:Aside (Bb14 w W [.slice none 0 0,.bool false,.slice none 0 0,.int .i64 0] [.slice none 0 0,.bool false,.slice none 0 0,.int .i64 0]):=by
  have z:=Bl.new (w.alloc (Obj.cells #[.slice none 0 0,.bool false,.slice none 0 0,.int .i64 0] 62)) 62 [.slice none 0 0,.bool false,.slice none 0 0,.int .i64 0];rw [World.size_alloc] at z;rw [hWW];exact ⟨(Bl.new _ 62 [.slice none 0 0,.bool false,.slice none 0 0,.int .i64 0]).alloc _,z,(bel_alloc _ _).trans ((bel_alloc _ _).mono (by simp))⟩
 have HWW:=qsd hWW;clear hWW;go_enter Tryz.func39,Tryz.ntmps39
 go_upto_region 1 with fail
 rw [←HWW.out];clear HWW;have kx0:=B0.out.x.cell 0 _ rfl;have kfx0:=B0.out.x.frozen 0;have kx1:=B0.out.x.cell 1 _ rfl;have kfx1:=B0.out.x.frozen 1;have kx2:=B0.out.x.cell 2 _ rfl;have kfx2:=B0.out.x.frozen 2;have kx3:=B0.out.x.cell 3 _ rfl;have kfx3:=B0.out.x.frozen 3;have ky0:=B0.out.y.cell 0 _ rfl;have kfy0:=B0.out.y.frozen 0;have ky1:=B0.out.y.cell 1 _ rfl;have kfy1:=B0.out.y.frozen 1;have ky2:=B0.out.y.cell 2 _ rfl;have kfy2:=B0.out.y.frozen 2;have ky3:=B0.out.y.cell 3 _ rfl;have kfy3:=B0.out.y.frozen 3;go_wp2;have q:=(B0.out.setx (.slice none 0 0) (.bool false) (.slice none 0 0) (.int .i64 0)).sety (.slice none 0 0) (.bool false) (.slice none 0 0) (.int .i64 0);have gx0:=q.x.cell 0 _ rfl;have gx1:=q.x.cell 1 _ rfl;have gx2:=q.x.cell 2 _ rfl;have gx3:=q.x.cell 3 _ rfl;have gy0:=q.y.cell 0 _ rfl;have gy1:=q.y.cell 1 _ rfl;have gy2:=q.y.cell 2 _ rfl;have gy3:=q.y.cell 3 _ rfl;exact bodyPost_ret (v:=.tuple #[.agg #[.slice none 0 0,.bool false,.slice none 0 0,.int .i64 0],.agg #[.slice none 0 0,.bool false,.slice none 0 0,.int .i64 0],.int .i64 4]) (by simp [results,Tryz.results39,go_sem,gx0,gx1,gx2,gx3,gy0,gy1,gy2,gy3]) rfl ⟨rfl,q.b⟩
theorem both_rest (xs ys:List Nat) (a a2:Option Addr) (n c c2:Nat) (w:World) (hn:n=xs.length) (hn2:n=ys.length) (hF:Fs w.heap.size w a xs) (hG:Fs w.heap.size w a2 ys) (hW:W64 xs) (hW2:W64 ys) (hT:Tab w) (hl:n≤65536) :
 Calls Tryz.prog 39 #[.slice a n c,.slice a2 n c2] w fun r w'=>Bo14 xs ys n r w'∧Below w.heap.size w w':=by
 have eB:boE xs ys=if exE xs=0 then exE ys else exE xs:=by unfold boE;rw [if_neg (by omega),if_neg (by omega)]
 obtain ⟨W,hWW⟩:∃ W,W=(w.alloc (Obj.cells #[.slice none 0 0,.bool false,.slice none 0 0,.int .i64 0] 62)).alloc (Obj.cells #[.slice none 0 0,.bool false,.slice none 0 0,.int .i64 0] 62):=⟨_,rfl⟩
 have B0:Aside (Bb14 w W [.slice none 0 0,.bool false,.slice none 0 0,.int .i64 0] [.slice none 0 0,.bool false,.slice none 0 0,.int .i64 0]):=by
  have z:=Bl.new (w.alloc (Obj.cells #[.slice none 0 0,.bool false,.slice none 0 0,.int .i64 0] 62)) 62 [.slice none 0 0,.bool false,.slice none 0 0,.int .i64 0];rw [World.size_alloc] at z;rw [hWW];exact ⟨(Bl.new _ 62 [.slice none 0 0,.bool false,.slice none 0 0,.int .i64 0]).alloc _,z,(bel_alloc _ _).trans ((bel_alloc _ _).mono (by simp))⟩
 have HWW:=qsd hWW;clear hWW;have d1:decide ((65536:Int)<(n:Nat))=false:=by simp;omega
 have hne:((n:Int)==(n:Int))=true:=by simp
 have HE:=hid (exact14 xs a n c W hn ((hF.below B0.out.b).mono B0.out.b.size) hW (hT.belows B0.out.b) (by omega))
 have HX:=qsd (ai hn2 (ai hG (ai hW2 (ai hT (ai hl eB)))));obtain ⟨es,hes⟩:∃ e,exE xs=e:=⟨_,rfl⟩;obtain ⟨et,het⟩:∃ e,exE ys=e:=⟨_,rfl⟩;rw [hes] at HE;have HES:=(qsd (ai hes het));clear hn hn2 hF hG hW hW2 hT hl eB hes het;go_enter Tryz.func39,Tryz.ntmps39
 go_upto_region 1 with fail
 rw [←HWW.out];clear HWW
 go_wp2_with fail
 refine HE.out.mono ?_;rintro r u ⟨hr,hb⟩;have B1:=qsd (B0.out.below hb)
 rcases hr with ⟨he,rfl⟩|⟨he,v1,rfl,hR⟩
 · have h1:(es==0)=false:=by simp [he]
   have HQ:Aside (boE xs ys=es∧es≠0):=⟨by rw [HX.out.2.2.2.2.2,HES.out.1,if_neg he],he⟩
   clear hb B0 HE;have B2:=qsd (B1.out.setx (.slice none 0 0) (.bool false) (.slice none 0 0) (.int .i64 0));obtain ⟨U,hU⟩:∃ U,U=s4r u w.heap.size (.slice none 0 0) (.bool false) (.slice none 0 0) (.int .i64 0):=⟨_,rfl⟩;rw [←hU] at B2;unfold s4r at hU;have HU:=qsd hU;clear hU;have kx0:=B1.out.x.cell 0 _ rfl;have kfx0:=B1.out.x.frozen 0;have kx1:=B1.out.x.cell 1 _ rfl;have kfx1:=B1.out.x.frozen 1;have kx2:=B1.out.x.cell 2 _ rfl;have kfx2:=B1.out.x.frozen 2;have kx3:=B1.out.x.cell 3 _ rfl;have kfx3:=B1.out.x.frozen 3;have ky0:=B1.out.y.cell 0 _ rfl;have kfy0:=B1.out.y.frozen 0;have ky1:=B1.out.y.cell 1 _ rfl;have kfy1:=B1.out.y.frozen 1;have ky2:=B1.out.y.cell 2 _ rfl;have kfy2:=B1.out.y.frozen 2;have ky3:=B1.out.y.cell 3 _ rfl;have kfy3:=B1.out.y.frozen 3
   go_upto_region 6 with fail
   rw [←HU.out];clear HU;clear kx0 kfx0 kx1 kfx1 kx2 kfx2 kx3 kfx3 ky0 kfy0 ky1 kfy1 ky2 kfy2 ky3 kfy3;have kx0:=B2.out.x.cell 0 _ rfl;have kfx0:=B2.out.x.frozen 0;have kx1:=B2.out.x.cell 1 _ rfl;have kfx1:=B2.out.x.frozen 1;have kx2:=B2.out.x.cell 2 _ rfl;have kfx2:=B2.out.x.frozen 2;have kx3:=B2.out.x.cell 3 _ rfl;have kfx3:=B2.out.x.frozen 3;have ky0:=B2.out.y.cell 0 _ rfl;have kfy0:=B2.out.y.frozen 0;have ky1:=B2.out.y.cell 1 _ rfl;have kfy1:=B2.out.y.frozen 1;have ky2:=B2.out.y.cell 2 _ rfl;have kfy2:=B2.out.y.frozen 2;have ky3:=B2.out.y.cell 3 _ rfl;have kfy3:=B2.out.y.frozen 3;go_wp2;have q:=(B2.out.setx (.slice none 0 0) (.bool false) (.slice none 0 0) (.int .i64 0)).sety (.slice none 0 0) (.bool false) (.slice none 0 0) (.int .i64 0);have gx0:=q.x.cell 0 _ rfl;have gx1:=q.x.cell 1 _ rfl;have gx2:=q.x.cell 2 _ rfl;have gx3:=q.x.cell 3 _ rfl;have gy0:=q.y.cell 0 _ rfl;have gy1:=q.y.cell 1 _ rfl;have gy2:=q.y.cell 2 _ rfl;have gy3:=q.y.cell 3 _ rfl;exact bodyPost_ret (v:=.tuple #[.agg #[.slice none 0 0,.bool false,.slice none 0 0,.int .i64 0],.agg #[.slice none 0 0,.bool false,.slice none 0 0,.int .i64 0],.int .i64 es]) (by simp [results,Tryz.results39,go_sem,gx0,gx1,gx2,gx3,gy0,gy1,gy2,gy3]) rfl ⟨.inl ⟨by rw [HQ.out.1];exact HQ.out.2,by rw [HQ.out.1]⟩,q.b⟩
 · subst he
   have R1:=qsd hR;obtain ⟨gA,p1,q1,rfl,hD,hN⟩:=hR;obtain ⟨oS,hoS⟩:∃ o,o=gV 1074 (sX xs):=⟨_,rfl⟩;rw [←hoS] at R1 ⊢;have B2:=qsd (B1.out.setx (.slice (some ⟨gA,0,none⟩) n n) (.bool (dN oS)) (.slice p1 (ws (dX oS)).length q1) (.int .i64 (dE oS)));have R2:=qsd (R1.out.s4r B1.out.x (.slice (some ⟨gA,0,none⟩) n n) (.bool (dN oS)) (.slice p1 (ws (dX oS)).length q1) (.int .i64 (dE oS)) (fun gA' _ _ _ hD'=>hD'.ne14 B1.out.x))
   obtain ⟨U,hU⟩:∃ U,U=s4r u w.heap.size (.slice (some ⟨gA,0,none⟩) n n) (.bool (dN oS)) (.slice p1 (ws (dX oS)).length q1) (.int .i64 (dE oS)):=⟨_,rfl⟩;rw [←hU] at B2 R2;unfold s4r at hU;have HU:=qsd hU;have HOS:=qsd hoS;clear hU hD hN hb B0 HE R1 hoS;have kx0:=B1.out.x.cell 0 _ rfl;have kfx0:=B1.out.x.frozen 0;have kx1:=B1.out.x.cell 1 _ rfl;have kfx1:=B1.out.x.frozen 1;have kx2:=B1.out.x.cell 2 _ rfl;have kfx2:=B1.out.x.frozen 2;have kx3:=B1.out.x.cell 3 _ rfl;have kfx3:=B1.out.x.frozen 3;have ky0:=B1.out.y.cell 0 _ rfl;have kfy0:=B1.out.y.frozen 0;have ky1:=B1.out.y.cell 1 _ rfl;have kfy1:=B1.out.y.frozen 1;have ky2:=B1.out.y.cell 2 _ rfl;have kfy2:=B1.out.y.frozen 2;have ky3:=B1.out.y.cell 3 _ rfl;have kfy3:=B1.out.y.frozen 3
   go_upto_region 6 with fail
   rw [←HU.out];clear HU B1;clear kx0 kfx0 kx1 kfx1 kx2 kfx2 kx3 kfx3 ky0 kfy0 ky1 kfy1 ky2 kfy2 ky3 kfy3;have HE:=hid (exact14 ys a2 n c2 U HX.out.1 ((HX.out.2.1.below B2.out.b).mono B2.out.b.size) HX.out.2.2.1 (HX.out.2.2.2.1.belows B2.out.b) (by have:=HX.out.2.2.2.2.1;omega))
   rw [HES.out.2] at HE
   go_wp2_with fail
   refine HE.out.mono ?_;rintro r u2 ⟨hr,hb⟩;have B3:=qsd (B2.out.below hb);have R3:=qsd (R2.out.below hb)
   rcases hr with ⟨he,rfl⟩|⟨he,v2,rfl,hR⟩
   · have h1:(et==0)=false:=by simp [he]
     have HQ:Aside (boE xs ys=et∧et≠0):=⟨by rw [HX.out.2.2.2.2.2,HES.out.1,if_pos rfl,HES.out.2],he⟩
     clear hb HE R3 R2;have B4:=qsd (B3.out.sety (.slice none 0 0) (.bool false) (.slice none 0 0) (.int .i64 0));obtain ⟨V,hV⟩:∃ V,V=s4r u2 (w.heap.size+1) (.slice none 0 0) (.bool false) (.slice none 0 0) (.int .i64 0):=⟨_,rfl⟩;rw [←hV] at B4;unfold s4r at hV;have HV:=qsd hV;clear hV;have kx0:=B3.out.x.cell 0 _ rfl;have kfx0:=B3.out.x.frozen 0;have kx1:=B3.out.x.cell 1 _ rfl;have kfx1:=B3.out.x.frozen 1;have kx2:=B3.out.x.cell 2 _ rfl;have kfx2:=B3.out.x.frozen 2;have kx3:=B3.out.x.cell 3 _ rfl;have kfx3:=B3.out.x.frozen 3;have ky0:=B3.out.y.cell 0 _ rfl;have kfy0:=B3.out.y.frozen 0;have ky1:=B3.out.y.cell 1 _ rfl;have kfy1:=B3.out.y.frozen 1;have ky2:=B3.out.y.cell 2 _ rfl;have kfy2:=B3.out.y.frozen 2;have ky3:=B3.out.y.cell 3 _ rfl;have kfy3:=B3.out.y.frozen 3
     go_upto_region 9 with fail
     rw [←HV.out];clear HV;clear kx0 kfx0 kx1 kfx1 kx2 kfx2 kx3 kfx3 ky0 kfy0 ky1 kfy1 ky2 kfy2 ky3 kfy3;have kx0:=B4.out.x.cell 0 _ rfl;have kfx0:=B4.out.x.frozen 0;have kx1:=B4.out.x.cell 1 _ rfl;have kfx1:=B4.out.x.frozen 1;have kx2:=B4.out.x.cell 2 _ rfl;have kfx2:=B4.out.x.frozen 2;have kx3:=B4.out.x.cell 3 _ rfl;have kfx3:=B4.out.x.frozen 3;have ky0:=B4.out.y.cell 0 _ rfl;have kfy0:=B4.out.y.frozen 0;have ky1:=B4.out.y.cell 1 _ rfl;have kfy1:=B4.out.y.frozen 1;have ky2:=B4.out.y.cell 2 _ rfl;have kfy2:=B4.out.y.frozen 2;have ky3:=B4.out.y.cell 3 _ rfl;have kfy3:=B4.out.y.frozen 3;go_wp2;have q:=(B4.out.setx (.slice none 0 0) (.bool false) (.slice none 0 0) (.int .i64 0)).sety (.slice none 0 0) (.bool false) (.slice none 0 0) (.int .i64 0);have gx0:=q.x.cell 0 _ rfl;have gx1:=q.x.cell 1 _ rfl;have gx2:=q.x.cell 2 _ rfl;have gx3:=q.x.cell 3 _ rfl;have gy0:=q.y.cell 0 _ rfl;have gy1:=q.y.cell 1 _ rfl;have gy2:=q.y.cell 2 _ rfl;have gy3:=q.y.cell 3 _ rfl;exact bodyPost_ret (v:=.tuple #[.agg #[.slice none 0 0,.bool false,.slice none 0 0,.int .i64 0],.agg #[.slice none 0 0,.bool false,.slice none 0 0,.int .i64 0],.int .i64 et]) (by simp [results,Tryz.results39,go_sem,gx0,gx1,gx2,gx3,gy0,gy1,gy2,gy3]) rfl ⟨.inl ⟨by rw [HQ.out.1];exact HQ.out.2,by rw [HQ.out.1]⟩,q.b⟩
   · subst he
     have S1:=qsd hR;obtain ⟨gB,p2,q2,rfl,hD,hN⟩:=hR;obtain ⟨oT,hoT⟩:∃ o,o=gV 1074 (sX ys):=⟨_,rfl⟩;rw [←hoT] at S1 ⊢;have B4:=qsd (B3.out.sety (.slice (some ⟨gB,0,none⟩) n n) (.bool (dN oT)) (.slice p2 (ws (dX oT)).length q2) (.int .i64 (dE oT)));have R4:=qsd (R3.out.s4r B3.out.y (.slice (some ⟨gB,0,none⟩) n n) (.bool (dN oT)) (.slice p2 (ws (dX oT)).length q2) (.int .i64 (dE oT)) (fun gA' _ _ _ hD'=>hD'.ne14 B3.out.y))
     have S4:=qsd (S1.out.s4r B3.out.y (.slice (some ⟨gB,0,none⟩) n n) (.bool (dN oT)) (.slice p2 (ws (dX oT)).length q2) (.int .i64 (dE oT)) (fun gA' _ _ _ hD'=>hD'.ne14 B3.out.y))
     obtain ⟨V,hV⟩:∃ V,V=s4r u2 (w.heap.size+1) (.slice (some ⟨gB,0,none⟩) n n) (.bool (dN oT)) (.slice p2 (ws (dX oT)).length q2) (.int .i64 (dE oT)):=⟨_,rfl⟩;rw [←hV] at B4 R4 S4;unfold s4r at hV;have HV:=qsd hV;have HOT:=qsd hoT;clear hV hD hN hb HE R3 S1 hoT R2;have kx0:=B3.out.x.cell 0 _ rfl;have kfx0:=B3.out.x.frozen 0;have kx1:=B3.out.x.cell 1 _ rfl;have kfx1:=B3.out.x.frozen 1;have kx2:=B3.out.x.cell 2 _ rfl;have kfx2:=B3.out.x.frozen 2;have kx3:=B3.out.x.cell 3 _ rfl;have kfx3:=B3.out.x.frozen 3;have ky0:=B3.out.y.cell 0 _ rfl;have kfy0:=B3.out.y.frozen 0;have ky1:=B3.out.y.cell 1 _ rfl;have kfy1:=B3.out.y.frozen 1;have ky2:=B3.out.y.cell 2 _ rfl;have kfy2:=B3.out.y.frozen 2;have ky3:=B3.out.y.cell 3 _ rfl;have kfy3:=B3.out.y.frozen 3
     go_upto_region 9 with fail
     rw [←HV.out];clear HV B3 B2;clear kx0 kfx0 kx1 kfx1 kx2 kfx2 kx3 kfx3 ky0 kfy0 ky1 kfy1 ky2 kfy2 ky3 kfy3;have B6:=qsd (((B4.out.setx (.slice (some ⟨gA,0,none⟩) n n) (.bool (dN oS)) (.slice p1 (ws (dX oS)).length q1) (.int .i64 (dE oS))).sety (.slice (some ⟨gB,0,none⟩) n n) (.bool (dN oT)) (.slice p2 (ws (dX oT)).length q2) (.int .i64 (dE oT))).below (Below.refl _ _).drew);have R6:=qsd (((R4.out.s4r B4.out.x (.slice (some ⟨gA,0,none⟩) n n) (.bool (dN oS)) (.slice p1 (ws (dX oS)).length q1) (.int .i64 (dE oS)) (fun gA' _ _ _ hD'=>hD'.ne14 B4.out.x)).s4r (B4.out.setx (.slice (some ⟨gA,0,none⟩) n n) (.bool (dN oS)) (.slice p1 (ws (dX oS)).length q1) (.int .i64 (dE oS))).y (.slice (some ⟨gB,0,none⟩) n n) (.bool (dN oT)) (.slice p2 (ws (dX oT)).length q2) (.int .i64 (dE oT)) (fun gA' _ _ _ hD'=>hD'.ne14 (B4.out.setx (.slice (some ⟨gA,0,none⟩) n n) (.bool (dN oS)) (.slice p1 (ws (dX oS)).length q1) (.int .i64 (dE oS))).y)).below (Below.refl _ _).drew)
     have S6:=qsd (((S4.out.s4r B4.out.x (.slice (some ⟨gA,0,none⟩) n n) (.bool (dN oS)) (.slice p1 (ws (dX oS)).length q1) (.int .i64 (dE oS)) (fun gA' _ _ _ hD'=>hD'.ne14 B4.out.x)).s4r (B4.out.setx (.slice (some ⟨gA,0,none⟩) n n) (.bool (dN oS)) (.slice p1 (ws (dX oS)).length q1) (.int .i64 (dE oS))).y (.slice (some ⟨gB,0,none⟩) n n) (.bool (dN oT)) (.slice p2 (ws (dX oT)).length q2) (.int .i64 (dE oT)) (fun gA' _ _ _ hD'=>hD'.ne14 (B4.out.setx (.slice (some ⟨gA,0,none⟩) n n) (.bool (dN oS)) (.slice p1 (ws (dX oS)).length q1) (.int .i64 (dE oS))).y)).below (Below.refl _ _).drew)
     have kx0:=B4.out.x.cell 0 _ rfl;have kfx0:=B4.out.x.frozen 0;have kx1:=B4.out.x.cell 1 _ rfl;have kfx1:=B4.out.x.frozen 1;have kx2:=B4.out.x.cell 2 _ rfl;have kfx2:=B4.out.x.frozen 2;have kx3:=B4.out.x.cell 3 _ rfl;have kfx3:=B4.out.x.frozen 3;have ky0:=B4.out.y.cell 0 _ rfl;have kfy0:=B4.out.y.frozen 0;have ky1:=B4.out.y.cell 1 _ rfl;have kfy1:=B4.out.y.frozen 1;have ky2:=B4.out.y.cell 2 _ rfl;have kfy2:=B4.out.y.frozen 2;have ky3:=B4.out.y.cell 3 _ rfl;have kfy3:=B4.out.y.frozen 3;have HQ:Aside (boE xs ys=0):=by show _=_;rw [HX.out.2.2.2.2.2,HES.out.1,if_pos rfl,HES.out.2]
     clear B4 R4 S4
     go_wp2_with fail
     go_region
     go_wp2;have gx0:=B6.out.x.cell 0 _ rfl;have gx1:=B6.out.x.cell 1 _ rfl;have gx2:=B6.out.x.cell 2 _ rfl;have gx3:=B6.out.x.cell 3 _ rfl;have gy0:=B6.out.y.cell 0 _ rfl;have gy1:=B6.out.y.cell 1 _ rfl;have gy2:=B6.out.y.cell 2 _ rfl;have gy3:=B6.out.y.cell 3 _ rfl;refine bodyPost_ret (v:=.tuple #[.agg #[.slice (some ⟨gA,0,none⟩) n n,.bool (dN oS),.slice p1 (ws (dX oS)).length q1,.int .i64 (dE oS)],.agg #[.slice (some ⟨gB,0,none⟩) n n,.bool (dN oT),.slice p2 (ws (dX oT)).length q2,.int .i64 (dE oT)],.int .i64 0]) (by simp [results,Tryz.results39,go_sem,gx0,gx1,gx2,gx3,gy0,gy1,gy2,gy3]) rfl ⟨.inr ⟨HQ.out,_,_,rfl,?_,?_⟩,?_⟩
     · rw [←HOS.out];exact R6.out
     · rw [←HOT.out];exact S6.out
     · exact B6.out.b
theorem both14 (xs ys:List Nat) (a a2:Option Addr) (n n2 c c2:Nat) (w:World) (hn:n=xs.length) (hn2:n2=ys.length) (hF:Fs w.heap.size w a xs) (hG:Fs w.heap.size w a2 ys) (hW:W64 xs) (hW2:W64 ys) (hT:Tab w) (hl:n≤35184372088832) (hl2:n2≤35184372088832) :
 Calls Tryz.prog 39 #[.slice a n c,.slice a2 n2 c2] w fun r w'=>Bo14 xs ys n r w'∧Below w.heap.size w w':=by
 by_cases h1:65536<n∨65536<n2
 · have e:boE xs ys=2:=by unfold boE;rw [if_pos (by omega)]
   refine (both_long xs ys a a2 n n2 c c2 w (by
    by_cases q:65536<n
    · exact .inl (by simp;omega)
    · exact .inr ⟨by simp;omega,by simp;omega⟩)).mono ?_
   rintro r w' ⟨rfl,hb⟩;exact ⟨.inl ⟨by rw [e];decide,by rw [e]⟩,hb⟩
 · by_cases h2:n=n2
   · subst h2
     exact both_rest xs ys a a2 n c c2 w hn hn2 hF hG hW hW2 hT (by omega)
   · have e:boE xs ys=4:=by unfold boE;rw [if_neg (by omega),if_pos (by omega)]
     refine (both_unlike xs ys a a2 n n2 c c2 w (by simp;omega) (by simp;omega) (by simp;omega) (by omega)).mono ?_
     rintro r w' ⟨rfl,hb⟩;exact ⟨.inl ⟨by rw [e];decide,by rw [e]⟩,hb⟩
end
section
open Go Go.RowKit J
noncomputable def coR (xs ys:List Nat) (less mode:Int):Nat×Int :=
 if mdB mode&&lsB less then
  if boE xs ys=0 then
   if (xs.length:Int)≤less then (0,3) else qR14 (gV 2148 (cS xs ys)) (gV 0 ((xs.length:Int)*((xs.length:Int)-less))) mode
  else (0,boE xs ys)
 else (0,1)
structure Tw14 (w v:World) (n gx gy gA gB:Nat) (p1 p2:Option Addr) (q1 q2:Nat) (A B:Nat→Option (Bool×Nat×Int)) (oS oT:Option (Bool×Nat×Int)):Prop where
 x:Bl v gx 62 [.slice (some ⟨gA,0,none⟩) n n,.bool (dN oS),.slice p1 (ws (dX oS)).length q1,.int .i64 (dE oS)]
 y:Bl v gy 62 [.slice (some ⟨gB,0,none⟩) n n,.bool (dN oT),.slice p2 (ws (dX oT)).length q2,.int .i64 (dE oT)]
 dx:Dr v gA n n A
 dy:Dr v gB n n B
 nx:Nt 0 v (.slice p1 (ws (dX oS)).length q1) (dX oS)
 ny:Nt 0 v (.slice p2 (ws (dX oT)).length q2) (dX oT)
 b:Below w.heap.size w v
theorem Tw14.below {w v u:World}{n gx gy gA gB:Nat}{p1 p2:Option Addr}{q1 q2:Nat}{A B:Nat→Option (Bool×Nat×Int)}{oS oT:Option (Bool×Nat×Int)}(h:Tw14 w v n gx gy gA gB p1 p2 q1 q2 A B oS oT) (hb:Below v.heap.size v u):Tw14 w u n gx gy gA gB p1 p2 q1 q2 A B oS oT :=
 ⟨h.x.below hb h.x.lt,h.y.below hb h.y.lt,h.dx.below hb,h.dy.below hb,h.nx.below hb,h.ny.below hb,h.b.trans (hb.mono h.b.size)⟩
theorem Tw14.rx {w v:World}{n gx gy gA gB:Nat}{p1 p2:Option Addr}{q1 q2:Nat}{A B:Nat→Option (Bool×Nat×Int)}{oS oT:Option (Bool×Nat×Int)}(h:Tw14 w v n gx gy gA gB p1 p2 q1 q2 A B oS oT):Rr v (.agg #[.slice (some ⟨gA,0,none⟩) n n,.bool (dN oS),.slice p1 (ws (dX oS)).length q1,.int .i64 (dE oS)]) n A oS:=⟨gA,p1,q1,rfl,h.dx,h.nx⟩
theorem Tw14.ry {w v:World}{n gx gy gA gB:Nat}{p1 p2:Option Addr}{q1 q2:Nat}{A B:Nat→Option (Bool×Nat×Int)}{oS oT:Option (Bool×Nat×Int)}(h:Tw14 w v n gx gy gA gB p1 p2 q1 q2 A B oS oT):Rr v (.agg #[.slice (some ⟨gB,0,none⟩) n n,.bool (dN oT),.slice p2 (ws (dX oT)).length q2,.int .i64 (dE oT)]) n B oT:=⟨gB,p2,q2,rfl,h.dy,h.ny⟩
theorem Tw14.cells {w v:World}{n gx gy gA gB:Nat}{p1 p2:Option Addr}{q1 q2:Nat}{A B:Nat→Option (Bool×Nat×Int)}{oS oT:Option (Bool×Nat×Int)}(h:Tw14 w v n gx gy gA gB p1 p2 q1 q2 A B oS oT):v.cell? ⟨gx,0,none⟩=some (.slice (some ⟨gA,0,none⟩) n n)∧v.cell? ⟨gx,1,none⟩=some (.bool (dN oS))∧v.cell? ⟨gx,2,none⟩=some (.slice p1 (ws (dX oS)).length q1)∧v.cell? ⟨gx,3,none⟩=some (.int .i64 (dE oS))∧v.cell? ⟨gy,0,none⟩=some (.slice (some ⟨gB,0,none⟩) n n)∧v.cell? ⟨gy,1,none⟩=some (.bool (dN oT))∧v.cell? ⟨gy,2,none⟩=some (.slice p2 (ws (dX oT)).length q2)∧v.cell? ⟨gy,3,none⟩=some (.int .i64 (dE oT)) :=
 ⟨h.x.cell 0 _ rfl,h.x.cell 1 _ rfl,h.x.cell 2 _ rfl,h.x.cell 3 _ rfl,h.y.cell 0 _ rfl,h.y.cell 1 _ rfl,h.y.cell 2 _ rfl,h.y.cell 3 _ rfl⟩
theorem Co14 (xs ys:List Nat) (a a2:Option Addr) (n n2 c c2:Nat) (less mode:Int) (w:World) (hn:n=xs.length) (hn2:n2=ys.length) (hF:Fs w.heap.size w a xs) (hG:Fs w.heap.size w a2 ys) (hW:W64 xs) (hW2:W64 ys) (hT:Tab w) (hl:n≤35184372088832) (hl2:n2≤35184372088832) (z:Nat×Int) (hz:coR xs ys less mode=z) :
 Calls Tryz.prog 24 #[.slice a n c,.slice a2 n2 c2,.int .i64 less,.int .i64 mode] w fun r w'=>r=.returned (.tuple #[.float .f64 z.1,.int .i64 z.2])∧Below w.heap.size w w':=by
 obtain ⟨X,E⟩:=z;simp only;have C:=hid (isMode14 mode w);have D:=hid (isLess14 less w);unfold coR at hz
 cases hm:mdB mode with
 | false =>
   rw [hm,Bool.false_and,if_neg (by decide)] at hz
   rw [hm] at C;obtain ⟨rfl,rfl⟩:=Prod.mk.inj hz;clear hz hn hF hW hT hn2 hG hW2;go_enter Tryz.func24,Tryz.ntmps24
   go_wp2_with fail
   refine C.out.mono ?_;rintro r v ⟨rfl,hv⟩;rw [hv];clear hv v C;go_wp2;exact bodyPost_ret (v:=.tuple #[.float .f64 0,.int .i64 1]) (by simp [results,Tryz.results24,go_sem]) rfl ⟨rfl,Below.refl _ _⟩
 | true =>
 rw [hm] at C hz
 cases hs:lsB less with
 | false =>
   rw [hs,Bool.true_and,if_neg (by decide)] at hz
   rw [hs] at D;obtain ⟨rfl,rfl⟩:=Prod.mk.inj hz;clear hz hn hF hW hT hn2 hG hW2;go_enter Tryz.func24,Tryz.ntmps24
   go_wp2_with fail
   refine C.out.mono ?_;rintro r v ⟨rfl,hv⟩;rw [hv];clear hv v C
   go_wp2_with fail
   refine D.out.mono ?_;rintro r v ⟨rfl,hv⟩;rw [hv];clear hv v D;go_wp2;exact bodyPost_ret (v:=.tuple #[.float .f64 0,.int .i64 1]) (by simp [results,Tryz.results24,go_sem]) rfl ⟨rfl,Below.refl _ _⟩
 | true =>
   rw [hs,Bool.and_self,if_pos rfl] at hz;rw [hs] at D;have HB:=hid (both14 xs ys a a2 n n2 c c2 w hn hn2 hF hG hW hW2 hT hl hl2);have HX:=qsd (ai hn (ai hn2 (ai hW (ai hW2 hT))));have HLS:=qsd (ls_ok hs);have HZ:=qsd hz;clear hz hn hF hW hT hn2 hG hW2 hl hl2 hs hm;go_enter Tryz.func24,Tryz.ntmps24
   go_wp2_with fail
   refine C.out.mono ?_;rintro r v ⟨rfl,hv⟩;rw [hv];clear hv v C
   go_wp2_with fail
   refine D.out.mono ?_;rintro r v ⟨rfl,hv⟩;rw [hv];clear hv v D
   go_wp2_with fail
   refine HB.out.mono ?_;rintro r u2 ⟨hr,hb⟩
   rcases hr with ⟨he,rfl⟩|⟨he,v1,v2,rfl,hR1,hR2⟩
   · have hz:=HZ.out
     rw [if_neg he] at hz;obtain ⟨rfl,hE⟩:=Prod.mk.inj hz;rw [hE] at he ⊢;have h1:(E==0)=false:=by simp [he]
     have BE:Aside (Below w.heap.size w ((u2.alloc (Obj.cells #[.slice none 0 0,.bool false,.slice none 0 0,.int .i64 0] 62)).alloc (Obj.cells #[.slice none 0 0,.bool false,.slice none 0 0,.int .i64 0] 62))):=(hb.trans ((bel_alloc _ _).mono hb.size)).trans ((bel_alloc _ _).mono (by simp;have:=hb.size;omega))
     clear hz HZ hE hb HB;go_wp2;exact bodyPost_ret (v:=.tuple #[.float .f64 0,.int .i64 E]) (by simp [results,Tryz.results24,go_sem]) rfl ⟨rfl,BE.out⟩
   · have HBO:=qsd he
     obtain ⟨hlen,hl6,hf1,hf2⟩:=bo_ok he;have PF:=(qsd (ai hlen (ai hl6 (ai hf1 hf2))));obtain ⟨gA,p1,q1,rfl,hD1,hN1⟩:=hR1;obtain ⟨gB,p2,q2,rfl,hD2,hN2⟩:=hR2;obtain ⟨oS,hoS⟩:∃ o,o=gV 1074 (sX xs):=⟨_,rfl⟩;obtain ⟨oT,hoT⟩:∃ o,o=gV 1074 (sX ys):=⟨_,rfl⟩;rw [←hoS] at hN1 ⊢;rw [←hoT] at hN2 ⊢;obtain ⟨V,hV⟩:∃ V,V=(u2.alloc (Obj.cells #[.slice (some ⟨gA,0,none⟩) n n,.bool (dN oS),.slice p1 (ws (dX oS)).length q1,.int .i64 (dE oS)] 62)).alloc (Obj.cells #[.slice (some ⟨gB,0,none⟩) n n,.bool (dN oT),.slice p2 (ws (dX oT)).length q2,.int .i64 (dE oT)] 62):=⟨_,rfl⟩;obtain ⟨gx,hgx⟩:∃ g,g=u2.heap.size:=⟨_,rfl⟩;obtain ⟨gy,hgy⟩:∃ g,g=u2.heap.size+1:=⟨_,rfl⟩
     have B4:Aside (Tw14 w V n gx gy gA gB p1 p2 q1 q2 (fun i=>gV 1074 (fX xs i)) (fun i=>gV 1074 (fX ys i)) oS oT):=by
      have hbV:Below u2.heap.size u2 V:=by rw [hV];exact (bel_alloc _ _).trans ((bel_alloc _ _).mono (by simp))
      refine ⟨?_,?_,hD1.below hbV,hD2.below hbV,hN1.below hbV,hN2.below hbV,hb.trans (hbV.mono hb.size)⟩
      · rw [hV,hgx];exact (Bl.new _ 62 [_,_,_,_]).alloc _
      · have z:=Bl.new (u2.alloc (Obj.cells #[.slice (some ⟨gA,0,none⟩) n n,.bool (dN oS),.slice p1 (ws (dX oS)).length q1,.int .i64 (dE oS)] 62)) 62 [.slice (some ⟨gB,0,none⟩) n n,.bool (dN oT),.slice p2 (ws (dX oT)).length q2,.int .i64 (dE oT)]
        rw [World.size_alloc] at z;rw [hV,hgy];exact z
     have HV:=(qsd (ai hV (ai hgx hgy)));have HOS:=(qsd (ai hoS hoT));clear hV hgx hgy hb hD1 hN1 hD2 hN2 HB hoS hoT hlen hl6 hf1 hf2 he
     go_upto_region 4 with fail
     rw [←HV.out.1]
     try rw [←HV.out.2.2]
     rw [←HV.out.2.1];clear HV;have s0:=B4.out.x.cell 0 _ rfl;have hz:=HZ.out;rw [if_pos HBO.out] at hz;have n6:n≤65536:=by have:=PF.out.2.1;have:=HX.out.1;omega
     have l01:0≤less∧less≤1:=by have:=HLS.out;omega
     by_cases hle:(n:Int)≤less
     · have dle:decide ((n:Int)≤less)=true:=decide_eq_true hle
       rw [if_pos (by rw [←HX.out.1];exact hle)] at hz
       obtain ⟨rfl,rfl⟩:=Prod.mk.inj hz;clear hz HZ;go_wp2;exact bodyPost_ret (v:=.tuple #[.float .f64 0,.int .i64 3]) (by simp [results,Tryz.results24,go_sem]) rfl ⟨rfl,B4.out.b⟩
     · have dle:decide ((n:Int)≤less)=false:=decide_eq_false hle
       rw [if_neg (by rw [←HX.out.1];exact hle),←HX.out.1] at hz
       obtain ⟨V0,hoV0⟩:∃ o,o=gV 2148 (cS xs ys):=⟨_,rfl⟩;obtain ⟨oD,hoD⟩:∃ o,o=gV 0 ((n:Int)*((n:Int)-less)):=⟨_,rfl⟩;rw [←hoV0,←hoD] at hz;have FV:Fm V0:=by rw [hoV0];exact g_fm (by decide) (by decide) (cS_bd HX.out.2.2.1 PF.out.2.2.1 HX.out.2.2.2.1 PF.out.2.2.2 PF.out.2.1 PF.out.1)
       have FD:Fm oD:=by rw [hoD];exact g_fm (by decide) (by decide) (sh_bd (by omega) l01.1 l01.2)
       have HSP:Hid (∀ u:World,Tw14 w u n gx gy gA gB p1 p2 q1 q2 (fun i=>gV 1074 (fX xs i)) (fun i=>gV 1074 (fX ys i)) oS oT→Calls Tryz.prog 41 #[.agg #[.slice (some ⟨gA,0,none⟩) n n,.bool (dN oS),.slice p1 (ws (dX oS)).length q1,.int .i64 (dE oS)],.agg #[.slice (some ⟨gB,0,none⟩) n n,.bool (dN oT),.slice p2 (ws (dX oT)).length q2,.int .i64 (dE oT)]] u fun r w'=>DVal 0 w' r V0∧Below u.heap.size u w'):=fun u hu=>by
        have hR:=hu.rx;have hS:=hu.ry;rw [HOS.out.1] at hR ⊢;rw [HOS.out.2] at hS ⊢;have:=spread14 (f:=fX xs) (g:=fX ys) (S:=sX xs) (T:=sX ys) n6 (HX.out.2.2.2.2.belows hu.b) (fun i hi=>fX_bd HX.out.2.2.1 PF.out.2.2.1 i (by have:=HX.out.1;have:=PF.out.1;omega)) (fun i hi=>fX_bd HX.out.2.2.2.1 PF.out.2.2.2 i (by have:=HX.out.1;have:=PF.out.1;omega)) (sX_bd HX.out.2.2.1 PF.out.2.2.1 (by have:=HX.out.1;have:=PF.out.1;omega) _ (Nat.le_refl _)) (sX_bd HX.out.2.2.2.1 PF.out.2.2.2 (by have:=HX.out.1;have:=PF.out.1;omega) _ (Nat.le_refl _)) hR hS
        rw [hoV0];unfold cS;rw [show (xs).length=n by have:=HX.out.1;have:=PF.out.1;omega]
        exact this
       have HSH:Hid (∀ u:World,Tab u→Calls Tryz.prog 46 #[.int .i64 (n:Nat),.int .i64 less] u fun r w'=>DVal 0 w' r oD∧Below u.heap.size u w'):=fun u hu=>by
        rw [hoD];exact shares14 n less u hu (by omega) l01.1 l01.2 (by omega)
       have HR:Hid (∀ (u:World) (a b:Option Addr) (ca cb:Nat),Tab u→Nt 0 u (.slice a (ws (dX V0)).length ca) (dX V0)→Nt 0 u (.slice b (ws (dX oD)).length cb) (dX oD)→Calls Tryz.prog 37 #[.agg #[.bool (dN V0),.slice a (ws (dX V0)).length ca,.int .i64 (dE V0),.bool (dN oD),.slice b (ws (dX oD)).length cb,.int .i64 (dE oD)],.int .i64 mode] u fun r w'=>r=.returned (.tuple #[.float .f64 X,.int .i64 E])∧Below u.heap.size u w'):=fun u a b ca cb hTu n1 n2=>by
        have:=Quot14 mode FV FD n1 n2 hTu;rw [hz] at this;exact this
       have HT:=qsd HX.out.2.2.2.2;have BD:=qsd (B4.out.below (Below.refl V.heap.size V).drew);have kS:=qsd BD.out.cells;have C1:=hid (HSP.out V.drew BD.out);clear hz HZ hoV0 hoD FV FD n6 l01 PF HX HSP
       go_wp2_with fail
       clear s0 B4
       go_region_held3 (fun w'=>w'.cell? ⟨gx,0,none⟩=some (.slice (some ⟨gA,0,none⟩) n n)∧w'.cell? ⟨gx,1,none⟩=some (.bool (dN oS))∧w'.cell? ⟨gx,2,none⟩=some (.slice p1 (ws (dX oS)).length q1)∧w'.cell? ⟨gx,3,none⟩=some (.int .i64 (dE oS))∧w'.cell? ⟨gy,0,none⟩=some (.slice (some ⟨gB,0,none⟩) n n)∧w'.cell? ⟨gy,1,none⟩=some (.bool (dN oT))∧w'.cell? ⟨gy,2,none⟩=some (.slice p2 (ws (dX oT)).length q2)∧w'.cell? ⟨gy,3,none⟩=some (.int .i64 (dE oT))) (with_reducible exact kS.out) (first
        | (go_at_call 41
           with_reducible refine C1.out.mono ?_
           rintro r u3 ⟨hd,hb⟩;obtain ⟨a3,c3,rfl,hN3⟩:=hd.shp14;have BE:=qsd (ai (BD.out.below hb) hN3);have kS:=qsd BE.out.1.cells;have C2:=hid (HSH.out u3 (HT.out.belows BE.out.1.b));clear hb hd hN3 C1)
        | (go_at_call 46
           with_reducible refine C2.out.mono ?_
           rintro r u4 ⟨hd,hb⟩;obtain ⟨a4,c4,rfl,hN4⟩:=hd.shp14;have BG:=qsd (ai (BE.out.1.below hb) (ai (BE.out.2.below hb) hN4));have kS:=qsd BG.out.1.cells;have C3:=hid (HR.out u4 a3 a4 c3 c4 (HT.out.belows BG.out.1.b) BG.out.2.1 BG.out.2.2);clear hb hd hN4 C2)
        | (go_at_call 37
           with_reducible refine C3.out.mono ?_
           rintro r u5 ⟨rfl,hb⟩;have BF:=qsd (BG.out.1.below hb);have kS:=qsd BF.out.cells;clear hb C3))
       go_wp2;exact bodyPost_ret (v:=.tuple #[.float .f64 X,.int .i64 E]) (by simp [results,Tryz.results24,go_sem]) rfl ⟨rfl,BF.out.b⟩
end
section
open Go Go.RowKit J
theorem g_parts {u k:Nat}{V:Int}(hu:u≤100000) (hV:V≠0) (hk:k≤90000) (hb:Bd k V):∃ X e,gV u V=some (decide (V<0),X,e)∧X%2=1∧-(u:Int)≤e∧e≤200000∧X*2^(e+(u:Int)).toNat=V.natAbs∧bl X≤262144∧Frm (decide (V<0)) X e:=by
 obtain ⟨n,X,e,ho,F,hx⟩:=g_iv (u:=u) hu (by omega) hb
 have hm:mkS (decide (V<0)) V.natAbs (-(u:Int))=some (n,X,e):=ho;have hz:=zv_mkS hm (-(u:Int)) (.inr (by omega))
 unfold zv at hz;simp only at hz;rw [show (-(u:Int) - -(u:Int)).toNat=0 by omega,Nat.pow_zero,Nat.mul_one] at hz
 have hX0:X≠0:=by
  rintro rfl;simp [sg1] at hz
  split at hz <;> omega
 have hp:0<X*2^(e - -(u:Int)).toNat:=Nat.mul_pos (by omega) (Nat.two_pow_pos _)
 rcases hx with h|⟨h1,h2⟩
 · exact absurd h hX0
 have hn:n=decide (V<0):=by
  by_cases hs:V<0
  · rw [decide_eq_true hs] at hz ⊢
    cases n with
    | true=>rfl
    | false=>simp only [sg1,if_true,Bool.false_eq_true,if_false] at hz;omega
  · rw [decide_eq_false hs] at hz ⊢
    cases n with
    | false=>rfl
    | true=>simp only [sg1,if_true,Bool.false_eq_true,if_false] at hz;omega
 rw [hn] at hz ho F
 have hv:X*2^(e - -(u:Int)).toNat=V.natAbs:=by
  by_cases hs:V<0
  · rw [decide_eq_true hs] at hz;simp only [sg1,if_true] at hz;omega
  · rw [decide_eq_false hs] at hz;simp only [sg1,Bool.false_eq_true,if_false] at hz;omega
 refine ⟨X,e,ho,?_,h1,by omega,?_,by omega,F⟩
 · rcases F.odd with q | q
   · exact q
   · exact absurd q.1 hX0
 · rw [show (e+(u:Int)).toNat=(e - -(u:Int)).toNat by congr 1;omega]
   exact hv
theorem rat14 {x S V S' V':Nat}(hS:0<S) (hS':0<S') (e:V*S'=V'*S):(x*S<V↔x*S'<V')∧(x*S=V↔x*S'=V')∧(V<x*S↔V'<x*S'):=by
 have a1:x*S*S'=x*S'*S:=by rw [Nat.mul_assoc,Nat.mul_comm S,←Nat.mul_assoc]
 have t1:x*S<V↔x*S*S'<V*S':=(Nat.mul_lt_mul_right hS').symm;have t2:x*S'<V'↔x*S'*S<V'*S:=(Nat.mul_lt_mul_right hS).symm;have t3:V<x*S↔V*S'<x*S*S':=(Nat.mul_lt_mul_right hS').symm;have t4:V'<x*S'↔V'*S<x*S'*S:=(Nat.mul_lt_mul_right hS).symm;rw [t1,t2,t3,t4,a1,e];refine ⟨Iff.rfl,?_,Iff.rfl⟩;rw [a1,e] at t1;rw [a1,e] at t3;omega
theorem LiesG.ratio14 {v:Nat→Nat}{top n K:Nat}{t:Bool}{m:Int}{V S V' S':Nat}(h:LiesG v top n K t m V S) (hS':0<S') (e:V*S'=V'*S):LiesG v top n K t m V' S':=by
 obtain ⟨h1,h2,h3,h4,h5,h6⟩:=h;have e2:(2^n*V)*S'=(2^n*V')*S:=by rw [Nat.mul_assoc,e,Nat.mul_assoc]
 refine ⟨h1,hS',fun a=>((rat14 h2 hS' e).2.1.1 (h3 a).symm).symm,fun a=>(rat14 h2 hS' e).1.1 (h4 a),fun a b=>?_,fun a=>?_⟩
 · have:=h5 a ((rat14 h2 hS' e).2.2.2 b)
   obtain ⟨r1,r2,r3⟩:=rat14 (x:=(v K+v (K+1))^n) h2 hS' e2
   rcases this with ⟨q,r⟩|⟨q,r⟩|⟨q,r⟩
   · exact .inl ⟨q,r3.1 r⟩
   · exact .inr (.inl ⟨q,(r2.1 r.symm).symm⟩)
   · exact .inr (.inr ⟨q,r1.1 r⟩)
 · rcases h6 a with q | q
   · exact .inl ((rat14 h2 hS' e).2.2.1 q)
   · exact .inr q
theorem sR_ok {u k:Nat}{V D:Int}(hu:u≤100000) (hk:k≤90000) (hV:0≤V) (hD:0<D) (bV:Bd k V) (bD:Bd k D) :
 ∃ K t m,LiesG vK 9218868437227405312 2 K t m (V.natAbs*2^2148) D.natAbs∧∀ mode:Int,0≤mode→mode≤4→sR14 (gV u V) (gV u D) mode=(rK mode false K t m,0):=by
 obtain ⟨j,hj⟩:∃ j,j=2148:=⟨_,rfl⟩;rw [←hj];obtain ⟨Y,f,ho2,hY,hf0,hf1,hv2,hbl2,F2⟩:=g_parts (V:=D) hu (by omega) hk bD
 rw [decide_eq_false (by omega)] at ho2 F2
 have hm2:mkS false Y f=some (false,Y,f):=mkS_idem F2
 by_cases h0:V=0
 · subst h0
   refine ⟨0,true,0,⟨by decide,by omega,fun _=>by rw [vK_zero];simp,fun h=>(by cases h),fun h=>(by cases h),fun h=>(by cases h)⟩,fun mode hm0 hm4=>?_⟩
   unfold sR14;rw [g_zero,ho2]
   show sqrR rndS ⟨false,.bool false,0,0,false,.bool false,Y,f⟩ mode=_
   unfold sqrR;rw [if_neg (by omega),if_pos (by rw [errL_one];show errN 0 false 0 Y false f=0;unfold errN;rw [if_neg (by unfold sgn;simp;split <;> omega),hm2,mkS_zero];simp [dX];omega),mkS_zero,hm2]
   show (if false=true then ((0,110):Nat×Int) else rndS (sqZ 0 0 Y f) mode)=_
   rw [if_neg (by decide),sqZ_nought 0 Y f (by omega) hbl2,rndS_form mode false 0 0 hm0 hm4]
   rfl
 · obtain ⟨X,e,ho,hX,he0,he1,hv,hbl,F⟩:=g_parts (V:=V) hu h0 hk bV
   rw [decide_eq_false (by omega)] at ho F
   have hm1:mkS false X e=some (false,X,e):=mkS_idem F;obtain ⟨K,t,m,hL,hR⟩:=sqr64 X e Y f hX (by omega) hbl hbl2
   refine ⟨K,t,m,?_,fun mode hm0 hm4=>?_⟩
   · refine hL.ratio14 (by omega) ?_
     unfold rV11 rS11;rw [←hv,←hv2]
     have e1:X*2^(e-f+((2*1074:Nat):Int)).toNat*(Y*2^(f+(u:Int)).toNat)=X*Y*(2^((e-f+((2*1074:Nat):Int)).toNat+(f+(u:Int)).toNat)):=by
      rw [Nat.pow_add,Nat.mul_mul_mul_comm]
     have e2:X*2^(e+(u:Int)).toNat*2^j*(Y*2^(-(e-f+((2*1074:Nat):Int))).toNat)=X*Y*(2^((e+(u:Int)).toNat+j+(-(e-f+((2*1074:Nat):Int))).toNat)):=by
      rw [Nat.pow_add,Nat.pow_add,Nat.mul_assoc X,Nat.mul_mul_mul_comm]
     rw [e1,e2]
     congr 2
     omega
   · unfold sR14
     rw [ho,ho2]
     show sqrR rndS ⟨false,.bool false,X,e,false,.bool false,Y,f⟩ mode=_
     unfold sqrR;rw [if_neg (by omega),if_pos (by rw [errL_one];show errN X false e Y false f=0;unfold errN;rw [if_neg (by unfold sgn;simp;split <;> omega),hm1,hm2];simp [dX];omega),hm1,hm2]
     show (if false=true then ((0,110):Nat×Int) else rndS (sqZ X e Y f) mode)=_
     rw [if_neg (by decide)]
     exact hR mode hm0 hm4
end
section
open Go Go.RowKit J
theorem xor_up14 (z:Nat) (hz:z<2^63):z ^^^ 2^63=2^63+z:=by
 apply Nat.eq_of_testBit_eq
 intro i;rw [Nat.testBit_xor,Nat.testBit_two_pow]
 rcases Nat.lt_trichotomy i 63 with h|h|h
 · rw [Nat.testBit_two_pow_add_gt h]
   simp [show ¬ 63=i by omega]
 · subst h
   rw [Nat.testBit_two_pow_add_eq,Nat.testBit_lt_two_pow hz];simp
 · have h1:z<2^i:=Nat.lt_of_lt_of_le hz (Nat.pow_le_pow_right (by decide) (by omega))
   have h2:2^63+z<2^i:=Nat.lt_of_lt_of_le (show 2^63+z<2^64 by omega) (Nat.pow_le_pow_right (by decide) (by omega))
   rw [Nat.testBit_lt_two_pow h1,Nat.testBit_lt_two_pow h2];simp [show ¬ 63=i by omega]
theorem neg_turn14 (y:Nat) (hy:y<18446744073709551616):Op.negFloat .f64 y=turnW y:=by
 show y ^^^ 2^63=turnW y
 unfold turnW
 by_cases h:9223372036854775808≤y
 · rw [if_pos h]
   obtain ⟨z,hz⟩:∃ z,z=y-9223372036854775808:=⟨_,rfl⟩;have e:y=z ^^^ 2^63:=by rw [xor_up14 z (by omega)];omega
   rw [←hz,e,Nat.xor_assoc,Nat.xor_self,Nat.xor_zero]
 · rw [if_neg h,xor_up14 y (by omega)];omega
theorem neg14 {P:Program}(w:World) (y:Nat) (hy:y<18446744073709551616):(Go.Op.unary .neg (.float .f64 y)).run P w=.ok (.float .f64 (turnW y)) w:=by
 rw [←neg_turn14 y hy];rfl
def mir (mode:Int):Int:=if mode=2 then 3 else if mode=3 then 2 else mode
theorem mirrored14 (mode:Int) (w:World):Calls Tryz.prog 87 #[.int .i64 mode] w fun r w'=>r=.returned (.int .i64 (mir mode))∧w'=w:=by
 unfold mir
 by_cases h2:mode=2
 · subst h2
   go_enter Tryz.func87,Tryz.ntmps87;go_wp2;go_ret;exact ⟨rfl,rfl⟩
 · have d2:(mode==2)=false:=by simp [h2]
   rw [if_neg h2]
   by_cases h3:mode=3
   · subst h3
     go_enter Tryz.func87,Tryz.ntmps87;go_wp2;go_ret;exact ⟨rfl,rfl⟩
   · have d3:(mode==3)=false:=by simp [h3]
     rw [if_neg h3];go_enter Tryz.func87,Tryz.ntmps87;go_wp2;go_ret;exact ⟨rfl,rfl⟩
theorem sgn14 {u m:Nat}{V:Int}(hu:u≤100000) (hm:m≤90000) (h:Bd m V):(sgn (dN (gV u V)) (dX (gV u V))==0)=decide (V=0)∧decide (0≤sgn (dN (gV u V)) (dX (gV u V)))=decide (0≤V):=by
 obtain ⟨h1,h2⟩:=g_sign hu hm h;unfold sgn
 by_cases h0:V=0
 · rw [if_pos (h1.2 h0)];subst h0;decide
 · rw [if_neg (fun q=>h0 (h1.1 q)),decide_eq_false h0]
   by_cases hn:V<0
   · rw [if_pos (h2.2 hn),decide_eq_false (by omega:¬ 0≤V)];decide
   · rw [if_neg (fun q=>hn (h2.1 q)),decide_eq_true (by omega:0≤V)];decide
noncomputable def byR (c q mode:Int):Nat×Int :=
 if 0≤c then sR14 (gV 4296 (c*c)) (gV 4296 q) mode
 else if (sR14 (gV 4296 (c*c)) (gV 4296 q) (mir mode)).2=0 then (turnW (sR14 (gV 4296 (c*c)) (gV 4296 q) (mir mode)).1,0) else (0,(sR14 (gV 4296 (c*c)) (gV 4296 q) (mir mode)).2)
theorem sqn14 (x:Int):0≤x*x:=by
 rcases Int.le_total 0 x with h|h
 · exact Int.mul_nonneg h h
 · exact Int.mul_nonneg_of_nonpos_of_nonpos h h
theorem md_mir {mode:Int}(h:mdB mode=true):mdB (mir mode)=true:=by
 have:=md_ok h;unfold mir mdB
 split
 · decide
 · split
   · decide
   · simp;omega
theorem byR_ok {c q mode:Int}{k:Nat}(hk:k≤90000) (hq:0<q) (b1:Bd k (c*c)) (b2:Bd k q) (hm:mdB mode=true):(sR14 (gV 4296 (c*c)) (gV 4296 q) mode).2=0∧(sR14 (gV 4296 (c*c)) (gV 4296 q) mode).1<18446744073709551616:=by
 obtain ⟨K,t,m,hL,hR⟩:=sR_ok (u:=4296) (by decide) hk (sqn14 c) hq b1 b2
 obtain ⟨m0,m4⟩:=md_ok hm;rw [hR mode m0 m4];refine ⟨rfl,?_⟩;have:=hL.fin;simp only;unfold rK
 split
 · omega
 · split <;> omega
structure By14 (w v:World) (a b:Option Addr) (ca cb:Nat) (oC oQ:Option (Bool×Nat×Int)):Prop where
 c:Dk v w.heap.size (dN oC) (.slice a (ws (dX oC)).length ca) (dE oC)
 q:Dk v (w.heap.size+1) (dN oQ) (.slice b (ws (dX oQ)).length cb) (dE oQ)
 nc:Nt 0 v (.slice a (ws (dX oC)).length ca) (dX oC)
 nq:Nt 0 v (.slice b (ws (dX oQ)).length cb) (dX oQ)
 b:Below w.heap.size w v
theorem By14.below {w v u:World}{a b:Option Addr}{ca cb:Nat}{oC oQ:Option (Bool×Nat×Int)}(h:By14 w v a b ca cb oC oQ) (hb:Below v.heap.size v u):By14 w u a b ca cb oC oQ :=
 ⟨h.c.below hb,h.q.below hb,h.nc.below hb,h.nq.below hb,h.b.trans (hb.mono h.b.size)⟩
theorem By14.but {w v u:World}{a b:Option Addr}{ca cb g T:Nat}{oC oQ:Option (Bool×Nat×Int)}{L:List Value}(h:By14 w v a b ca cb oC oQ) (hb:But g v u) (hB:Bl v g T L) (hT:T≠91) (hg:w.heap.size+1<g):By14 w u a b ca cb oC oQ :=
 ⟨by unfold Dk;rw [hb.block _ h.c.lt (by omega)];exact h.c,by unfold Dk;rw [hb.block _ h.q.lt (by omega)];exact h.q,h.nc.off hb (h.nc.notin hT hB),h.nq.off hb (h.nq.notin hT hB),But.below h.b hb h.b.size (by omega)⟩
theorem byRoot_core (w:World) (a b:Option Addr) (ca cb:Nat) (oC oQ oP:Option (Bool×Nat×Int)) (mode sg mm:Int) (bg:Bool) (X:Nat) (z:Nat×Int) (hT:Tab w) (FF:Aside (Fm oC∧Fm oQ∧Fm oP)) (EE:Aside (mulD oC oC=oP))
 (HS:Hid (∀ (u:World) (p:Option Addr) (q:Nat),Nt 0 u (.slice p (ws (dX oC)).length q) (dX oC)→Calls Tryz.prog 42 #[.agg #[.bool (dN oC),.slice p (ws (dX oC)).length q,.int .i64 (dE oC)]] u fun r w'=>r=.returned (.int .i64 sg)∧Below u.heap.size u w')) (hsg:decide (0≤sg)=bg)
 (HM:Hid (∀ u:World,Calls Tryz.prog 87 #[.int .i64 mode] u fun r w'=>r=.returned (.int .i64 mm)∧w'=u))
 (HR:Hid (∀ (u:World) (ap b:Option Addr) (cp cb:Nat),Tab u→Nt 0 u (.slice ap (ws (dX oP)).length cp) (dX oP)→Nt 0 u (.slice b (ws (dX oQ)).length cb) (dX oQ)→Calls Tryz.prog 53 #[.agg #[.bool (dN oP),.slice ap (ws (dX oP)).length cp,.int .i64 (dE oP),.bool (dN oQ),.slice b (ws (dX oQ)).length cb,.int .i64 (dE oQ)],.int .i64 (if bg then mode else mm)] u fun r w'=>r=.returned (.tuple #[.float .f64 X,.int .i64 0])∧Below u.heap.size u w'))
 (hX:X<18446744073709551616) (hz:z=(if bg then X else turnW X,0))
 (N1:Nt 0 w (.slice a (ws (dX oC)).length ca) (dX oC)) (N2:Nt 0 w (.slice b (ws (dX oQ)).length cb) (dX oQ)) :
 Calls Tryz.prog 43 #[.agg #[.bool (dN oC),.slice a (ws (dX oC)).length ca,.int .i64 (dE oC)],.agg #[.bool (dN oQ),.slice b (ws (dX oQ)).length cb,.int .i64 (dE oQ)],.int .i64 mode] w fun r w'=>r=.returned (.tuple #[.float .f64 z.1,.int .i64 z.2])∧Below w.heap.size w w':=by
 subst hz;simp only;obtain ⟨W,hW⟩:∃ W,W=(w.alloc (Obj.cells #[.bool (dN oC),.slice a (ws (dX oC)).length ca,.int .i64 (dE oC)] 37)).alloc (Obj.cells #[.bool (dN oQ),.slice b (ws (dX oQ)).length cb,.int .i64 (dE oQ)] 37):=⟨_,rfl⟩
 have H0:Aside (By14 w W a b ca cb oC oQ):=by
  have hbW:Below w.heap.size w W:=by rw [hW];exact (below_alloc _ _).trans ((below_alloc _ _).mono (by simp))
  refine ⟨?_,?_,N1.below hbW,N2.below hbW,hbW⟩
  · rw [hW];exact (Dk.new _ _ _ _).below (below_alloc _ _)
  · have z1:=Dk.new (w.alloc (Obj.cells #[.bool (dN oC),.slice a (ws (dX oC)).length ca,.int .i64 (dE oC)] 37)) (dN oQ) (.slice b (ws (dX oQ)).length cb) (dE oQ)
    rw [World.size_alloc] at z1;rw [hW];exact z1
 have HW:=qsd hW;have HT:=qsd hT;have HN:=hid (fun u:World=>neg14 (P:=Tryz.prog) u X hX)
 clear hW hT N1 N2;go_enter Tryz.func43,Tryz.ntmps43
 go_upto_region 1 with fail
 rw [←HW.out];clear HW
 go_cut [8] from 11 to 15 (fun q wx=>∃ (g8:Nat) (ap:Option Addr) (cp:Nat),q=.pointer (some ⟨g8,0,none⟩)∧Aside (Bl wx g8 73 [.bool (dN oP),.slice ap (ws (dX oP)).length cp,.int .i64 (dE oP),.bool (dN oQ),.slice b (ws (dX oQ)).length cb,.int .i64 (dE oQ)]∧By14 w wx a b ca cb oC oQ∧Nt 0 wx (.slice ap (ws (dX oP)).length cp) (dX oP)))
 case first =>
  have BD:=qsd (H0.out.below (Below.refl W.heap.size W).drew);have kS:Aside (W.drew.cell? ⟨w.heap.size,0,none⟩=some (.bool (dN oC))∧W.drew.cell? ⟨w.heap.size,1,none⟩=some (.slice a (ws (dX oC)).length ca)∧W.drew.cell? ⟨w.heap.size,2,none⟩=some (.int .i64 (dE oC))∧W.drew.cell? ⟨w.heap.size+1,0,none⟩=some (.bool (dN oQ))∧W.drew.cell? ⟨w.heap.size+1,1,none⟩=some (.slice b (ws (dX oQ)).length cb)∧W.drew.cell? ⟨w.heap.size+1,2,none⟩=some (.int .i64 (dE oQ))):=⟨BD.out.c.facts.1,BD.out.c.facts.2.1,BD.out.c.facts.2.2.1,BD.out.q.facts.1,BD.out.q.facts.2.1,BD.out.q.facts.2.2.1⟩;clear H0;refine until_region (fun w'=>w'.cell? ⟨w.heap.size,0,none⟩=some (.bool (dN oC))∧w'.cell? ⟨w.heap.size,1,none⟩=some (.slice a (ws (dX oC)).length ca)∧w'.cell? ⟨w.heap.size,2,none⟩=some (.int .i64 (dE oC))∧w'.cell? ⟨w.heap.size+1,0,none⟩=some (.bool (dN oQ))∧w'.cell? ⟨w.heap.size+1,1,none⟩=some (.slice b (ws (dX oQ)).length cb)∧w'.cell? ⟨w.heap.size+1,2,none⟩=some (.int .i64 (dE oQ))) 6 (by kernel_rfl) ?_
  obtain ⟨Wd,hWd⟩:∃ V,V=W.drew:=⟨_,rfl⟩;rw [←hWd] at BD kS ⊢;clear hWd;refine until_take (i:=0) [2,4] (v:=?_) rfl (by kernel_rfl) (by kernel_rfl) (by kernel_rfl) (by kernel_rfl) (by kernel_rfl) (fun _ _ _ h=>h) (Or.inl ⟨by rfl,?_⟩) kS.out ?_
  rotate_left
  · intro u hSu
    try dsimp only at hSu
    first | (go_simp;done) | (go_simp;with_reducible rfl)
  try simp only [Act.put,List.setIfInBounds_toArray,List.set_cons_zero,List.set_cons_succ]
  refine until_take (i:=1) [2,4] (v:=?_) rfl (by kernel_rfl) (by kernel_rfl) (by kernel_rfl) (by kernel_rfl) (by kernel_rfl) (fun _ _ _ h=>h) (Or.inl ⟨by rfl,?_⟩) kS.out ?_
  rotate_left
  · intro u hSu
    try dsimp only at hSu
    first | (go_simp;done) | (go_simp;with_reducible rfl)
  try simp only [Act.put,List.setIfInBounds_toArray,List.set_cons_zero,List.set_cons_succ]
  refine until_take (i:=3) [4] (v:=?_) rfl (by kernel_rfl) (by kernel_rfl) (by kernel_rfl) (by kernel_rfl) (by kernel_rfl) (fun _ _ _ h=>h) (Or.inl ⟨by rfl,?_⟩) kS.out ?_
  rotate_left
  · intro u hSu
    try dsimp only at hSu
    first | (go_simp;done) | (go_simp;with_reducible rfl)
  try simp only [Act.put,List.setIfInBounds_toArray,List.set_cons_zero,List.set_cons_succ]
  refine until_two14 (i:=2) (j:=5) (by kernel_rfl) rfl rfl (fun K' hK=>?_) (fun K' hK=>?_)
  · skip
    have C:=hid (times14 FF.out.1 FF.out.1 FF.out.2.2 BD.out.nc BD.out.nc (HT.out.belows BD.out.b) EE.out)
    go_simp
    refine C.out.mono ?_;rintro r u1 ⟨hd,hb⟩;obtain ⟨a1,c1,rfl,hN⟩:=hd.shp14;have BD:=qsd (ai (BD.out.below hb) hN);have kS:=qsd (ai (cb14 kS.out.1 hb) (ai (cb14 kS.out.2.1 hb) (ai (cb14 kS.out.2.2.1 hb) (ai (cb14 kS.out.2.2.2.1 hb) (ai (cb14 kS.out.2.2.2.2.1 hb) (cb14 kS.out.2.2.2.2.2 hb))))));clear hb hd hN C
    dsimp only
    refine hK.out _ _ (fun _=>kS.out) ?_
    clear hK K'
    try simp only [Act.put,List.setIfInBounds_toArray,List.set_cons_zero,List.set_cons_succ]
    refine until_two14 (i:=4) (j:=5) (by kernel_rfl) rfl rfl (fun K' hK=>?_) (fun K' hK=>?_)
    · skip
      go_simp
      refine hK.out _ _ (fun _=>kS.out) ?_
      clear hK K'
      try simp only [Act.put,List.setIfInBounds_toArray,List.set_cons_zero,List.set_cons_succ]
      refine until_one (i:=5) (by kernel_rfl) rfl (fun K' hK=>?_)
      go_simp
      obtain ⟨g2,hg2⟩:∃ g,g=u1.heap.size:=⟨_,rfl⟩;obtain ⟨V2,hV2⟩:∃ V,V=u1.alloc (Obj.cells #[.bool false,.slice none 0 0,.int .i64 0,.bool false,.slice none 0 0,.int .i64 0] 73):=⟨_,rfl⟩;have hb:Below u1.heap.size u1 V2:=by rw [hV2];exact below_alloc _ _
      have hZ:Bl V2 g2 73 [.bool false,.slice none 0 0,.int .i64 0,.bool false,.slice none 0 0,.int .i64 0]:=by rw [hV2,hg2];exact Bl.new _ 73 [.bool false,.slice none 0 0,.int .i64 0,.bool false,.slice none 0 0,.int .i64 0]
      have BD:=qsd (ai (BD.out.1.below hb) (ai (BD.out.2.below hb) (ai hZ (show w.heap.size+1<g2 by rw [hg2];exact BD.out.1.q.lt))))
      have kS:=qsd (ai (cb14 kS.out.1 hb) (ai (cb14 kS.out.2.1 hb) (ai (cb14 kS.out.2.2.1 hb) (ai (cb14 kS.out.2.2.2.1 hb) (ai (cb14 kS.out.2.2.2.2.1 hb) (cb14 kS.out.2.2.2.2.2 hb))))));have HV:=(qsd (ai hV2 hg2));clear hZ hb hV2 hg2;refine hK.out _ _ (fun _=>by rw [←HV.out.1];exact kS.out) ?_
      clear hK K';rw [←HV.out.1,←HV.out.2];clear HV
      try simp only [Act.put,List.setIfInBounds_toArray,List.set_cons_zero,List.set_cons_succ]
      have z0:=BD.out.2.2.1.cell 0 _ rfl;have zf0:=BD.out.2.2.1.frozen 0;have z1:=BD.out.2.2.1.cell 1 _ rfl;have zf1:=BD.out.2.2.1.frozen 1;have z2:=BD.out.2.2.1.cell 2 _ rfl;have zf2:=BD.out.2.2.1.frozen 2;have z3:=BD.out.2.2.1.cell 3 _ rfl;have zf3:=BD.out.2.2.1.frozen 3;have z4:=BD.out.2.2.1.cell 4 _ rfl;have zf4:=BD.out.2.2.1.frozen 4;have z5:=BD.out.2.2.1.cell 5 _ rfl;have zf5:=BD.out.2.2.1.frozen 5;have hbt:But g2 V2 _:=(((((((But.refl g2 V2).set 0 (.bool (dN oP))).set 1 (.slice a1 (ws (dX oP)).length c1)).set 2 (.int .i64 (dE oP))).set 3 (.bool (dN oQ))).set 4 (.slice b (ws (dX oQ)).length cb)).set 5 (.int .i64 (dE oQ)));have BE:=qsd (ai ((((((BD.out.2.2.1.set 0 (.bool (dN oP))).set 1 (.slice a1 (ws (dX oP)).length c1)).set 2 (.int .i64 (dE oP))).set 3 (.bool (dN oQ))).set 4 (.slice b (ws (dX oQ)).length cb)).set 5 (.int .i64 (dE oQ))) (ai (BD.out.1.but hbt BD.out.2.2.1 (by decide) BD.out.2.2.2) (BD.out.2.1.off hbt (BD.out.2.1.notin (by decide) BD.out.2.2.1))))
      clear hbt;refine until_one (i:=6) (by kernel_rfl) rfl (fun K' hK=>?_)
      go_simp
      refine hK.out _ _ (fun h=>absurd h (by decide)) ?_
      clear hK K' z0 z1 z2 z3 z4 z5 zf0 zf1 zf2 zf3 zf4 zf5 kS BD;refine until_done (by kernel_rfl) ?_ _
      go_wp2_with fail
      go_meet
      case rel=>exact ⟨g2,a1,c1,rfl,BE.out⟩
    · skip
      go_simp
      obtain ⟨g3,hg3⟩:∃ g,g=u1.heap.size:=⟨_,rfl⟩;obtain ⟨V3,hV3⟩:∃ V,V=u1.alloc (Obj.cells #[.bool false,.slice none 0 0,.int .i64 0,.bool false,.slice none 0 0,.int .i64 0] 73):=⟨_,rfl⟩;have hb:Below u1.heap.size u1 V3:=by rw [hV3];exact below_alloc _ _
      have hZ:Bl V3 g3 73 [.bool false,.slice none 0 0,.int .i64 0,.bool false,.slice none 0 0,.int .i64 0]:=by rw [hV3,hg3];exact Bl.new _ 73 [.bool false,.slice none 0 0,.int .i64 0,.bool false,.slice none 0 0,.int .i64 0]
      have BD:=qsd (ai (BD.out.1.below hb) (ai (BD.out.2.below hb) (ai hZ (show w.heap.size+1<g3 by rw [hg3];exact BD.out.1.q.lt))))
      have kS:=qsd (ai (cb14 kS.out.1 hb) (ai (cb14 kS.out.2.1 hb) (ai (cb14 kS.out.2.2.1 hb) (ai (cb14 kS.out.2.2.2.1 hb) (ai (cb14 kS.out.2.2.2.2.1 hb) (cb14 kS.out.2.2.2.2.2 hb))))));have HV:=(qsd (ai hV3 hg3));clear hZ hb hV3 hg3;refine hK.out _ _ (fun _=>by rw [←HV.out.1];exact kS.out) ?_
      clear hK K';rw [←HV.out.1,←HV.out.2];clear HV
      try simp only [Act.put,List.setIfInBounds_toArray,List.set_cons_zero,List.set_cons_succ]
      refine until_one (i:=4) (by kernel_rfl) rfl (fun K' hK=>?_)
      go_simp
      refine hK.out _ _ (fun _=>kS.out) ?_
      clear hK K'
      try simp only [Act.put,List.setIfInBounds_toArray,List.set_cons_zero,List.set_cons_succ]
      have z0:=BD.out.2.2.1.cell 0 _ rfl;have zf0:=BD.out.2.2.1.frozen 0;have z1:=BD.out.2.2.1.cell 1 _ rfl;have zf1:=BD.out.2.2.1.frozen 1;have z2:=BD.out.2.2.1.cell 2 _ rfl;have zf2:=BD.out.2.2.1.frozen 2;have z3:=BD.out.2.2.1.cell 3 _ rfl;have zf3:=BD.out.2.2.1.frozen 3;have z4:=BD.out.2.2.1.cell 4 _ rfl;have zf4:=BD.out.2.2.1.frozen 4;have z5:=BD.out.2.2.1.cell 5 _ rfl;have zf5:=BD.out.2.2.1.frozen 5;have hbt:But g3 V3 _:=(((((((But.refl g3 V3).set 0 (.bool (dN oP))).set 1 (.slice a1 (ws (dX oP)).length c1)).set 2 (.int .i64 (dE oP))).set 3 (.bool (dN oQ))).set 4 (.slice b (ws (dX oQ)).length cb)).set 5 (.int .i64 (dE oQ)));have BE:=qsd (ai ((((((BD.out.2.2.1.set 0 (.bool (dN oP))).set 1 (.slice a1 (ws (dX oP)).length c1)).set 2 (.int .i64 (dE oP))).set 3 (.bool (dN oQ))).set 4 (.slice b (ws (dX oQ)).length cb)).set 5 (.int .i64 (dE oQ))) (ai (BD.out.1.but hbt BD.out.2.2.1 (by decide) BD.out.2.2.2) (BD.out.2.1.off hbt (BD.out.2.1.notin (by decide) BD.out.2.2.1))))
      clear hbt;refine until_one (i:=6) (by kernel_rfl) rfl (fun K' hK=>?_)
      go_simp
      refine hK.out _ _ (fun h=>absurd h (by decide)) ?_
      clear hK K' z0 z1 z2 z3 z4 z5 zf0 zf1 zf2 zf3 zf4 zf5 kS BD;refine until_done (by kernel_rfl) ?_ _
      go_wp2_with fail
      go_meet
      case rel=>exact ⟨g3,a1,c1,rfl,BE.out⟩
  · skip
    go_simp
    obtain ⟨g4,hg4⟩:∃ g,g=Wd.heap.size:=⟨_,rfl⟩;obtain ⟨V4,hV4⟩:∃ V,V=Wd.alloc (Obj.cells #[.bool false,.slice none 0 0,.int .i64 0,.bool false,.slice none 0 0,.int .i64 0] 73):=⟨_,rfl⟩;have hb:Below Wd.heap.size Wd V4:=by rw [hV4];exact below_alloc _ _
    have hZ:Bl V4 g4 73 [.bool false,.slice none 0 0,.int .i64 0,.bool false,.slice none 0 0,.int .i64 0]:=by rw [hV4,hg4];exact Bl.new _ 73 [.bool false,.slice none 0 0,.int .i64 0,.bool false,.slice none 0 0,.int .i64 0]
    have BD:=qsd (ai (BD.out.below hb) (ai hZ (show w.heap.size+1<g4 by rw [hg4];exact BD.out.q.lt)))
    have kS:=qsd (ai (cb14 kS.out.1 hb) (ai (cb14 kS.out.2.1 hb) (ai (cb14 kS.out.2.2.1 hb) (ai (cb14 kS.out.2.2.2.1 hb) (ai (cb14 kS.out.2.2.2.2.1 hb) (cb14 kS.out.2.2.2.2.2 hb))))));have HV:=(qsd (ai hV4 hg4));clear hZ hb hV4 hg4;refine hK.out _ _ (fun _=>by rw [←HV.out.1];exact kS.out) ?_
    clear hK K';rw [←HV.out.1,←HV.out.2];clear HV
    try simp only [Act.put,List.setIfInBounds_toArray,List.set_cons_zero,List.set_cons_succ]
    refine until_one (i:=2) (by kernel_rfl) rfl (fun K' hK=>?_)
    have C:=hid (times14 FF.out.1 FF.out.1 FF.out.2.2 BD.out.1.nc BD.out.1.nc (HT.out.belows BD.out.1.b) EE.out)
    go_simp
    refine C.out.mono ?_;rintro r u5 ⟨hd,hb⟩;obtain ⟨a5,c5,rfl,hN⟩:=hd.shp14;have BD:=qsd (ai (BD.out.1.below hb) (ai (BD.out.2.1.below hb BD.out.2.1.lt) (ai BD.out.2.2 hN)));have kS:=qsd (ai (cb14 kS.out.1 hb) (ai (cb14 kS.out.2.1 hb) (ai (cb14 kS.out.2.2.1 hb) (ai (cb14 kS.out.2.2.2.1 hb) (ai (cb14 kS.out.2.2.2.2.1 hb) (cb14 kS.out.2.2.2.2.2 hb))))));clear hb hd hN C
    dsimp only
    refine hK.out _ _ (fun _=>kS.out) ?_
    clear hK K'
    try simp only [Act.put,List.setIfInBounds_toArray,List.set_cons_zero,List.set_cons_succ]
    refine until_one (i:=4) (by kernel_rfl) rfl (fun K' hK=>?_)
    go_simp
    refine hK.out _ _ (fun _=>kS.out) ?_
    clear hK K'
    try simp only [Act.put,List.setIfInBounds_toArray,List.set_cons_zero,List.set_cons_succ]
    have z0:=BD.out.2.1.cell 0 _ rfl;have zf0:=BD.out.2.1.frozen 0;have z1:=BD.out.2.1.cell 1 _ rfl;have zf1:=BD.out.2.1.frozen 1;have z2:=BD.out.2.1.cell 2 _ rfl;have zf2:=BD.out.2.1.frozen 2;have z3:=BD.out.2.1.cell 3 _ rfl;have zf3:=BD.out.2.1.frozen 3;have z4:=BD.out.2.1.cell 4 _ rfl;have zf4:=BD.out.2.1.frozen 4;have z5:=BD.out.2.1.cell 5 _ rfl;have zf5:=BD.out.2.1.frozen 5;have hbt:But g4 u5 _:=(((((((But.refl g4 u5).set 0 (.bool (dN oP))).set 1 (.slice a5 (ws (dX oP)).length c5)).set 2 (.int .i64 (dE oP))).set 3 (.bool (dN oQ))).set 4 (.slice b (ws (dX oQ)).length cb)).set 5 (.int .i64 (dE oQ)));have BE:=qsd (ai ((((((BD.out.2.1.set 0 (.bool (dN oP))).set 1 (.slice a5 (ws (dX oP)).length c5)).set 2 (.int .i64 (dE oP))).set 3 (.bool (dN oQ))).set 4 (.slice b (ws (dX oQ)).length cb)).set 5 (.int .i64 (dE oQ))) (ai (BD.out.1.but hbt BD.out.2.1 (by decide) BD.out.2.2.1) (BD.out.2.2.2.off hbt (BD.out.2.2.2.notin (by decide) BD.out.2.1))))
    clear hbt;refine until_one (i:=6) (by kernel_rfl) rfl (fun K' hK=>?_)
    go_simp
    refine hK.out _ _ (fun h=>absurd h (by decide)) ?_
    clear hK K' z0 z1 z2 z3 z4 z5 zf0 zf1 zf2 zf3 zf4 zf5 kS BD;refine until_done (by kernel_rfl) ?_ _
    go_wp2_with fail
    go_meet
    case rel=>exact ⟨g4,a5,c5,rfl,BE.out⟩
 obtain ⟨g8,ap,cp,rfl,K1⟩:=hcut;obtain ⟨U,hU⟩:∃ U,U=wc:=⟨_,rfl⟩;rw [←hU] at K1 ⊢;clear hU H0;obtain ⟨x0,x1,x2,xf0,xf1,xf2⟩:=K1.out.2.1.c.facts;have C:=hid (HS.out U a ca K1.out.2.1.nc)
 go_wp2_with fail
 refine C.out.mono ?_;rintro r v ⟨rfl,hb⟩;have K2:=qsd (ai (K1.out.1.below hb K1.out.1.lt) (ai (K1.out.2.1.below hb) (K1.out.2.2.below hb)));clear hb C x0 x1 x2 xf0 xf1 xf2 K1 HS
 cases bg with
 | true =>
   simp only [if_true] at HR ⊢;have C:=hid (HR.out v ap b cp cb (HT.out.belows K2.out.2.1.b) K2.out.2.2 K2.out.2.1.nq);have y0:=K2.out.1.cell 0 _ rfl;have y1:=K2.out.1.cell 1 _ rfl;have y2:=K2.out.1.cell 2 _ rfl;have y3:=K2.out.1.cell 3 _ rfl;have y4:=K2.out.1.cell 4 _ rfl;have y5:=K2.out.1.cell 5 _ rfl
   go_wp2_with fail
   refine C.out.mono ?_;rintro r v2 ⟨rfl,hb⟩;have K3:=qsd (K2.out.2.1.b.trans (hb.mono K2.out.2.1.b.size));clear hb C y0 y1 y2 y3 y4 y5;go_wp2;exact bodyPost_ret (v:=.tuple #[.float .f64 X,.int .i64 0]) (by simp [results,Tryz.results43,go_sem]) rfl ⟨rfl,K3.out⟩
 | false =>
   simp only [Bool.false_eq_true,if_false] at HR ⊢;have BD:=qsd (ai (K2.out.1.below (Below.refl v.heap.size v).drew K2.out.1.lt) (ai (K2.out.2.1.below (Below.refl v.heap.size v).drew) (K2.out.2.2.below (Below.refl v.heap.size v).drew)));have kS:Aside (v.drew.cell? ⟨g8,0,none⟩=some (.bool (dN oP))∧v.drew.cell? ⟨g8,1,none⟩=some (.slice ap (ws (dX oP)).length cp)∧v.drew.cell? ⟨g8,2,none⟩=some (.int .i64 (dE oP))∧v.drew.cell? ⟨g8,3,none⟩=some (.bool (dN oQ))∧v.drew.cell? ⟨g8,4,none⟩=some (.slice b (ws (dX oQ)).length cb)∧v.drew.cell? ⟨g8,5,none⟩=some (.int .i64 (dE oQ))):=⟨BD.out.1.cell 0 _ rfl,BD.out.1.cell 1 _ rfl,BD.out.1.cell 2 _ rfl,BD.out.1.cell 3 _ rfl,BD.out.1.cell 4 _ rfl,BD.out.1.cell 5 _ rfl⟩;have C1:=hid (HM.out v.drew);have C2:=hid (HR.out v.drew ap b cp cb (HT.out.belows BD.out.2.1.b) BD.out.2.2 BD.out.2.1.nq);clear K2
   go_wp2_with fail
   go_region_held3 (fun w'=>w'.cell? ⟨g8,0,none⟩=some (.bool (dN oP))∧w'.cell? ⟨g8,1,none⟩=some (.slice ap (ws (dX oP)).length cp)∧w'.cell? ⟨g8,2,none⟩=some (.int .i64 (dE oP))∧w'.cell? ⟨g8,3,none⟩=some (.bool (dN oQ))∧w'.cell? ⟨g8,4,none⟩=some (.slice b (ws (dX oQ)).length cb)∧w'.cell? ⟨g8,5,none⟩=some (.int .i64 (dE oQ))) (with_reducible exact kS.out) (first
    | (go_at_call 87
       with_reducible refine C1.out.mono ?_
       rintro r v3 ⟨rfl,hv⟩;rw [hv];clear hv v3 C1)
    | (go_at_call 53
       with_reducible refine C2.out.mono ?_
       rintro r v4 ⟨rfl,hb⟩;have K3:=qsd (BD.out.2.1.b.trans (hb.mono BD.out.2.1.b.size));have kS:=qsd (ai (cb14 kS.out.1 hb) (ai (cb14 kS.out.2.1 hb) (ai (cb14 kS.out.2.2.1 hb) (ai (cb14 kS.out.2.2.2.1 hb) (ai (cb14 kS.out.2.2.2.2.1 hb) (cb14 kS.out.2.2.2.2.2 hb))))));clear hb C2))
   have hng:=HN.out;go_wp2;exact bodyPost_ret (v:=.tuple #[.float .f64 (turnW X),.int .i64 0]) (by simp [results,Tryz.results43,go_sem]) rfl ⟨rfl,K3.out⟩
end
end Go.Proofs.YtflkmfdlpfimcaaGreatDoor
