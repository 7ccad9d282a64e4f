import Derived.Test.YteginbngplldaaaGreatDoorMC3x
import Derived.Test.YteginbngplldaaaGreatDoorZ47x
import Derived.Test.YteginbngplldaaaGreatDoorZ8x
import Derived.Test.YteginbngplldaaaGreatDoorZ22x
import Derived.Test.YteginbngplldaaaGreatDoorW17x
import Derived.ChangeKeysEq
import Derived.Laws.OwnMore
import Derived.Lib.SliceRun
import Derived.Deep.RegionHeld
import Derived.Test.YteginbngplldaaaGreatDoorW7x
import Derived.Test.YteginbngplldaaaGreatDoorD2x
import Derived.Deep.RegionWith
import Derived.Test.YteginbngplldaaaGreatDoorD19x
import Derived.Test.YteginbngplldaaaGreatDoorM1x
import Derived.Test.YteginbngplldaaaGreatDoorD39x
import Derived.Deep.RegionHeld3
import Derived.Test.YteginbngplldaaaGreatDoorD8x
import Derived.Deep.CutRange
import Derived.Test.YteginbngplldaaaGreatDoorD32cx
import Derived.Deep.Cut
set_option linter.unusedVariables false
set_option linter.unusedSimpArgs false
set_option maxHeartbeats 16000000
set_option maxRecDepth 20000
namespace Go.Proofs.YteginbngplldaaaGreatDoor
namespace J
end J
section
open Go Go.RowKit J
def nW(xs ys:List Nat):Int:=if 65536<xs.length\/65536<ys.length then 2 else if xs.length≠ys.length then 4 else if nV xs=0 then nV ys else nV xs
def ZM(xs ys:List Nat)(n:Nat)(r:Ending)(w':World):Prop :=
 (nW xs ys≠0/\r=.returned (.tuple #[.agg #[.slice none 0 0,.bool false,.slice none 0 0,.int .i64 0],.agg #[.slice none 0 0,.bool false,.slice none 0 0,.int .i64 0],.int .i64 (nW xs ys)])) \/
 (nW xs ys=0/\∃ v1 v2,r=.returned (.tuple #[v1,v2,.int .i64 0])/\Rr w' v1 n (fun i=>gV 1074 (fX xs i)) (gV 1074 (sX xs))/\Rr w' v2 n (fun i=>gV 1074 (fX ys i)) (gV 1074 (sX ys)))
theorem Jy{xs ys:List Nat}(h:nW xs ys=0):xs.length=ys.length/\xs.length<=65536/\(∀ x ∈ xs,fD x)/\(∀ x ∈ ys,fD x):=by
 unfold nW at h
 by_cases h1:65536<xs.length\/65536<ys.length
 · rw[if_pos h1] at h;exact absurd h (by decide)
 · rw[if_neg h1] at h
   by_cases h2:xs.length≠ys.length
   · rw[if_pos h2] at h;exact absurd h (by decide)
   · rw[if_neg h2] at h
     by_cases h3:nV xs=0
     · rw[if_pos h3] at h;exact⟨by omega,(Jv h3).1,(Jv h3).2,(Jv h).2⟩
     · rw[if_neg h3] at h;exact absurd h h3
structure vw (w u:World) (L M:List Value):Prop where
 x:Bl u w.heap.size 62 L
 y:Bl u (w.heap.size+1) 62 M
 b:An w u
theorem vw.below{w u v:World}{L M:List Value}(h:vw w u L M)(hb:An u v):vw w v L M:=⟨h.x.below hb h.x.lt,h.y.below hb h.y.lt,h.b.trans (hb.mono h.b.size)⟩
abbrev zC(w:World)(g:Nat)(a b c d:Value):World:=(((w.setCell ⟨g,0,none⟩ a).setCell ⟨g,1,none⟩ b).setCell ⟨g,2,none⟩ c).setCell ⟨g,3,none⟩ d
theorem pR(g:Nat)(w:World)(a b c d:Value):But g w (zC w g a b c d):=((((But.refl g w).set 0 _).set 1 _).set 2 _).set 3 _
theorem vw.xU{w u:World}{x0 x1 x2 x3:Value}{M:List Value}(h:vw w u [x0,x1,x2,x3] M)(a b c d:Value):vw w (zC u w.heap.size a b c d) [a,b,c,d] M :=
 ⟨(((h.x.set 0 a).set 1 b).set 2 c).set 3 d,h.y.but (pR _ _ _ _ _ _) (by omega),But.below h.b (pR _ _ _ _ _ _) h.b.size (aA _)⟩
theorem vw.Hg{w u:World}{y0 y1 y2 y3:Value}{L:List Value}(h:vw w u L [y0,y1,y2,y3])(a b c d:Value):vw w (zC u (w.heap.size+1) a b c d) L [a,b,c,d] :=
 ⟨h.x.but (pR _ _ _ _ _ _) (by omega),(((h.y.set 0 a).set 1 b).set 2 c).set 3 d,But.below h.b (pR _ _ _ _ _ _) h.b.size (by omega)⟩
theorem Rr.zC{u:World}{g n:Nat}{v:Value}{A:Nat->Option (Bool×Nat×Int)}{S:Option (Bool×Nat×Int)}{L:List Value}(h:Rr u v n A S)(hB:Bl u g 62 L)(a b c d:Value)(hg:∀ gA ax cx,v=.agg #[.slice (some ⟨gA,0,none⟩) n n,.bool (dN S),.slice ax (ws (dX S)).length cx,.int .i64 (dE S)]->Dr u gA n n A->gA≠g):Rr (Proofs.YteginbngplldaaaGreatDoor.zC u g a b c d) v n A S:=by
 obtain⟨gA,ax,cx,rfl,hD,hN⟩:=h;exact⟨gA,ax,cx,rfl,hD.but (pR _ _ _ _ _ _) hB (hg gA ax cx rfl hD) (by decide),hN.off (pR _ _ _ _ _ _) (hN.fJ (by decide) hB)⟩
theorem Dr.Hl{u:World}{g gA n k:Nat}{A:Nat->Option (Bool×Nat×Int)}{L:List Value}(h:Dr u gA n k A)(hB:Bl u g 62 L):gA≠g:=by
 rintro rfl;obtain⟨c,h,_⟩:=h;unfold Bl at hB;rw[h] at hB;injection hB with hB
 injection hB with _ hB
 exact absurd hB (by decide)
theorem Kx{P:Prop}(h:P:=by
 have z:=Bl.new (w.alloc (Obj.cells #[.slice none 0 0,.bool false,.slice none 0 0,.int .i64 0] 62)) 62 [.slice none 0 0,.bool false,.slice none 0 0,.int .i64 0];rw[dA] at z;rw[jV];exact⟨(Bl.new _ 62 [.slice none 0 0,.bool false,.slice none 0 0,.int .i64 0]).alloc _,z,(aK _ _).trans ((aK _ _).mono (by simp))⟩):P:=h
theorem Mt(xs ys:List Nat)(a a2:Option Addr)(n n2 c c2:Nat)(w:World)(d:decide ((65536:Int)<(n:Nat))=true\/(decide ((65536:Int)<(n:Nat))=false/\decide ((65536:Int)<(n2:Nat))=true)) :
 At 39 #[.slice a n c,.slice a2 n2 c2] w (.tuple #[.agg #[.slice none 0 0,.bool false,.slice none 0 0,.int .i64 0],.agg #[.slice none 0 0,.bool false,.slice none 0 0,.int .i64 0],.int .i64 2]):=by
 obtain⟨W,jV⟩:=af ((w.alloc (Obj.cells #[.slice none 0 0,.bool false,.slice none 0 0,.int .i64 0] 62)).alloc (Obj.cells #[.slice none 0 0,.bool false,.slice none 0 0,.int .i64 0] 62))
 have B0:Aside (vw w W [.slice none 0 0,.bool false,.slice none 0 0,.int .i64 0] [.slice none 0 0,.bool false,.slice none 0 0,.int .i64 0]):=by
  exact Kx
 have jB:=ak jV;clear jV;rcases d with d|⟨d,d2⟩
 all_goals
 ( go_enter Tryz.func39,Tryz.ntmps39
   go_upto_region 1 with fail
   rw[<-jB.o];clear jB;have M5:=B0.o.x.cell 0 _ rfl;have vz:=B0.o.x.frozen 0;have M6:=B0.o.x.cell 1 _ rfl;have vB:=B0.o.x.frozen 1;have M8:=B0.o.x.cell 2 _ rfl;have vC:=B0.o.x.frozen 2;have M9:=B0.o.x.cell 3 _ rfl;have vD:=B0.o.x.frozen 3;have Na:=B0.o.y.cell 0 _ rfl;have vE:=B0.o.y.frozen 0;have Nb:=B0.o.y.cell 1 _ rfl;have vF:=B0.o.y.frozen 1;have Nc:=B0.o.y.cell 2 _ rfl;have vG:=B0.o.y.frozen 2;have Nf:=B0.o.y.cell 3 _ rfl;have vH:=B0.o.y.frozen 3;go_wp2;have q:=(B0.o.xU (.slice none 0 0) (.bool false) (.slice none 0 0) (.int .i64 0)).Hg (.slice none 0 0) (.bool false) (.slice none 0 0) (.int .i64 0);have Uw:=q.x.cell 0 _ rfl;have Ux:=q.x.cell 1 _ rfl;have Uy:=q.x.cell 2 _ rfl;have Uz:=q.x.cell 3 _ rfl;have UA:=q.y.cell 0 _ rfl;have UB:=q.y.cell 1 _ rfl;have UC:=q.y.cell 2 _ rfl;have UD:=q.y.cell 3 _ rfl;exact aC (v:=.tuple #[.agg #[.slice none 0 0,.bool false,.slice none 0 0,.int .i64 0],.agg #[.slice none 0 0,.bool false,.slice none 0 0,.int .i64 0],.int .i64 2]) (by simp[results,Tryz.results39,go_sem,Uw,Ux,Uy,Uz,UA,UB,UC,UD]) rfl ⟨rfl,q.b⟩
 )
theorem Et(xs ys:List Nat)(a a2:Option Addr)(n n2 c c2:Nat)(w:World)(d1:decide ((65536:Int)<(n:Nat))=false)(d2:decide ((65536:Int)<(n2:Nat))=false)(hne:((n:Int)==(n2:Int))=false)(hne':(n:Int)≠(n2:Int)) :
 At 39 #[.slice a n c,.slice a2 n2 c2] w (.tuple #[.agg #[.slice none 0 0,.bool false,.slice none 0 0,.int .i64 0],.agg #[.slice none 0 0,.bool false,.slice none 0 0,.int .i64 0],.int .i64 4]):=by
 obtain⟨W,jV⟩:=af ((w.alloc (Obj.cells #[.slice none 0 0,.bool false,.slice none 0 0,.int .i64 0] 62)).alloc (Obj.cells #[.slice none 0 0,.bool false,.slice none 0 0,.int .i64 0] 62))
 have B0:Aside (vw w W [.slice none 0 0,.bool false,.slice none 0 0,.int .i64 0] [.slice none 0 0,.bool false,.slice none 0 0,.int .i64 0]):=by
  exact Kx
 have jB:=ak jV;clear jV;go_enter Tryz.func39,Tryz.ntmps39
 go_upto_region 1 with fail
 rw[<-jB.o];clear jB;have M5:=B0.o.x.cell 0 _ rfl;have vz:=B0.o.x.frozen 0;have M6:=B0.o.x.cell 1 _ rfl;have vB:=B0.o.x.frozen 1;have M8:=B0.o.x.cell 2 _ rfl;have vC:=B0.o.x.frozen 2;have M9:=B0.o.x.cell 3 _ rfl;have vD:=B0.o.x.frozen 3;have Na:=B0.o.y.cell 0 _ rfl;have vE:=B0.o.y.frozen 0;have Nb:=B0.o.y.cell 1 _ rfl;have vF:=B0.o.y.frozen 1;have Nc:=B0.o.y.cell 2 _ rfl;have vG:=B0.o.y.frozen 2;have Nf:=B0.o.y.cell 3 _ rfl;have vH:=B0.o.y.frozen 3;go_wp2;have q:=(B0.o.xU (.slice none 0 0) (.bool false) (.slice none 0 0) (.int .i64 0)).Hg (.slice none 0 0) (.bool false) (.slice none 0 0) (.int .i64 0);have Uw:=q.x.cell 0 _ rfl;have Ux:=q.x.cell 1 _ rfl;have Uy:=q.x.cell 2 _ rfl;have Uz:=q.x.cell 3 _ rfl;have UA:=q.y.cell 0 _ rfl;have UB:=q.y.cell 1 _ rfl;have UC:=q.y.cell 2 _ rfl;have UD:=q.y.cell 3 _ rfl;exact aC (v:=.tuple #[.agg #[.slice none 0 0,.bool false,.slice none 0 0,.int .i64 0],.agg #[.slice none 0 0,.bool false,.slice none 0 0,.int .i64 0],.int .i64 4]) (by simp[results,Tryz.results39,go_sem,Uw,Ux,Uy,Uz,UA,UB,UC,UD]) rfl ⟨rfl,q.b⟩
theorem Mv(xs ys:List Nat)(a a2:Option Addr)(n c c2:Nat)(w:World)(hn:n=xs.length)(hn2:n=ys.length)(hF:Fs w.heap.size w a xs)(hG:Fs w.heap.size w a2 ys)(hW:j4 xs)(hW2:j4 ys)(hT:dH w)(hl:n<=65536) :
 As 39 #[.slice a n c,.slice a2 n c2] w fun r w'=>ZM xs ys n r w'/\An w w':=by
 have eB:nW xs ys=if nV xs=0 then nV ys else nV xs:=by unfold nW;rw[if_neg (by omega),if_neg (by omega)]
 obtain⟨W,jV⟩:=af ((w.alloc (Obj.cells #[.slice none 0 0,.bool false,.slice none 0 0,.int .i64 0] 62)).alloc (Obj.cells #[.slice none 0 0,.bool false,.slice none 0 0,.int .i64 0] 62))
 have B0:Aside (vw w W [.slice none 0 0,.bool false,.slice none 0 0,.int .i64 0] [.slice none 0 0,.bool false,.slice none 0 0,.int .i64 0]):=by
  exact Kx
 have jB:=ak jV;clear jV;have d1:decide ((65536:Int)<(n:Nat))=false:=by simp;omega
 have hne:((n:Int)==(n:Int))=true:=by simp
 have HE:=hid (rT xs a n c W hn ((hF.below B0.o.b).mono B0.o.b.size) hW (hT.belows B0.o.b) (by omega));have HX:=iC hn2 hG hW2 hT hl eB;obtain⟨es,hes⟩:∃ e,nV xs=e:=⟨_,rfl⟩;obtain⟨et,het⟩:∃ e,nV ys=e:=⟨_,rfl⟩;rw[hes] at HE;have qP:=(aJ hes het);clear hn hn2 hF hG hW hW2 hT hl eB hes het;go_enter Tryz.func39,Tryz.ntmps39
 go_upto_region 1 with fail
 rw[<-jB.o];clear jB;go_wp2_with fail;refine HE.o.mono ?_;rintro r u ⟨hr,hb⟩;have B1:=ak (B0.o.below hb);rcases hr with ⟨he,rfl⟩|⟨he,v1,rfl,hR⟩
 · have h1:(es==0)=false:=by simp[he]
   have HQ:Aside (nW xs ys=es/\es≠0):=⟨by rw[HX.o.r5,qP.o.1,if_neg he],he⟩;clear hb B0 HE;have B2:=ak (B1.o.xU (.slice none 0 0) (.bool false) (.slice none 0 0) (.int .i64 0));obtain⟨U,hU⟩:=af (zC u w.heap.size (.slice none 0 0) (.bool false) (.slice none 0 0) (.int .i64 0));rw[<-hU] at B2;unfold zC at hU;have HU:=ak hU;clear hU;have M5:=B1.o.x.cell 0 _ rfl;have vz:=B1.o.x.frozen 0;have M6:=B1.o.x.cell 1 _ rfl;have vB:=B1.o.x.frozen 1;have M8:=B1.o.x.cell 2 _ rfl;have vC:=B1.o.x.frozen 2;have M9:=B1.o.x.cell 3 _ rfl;have vD:=B1.o.x.frozen 3;have Na:=B1.o.y.cell 0 _ rfl;have vE:=B1.o.y.frozen 0;have Nb:=B1.o.y.cell 1 _ rfl;have vF:=B1.o.y.frozen 1;have Nc:=B1.o.y.cell 2 _ rfl;have vG:=B1.o.y.frozen 2;have Nf:=B1.o.y.cell 3 _ rfl;have vH:=B1.o.y.frozen 3
   go_upto_region 6 with fail
   rw[<-HU.o];clear HU;clear M5 vz M6 vB M8 vC M9 vD Na vE Nb vF Nc vG Nf vH;have M5:=B2.o.x.cell 0 _ rfl;have vz:=B2.o.x.frozen 0;have M6:=B2.o.x.cell 1 _ rfl;have vB:=B2.o.x.frozen 1;have M8:=B2.o.x.cell 2 _ rfl;have vC:=B2.o.x.frozen 2;have M9:=B2.o.x.cell 3 _ rfl;have vD:=B2.o.x.frozen 3;have Na:=B2.o.y.cell 0 _ rfl;have vE:=B2.o.y.frozen 0;have Nb:=B2.o.y.cell 1 _ rfl;have vF:=B2.o.y.frozen 1;have Nc:=B2.o.y.cell 2 _ rfl;have vG:=B2.o.y.frozen 2;have Nf:=B2.o.y.cell 3 _ rfl;have vH:=B2.o.y.frozen 3;go_wp2;have q:=(B2.o.xU (.slice none 0 0) (.bool false) (.slice none 0 0) (.int .i64 0)).Hg (.slice none 0 0) (.bool false) (.slice none 0 0) (.int .i64 0);have Uw:=q.x.cell 0 _ rfl;have Ux:=q.x.cell 1 _ rfl;have Uy:=q.x.cell 2 _ rfl;have Uz:=q.x.cell 3 _ rfl;have UA:=q.y.cell 0 _ rfl;have UB:=q.y.cell 1 _ rfl;have UC:=q.y.cell 2 _ rfl;have UD:=q.y.cell 3 _ rfl;exact aC (v:=.tuple #[.agg #[.slice none 0 0,.bool false,.slice none 0 0,.int .i64 0],.agg #[.slice none 0 0,.bool false,.slice none 0 0,.int .i64 0],.int .i64 es]) (by simp[results,Tryz.results39,go_sem,Uw,Ux,Uy,Uz,UA,UB,UC,UD]) rfl ⟨.inl ⟨by rw[HQ.o.1];exact HQ.o.2,by rw[HQ.o.1]⟩,q.b⟩
 · subst he;have R1:=ak hR;obtain⟨gA,p1,q1,rfl,hD,hN⟩:=hR;obtain⟨oS,xS⟩:=af (gV 1074 (sX xs));rw[<-xS] at R1 |-;have B2:=ak (B1.o.xU (.slice (some ⟨gA,0,none⟩) n n) (.bool (dN oS)) (.slice p1 (ws (dX oS)).length q1) (.int .i64 (dE oS)));have R2:=ak (R1.o.zC B1.o.x (.slice (some ⟨gA,0,none⟩) n n) (.bool (dN oS)) (.slice p1 (ws (dX oS)).length q1) (.int .i64 (dE oS)) (fun gA' _ _ _ hD'=>hD'.Hl B1.o.x));obtain⟨U,hU⟩:=af (zC u w.heap.size (.slice (some ⟨gA,0,none⟩) n n) (.bool (dN oS)) (.slice p1 (ws (dX oS)).length q1) (.int .i64 (dE oS)));rw[<-hU] at B2 R2;unfold zC at hU;have HU:=ak hU;have Ca:=ak xS;clear hU hD hN hb B0 HE R1 xS;have M5:=B1.o.x.cell 0 _ rfl;have vz:=B1.o.x.frozen 0;have M6:=B1.o.x.cell 1 _ rfl;have vB:=B1.o.x.frozen 1;have M8:=B1.o.x.cell 2 _ rfl;have vC:=B1.o.x.frozen 2;have M9:=B1.o.x.cell 3 _ rfl;have vD:=B1.o.x.frozen 3;have Na:=B1.o.y.cell 0 _ rfl;have vE:=B1.o.y.frozen 0;have Nb:=B1.o.y.cell 1 _ rfl;have vF:=B1.o.y.frozen 1;have Nc:=B1.o.y.cell 2 _ rfl;have vG:=B1.o.y.frozen 2;have Nf:=B1.o.y.cell 3 _ rfl;have vH:=B1.o.y.frozen 3
   go_upto_region 6 with fail
   rw[<-HU.o];clear HU B1;clear M5 vz M6 vB M8 vC M9 vD Na vE Nb vF Nc vG Nf vH;have HE:=hid (rT ys a2 n c2 U HX.o.1 ((HX.o.2.1.below B2.o.b).mono B2.o.b.size) HX.o.r2.1 (HX.o.r3.1.belows B2.o.b) (by have:=HX.o.r4.1;omega));rw[qP.o.2] at HE;go_wp2_with fail;refine HE.o.mono ?_;rintro r u2 ⟨hr,hb⟩;have B3:=ak (B2.o.below hb);have R3:=ak (R2.o.below hb);rcases hr with ⟨he,rfl⟩|⟨he,v2,rfl,hR⟩
   · have h1:(et==0)=false:=by simp[he]
     have HQ:Aside (nW xs ys=et/\et≠0):=⟨by rw[HX.o.r5,qP.o.1,if_pos rfl,qP.o.2],he⟩;clear hb HE R3 R2;have B4:=ak (B3.o.Hg (.slice none 0 0) (.bool false) (.slice none 0 0) (.int .i64 0));obtain⟨V,hV⟩:=af (zC u2 (w.heap.size+1) (.slice none 0 0) (.bool false) (.slice none 0 0) (.int .i64 0));rw[<-hV] at B4;unfold zC at hV;have HV:=ak hV;clear hV;have M5:=B3.o.x.cell 0 _ rfl;have vz:=B3.o.x.frozen 0;have M6:=B3.o.x.cell 1 _ rfl;have vB:=B3.o.x.frozen 1;have M8:=B3.o.x.cell 2 _ rfl;have vC:=B3.o.x.frozen 2;have M9:=B3.o.x.cell 3 _ rfl;have vD:=B3.o.x.frozen 3;have Na:=B3.o.y.cell 0 _ rfl;have vE:=B3.o.y.frozen 0;have Nb:=B3.o.y.cell 1 _ rfl;have vF:=B3.o.y.frozen 1;have Nc:=B3.o.y.cell 2 _ rfl;have vG:=B3.o.y.frozen 2;have Nf:=B3.o.y.cell 3 _ rfl;have vH:=B3.o.y.frozen 3
     go_upto_region 9 with fail
     rw[<-HV.o];clear HV;clear M5 vz M6 vB M8 vC M9 vD Na vE Nb vF Nc vG Nf vH;have M5:=B4.o.x.cell 0 _ rfl;have vz:=B4.o.x.frozen 0;have M6:=B4.o.x.cell 1 _ rfl;have vB:=B4.o.x.frozen 1;have M8:=B4.o.x.cell 2 _ rfl;have vC:=B4.o.x.frozen 2;have M9:=B4.o.x.cell 3 _ rfl;have vD:=B4.o.x.frozen 3;have Na:=B4.o.y.cell 0 _ rfl;have vE:=B4.o.y.frozen 0;have Nb:=B4.o.y.cell 1 _ rfl;have vF:=B4.o.y.frozen 1;have Nc:=B4.o.y.cell 2 _ rfl;have vG:=B4.o.y.frozen 2;have Nf:=B4.o.y.cell 3 _ rfl;have vH:=B4.o.y.frozen 3;go_wp2;have q:=(B4.o.xU (.slice none 0 0) (.bool false) (.slice none 0 0) (.int .i64 0)).Hg (.slice none 0 0) (.bool false) (.slice none 0 0) (.int .i64 0);have Uw:=q.x.cell 0 _ rfl;have Ux:=q.x.cell 1 _ rfl;have Uy:=q.x.cell 2 _ rfl;have Uz:=q.x.cell 3 _ rfl;have UA:=q.y.cell 0 _ rfl;have UB:=q.y.cell 1 _ rfl;have UC:=q.y.cell 2 _ rfl;have UD:=q.y.cell 3 _ rfl;exact aC (v:=.tuple #[.agg #[.slice none 0 0,.bool false,.slice none 0 0,.int .i64 0],.agg #[.slice none 0 0,.bool false,.slice none 0 0,.int .i64 0],.int .i64 et]) (by simp[results,Tryz.results39,go_sem,Uw,Ux,Uy,Uz,UA,UB,UC,UD]) rfl ⟨.inl ⟨by rw[HQ.o.1];exact HQ.o.2,by rw[HQ.o.1]⟩,q.b⟩
   · subst he;have S1:=ak hR;obtain⟨gB,p2,q2,rfl,hD,hN⟩:=hR;obtain⟨oT,QH⟩:=af (gV 1074 (sX ys));rw[<-QH] at S1 |-;have B4:=ak (B3.o.Hg (.slice (some ⟨gB,0,none⟩) n n) (.bool (dN oT)) (.slice p2 (ws (dX oT)).length q2) (.int .i64 (dE oT)));have R4:=ak (R3.o.zC B3.o.y (.slice (some ⟨gB,0,none⟩) n n) (.bool (dN oT)) (.slice p2 (ws (dX oT)).length q2) (.int .i64 (dE oT)) (fun gA' _ _ _ hD'=>hD'.Hl B3.o.y));have S4:=ak (S1.o.zC B3.o.y (.slice (some ⟨gB,0,none⟩) n n) (.bool (dN oT)) (.slice p2 (ws (dX oT)).length q2) (.int .i64 (dE oT)) (fun gA' _ _ _ hD'=>hD'.Hl B3.o.y));obtain⟨V,hV⟩:=af (zC u2 (w.heap.size+1) (.slice (some ⟨gB,0,none⟩) n n) (.bool (dN oT)) (.slice p2 (ws (dX oT)).length q2) (.int .i64 (dE oT)));rw[<-hV] at B4 R4 S4;unfold zC at hV;have HV:=ak hV;have HOT:=ak QH;clear hV hD hN hb HE R3 S1 QH R2;have M5:=B3.o.x.cell 0 _ rfl;have vz:=B3.o.x.frozen 0;have M6:=B3.o.x.cell 1 _ rfl;have vB:=B3.o.x.frozen 1;have M8:=B3.o.x.cell 2 _ rfl;have vC:=B3.o.x.frozen 2;have M9:=B3.o.x.cell 3 _ rfl;have vD:=B3.o.x.frozen 3;have Na:=B3.o.y.cell 0 _ rfl;have vE:=B3.o.y.frozen 0;have Nb:=B3.o.y.cell 1 _ rfl;have vF:=B3.o.y.frozen 1;have Nc:=B3.o.y.cell 2 _ rfl;have vG:=B3.o.y.frozen 2;have Nf:=B3.o.y.cell 3 _ rfl;have vH:=B3.o.y.frozen 3
     go_upto_region 9 with fail
     rw[<-HV.o];clear HV B3 B2;clear M5 vz M6 vB M8 vC M9 vD Na vE Nb vF Nc vG Nf vH;have B6:=ak (((B4.o.xU (.slice (some ⟨gA,0,none⟩) n n) (.bool (dN oS)) (.slice p1 (ws (dX oS)).length q1) (.int .i64 (dE oS))).Hg (.slice (some ⟨gB,0,none⟩) n n) (.bool (dN oT)) (.slice p2 (ws (dX oT)).length q2) (.int .i64 (dE oT))).below (aB _ _).drew);have R6:=ak (((R4.o.zC B4.o.x (.slice (some ⟨gA,0,none⟩) n n) (.bool (dN oS)) (.slice p1 (ws (dX oS)).length q1) (.int .i64 (dE oS)) (fun gA' _ _ _ hD'=>hD'.Hl B4.o.x)).zC (B4.o.xU (.slice (some ⟨gA,0,none⟩) n n) (.bool (dN oS)) (.slice p1 (ws (dX oS)).length q1) (.int .i64 (dE oS))).y (.slice (some ⟨gB,0,none⟩) n n) (.bool (dN oT)) (.slice p2 (ws (dX oT)).length q2) (.int .i64 (dE oT)) (fun gA' _ _ _ hD'=>hD'.Hl (B4.o.xU (.slice (some ⟨gA,0,none⟩) n n) (.bool (dN oS)) (.slice p1 (ws (dX oS)).length q1) (.int .i64 (dE oS))).y)).below (aB _ _).drew);have S6:=ak (((S4.o.zC B4.o.x (.slice (some ⟨gA,0,none⟩) n n) (.bool (dN oS)) (.slice p1 (ws (dX oS)).length q1) (.int .i64 (dE oS)) (fun gA' _ _ _ hD'=>hD'.Hl B4.o.x)).zC (B4.o.xU (.slice (some ⟨gA,0,none⟩) n n) (.bool (dN oS)) (.slice p1 (ws (dX oS)).length q1) (.int .i64 (dE oS))).y (.slice (some ⟨gB,0,none⟩) n n) (.bool (dN oT)) (.slice p2 (ws (dX oT)).length q2) (.int .i64 (dE oT)) (fun gA' _ _ _ hD'=>hD'.Hl (B4.o.xU (.slice (some ⟨gA,0,none⟩) n n) (.bool (dN oS)) (.slice p1 (ws (dX oS)).length q1) (.int .i64 (dE oS))).y)).below (aB _ _).drew);have M5:=B4.o.x.cell 0 _ rfl;have vz:=B4.o.x.frozen 0;have M6:=B4.o.x.cell 1 _ rfl;have vB:=B4.o.x.frozen 1;have M8:=B4.o.x.cell 2 _ rfl;have vC:=B4.o.x.frozen 2;have M9:=B4.o.x.cell 3 _ rfl;have vD:=B4.o.x.frozen 3;have Na:=B4.o.y.cell 0 _ rfl;have vE:=B4.o.y.frozen 0;have Nb:=B4.o.y.cell 1 _ rfl;have vF:=B4.o.y.frozen 1;have Nc:=B4.o.y.cell 2 _ rfl;have vG:=B4.o.y.frozen 2;have Nf:=B4.o.y.cell 3 _ rfl;have vH:=B4.o.y.frozen 3;have HQ:Aside (nW xs ys=0):=by show _=_;rw[HX.o.r5,qP.o.1,if_pos rfl,qP.o.2]
     clear B4 R4 S4;go_wp2_with fail
     go_region
     go_wp2;have Uw:=B6.o.x.cell 0 _ rfl;have Ux:=B6.o.x.cell 1 _ rfl;have Uy:=B6.o.x.cell 2 _ rfl;have Uz:=B6.o.x.cell 3 _ rfl;have UA:=B6.o.y.cell 0 _ rfl;have UB:=B6.o.y.cell 1 _ rfl;have UC:=B6.o.y.cell 2 _ rfl;have UD:=B6.o.y.cell 3 _ rfl;refine aC (v:=.tuple #[.agg #[.slice (some ⟨gA,0,none⟩) n n,.bool (dN oS),.slice p1 (ws (dX oS)).length q1,.int .i64 (dE oS)],.agg #[.slice (some ⟨gB,0,none⟩) n n,.bool (dN oT),.slice p2 (ws (dX oT)).length q2,.int .i64 (dE oT)],.int .i64 0]) (by simp[results,Tryz.results39,go_sem,Uw,Ux,Uy,Uz,UA,UB,UC,UD]) rfl ⟨.inr ⟨HQ.o,_,_,rfl,?_,?_⟩,?_⟩
     · rw[<-Ca.o];exact R6.o
     · rw[<-HOT.o];exact S6.o
     · exact B6.o.b
theorem Qay{P:Prop}(h:P:=by
 rintro r w' ⟨rfl,hb⟩;exact⟨.inl ⟨by rw[e];decide,by rw[e]⟩,hb⟩):P:=h
theorem QI(xs ys:List Nat)(a a2:Option Addr)(n n2 c c2:Nat)(w:World)(hn:n=xs.length)(hn2:n2=ys.length)(hF:Fs w.heap.size w a xs)(hG:Fs w.heap.size w a2 ys)(hW:j4 xs)(hW2:j4 ys)(hT:dH w)(hl:n<=35184372088832)(hl2:n2<=35184372088832) :
 As 39 #[.slice a n c,.slice a2 n2 c2] w fun r w'=>ZM xs ys n r w'/\An w w':=by
 by_cases h1:65536<n\/65536<n2
 · have e:nW xs ys=2:=by unfold nW;rw[if_pos (by omega)]
   refine(Mt xs ys a a2 n n2 c c2 w (by
    by_cases q:65536<n
    · exact .inl (by simp;omega)
    · exact .inr ⟨by simp;omega,by simp;omega⟩)).mono ?_
   exact Qay
 · by_cases h2:n=n2
   · subst h2;exact Mv xs ys a a2 n c c2 w hn hn2 hF hG hW hW2 hT (by omega)
   · have e:nW xs ys=4:=by unfold nW;rw[if_neg (by omega),if_pos (by omega)]
     refine(Et xs ys a a2 n n2 c c2 w (by simp;omega) (by simp;omega) (by simp;omega) (by omega)).mono ?_;exact Qay
noncomputable def VI (xs ys:List Nat) (less mode:Int):Nat×Int :=
 if p9 mode&&lsB less then
  if nW xs ys=0 then
   if (xs.length:Int)<=less then(0,3) else nK (gV 2148 (cS xs ys)) (gV 0 ((xs.length:Int)*((xs.length:Int)-less))) mode
  else(0,nW xs ys)
 else(0,1)
structure nM (w v:World) (n gx gy gA gB:Nat) (p1 p2:Option Addr) (q1 q2:Nat) (A B:Nat->Option (Bool×Nat×Int)) (oS oT:Option (Bool×Nat×Int)):Prop where
 x:Bl v gx 62 [.slice (some ⟨gA,0,none⟩) n n,.bool (dN oS),.slice p1 (ws (dX oS)).length q1,.int .i64 (dE oS)]
 y:Bl v gy 62 [.slice (some ⟨gB,0,none⟩) n n,.bool (dN oT),.slice p2 (ws (dX oT)).length q2,.int .i64 (dE oT)]
 dx:Dr v gA n n A
 dy:Dr v gB n n B
 nx:Nt 0 v (.slice p1 (ws (dX oS)).length q1) (dX oS)
 ny:Nt 0 v (.slice p2 (ws (dX oT)).length q2) (dX oT)
 b:An w v
theorem nM.below{w v u:World}{n gx gy gA gB:Nat}{p1 p2:Option Addr}{q1 q2:Nat}{A B:Nat->Option (Bool×Nat×Int)}{oS oT:Option (Bool×Nat×Int)}(h:nM w v n gx gy gA gB p1 p2 q1 q2 A B oS oT)(hb:An v u):nM w u n gx gy gA gB p1 p2 q1 q2 A B oS oT :=
 ⟨h.x.below hb h.x.lt,h.y.below hb h.y.lt,h.dx.below hb,h.dy.below hb,h.nx.below hb,h.ny.below hb,h.b.trans (hb.mono h.b.size)⟩
theorem nM.rx{w v:World}{n gx gy gA gB:Nat}{p1 p2:Option Addr}{q1 q2:Nat}{A B:Nat->Option (Bool×Nat×Int)}{oS oT:Option (Bool×Nat×Int)}(h:nM w v n gx gy gA gB p1 p2 q1 q2 A B oS oT):Rr v (.agg #[.slice (some ⟨gA,0,none⟩) n n,.bool (dN oS),.slice p1 (ws (dX oS)).length q1,.int .i64 (dE oS)]) n A oS:=⟨gA,p1,q1,rfl,h.dx,h.nx⟩
theorem nM.ry{w v:World}{n gx gy gA gB:Nat}{p1 p2:Option Addr}{q1 q2:Nat}{A B:Nat->Option (Bool×Nat×Int)}{oS oT:Option (Bool×Nat×Int)}(h:nM w v n gx gy gA gB p1 p2 q1 q2 A B oS oT):Rr v (.agg #[.slice (some ⟨gB,0,none⟩) n n,.bool (dN oT),.slice p2 (ws (dX oT)).length q2,.int .i64 (dE oT)]) n B oT:=⟨gB,p2,q2,rfl,h.dy,h.ny⟩
theorem nM.cells{w v:World}{n gx gy gA gB:Nat}{p1 p2:Option Addr}{q1 q2:Nat}{A B:Nat->Option (Bool×Nat×Int)}{oS oT:Option (Bool×Nat×Int)}(h:nM w v n gx gy gA gB p1 p2 q1 q2 A B oS oT):v.cell? ⟨gx,0,none⟩=some (.slice (some ⟨gA,0,none⟩) n n)/\v.cell? ⟨gx,1,none⟩=some (.bool (dN oS))/\v.cell? ⟨gx,2,none⟩=some (.slice p1 (ws (dX oS)).length q1)/\v.cell? ⟨gx,3,none⟩=some (.int .i64 (dE oS))/\v.cell? ⟨gy,0,none⟩=some (.slice (some ⟨gB,0,none⟩) n n)/\v.cell? ⟨gy,1,none⟩=some (.bool (dN oT))/\v.cell? ⟨gy,2,none⟩=some (.slice p2 (ws (dX oT)).length q2)/\v.cell? ⟨gy,3,none⟩=some (.int .i64 (dE oT)) :=
 ⟨h.x.cell 0 _ rfl,h.x.cell 1 _ rfl,h.x.cell 2 _ rfl,h.x.cell 3 _ rfl,h.y.cell 0 _ rfl,h.y.cell 1 _ rfl,h.y.cell 2 _ rfl,h.y.cell 3 _ rfl⟩
theorem KB{P:Prop}(h:P:=by
 have Jh:An u2 V:=by rw[hV];exact(aK _ _).trans ((aK _ _).mono (by simp))
 refine⟨?_,?_,hD1.below Jh,hD2.below Jh,hN1.below Jh,j5.below Jh,hb.trans (Jh.mono hb.size)⟩
 · rw[hV,hgx];exact(Bl.new _ 62 [_,_,_,_]).alloc _
 · have z:=Bl.new (u2.alloc (Obj.cells #[.slice (some ⟨gA,0,none⟩) n n,.bool (dN oS),.slice p1 (ws (dX oS)).length q1,.int .i64 (dE oS)] 62)) 62 [.slice (some ⟨gB,0,none⟩) n n,.bool (dN oT),.slice p2 (ws (dX oT)).length q2,.int .i64 (dE oT)];rw[dA] at z;rw[hV,VJ];exact z):P:=h
theorem ZN(xs ys:List Nat)(a a2:Option Addr)(n n2 c c2:Nat)(less mode:Int)(w:World)(hn:n=xs.length)(hn2:n2=ys.length)(hF:Fs w.heap.size w a xs)(hG:Fs w.heap.size w a2 ys)(hW:j4 xs)(hW2:j4 ys)(hT:dH w)(hl:n<=35184372088832)(hl2:n2<=35184372088832)(z:Nat×Int)(hz:VI xs ys less mode=z) :
 At 24 #[.slice a n c,.slice a2 n2 c2,.int .i64 less,.int .i64 mode] w (.tuple #[.float .f64 z.1,.int .i64 z.2]):=by
 obtain⟨X,E⟩:=z;simp only;have C:=hid (iT mode w);have D:=hid (mZ less w);unfold VI at hz
 cases hm:p9 mode with
 | false =>
   rw[hm,nR,if_neg (by decide)] at hz;rw[hm] at C;obtain⟨rfl,rfl⟩:=eP hz;clear hz hn hF hW hT hn2 hG hW2;go_enter Tryz.func24,Tryz.ntmps24;go_wp2_with fail;refine C.o.mono ?_;rintro r v ⟨rfl,hv⟩;rw[hv];clear hv v C;go_wp2;exact aC (v:=.tuple #[.float .f64 0,.int .i64 1]) (by simp[results,Tryz.results24,go_sem]) rfl ⟨rfl,aB _ _⟩
 | true =>
 rw[hm] at C hz
 cases hs:lsB less with
 | false =>
   rw[hs,og,if_neg (by decide)] at hz;rw[hs] at D;obtain⟨rfl,rfl⟩:=eP hz;clear hz hn hF hW hT hn2 hG hW2;go_enter Tryz.func24,Tryz.ntmps24;go_wp2_with fail;refine C.o.mono ?_;rintro r v ⟨rfl,hv⟩;rw[hv];clear hv v C;go_wp2_with fail;refine D.o.mono ?_;rintro r v ⟨rfl,hv⟩;rw[hv];clear hv v D;go_wp2;exact aC (v:=.tuple #[.float .f64 0,.int .i64 1]) (by simp[results,Tryz.results24,go_sem]) rfl ⟨rfl,aB _ _⟩
 | true =>
   rw[hs,Cm,if_pos rfl] at hz;rw[hs] at D;have HB:=hid (QI xs ys a a2 n n2 c c2 w hn hn2 hF hG hW hW2 hT hl hl2);have HX:=dJ hn hn2 hW hW2 hT;have HLS:=ak (Ef hs);have HZ:=ak hz;clear hz hn hF hW hT hn2 hG hW2 hl hl2 hs hm;go_enter Tryz.func24,Tryz.ntmps24;go_wp2_with fail;refine C.o.mono ?_;rintro r v ⟨rfl,hv⟩;rw[hv];clear hv v C;go_wp2_with fail;refine D.o.mono ?_;rintro r v ⟨rfl,hv⟩;rw[hv];clear hv v D;go_wp2_with fail;refine HB.o.mono ?_;rintro r u2 ⟨hr,hb⟩;rcases hr with ⟨he,rfl⟩|⟨he,v1,v2,rfl,qO,hR2⟩
   · have hz:=HZ.o;rw[if_neg he] at hz;obtain⟨rfl,hE⟩:=eP hz;rw[hE] at he |-;have h1:(E==0)=false:=by simp[he]
     have BE:Aside (An w ((u2.alloc (Obj.cells #[.slice none 0 0,.bool false,.slice none 0 0,.int .i64 0] 62)).alloc (Obj.cells #[.slice none 0 0,.bool false,.slice none 0 0,.int .i64 0] 62))):=(hb.trans ((aK _ _).mono hb.size)).trans ((aK _ _).mono (by simp;have:=hb.size;omega));clear hz HZ hE hb HB;go_wp2;exact aC (v:=.tuple #[.float .f64 0,.int .i64 E]) (by simp[results,Tryz.results24,go_sem]) rfl ⟨rfl,BE.o⟩
   · have HBO:=ak he;obtain⟨hlen,VH,hf1,hf2⟩:=Jy he;have PF:=(fE hlen VH hf1 hf2);obtain⟨gA,p1,q1,rfl,hD1,hN1⟩:=qO;obtain⟨gB,p2,q2,rfl,hD2,j5⟩:=hR2;obtain⟨oS,xS⟩:=af (gV 1074 (sX xs));obtain⟨oT,QH⟩:=af (gV 1074 (sX ys));rw[<-xS] at hN1 |-;rw[<-QH] at j5 |-;obtain⟨V,hV⟩:=af ((u2.alloc (Obj.cells #[.slice (some ⟨gA,0,none⟩) n n,.bool (dN oS),.slice p1 (ws (dX oS)).length q1,.int .i64 (dE oS)] 62)).alloc (Obj.cells #[.slice (some ⟨gB,0,none⟩) n n,.bool (dN oT),.slice p2 (ws (dX oT)).length q2,.int .i64 (dE oT)] 62));obtain⟨gx,hgx⟩:=af (u2.heap.size);obtain⟨gy,VJ⟩:=af (u2.heap.size+1)
     have B4:Aside (nM w V n gx gy gA gB p1 p2 q1 q2 (fun i=>gV 1074 (fX xs i)) (fun i=>gV 1074 (fX ys i)) oS oT):=by
      exact KB
     have HV:=(bO hV hgx VJ);have Ca:=(aJ xS QH);clear hV hgx VJ hb hD1 hN1 hD2 j5 HB xS QH hlen VH hf1 hf2 he
     go_upto_region 4 with fail
     rw[<-HV.o.1]
     try rw[<-HV.o.r2]
     rw[<-HV.o.2.1];clear HV;have s0:=B4.o.x.cell 0 _ rfl;have hz:=HZ.o;rw[if_pos HBO.o] at hz;have n6:n<=65536:=by have:=PF.o.2.1;have:=HX.o.1;omega
     have xY:0<=less/\less<=1:=by have:=HLS.o;omega
     by_cases hle:(n:Int)<=less
     · have XA:decide ((n:Int)<=less)=true:=decide_eq_true hle;rw[if_pos (by rw[<-HX.o.1];exact hle)] at hz;obtain⟨rfl,rfl⟩:=eP hz;clear hz HZ;go_wp2;exact aC (v:=.tuple #[.float .f64 0,.int .i64 3]) (by simp[results,Tryz.results24,go_sem]) rfl ⟨rfl,B4.o.b⟩
     · have XA:decide ((n:Int)<=less)=false:=decide_eq_false hle;rw[if_neg (by rw[<-HX.o.1];exact hle),<-HX.o.1] at hz;obtain⟨V0,UE⟩:=af (gV 2148 (cS xs ys));obtain⟨oD,sj⟩:=af (gV 0 ((n:Int)*((n:Int)-less)));rw[<-UE,<-sj] at hz;have FV:Fm V0:=by rw[UE];exact aZ (by decide) (by decide) (jW HX.o.r2.1 PF.o.r2.1 HX.o.r3.1 PF.o.r3 PF.o.2.1 PF.o.1)
       have FD:Fm oD:=by rw[sj];exact aZ (by decide) (by decide) (uS (by omega) xY.1 xY.2)
       have Vy:Hid (∀ u:World,nM w u n gx gy gA gB p1 p2 q1 q2 (fun i=>gV 1074 (fX xs i)) (fun i=>gV 1074 (fX ys i)) oS oT->As 41 #[.agg #[.slice (some ⟨gA,0,none⟩) n n,.bool (dN oS),.slice p1 (ws (dX oS)).length q1,.int .i64 (dE oS)],.agg #[.slice (some ⟨gB,0,none⟩) n n,.bool (dN oT),.slice p2 (ws (dX oT)).length q2,.int .i64 (dE oT)]] u fun r w'=>aN 0 w' r V0/\An u w'):=fun u hu=>by
        have hR:=hu.rx;have hS:=hu.ry;rw[Ca.o.1] at hR |-;rw[Ca.o.2] at hS |-;have:=mY (f:=fX xs) (g:=fX ys) (S:=sX xs) (T:=sX ys) n6 (HX.o.r4.belows hu.b) (fun i hi=>gP HX.o.r2.1 PF.o.r2.1 i (by have:=HX.o.1;have:=PF.o.1;omega)) (fun i hi=>gP HX.o.r3.1 PF.o.r3 i (by have:=HX.o.1;have:=PF.o.1;omega)) (iA HX.o.r2.1 PF.o.r2.1 (by have:=HX.o.1;have:=PF.o.1;omega) _ (aA _)) (iA HX.o.r3.1 PF.o.r3 (by have:=HX.o.1;have:=PF.o.1;omega) _ (aA _)) hR hS;rw[UE];unfold cS;rw[show(xs).length=n by have:=HX.o.1;have:=PF.o.1;omega];exact this
       have qE:Hid (∀ u:World,dH u->As 46 #[.int .i64 (n:Nat),.int .i64 less] u fun r w'=>aN 0 w' r oD/\An u w'):=fun u hu=>by
        rw[sj];exact si n less u hu (by omega) xY.1 xY.2 (by omega)
       have HR:Hid (∀ (u:World) (a b:Option Addr) (ca cb:Nat),dH u->Nt 0 u (.slice a (ws (dX V0)).length ca) (dX V0)->Nt 0 u (.slice b (ws (dX oD)).length cb) (dX oD)->At 37 #[.agg #[.bool (dN V0),.slice a (ws (dX V0)).length ca,.int .i64 (dE V0),.bool (dN oD),.slice b (ws (dX oD)).length cb,.int .i64 (dE oD)],.int .i64 mode] u (.tuple #[.float .f64 X,.int .i64 E])):=fun u a b ca cb qD n1 n2=>by
        have:=G5 mode FV FD n1 n2 qD;exact js
       have HT:=ak HX.o.r4;have BD:=ak (B4.o.below (aB V.heap.size V).drew);have kS:=ak BD.o.cells;have C1:=hid (Vy.o V.drew BD.o);clear hz HZ UE sj FV FD n6 xY PF HX Vy;go_wp2_with fail;clear s0 B4
       go_region_held3 (fun w'=>w'.cell? ⟨gx,0,none⟩=some (.slice (some ⟨gA,0,none⟩) n n)/\w'.cell? ⟨gx,1,none⟩=some (.bool (dN oS))/\w'.cell? ⟨gx,2,none⟩=some (.slice p1 (ws (dX oS)).length q1)/\w'.cell? ⟨gx,3,none⟩=some (.int .i64 (dE oS))/\w'.cell? ⟨gy,0,none⟩=some (.slice (some ⟨gB,0,none⟩) n n)/\w'.cell? ⟨gy,1,none⟩=some (.bool (dN oT))/\w'.cell? ⟨gy,2,none⟩=some (.slice p2 (ws (dX oT)).length q2)/\w'.cell? ⟨gy,3,none⟩=some (.int .i64 (dE oT))) (with_reducible exact kS.o) (first
        | (go_at_call 41
           with_reducible refine C1.o.mono ?_
           rintro r u3 ⟨hd,hb⟩;obtain⟨a3,c3,rfl,eu⟩:=hd.aD;have BE:=aJ (BD.o.below hb) eu;have kS:=ak BE.o.1.cells;have C2:=hid (qE.o u3 (HT.o.belows BE.o.1.b))
           clear hb hd eu C1)
        | (go_at_call 46
           with_reducible refine C2.o.mono ?_
           rintro r u4 ⟨hd,hb⟩;obtain⟨a4,c4,rfl,iD⟩:=hd.aD;have BG:=bO (BE.o.1.below hb) (BE.o.2.below hb) iD;have kS:=ak BG.o.1.cells;have C3:=hid (HR.o u4 a3 a4 c3 c4 (HT.o.belows BG.o.1.b) BG.o.2.1 BG.o.r2)
           clear hb hd iD C2)
        | (go_at_call 37
           with_reducible refine C3.o.mono ?_
           rintro r u5 ⟨rfl,hb⟩;have BF:=ak (BG.o.1.below hb);have kS:=ak BF.o.cells
           clear hb C3))
       go_wp2;exact aC (v:=.tuple #[.float .f64 X,.int .i64 E]) (by simp[results,Tryz.results24,go_sem]) rfl ⟨rfl,BF.o.b⟩
theorem pU{u k:Nat}{V:Int}(hu:u<=100000)(hV:V≠0)(hk:k<=90000)(hb:Bd k V):∃ X e,gV u V=some (decide (V<0),X,e)/\X%2=1/\-(u:Int)<=e/\e<=200000/\X*2^(e+(u:Int)).toNat=V.natAbs/\bl X<=262144/\tC (decide (V<0)) X e:=by
 obtain⟨n,X,e,ho,F,hx⟩:=L9 (u:=u) hu (by omega) hb;have hm:mkS (decide (V<0)) V.natAbs (-(u:Int))=some (n,X,e):=ho;have hz:=mh hm (-(u:Int)) (.inr (by omega));unfold zv at hz;simp only at hz;rw[show(-(u:Int) - -(u:Int)).toNat=0 by omega,fw,eO] at hz
 have hX0:X≠0:=by
  rintro rfl;simp[qm] at hz
  split at hz <;> omega
 have hp:0<X*2^(e - -(u:Int)).toNat:=iE (by omega) (bz _);rcases hx with h|⟨h1,h2⟩
 · exact absurd h hX0
 have hn:n=decide (V<0):=by
  by_cases hs:V<0
  · rw[decide_eq_true hs] at hz |-
    cases n with
    | true=>rfl
    | false=>simp only[qm,if_true,fe,if_false] at hz;omega
  · rw[decide_eq_false hs] at hz |-
    cases n with
    | false=>rfl
    | true=>simp only[qm,if_true,fe,if_false] at hz;omega
 rw[hn] at hz ho F
 have hv:X*2^(e - -(u:Int)).toNat=V.natAbs:=by
  by_cases hs:V<0
  · rw[decide_eq_true hs] at hz;simp only[qm,if_true] at hz;omega
  · rw[decide_eq_false hs] at hz;simp only[qm,fe,if_false] at hz;omega
 refine⟨X,e,ho,?_,h1,by omega,?_,by omega,F⟩
 · rcases F.odd with q | q
   · exact q
   · exact absurd q.1 hX0
 · rw[show(e+(u:Int)).toNat=(e - -(u:Int)).toNat by congr 1;omega];exact hv
theorem Eu{x S V S' V':Nat}(hS:0<S)(hS':0<S')(e:V*S'=V'*S):(x*S<V↔x*S'<V')/\(x*S=V↔x*S'=V')/\(V<x*S↔V'<x*S'):=by
 have a1:x*S*S'=x*S'*S:=by rw[aM,cZ S,<-aM]
 have t1:x*S<V↔x*S*S'<V*S':=(nS hS').symm;have t2:x*S'<V'↔x*S'*S<V'*S:=(nS hS).symm;have t3:V<x*S↔V*S'<x*S*S':=(nS hS').symm;have t4:V'<x*S'↔V'*S<x*S'*S:=(nS hS).symm;rw[t1,t2,t3,t4,a1,e];refine⟨Iff.rfl,?_,Iff.rfl⟩;rw[a1,e] at t1;rw[a1,e] at t3;omega
theorem ik.BP{v:Nat->Nat}{top n K:Nat}{t:Bool}{m:Int}{V S V' S':Nat}(h:ik v top n K t m V S)(hS':0<S')(e:V*S'=V'*S):ik v top n K t m V' S':=by
 obtain⟨h1,h2,h3,h4,h5,h6⟩:=h;have e2:(2^n*V)*S'=(2^n*V')*S:=by rw[aM,e,aM]
 refine⟨h1,hS',fun a=>((Eu h2 hS' e).2.1.1 (h3 a).symm).symm,fun a=>(Eu h2 hS' e).1.1 (h4 a),fun a b=>?_,fun a=>?_⟩
 · have:=h5 a ((Eu h2 hS' e).2.2.2 b);obtain⟨r1,r2,r3⟩:=Eu (x:=(v K+v (K+1))^n) h2 hS' e2;rcases this with ⟨q,r⟩|⟨q,r⟩|⟨q,r⟩
   · exact .inl ⟨q,r3.1 r⟩
   · exact .inr (.inl ⟨q,(r2.1 r.symm).symm⟩)
   · exact .inr (.inr ⟨q,r1.1 r⟩)
 · rcases h6 a with q | q
   · exact .inl ((Eu h2 hS' e).2.2.1 q)
   · exact .inr q
theorem VK{u k:Nat}{V D:Int}(hu:u<=100000)(hk:k<=90000)(hV:0<=V)(hD:0<D)(bV:Bd k V)(bD:Bd k D) :
 ∃ K t m,ik vK 9218868437227405312 2 K t m (V.natAbs*2^2148) D.natAbs/\∀ mode:Int,0<=mode->mode<=4->mr (gV u V) (gV u D) mode=(rK mode false K t m,0):=by
 obtain⟨j,hj⟩:∃ j,j=2148:=⟨_,rfl⟩;rw[<-hj];obtain⟨Y,f,ho2,hY,hf0,hf1,hv2,Ad,F2⟩:=pU (V:=D) hu (by omega) hk bD;rw[decide_eq_false (by omega)] at ho2 F2;have hm2:mkS false Y f=some (false,Y,f):=lC F2
 by_cases h0:V=0
 · subst h0;refine⟨0,true,0,⟨by decide,by omega,fun _=>by rw[TK];simp,fun h=>(by cases h),fun h=>(by cases h),fun h=>(by cases h)⟩,fun mode hm0 mO=>?_⟩;unfold mr;rw[o6,ho2];show lN fC ⟨false,.bool false,0,0,false,.bool false,Y,f⟩ mode=_;unfold lN;rw[if_neg (by omega),if_pos (by rw[mX];show jU 0 false 0 Y false f=0;unfold jU;rw[if_neg (by unfold rO;simp;split <;> omega),hm2,eQ];simp[dX];omega),eQ,hm2];show(if false=true then((0,110):Nat×Int) else fC (uL 0 0 Y f) mode)=_;rw[if_neg (by decide),xy 0 Y f (by omega) Ad,Lx mode false 0 0 hm0 mO];rfl
 · obtain⟨X,e,ho,hX,he0,he1,hv,hbl,F⟩:=pU (V:=V) hu h0 hk bV;rw[decide_eq_false (by omega)] at ho F;have hm1:mkS false X e=some (false,X,e):=lC F;obtain⟨K,t,m,hL,hR⟩:=PL X e Y f hX (by omega) hbl Ad;refine⟨K,t,m,?_,fun mode hm0 mO=>?_⟩
   · refine hL.BP (by omega) ?_;unfold iQ gQ;rw[<-hv,<-hv2]
     have e1:X*2^(e-f+((2*1074:Nat):Int)).toNat*(Y*2^(f+(u:Int)).toNat)=X*Y*(2^((e-f+((2*1074:Nat):Int)).toNat+(f+(u:Int)).toNat)):=by
      rw[aL,om]
     have e2:X*2^(e+(u:Int)).toNat*2^j*(Y*2^(-(e-f+((2*1074:Nat):Int))).toNat)=X*Y*(2^((e+(u:Int)).toNat+j+(-(e-f+((2*1074:Nat):Int))).toNat)):=by
      rw[aL,aL,aM X,om]
     rw[e1,e2];congr 2;omega
   · unfold mr;rw[ho,ho2];show lN fC ⟨false,.bool false,X,e,false,.bool false,Y,f⟩ mode=_;unfold lN;rw[if_neg (by omega),if_pos (by rw[mX];show jU X false e Y false f=0;unfold jU;rw[if_neg (by unfold rO;simp;split <;> omega),hm1,hm2];simp[dX];omega),hm1,hm2];show(if false=true then((0,110):Nat×Int) else fC (uL X e Y f) mode)=_;rw[if_neg (by decide)];exact hR mode hm0 mO
theorem Ev(z:Nat)(hz:z<2^63):z ^^^ 2^63=2^63+z:=by
 apply Nat.eq_of_testBit_eq;intro i;rw[Nat.testBit_xor,Nat.testBit_two_pow];rcases nQ i 63 with h|h|h
 · rw[Nat.testBit_two_pow_add_gt h];simp[show ¬ 63=i by omega]
 · subst h;rw[Nat.testBit_two_pow_add_eq,zT hz];simp
 · have h1:z<2^i:=iJ hz (fq (by decide) (by omega));have h2:2^63+z<2^i:=iJ (show 2^63+z<2^64 by omega) (fq (by decide) (by omega));rw[zT h1,zT h2];simp[show ¬ 63=i by omega]
theorem Hm(y:Nat)(hy:y<18446744073709551616):Op.negFloat .f64 y=mP y:=by
 show y ^^^ 2^63=mP y;unfold mP
 by_cases h:9223372036854775808<=y
 · rw[if_pos h];obtain⟨z,hz⟩:=af (y-9223372036854775808);have e:y=z ^^^ 2^63:=by rw[Ev z (by omega)];omega
   rw[<-hz,e,Nat.xor_assoc,Nat.xor_self,Nat.xor_zero]
 · rw[if_neg h,Ev y (by omega)];omega
theorem ZO{P:Program}(w:World)(y:Nat)(hy:y<18446744073709551616):(Go.Op.unary .neg (.float .f64 y)).run P w=.ok (.float .f64 (mP y)) w:=by
 rw[<-Hm y hy];rfl
def zD(mode:Int):Int:=if mode=2 then 3 else if mode=3 then 2 else mode
theorem xV(mode:Int)(w:World):Ax 87 #[.int .i64 mode] w (.int .i64 (zD mode)):=by
 unfold zD
 by_cases h2:mode=2
 · subst h2;go_enter Tryz.func87,Tryz.ntmps87;exact Jx
 · have d2:(mode==2)=false:=by simp[h2]
   rw[if_neg h2]
   by_cases h3:mode=3
   · subst h3;go_enter Tryz.func87,Tryz.ntmps87;exact Jx
   · have d3:(mode==3)=false:=by simp[h3]
     rw[if_neg h3];go_enter Tryz.func87,Tryz.ntmps87;exact Jx
theorem VL{u m:Nat}{V:Int}(hu:u<=100000)(hm:m<=90000)(h:Bd m V):(rO (dN (gV u V)) (dX (gV u V))==0)=decide (V=0)/\decide (0<=rO (dN (gV u V)) (dX (gV u V)))=decide (0<=V):=by
 obtain⟨h1,h2⟩:=GK hu hm h;unfold rO
 by_cases h0:V=0
 · rw[if_pos (h1.2 h0)];subst h0;decide
 · rw[if_neg (fun q=>h0 (h1.1 q)),decide_eq_false h0]
   by_cases hn:V<0
   · rw[if_pos (h2.2 hn),decide_eq_false (by omega:¬ 0<=V)];decide
   · rw[if_neg (fun q=>hn (h2.1 q)),decide_eq_true (by omega:0<=V)];decide
noncomputable def VM (c q mode:Int):Nat×Int :=
 if 0<=c then mr (gV 4296 (c*c)) (gV 4296 q) mode
 else if (mr (gV 4296 (c*c)) (gV 4296 q) (zD mode)).2=0 then(mP (mr (gV 4296 (c*c)) (gV 4296 q) (zD mode)).1,0) else(0,(mr (gV 4296 (c*c)) (gV 4296 q) (zD mode)).2)
theorem QJ(x:Int):0<=x*x:=by
 rcases Int.le_total 0 x with h|h
 · exact Int.mul_nonneg h h
 · exact Int.mul_nonneg_of_nonpos_of_nonpos h h
theorem QK{mode:Int}(h:p9 mode=true):p9 (zD mode)=true:=by
 have:=xQ h;unfold zD p9
 split
 · decide
 · split
   · decide
   · simp;omega
theorem QL{c q mode:Int}{k:Nat}(hk:k<=90000)(hq:0<q)(b1:Bd k (c*c))(b2:Bd k q)(hm:p9 mode=true):(mr (gV 4296 (c*c)) (gV 4296 q) mode).2=0/\(mr (gV 4296 (c*c)) (gV 4296 q) mode).1<18446744073709551616:=by
 obtain⟨K,t,m,hL,hR⟩:=VK (u:=4296) (by decide) hk (QJ c) hq b1 b2;obtain⟨m0,m4⟩:=xQ hm;rw[hR mode m0 m4];refine⟨rfl,?_⟩;have:=hL.fin;simp only;unfold rK
 split
 · omega
 · split <;> omega
structure Ew (w v:World) (a b:Option Addr) (ca cb:Nat) (oC oQ:Option (Bool×Nat×Int)):Prop where
 c:Dk v w.heap.size (dN oC) (.slice a (ws (dX oC)).length ca) (dE oC)
 q:Dk v (w.heap.size+1) (dN oQ) (.slice b (ws (dX oQ)).length cb) (dE oQ)
 nc:Nt 0 v (.slice a (ws (dX oC)).length ca) (dX oC)
 nq:Nt 0 v (.slice b (ws (dX oQ)).length cb) (dX oQ)
 b:An w v
theorem Ew.below{w v u:World}{a b:Option Addr}{ca cb:Nat}{oC oQ:Option (Bool×Nat×Int)}(h:Ew w v a b ca cb oC oQ)(hb:An v u):Ew w u a b ca cb oC oQ :=
 ⟨h.c.below hb,h.q.below hb,h.nc.below hb,h.nq.below hb,h.b.trans (hb.mono h.b.size)⟩
theorem Ew.but{w v u:World}{a b:Option Addr}{ca cb g T:Nat}{oC oQ:Option (Bool×Nat×Int)}{L:List Value}(h:Ew w v a b ca cb oC oQ)(hb:But g v u)(hB:Bl v g T L)(hT:T≠91)(hg:w.heap.size+1<g):Ew w u a b ca cb oC oQ :=
 ⟨by unfold Dk;rw[hb.block _ h.c.lt (by omega)];exact h.c,by unfold Dk;rw[hb.block _ h.q.lt (by omega)];exact h.q,h.nc.off hb (h.nc.fJ hT hB),h.nq.off hb (h.nq.fJ hT hB),But.below h.b hb h.b.size (by omega)⟩
theorem uT (w:World) (a b:Option Addr) (ca cb:Nat) (oC oQ oP:Option (Bool×Nat×Int)) (mode sg mm:Int) (bg:Bool) (X:Nat) (z:Nat×Int) (hT:dH w) (FF:Aside (Fm oC/\Fm oQ/\Fm oP)) (EE:Aside (dY oC oC=oP))
 (HS:Hid (∀ (u:World) (p:Option Addr) (q:Nat),Nt 0 u (.slice p (ws (dX oC)).length q) (dX oC)->At 42 #[.agg #[.bool (dN oC),.slice p (ws (dX oC)).length q,.int .i64 (dE oC)]] u (.int .i64 sg))) (hsg:decide (0<=sg)=bg)
 (HM:Hid (∀ u:World,Ax 87 #[.int .i64 mode] u (.int .i64 mm)))
 (HR:Hid (∀ (u:World) (ap b:Option Addr) (cp cb:Nat),dH u->Nt 0 u (.slice ap (ws (dX oP)).length cp) (dX oP)->Nt 0 u (.slice b (ws (dX oQ)).length cb) (dX oQ)->At 53 #[.agg #[.bool (dN oP),.slice ap (ws (dX oP)).length cp,.int .i64 (dE oP),.bool (dN oQ),.slice b (ws (dX oQ)).length cb,.int .i64 (dE oQ)],.int .i64 (if bg then mode else mm)] u (.tuple #[.float .f64 X,.int .i64 0])))
 (hX:X<18446744073709551616) (hz:z=(if bg then X else mP X,0))
 (N1:Nt 0 w (.slice a (ws (dX oC)).length ca) (dX oC)) (N2:Nt 0 w (.slice b (ws (dX oQ)).length cb) (dX oQ)) :
 At 43 #[.agg #[.bool (dN oC),.slice a (ws (dX oC)).length ca,.int .i64 (dE oC)],.agg #[.bool (dN oQ),.slice b (ws (dX oQ)).length cb,.int .i64 (dE oQ)],.int .i64 mode] w (.tuple #[.float .f64 z.1,.int .i64 z.2]):=by
 subst hz;simp only;obtain⟨W,hW⟩:=af ((w.alloc (Obj.cells #[.bool (dN oC),.slice a (ws (dX oC)).length ca,.int .i64 (dE oC)] 37)).alloc (Obj.cells #[.bool (dN oQ),.slice b (ws (dX oQ)).length cb,.int .i64 (dE oQ)] 37))
 have H0:Aside (Ew w W a b ca cb oC oQ):=by
  have hbW:An w W:=by rw[hW];exact(ae _ _).trans ((ae _ _).mono (by simp))
  refine⟨?_,?_,N1.below hbW,N2.below hbW,hbW⟩
  · rw[hW];exact(Dk.new _ _ _ _).below (ae _ _)
  · have z1:=Dk.new (w.alloc (Obj.cells #[.bool (dN oC),.slice a (ws (dX oC)).length ca,.int .i64 (dE oC)] 37)) (dN oQ) (.slice b (ws (dX oQ)).length cb) (dE oQ);rw[dA] at z1;rw[hW];exact z1
 have HW:=ak hW;have HT:=ak hT;have HN:=hid (fun u:World=>ZO (P:=Tryz.prog) u X hX);clear hW hT N1 N2;go_enter Tryz.func43,Tryz.ntmps43
 go_upto_region 1 with fail
 rw[<-HW.o];clear HW
 go_cut [8] from 11 to 15 (fun q wx=>∃ (g8:Nat) (ap:Option Addr) (cp:Nat),q=.pointer (some ⟨g8,0,none⟩)/\Aside (Bl wx g8 73 [.bool (dN oP),.slice ap (ws (dX oP)).length cp,.int .i64 (dE oP),.bool (dN oQ),.slice b (ws (dX oQ)).length cb,.int .i64 (dE oQ)]/\Ew w wx a b ca cb oC oQ/\Nt 0 wx (.slice ap (ws (dX oP)).length cp) (dX oP)))
 case first =>
  have BD:=ak (H0.o.below (aB W.heap.size W).drew);have kS:Aside (W.drew.cell? ⟨w.heap.size,0,none⟩=some (.bool (dN oC))/\W.drew.cell? ⟨w.heap.size,1,none⟩=some (.slice a (ws (dX oC)).length ca)/\W.drew.cell? ⟨w.heap.size,2,none⟩=some (.int .i64 (dE oC))/\W.drew.cell? ⟨w.heap.size+1,0,none⟩=some (.bool (dN oQ))/\W.drew.cell? ⟨w.heap.size+1,1,none⟩=some (.slice b (ws (dX oQ)).length cb)/\W.drew.cell? ⟨w.heap.size+1,2,none⟩=some (.int .i64 (dE oQ))):=⟨BD.o.c.facts.1,BD.o.c.facts.2.1,BD.o.c.facts.2.2.1,BD.o.q.facts.1,BD.o.q.facts.2.1,BD.o.q.facts.2.2.1⟩;clear H0;refine dz (fun w'=>w'.cell? ⟨w.heap.size,0,none⟩=some (.bool (dN oC))/\w'.cell? ⟨w.heap.size,1,none⟩=some (.slice a (ws (dX oC)).length ca)/\w'.cell? ⟨w.heap.size,2,none⟩=some (.int .i64 (dE oC))/\w'.cell? ⟨w.heap.size+1,0,none⟩=some (.bool (dN oQ))/\w'.cell? ⟨w.heap.size+1,1,none⟩=some (.slice b (ws (dX oQ)).length cb)/\w'.cell? ⟨w.heap.size+1,2,none⟩=some (.int .i64 (dE oQ))) 6 (by kernel_rfl) ?_;obtain⟨Wd,hWd⟩:=af (W.drew);rw[<-hWd] at BD kS |-;clear hWd
  refine tk 0 [2,4] rfl kS.o ?_;try simp only[Act.put,sa,sb,sc]
  refine tk 1 [2,4] rfl kS.o ?_;try simp only[Act.put,sa,sb,sc]
  refine tk 3 [4] rfl kS.o ?_;try simp only[Act.put,sa,sb,sc]
  refine aU (i:=2) (j:=5) (by kernel_rfl) rfl rfl (fun K' hK=>?_) (fun K' hK=>?_)
  · skip;have C:=hid (gT FF.o.1 FF.o.1 FF.o.r2 BD.o.nc BD.o.nc (HT.o.belows BD.o.b) EE.o);go_simp;refine C.o.mono ?_;rintro r u1 ⟨hd,hb⟩;obtain⟨a1,c1,rfl,hN⟩:=hd.aD;have BD:=aJ (BD.o.below hb) hN;have kS:=ak (ck hb kS.o fun h=>ck2 hb h);clear hb hd hN C;dsimp only;refine hK.out _ _ (fun _=>kS.o) ?_;clear hK K'
    try simp only[Act.put,sa,sb,sc]
    refine aU (i:=4) (j:=5) (by kernel_rfl) rfl rfl (fun K' hK=>?_) (fun K' hK=>?_)
    · skip;go_simp;refine hK.out _ _ (fun _=>kS.o) ?_;clear hK K'
      try simp only[Act.put,sa,sb,sc]
      refine ah (i:=5) (by kernel_rfl) rfl (fun K' hK=>?_);go_simp;obtain⟨g2,hg2⟩:=af (u1.heap.size);obtain⟨V2,hV2⟩:=af (u1.alloc (Obj.cells #[.bool false,.slice none 0 0,.int .i64 0,.bool false,.slice none 0 0,.int .i64 0] 73));have hb:Below u1.heap.size u1 V2:=by rw[hV2];exact ae _ _
      have hZ:Bl V2 g2 73 [.bool false,.slice none 0 0,.int .i64 0,.bool false,.slice none 0 0,.int .i64 0]:=by rw[hV2,hg2];exact Bl.new _ 73 [.bool false,.slice none 0 0,.int .i64 0,.bool false,.slice none 0 0,.int .i64 0]
      have BD:=fE (BD.o.1.below hb) (BD.o.2.below hb) hZ (show w.heap.size+1<g2 by rw[hg2];exact BD.o.1.q.lt);have kS:=ak (ck hb kS.o fun h=>ck2 hb h);have HV:=(aJ hV2 hg2);clear hZ hb hV2 hg2;refine hK.out _ _ (fun _=>by rw[<-HV.o.1];exact kS.o) ?_;clear hK K';rw[<-HV.o.1,<-HV.o.2];clear HV
      try simp only[Act.put,sa,sb,sc]
      have z0:=BD.o.r2.1.cell 0 _ rfl;have dO:=BD.o.r2.1.frozen 0;have z1:=BD.o.r2.1.cell 1 _ rfl;have dP:=BD.o.r2.1.frozen 1;have z2:=BD.o.r2.1.cell 2 _ rfl;have dQ:=BD.o.r2.1.frozen 2;have z3:=BD.o.r2.1.cell 3 _ rfl;have Mw:=BD.o.r2.1.frozen 3;have z4:=BD.o.r2.1.cell 4 _ rfl;have Mx:=BD.o.r2.1.frozen 4;have z5:=BD.o.r2.1.cell 5 _ rfl;have MB:=BD.o.r2.1.frozen 5;have hbt:But g2 V2 _:=(((((((But.refl g2 V2).set 0 (.bool (dN oP))).set 1 (.slice a1 (ws (dX oP)).length c1)).set 2 (.int .i64 (dE oP))).set 3 (.bool (dN oQ))).set 4 (.slice b (ws (dX oQ)).length cb)).set 5 (.int .i64 (dE oQ)));have BE:=bO ((((((BD.o.r2.1.set 0 (.bool (dN oP))).set 1 (.slice a1 (ws (dX oP)).length c1)).set 2 (.int .i64 (dE oP))).set 3 (.bool (dN oQ))).set 4 (.slice b (ws (dX oQ)).length cb)).set 5 (.int .i64 (dE oQ))) (BD.o.1.but hbt BD.o.r2.1 (by decide) BD.o.r3) (BD.o.2.1.off hbt (BD.o.2.1.fJ (by decide) BD.o.r2.1));clear hbt;refine ah (i:=6) (by kernel_rfl) rfl (fun K' hK=>?_);go_simp;refine hK.out _ _ (fun h=>absurd h (by decide)) ?_;clear hK K' z0 z1 z2 z3 z4 z5 dO dP dQ Mw Mx MB kS BD;refine aH (by kernel_rfl) ?_ _;go_wp2_with fail
      go_meet
      case rel=>exact⟨g2,a1,c1,rfl,BE.o⟩
    · skip;go_simp;obtain⟨g3,hg3⟩:=af (u1.heap.size);obtain⟨V3,Ju⟩:=af (u1.alloc (Obj.cells #[.bool false,.slice none 0 0,.int .i64 0,.bool false,.slice none 0 0,.int .i64 0] 73));have hb:Below u1.heap.size u1 V3:=by rw[Ju];exact ae _ _
      have hZ:Bl V3 g3 73 [.bool false,.slice none 0 0,.int .i64 0,.bool false,.slice none 0 0,.int .i64 0]:=by rw[Ju,hg3];exact Bl.new _ 73 [.bool false,.slice none 0 0,.int .i64 0,.bool false,.slice none 0 0,.int .i64 0]
      have BD:=fE (BD.o.1.below hb) (BD.o.2.below hb) hZ (show w.heap.size+1<g3 by rw[hg3];exact BD.o.1.q.lt);have kS:=ak (ck hb kS.o fun h=>ck2 hb h);have HV:=(aJ Ju hg3);clear hZ hb Ju hg3;refine hK.out _ _ (fun _=>by rw[<-HV.o.1];exact kS.o) ?_;clear hK K';rw[<-HV.o.1,<-HV.o.2];clear HV
      try simp only[Act.put,sa,sb,sc]
      refine ah (i:=4) (by kernel_rfl) rfl (fun K' hK=>?_);go_simp;refine hK.out _ _ (fun _=>kS.o) ?_;clear hK K'
      try simp only[Act.put,sa,sb,sc]
      have z0:=BD.o.r2.1.cell 0 _ rfl;have dO:=BD.o.r2.1.frozen 0;have z1:=BD.o.r2.1.cell 1 _ rfl;have dP:=BD.o.r2.1.frozen 1;have z2:=BD.o.r2.1.cell 2 _ rfl;have dQ:=BD.o.r2.1.frozen 2;have z3:=BD.o.r2.1.cell 3 _ rfl;have Mw:=BD.o.r2.1.frozen 3;have z4:=BD.o.r2.1.cell 4 _ rfl;have Mx:=BD.o.r2.1.frozen 4;have z5:=BD.o.r2.1.cell 5 _ rfl;have MB:=BD.o.r2.1.frozen 5;have hbt:But g3 V3 _:=(((((((But.refl g3 V3).set 0 (.bool (dN oP))).set 1 (.slice a1 (ws (dX oP)).length c1)).set 2 (.int .i64 (dE oP))).set 3 (.bool (dN oQ))).set 4 (.slice b (ws (dX oQ)).length cb)).set 5 (.int .i64 (dE oQ)));have BE:=bO ((((((BD.o.r2.1.set 0 (.bool (dN oP))).set 1 (.slice a1 (ws (dX oP)).length c1)).set 2 (.int .i64 (dE oP))).set 3 (.bool (dN oQ))).set 4 (.slice b (ws (dX oQ)).length cb)).set 5 (.int .i64 (dE oQ))) (BD.o.1.but hbt BD.o.r2.1 (by decide) BD.o.r3) (BD.o.2.1.off hbt (BD.o.2.1.fJ (by decide) BD.o.r2.1));clear hbt;refine ah (i:=6) (by kernel_rfl) rfl (fun K' hK=>?_);go_simp;refine hK.out _ _ (fun h=>absurd h (by decide)) ?_;clear hK K' z0 z1 z2 z3 z4 z5 dO dP dQ Mw Mx MB kS BD;refine aH (by kernel_rfl) ?_ _;go_wp2_with fail
      go_meet
      case rel=>exact⟨g3,a1,c1,rfl,BE.o⟩
  · skip;go_simp;obtain⟨g4,hg4⟩:=af (Wd.heap.size);obtain⟨V4,su⟩:=af (Wd.alloc (Obj.cells #[.bool false,.slice none 0 0,.int .i64 0,.bool false,.slice none 0 0,.int .i64 0] 73));have hb:Below Wd.heap.size Wd V4:=by rw[su];exact ae _ _
    have hZ:Bl V4 g4 73 [.bool false,.slice none 0 0,.int .i64 0,.bool false,.slice none 0 0,.int .i64 0]:=by rw[su,hg4];exact Bl.new _ 73 [.bool false,.slice none 0 0,.int .i64 0,.bool false,.slice none 0 0,.int .i64 0]
    have BD:=bO (BD.o.below hb) hZ (show w.heap.size+1<g4 by rw[hg4];exact BD.o.q.lt);have kS:=ak (ck hb kS.o fun h=>ck2 hb h);have HV:=(aJ su hg4);clear hZ hb su hg4;refine hK.out _ _ (fun _=>by rw[<-HV.o.1];exact kS.o) ?_;clear hK K';rw[<-HV.o.1,<-HV.o.2];clear HV
    try simp only[Act.put,sa,sb,sc]
    refine ah (i:=2) (by kernel_rfl) rfl (fun K' hK=>?_);have C:=hid (gT FF.o.1 FF.o.1 FF.o.r2 BD.o.1.nc BD.o.1.nc (HT.o.belows BD.o.1.b) EE.o);go_simp;refine C.o.mono ?_;rintro r u5 ⟨hd,hb⟩;obtain⟨a5,c5,rfl,hN⟩:=hd.aD;have BD:=fE (BD.o.1.below hb) (BD.o.2.1.below hb BD.o.2.1.lt) BD.o.r2 hN;have kS:=ak (ck hb kS.o fun h=>ck2 hb h);clear hb hd hN C;dsimp only;refine hK.out _ _ (fun _=>kS.o) ?_;clear hK K'
    try simp only[Act.put,sa,sb,sc]
    refine ah (i:=4) (by kernel_rfl) rfl (fun K' hK=>?_);go_simp;refine hK.out _ _ (fun _=>kS.o) ?_;clear hK K'
    try simp only[Act.put,sa,sb,sc]
    have z0:=BD.o.2.1.cell 0 _ rfl;have dO:=BD.o.2.1.frozen 0;have z1:=BD.o.2.1.cell 1 _ rfl;have dP:=BD.o.2.1.frozen 1;have z2:=BD.o.2.1.cell 2 _ rfl;have dQ:=BD.o.2.1.frozen 2;have z3:=BD.o.2.1.cell 3 _ rfl;have Mw:=BD.o.2.1.frozen 3;have z4:=BD.o.2.1.cell 4 _ rfl;have Mx:=BD.o.2.1.frozen 4;have z5:=BD.o.2.1.cell 5 _ rfl;have MB:=BD.o.2.1.frozen 5;have hbt:But g4 u5 _:=(((((((But.refl g4 u5).set 0 (.bool (dN oP))).set 1 (.slice a5 (ws (dX oP)).length c5)).set 2 (.int .i64 (dE oP))).set 3 (.bool (dN oQ))).set 4 (.slice b (ws (dX oQ)).length cb)).set 5 (.int .i64 (dE oQ)));have BE:=bO ((((((BD.o.2.1.set 0 (.bool (dN oP))).set 1 (.slice a5 (ws (dX oP)).length c5)).set 2 (.int .i64 (dE oP))).set 3 (.bool (dN oQ))).set 4 (.slice b (ws (dX oQ)).length cb)).set 5 (.int .i64 (dE oQ))) (BD.o.1.but hbt BD.o.2.1 (by decide) BD.o.r2.1) (BD.o.r3.off hbt (BD.o.r3.fJ (by decide) BD.o.2.1));clear hbt;refine ah (i:=6) (by kernel_rfl) rfl (fun K' hK=>?_);go_simp;refine hK.out _ _ (fun h=>absurd h (by decide)) ?_;clear hK K' z0 z1 z2 z3 z4 z5 dO dP dQ Mw Mx MB kS BD;refine aH (by kernel_rfl) ?_ _;go_wp2_with fail
    go_meet
    case rel=>exact⟨g4,a5,c5,rfl,BE.o⟩
 obtain⟨g8,ap,cp,rfl,K1⟩:=hcut;obtain⟨U,hU⟩:=af wc;rw[<-hU] at K1 |-;clear hU H0;obtain⟨x0,x1,x2,bE,bF,bG⟩:=K1.o.2.1.c.facts;have C:=hid (HS.o U a ca K1.o.2.1.nc);go_wp2_with fail;refine C.o.mono ?_;rintro r v ⟨rfl,hb⟩;have K2:=bO (K1.o.1.below hb K1.o.1.lt) (K1.o.2.1.below hb) (K1.o.r2.below hb);clear hb C x0 x1 x2 bE bF bG K1 HS
 cases bg with
 | true =>
   simp only[if_true] at HR |-;have C:=hid (HR.o v ap b cp cb (HT.o.belows K2.o.2.1.b) K2.o.r2 K2.o.2.1.nq);have y0:=K2.o.1.cell 0 _ rfl;have y1:=K2.o.1.cell 1 _ rfl;have y2:=K2.o.1.cell 2 _ rfl;have y3:=K2.o.1.cell 3 _ rfl;have y4:=K2.o.1.cell 4 _ rfl;have y5:=K2.o.1.cell 5 _ rfl;go_wp2_with fail;refine C.o.mono ?_;rintro r v2 ⟨rfl,hb⟩;have K3:=ak (K2.o.2.1.b.trans (hb.mono K2.o.2.1.b.size));clear hb C y0 y1 y2 y3 y4 y5;go_wp2;exact aC (v:=.tuple #[.float .f64 X,.int .i64 0]) (by simp[results,Tryz.results43,go_sem]) rfl ⟨rfl,K3.o⟩
 | false =>
   simp only[fe,if_false] at HR |-;have BD:=bO (K2.o.1.below (aB v.heap.size v).drew K2.o.1.lt) (K2.o.2.1.below (aB v.heap.size v).drew) (K2.o.r2.below (aB v.heap.size v).drew);have kS:Aside (v.drew.cell? ⟨g8,0,none⟩=some (.bool (dN oP))/\v.drew.cell? ⟨g8,1,none⟩=some (.slice ap (ws (dX oP)).length cp)/\v.drew.cell? ⟨g8,2,none⟩=some (.int .i64 (dE oP))/\v.drew.cell? ⟨g8,3,none⟩=some (.bool (dN oQ))/\v.drew.cell? ⟨g8,4,none⟩=some (.slice b (ws (dX oQ)).length cb)/\v.drew.cell? ⟨g8,5,none⟩=some (.int .i64 (dE oQ))):=⟨BD.o.1.cell 0 _ rfl,BD.o.1.cell 1 _ rfl,BD.o.1.cell 2 _ rfl,BD.o.1.cell 3 _ rfl,BD.o.1.cell 4 _ rfl,BD.o.1.cell 5 _ rfl⟩;have C1:=hid (HM.o v.drew);have C2:=hid (HR.o v.drew ap b cp cb (HT.o.belows BD.o.2.1.b) BD.o.r2 BD.o.2.1.nq);clear K2;go_wp2_with fail
   go_region_held3 (fun w'=>w'.cell? ⟨g8,0,none⟩=some (.bool (dN oP))/\w'.cell? ⟨g8,1,none⟩=some (.slice ap (ws (dX oP)).length cp)/\w'.cell? ⟨g8,2,none⟩=some (.int .i64 (dE oP))/\w'.cell? ⟨g8,3,none⟩=some (.bool (dN oQ))/\w'.cell? ⟨g8,4,none⟩=some (.slice b (ws (dX oQ)).length cb)/\w'.cell? ⟨g8,5,none⟩=some (.int .i64 (dE oQ))) (with_reducible exact kS.o) (first
    | (go_at_call 87
       with_reducible refine C1.o.mono ?_
       rintro r v3 ⟨rfl,hv⟩;rw[hv]
       clear hv v3 C1)
    | (go_at_call 53
       with_reducible refine C2.o.mono ?_
       rintro r v4 ⟨rfl,hb⟩;have K3:=ak (BD.o.2.1.b.trans (hb.mono BD.o.2.1.b.size));have kS:=ak (ck hb kS.o fun h=>ck2 hb h)
       clear hb C2))
   have Ky:=HN.o;go_wp2;exact aC (v:=.tuple #[.float .f64 (mP X),.int .i64 0]) (by simp[results,Tryz.results43,go_sem]) rfl ⟨rfl,K3.o⟩
end
end Go.Proofs.YteginbngplldaaaGreatDoor
