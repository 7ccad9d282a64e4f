import Derived.Test.YtjppdacikihpdaaGreatDoorD8x
import Derived.Deep.Cut
import Derived.Test.YtjppdacikihpdaaGreatDoorBIeeex
import Derived.Test.YtjppdacikihpdaaGreatDoorS10x
import Derived.Test.YtjppdacikihpdaaGreatDoorM1x
import Derived.Laws.FloatArith
set_option linter.unusedVariables false
set_option linter.unusedSimpArgs false
set_option maxHeartbeats 16000000
set_option maxRecDepth 20000
namespace Go.Proofs.YtjppdacikihpdaaGreatDoor
section
open Go.RowKit
def Dk(w:World)(g:Nat)(n:Bool)(v:Value)(e:Int):Prop:=w.heap[g]?=some (.cells #[.bool n,v,.int .i64 e] 79 (0,0))
theorem Dk.lt{w:World}{g:Nat}{n:Bool}{v:Value}{e:Int}(h:Dk w g n v e):g<w.heap.size:=(eZ.1 h).1
theorem Qaw{P:Prop}(h:P:=by
 rw[hb.block g h.lt];exact h):P:=h
theorem Dk.below{w w':World}{g:Nat}{n:Bool}{v:Value}{e:Int}(h:Dk w g n v e)(hb:Below w.heap.size w w'):Dk w' g n v e:=by
 unfold Dk;exact Qaw
theorem Dk.alloc{w:World}{g:Nat}{n:Bool}{v:Value}{e:Int}(h:Dk w g n v e)(o:Obj):Dk (w.alloc o) g n v e:=h.below (ae w o)
theorem Dk.new(w:World)(n:Bool)(v:Value)(e:Int):Dk (w.alloc (.cells #[.bool n,v,.int .i64 e] 79)) w.heap.size n v e:=gU _ _
theorem Dk.facts{w:World}{g:Nat}{n:Bool}{v:Value}{e:Int}(h:Dk w g n v e) :
 w.cell? ⟨g,0,none⟩=some (.bool n)/\w.cell? ⟨g,1,none⟩=some v/\w.cell? ⟨g,2,none⟩=some (.int .i64 e)/\w.frozen? ⟨g,0,none⟩=false/\w.frozen? ⟨g,1,none⟩=false/\w.frozen? ⟨g,2,none⟩=false:=by
 unfold Dk at h;simp[World.cell?,World.frozen?,h]
abbrev dG(w:World)(g:Nat)(x y z:Value):World:=((w.setCell ⟨g,0,none⟩ x).setCell ⟨g,1,none⟩ y).setCell ⟨g,2,none⟩ z
theorem EC(w:World)(g:Nat)(x y z:Value):(dG w g x y z).heap.size=w.heap.size:=by simp[dG,World.setCell]
theorem Dk.set{w:World}{g:Nat}{n:Bool}{v:Value}{e:Int}(h:Dk w g n v e)(m:Bool)(u:Value)(f:Int):Dk (dG w g (.bool m) u (.int .i64 f)) g m u f:=by
 unfold Dk at h |-;simp[dG,World.setCell,gN,h]
theorem Dk.other{w:World}{g:Nat}{n:Bool}{v:Value}{e:Int}(h:Dk w g n v e)(g':Nat)(hg:g≠g')(x y z:Value):Dk (dG w g' x y z) g n v e:=by
 unfold Dk;rw[(oq g' w x y z).block g h.lt hg];exact h
theorem Fin.dG{lo m:Nat}{w0 w:World}{v:Value}{X:Nat}(H:Fin lo m w0 w v X)(g:Nat)(x y z:Value)(h1:lo<=g)(h2:g<m):Fin lo m w0 (dG w g x y z) v X:=((H.set g 0 x h1 h2).set g 1 y h1 h2).set g 2 z h1 h2
theorem Fin.below{lo m:Nat}{w0 w w':World}{v:Value}{X:Nat}(H:Fin lo m w0 w v X)(hb:Below w.heap.size w w'):Fin lo m w0 w' v X:=⟨H.nt.below hb,H.aC.trans (hb.mono H.size),dz H.size hb.size⟩
theorem Fin.drew{lo m:Nat}{w0 w:World}{v:Value}{X:Nat}(H:Fin lo m w0 w v X):Fin lo m w0 w.drew v X:=⟨H.nt,H.aC.drew,H.size⟩
theorem Fin.pair{lo m:Nat}{w0 w:World}{v v':Value}{X X':Nat}{n n':Bool}{e e':Int}{k:Value}(H:Fin lo m w0 w v X)(H':Fin lo m w0 w v' X')(h:lo<=m) :
 ∃ p q,Ending.returned (.tuple #[.agg #[.bool n,v,.int .i64 e],.agg #[.bool n',v',.int .i64 e'],k])=.returned (.tuple #[.agg #[.bool n,p,.int .i64 e],.agg #[.bool n',q,.int .i64 e'],k])/\Nt lo w p X/\Nt lo w q X'/\Below lo w0 w:=⟨v,v',rfl,H.nt.mono h,H'.nt.mono h,H.aC⟩
theorem zY(W:World)(g h:Nat)(n m:Bool)(v u:Value)(e f k:Int)(tmps:Array Value)(ht:tmps[4]?.getD undef=.pointer (some ⟨g,0,none⟩))(hs:tmps[5]?.getD undef=.pointer (some ⟨h,0,none⟩))(hk:tmps[6]?.getD undef=.int .i64 k)(D:Dk W g n v e)(E:Dk W h m u f) :
 (results Tryz.f80 tmps).run Tryz.prog W=.ok (.tuple #[.agg #[.bool n,v,.int .i64 e],.agg #[.bool m,u,.int .i64 f],.int .i64 k]) W:=by
 obtain⟨x0,x1,x2,dW,dY,dZ⟩:=D.facts;obtain⟨y0,y1,y2,dH,dI,dJ⟩:=E.facts;simp[results,Tryz.results80,ht,hs,hk,go_sem,x0,x1,x2,y0,y1,y2]
theorem ED {w:World}{a b:Option Addr}{l c k d:Nat}{xs ys:List Nat}(h1:Arg w a l c xs) (h2:Arg w b k d ys) (hT:gF w) (n m:Bool) (e f:Int) (he0:-9223372036854775808<=e) (he1:e<=9223372036854775807) (hf0:-9223372036854775808<=f) (hf1:f<=9223372036854775807)
 (n1 m1:Bool) (X Y:Nat) (e1 f1:Int) (hx:mkS n (val xs) e=some (n1,X,e1)) (hy:mkS m (val ys) f=some (m1,Y,f1)) :
 Calls Tryz.prog 80 #[.agg #[.bool n,.slice a l c,.int .i64 e],.agg #[.bool m,.slice b k d,.int .i64 f]] w fun r w' =>
  ∃ v u,r=.returned (.tuple #[.agg #[.bool n1,v,.int .i64 e1],.agg #[.bool m1,u,.int .i64 f1],.int .i64 0])/\Nt w.heap.size w' v X/\Nt w.heap.size w' u Y/\Below w.heap.size w w':=by
 obtain⟨W1,hW1⟩:=af ((((w.alloc (.cells #[.bool n,.slice a l c,.int .i64 e] 79)).alloc (.cells #[.bool m,.slice b k d,.int .i64 f] 79)).alloc (.cells #[.bool false,.slice none 0 0,.int .i64 0] 79)).alloc (.cells #[.bool false,.slice none 0 0,.int .i64 0] 79));have hB:Below w.heap.size w W1:=by rw[hW1];exact(((ae w _).alloc (by simp) _).alloc (by simp;omega) _).alloc (by simp;omega) _
 have hz1:W1.heap.size=w.heap.size+4:=by rw[hW1];simp
 have D1:Dk W1 (w.heap.size+1) m (.slice b k d) f:=by rw[hW1];have:=((Dk.new (w.alloc (.cells #[.bool n,.slice a l c,.int .i64 e] 79)) m (.slice b k d) f).alloc (.cells #[.bool false,.slice none 0 0,.int .i64 0] 79)).alloc (.cells #[.bool false,.slice none 0 0,.int .i64 0] 79);simpa using this
 have D2:Dk W1 (w.heap.size+1+1) false (.slice none 0 0) 0:=by rw[hW1];have:=(Dk.new ((w.alloc (.cells #[.bool n,.slice a l c,.int .i64 e] 79)).alloc (.cells #[.bool m,.slice b k d,.int .i64 f] 79)) false (.slice none 0 0) 0).alloc (.cells #[.bool false,.slice none 0 0,.int .i64 0] 79);simpa using this
 have D3:Dk W1 (w.heap.size+1+1+1) false (.slice none 0 0) 0:=by rw[hW1];have:=Dk.new (((w.alloc (.cells #[.bool n,.slice a l c,.int .i64 e] 79)).alloc (.cells #[.bool m,.slice b k d,.int .i64 f] 79)).alloc (.cells #[.bool false,.slice none 0 0,.int .i64 0] 79)) false (.slice none 0 0) 0;simpa using this
 have iZ:=mo (h1.below hB) (hT.belows hB) n e he0 he1;have jL:Hid (∀ u,Below w.heap.size w u->Calls Tryz.prog 128 #[.agg #[.bool m,.slice b k d,.int .i64 f]] u fun r w'=>bS u.heap.size w' r (mkS m (val ys) f)/\Below u.heap.size u w'):=fun u hu=>mo (h2.below hu) (hT.belows hu) m f hf0 hf1;have lX:(ws X).length<=8192:=by have:=aK n (val xs) e;rw[hx] at this;exact this
 have lY:(ws Y).length<=8192:=by have:=aK m (val ys) f;rw[hy] at this;exact this
 rw[hx] at iZ;rw[hy] at jL;simp only[bS,dN,dX,dE,vY,Option.isSome,Option.getD,if_true,dP,if_false] at iZ jL;have H1:=hid iZ;have SB:=(fM hB hz1 D1 D2 D3);clear iZ h1 h2 hT hx hy he0 he1 hf0 hf1 hB hz1 D1 D2 D3;go_enter Tryz.func80,Tryz.ntmps80;go_wp2_with fail;rw[<-hW1];clear hW1;refine H1.o.mono ?_;rintro r u1 ⟨⟨v,rfl,hN⟩,hb⟩;obtain⟨a1,c1,rfl,_⟩:=hN.arg (by omega);obtain⟨hB,hz1,D1,D2,D3⟩:=SB.o;have E1:=D1.below hb;have E2:=D2.below hb;have E3:=D3.below hb;obtain⟨p0,p1,p2,QN,QO,QP⟩:=E1.facts;obtain⟨q0,q1,q2,EF,EG,EH⟩:=E2.facts;have F1:Fin w.heap.size (w.heap.size+4) w u1 (.slice a1 (ws X).length c1) X:=⟨by rw[<-hz1];exact hN,hB.trans (hb.mono (by omega)),by have:=hb.size;omega⟩;obtain⟨U1,aP⟩:=af (dG u1 (w.heap.size+1+1) (.bool n1) (.slice a1 (ws X).length c1) (.int .i64 e1));have G1:Fin w.heap.size (w.heap.size+4) w U1 (.slice a1 (ws X).length c1) X:=by rw[aP];exact F1.dG _ _ _ _ (by omega) (by omega)
 have I2:Dk U1 (w.heap.size+1+1) n1 (.slice a1 (ws X).length c1) e1:=by rw[aP];exact E2.set _ _ _
 have I3:Dk U1 (w.heap.size+1+1+1) false (.slice none 0 0) 0:=by rw[aP];exact E3.other _ (by omega) _ _ _
 have I1:Dk U1 (w.heap.size+1) m (.slice b k d) f:=by rw[aP];exact E1.other _ (by omega) _ _ _
 have hsz1:U1.heap.size=u1.heap.size:=by rw[aP];exact EC _ _ _ _ _
 have H2:=hid (jL.o _ G1.aC);have S1:=(fG G1 I2 I3);obtain⟨i0,i1,i2,if0,if1,if2⟩:=I1.facts;have MC:w.heap.size+4<=U1.heap.size:=by rw[hsz1];have:=hb.size;omega
 clear hN hb F1 G1 H1 hB hz1 D1 D2 D3 E1 E2 E3 I2 I3 I1 SB hsz1;unfold dG at aP;go_wp2_with fail;rw[<-aP];clear aP;refine H2.o.mono ?_;rintro r u2 ⟨⟨v,rfl,hN⟩,hb⟩;obtain⟨a2,c2,rfl,_⟩:=hN.arg (by omega);obtain⟨G1,I2,I3⟩:=S1.o;have J2:=I2.below hb;have J3:=I3.below hb;obtain⟨U2,dA⟩:=af (dG u2 (w.heap.size+1+1+1) (.bool m1) (.slice a2 (ws Y).length c2) (.int .i64 f1));have K2:Dk U2 (w.heap.size+1+1) n1 (.slice a1 (ws X).length c1) e1:=by rw[dA];exact J2.other _ (by omega) _ _ _
 have K3:Dk U2 (w.heap.size+1+1+1) m1 (.slice a2 (ws Y).length c2) f1:=by rw[dA];exact J3.set _ _ _
 have Q1:=ah (show Fin w.heap.size (w.heap.size+4) w U2 (.slice a1 (ws X).length c1) X by rw[dA];exact(G1.below hb).dG _ _ _ _ (by omega) (by omega));have Q2:=ah (show Fin w.heap.size (w.heap.size+4) w U2 (.slice a2 (ws Y).length c2) Y by rw[dA];exact Fin.dG ⟨hN.mono MC,(G1.below hb).aC,(G1.below hb).size⟩ _ _ _ _ (by omega) (by omega));obtain⟨s0,s1,s2,zZ,z8,Aa⟩:=J3.facts;obtain⟨x0,x1,x2,dW,dY,dZ⟩:=K2.facts;obtain⟨y0,y1,y2,dH,dI,dJ⟩:=K3.facts;clear hN hb H2 S1 G1 I2 I3 J2 J3 K2 K3;unfold dG at dA;go_wp2;rw[<-dA];clear dA jL
 go_region
 all_goals (
  go_wp2;refine aB (v:=.tuple #[.agg #[.bool n1,.slice a1 (ws X).length c1,.int .i64 e1],.agg #[.bool m1,.slice a2 (ws Y).length c2,.int .i64 f1],.int .i64 0]) (by simp[results,Tryz.results80,go_sem,x0,x1,x2,y0,y1,y2]) rfl ?_;refine Fin.pair (m:=w.heap.size+4) ?_ ?_ (by omega)
  · repeat (with_reducible first | exact Q1.o | refine Fin.drew ?_ | refine Fin.alloc ?_ _ | refine Fin.set ?_ _ _ _ (by omega) (by omega))
  · repeat (with_reducible first | exact Q2.o | refine Fin.drew ?_ | refine Fin.alloc ?_ _ | refine Fin.set ?_ _ _ _ (by omega) (by omega)))
theorem xY {w:World}{a b:Option Addr}{l c k d:Nat}{xs ys:List Nat}(h1:Arg w a l c xs) (h2:Arg w b k d ys) (hT:gF w) (n m:Bool) (e f:Int) (he0:-9223372036854775808<=e) (he1:e<=9223372036854775807) (hf0:-9223372036854775808<=f) (hf1:f<=9223372036854775807)
 (hx:mkS n (val xs) e=none) :
 Calls Tryz.prog 80 #[.agg #[.bool n,.slice a l c,.int .i64 e],.agg #[.bool m,.slice b k d,.int .i64 f]] w fun r w' =>
  r=.returned (.tuple #[.agg #[.bool false,.slice none 0 0,.int .i64 0],.agg #[.bool false,.slice none 0 0,.int .i64 0],.int .i64 2])/\Below w.heap.size w w':=by
 obtain⟨W1,hW1⟩:=af ((((w.alloc (.cells #[.bool n,.slice a l c,.int .i64 e] 79)).alloc (.cells #[.bool m,.slice b k d,.int .i64 f] 79)).alloc (.cells #[.bool false,.slice none 0 0,.int .i64 0] 79)).alloc (.cells #[.bool false,.slice none 0 0,.int .i64 0] 79));have hB:Below w.heap.size w W1:=by rw[hW1];exact(((ae w _).alloc (by simp) _).alloc (by simp;omega) _).alloc (by simp;omega) _
 have hz1:W1.heap.size=w.heap.size+4:=by rw[hW1];simp
 have D1:Dk W1 (w.heap.size+1) m (.slice b k d) f:=by rw[hW1];have:=((Dk.new (w.alloc (.cells #[.bool n,.slice a l c,.int .i64 e] 79)) m (.slice b k d) f).alloc (.cells #[.bool false,.slice none 0 0,.int .i64 0] 79)).alloc (.cells #[.bool false,.slice none 0 0,.int .i64 0] 79);simpa using this
 have D2:Dk W1 (w.heap.size+1+1) false (.slice none 0 0) 0:=by rw[hW1];have:=(Dk.new ((w.alloc (.cells #[.bool n,.slice a l c,.int .i64 e] 79)).alloc (.cells #[.bool m,.slice b k d,.int .i64 f] 79)) false (.slice none 0 0) 0).alloc (.cells #[.bool false,.slice none 0 0,.int .i64 0] 79);simpa using this
 have D3:Dk W1 (w.heap.size+1+1+1) false (.slice none 0 0) 0:=by rw[hW1];have:=Dk.new (((w.alloc (.cells #[.bool n,.slice a l c,.int .i64 e] 79)).alloc (.cells #[.bool m,.slice b k d,.int .i64 f] 79)).alloc (.cells #[.bool false,.slice none 0 0,.int .i64 0] 79)) false (.slice none 0 0) 0;simpa using this
 have iZ:=mo (h1.below hB) (hT.belows hB) n e he0 he1;have l0:(ws 0).length=0:=by rw[bI];rfl
 rw[hx] at iZ;simp only[bS,dN,dX,dE,vY,Option.isSome,Option.getD,if_true,dP,if_false] at iZ;have H1:=hid iZ;have SB:=(fM hB hz1 D1 D2 D3);clear iZ h1 h2 hT hx he0 he1 hf0 hf1 hB hz1 D1 D2 D3;go_enter Tryz.func80,Tryz.ntmps80;go_wp2_with fail;rw[<-hW1];clear hW1;refine H1.o.mono ?_;rintro r u1 ⟨⟨v,rfl,hN⟩,hb⟩;obtain⟨a1,c1,rfl,_⟩:=hN.arg (by omega);obtain⟨hB,hz1,D1,D2,D3⟩:=SB.o;have E2:=D2.below hb;have E3:=D3.below hb;obtain⟨q0,q1,q2,EF,EG,EH⟩:=E2.facts;obtain⟨y0,y1,y2,dH,dI,dJ⟩:=E3.facts;have F1:=ah (show Fin w.heap.size (w.heap.size+4) w u1 (.slice none 0 0) 0 from⟨Nt.nil _ _,hB.trans (hb.mono (by omega)),by have:=hb.size;omega⟩);have SE:=(aZ E2 E3);clear hN hb H1 hB hz1 D1 D2 D3 E2 E3 SB;go_wp2;obtain⟨E2,E3⟩:=SE.o;refine aB (zY _ (w.heap.size+1+1) (w.heap.size+1+1+1) false false (.slice none 0 0) (.slice none 0 0) 0 0 2 _ rfl rfl rfl (((E2.set _ _ _).set _ _ _).other _ (by omega) _ _ _) (((E3.other _ (by omega) _ _ _).other _ (by omega) _ _ _).set _ _ _)) rfl ⟨rfl,?_⟩;refine Fin.aC (m:=w.heap.size+4) (v:=.slice none 0 0) (X:=0) ?_
 repeat (with_reducible first | exact F1.o | refine Fin.drew ?_ | refine Fin.alloc ?_ _ | refine Fin.set ?_ _ _ _ (by omega) (by omega))
theorem xZ {w:World}{a b:Option Addr}{l c k d:Nat}{xs ys:List Nat}(h1:Arg w a l c xs) (h2:Arg w b k d ys) (hT:gF w) (n m:Bool) (e f:Int) (he0:-9223372036854775808<=e) (he1:e<=9223372036854775807) (hf0:-9223372036854775808<=f) (hf1:f<=9223372036854775807)
 (n1:Bool) (X:Nat) (e1:Int) (hx:mkS n (val xs) e=some (n1,X,e1)) (hy:mkS m (val ys) f=none) :
 Calls Tryz.prog 80 #[.agg #[.bool n,.slice a l c,.int .i64 e],.agg #[.bool m,.slice b k d,.int .i64 f]] w fun r w' =>
  r=.returned (.tuple #[.agg #[.bool false,.slice none 0 0,.int .i64 0],.agg #[.bool false,.slice none 0 0,.int .i64 0],.int .i64 2])/\Below w.heap.size w w':=by
 obtain⟨W1,hW1⟩:=af ((((w.alloc (.cells #[.bool n,.slice a l c,.int .i64 e] 79)).alloc (.cells #[.bool m,.slice b k d,.int .i64 f] 79)).alloc (.cells #[.bool false,.slice none 0 0,.int .i64 0] 79)).alloc (.cells #[.bool false,.slice none 0 0,.int .i64 0] 79));have hB:Below w.heap.size w W1:=by rw[hW1];exact(((ae w _).alloc (by simp) _).alloc (by simp;omega) _).alloc (by simp;omega) _
 have hz1:W1.heap.size=w.heap.size+4:=by rw[hW1];simp
 have D1:Dk W1 (w.heap.size+1) m (.slice b k d) f:=by rw[hW1];have:=((Dk.new (w.alloc (.cells #[.bool n,.slice a l c,.int .i64 e] 79)) m (.slice b k d) f).alloc (.cells #[.bool false,.slice none 0 0,.int .i64 0] 79)).alloc (.cells #[.bool false,.slice none 0 0,.int .i64 0] 79);simpa using this
 have D2:Dk W1 (w.heap.size+1+1) false (.slice none 0 0) 0:=by rw[hW1];have:=(Dk.new ((w.alloc (.cells #[.bool n,.slice a l c,.int .i64 e] 79)).alloc (.cells #[.bool m,.slice b k d,.int .i64 f] 79)) false (.slice none 0 0) 0).alloc (.cells #[.bool false,.slice none 0 0,.int .i64 0] 79);simpa using this
 have D3:Dk W1 (w.heap.size+1+1+1) false (.slice none 0 0) 0:=by rw[hW1];have:=Dk.new (((w.alloc (.cells #[.bool n,.slice a l c,.int .i64 e] 79)).alloc (.cells #[.bool m,.slice b k d,.int .i64 f] 79)).alloc (.cells #[.bool false,.slice none 0 0,.int .i64 0] 79)) false (.slice none 0 0) 0;simpa using this
 have iZ:=mo (h1.below hB) (hT.belows hB) n e he0 he1;have jL:Hid (∀ u,Below w.heap.size w u->Calls Tryz.prog 128 #[.agg #[.bool m,.slice b k d,.int .i64 f]] u fun r w'=>bS u.heap.size w' r (mkS m (val ys) f)/\Below u.heap.size u w'):=fun u hu=>mo (h2.below hu) (hT.belows hu) m f hf0 hf1;have lX:(ws X).length<=8192:=by have:=aK n (val xs) e;rw[hx] at this;exact this
 have l0:(ws 0).length=0:=by rw[bI];rfl
 rw[hx] at iZ;rw[hy] at jL;simp only[bS,dN,dX,dE,vY,Option.isSome,Option.getD,if_true,dP,if_false] at iZ jL;have H1:=hid iZ;have SB:=(fM hB hz1 D1 D2 D3);clear iZ h1 h2 hT hx hy he0 he1 hf0 hf1 hB hz1 D1 D2 D3;go_enter Tryz.func80,Tryz.ntmps80;go_wp2_with fail;rw[<-hW1];clear hW1;refine H1.o.mono ?_;rintro r u1 ⟨⟨v,rfl,hN⟩,hb⟩;obtain⟨a1,c1,rfl,_⟩:=hN.arg (by omega);obtain⟨hB,hz1,D1,D2,D3⟩:=SB.o;have E1:=D1.below hb;have E2:=D2.below hb;have E3:=D3.below hb;obtain⟨p0,p1,p2,QN,QO,QP⟩:=E1.facts;obtain⟨q0,q1,q2,EF,EG,EH⟩:=E2.facts;have F1:Fin w.heap.size (w.heap.size+4) w u1 (.slice a1 (ws X).length c1) X:=⟨by rw[<-hz1];exact hN,hB.trans (hb.mono (by omega)),by have:=hb.size;omega⟩;obtain⟨U1,aP⟩:=af (dG u1 (w.heap.size+1+1) (.bool n1) (.slice a1 (ws X).length c1) (.int .i64 e1));have G1:Fin w.heap.size (w.heap.size+4) w U1 (.slice a1 (ws X).length c1) X:=by rw[aP];exact F1.dG _ _ _ _ (by omega) (by omega)
 have I2:Dk U1 (w.heap.size+1+1) n1 (.slice a1 (ws X).length c1) e1:=by rw[aP];exact E2.set _ _ _
 have I3:Dk U1 (w.heap.size+1+1+1) false (.slice none 0 0) 0:=by rw[aP];exact E3.other _ (by omega) _ _ _
 have I1:Dk U1 (w.heap.size+1) m (.slice b k d) f:=by rw[aP];exact E1.other _ (by omega) _ _ _
 have hsz1:U1.heap.size=u1.heap.size:=by rw[aP];exact EC _ _ _ _ _
 have H2:=hid (jL.o _ G1.aC);have S1:=(fG G1 I2 I3);obtain⟨i0,i1,i2,if0,if1,if2⟩:=I1.facts;have MC:w.heap.size+4<=U1.heap.size:=by rw[hsz1];have:=hb.size;omega
 clear hN hb F1 G1 H1 hB hz1 D1 D2 D3 E1 E2 E3 I2 I3 I1 SB hsz1;unfold dG at aP;go_wp2_with fail;rw[<-aP];clear aP;refine H2.o.mono ?_;rintro r u2 ⟨⟨v,rfl,hN⟩,hb⟩;obtain⟨a2,c2,rfl,_⟩:=hN.arg (by omega);obtain⟨G1,I2,I3⟩:=S1.o;have J2:=I2.below hb;have J3:=I3.below hb;have Q1:=ah (G1.below hb);obtain⟨s0,s1,s2,zZ,z8,Aa⟩:=J3.facts;obtain⟨x0,x1,x2,dW,dY,dZ⟩:=J2.facts;have SE:=(aZ J2 J3);clear hN hb H2 S1 G1 I2 I3 J2 J3;go_wp2;obtain⟨E2,E3⟩:=SE.o;refine aB (zY _ (w.heap.size+1+1) (w.heap.size+1+1+1) false false (.slice none 0 0) (.slice none 0 0) 0 0 2 _ rfl rfl rfl (((E2.other _ (by omega) _ _ _).set _ _ _).other _ (by omega) _ _ _) (((E3.set _ _ _).other _ (by omega) _ _ _).set _ _ _)) rfl ⟨rfl,?_⟩;refine Fin.aC (m:=w.heap.size+4) (v:=.slice a1 (ws X).length c1) (X:=X) ?_
 repeat (with_reducible first | exact Q1.o | refine Fin.drew ?_ | refine Fin.alloc ?_ _ | refine Fin.set ?_ _ _ _ (by omega) (by omega))
theorem jS(W:World)(g:Nat)(n:Bool)(v:Value)(e k:Int)(tmps:Array Value)(ht:tmps[4]?.getD undef=.pointer (some ⟨g,0,none⟩))(hk:tmps[5]?.getD undef=.int .i64 k)(D:Dk W g n v e) :
 (results Tryz.f51 tmps).run Tryz.prog W=.ok (.tuple #[.agg #[.bool n,v,.int .i64 e],.int .i64 k]) W:=by
 obtain⟨x0,x1,x2,dW,dY,dZ⟩:=D.facts;simp[results,Tryz.results51,ht,hk,go_sem,x0,x1,x2]
theorem aN(w:World)(n m:Bool)(v u:Value)(e f:Int)(W:World)(hW:W=((w.alloc (.cells #[.bool n,v,.int .i64 e] 79)).alloc (.cells #[.bool m,u,.int .i64 f] 79)).alloc (.cells #[.bool false,.slice none 0 0,.int .i64 0] 79)) :
 Below w.heap.size w W/\W.heap.size=w.heap.size+3/\Dk W w.heap.size n v e/\Dk W (w.heap.size+1) m u f/\Dk W (w.heap.size+1+1) false (.slice none 0 0) 0:=by
 subst hW;refine⟨((ae w _).alloc (by simp) _).alloc (by simp;omega) _,by simp,((Dk.new w n v e).alloc _).alloc _,?_,?_⟩
 · have:=(Dk.new (w.alloc (.cells #[.bool n,v,.int .i64 e] 79)) m u f).alloc (.cells #[.bool false,.slice none 0 0,.int .i64 0] 79);simpa using this
 · have:=Dk.new ((w.alloc (.cells #[.bool n,v,.int .i64 e] 79)).alloc (.cells #[.bool m,u,.int .i64 f] 79)) false (.slice none 0 0) 0;simpa using this
theorem js{P:Prop}(h:P:=by
 refine Fin.aC (m:=w.heap.size+3) (v:=.slice none 0 0) (X:=0) ?_
 repeat (with_reducible first | exact F1.o | refine Fin.drew ?_ | refine Fin.alloc ?_ _ | refine Fin.set ?_ _ _ _ (by omega) (by omega))):P:=h
theorem Kn{w:World}{a b:Option Addr}{l c k d:Nat}(n m:Bool)(e f:Int)(kE:Hid (∀ u,Below w.heap.size w u->Calls Tryz.prog 80 #[.agg #[.bool n,.slice a l c,.int .i64 e],.agg #[.bool m,.slice b k d,.int .i64 f]] u fun r w'=>r=.returned (.tuple #[.agg #[.bool false,.slice none 0 0,.int .i64 0],.agg #[.bool false,.slice none 0 0,.int .i64 0],.int .i64 2])/\Below u.heap.size u w')):Calls Tryz.prog 51 #[.agg #[.bool n,.slice a l c,.int .i64 e],.agg #[.bool m,.slice b k d,.int .i64 f]] w fun r w'=>r=.returned (.tuple #[.agg #[.bool false,.slice none 0 0,.int .i64 0],.int .i64 2])/\Below w.heap.size w w':=by
 obtain⟨W1,hW1⟩:=af (((w.alloc (.cells #[.bool n,.slice a l c,.int .i64 e] 79)).alloc (.cells #[.bool m,.slice b k d,.int .i64 f] 79)).alloc (.cells #[.bool false,.slice none 0 0,.int .i64 0] 79));obtain⟨hB,hz1,DA,DB,DR⟩:=aN w n m (.slice a l c) (.slice b k d) e f W1 hW1;have H1:=hid (kE.o W1 hB);have SB:=(fM hB hz1 DA DB DR);clear hB hz1 DA DB DR kE;go_enter Tryz.func51,Tryz.ntmps51;go_wp2_with fail;rw[<-hW1];clear hW1;refine H1.o.mono ?_;rintro r u1 ⟨rfl,hb⟩;obtain⟨hB,hz1,DA,DB,DR⟩:=SB.o;have EA:=DA.below hb;have EB:=DB.below hb;have ER:=DR.below hb;obtain⟨x0,x1,x2,dW,dY,dZ⟩:=EA.facts;obtain⟨y0,y1,y2,dH,dI,dJ⟩:=EB.facts;obtain⟨r0,r1,r2,fQ,fT,fU⟩:=ER.facts;have F1:=ah (show Fin w.heap.size (w.heap.size+3) w u1 (.slice none 0 0) 0 from⟨Nt.nil _ _,hB.trans (hb.mono (by omega)),by have:=hb.size;omega⟩);have SE:=ah ER;clear hb H1 hB hz1 DA DB DR EA EB ER SB;go_wp2;refine aB (jS _ (w.heap.size+1+1) false (.slice none 0 0) 0 2 _ rfl rfl (((SE.o.other _ (by omega) _ _ _).other _ (by omega) _ _ _).set _ _ _)) rfl ⟨rfl,?_⟩;exact js
theorem QQ {w:World}{a b:Option Addr}{l c k d:Nat}(n m:Bool) (e f:Int) (n1 m1:Bool) (X Y:Nat) (e1 f1:Int) (lX:(ws X).length<=8192) (lY:(ws Y).length<=8192) (hX:(ws X).length=0)
 (kE:Hid (∀ u,Below w.heap.size w u->Calls Tryz.prog 80 #[.agg #[.bool n,.slice a l c,.int .i64 e],.agg #[.bool m,.slice b k d,.int .i64 f]] u fun r w'=>∃ v v',r=.returned (.tuple #[.agg #[.bool n1,v,.int .i64 e1],.agg #[.bool m1,v',.int .i64 f1],.int .i64 0])/\Nt u.heap.size w' v X/\Nt u.heap.size w' v' Y/\Below u.heap.size u w')):Calls Tryz.prog 51 #[.agg #[.bool n,.slice a l c,.int .i64 e],.agg #[.bool m,.slice b k d,.int .i64 f]] w fun r w'=>bS w.heap.size w' r (some (m1,Y,f1))/\Below w.heap.size w w':=by
 obtain⟨W1,hW1⟩:=af (((w.alloc (.cells #[.bool n,.slice a l c,.int .i64 e] 79)).alloc (.cells #[.bool m,.slice b k d,.int .i64 f] 79)).alloc (.cells #[.bool false,.slice none 0 0,.int .i64 0] 79));obtain⟨hB,hz1,DA,DB,DR⟩:=aN w n m (.slice a l c) (.slice b k d) e f W1 hW1;have H1:=hid (kE.o W1 hB);have SB:=(fM hB hz1 DA DB DR);clear hB hz1 DA DB DR kE;go_enter Tryz.func51,Tryz.ntmps51;go_wp2_with fail;rw[<-hW1];clear hW1;refine H1.o.mono ?_;rintro r u1 ⟨v,v',rfl,hN,hM,hb⟩;obtain⟨a1,c1,rfl,_⟩:=hN.arg (by omega);obtain⟨a2,c2,rfl,_⟩:=hM.arg (by omega);obtain⟨hB,hz1,DA,DB,DR⟩:=SB.o;have EA:=DA.below hb;have EB:=DB.below hb;have ER:=DR.below hb;obtain⟨x0,x1,x2,dW,dY,dZ⟩:=EA.facts;obtain⟨y0,y1,y2,dH,dI,dJ⟩:=EB.facts;obtain⟨r0,r1,r2,fQ,fT,fU⟩:=ER.facts;have FX:=ah (show Fin w.heap.size (w.heap.size+3) w u1 (.slice a1 (ws X).length c1) X from⟨by rw[<-hz1];exact hN,hB.trans (hb.mono (by omega)),by have:=hb.size;omega⟩);have FY:=ah (show Fin w.heap.size (w.heap.size+3) w u1 (.slice a2 (ws Y).length c2) Y from⟨by rw[<-hz1];exact hM,hB.trans (hb.mono (by omega)),by have:=hb.size;omega⟩);have SE:=(fG EA EB ER);clear hN hM hb H1 hB hz1 DA DB DR EA EB ER SB
 try rw[hX]
 go_wp2;refine aB (jS _ (w.heap.size+1+1) m1 (.slice a2 (ws Y).length c2) f1 0 _ rfl rfl (((SE.o.r2.other _ (by omega) _ _ _).other _ (by omega) _ _ _).set _ _ _)) rfl ?_;refine Fin.jw (m:=w.heap.size+3) ?_ (by omega)
 repeat (with_reducible first | exact FY.o | refine Fin.drew ?_ | refine Fin.alloc ?_ _ | refine Fin.set ?_ _ _ _ (by omega) (by omega))
 exact FY.o
theorem MJ {w:World}{a b:Option Addr}{l c k d:Nat}(n m:Bool) (e f:Int) (n1 m1:Bool) (X Y:Nat) (e1 f1:Int) (lX:(ws X).length<=8192) (lY:(ws Y).length<=8192) (hX:((((ws X).length:Nat):Int)==0)=false) (hY:(ws Y).length=0)
 (kE:Hid (∀ u,Below w.heap.size w u->Calls Tryz.prog 80 #[.agg #[.bool n,.slice a l c,.int .i64 e],.agg #[.bool m,.slice b k d,.int .i64 f]] u fun r w'=>∃ v v',r=.returned (.tuple #[.agg #[.bool n1,v,.int .i64 e1],.agg #[.bool m1,v',.int .i64 f1],.int .i64 0])/\Nt u.heap.size w' v X/\Nt u.heap.size w' v' Y/\Below u.heap.size u w')):Calls Tryz.prog 51 #[.agg #[.bool n,.slice a l c,.int .i64 e],.agg #[.bool m,.slice b k d,.int .i64 f]] w fun r w'=>bS w.heap.size w' r (some (n1,X,e1))/\Below w.heap.size w w':=by
 obtain⟨W1,hW1⟩:=af (((w.alloc (.cells #[.bool n,.slice a l c,.int .i64 e] 79)).alloc (.cells #[.bool m,.slice b k d,.int .i64 f] 79)).alloc (.cells #[.bool false,.slice none 0 0,.int .i64 0] 79));obtain⟨hB,hz1,DA,DB,DR⟩:=aN w n m (.slice a l c) (.slice b k d) e f W1 hW1;have H1:=hid (kE.o W1 hB);have SB:=(fM hB hz1 DA DB DR);clear hB hz1 DA DB DR kE;go_enter Tryz.func51,Tryz.ntmps51;go_wp2_with fail;rw[<-hW1];clear hW1;refine H1.o.mono ?_;rintro r u1 ⟨v,v',rfl,hN,hM,hb⟩;obtain⟨a1,c1,rfl,_⟩:=hN.arg (by omega);obtain⟨a2,c2,rfl,_⟩:=hM.arg (by omega);obtain⟨hB,hz1,DA,DB,DR⟩:=SB.o;have EA:=DA.below hb;have EB:=DB.below hb;have ER:=DR.below hb;obtain⟨x0,x1,x2,dW,dY,dZ⟩:=EA.facts;obtain⟨y0,y1,y2,dH,dI,dJ⟩:=EB.facts;obtain⟨r0,r1,r2,fQ,fT,fU⟩:=ER.facts;have FX:=ah (show Fin w.heap.size (w.heap.size+3) w u1 (.slice a1 (ws X).length c1) X from⟨by rw[<-hz1];exact hN,hB.trans (hb.mono (by omega)),by have:=hb.size;omega⟩);have FY:=ah (show Fin w.heap.size (w.heap.size+3) w u1 (.slice a2 (ws Y).length c2) Y from⟨by rw[<-hz1];exact hM,hB.trans (hb.mono (by omega)),by have:=hb.size;omega⟩);have SE:=(fG EA EB ER);clear hN hM hb H1 hB hz1 DA DB DR EA EB ER SB
 try rw[hX]
 go_wp2;refine aB (jS _ (w.heap.size+1+1) n1 (.slice a1 (ws X).length c1) e1 0 _ rfl rfl (((SE.o.r2.other _ (by omega) _ _ _).other _ (by omega) _ _ _).set _ _ _)) rfl ?_;refine Fin.jw (m:=w.heap.size+3) ?_ (by omega)
 repeat (with_reducible first | exact FX.o | refine Fin.drew ?_ | refine Fin.alloc ?_ _ | refine Fin.set ?_ _ _ _ (by omega) (by omega))
 exact FX.o
theorem ML {w:World}{a b:Option Addr}{l c k d:Nat}(n m:Bool) (e f:Int) (n1 m1:Bool) (X Y:Nat) (e1 f1:Int) (lX:(ws X).length<=8192) (lY:(ws Y).length<=8192) (hX:((((ws X).length:Nat):Int)==0)=false) (hY:((((ws Y).length:Nat):Int)==0)=false) (hlt:decide (e1<f1)=false) (MN:-1048576<=e1) (MO:e1<=1048576) (MR:-1048576<=f1) (MU:f1<=1048576)
 (kE:Hid (∀ u,Below w.heap.size w u->Calls Tryz.prog 80 #[.agg #[.bool n,.slice a l c,.int .i64 e],.agg #[.bool m,.slice b k d,.int .i64 f]] u fun r w'=>∃ v v',r=.returned (.tuple #[.agg #[.bool n1,v,.int .i64 e1],.agg #[.bool m1,v',.int .i64 f1],.int .i64 0])/\Nt u.heap.size w' v X/\Nt u.heap.size w' v' Y/\Below u.heap.size u w'))
 (x8:Hid (∀ (u:World) (p:Option Addr) (q:Nat),Below w.heap.size w u->Arg u p (ws X).length q (ws X)->Calls Tryz.prog 81 #[.slice p (ws X).length q,.int .i64 (e1-f1)] u fun r w'=>∃ v,r=.returned (.tuple #[v,.int .i64 2])/\Nt u.heap.size w' v 0/\Below u.heap.size u w')):Calls Tryz.prog 51 #[.agg #[.bool n,.slice a l c,.int .i64 e],.agg #[.bool m,.slice b k d,.int .i64 f]] w fun r w'=>r=.returned (.tuple #[.agg #[.bool false,.slice none 0 0,.int .i64 0],.int .i64 2])/\Below w.heap.size w w':=by
 have l0:(ws 0).length=0:=by rw[bI];rfl
 obtain⟨W1,hW1⟩:=af (((w.alloc (.cells #[.bool n,.slice a l c,.int .i64 e] 79)).alloc (.cells #[.bool m,.slice b k d,.int .i64 f] 79)).alloc (.cells #[.bool false,.slice none 0 0,.int .i64 0] 79));obtain⟨hB,hz1,DA,DB,DR⟩:=aN w n m (.slice a l c) (.slice b k d) e f W1 hW1;have H1:=hid (kE.o W1 hB);have SB:=(fM hB hz1 DA DB DR);clear hB hz1 DA DB DR kE;go_enter Tryz.func51,Tryz.ntmps51;go_wp2_with fail;rw[<-hW1];clear hW1;refine H1.o.mono ?_;rintro r u1 ⟨v,v',rfl,hN,hM,hb⟩;obtain⟨a1,c1,rfl,_⟩:=hN.arg (by omega);obtain⟨a2,c2,rfl,_⟩:=hM.arg (by omega);obtain⟨hB,hz1,DA,DB,DR⟩:=SB.o;have EA:=DA.below hb;have EB:=DB.below hb;have ER:=DR.below hb;obtain⟨x0,x1,x2,dW,dY,dZ⟩:=EA.facts;obtain⟨y0,y1,y2,dH,dI,dJ⟩:=EB.facts;obtain⟨r0,r1,r2,fQ,fT,fU⟩:=ER.facts;have FX:=ah (show Fin w.heap.size (w.heap.size+3) w u1 (.slice a1 (ws X).length c1) X from⟨by rw[<-hz1];exact hN,hB.trans (hb.mono (by omega)),by have:=hb.size;omega⟩);have FY:=ah (show Fin w.heap.size (w.heap.size+3) w u1 (.slice a2 (ws Y).length c2) Y from⟨by rw[<-hz1];exact hM,hB.trans (hb.mono (by omega)),by have:=hb.size;omega⟩);have SE:=(fG EA EB ER);clear hN hM hb H1 hB hz1 DA DB DR EA EB ER SB;obtain⟨EA,EB,ER⟩:=SE.o;obtain⟨U1,aP⟩:=af (dG (dG u1 w.heap.size (.bool n1) (.slice a1 (ws X).length c1) (.int .i64 e1)) (w.heap.size+1) (.bool m1) (.slice a2 (ws Y).length c2) (.int .i64 f1));have IA:Dk U1 w.heap.size n1 (.slice a1 (ws X).length c1) e1:=by rw[aP];exact((EA.set _ _ _).other _ (by omega) _ _ _)
 have IB:Dk U1 (w.heap.size+1) m1 (.slice a2 (ws Y).length c2) f1:=by rw[aP];exact((EB.other _ (by omega) _ _ _).set _ _ _)
 have IR:Dk U1 (w.heap.size+1+1) false (.slice none 0 0) 0:=by rw[aP];exact((ER.other _ (by omega) _ _ _).other _ (by omega) _ _ _)
 have GX:Fin w.heap.size (w.heap.size+3) w U1 (.slice a1 (ws X).length c1) X:=by rw[aP];exact(Fin.dG (Fin.dG FX.o _ _ _ _ (by omega) (by omega)) _ _ _ _ (by omega) (by omega))
 have GY:Fin w.heap.size (w.heap.size+3) w U1 (.slice a2 (ws Y).length c2) Y:=by rw[aP];exact(Fin.dG (Fin.dG FY.o _ _ _ _ (by omega) (by omega)) _ _ _ _ (by omega) (by omega))
 have H2:=hid (x8.o U1 a1 c1 GX.aC (GX.nt.bC (by omega)).2);have S1:=(fM IA IB IR GX GY);have YI:w.heap.size+3<=U1.heap.size:=by have:=IR.lt;omega
 clear EA EB ER IA IB IR GX GY SE x8;unfold dG at aP;go_wp2_with fail;rw[<-aP];clear aP x0 x1 x2 dW dY dZ y0 y1 y2 dH dI dJ r0 r1 r2 fQ fT fU;refine H2.o.mono ?_;rintro r u2 ⟨v,rfl,hN,hb⟩;obtain⟨a3,c3,rfl,_⟩:=hN.arg (by omega);obtain⟨IA,IB,IR,GX,GY⟩:=S1.o;obtain⟨x0,x1,x2,dW,dY,dZ⟩:=(IA.below hb).facts;obtain⟨y0,y1,y2,dH,dI,dJ⟩:=(IB.below hb).facts;obtain⟨r0,r1,r2,fQ,fT,fU⟩:=(IR.below hb).facts;have S2:=(aZ (IR.below hb) ((GX.below hb)));clear hN hb H2 S1 IA IB IR GX GY;go_wp2;refine aB (jS _ (w.heap.size+1+1) false (.slice none 0 0) 0 2 _ rfl rfl (S2.o.1.set _ _ _)) rfl ⟨rfl,?_⟩;refine Fin.aC (m:=w.heap.size+3) (v:=.slice a1 (ws X).length c1) (X:=X) ?_
 repeat (with_reducible first | exact S2.o.2 | refine Fin.drew ?_ | refine Fin.alloc ?_ _ | refine Fin.set ?_ _ _ _ (by omega) (by omega))
theorem QS {w:World}{a b:Option Addr}{l c k d:Nat}(n m:Bool) (e f:Int) (n1 m1:Bool) (X Y:Nat) (e1 f1:Int) (lX:(ws X).length<=8192) (lY:(ws Y).length<=8192) (hX:((((ws X).length:Nat):Int)==0)=false) (hY:((((ws Y).length:Nat):Int)==0)=false) (hlt:decide (e1<f1)=false) (MN:-1048576<=e1) (MO:e1<=1048576) (MR:-1048576<=f1) (MU:f1<=1048576)
 (kE:Hid (∀ u,Below w.heap.size w u->Calls Tryz.prog 80 #[.agg #[.bool n,.slice a l c,.int .i64 e],.agg #[.bool m,.slice b k d,.int .i64 f]] u fun r w'=>∃ v v',r=.returned (.tuple #[.agg #[.bool n1,v,.int .i64 e1],.agg #[.bool m1,v',.int .i64 f1],.int .i64 0])/\Nt u.heap.size w' v X/\Nt u.heap.size w' v' Y/\Below u.heap.size u w')) (hs:(n1==m1)=true) (L:Nat) (lL:(ws L).length<=8192) (dn:Bool) (V:Nat) (de er:Int) (lV:(ws V).length<=8192)
 (x8:Hid (∀ (u:World) (p:Option Addr) (q:Nat),Below w.heap.size w u->Arg u p (ws X).length q (ws X)->Calls Tryz.prog 81 #[.slice p (ws X).length q,.int .i64 (e1-f1)] u fun r w'=>∃ v,r=.returned (.tuple #[v,.int .i64 0])/\Nt u.heap.size w' v L/\Below u.heap.size u w'))
 (HT:Hid (∀ (u:World) (p q:Option Addr) (s t:Nat),Below w.heap.size w u->Arg u p (ws L).length s (ws L)->Arg u q (ws Y).length t (ws Y)->Calls Tryz.prog 82 #[.bool n1,.slice p (ws L).length s,.slice q (ws Y).length t,.int .i64 f1] u fun r w'=>(∃ v,r=.returned (.tuple #[.agg #[.bool dn,v,.int .i64 de],.int .i64 er])/\Nt u.heap.size w' v V)/\Below u.heap.size u w')):Calls Tryz.prog 51 #[.agg #[.bool n,.slice a l c,.int .i64 e],.agg #[.bool m,.slice b k d,.int .i64 f]] w fun r w'=>(∃ v,r=.returned (.tuple #[.agg #[.bool dn,v,.int .i64 de],.int .i64 er])/\Nt w.heap.size w' v V)/\Below w.heap.size w w':=by
 obtain⟨W1,hW1⟩:=af (((w.alloc (.cells #[.bool n,.slice a l c,.int .i64 e] 79)).alloc (.cells #[.bool m,.slice b k d,.int .i64 f] 79)).alloc (.cells #[.bool false,.slice none 0 0,.int .i64 0] 79));obtain⟨hB,hz1,DA,DB,DR⟩:=aN w n m (.slice a l c) (.slice b k d) e f W1 hW1;have H1:=hid (kE.o W1 hB);have SB:=(fM hB hz1 DA DB DR);clear hB hz1 DA DB DR kE;go_enter Tryz.func51,Tryz.ntmps51;go_wp2_with fail;rw[<-hW1];clear hW1;refine H1.o.mono ?_;rintro r u1 ⟨v,v',rfl,hN,hM,hb⟩;obtain⟨a1,c1,rfl,_⟩:=hN.arg (by omega);obtain⟨a2,c2,rfl,_⟩:=hM.arg (by omega);obtain⟨hB,hz1,DA,DB,DR⟩:=SB.o;have EA:=DA.below hb;have EB:=DB.below hb;have ER:=DR.below hb;obtain⟨x0,x1,x2,dW,dY,dZ⟩:=EA.facts;obtain⟨y0,y1,y2,dH,dI,dJ⟩:=EB.facts;obtain⟨r0,r1,r2,fQ,fT,fU⟩:=ER.facts;have FX:=ah (show Fin w.heap.size (w.heap.size+3) w u1 (.slice a1 (ws X).length c1) X from⟨by rw[<-hz1];exact hN,hB.trans (hb.mono (by omega)),by have:=hb.size;omega⟩);have FY:=ah (show Fin w.heap.size (w.heap.size+3) w u1 (.slice a2 (ws Y).length c2) Y from⟨by rw[<-hz1];exact hM,hB.trans (hb.mono (by omega)),by have:=hb.size;omega⟩);have SE:=(fG EA EB ER);clear hN hM hb H1 hB hz1 DA DB DR EA EB ER SB;obtain⟨EA,EB,ER⟩:=SE.o;obtain⟨U1,aP⟩:=af (dG (dG u1 w.heap.size (.bool n1) (.slice a1 (ws X).length c1) (.int .i64 e1)) (w.heap.size+1) (.bool m1) (.slice a2 (ws Y).length c2) (.int .i64 f1));have IA:Dk U1 w.heap.size n1 (.slice a1 (ws X).length c1) e1:=by rw[aP];exact((EA.set _ _ _).other _ (by omega) _ _ _)
 have IB:Dk U1 (w.heap.size+1) m1 (.slice a2 (ws Y).length c2) f1:=by rw[aP];exact((EB.other _ (by omega) _ _ _).set _ _ _)
 have IR:Dk U1 (w.heap.size+1+1) false (.slice none 0 0) 0:=by rw[aP];exact((ER.other _ (by omega) _ _ _).other _ (by omega) _ _ _)
 have GX:Fin w.heap.size (w.heap.size+3) w U1 (.slice a1 (ws X).length c1) X:=by rw[aP];exact(Fin.dG (Fin.dG FX.o _ _ _ _ (by omega) (by omega)) _ _ _ _ (by omega) (by omega))
 have GY:Fin w.heap.size (w.heap.size+3) w U1 (.slice a2 (ws Y).length c2) Y:=by rw[aP];exact(Fin.dG (Fin.dG FY.o _ _ _ _ (by omega) (by omega)) _ _ _ _ (by omega) (by omega))
 have H2:=hid (x8.o U1 a1 c1 GX.aC (GX.nt.bC (by omega)).2);have S1:=(fM IA IB IR GX GY);have YI:w.heap.size+3<=U1.heap.size:=by have:=IR.lt;omega
 clear EA EB ER IA IB IR GX GY SE x8;unfold dG at aP;go_wp2_with fail;rw[<-aP];clear aP x0 x1 x2 dW dY dZ y0 y1 y2 dH dI dJ r0 r1 r2 fQ fT fU;refine H2.o.mono ?_;rintro r u2 ⟨v,rfl,hN,hb⟩;obtain⟨a3,c3,rfl,_⟩:=hN.arg (by omega);obtain⟨IA,IB,IR,GX,GY⟩:=S1.o;obtain⟨x0,x1,x2,dW,dY,dZ⟩:=(IA.below hb).facts;obtain⟨y0,y1,y2,dH,dI,dJ⟩:=(IB.below hb).facts;obtain⟨r0,r1,r2,fQ,fT,fU⟩:=(IR.below hb).facts;have H3:=hid (HT.o u2 a3 a2 c3 c2 (GX.below hb).aC (hN.bC (by omega)).2 ((GY.below hb).nt.bC (by omega)).2);have S2:=(aZ (IR.below hb) ((GX.below hb)));have hz2:w.heap.size+3<=u2.heap.size:=by have:=hb.size;omega
 clear hN hb H2 S1 IA IB IR GX GY HT;go_wp2_with fail;refine H3.o.mono ?_;rintro r u3 ⟨⟨v,rfl,hN⟩,hb⟩;obtain⟨a4,c4,rfl,_⟩:=hN.arg (by omega);have IR:=S2.o.1.below hb;obtain⟨s0,s1,s2,zZ,z8,Aa⟩:=IR.facts;have FV:=ah (show Fin w.heap.size (w.heap.size+3) w u3 (.slice a4 (ws V).length c4) V from⟨hN.mono hz2,(S2.o.2.below hb).aC,by have:=hb.size;omega⟩);have S3:=ah IR;clear hN hb IR H3 S2;go_wp2;refine aB (jS _ (w.heap.size+1+1) dn (.slice a4 (ws V).length c4) de er _ rfl rfl (S3.o.set _ _ _)) rfl ?_;refine Fin.jw (m:=w.heap.size+3) ?_ (by omega)
 repeat (with_reducible first | exact FV.o | refine Fin.drew ?_ | refine Fin.alloc ?_ _ | refine Fin.set ?_ _ _ _ (by omega) (by omega))
theorem MV {w:World}{a b:Option Addr}{l c k d:Nat}(n m:Bool) (e f:Int) (n1 m1:Bool) (X Y:Nat) (e1 f1:Int) (lX:(ws X).length<=8192) (lY:(ws Y).length<=8192) (hX:((((ws X).length:Nat):Int)==0)=false) (hY:((((ws Y).length:Nat):Int)==0)=false) (hlt:decide (e1<f1)=false) (MN:-1048576<=e1) (MO:e1<=1048576) (MR:-1048576<=f1) (MU:f1<=1048576)
 (kE:Hid (∀ u,Below w.heap.size w u->Calls Tryz.prog 80 #[.agg #[.bool n,.slice a l c,.int .i64 e],.agg #[.bool m,.slice b k d,.int .i64 f]] u fun r w'=>∃ v v',r=.returned (.tuple #[.agg #[.bool n1,v,.int .i64 e1],.agg #[.bool m1,v',.int .i64 f1],.int .i64 0])/\Nt u.heap.size w' v X/\Nt u.heap.size w' v' Y/\Below u.heap.size u w')) (hs:(n1==m1)=false) (L:Nat) (lL:(ws L).length<=8192) (dn:Bool) (V:Nat) (de er:Int) (lV:(ws V).length<=8192)
 (x8:Hid (∀ (u:World) (p:Option Addr) (q:Nat),Below w.heap.size w u->Arg u p (ws X).length q (ws X)->Calls Tryz.prog 81 #[.slice p (ws X).length q,.int .i64 (e1-f1)] u fun r w'=>∃ v,r=.returned (.tuple #[v,.int .i64 0])/\Nt u.heap.size w' v L/\Below u.heap.size u w'))
 (HT:Hid (∀ (u:World) (p q:Option Addr) (s t:Nat),Below w.heap.size w u->Arg u p (ws L).length s (ws L)->Arg u q (ws Y).length t (ws Y)->Calls Tryz.prog 83 #[.bool n1,.slice p (ws L).length s,.slice q (ws Y).length t,.int .i64 f1] u fun r w'=>(∃ v,r=.returned (.tuple #[.agg #[.bool dn,v,.int .i64 de],.int .i64 er])/\Nt u.heap.size w' v V)/\Below u.heap.size u w')):Calls Tryz.prog 51 #[.agg #[.bool n,.slice a l c,.int .i64 e],.agg #[.bool m,.slice b k d,.int .i64 f]] w fun r w'=>(∃ v,r=.returned (.tuple #[.agg #[.bool dn,v,.int .i64 de],.int .i64 er])/\Nt w.heap.size w' v V)/\Below w.heap.size w w':=by
 obtain⟨W1,hW1⟩:=af (((w.alloc (.cells #[.bool n,.slice a l c,.int .i64 e] 79)).alloc (.cells #[.bool m,.slice b k d,.int .i64 f] 79)).alloc (.cells #[.bool false,.slice none 0 0,.int .i64 0] 79));obtain⟨hB,hz1,DA,DB,DR⟩:=aN w n m (.slice a l c) (.slice b k d) e f W1 hW1;have H1:=hid (kE.o W1 hB);have SB:=(fM hB hz1 DA DB DR);clear hB hz1 DA DB DR kE;go_enter Tryz.func51,Tryz.ntmps51;go_wp2_with fail;rw[<-hW1];clear hW1;refine H1.o.mono ?_;rintro r u1 ⟨v,v',rfl,hN,hM,hb⟩;obtain⟨a1,c1,rfl,_⟩:=hN.arg (by omega);obtain⟨a2,c2,rfl,_⟩:=hM.arg (by omega);obtain⟨hB,hz1,DA,DB,DR⟩:=SB.o;have EA:=DA.below hb;have EB:=DB.below hb;have ER:=DR.below hb;obtain⟨x0,x1,x2,dW,dY,dZ⟩:=EA.facts;obtain⟨y0,y1,y2,dH,dI,dJ⟩:=EB.facts;obtain⟨r0,r1,r2,fQ,fT,fU⟩:=ER.facts;have FX:=ah (show Fin w.heap.size (w.heap.size+3) w u1 (.slice a1 (ws X).length c1) X from⟨by rw[<-hz1];exact hN,hB.trans (hb.mono (by omega)),by have:=hb.size;omega⟩);have FY:=ah (show Fin w.heap.size (w.heap.size+3) w u1 (.slice a2 (ws Y).length c2) Y from⟨by rw[<-hz1];exact hM,hB.trans (hb.mono (by omega)),by have:=hb.size;omega⟩);have SE:=(fG EA EB ER);clear hN hM hb H1 hB hz1 DA DB DR EA EB ER SB;obtain⟨EA,EB,ER⟩:=SE.o;obtain⟨U1,aP⟩:=af (dG (dG u1 w.heap.size (.bool n1) (.slice a1 (ws X).length c1) (.int .i64 e1)) (w.heap.size+1) (.bool m1) (.slice a2 (ws Y).length c2) (.int .i64 f1));have IA:Dk U1 w.heap.size n1 (.slice a1 (ws X).length c1) e1:=by rw[aP];exact((EA.set _ _ _).other _ (by omega) _ _ _)
 have IB:Dk U1 (w.heap.size+1) m1 (.slice a2 (ws Y).length c2) f1:=by rw[aP];exact((EB.other _ (by omega) _ _ _).set _ _ _)
 have IR:Dk U1 (w.heap.size+1+1) false (.slice none 0 0) 0:=by rw[aP];exact((ER.other _ (by omega) _ _ _).other _ (by omega) _ _ _)
 have GX:Fin w.heap.size (w.heap.size+3) w U1 (.slice a1 (ws X).length c1) X:=by rw[aP];exact(Fin.dG (Fin.dG FX.o _ _ _ _ (by omega) (by omega)) _ _ _ _ (by omega) (by omega))
 have GY:Fin w.heap.size (w.heap.size+3) w U1 (.slice a2 (ws Y).length c2) Y:=by rw[aP];exact(Fin.dG (Fin.dG FY.o _ _ _ _ (by omega) (by omega)) _ _ _ _ (by omega) (by omega))
 have H2:=hid (x8.o U1 a1 c1 GX.aC (GX.nt.bC (by omega)).2);have S1:=(fM IA IB IR GX GY);have YI:w.heap.size+3<=U1.heap.size:=by have:=IR.lt;omega
 clear EA EB ER IA IB IR GX GY SE x8;unfold dG at aP;go_wp2_with fail;rw[<-aP];clear aP x0 x1 x2 dW dY dZ y0 y1 y2 dH dI dJ r0 r1 r2 fQ fT fU;refine H2.o.mono ?_;rintro r u2 ⟨v,rfl,hN,hb⟩;obtain⟨a3,c3,rfl,_⟩:=hN.arg (by omega);obtain⟨IA,IB,IR,GX,GY⟩:=S1.o;obtain⟨x0,x1,x2,dW,dY,dZ⟩:=(IA.below hb).facts;obtain⟨y0,y1,y2,dH,dI,dJ⟩:=(IB.below hb).facts;obtain⟨r0,r1,r2,fQ,fT,fU⟩:=(IR.below hb).facts;have H3:=hid (HT.o u2 a3 a2 c3 c2 (GX.below hb).aC (hN.bC (by omega)).2 ((GY.below hb).nt.bC (by omega)).2);have S2:=(aZ (IR.below hb) ((GX.below hb)));have hz2:w.heap.size+3<=u2.heap.size:=by have:=hb.size;omega
 clear hN hb H2 S1 IA IB IR GX GY HT;go_wp2_with fail;refine H3.o.mono ?_;rintro r u3 ⟨⟨v,rfl,hN⟩,hb⟩;obtain⟨a4,c4,rfl,_⟩:=hN.arg (by omega);have IR:=S2.o.1.below hb;obtain⟨s0,s1,s2,zZ,z8,Aa⟩:=IR.facts;have FV:=ah (show Fin w.heap.size (w.heap.size+3) w u3 (.slice a4 (ws V).length c4) V from⟨hN.mono hz2,(S2.o.2.below hb).aC,by have:=hb.size;omega⟩);have S3:=ah IR;clear hN hb IR H3 S2;go_wp2;refine aB (jS _ (w.heap.size+1+1) dn (.slice a4 (ws V).length c4) de er _ rfl rfl (S3.o.set _ _ _)) rfl ?_;refine Fin.jw (m:=w.heap.size+3) ?_ (by omega)
 repeat (with_reducible first | exact FV.o | refine Fin.drew ?_ | refine Fin.alloc ?_ _ | refine Fin.set ?_ _ _ _ (by omega) (by omega))
theorem MW {w:World}{a b:Option Addr}{l c k d:Nat}(n m:Bool) (e f:Int) (n1 m1:Bool) (X Y:Nat) (e1 f1:Int) (lX:(ws X).length<=8192) (lY:(ws Y).length<=8192) (hX:((((ws X).length:Nat):Int)==0)=false) (hY:((((ws Y).length:Nat):Int)==0)=false) (hlt:e1<f1) (MN:-1048576<=e1) (MO:e1<=1048576) (MR:-1048576<=f1) (MU:f1<=1048576)
 (kE:Hid (∀ u,Below w.heap.size w u->Calls Tryz.prog 80 #[.agg #[.bool n,.slice a l c,.int .i64 e],.agg #[.bool m,.slice b k d,.int .i64 f]] u fun r w'=>∃ v v',r=.returned (.tuple #[.agg #[.bool n1,v,.int .i64 e1],.agg #[.bool m1,v',.int .i64 f1],.int .i64 0])/\Nt u.heap.size w' v X/\Nt u.heap.size w' v' Y/\Below u.heap.size u w'))
 (x8:Hid (∀ (u:World) (p:Option Addr) (q:Nat),Below w.heap.size w u->Arg u p (ws Y).length q (ws Y)->Calls Tryz.prog 81 #[.slice p (ws Y).length q,.int .i64 (f1-e1)] u fun r w'=>∃ v,r=.returned (.tuple #[v,.int .i64 2])/\Nt u.heap.size w' v 0/\Below u.heap.size u w')):Calls Tryz.prog 51 #[.agg #[.bool n,.slice a l c,.int .i64 e],.agg #[.bool m,.slice b k d,.int .i64 f]] w fun r w'=>r=.returned (.tuple #[.agg #[.bool false,.slice none 0 0,.int .i64 0],.int .i64 2])/\Below w.heap.size w w':=by
 have l0:(ws 0).length=0:=by rw[bI];rfl
 obtain⟨W1,hW1⟩:=af (((w.alloc (.cells #[.bool n,.slice a l c,.int .i64 e] 79)).alloc (.cells #[.bool m,.slice b k d,.int .i64 f] 79)).alloc (.cells #[.bool false,.slice none 0 0,.int .i64 0] 79));obtain⟨hB,hz1,DA,DB,DR⟩:=aN w n m (.slice a l c) (.slice b k d) e f W1 hW1;have H1:=hid (kE.o W1 hB);have SB:=(fM hB hz1 DA DB DR);clear hB hz1 DA DB DR kE;go_enter Tryz.func51,Tryz.ntmps51;go_wp2_with fail;rw[<-hW1];clear hW1;refine H1.o.mono ?_;rintro r u1 ⟨v,v',rfl,hN,hM,hb⟩;obtain⟨a1,c1,rfl,_⟩:=hN.arg (by omega);obtain⟨a2,c2,rfl,_⟩:=hM.arg (by omega);obtain⟨hB,hz1,DA,DB,DR⟩:=SB.o;have EA:=DA.below hb;have EB:=DB.below hb;have ER:=DR.below hb;obtain⟨x0,x1,x2,dW,dY,dZ⟩:=EA.facts;obtain⟨y0,y1,y2,dH,dI,dJ⟩:=EB.facts;obtain⟨r0,r1,r2,fQ,fT,fU⟩:=ER.facts;have FX:=ah (show Fin w.heap.size (w.heap.size+3) w u1 (.slice a1 (ws X).length c1) X from⟨by rw[<-hz1];exact hN,hB.trans (hb.mono (by omega)),by have:=hb.size;omega⟩);have FY:=ah (show Fin w.heap.size (w.heap.size+3) w u1 (.slice a2 (ws Y).length c2) Y from⟨by rw[<-hz1];exact hM,hB.trans (hb.mono (by omega)),by have:=hb.size;omega⟩);have SE:=(fG EA EB ER);clear hN hM hb H1 hB hz1 DA DB DR EA EB ER SB;obtain⟨EA,EB,ER⟩:=SE.o;obtain⟨U0,pR⟩:=af (dG (dG u1 w.heap.size (.bool n1) (.slice a1 (ws X).length c1) (.int .i64 e1)) (w.heap.size+1) (.bool m1) (.slice a2 (ws Y).length c2) (.int .i64 f1));have JA:Dk U0 w.heap.size n1 (.slice a1 (ws X).length c1) e1:=by rw[pR];exact((EA.set _ _ _).other _ (by omega) _ _ _)
 have JB:Dk U0 (w.heap.size+1) m1 (.slice a2 (ws Y).length c2) f1:=by rw[pR];exact((EB.other _ (by omega) _ _ _).set _ _ _)
 have JR:Dk U0 (w.heap.size+1+1) false (.slice none 0 0) 0:=by rw[pR];exact((ER.other _ (by omega) _ _ _).other _ (by omega) _ _ _)
 have KX:=ah (show Fin w.heap.size (w.heap.size+3) w U0 (.slice a1 (ws X).length c1) X by rw[pR];exact(Fin.dG (Fin.dG FX.o _ _ _ _ (by omega) (by omega)) _ _ _ _ (by omega) (by omega)));have KY:=ah (show Fin w.heap.size (w.heap.size+3) w U0 (.slice a2 (ws Y).length c2) Y by rw[pR];exact(Fin.dG (Fin.dG FY.o _ _ _ _ (by omega) (by omega)) _ _ _ _ (by omega) (by omega)));have SE:=(fG JA JB JR);unfold dG at pR;clear EA EB ER JA JB JR
 go_upto_region 9 with fail
 rw[<-pR];clear pR x0 x1 x2 dW dY dZ y0 y1 y2 dH dI dJ r0 r1 r2 fQ fT fU FX FY;obtain⟨x0,x1,x2,dW,dY,dZ⟩:=SE.o.1.facts;obtain⟨y0,y1,y2,dH,dI,dJ⟩:=SE.o.2.1.facts;obtain⟨r0,r1,r2,fQ,fT,fU⟩:=SE.o.r2.facts;obtain⟨EA,EB,ER⟩:=SE.o;obtain⟨U1,aP⟩:=af (dG (dG U0 w.heap.size (.bool m1) (.slice a2 (ws Y).length c2) (.int .i64 f1)) (w.heap.size+1) (.bool n1) (.slice a1 (ws X).length c1) (.int .i64 e1));have IA:Dk U1 w.heap.size m1 (.slice a2 (ws Y).length c2) f1:=by rw[aP];exact((EA.set _ _ _).other _ (by omega) _ _ _)
 have IB:Dk U1 (w.heap.size+1) n1 (.slice a1 (ws X).length c1) e1:=by rw[aP];exact((EB.other _ (by omega) _ _ _).set _ _ _)
 have IR:Dk U1 (w.heap.size+1+1) false (.slice none 0 0) 0:=by rw[aP];exact((ER.other _ (by omega) _ _ _).other _ (by omega) _ _ _)
 have GX:Fin w.heap.size (w.heap.size+3) w U1 (.slice a1 (ws X).length c1) X:=by rw[aP];exact(Fin.dG (Fin.dG KX.o _ _ _ _ (by omega) (by omega)) _ _ _ _ (by omega) (by omega))
 have GY:Fin w.heap.size (w.heap.size+3) w U1 (.slice a2 (ws Y).length c2) Y:=by rw[aP];exact(Fin.dG (Fin.dG KY.o _ _ _ _ (by omega) (by omega)) _ _ _ _ (by omega) (by omega))
 have H2:=hid (x8.o U1 a2 c2 GX.aC (GY.nt.bC (by omega)).2);have S1:=(fM IA IB IR GX GY);have YI:w.heap.size+3<=U1.heap.size:=by have:=IR.lt;omega
 clear EA EB ER IA IB IR GX GY SE x8;unfold dG at aP;go_wp2_with fail;rw[<-aP];clear aP x0 x1 x2 dW dY dZ y0 y1 y2 dH dI dJ r0 r1 r2 fQ fT fU;refine H2.o.mono ?_;rintro r u2 ⟨v,rfl,hN,hb⟩;obtain⟨a3,c3,rfl,_⟩:=hN.arg (by omega);obtain⟨IA,IB,IR,GX,GY⟩:=S1.o;obtain⟨x0,x1,x2,dW,dY,dZ⟩:=(IA.below hb).facts;obtain⟨y0,y1,y2,dH,dI,dJ⟩:=(IB.below hb).facts;obtain⟨r0,r1,r2,fQ,fT,fU⟩:=(IR.below hb).facts;have S2:=(aZ (IR.below hb) ((GX.below hb)));clear hN hb H2 S1 IA IB IR GX GY;go_wp2;refine aB (jS _ (w.heap.size+1+1) false (.slice none 0 0) 0 2 _ rfl rfl (S2.o.1.set _ _ _)) rfl ⟨rfl,?_⟩;refine Fin.aC (m:=w.heap.size+3) (v:=.slice a1 (ws X).length c1) (X:=X) ?_
 repeat (with_reducible first | exact S2.o.2 | refine Fin.drew ?_ | refine Fin.alloc ?_ _ | refine Fin.set ?_ _ _ _ (by omega) (by omega))
theorem QT {w:World}{a b:Option Addr}{l c k d:Nat}(n m:Bool) (e f:Int) (n1 m1:Bool) (X Y:Nat) (e1 f1:Int) (lX:(ws X).length<=8192) (lY:(ws Y).length<=8192) (hX:((((ws X).length:Nat):Int)==0)=false) (hY:((((ws Y).length:Nat):Int)==0)=false) (hlt:e1<f1) (MN:-1048576<=e1) (MO:e1<=1048576) (MR:-1048576<=f1) (MU:f1<=1048576)
 (kE:Hid (∀ u,Below w.heap.size w u->Calls Tryz.prog 80 #[.agg #[.bool n,.slice a l c,.int .i64 e],.agg #[.bool m,.slice b k d,.int .i64 f]] u fun r w'=>∃ v v',r=.returned (.tuple #[.agg #[.bool n1,v,.int .i64 e1],.agg #[.bool m1,v',.int .i64 f1],.int .i64 0])/\Nt u.heap.size w' v X/\Nt u.heap.size w' v' Y/\Below u.heap.size u w')) (hs:(m1==n1)=true) (L:Nat) (lL:(ws L).length<=8192) (dn:Bool) (V:Nat) (de er:Int) (lV:(ws V).length<=8192)
 (x8:Hid (∀ (u:World) (p:Option Addr) (q:Nat),Below w.heap.size w u->Arg u p (ws Y).length q (ws Y)->Calls Tryz.prog 81 #[.slice p (ws Y).length q,.int .i64 (f1-e1)] u fun r w'=>∃ v,r=.returned (.tuple #[v,.int .i64 0])/\Nt u.heap.size w' v L/\Below u.heap.size u w'))
 (HT:Hid (∀ (u:World) (p q:Option Addr) (s t:Nat),Below w.heap.size w u->Arg u p (ws L).length s (ws L)->Arg u q (ws X).length t (ws X)->Calls Tryz.prog 82 #[.bool m1,.slice p (ws L).length s,.slice q (ws X).length t,.int .i64 e1] u fun r w'=>(∃ v,r=.returned (.tuple #[.agg #[.bool dn,v,.int .i64 de],.int .i64 er])/\Nt u.heap.size w' v V)/\Below u.heap.size u w')):Calls Tryz.prog 51 #[.agg #[.bool n,.slice a l c,.int .i64 e],.agg #[.bool m,.slice b k d,.int .i64 f]] w fun r w'=>(∃ v,r=.returned (.tuple #[.agg #[.bool dn,v,.int .i64 de],.int .i64 er])/\Nt w.heap.size w' v V)/\Below w.heap.size w w':=by
 obtain⟨W1,hW1⟩:=af (((w.alloc (.cells #[.bool n,.slice a l c,.int .i64 e] 79)).alloc (.cells #[.bool m,.slice b k d,.int .i64 f] 79)).alloc (.cells #[.bool false,.slice none 0 0,.int .i64 0] 79));obtain⟨hB,hz1,DA,DB,DR⟩:=aN w n m (.slice a l c) (.slice b k d) e f W1 hW1;have H1:=hid (kE.o W1 hB);have SB:=(fM hB hz1 DA DB DR);clear hB hz1 DA DB DR kE;go_enter Tryz.func51,Tryz.ntmps51;go_wp2_with fail;rw[<-hW1];clear hW1;refine H1.o.mono ?_;rintro r u1 ⟨v,v',rfl,hN,hM,hb⟩;obtain⟨a1,c1,rfl,_⟩:=hN.arg (by omega);obtain⟨a2,c2,rfl,_⟩:=hM.arg (by omega);obtain⟨hB,hz1,DA,DB,DR⟩:=SB.o;have EA:=DA.below hb;have EB:=DB.below hb;have ER:=DR.below hb;obtain⟨x0,x1,x2,dW,dY,dZ⟩:=EA.facts;obtain⟨y0,y1,y2,dH,dI,dJ⟩:=EB.facts;obtain⟨r0,r1,r2,fQ,fT,fU⟩:=ER.facts;have FX:=ah (show Fin w.heap.size (w.heap.size+3) w u1 (.slice a1 (ws X).length c1) X from⟨by rw[<-hz1];exact hN,hB.trans (hb.mono (by omega)),by have:=hb.size;omega⟩);have FY:=ah (show Fin w.heap.size (w.heap.size+3) w u1 (.slice a2 (ws Y).length c2) Y from⟨by rw[<-hz1];exact hM,hB.trans (hb.mono (by omega)),by have:=hb.size;omega⟩);have SE:=(fG EA EB ER);clear hN hM hb H1 hB hz1 DA DB DR EA EB ER SB;obtain⟨EA,EB,ER⟩:=SE.o;obtain⟨U0,pR⟩:=af (dG (dG u1 w.heap.size (.bool n1) (.slice a1 (ws X).length c1) (.int .i64 e1)) (w.heap.size+1) (.bool m1) (.slice a2 (ws Y).length c2) (.int .i64 f1));have JA:Dk U0 w.heap.size n1 (.slice a1 (ws X).length c1) e1:=by rw[pR];exact((EA.set _ _ _).other _ (by omega) _ _ _)
 have JB:Dk U0 (w.heap.size+1) m1 (.slice a2 (ws Y).length c2) f1:=by rw[pR];exact((EB.other _ (by omega) _ _ _).set _ _ _)
 have JR:Dk U0 (w.heap.size+1+1) false (.slice none 0 0) 0:=by rw[pR];exact((ER.other _ (by omega) _ _ _).other _ (by omega) _ _ _)
 have KX:=ah (show Fin w.heap.size (w.heap.size+3) w U0 (.slice a1 (ws X).length c1) X by rw[pR];exact(Fin.dG (Fin.dG FX.o _ _ _ _ (by omega) (by omega)) _ _ _ _ (by omega) (by omega)));have KY:=ah (show Fin w.heap.size (w.heap.size+3) w U0 (.slice a2 (ws Y).length c2) Y by rw[pR];exact(Fin.dG (Fin.dG FY.o _ _ _ _ (by omega) (by omega)) _ _ _ _ (by omega) (by omega)));have SE:=(fG JA JB JR);unfold dG at pR;clear EA EB ER JA JB JR
 go_upto_region 9 with fail
 rw[<-pR];clear pR x0 x1 x2 dW dY dZ y0 y1 y2 dH dI dJ r0 r1 r2 fQ fT fU FX FY;obtain⟨x0,x1,x2,dW,dY,dZ⟩:=SE.o.1.facts;obtain⟨y0,y1,y2,dH,dI,dJ⟩:=SE.o.2.1.facts;obtain⟨r0,r1,r2,fQ,fT,fU⟩:=SE.o.r2.facts;obtain⟨EA,EB,ER⟩:=SE.o;obtain⟨U1,aP⟩:=af (dG (dG U0 w.heap.size (.bool m1) (.slice a2 (ws Y).length c2) (.int .i64 f1)) (w.heap.size+1) (.bool n1) (.slice a1 (ws X).length c1) (.int .i64 e1));have IA:Dk U1 w.heap.size m1 (.slice a2 (ws Y).length c2) f1:=by rw[aP];exact((EA.set _ _ _).other _ (by omega) _ _ _)
 have IB:Dk U1 (w.heap.size+1) n1 (.slice a1 (ws X).length c1) e1:=by rw[aP];exact((EB.other _ (by omega) _ _ _).set _ _ _)
 have IR:Dk U1 (w.heap.size+1+1) false (.slice none 0 0) 0:=by rw[aP];exact((ER.other _ (by omega) _ _ _).other _ (by omega) _ _ _)
 have GX:Fin w.heap.size (w.heap.size+3) w U1 (.slice a1 (ws X).length c1) X:=by rw[aP];exact(Fin.dG (Fin.dG KX.o _ _ _ _ (by omega) (by omega)) _ _ _ _ (by omega) (by omega))
 have GY:Fin w.heap.size (w.heap.size+3) w U1 (.slice a2 (ws Y).length c2) Y:=by rw[aP];exact(Fin.dG (Fin.dG KY.o _ _ _ _ (by omega) (by omega)) _ _ _ _ (by omega) (by omega))
 have H2:=hid (x8.o U1 a2 c2 GX.aC (GY.nt.bC (by omega)).2);have S1:=(fM IA IB IR GX GY);have YI:w.heap.size+3<=U1.heap.size:=by have:=IR.lt;omega
 clear EA EB ER IA IB IR GX GY SE x8;unfold dG at aP;go_wp2_with fail;rw[<-aP];clear aP x0 x1 x2 dW dY dZ y0 y1 y2 dH dI dJ r0 r1 r2 fQ fT fU;refine H2.o.mono ?_;rintro r u2 ⟨v,rfl,hN,hb⟩;obtain⟨a3,c3,rfl,_⟩:=hN.arg (by omega);obtain⟨IA,IB,IR,GX,GY⟩:=S1.o;obtain⟨x0,x1,x2,dW,dY,dZ⟩:=(IA.below hb).facts;obtain⟨y0,y1,y2,dH,dI,dJ⟩:=(IB.below hb).facts;obtain⟨r0,r1,r2,fQ,fT,fU⟩:=(IR.below hb).facts;have H3:=hid (HT.o u2 a3 a1 c3 c1 (GX.below hb).aC (hN.bC (by omega)).2 ((GX.below hb).nt.bC (by omega)).2);have S2:=(aZ (IR.below hb) ((GX.below hb)));have hz2:w.heap.size+3<=u2.heap.size:=by have:=hb.size;omega
 clear hN hb H2 S1 IA IB IR GX GY HT;go_wp2_with fail;refine H3.o.mono ?_;rintro r u3 ⟨⟨v,rfl,hN⟩,hb⟩;obtain⟨a4,c4,rfl,_⟩:=hN.arg (by omega);have IR:=S2.o.1.below hb;obtain⟨s0,s1,s2,zZ,z8,Aa⟩:=IR.facts;have FV:=ah (show Fin w.heap.size (w.heap.size+3) w u3 (.slice a4 (ws V).length c4) V from⟨hN.mono hz2,(S2.o.2.below hb).aC,by have:=hb.size;omega⟩);have S3:=ah IR;clear hN hb IR H3 S2;go_wp2;refine aB (jS _ (w.heap.size+1+1) dn (.slice a4 (ws V).length c4) de er _ rfl rfl (S3.o.set _ _ _)) rfl ?_;refine Fin.jw (m:=w.heap.size+3) ?_ (by omega)
 repeat (with_reducible first | exact FV.o | refine Fin.drew ?_ | refine Fin.alloc ?_ _ | refine Fin.set ?_ _ _ _ (by omega) (by omega))
theorem M4 {w:World}{a b:Option Addr}{l c k d:Nat}(n m:Bool) (e f:Int) (n1 m1:Bool) (X Y:Nat) (e1 f1:Int) (lX:(ws X).length<=8192) (lY:(ws Y).length<=8192) (hX:((((ws X).length:Nat):Int)==0)=false) (hY:((((ws Y).length:Nat):Int)==0)=false) (hlt:e1<f1) (MN:-1048576<=e1) (MO:e1<=1048576) (MR:-1048576<=f1) (MU:f1<=1048576)
 (kE:Hid (∀ u,Below w.heap.size w u->Calls Tryz.prog 80 #[.agg #[.bool n,.slice a l c,.int .i64 e],.agg #[.bool m,.slice b k d,.int .i64 f]] u fun r w'=>∃ v v',r=.returned (.tuple #[.agg #[.bool n1,v,.int .i64 e1],.agg #[.bool m1,v',.int .i64 f1],.int .i64 0])/\Nt u.heap.size w' v X/\Nt u.heap.size w' v' Y/\Below u.heap.size u w')) (hs:(m1==n1)=false) (L:Nat) (lL:(ws L).length<=8192) (dn:Bool) (V:Nat) (de er:Int) (lV:(ws V).length<=8192)
 (x8:Hid (∀ (u:World) (p:Option Addr) (q:Nat),Below w.heap.size w u->Arg u p (ws Y).length q (ws Y)->Calls Tryz.prog 81 #[.slice p (ws Y).length q,.int .i64 (f1-e1)] u fun r w'=>∃ v,r=.returned (.tuple #[v,.int .i64 0])/\Nt u.heap.size w' v L/\Below u.heap.size u w'))
 (HT:Hid (∀ (u:World) (p q:Option Addr) (s t:Nat),Below w.heap.size w u->Arg u p (ws L).length s (ws L)->Arg u q (ws X).length t (ws X)->Calls Tryz.prog 83 #[.bool m1,.slice p (ws L).length s,.slice q (ws X).length t,.int .i64 e1] u fun r w'=>(∃ v,r=.returned (.tuple #[.agg #[.bool dn,v,.int .i64 de],.int .i64 er])/\Nt u.heap.size w' v V)/\Below u.heap.size u w')):Calls Tryz.prog 51 #[.agg #[.bool n,.slice a l c,.int .i64 e],.agg #[.bool m,.slice b k d,.int .i64 f]] w fun r w'=>(∃ v,r=.returned (.tuple #[.agg #[.bool dn,v,.int .i64 de],.int .i64 er])/\Nt w.heap.size w' v V)/\Below w.heap.size w w':=by
 obtain⟨W1,hW1⟩:=af (((w.alloc (.cells #[.bool n,.slice a l c,.int .i64 e] 79)).alloc (.cells #[.bool m,.slice b k d,.int .i64 f] 79)).alloc (.cells #[.bool false,.slice none 0 0,.int .i64 0] 79));obtain⟨hB,hz1,DA,DB,DR⟩:=aN w n m (.slice a l c) (.slice b k d) e f W1 hW1;have H1:=hid (kE.o W1 hB);have SB:=(fM hB hz1 DA DB DR);clear hB hz1 DA DB DR kE;go_enter Tryz.func51,Tryz.ntmps51;go_wp2_with fail;rw[<-hW1];clear hW1;refine H1.o.mono ?_;rintro r u1 ⟨v,v',rfl,hN,hM,hb⟩;obtain⟨a1,c1,rfl,_⟩:=hN.arg (by omega);obtain⟨a2,c2,rfl,_⟩:=hM.arg (by omega);obtain⟨hB,hz1,DA,DB,DR⟩:=SB.o;have EA:=DA.below hb;have EB:=DB.below hb;have ER:=DR.below hb;obtain⟨x0,x1,x2,dW,dY,dZ⟩:=EA.facts;obtain⟨y0,y1,y2,dH,dI,dJ⟩:=EB.facts;obtain⟨r0,r1,r2,fQ,fT,fU⟩:=ER.facts;have FX:=ah (show Fin w.heap.size (w.heap.size+3) w u1 (.slice a1 (ws X).length c1) X from⟨by rw[<-hz1];exact hN,hB.trans (hb.mono (by omega)),by have:=hb.size;omega⟩);have FY:=ah (show Fin w.heap.size (w.heap.size+3) w u1 (.slice a2 (ws Y).length c2) Y from⟨by rw[<-hz1];exact hM,hB.trans (hb.mono (by omega)),by have:=hb.size;omega⟩);have SE:=(fG EA EB ER);clear hN hM hb H1 hB hz1 DA DB DR EA EB ER SB;obtain⟨EA,EB,ER⟩:=SE.o;obtain⟨U0,pR⟩:=af (dG (dG u1 w.heap.size (.bool n1) (.slice a1 (ws X).length c1) (.int .i64 e1)) (w.heap.size+1) (.bool m1) (.slice a2 (ws Y).length c2) (.int .i64 f1));have JA:Dk U0 w.heap.size n1 (.slice a1 (ws X).length c1) e1:=by rw[pR];exact((EA.set _ _ _).other _ (by omega) _ _ _)
 have JB:Dk U0 (w.heap.size+1) m1 (.slice a2 (ws Y).length c2) f1:=by rw[pR];exact((EB.other _ (by omega) _ _ _).set _ _ _)
 have JR:Dk U0 (w.heap.size+1+1) false (.slice none 0 0) 0:=by rw[pR];exact((ER.other _ (by omega) _ _ _).other _ (by omega) _ _ _)
 have KX:=ah (show Fin w.heap.size (w.heap.size+3) w U0 (.slice a1 (ws X).length c1) X by rw[pR];exact(Fin.dG (Fin.dG FX.o _ _ _ _ (by omega) (by omega)) _ _ _ _ (by omega) (by omega)));have KY:=ah (show Fin w.heap.size (w.heap.size+3) w U0 (.slice a2 (ws Y).length c2) Y by rw[pR];exact(Fin.dG (Fin.dG FY.o _ _ _ _ (by omega) (by omega)) _ _ _ _ (by omega) (by omega)));have SE:=(fG JA JB JR);unfold dG at pR;clear EA EB ER JA JB JR
 go_upto_region 9 with fail
 rw[<-pR];clear pR x0 x1 x2 dW dY dZ y0 y1 y2 dH dI dJ r0 r1 r2 fQ fT fU FX FY;obtain⟨x0,x1,x2,dW,dY,dZ⟩:=SE.o.1.facts;obtain⟨y0,y1,y2,dH,dI,dJ⟩:=SE.o.2.1.facts;obtain⟨r0,r1,r2,fQ,fT,fU⟩:=SE.o.r2.facts;obtain⟨EA,EB,ER⟩:=SE.o;obtain⟨U1,aP⟩:=af (dG (dG U0 w.heap.size (.bool m1) (.slice a2 (ws Y).length c2) (.int .i64 f1)) (w.heap.size+1) (.bool n1) (.slice a1 (ws X).length c1) (.int .i64 e1));have IA:Dk U1 w.heap.size m1 (.slice a2 (ws Y).length c2) f1:=by rw[aP];exact((EA.set _ _ _).other _ (by omega) _ _ _)
 have IB:Dk U1 (w.heap.size+1) n1 (.slice a1 (ws X).length c1) e1:=by rw[aP];exact((EB.other _ (by omega) _ _ _).set _ _ _)
 have IR:Dk U1 (w.heap.size+1+1) false (.slice none 0 0) 0:=by rw[aP];exact((ER.other _ (by omega) _ _ _).other _ (by omega) _ _ _)
 have GX:Fin w.heap.size (w.heap.size+3) w U1 (.slice a1 (ws X).length c1) X:=by rw[aP];exact(Fin.dG (Fin.dG KX.o _ _ _ _ (by omega) (by omega)) _ _ _ _ (by omega) (by omega))
 have GY:Fin w.heap.size (w.heap.size+3) w U1 (.slice a2 (ws Y).length c2) Y:=by rw[aP];exact(Fin.dG (Fin.dG KY.o _ _ _ _ (by omega) (by omega)) _ _ _ _ (by omega) (by omega))
 have H2:=hid (x8.o U1 a2 c2 GX.aC (GY.nt.bC (by omega)).2);have S1:=(fM IA IB IR GX GY);have YI:w.heap.size+3<=U1.heap.size:=by have:=IR.lt;omega
 clear EA EB ER IA IB IR GX GY SE x8;unfold dG at aP;go_wp2_with fail;rw[<-aP];clear aP x0 x1 x2 dW dY dZ y0 y1 y2 dH dI dJ r0 r1 r2 fQ fT fU;refine H2.o.mono ?_;rintro r u2 ⟨v,rfl,hN,hb⟩;obtain⟨a3,c3,rfl,_⟩:=hN.arg (by omega);obtain⟨IA,IB,IR,GX,GY⟩:=S1.o;obtain⟨x0,x1,x2,dW,dY,dZ⟩:=(IA.below hb).facts;obtain⟨y0,y1,y2,dH,dI,dJ⟩:=(IB.below hb).facts;obtain⟨r0,r1,r2,fQ,fT,fU⟩:=(IR.below hb).facts;have H3:=hid (HT.o u2 a3 a1 c3 c1 (GX.below hb).aC (hN.bC (by omega)).2 ((GX.below hb).nt.bC (by omega)).2);have S2:=(aZ (IR.below hb) ((GX.below hb)));have hz2:w.heap.size+3<=u2.heap.size:=by have:=hb.size;omega
 clear hN hb H2 S1 IA IB IR GX GY HT;go_wp2_with fail;refine H3.o.mono ?_;rintro r u3 ⟨⟨v,rfl,hN⟩,hb⟩;obtain⟨a4,c4,rfl,_⟩:=hN.arg (by omega);have IR:=S2.o.1.below hb;obtain⟨s0,s1,s2,zZ,z8,Aa⟩:=IR.facts;have FV:=ah (show Fin w.heap.size (w.heap.size+3) w u3 (.slice a4 (ws V).length c4) V from⟨hN.mono hz2,(S2.o.2.below hb).aC,by have:=hb.size;omega⟩);have S3:=ah IR;clear hN hb IR H3 S2;go_wp2;refine aB (jS _ (w.heap.size+1+1) dn (.slice a4 (ws V).length c4) de er _ rfl rfl (S3.o.set _ _ _)) rfl ?_;refine Fin.jw (m:=w.heap.size+3) ?_ (by omega)
 repeat (with_reducible first | exact FV.o | refine Fin.drew ?_ | refine Fin.alloc ?_ _ | refine Fin.set ?_ _ _ _ (by omega) (by omega))
def jA(n:Bool)(X:Nat)(e:Int)(m:Bool)(Y:Nat)(f:Int):Option (Bool×Nat×Int) :=
 if 262144<bl X+(e-f).toNat then none
 else if n=m then mkS n (X*2^(e-f).toNat+Y) f
 else if Y<=X*2^(e-f).toNat then mkS n (X*2^(e-f).toNat-Y) f
 else mkS (!n) (Y-X*2^(e-f).toNat) f
def rM(x y:Bool×Nat×Int):Option (Bool×Nat×Int) :=
 if x.2.1=0 then some y else if y.2.1=0 then some x
 else if x.2.2<y.2.2 then jA y.1 y.2.1 y.2.2 x.1 x.2.1 x.2.2 else jA x.1 x.2.1 x.2.2 y.1 y.2.1 y.2.2
def oC(o p:Option (Bool×Nat×Int)):Option (Bool×Nat×Int) :=
 match o,p with
 | some x,some y=>rM x y
 | _,_=>none
theorem yc(X:Nat)(b:Int)(h0:0<=b)(hX:X≠0)(hl:bl X<=262144):aX X b=if 262144<bl X+b.toNat then(0,2) else(X*2^b.toNat,0):=by
 unfold aX;rw[if_neg (lg hl),if_neg hX,if_neg (by omega)]
 by_cases h:262144<bl X+b.toNat
 · rw[if_pos h,if_pos (by omega)]
 · rw[if_neg h,if_neg (by omega)]
theorem EI(X b:Nat)(hX:X≠0):bl (X*2^b)=bl X+b:=by rw[bJ,qG b X hX];omega
theorem jW{w:World}{p:Option Addr}{q X:Nat}(b:Int)(L:Nat)(er:Int)(hA:Arg w p (ws X).length q (ws X))(hb0:-9223372036854775808<=b)(hb1:b<=9223372036854775807)(h:aX X b=(L,er)) :
 Calls Tryz.prog 81 #[.slice p (ws X).length q,.int .i64 b] w fun r w'=>∃ v,r=.returned (.tuple #[v,.int .i64 er])/\Nt w.heap.size w' v L/\Below w.heap.size w w':=by
 have:=zK (ws X) p (ws X).length q w.heap.size b w hA.len hA.cap (by have:=hA.big;omega) hA.wf hA.rd (ak _) hb0 hb1;rw[au,h] at this;exact this.mono fun r w' ⟨⟨v,h1,h2⟩,h3⟩=>⟨v,h1,h2,h3⟩
theorem QU{w u:World}{p q:Option Addr}{s t L Y:Nat}(hT:gF w)(hu:Below w.heap.size w u)(A1:Arg u p (ws L).length s (ws L))(A2:Arg u q (ws Y).length t (ws Y))(n:Bool)(f:Int)(h0:-1048576<=f)(h1:f<=1048576)(oY:Y%2=1)(bL:bl L<=262144)(bY:bl Y<=262144) :
 Calls Tryz.prog 82 #[.bool n,.slice p (ws L).length s,.slice q (ws Y).length t,.int .i64 f] u fun r w'=>bS u.heap.size w' r (mkS n (L+Y) f)/\Below u.heap.size u w' :=
 Vf A1 A2 (hT.belows hu) n f h0 h1 L Y (au L) (au Y) oY bL bY
theorem Ko{w u:World}{p q:Option Addr}{s t L Y:Nat}(hT:gF w)(hu:Below w.heap.size w u)(A1:Arg u p (ws L).length s (ws L))(A2:Arg u q (ws Y).length t (ws Y))(n:Bool)(f:Int)(h0:-1048576<=f)(h1:f<=1048576)(bL:bl L<=262144)(bY:bl Y<=262144) :
 Calls Tryz.prog 83 #[.bool n,.slice p (ws L).length s,.slice q (ws Y).length t,.int .i64 f] u fun r w'=>bS u.heap.size w' r (if Y<=L then mkS n (L-Y) f else mkS (!n) (Y-L) f)/\Below u.heap.size u w':=by
 by_cases h:Y<=L
 · rw[if_pos h];exact MI A1 A2 (hT.belows hu) n f h0 h1 L Y (au L) (au Y) bL bY h
 · rw[if_neg h];exact QM A1 A2 (hT.belows hu) n f h0 h1 L Y (au L) (au Y) bL bY (by omega)
theorem cB{X:Nat}(h:X≠0):((((ws X).length:Nat):Int)==0)=false:=beq_eq_false_iff_ne.2 (by have:(ws X).length≠0:=fun e=>h ((bE X).1 e);omega)
theorem QV{w:World}{a b:Option Addr}{l c k d:Nat}{xs ys:List Nat}(h1:Arg w a l c xs)(h2:Arg w b k d ys)(hT:gF w)(n m:Bool)(e f:Int)(he0:-9223372036854775808<=e)(he1:e<=9223372036854775807)(hf0:-9223372036854775808<=f)(hf1:f<=9223372036854775807) :
 Calls Tryz.prog 51 #[.agg #[.bool n,.slice a l c,.int .i64 e],.agg #[.bool m,.slice b k d,.int .i64 f]] w fun r w'=>bS w.heap.size w' r (oC (mkS n (val xs) e) (mkS m (val ys) f))/\Below w.heap.size w w':=by
 have zero:∀ {r:Ending} {w':World},(r=.returned (.tuple #[.agg #[.bool false,.slice none 0 0,.int .i64 0],.int .i64 2])/\Below w.heap.size w w')->bS w.heap.size w' r none/\Below w.heap.size w w':=fun⟨h1,h2⟩=>⟨⟨_,h1,Nt.nil _ _⟩,h2⟩
 cases hx:mkS n (val xs) e with
 | none =>
   exact(Kn n m e f (hid fun u hu=>xY (h1.below hu) (h2.below hu) (hT.belows hu) n m e f he0 he1 hf0 hf1 hx)).mono fun r w' h=>zero h
 | some x =>
   obtain⟨n1,X,e1⟩:=x
   cases hy:mkS m (val ys) f with
   | none =>
     exact(Kn n m e f (hid fun u hu=>xZ (h1.below hu) (h2.below hu) (hT.belows hu) n m e f he0 he1 hf0 hf1 n1 X e1 hx hy)).mono fun r w' h=>zero h
   | some y =>
     obtain⟨m1,Y,f1⟩:=y;have kE:=hid fun u (hu:Below w.heap.size w u)=>ED (h1.below hu) (h2.below hu) (hT.belows hu) n m e f he0 he1 hf0 hf1 n1 m1 X Y e1 f1 hx hy;have FX:=bK hx;have FY:=bK hy;have lX:=dV FX;have lY:=dV FY;have:=FX.up;have:=FX.down;have:=FY.up;have:=FY.down;show Calls _ _ _ _ fun r w'=>bS w.heap.size w' r (rM (n1,X,e1) (m1,Y,f1))/\_;unfold rM;simp only
     by_cases hX0:X=0
     · rw[if_pos hX0];exact QQ n m e f n1 m1 X Y e1 f1 lX lY ((bE X).2 hX0) kE
     · rw[if_neg hX0]
       by_cases hY0:Y=0
       · rw[if_pos hY0];exact MJ n m e f n1 m1 X Y e1 f1 lX lY (cB hX0) ((bE Y).2 hY0) kE
       · rw[if_neg hY0];have oX:X%2=1:=by rcases FX.odd with h | h <;> omega
         have oY:Y%2=1:=by rcases FY.odd with h | h <;> omega
         by_cases hlt:e1<f1
         · rw[if_pos hlt];have hsh:=yc Y (f1-e1) (by omega) hY0 FY.size;unfold jA
           by_cases hL:262144<bl Y+(f1-e1).toNat
           · rw[if_pos hL] at hsh |-;exact(MW n m e f n1 m1 X Y e1 f1 lX lY (cB hX0) (cB hY0) hlt (by omega) (by omega) (by omega) (by omega) kE (hid fun u p q hu hA=>jW (f1-e1) 0 2 hA (by omega) (by omega) hsh)).mono fun r w' h=>zero h
           · rw[if_neg hL] at hsh |-;have hbl:=EI Y (f1-e1).toNat hY0;obtain⟨L,XH⟩:∃ L,Y*2^(f1-e1).toNat=L:=⟨_,rfl⟩;rw[XH] at hsh hbl |-;have lL:=len8 (X:=L) (by omega)
             by_cases hs:m1=n1
             · rw[if_pos hs]
               exact QT n m e f n1 m1 X Y e1 f1 lX lY (cB hX0) (cB hY0) hlt (by omega) (by omega) (by omega) (by omega) kE (by simp[hs]) L lL _ _ _ _ (aK m1 (L+X) e1) (hid fun u p q hu hA=>jW (f1-e1) L 0 hA (by omega) (by omega) hsh)
                (hid fun u p q s t hu hA hB=>QU hT hu hA hB m1 e1 (by omega) (by omega) oX (by omega) FX.size)
             · rw[if_neg hs];have hlen:(ws (dX (if X<=L then mkS m1 (L-X) e1 else mkS (!m1) (X-L) e1))).length<=8192:=by split <;> exact aK _ _ _
               exact M4 n m e f n1 m1 X Y e1 f1 lX lY (cB hX0) (cB hY0) hlt (by omega) (by omega) (by omega) (by omega) kE (by simp[hs]) L lL _ _ _ _ hlen (hid fun u p q hu hA=>jW (f1-e1) L 0 hA (by omega) (by omega) hsh)
                (hid fun u p q s t hu hA hB=>Ko hT hu hA hB m1 e1 (by omega) (by omega) (by omega) FX.size)
         · rw[if_neg hlt];have hsh:=yc X (e1-f1) (by omega) hX0 FX.size;have YJ:decide (e1<f1)=false:=decide_eq_false hlt;unfold jA
           by_cases hL:262144<bl X+(e1-f1).toNat
           · rw[if_pos hL] at hsh |-;exact(ML n m e f n1 m1 X Y e1 f1 lX lY (cB hX0) (cB hY0) YJ (by omega) (by omega) (by omega) (by omega) kE (hid fun u p q hu hA=>jW (e1-f1) 0 2 hA (by omega) (by omega) hsh)).mono fun r w' h=>zero h
           · rw[if_neg hL] at hsh |-;have hbl:=EI X (e1-f1).toNat hX0;obtain⟨L,XH⟩:∃ L,X*2^(e1-f1).toNat=L:=⟨_,rfl⟩;rw[XH] at hsh hbl |-;have lL:=len8 (X:=L) (by omega)
             by_cases hs:n1=m1
             · rw[if_pos hs]
               exact QS n m e f n1 m1 X Y e1 f1 lX lY (cB hX0) (cB hY0) YJ (by omega) (by omega) (by omega) (by omega) kE (by simp[hs]) L lL _ _ _ _ (aK n1 (L+Y) f1) (hid fun u p q hu hA=>jW (e1-f1) L 0 hA (by omega) (by omega) hsh)
                (hid fun u p q s t hu hA hB=>QU hT hu hA hB n1 f1 (by omega) (by omega) oY (by omega) FY.size)
             · rw[if_neg hs];have hlen:(ws (dX (if Y<=L then mkS n1 (L-Y) f1 else mkS (!n1) (Y-L) f1))).length<=8192:=by split <;> exact aK _ _ _
               exact MV n m e f n1 m1 X Y e1 f1 lX lY (cB hX0) (cB hY0) YJ (by omega) (by omega) (by omega) (by omega) kE (by simp[hs]) L lL _ _ _ _ hlen (hid fun u p q hu hA=>jW (e1-f1) L 0 hA (by omega) (by omega) hsh)
                (hid fun u p q s t hu hA hB=>Ko hT hu hA hB n1 f1 (by omega) (by omega) (by omega) FY.size)
end
namespace B
open Ieee
theorem Ce(f:Format)(j c:Nat)(h:j=0\/f.binade<=c)(hc:c<=2*f.binade):val f (j*f.binade+c)=c*2^j:=by
 have hb:=jh f;unfold val;generalize f.binade=B at *
 by_cases h1:c<B
 · have hj:j=0:=by omega
   subst hj;rw[dS,cO,if_pos h1,fw,dM]
 · have h2:¬ j*B+c<B:=by
    have:=kg (j*B);omega
   rw[if_neg h2]
   by_cases h3:c=2*B
   · subst h3;have e:j*B+2*B=(j+2)*B:=by rw[fC]
     rw[e,Nat.mul_mod_left,Nat.mul_div_cancel _ hb,gJ,show j+2-1=j+1 from rfl,dC,bJ 2 B,aJ,bJ 2]
   · have e:j*B+c=B*(j+1)+(c-B):=by
      rw[Nat.mul_succ,bJ j];omega
     have e1:(j*B+c)%B=c-B:=by rw[e,Nat.mul_add_mod,iY (by omega)]
     have e2:(j*B+c)/B=j+1:=by rw[e,Nat.mul_add_div hb,gK (by omega)]
     rw[e1,e2,lZ,show B+(c-B)=c from by omega]
theorem Cf(f:Format)(neg:Bool)(mag k a:Nat)(hm:mag≠0) :
 ∃ R,f.nearest neg mag (f.leastPlace+(k:Int)-(a:Int))=f.word neg (min R f.infRung) /\
   (val f R*2^a<=mag*2^k->mag*2^k<val f (R+1)*2^a) /\
   (mag*2^k<val f R*2^a->0<R/\val f (R-1)*2^a<mag*2^k):=by
 unfold Format.nearest;rw[if_neg hm];simp only[Ee,Be];have hl:=(Nat.log2_eq_iff hm (k:=mag.log2)).1 rfl;generalize mag.log2=L at *;have hB:f.binade=2^f.fractionBits:=rfl;have hb:=jh f
 obtain⟨j,hj⟩:∃ j:Nat,max (f.leastPlace+(k:Int)-(a:Int)+(L:Int)-(f.fractionBits:Int)) f.leastPlace=f.leastPlace+j :=
  ⟨(max (f.leastPlace+(k:Int)-(a:Int)+(L:Int)-(f.fractionBits:Int)) f.leastPlace-f.leastPlace).toNat,by omega⟩
 have hj1:k+L<=a+f.fractionBits+j:=by omega
 have hj2:j=0\/k+L=a+f.fractionBits+j:=by omega
 rw[hj];have e3:(f.leastPlace+(j:Int)-f.leastPlace).toNat=j:=by omega
 have e1:(f.leastPlace+(k:Int)-(a:Int)-(f.leastPlace+(j:Int))).toNat=k-(a+j):=by omega
 have e2:(f.leastPlace+(j:Int)-(f.leastPlace+(k:Int)-(a:Int))).toNat=a+j-k:=by omega
 rw[e1,e2,e3];have hg:0<2^(a+j-k):=aU _
 -- V*g=m'*2^(a+j)
 have hV:mag*2^k*2^(a+j-k)=mag*2^(k-(a+j))*2^(a+j):=by
  rw[aJ,aJ,<-aI,<-aI];congr 2;omega
 have up:mag*2^(k-(a+j))<2*f.binade*2^(a+j-k):=by
  have:2*f.binade=2^(f.fractionBits+1):=by rw[hB,dC,bJ]
  rw[this,<-aI];refine fZ (fe hl.2 (aU _)) ?_;rw[<-aI];exact eB (by omega) (by omega)
 have dn:j=0\/f.binade*2^(a+j-k)<=mag*2^(k-(a+j)):=by
  rcases hj2 with h|h
  · exact Or.inl h
  · right
    refine dz ?_ (di _ hl.1);rw[hB,<-aI,<-aI];exact eB (by omega) (by omega)
 generalize hm':mag*2^(k-(a+j))=m' at *;generalize 2^(a+j-k)=g at *;generalize mag*2^k=V at *;have M5:=mZ m' g;have hmod:=gP m' hg;have hlow:m'/g<2*f.binade:=(wy hg).2 up
 have hlow2:j=0\/f.binade<=m'/g:=by
  rcases dn with h|h
  · exact Or.inl h
  · exact Or.inr ((wX hg).2 h)
 have hp2:0<2^(a+j):=aU _
 -- the bounds
 have b1:m'/g*2^(a+j)<=V:=by
  refine Nat.le_of_mul_le_mul_right ?_ hg;rw[hV,zx];exact di _ (by rw[bJ];omega)
 have b2:V<(m'/g+1)*2^(a+j):=by
  refine wF (a:=g) ?_;rw[hV,zx];refine fe ?_ hp2;rw[fC,gI,bJ];omega
 have b3:m'%g≠0->m'/g*2^(a+j)<V:=by
  intro hr;refine wF (a:=g) ?_;rw[hV,zx];refine fe ?_ hp2;rw[bJ];omega
 have v0:val f (j*f.binade+m'/g)*2^a=m'/g*2^(a+j):=by
  rw[Ce f j _ hlow2 (by omega),aJ,<-aI,nM j a]
 have v1:val f (j*f.binade+(m'/g+1))*2^a=(m'/g+1)*2^(a+j):=by
  rw[Ce f j _ (by omega) (by omega),aJ,<-aI,nM j a]
 refine⟨j*f.binade+Xx m' g,rfl,?_,?_⟩
 · unfold Xx
   cases hc:(decide (g<2*(m'%g)) || (g==2*(m'%g)&&m'/g%2==1))
   · intro _;simp only[fI,gJ];rw[mX,v1];exact b2
   · intro h;simp only[fH] at h;rw[v1] at h;omega
 · unfold Xx
   cases hc:(decide (g<2*(m'%g)) || (g==2*(m'%g)&&m'/g%2==1))
   · intro h;simp only[fI,gJ] at h;rw[v0] at h;omega
   · intro _;simp only[fH];refine⟨Nat.succ_pos _,?_⟩;rw[show j*f.binade+(m'/g+1)-1=j*f.binade+m'/g from rfl,v0];refine b3 (fun hr=>?_);rw[hr] at hc;simp at hc;omega
theorem yf(f:Format)(neg:Bool)(mag k a r:Nat)(hr:r<f.infRung)(h:mag*2^k=val f r*2^a)(hm:mag≠0) :
 f.nearest neg mag (f.leastPlace+(k:Int)-(a:Int))=f.word neg r:=by
 obtain⟨R,e,h1,h2⟩:=Cf f neg mag k a hm;have hp:0<2^a:=aU _
 have:R=r:=by
  by_cases c:val f R*2^a<=mag*2^k
  · have c2:=h1 c;rw[h] at c c2;have d1:=Nat.le_of_mul_le_mul_right c hp;have d2:=(gX f).1 (wF c2);have d3:¬ r<R:=fun hh=>by have:=bN f hh;omega
    omega
  · have c2:=h2 (by omega);rw[h] at c c2;have d1:=(gX f).1 (wF (a:=2^a) (Nat.lt_of_not_le c));have d2:=(gX f).1 (wF c2.2);omega
 rw[e,this,ik (by omega)]
end B
namespace B
open Go.RowKit
attribute [local go_sem] aM aF
theorem Ab (f:Ieee.Format) (hs:f.infRung<f.signWeight) (s t:Bool) (r u v a:Nat) (ha:f.leastPlace=-(a:Int)) (hr:r<f.infRung) (hu:u<f.infRung) (hv:v<f.infRung)
 (h:val f r*val f u=val f v*2^a) (h0:val f r≠0) (h1:val f u≠0):f.mul (f.word s r) (f.word t u)=some (f.word (s ^^ t) v):=by
 obtain⟨m,k,e1,v1⟩:=l9 f s r hr hs;obtain⟨n,j,e2,v2⟩:=l9 f t u hu hs;unfold Ieee.Format.mul;rw[e1,e2];show some (f.nearest (s ^^ t) (m*n) (f.leastPlace+k+(f.leastPlace+j)))=_;have e:f.leastPlace+(k:Int)+(f.leastPlace+(j:Int))=f.leastPlace+((k+j:Nat):Int)-(a:Int):=by omega
 have GQ:m*n≠0:=by
  intro h2;rcases Bp.1 h2 with h3|h3
  · subst h3;simp at v1;exact h0 v1.symm
  · subst h3;simp at v2;exact h1 v2.symm
 rw[e,yf f _ (m*n) (k+j) a v hv ?_ GQ];rw[<-h,<-v1,<-v2,aI]
 grind
theorem QW(a:Nat)(h:a<2^63):a &&& 2^63=0:=by
 apply Nat.eq_of_testBit_eq;intro i;rw[Nat.testBit_and,Nat.testBit_two_pow,Nat.zero_testBit]
 by_cases hi:63=i
 · subst hi;rw[Nat.testBit_lt_two_pow h];rfl
 · simp[hi]
theorem Iz(e g:Nat)(he:e<2048)(hg:g<4503599627370496):bits .andNot .u64 ((bw false e g:Nat):Int) 9218868437227405312=(g:Int):=by
 have h:=u64_andNot_nat (bw false e g) 9218868437227405312 (om false e g he hg) (by omega);rw[show(((9218868437227405312:Nat)):Int)=9218868437227405312 from rfl] at h;rw[h];have hb:bw false e g=e*4503599627370496+g:=by unfold bw;simp
 have hlt:bw false e g<2^63:=by rw[hb];omega
 have e1:18446744073709551615-9218868437227405312=2^63 ||| (2^52-1):=by decide
 rw[e1,Nat.and_or_distrib_left,GH,QW _ hlt,Nat.zero_or,hb];omega
theorem yh(E g:Nat)(hE:E<2048)(hg:g<4503599627370496):bits .or .u64 (g:Int) ((E:Int)*4503599627370496)=((bw false E g:Nat):Int):=by
 have hc:bits .or .u64 (g:Int) ((E:Int)*4503599627370496)=bits .or .u64 ((E:Int)*4503599627370496) (g:Int):=by simp only[bits,BitVec.or_comm]
 rw[hc,bits_join .u64 64 (by decide) wraps_u64 52 ((E:Int)*4503599627370496) (g:Int) (by omega) (by omega) (by omega) (by omega) (by omega) (by omega)];unfold bw;simp
theorem YK(e g:Nat)(he:e<2047)(hg:g<4503599627370496)(w:World) :
 Calls Tryz.prog 226 #[.float .f64 (bw false e g),.int .i64 0] w fun r w'=>r=.returned (.bool false)/\w'=w:=by
 have H:=hid (BZ false e g (by omega) hg w);have h1:=YD false e g (by omega) hg;have h2:(!false&&(e==2047&&g==0))=false:=by simp;omega
 rw[h2] at h1;generalize bw false e g=b at *;go_enter Tryz.func226,Tryz.ntmps226;go_wp2_with fail;refine H.o.mono ?_;rintro r w1 ⟨rfl,rfl⟩;go_wp2;go_ret;exact⟨rfl,rfl⟩
theorem zh(e g:Nat)(h0:0<e)(he:e<2047)(hg:g<4503599627370496)(w:World) :
 Calls Tryz.prog 227 #[.float .f64 (bw false e g)] w fun r w'=>r=.returned (.tuple #[.float .f64 (bw false e g),.int .i64 0])/\w'=w:=by
 have H:=hid (BZ false e g (by omega) hg w);have h1:=Io false false e g 1 0 (by omega) hg (by omega) (by omega)
 have h3:(!odd e g&&(!odd 1 0&&decide (pl false e g<pl false 1 0)))=false:=by
  have:¬ pl false e g<pl false 1 0:=by unfold pl sg;simp;omega
  simp[this]
 rw[h3,show bw false 1 0=4503599627370496 from rfl] at h1;generalize bw false e g=b at *;clear h3;go_enter Tryz.func227,Tryz.ntmps227;go_wp2_with fail;refine H.o.mono ?_;rintro r w1 ⟨rfl,rfl⟩;go_wp2
 go_ret2
 exact⟨rfl,rfl⟩
theorem Vg(w:World):Calls Tryz.prog 228 #[.int .i64 1] w fun r w'=>r=.returned (.float .f64 9218868437227405312)/\w'=w:=by
 go_enter Tryz.func228,Tryz.ntmps228;go_wp2;exact Xs
theorem Cg(e g:Nat)(he:e<2048)(hg:g<4503599627370496)(w:World) :
 Calls Tryz.prog 90 #[.float .f64 (bw false e g),.float .f64 13830554455654793216] w fun r w'=>r=.returned (.float .f64 (bw true e g))/\w'=w:=by
 have h1:=QC false e g he hg;have h2:bits .and .u64 13830554455654793216 9223372036854775808=9223372036854775808:=by decide
 have hb:bw false e g=e*4503599627370496+g:=by unfold bw;simp
 have h3:=UH ((bw false e g:Nat):Int) (by omega) (by rw[hb];omega);have h4:((bw false e g:Nat):Int)+9223372036854775808=((bw true e g:Nat):Int):=by unfold bw;simp;omega
 rw[h4] at h3;generalize bw false e g=b at *;generalize bw true e g=d at *;clear hb h4;go_enter Tryz.func90,Tryz.ntmps90;go_wp2;go_ret;exact⟨by simp,rfl⟩
end B
end Go.Proofs.YtjppdacikihpdaaGreatDoor
