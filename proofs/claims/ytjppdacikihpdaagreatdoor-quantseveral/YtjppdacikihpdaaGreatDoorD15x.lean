import Derived.Test.YtjppdacikihpdaaGreatDoorD8x
import Derived.Deep.Cut
import Derived.Test.YtjppdacikihpdaaGreatDoorBIeeex
import Derived.Test.YtjppdacikihpdaaGreatDoorS10x
import Derived.Test.YtjppdacikihpdaaGreatDoorM1x
import Derived.Laws.FloatArith
set_option linter.unusedVariables false
set_option linter.unusedSimpArgs false
set_option maxHeartbeats 16000000
set_option maxRecDepth 20000
namespace Go.Proofs.YtjppdacikihpdaaGreatDoor
section
open Go.RowKit
def Dk(w:World)(g:Nat)(n:Bool)(v:Value)(e:Int):Prop:=w.heap[g]?=some (.cells #[.bool n,v,.int .i64 e] 79 (0,0))
theorem Dk.lt{w:World}{g:Nat}{n:Bool}{v:Value}{e:Int}(h:Dk w g n v e):g<w.heap.size:=(dQ.1 h).1
theorem Qa3{P:Prop}(h:P:=by
 rw[hb.block g h.lt];exact h):P:=h
theorem Dk.below{w w':World}{g:Nat}{n:Bool}{v:Value}{e:Int}(h:Dk w g n v e)(hb:An w w'):Dk w' g n v e:=by
 unfold Dk;exact Qa3
theorem Dk.alloc{w:World}{g:Nat}{n:Bool}{v:Value}{e:Int}(h:Dk w g n v e)(o:Obj):Dk (w.alloc o) g n v e:=h.below (af w o)
theorem Dk.new(w:World)(n:Bool)(v:Value)(e:Int):Dk (w.alloc (.cells #[.bool n,v,.int .i64 e] 79)) w.heap.size n v e:=iF _ _
theorem Dk.facts{w:World}{g:Nat}{n:Bool}{v:Value}{e:Int}(h:Dk w g n v e) :
 w.cell? ⟨g,0,none⟩=some (.bool n)/\w.cell? ⟨g,1,none⟩=some v/\w.cell? ⟨g,2,none⟩=some (.int .i64 e)/\w.frozen? ⟨g,0,none⟩=false/\w.frozen? ⟨g,1,none⟩=false/\w.frozen? ⟨g,2,none⟩=false:=by
 unfold Dk at h;simp[World.cell?,World.frozen?,h]
abbrev dW(w:World)(g:Nat)(x y z:Value):World:=((w.setCell ⟨g,0,none⟩ x).setCell ⟨g,1,none⟩ y).setCell ⟨g,2,none⟩ z
theorem Ga(w:World)(g:Nat)(x y z:Value):(dW w g x y z).heap.size=w.heap.size:=by simp[dW,World.setCell]
theorem Dk.set{w:World}{g:Nat}{n:Bool}{v:Value}{e:Int}(h:Dk w g n v e)(m:Bool)(u:Value)(f:Int):Dk (dW w g (.bool m) u (.int .i64 f)) g m u f:=by
 unfold Dk at h |-;simp[dW,World.setCell,gz,h]
theorem Dk.other{w:World}{g:Nat}{n:Bool}{v:Value}{e:Int}(h:Dk w g n v e)(g':Nat)(hg:g≠g')(x y z:Value):Dk (dW w g' x y z) g n v e:=by
 unfold Dk;rw[(pW g' w x y z).block g h.lt hg];exact h
theorem Fin.dW{lo m:Nat}{w0 w:World}{v:Value}{X:Nat}(H:Fin lo m w0 w v X)(g:Nat)(x y z:Value)(h1:lo<=g)(h2:g<m):Fin lo m w0 (dW w g x y z) v X:=((H.set g 0 x h1 h2).set g 1 y h1 h2).set g 2 z h1 h2
theorem Fin.below{lo m:Nat}{w0 w w':World}{v:Value}{X:Nat}(H:Fin lo m w0 w v X)(hb:An w w'):Fin lo m w0 w' v X:=⟨H.nt.below hb,H.aF.trans (hb.mono H.size),dB H.size hb.size⟩
theorem Fin.drew{lo m:Nat}{w0 w:World}{v:Value}{X:Nat}(H:Fin lo m w0 w v X):Fin lo m w0 w.drew v X:=⟨H.nt,H.aF.drew,H.size⟩
theorem Fin.pair{lo m:Nat}{w0 w:World}{v v':Value}{X X':Nat}{n n':Bool}{e e':Int}{k:Value}(H:Fin lo m w0 w v X)(H':Fin lo m w0 w v' X')(h:lo<=m) :
 ∃p q,Ending.returned (.tuple #[.agg #[.bool n,v,.int .i64 e],.agg #[.bool n',v',.int .i64 e'],k])=.returned (.tuple #[.agg #[.bool n,p,.int .i64 e],.agg #[.bool n',q,.int .i64 e'],k])/\Nt lo w p X/\Nt lo w q X'/\Below lo w0 w:=⟨v,v',rfl,H.nt.mono h,H'.nt.mono h,H.aF⟩
theorem Br(W:World)(g h:Nat)(n m:Bool)(v u:Value)(e f k:Int)(tmps:Array Value)(ht:tmps[4]?.getD undef=.pointer (some ⟨g,0,none⟩))(hs:tmps[5]?.getD undef=.pointer (some ⟨h,0,none⟩))(hk:tmps[6]?.getD undef=.int .i64 k)(D:Dk W g n v e)(E:Dk W h m u f) :
 (results Tryz.f80 tmps).run Tryz.prog W=.ok (.tuple #[.agg #[.bool n,v,.int .i64 e],.agg #[.bool m,u,.int .i64 f],.int .i64 k]) W:=by
 obtain⟨x0,x1,x2,fA,fB,fC⟩:=D.facts;obtain⟨y0,y1,y2,dY,dZ,eB⟩:=E.facts;simp[results,Tryz.results80,ht,hs,hk,go_sem,x0,x1,x2,y0,y1,y2]
theorem Gb {w:World}{a b:Option Addr}{l c k d:Nat}{xs ys:List Nat}(h1:Arg w a l c xs) (h2:Arg w b k d ys) (hT:gP w) (n m:Bool) (e f:Int) (he0:-9223372036854775808<=e) (he1:e<=9223372036854775807) (hf0:-9223372036854775808<=f) (hf1:f<=9223372036854775807)
 (n1 m1:Bool) (X Y:Nat) (e1 f1:Int) (hx:mkS n (val xs) e=some (n1,X,e1)) (hy:mkS m (val ys) f=some (m1,Y,f1)) :
 As 80 #[.agg #[.bool n,.slice a l c,.int .i64 e],.agg #[.bool m,.slice b k d,.int .i64 f]] w λr w' =>
  ∃v u,r=.returned (.tuple #[.agg #[.bool n1,v,.int .i64 e1],.agg #[.bool m1,u,.int .i64 f1],.int .i64 0])/\Nt w.heap.size w' v X/\Nt w.heap.size w' u Y/\An w w':=by
 obtain⟨W1,hW1⟩:=ah ((((w.alloc (.cells #[.bool n,.slice a l c,.int .i64 e] 79)).alloc (.cells #[.bool m,.slice b k d,.int .i64 f] 79)).alloc (.cells zD3 79)).alloc (.cells zD3 79));have hB:An w W1:=by rw[hW1];exact(((af w _).alloc aN _).alloc (by simp;omega) _).alloc (by simp;omega) _
 have hz1:W1.heap.size=w.heap.size+4:=by rw[hW1];simp
 have D1:Dk W1 (w.heap.size+1) m (.slice b k d) f:=by rw[hW1];have:=((Dk.new (w.alloc (.cells #[.bool n,.slice a l c,.int .i64 e] 79)) m (.slice b k d) f).alloc (.cells zD3 79)).alloc (.cells zD3 79);simpa using this
 have D2:Dk W1 (w.heap.size+1+1) false (.slice none 0 0) 0:=by rw[hW1];have:=(Dk.new ((w.alloc (.cells #[.bool n,.slice a l c,.int .i64 e] 79)).alloc (.cells #[.bool m,.slice b k d,.int .i64 f] 79)) false (.slice none 0 0) 0).alloc (.cells zD3 79);simpa using this
 have D3:Dk W1 (w.heap.size+1+1+1) false (.slice none 0 0) 0:=by rw[hW1];have:=Dk.new (((w.alloc (.cells #[.bool n,.slice a l c,.int .i64 e] 79)).alloc (.cells #[.bool m,.slice b k d,.int .i64 f] 79)).alloc (.cells zD3 79)) false (.slice none 0 0) 0;simpa using this
 have jN:=nG (h1.below hB) (hT.belows hB) n e he0 he1;have kr:Hid (∀u,An w u->As 128 #[.agg #[.bool m,.slice b k d,.int .i64 f]] u λr w'=>dm u.heap.size w' r (mkS m (val ys) f)/\An u w'):=λu hu=>nG (h2.below hu) (hT.belows hu) m f hf0 hf1;have lX:(ws X).length<=8192:=by have:=aR n (val xs) e;rw[hx] at this;exact this
 have lY:(ws Y).length<=8192:=by have:=aR m (val ys) f;rw[hy] at this;exact this
 rw[hx] at jN;rw[hy] at kr;simp only[dm,dN,dX,dE,xG,Option.isSome,Option.getD,if_true,eX,if_false] at jN kr;have H1:=hid jN;have SB:=(gy hB hz1 D1 D2 D3);clear jN h1 h2 hT hx hy he0 he1 hf0 hf1 hB hz1 D1 D2 D3;go_enter Tryz.func80,Tryz.ntmps80;go_wp2_with fail;rw[<-hW1];clear hW1;refine H1.o.mono ?_;rintro r u1 ⟨⟨v,rfl,hN⟩,hb⟩;obtain⟨a1,c1,rfl,_⟩:=hN.arg ae;obtain⟨hB,hz1,D1,D2,D3⟩:=SB.o;have E1:=D1.below hb;have E2:=D2.below hb;have E3:=D3.below hb;obtain⟨p0,p1,p2,Sj,Sk,Sl⟩:=E1.facts;obtain⟨q0,q1,q2,Gc,Gd,Gf⟩:=E2.facts;have F1:Fin w.heap.size (w.heap.size+4) w u1 (.slice a1 (ws X).length c1) X:=⟨by rw[<-hz1];exact hN,hB.trans (hb.mono ae),by have:=hb.size;omega⟩;obtain⟨U1,aX⟩:=ah (dW u1 (w.heap.size+1+1) (.bool n1) (.slice a1 (ws X).length c1) (.int .i64 e1));have G1:Fin w.heap.size (w.heap.size+4) w U1 (.slice a1 (ws X).length c1) X:=by rw[aX];exact F1.dW _ _ _ _ ae ae
 have I2:Dk U1 (w.heap.size+1+1) n1 (.slice a1 (ws X).length c1) e1:=by rw[aX];exact E2.set _ _ _
 have I3:Dk U1 (w.heap.size+1+1+1) false (.slice none 0 0) 0:=by rw[aX];exact E3.other _ ae _ _ _
 have I1:Dk U1 (w.heap.size+1) m (.slice b k d) f:=by rw[aX];exact E1.other _ ae _ _ _
 have hsz1:U1.heap.size=u1.heap.size:=by rw[aX];exact Ga _ _ _ _ _
 have H2:=hid (kr.o _ G1.aF);have S1:=(gp G1 I2 I3);obtain⟨i0,i1,i2,if0,if1,if2⟩:=I1.facts;have Og:w.heap.size+4<=U1.heap.size:=by rw[hsz1];have:=hb.size;omega
 clear hN hb F1 G1 H1 hB hz1 D1 D2 D3 E1 E2 E3 I2 I3 I1 SB hsz1;unfold dW at aX;go_wp2_with fail;rw[<-aX];clear aX;refine H2.o.mono ?_;rintro r u2 ⟨⟨v,rfl,hN⟩,hb⟩;obtain⟨a2,c2,rfl,_⟩:=hN.arg ae;obtain⟨G1,I2,I3⟩:=S1.o;have J2:=I2.below hb;have J3:=I3.below hb;obtain⟨U2,dK⟩:=ah (dW u2 (w.heap.size+1+1+1) (.bool m1) (.slice a2 (ws Y).length c2) (.int .i64 f1));have K2:Dk U2 (w.heap.size+1+1) n1 (.slice a1 (ws X).length c1) e1:=by rw[dK];exact J2.other _ ae _ _ _
 have K3:Dk U2 (w.heap.size+1+1+1) m1 (.slice a2 (ws Y).length c2) f1:=by rw[dK];exact J3.set _ _ _
 have Q1:=ak (show Fin w.heap.size (w.heap.size+4) w U2 (.slice a1 (ws X).length c1) X by rw[dK];exact(G1.below hb).dW _ _ _ _ ae ae);have Q2:=ak (show Fin w.heap.size (w.heap.size+4) w U2 (.slice a2 (ws Y).length c2) Y by rw[dK];exact Fin.dW ⟨hN.mono Og,(G1.below hb).aF,(G1.below hb).size⟩ _ _ _ _ ae ae);obtain⟨s0,s1,s2,Bt,Bu,Bw⟩:=J3.facts;obtain⟨x0,x1,x2,fA,fB,fC⟩:=K2.facts;obtain⟨y0,y1,y2,dY,dZ,eB⟩:=K3.facts;clear hN hb H2 S1 G1 I2 I3 J2 J3 K2 K3;unfold dW at dK;go_wp2;rw[<-dK];clear dK kr
 go_region
 all_goals (
  go_wp2;refine aH (v:=.tuple #[.agg #[.bool n1,.slice a1 (ws X).length c1,.int .i64 e1],.agg #[.bool m1,.slice a2 (ws Y).length c2,.int .i64 f1],.int .i64 0]) (by simp[results,Tryz.results80,go_sem,x0,x1,x2,y0,y1,y2]) rfl ?_;refine Fin.pair (m:=w.heap.size+4) ?_ ?_ ae
  . repeat (with_reducible first | exact Q1.o | refine Fin.drew ?_ | refine Fin.alloc ?_ _ | refine Fin.set ?_ _ _ _ ae ae)
  . repeat (with_reducible first | exact Q2.o | refine Fin.drew ?_ | refine Fin.alloc ?_ _ | refine Fin.set ?_ _ _ _ ae ae))
theorem zg {w:World}{a b:Option Addr}{l c k d:Nat}{xs ys:List Nat}(h1:Arg w a l c xs) (h2:Arg w b k d ys) (hT:gP w) (n m:Bool) (e f:Int) (he0:-9223372036854775808<=e) (he1:e<=9223372036854775807) (hf0:-9223372036854775808<=f) (hf1:f<=9223372036854775807)
 (hx:mkS n (val xs) e=none) :
 As 80 #[.agg #[.bool n,.slice a l c,.int .i64 e],.agg #[.bool m,.slice b k d,.int .i64 f]] w λr w' =>
  r=.returned (.tuple #[.agg zD3,.agg zD3,.int .i64 2])/\An w w':=by
 obtain⟨W1,hW1⟩:=ah ((((w.alloc (.cells #[.bool n,.slice a l c,.int .i64 e] 79)).alloc (.cells #[.bool m,.slice b k d,.int .i64 f] 79)).alloc (.cells zD3 79)).alloc (.cells zD3 79));have hB:An w W1:=by rw[hW1];exact(((af w _).alloc aN _).alloc (by simp;omega) _).alloc (by simp;omega) _
 have hz1:W1.heap.size=w.heap.size+4:=by rw[hW1];simp
 have D1:Dk W1 (w.heap.size+1) m (.slice b k d) f:=by rw[hW1];have:=((Dk.new (w.alloc (.cells #[.bool n,.slice a l c,.int .i64 e] 79)) m (.slice b k d) f).alloc (.cells zD3 79)).alloc (.cells zD3 79);simpa using this
 have D2:Dk W1 (w.heap.size+1+1) false (.slice none 0 0) 0:=by rw[hW1];have:=(Dk.new ((w.alloc (.cells #[.bool n,.slice a l c,.int .i64 e] 79)).alloc (.cells #[.bool m,.slice b k d,.int .i64 f] 79)) false (.slice none 0 0) 0).alloc (.cells zD3 79);simpa using this
 have D3:Dk W1 (w.heap.size+1+1+1) false (.slice none 0 0) 0:=by rw[hW1];have:=Dk.new (((w.alloc (.cells #[.bool n,.slice a l c,.int .i64 e] 79)).alloc (.cells #[.bool m,.slice b k d,.int .i64 f] 79)).alloc (.cells zD3 79)) false (.slice none 0 0) 0;simpa using this
 have jN:=nG (h1.below hB) (hT.belows hB) n e he0 he1;have l0:(ws 0).length=0:=by rw[cB];rfl
 rw[hx] at jN;simp only[dm,dN,dX,dE,xG,Option.isSome,Option.getD,if_true,eX,if_false] at jN;have H1:=hid jN;have SB:=(gy hB hz1 D1 D2 D3);clear jN h1 h2 hT hx he0 he1 hf0 hf1 hB hz1 D1 D2 D3;go_enter Tryz.func80,Tryz.ntmps80;go_wp2_with fail;rw[<-hW1];clear hW1;refine H1.o.mono ?_;rintro r u1 ⟨⟨v,rfl,hN⟩,hb⟩;obtain⟨a1,c1,rfl,_⟩:=hN.arg ae;obtain⟨hB,hz1,D1,D2,D3⟩:=SB.o;have E2:=D2.below hb;have E3:=D3.below hb;obtain⟨q0,q1,q2,Gc,Gd,Gf⟩:=E2.facts;obtain⟨y0,y1,y2,dY,dZ,eB⟩:=E3.facts;have F1:=ak (show Fin w.heap.size (w.heap.size+4) w u1 (.slice none 0 0) 0 from⟨Nt.nil _ _,hB.trans (hb.mono ae),by have:=hb.size;omega⟩);have SE:=(bA E2 E3);clear hN hb H1 hB hz1 D1 D2 D3 E2 E3 SB;go_wp2;obtain⟨E2,E3⟩:=SE.o;refine aH (Br _ (w.heap.size+1+1) (w.heap.size+1+1+1) false false (.slice none 0 0) (.slice none 0 0) 0 0 2 _ rfl rfl rfl (((E2.set _ _ _).set _ _ _).other _ ae _ _ _) (((E3.other _ ae _ _ _).other _ ae _ _ _).set _ _ _)) rfl ⟨rfl,?_⟩;refine Fin.aF (m:=w.heap.size+4) (v:=.slice none 0 0) (X:=0) ?_
 repeat (with_reducible first | exact F1.o | refine Fin.drew ?_ | refine Fin.alloc ?_ _ | refine Fin.set ?_ _ _ _ ae ae)
theorem zh {w:World}{a b:Option Addr}{l c k d:Nat}{xs ys:List Nat}(h1:Arg w a l c xs) (h2:Arg w b k d ys) (hT:gP w) (n m:Bool) (e f:Int) (he0:-9223372036854775808<=e) (he1:e<=9223372036854775807) (hf0:-9223372036854775808<=f) (hf1:f<=9223372036854775807)
 (n1:Bool) (X:Nat) (e1:Int) (hx:mkS n (val xs) e=some (n1,X,e1)) (hy:mkS m (val ys) f=none) :
 As 80 #[.agg #[.bool n,.slice a l c,.int .i64 e],.agg #[.bool m,.slice b k d,.int .i64 f]] w λr w' =>
  r=.returned (.tuple #[.agg zD3,.agg zD3,.int .i64 2])/\An w w':=by
 obtain⟨W1,hW1⟩:=ah ((((w.alloc (.cells #[.bool n,.slice a l c,.int .i64 e] 79)).alloc (.cells #[.bool m,.slice b k d,.int .i64 f] 79)).alloc (.cells zD3 79)).alloc (.cells zD3 79));have hB:An w W1:=by rw[hW1];exact(((af w _).alloc aN _).alloc (by simp;omega) _).alloc (by simp;omega) _
 have hz1:W1.heap.size=w.heap.size+4:=by rw[hW1];simp
 have D1:Dk W1 (w.heap.size+1) m (.slice b k d) f:=by rw[hW1];have:=((Dk.new (w.alloc (.cells #[.bool n,.slice a l c,.int .i64 e] 79)) m (.slice b k d) f).alloc (.cells zD3 79)).alloc (.cells zD3 79);simpa using this
 have D2:Dk W1 (w.heap.size+1+1) false (.slice none 0 0) 0:=by rw[hW1];have:=(Dk.new ((w.alloc (.cells #[.bool n,.slice a l c,.int .i64 e] 79)).alloc (.cells #[.bool m,.slice b k d,.int .i64 f] 79)) false (.slice none 0 0) 0).alloc (.cells zD3 79);simpa using this
 have D3:Dk W1 (w.heap.size+1+1+1) false (.slice none 0 0) 0:=by rw[hW1];have:=Dk.new (((w.alloc (.cells #[.bool n,.slice a l c,.int .i64 e] 79)).alloc (.cells #[.bool m,.slice b k d,.int .i64 f] 79)).alloc (.cells zD3 79)) false (.slice none 0 0) 0;simpa using this
 have jN:=nG (h1.below hB) (hT.belows hB) n e he0 he1;have kr:Hid (∀u,An w u->As 128 #[.agg #[.bool m,.slice b k d,.int .i64 f]] u λr w'=>dm u.heap.size w' r (mkS m (val ys) f)/\An u w'):=λu hu=>nG (h2.below hu) (hT.belows hu) m f hf0 hf1;have lX:(ws X).length<=8192:=by have:=aR n (val xs) e;rw[hx] at this;exact this
 have l0:(ws 0).length=0:=by rw[cB];rfl
 rw[hx] at jN;rw[hy] at kr;simp only[dm,dN,dX,dE,xG,Option.isSome,Option.getD,if_true,eX,if_false] at jN kr;have H1:=hid jN;have SB:=(gy hB hz1 D1 D2 D3);clear jN h1 h2 hT hx hy he0 he1 hf0 hf1 hB hz1 D1 D2 D3;go_enter Tryz.func80,Tryz.ntmps80;go_wp2_with fail;rw[<-hW1];clear hW1;refine H1.o.mono ?_;rintro r u1 ⟨⟨v,rfl,hN⟩,hb⟩;obtain⟨a1,c1,rfl,_⟩:=hN.arg ae;obtain⟨hB,hz1,D1,D2,D3⟩:=SB.o;have E1:=D1.below hb;have E2:=D2.below hb;have E3:=D3.below hb;obtain⟨p0,p1,p2,Sj,Sk,Sl⟩:=E1.facts;obtain⟨q0,q1,q2,Gc,Gd,Gf⟩:=E2.facts;have F1:Fin w.heap.size (w.heap.size+4) w u1 (.slice a1 (ws X).length c1) X:=⟨by rw[<-hz1];exact hN,hB.trans (hb.mono ae),by have:=hb.size;omega⟩;obtain⟨U1,aX⟩:=ah (dW u1 (w.heap.size+1+1) (.bool n1) (.slice a1 (ws X).length c1) (.int .i64 e1));have G1:Fin w.heap.size (w.heap.size+4) w U1 (.slice a1 (ws X).length c1) X:=by rw[aX];exact F1.dW _ _ _ _ ae ae
 have I2:Dk U1 (w.heap.size+1+1) n1 (.slice a1 (ws X).length c1) e1:=by rw[aX];exact E2.set _ _ _
 have I3:Dk U1 (w.heap.size+1+1+1) false (.slice none 0 0) 0:=by rw[aX];exact E3.other _ ae _ _ _
 have I1:Dk U1 (w.heap.size+1) m (.slice b k d) f:=by rw[aX];exact E1.other _ ae _ _ _
 have hsz1:U1.heap.size=u1.heap.size:=by rw[aX];exact Ga _ _ _ _ _
 have H2:=hid (kr.o _ G1.aF);have S1:=(gp G1 I2 I3);obtain⟨i0,i1,i2,if0,if1,if2⟩:=I1.facts;have Og:w.heap.size+4<=U1.heap.size:=by rw[hsz1];have:=hb.size;omega
 clear hN hb F1 G1 H1 hB hz1 D1 D2 D3 E1 E2 E3 I2 I3 I1 SB hsz1;unfold dW at aX;go_wp2_with fail;rw[<-aX];clear aX;refine H2.o.mono ?_;rintro r u2 ⟨⟨v,rfl,hN⟩,hb⟩;obtain⟨a2,c2,rfl,_⟩:=hN.arg ae;obtain⟨G1,I2,I3⟩:=S1.o;have J2:=I2.below hb;have J3:=I3.below hb;have Q1:=ak (G1.below hb);obtain⟨s0,s1,s2,Bt,Bu,Bw⟩:=J3.facts;obtain⟨x0,x1,x2,fA,fB,fC⟩:=J2.facts;have SE:=(bA J2 J3);clear hN hb H2 S1 G1 I2 I3 J2 J3;go_wp2;obtain⟨E2,E3⟩:=SE.o;refine aH (Br _ (w.heap.size+1+1) (w.heap.size+1+1+1) false false (.slice none 0 0) (.slice none 0 0) 0 0 2 _ rfl rfl rfl (((E2.other _ ae _ _ _).set _ _ _).other _ ae _ _ _) (((E3.set _ _ _).other _ ae _ _ _).set _ _ _)) rfl ⟨rfl,?_⟩;refine Fin.aF (m:=w.heap.size+4) (v:=.slice a1 (ws X).length c1) (X:=X) ?_
 repeat (with_reducible first | exact Q1.o | refine Fin.drew ?_ | refine Fin.alloc ?_ _ | refine Fin.set ?_ _ _ _ ae ae)
theorem kT(W:World)(g:Nat)(n:Bool)(v:Value)(e k:Int)(tmps:Array Value)(ht:tmps[4]?.getD undef=.pointer (some ⟨g,0,none⟩))(hk:tmps[5]?.getD undef=.int .i64 k)(D:Dk W g n v e) :
 (results Tryz.f51 tmps).run Tryz.prog W=.ok (.tuple #[.agg #[.bool n,v,.int .i64 e],.int .i64 k]) W:=by
 obtain⟨x0,x1,x2,fA,fB,fC⟩:=D.facts;simp[results,Tryz.results51,ht,hk,go_sem,x0,x1,x2]
theorem aZ(w:World)(n m:Bool)(v u:Value)(e f:Int)(W:World)(hW:W=((w.alloc (.cells #[.bool n,v,.int .i64 e] 79)).alloc (.cells #[.bool m,u,.int .i64 f] 79)).alloc (.cells zD3 79)) :
 An w W/\W.heap.size=w.heap.size+3/\Dk W w.heap.size n v e/\Dk W (w.heap.size+1) m u f/\Dk W (w.heap.size+1+1) false (.slice none 0 0) 0:=by
 subst hW;refine⟨((af w _).alloc aN _).alloc (by simp;omega) _,aN,((Dk.new w n v e).alloc _).alloc _,?_,?_⟩
 . have:=(Dk.new (w.alloc (.cells #[.bool n,v,.int .i64 e] 79)) m u f).alloc (.cells zD3 79);simpa using this
 . have:=Dk.new ((w.alloc (.cells #[.bool n,v,.int .i64 e] 79)).alloc (.cells #[.bool m,u,.int .i64 f] 79)) false (.slice none 0 0) 0;simpa using this
theorem xf{P:Prop}(h:P:=by
 refine Fin.aF (m:=w.heap.size+3) (v:=.slice none 0 0) (X:=0) ?_
 repeat (with_reducible first | exact F1.o | refine Fin.drew ?_ | refine Fin.alloc ?_ _ | refine Fin.set ?_ _ _ _ ae ae)):P:=h
theorem LW{w:World}{a b:Option Addr}{l c k d:Nat}(n m:Bool)(e f:Int)(lT:Hid (∀u,An w u->At 80 #[.agg #[.bool n,.slice a l c,.int .i64 e],.agg #[.bool m,.slice b k d,.int .i64 f]] u (.tuple #[.agg zD3,.agg zD3,.int .i64 2]))):At 51 #[.agg #[.bool n,.slice a l c,.int .i64 e],.agg #[.bool m,.slice b k d,.int .i64 f]] w (.tuple #[.agg zD3,.int .i64 2]):=by
 obtain⟨W1,hW1⟩:=ah (((w.alloc (.cells #[.bool n,.slice a l c,.int .i64 e] 79)).alloc (.cells #[.bool m,.slice b k d,.int .i64 f] 79)).alloc (.cells zD3 79));obtain⟨hB,hz1,DA,DB,DR⟩:=aZ w n m (.slice a l c) (.slice b k d) e f W1 hW1;have H1:=hid (lT.o W1 hB);have SB:=(gy hB hz1 DA DB DR);clear hB hz1 DA DB DR lT;go_enter Tryz.func51,Tryz.ntmps51;go_wp2_with fail;rw[<-hW1];clear hW1;refine H1.o.mono ?_;rintro r u1 ⟨rfl,hb⟩;obtain⟨hB,hz1,DA,DB,DR⟩:=SB.o;have EA:=DA.below hb;have EB:=DB.below hb;have ER:=DR.below hb;obtain⟨x0,x1,x2,fA,fB,fC⟩:=EA.facts;obtain⟨y0,y1,y2,dY,dZ,eB⟩:=EB.facts;obtain⟨r0,r1,r2,gK,gL,gM⟩:=ER.facts;have F1:=ak (show Fin w.heap.size (w.heap.size+3) w u1 (.slice none 0 0) 0 from⟨Nt.nil _ _,hB.trans (hb.mono ae),by have:=hb.size;omega⟩);have SE:=ak ER;clear hb H1 hB hz1 DA DB DR EA EB ER SB;go_wp2;refine aH (kT _ (w.heap.size+1+1) false (.slice none 0 0) 0 2 _ rfl rfl (((SE.o.other _ ae _ _ _).other _ ae _ _ _).set _ _ _)) rfl ⟨rfl,?_⟩;exact xf
theorem Sm {w:World}{a b:Option Addr}{l c k d:Nat}(n m:Bool) (e f:Int) (n1 m1:Bool) (X Y:Nat) (e1 f1:Int) (lX:(ws X).length<=8192) (lY:(ws Y).length<=8192) (hX:(ws X).length=0)
 (lT:Hid (∀u,An w u->As 80 #[.agg #[.bool n,.slice a l c,.int .i64 e],.agg #[.bool m,.slice b k d,.int .i64 f]] u λr w'=>∃v v',r=.returned (.tuple #[.agg #[.bool n1,v,.int .i64 e1],.agg #[.bool m1,v',.int .i64 f1],.int .i64 0])/\Nt u.heap.size w' v X/\Nt u.heap.size w' v' Y/\An u w')):As 51 #[.agg #[.bool n,.slice a l c,.int .i64 e],.agg #[.bool m,.slice b k d,.int .i64 f]] w λr w'=>dm w.heap.size w' r (some (m1,Y,f1))/\An w w':=by
 obtain⟨W1,hW1⟩:=ah (((w.alloc (.cells #[.bool n,.slice a l c,.int .i64 e] 79)).alloc (.cells #[.bool m,.slice b k d,.int .i64 f] 79)).alloc (.cells zD3 79));obtain⟨hB,hz1,DA,DB,DR⟩:=aZ w n m (.slice a l c) (.slice b k d) e f W1 hW1;have H1:=hid (lT.o W1 hB);have SB:=(gy hB hz1 DA DB DR);clear hB hz1 DA DB DR lT;go_enter Tryz.func51,Tryz.ntmps51;go_wp2_with fail;rw[<-hW1];clear hW1;refine H1.o.mono ?_;rintro r u1 ⟨v,v',rfl,hN,hM,hb⟩;obtain⟨a1,c1,rfl,_⟩:=hN.arg ae;obtain⟨a2,c2,rfl,_⟩:=hM.arg ae;obtain⟨hB,hz1,DA,DB,DR⟩:=SB.o;have EA:=DA.below hb;have EB:=DB.below hb;have ER:=DR.below hb;obtain⟨x0,x1,x2,fA,fB,fC⟩:=EA.facts;obtain⟨y0,y1,y2,dY,dZ,eB⟩:=EB.facts;obtain⟨r0,r1,r2,gK,gL,gM⟩:=ER.facts;have FX:=ak (show Fin w.heap.size (w.heap.size+3) w u1 (.slice a1 (ws X).length c1) X from⟨by rw[<-hz1];exact hN,hB.trans (hb.mono ae),by have:=hb.size;omega⟩);have FY:=ak (show Fin w.heap.size (w.heap.size+3) w u1 (.slice a2 (ws Y).length c2) Y from⟨by rw[<-hz1];exact hM,hB.trans (hb.mono ae),by have:=hb.size;omega⟩);have SE:=(gp EA EB ER);clear hN hM hb H1 hB hz1 DA DB DR EA EB ER SB
 try rw[hX]
 go_wp2;refine aH (kT _ (w.heap.size+1+1) m1 (.slice a2 (ws Y).length c2) f1 0 _ rfl rfl (((SE.o.r2.other _ ae _ _ _).other _ ae _ _ _).set _ _ _)) rfl ?_;refine Fin.j4 (m:=w.heap.size+3) ?_ ae
 repeat (with_reducible first | exact FY.o | refine Fin.drew ?_ | refine Fin.alloc ?_ _ | refine Fin.set ?_ _ _ _ ae ae)
 exact FY.o
theorem Oo {w:World}{a b:Option Addr}{l c k d:Nat}(n m:Bool) (e f:Int) (n1 m1:Bool) (X Y:Nat) (e1 f1:Int) (lX:(ws X).length<=8192) (lY:(ws Y).length<=8192) (hX:((((ws X).length:Nat):Int)==0)=false) (hY:(ws Y).length=0)
 (lT:Hid (∀u,An w u->As 80 #[.agg #[.bool n,.slice a l c,.int .i64 e],.agg #[.bool m,.slice b k d,.int .i64 f]] u λr w'=>∃v v',r=.returned (.tuple #[.agg #[.bool n1,v,.int .i64 e1],.agg #[.bool m1,v',.int .i64 f1],.int .i64 0])/\Nt u.heap.size w' v X/\Nt u.heap.size w' v' Y/\An u w')):As 51 #[.agg #[.bool n,.slice a l c,.int .i64 e],.agg #[.bool m,.slice b k d,.int .i64 f]] w λr w'=>dm w.heap.size w' r (some (n1,X,e1))/\An w w':=by
 obtain⟨W1,hW1⟩:=ah (((w.alloc (.cells #[.bool n,.slice a l c,.int .i64 e] 79)).alloc (.cells #[.bool m,.slice b k d,.int .i64 f] 79)).alloc (.cells zD3 79));obtain⟨hB,hz1,DA,DB,DR⟩:=aZ w n m (.slice a l c) (.slice b k d) e f W1 hW1;have H1:=hid (lT.o W1 hB);have SB:=(gy hB hz1 DA DB DR);clear hB hz1 DA DB DR lT;go_enter Tryz.func51,Tryz.ntmps51;go_wp2_with fail;rw[<-hW1];clear hW1;refine H1.o.mono ?_;rintro r u1 ⟨v,v',rfl,hN,hM,hb⟩;obtain⟨a1,c1,rfl,_⟩:=hN.arg ae;obtain⟨a2,c2,rfl,_⟩:=hM.arg ae;obtain⟨hB,hz1,DA,DB,DR⟩:=SB.o;have EA:=DA.below hb;have EB:=DB.below hb;have ER:=DR.below hb;obtain⟨x0,x1,x2,fA,fB,fC⟩:=EA.facts;obtain⟨y0,y1,y2,dY,dZ,eB⟩:=EB.facts;obtain⟨r0,r1,r2,gK,gL,gM⟩:=ER.facts;have FX:=ak (show Fin w.heap.size (w.heap.size+3) w u1 (.slice a1 (ws X).length c1) X from⟨by rw[<-hz1];exact hN,hB.trans (hb.mono ae),by have:=hb.size;omega⟩);have FY:=ak (show Fin w.heap.size (w.heap.size+3) w u1 (.slice a2 (ws Y).length c2) Y from⟨by rw[<-hz1];exact hM,hB.trans (hb.mono ae),by have:=hb.size;omega⟩);have SE:=(gp EA EB ER);clear hN hM hb H1 hB hz1 DA DB DR EA EB ER SB
 try rw[hX]
 go_wp2;refine aH (kT _ (w.heap.size+1+1) n1 (.slice a1 (ws X).length c1) e1 0 _ rfl rfl (((SE.o.r2.other _ ae _ _ _).other _ ae _ _ _).set _ _ _)) rfl ?_;refine Fin.j4 (m:=w.heap.size+3) ?_ ae
 repeat (with_reducible first | exact FX.o | refine Fin.drew ?_ | refine Fin.alloc ?_ _ | refine Fin.set ?_ _ _ _ ae ae)
 exact FX.o
theorem Oq {w:World}{a b:Option Addr}{l c k d:Nat}(n m:Bool) (e f:Int) (n1 m1:Bool) (X Y:Nat) (e1 f1:Int) (lX:(ws X).length<=8192) (lY:(ws Y).length<=8192) (hX:((((ws X).length:Nat):Int)==0)=false) (hY:((((ws Y).length:Nat):Int)==0)=false) (hlt:decide (e1<f1)=false) (Ot:-1048576<=e1) (Ou:e1<=1048576) (Ov:-1048576<=f1) (Ow:f1<=1048576)
 (lT:Hid (∀u,An w u->As 80 #[.agg #[.bool n,.slice a l c,.int .i64 e],.agg #[.bool m,.slice b k d,.int .i64 f]] u λr w'=>∃v v',r=.returned (.tuple #[.agg #[.bool n1,v,.int .i64 e1],.agg #[.bool m1,v',.int .i64 f1],.int .i64 0])/\Nt u.heap.size w' v X/\Nt u.heap.size w' v' Y/\An u w'))
 (wU:Hid (∀(u:World) (p:Option Addr) (q:Nat),An w u->Arg u p (ws X).length q (ws X)->As 81 #[.slice p (ws X).length q,.int .i64 (e1-f1)] u λr w'=>∃v,r=.returned (.tuple #[v,.int .i64 2])/\Nt u.heap.size w' v 0/\An u w')):At 51 #[.agg #[.bool n,.slice a l c,.int .i64 e],.agg #[.bool m,.slice b k d,.int .i64 f]] w (.tuple #[.agg zD3,.int .i64 2]):=by
 have l0:(ws 0).length=0:=by rw[cB];rfl
 obtain⟨W1,hW1⟩:=ah (((w.alloc (.cells #[.bool n,.slice a l c,.int .i64 e] 79)).alloc (.cells #[.bool m,.slice b k d,.int .i64 f] 79)).alloc (.cells zD3 79));obtain⟨hB,hz1,DA,DB,DR⟩:=aZ w n m (.slice a l c) (.slice b k d) e f W1 hW1;have H1:=hid (lT.o W1 hB);have SB:=(gy hB hz1 DA DB DR);clear hB hz1 DA DB DR lT;go_enter Tryz.func51,Tryz.ntmps51;go_wp2_with fail;rw[<-hW1];clear hW1;refine H1.o.mono ?_;rintro r u1 ⟨v,v',rfl,hN,hM,hb⟩;obtain⟨a1,c1,rfl,_⟩:=hN.arg ae;obtain⟨a2,c2,rfl,_⟩:=hM.arg ae;obtain⟨hB,hz1,DA,DB,DR⟩:=SB.o;have EA:=DA.below hb;have EB:=DB.below hb;have ER:=DR.below hb;obtain⟨x0,x1,x2,fA,fB,fC⟩:=EA.facts;obtain⟨y0,y1,y2,dY,dZ,eB⟩:=EB.facts;obtain⟨r0,r1,r2,gK,gL,gM⟩:=ER.facts;have FX:=ak (show Fin w.heap.size (w.heap.size+3) w u1 (.slice a1 (ws X).length c1) X from⟨by rw[<-hz1];exact hN,hB.trans (hb.mono ae),by have:=hb.size;omega⟩);have FY:=ak (show Fin w.heap.size (w.heap.size+3) w u1 (.slice a2 (ws Y).length c2) Y from⟨by rw[<-hz1];exact hM,hB.trans (hb.mono ae),by have:=hb.size;omega⟩);have SE:=(gp EA EB ER);clear hN hM hb H1 hB hz1 DA DB DR EA EB ER SB;obtain⟨EA,EB,ER⟩:=SE.o;obtain⟨U1,aX⟩:=ah (dW (dW u1 w.heap.size (.bool n1) (.slice a1 (ws X).length c1) (.int .i64 e1)) (w.heap.size+1) (.bool m1) (.slice a2 (ws Y).length c2) (.int .i64 f1));have IA:Dk U1 w.heap.size n1 (.slice a1 (ws X).length c1) e1:=by rw[aX];exact((EA.set _ _ _).other _ ae _ _ _)
 have IB:Dk U1 (w.heap.size+1) m1 (.slice a2 (ws Y).length c2) f1:=by rw[aX];exact((EB.other _ ae _ _ _).set _ _ _)
 have IR:Dk U1 (w.heap.size+1+1) false (.slice none 0 0) 0:=by rw[aX];exact((ER.other _ ae _ _ _).other _ ae _ _ _)
 have GX:Fin w.heap.size (w.heap.size+3) w U1 (.slice a1 (ws X).length c1) X:=by rw[aX];exact(Fin.dW (Fin.dW FX.o _ _ _ _ ae ae) _ _ _ _ ae ae)
 have GY:Fin w.heap.size (w.heap.size+3) w U1 (.slice a2 (ws Y).length c2) Y:=by rw[aX];exact(Fin.dW (Fin.dW FY.o _ _ _ _ ae ae) _ _ _ _ ae ae)
 have H2:=hid (wU.o U1 a1 c1 GX.aF (GX.nt.bS ae).2);have S1:=(gy IA IB IR GX GY);have hzU:w.heap.size+3<=U1.heap.size:=by have:=IR.lt;omega
 clear EA EB ER IA IB IR GX GY SE wU;unfold dW at aX;go_wp2_with fail;rw[<-aX];clear aX x0 x1 x2 fA fB fC y0 y1 y2 dY dZ eB r0 r1 r2 gK gL gM;refine H2.o.mono ?_;rintro r u2 ⟨v,rfl,hN,hb⟩;obtain⟨a3,c3,rfl,_⟩:=hN.arg ae;obtain⟨IA,IB,IR,GX,GY⟩:=S1.o;obtain⟨x0,x1,x2,fA,fB,fC⟩:=(IA.below hb).facts;obtain⟨y0,y1,y2,dY,dZ,eB⟩:=(IB.below hb).facts;obtain⟨r0,r1,r2,gK,gL,gM⟩:=(IR.below hb).facts;have S2:=(bA (IR.below hb) ((GX.below hb)));clear hN hb H2 S1 IA IB IR GX GY;go_wp2;refine aH (kT _ (w.heap.size+1+1) false (.slice none 0 0) 0 2 _ rfl rfl (S2.o.1.set _ _ _)) rfl ⟨rfl,?_⟩;refine Fin.aF (m:=w.heap.size+3) (v:=.slice a1 (ws X).length c1) (X:=X) ?_
 repeat (with_reducible first | exact S2.o.2 | refine Fin.drew ?_ | refine Fin.alloc ?_ _ | refine Fin.set ?_ _ _ _ ae ae)
theorem Sn {w:World}{a b:Option Addr}{l c k d:Nat}(n m:Bool) (e f:Int) (n1 m1:Bool) (X Y:Nat) (e1 f1:Int) (lX:(ws X).length<=8192) (lY:(ws Y).length<=8192) (hX:((((ws X).length:Nat):Int)==0)=false) (hY:((((ws Y).length:Nat):Int)==0)=false) (hlt:decide (e1<f1)=false) (Ot:-1048576<=e1) (Ou:e1<=1048576) (Ov:-1048576<=f1) (Ow:f1<=1048576)
 (lT:Hid (∀u,An w u->As 80 #[.agg #[.bool n,.slice a l c,.int .i64 e],.agg #[.bool m,.slice b k d,.int .i64 f]] u λr w'=>∃v v',r=.returned (.tuple #[.agg #[.bool n1,v,.int .i64 e1],.agg #[.bool m1,v',.int .i64 f1],.int .i64 0])/\Nt u.heap.size w' v X/\Nt u.heap.size w' v' Y/\An u w')) (hs:(n1==m1)=true) (L:Nat) (lL:(ws L).length<=8192) (dn:Bool) (V:Nat) (de er:Int) (lV:(ws V).length<=8192)
 (wU:Hid (∀(u:World) (p:Option Addr) (q:Nat),An w u->Arg u p (ws X).length q (ws X)->As 81 #[.slice p (ws X).length q,.int .i64 (e1-f1)] u λr w'=>∃v,r=.returned (.tuple #[v,.int .i64 0])/\Nt u.heap.size w' v L/\An u w'))
 (HT:Hid (∀(u:World) (p q:Option Addr) (s t:Nat),An w u->Arg u p (ws L).length s (ws L)->Arg u q (ws Y).length t (ws Y)->As 82 #[.bool n1,.slice p (ws L).length s,.slice q (ws Y).length t,.int .i64 f1] u λr w'=>(∃v,r=.returned (.tuple #[.agg #[.bool dn,v,.int .i64 de],.int .i64 er])/\Nt u.heap.size w' v V)/\An u w')):As 51 #[.agg #[.bool n,.slice a l c,.int .i64 e],.agg #[.bool m,.slice b k d,.int .i64 f]] w λr w'=>(∃v,r=.returned (.tuple #[.agg #[.bool dn,v,.int .i64 de],.int .i64 er])/\Nt w.heap.size w' v V)/\An w w':=by
 obtain⟨W1,hW1⟩:=ah (((w.alloc (.cells #[.bool n,.slice a l c,.int .i64 e] 79)).alloc (.cells #[.bool m,.slice b k d,.int .i64 f] 79)).alloc (.cells zD3 79));obtain⟨hB,hz1,DA,DB,DR⟩:=aZ w n m (.slice a l c) (.slice b k d) e f W1 hW1;have H1:=hid (lT.o W1 hB);have SB:=(gy hB hz1 DA DB DR);clear hB hz1 DA DB DR lT;go_enter Tryz.func51,Tryz.ntmps51;go_wp2_with fail;rw[<-hW1];clear hW1;refine H1.o.mono ?_;rintro r u1 ⟨v,v',rfl,hN,hM,hb⟩;obtain⟨a1,c1,rfl,_⟩:=hN.arg ae;obtain⟨a2,c2,rfl,_⟩:=hM.arg ae;obtain⟨hB,hz1,DA,DB,DR⟩:=SB.o;have EA:=DA.below hb;have EB:=DB.below hb;have ER:=DR.below hb;obtain⟨x0,x1,x2,fA,fB,fC⟩:=EA.facts;obtain⟨y0,y1,y2,dY,dZ,eB⟩:=EB.facts;obtain⟨r0,r1,r2,gK,gL,gM⟩:=ER.facts;have FX:=ak (show Fin w.heap.size (w.heap.size+3) w u1 (.slice a1 (ws X).length c1) X from⟨by rw[<-hz1];exact hN,hB.trans (hb.mono ae),by have:=hb.size;omega⟩);have FY:=ak (show Fin w.heap.size (w.heap.size+3) w u1 (.slice a2 (ws Y).length c2) Y from⟨by rw[<-hz1];exact hM,hB.trans (hb.mono ae),by have:=hb.size;omega⟩);have SE:=(gp EA EB ER);clear hN hM hb H1 hB hz1 DA DB DR EA EB ER SB;obtain⟨EA,EB,ER⟩:=SE.o;obtain⟨U1,aX⟩:=ah (dW (dW u1 w.heap.size (.bool n1) (.slice a1 (ws X).length c1) (.int .i64 e1)) (w.heap.size+1) (.bool m1) (.slice a2 (ws Y).length c2) (.int .i64 f1));have IA:Dk U1 w.heap.size n1 (.slice a1 (ws X).length c1) e1:=by rw[aX];exact((EA.set _ _ _).other _ ae _ _ _)
 have IB:Dk U1 (w.heap.size+1) m1 (.slice a2 (ws Y).length c2) f1:=by rw[aX];exact((EB.other _ ae _ _ _).set _ _ _)
 have IR:Dk U1 (w.heap.size+1+1) false (.slice none 0 0) 0:=by rw[aX];exact((ER.other _ ae _ _ _).other _ ae _ _ _)
 have GX:Fin w.heap.size (w.heap.size+3) w U1 (.slice a1 (ws X).length c1) X:=by rw[aX];exact(Fin.dW (Fin.dW FX.o _ _ _ _ ae ae) _ _ _ _ ae ae)
 have GY:Fin w.heap.size (w.heap.size+3) w U1 (.slice a2 (ws Y).length c2) Y:=by rw[aX];exact(Fin.dW (Fin.dW FY.o _ _ _ _ ae ae) _ _ _ _ ae ae)
 have H2:=hid (wU.o U1 a1 c1 GX.aF (GX.nt.bS ae).2);have S1:=(gy IA IB IR GX GY);have hzU:w.heap.size+3<=U1.heap.size:=by have:=IR.lt;omega
 clear EA EB ER IA IB IR GX GY SE wU;unfold dW at aX;go_wp2_with fail;rw[<-aX];clear aX x0 x1 x2 fA fB fC y0 y1 y2 dY dZ eB r0 r1 r2 gK gL gM;refine H2.o.mono ?_;rintro r u2 ⟨v,rfl,hN,hb⟩;obtain⟨a3,c3,rfl,_⟩:=hN.arg ae;obtain⟨IA,IB,IR,GX,GY⟩:=S1.o;obtain⟨x0,x1,x2,fA,fB,fC⟩:=(IA.below hb).facts;obtain⟨y0,y1,y2,dY,dZ,eB⟩:=(IB.below hb).facts;obtain⟨r0,r1,r2,gK,gL,gM⟩:=(IR.below hb).facts;have H3:=hid (HT.o u2 a3 a2 c3 c2 (GX.below hb).aF (hN.bS ae).2 ((GY.below hb).nt.bS ae).2);have S2:=(bA (IR.below hb) ((GX.below hb)));have hz2:w.heap.size+3<=u2.heap.size:=by have:=hb.size;omega
 clear hN hb H2 S1 IA IB IR GX GY HT;go_wp2_with fail;refine H3.o.mono ?_;rintro r u3 ⟨⟨v,rfl,hN⟩,hb⟩;obtain⟨a4,c4,rfl,_⟩:=hN.arg ae;have IR:=S2.o.1.below hb;obtain⟨s0,s1,s2,Bt,Bu,Bw⟩:=IR.facts;have FV:=ak (show Fin w.heap.size (w.heap.size+3) w u3 (.slice a4 (ws V).length c4) V from⟨hN.mono hz2,(S2.o.2.below hb).aF,by have:=hb.size;omega⟩);have S3:=ak IR;clear hN hb IR H3 S2;go_wp2;refine aH (kT _ (w.heap.size+1+1) dn (.slice a4 (ws V).length c4) de er _ rfl rfl (S3.o.set _ _ _)) rfl ?_;refine Fin.j4 (m:=w.heap.size+3) ?_ ae
 repeat (with_reducible first | exact FV.o | refine Fin.drew ?_ | refine Fin.alloc ?_ _ | refine Fin.set ?_ _ _ _ ae ae)
theorem Ox {w:World}{a b:Option Addr}{l c k d:Nat}(n m:Bool) (e f:Int) (n1 m1:Bool) (X Y:Nat) (e1 f1:Int) (lX:(ws X).length<=8192) (lY:(ws Y).length<=8192) (hX:((((ws X).length:Nat):Int)==0)=false) (hY:((((ws Y).length:Nat):Int)==0)=false) (hlt:decide (e1<f1)=false) (Ot:-1048576<=e1) (Ou:e1<=1048576) (Ov:-1048576<=f1) (Ow:f1<=1048576)
 (lT:Hid (∀u,An w u->As 80 #[.agg #[.bool n,.slice a l c,.int .i64 e],.agg #[.bool m,.slice b k d,.int .i64 f]] u λr w'=>∃v v',r=.returned (.tuple #[.agg #[.bool n1,v,.int .i64 e1],.agg #[.bool m1,v',.int .i64 f1],.int .i64 0])/\Nt u.heap.size w' v X/\Nt u.heap.size w' v' Y/\An u w')) (hs:(n1==m1)=false) (L:Nat) (lL:(ws L).length<=8192) (dn:Bool) (V:Nat) (de er:Int) (lV:(ws V).length<=8192)
 (wU:Hid (∀(u:World) (p:Option Addr) (q:Nat),An w u->Arg u p (ws X).length q (ws X)->As 81 #[.slice p (ws X).length q,.int .i64 (e1-f1)] u λr w'=>∃v,r=.returned (.tuple #[v,.int .i64 0])/\Nt u.heap.size w' v L/\An u w'))
 (HT:Hid (∀(u:World) (p q:Option Addr) (s t:Nat),An w u->Arg u p (ws L).length s (ws L)->Arg u q (ws Y).length t (ws Y)->As 83 #[.bool n1,.slice p (ws L).length s,.slice q (ws Y).length t,.int .i64 f1] u λr w'=>(∃v,r=.returned (.tuple #[.agg #[.bool dn,v,.int .i64 de],.int .i64 er])/\Nt u.heap.size w' v V)/\An u w')):As 51 #[.agg #[.bool n,.slice a l c,.int .i64 e],.agg #[.bool m,.slice b k d,.int .i64 f]] w λr w'=>(∃v,r=.returned (.tuple #[.agg #[.bool dn,v,.int .i64 de],.int .i64 er])/\Nt w.heap.size w' v V)/\An w w':=by
 obtain⟨W1,hW1⟩:=ah (((w.alloc (.cells #[.bool n,.slice a l c,.int .i64 e] 79)).alloc (.cells #[.bool m,.slice b k d,.int .i64 f] 79)).alloc (.cells zD3 79));obtain⟨hB,hz1,DA,DB,DR⟩:=aZ w n m (.slice a l c) (.slice b k d) e f W1 hW1;have H1:=hid (lT.o W1 hB);have SB:=(gy hB hz1 DA DB DR);clear hB hz1 DA DB DR lT;go_enter Tryz.func51,Tryz.ntmps51;go_wp2_with fail;rw[<-hW1];clear hW1;refine H1.o.mono ?_;rintro r u1 ⟨v,v',rfl,hN,hM,hb⟩;obtain⟨a1,c1,rfl,_⟩:=hN.arg ae;obtain⟨a2,c2,rfl,_⟩:=hM.arg ae;obtain⟨hB,hz1,DA,DB,DR⟩:=SB.o;have EA:=DA.below hb;have EB:=DB.below hb;have ER:=DR.below hb;obtain⟨x0,x1,x2,fA,fB,fC⟩:=EA.facts;obtain⟨y0,y1,y2,dY,dZ,eB⟩:=EB.facts;obtain⟨r0,r1,r2,gK,gL,gM⟩:=ER.facts;have FX:=ak (show Fin w.heap.size (w.heap.size+3) w u1 (.slice a1 (ws X).length c1) X from⟨by rw[<-hz1];exact hN,hB.trans (hb.mono ae),by have:=hb.size;omega⟩);have FY:=ak (show Fin w.heap.size (w.heap.size+3) w u1 (.slice a2 (ws Y).length c2) Y from⟨by rw[<-hz1];exact hM,hB.trans (hb.mono ae),by have:=hb.size;omega⟩);have SE:=(gp EA EB ER);clear hN hM hb H1 hB hz1 DA DB DR EA EB ER SB;obtain⟨EA,EB,ER⟩:=SE.o;obtain⟨U1,aX⟩:=ah (dW (dW u1 w.heap.size (.bool n1) (.slice a1 (ws X).length c1) (.int .i64 e1)) (w.heap.size+1) (.bool m1) (.slice a2 (ws Y).length c2) (.int .i64 f1));have IA:Dk U1 w.heap.size n1 (.slice a1 (ws X).length c1) e1:=by rw[aX];exact((EA.set _ _ _).other _ ae _ _ _)
 have IB:Dk U1 (w.heap.size+1) m1 (.slice a2 (ws Y).length c2) f1:=by rw[aX];exact((EB.other _ ae _ _ _).set _ _ _)
 have IR:Dk U1 (w.heap.size+1+1) false (.slice none 0 0) 0:=by rw[aX];exact((ER.other _ ae _ _ _).other _ ae _ _ _)
 have GX:Fin w.heap.size (w.heap.size+3) w U1 (.slice a1 (ws X).length c1) X:=by rw[aX];exact(Fin.dW (Fin.dW FX.o _ _ _ _ ae ae) _ _ _ _ ae ae)
 have GY:Fin w.heap.size (w.heap.size+3) w U1 (.slice a2 (ws Y).length c2) Y:=by rw[aX];exact(Fin.dW (Fin.dW FY.o _ _ _ _ ae ae) _ _ _ _ ae ae)
 have H2:=hid (wU.o U1 a1 c1 GX.aF (GX.nt.bS ae).2);have S1:=(gy IA IB IR GX GY);have hzU:w.heap.size+3<=U1.heap.size:=by have:=IR.lt;omega
 clear EA EB ER IA IB IR GX GY SE wU;unfold dW at aX;go_wp2_with fail;rw[<-aX];clear aX x0 x1 x2 fA fB fC y0 y1 y2 dY dZ eB r0 r1 r2 gK gL gM;refine H2.o.mono ?_;rintro r u2 ⟨v,rfl,hN,hb⟩;obtain⟨a3,c3,rfl,_⟩:=hN.arg ae;obtain⟨IA,IB,IR,GX,GY⟩:=S1.o;obtain⟨x0,x1,x2,fA,fB,fC⟩:=(IA.below hb).facts;obtain⟨y0,y1,y2,dY,dZ,eB⟩:=(IB.below hb).facts;obtain⟨r0,r1,r2,gK,gL,gM⟩:=(IR.below hb).facts;have H3:=hid (HT.o u2 a3 a2 c3 c2 (GX.below hb).aF (hN.bS ae).2 ((GY.below hb).nt.bS ae).2);have S2:=(bA (IR.below hb) ((GX.below hb)));have hz2:w.heap.size+3<=u2.heap.size:=by have:=hb.size;omega
 clear hN hb H2 S1 IA IB IR GX GY HT;go_wp2_with fail;refine H3.o.mono ?_;rintro r u3 ⟨⟨v,rfl,hN⟩,hb⟩;obtain⟨a4,c4,rfl,_⟩:=hN.arg ae;have IR:=S2.o.1.below hb;obtain⟨s0,s1,s2,Bt,Bu,Bw⟩:=IR.facts;have FV:=ak (show Fin w.heap.size (w.heap.size+3) w u3 (.slice a4 (ws V).length c4) V from⟨hN.mono hz2,(S2.o.2.below hb).aF,by have:=hb.size;omega⟩);have S3:=ak IR;clear hN hb IR H3 S2;go_wp2;refine aH (kT _ (w.heap.size+1+1) dn (.slice a4 (ws V).length c4) de er _ rfl rfl (S3.o.set _ _ _)) rfl ?_;refine Fin.j4 (m:=w.heap.size+3) ?_ ae
 repeat (with_reducible first | exact FV.o | refine Fin.drew ?_ | refine Fin.alloc ?_ _ | refine Fin.set ?_ _ _ _ ae ae)
theorem Oy {w:World}{a b:Option Addr}{l c k d:Nat}(n m:Bool) (e f:Int) (n1 m1:Bool) (X Y:Nat) (e1 f1:Int) (lX:(ws X).length<=8192) (lY:(ws Y).length<=8192) (hX:((((ws X).length:Nat):Int)==0)=false) (hY:((((ws Y).length:Nat):Int)==0)=false) (hlt:e1<f1) (Ot:-1048576<=e1) (Ou:e1<=1048576) (Ov:-1048576<=f1) (Ow:f1<=1048576)
 (lT:Hid (∀u,An w u->As 80 #[.agg #[.bool n,.slice a l c,.int .i64 e],.agg #[.bool m,.slice b k d,.int .i64 f]] u λr w'=>∃v v',r=.returned (.tuple #[.agg #[.bool n1,v,.int .i64 e1],.agg #[.bool m1,v',.int .i64 f1],.int .i64 0])/\Nt u.heap.size w' v X/\Nt u.heap.size w' v' Y/\An u w'))
 (wU:Hid (∀(u:World) (p:Option Addr) (q:Nat),An w u->Arg u p (ws Y).length q (ws Y)->As 81 #[.slice p (ws Y).length q,.int .i64 (f1-e1)] u λr w'=>∃v,r=.returned (.tuple #[v,.int .i64 2])/\Nt u.heap.size w' v 0/\An u w')):At 51 #[.agg #[.bool n,.slice a l c,.int .i64 e],.agg #[.bool m,.slice b k d,.int .i64 f]] w (.tuple #[.agg zD3,.int .i64 2]):=by
 have l0:(ws 0).length=0:=by rw[cB];rfl
 obtain⟨W1,hW1⟩:=ah (((w.alloc (.cells #[.bool n,.slice a l c,.int .i64 e] 79)).alloc (.cells #[.bool m,.slice b k d,.int .i64 f] 79)).alloc (.cells zD3 79));obtain⟨hB,hz1,DA,DB,DR⟩:=aZ w n m (.slice a l c) (.slice b k d) e f W1 hW1;have H1:=hid (lT.o W1 hB);have SB:=(gy hB hz1 DA DB DR);clear hB hz1 DA DB DR lT;go_enter Tryz.func51,Tryz.ntmps51;go_wp2_with fail;rw[<-hW1];clear hW1;refine H1.o.mono ?_;rintro r u1 ⟨v,v',rfl,hN,hM,hb⟩;obtain⟨a1,c1,rfl,_⟩:=hN.arg ae;obtain⟨a2,c2,rfl,_⟩:=hM.arg ae;obtain⟨hB,hz1,DA,DB,DR⟩:=SB.o;have EA:=DA.below hb;have EB:=DB.below hb;have ER:=DR.below hb;obtain⟨x0,x1,x2,fA,fB,fC⟩:=EA.facts;obtain⟨y0,y1,y2,dY,dZ,eB⟩:=EB.facts;obtain⟨r0,r1,r2,gK,gL,gM⟩:=ER.facts;have FX:=ak (show Fin w.heap.size (w.heap.size+3) w u1 (.slice a1 (ws X).length c1) X from⟨by rw[<-hz1];exact hN,hB.trans (hb.mono ae),by have:=hb.size;omega⟩);have FY:=ak (show Fin w.heap.size (w.heap.size+3) w u1 (.slice a2 (ws Y).length c2) Y from⟨by rw[<-hz1];exact hM,hB.trans (hb.mono ae),by have:=hb.size;omega⟩);have SE:=(gp EA EB ER);clear hN hM hb H1 hB hz1 DA DB DR EA EB ER SB;obtain⟨EA,EB,ER⟩:=SE.o;obtain⟨U0,qL⟩:=ah (dW (dW u1 w.heap.size (.bool n1) (.slice a1 (ws X).length c1) (.int .i64 e1)) (w.heap.size+1) (.bool m1) (.slice a2 (ws Y).length c2) (.int .i64 f1));have JA:Dk U0 w.heap.size n1 (.slice a1 (ws X).length c1) e1:=by rw[qL];exact((EA.set _ _ _).other _ ae _ _ _)
 have JB:Dk U0 (w.heap.size+1) m1 (.slice a2 (ws Y).length c2) f1:=by rw[qL];exact((EB.other _ ae _ _ _).set _ _ _)
 have JR:Dk U0 (w.heap.size+1+1) false (.slice none 0 0) 0:=by rw[qL];exact((ER.other _ ae _ _ _).other _ ae _ _ _)
 have KX:=ak (show Fin w.heap.size (w.heap.size+3) w U0 (.slice a1 (ws X).length c1) X by rw[qL];exact(Fin.dW (Fin.dW FX.o _ _ _ _ ae ae) _ _ _ _ ae ae));have KY:=ak (show Fin w.heap.size (w.heap.size+3) w U0 (.slice a2 (ws Y).length c2) Y by rw[qL];exact(Fin.dW (Fin.dW FY.o _ _ _ _ ae ae) _ _ _ _ ae ae));have SE:=(gp JA JB JR);unfold dW at qL;clear EA EB ER JA JB JR
 go_upto_region 9 with fail
 rw[<-qL];clear qL x0 x1 x2 fA fB fC y0 y1 y2 dY dZ eB r0 r1 r2 gK gL gM FX FY;obtain⟨x0,x1,x2,fA,fB,fC⟩:=SE.o.1.facts;obtain⟨y0,y1,y2,dY,dZ,eB⟩:=SE.o.2.1.facts;obtain⟨r0,r1,r2,gK,gL,gM⟩:=SE.o.r2.facts;obtain⟨EA,EB,ER⟩:=SE.o;obtain⟨U1,aX⟩:=ah (dW (dW U0 w.heap.size (.bool m1) (.slice a2 (ws Y).length c2) (.int .i64 f1)) (w.heap.size+1) (.bool n1) (.slice a1 (ws X).length c1) (.int .i64 e1));have IA:Dk U1 w.heap.size m1 (.slice a2 (ws Y).length c2) f1:=by rw[aX];exact((EA.set _ _ _).other _ ae _ _ _)
 have IB:Dk U1 (w.heap.size+1) n1 (.slice a1 (ws X).length c1) e1:=by rw[aX];exact((EB.other _ ae _ _ _).set _ _ _)
 have IR:Dk U1 (w.heap.size+1+1) false (.slice none 0 0) 0:=by rw[aX];exact((ER.other _ ae _ _ _).other _ ae _ _ _)
 have GX:Fin w.heap.size (w.heap.size+3) w U1 (.slice a1 (ws X).length c1) X:=by rw[aX];exact(Fin.dW (Fin.dW KX.o _ _ _ _ ae ae) _ _ _ _ ae ae)
 have GY:Fin w.heap.size (w.heap.size+3) w U1 (.slice a2 (ws Y).length c2) Y:=by rw[aX];exact(Fin.dW (Fin.dW KY.o _ _ _ _ ae ae) _ _ _ _ ae ae)
 have H2:=hid (wU.o U1 a2 c2 GX.aF (GY.nt.bS ae).2);have S1:=(gy IA IB IR GX GY);have hzU:w.heap.size+3<=U1.heap.size:=by have:=IR.lt;omega
 clear EA EB ER IA IB IR GX GY SE wU;unfold dW at aX;go_wp2_with fail;rw[<-aX];clear aX x0 x1 x2 fA fB fC y0 y1 y2 dY dZ eB r0 r1 r2 gK gL gM;refine H2.o.mono ?_;rintro r u2 ⟨v,rfl,hN,hb⟩;obtain⟨a3,c3,rfl,_⟩:=hN.arg ae;obtain⟨IA,IB,IR,GX,GY⟩:=S1.o;obtain⟨x0,x1,x2,fA,fB,fC⟩:=(IA.below hb).facts;obtain⟨y0,y1,y2,dY,dZ,eB⟩:=(IB.below hb).facts;obtain⟨r0,r1,r2,gK,gL,gM⟩:=(IR.below hb).facts;have S2:=(bA (IR.below hb) ((GX.below hb)));clear hN hb H2 S1 IA IB IR GX GY;go_wp2;refine aH (kT _ (w.heap.size+1+1) false (.slice none 0 0) 0 2 _ rfl rfl (S2.o.1.set _ _ _)) rfl ⟨rfl,?_⟩;refine Fin.aF (m:=w.heap.size+3) (v:=.slice a1 (ws X).length c1) (X:=X) ?_
 repeat (with_reducible first | exact S2.o.2 | refine Fin.drew ?_ | refine Fin.alloc ?_ _ | refine Fin.set ?_ _ _ _ ae ae)
theorem Sq {w:World}{a b:Option Addr}{l c k d:Nat}(n m:Bool) (e f:Int) (n1 m1:Bool) (X Y:Nat) (e1 f1:Int) (lX:(ws X).length<=8192) (lY:(ws Y).length<=8192) (hX:((((ws X).length:Nat):Int)==0)=false) (hY:((((ws Y).length:Nat):Int)==0)=false) (hlt:e1<f1) (Ot:-1048576<=e1) (Ou:e1<=1048576) (Ov:-1048576<=f1) (Ow:f1<=1048576)
 (lT:Hid (∀u,An w u->As 80 #[.agg #[.bool n,.slice a l c,.int .i64 e],.agg #[.bool m,.slice b k d,.int .i64 f]] u λr w'=>∃v v',r=.returned (.tuple #[.agg #[.bool n1,v,.int .i64 e1],.agg #[.bool m1,v',.int .i64 f1],.int .i64 0])/\Nt u.heap.size w' v X/\Nt u.heap.size w' v' Y/\An u w')) (hs:(m1==n1)=true) (L:Nat) (lL:(ws L).length<=8192) (dn:Bool) (V:Nat) (de er:Int) (lV:(ws V).length<=8192)
 (wU:Hid (∀(u:World) (p:Option Addr) (q:Nat),An w u->Arg u p (ws Y).length q (ws Y)->As 81 #[.slice p (ws Y).length q,.int .i64 (f1-e1)] u λr w'=>∃v,r=.returned (.tuple #[v,.int .i64 0])/\Nt u.heap.size w' v L/\An u w'))
 (HT:Hid (∀(u:World) (p q:Option Addr) (s t:Nat),An w u->Arg u p (ws L).length s (ws L)->Arg u q (ws X).length t (ws X)->As 82 #[.bool m1,.slice p (ws L).length s,.slice q (ws X).length t,.int .i64 e1] u λr w'=>(∃v,r=.returned (.tuple #[.agg #[.bool dn,v,.int .i64 de],.int .i64 er])/\Nt u.heap.size w' v V)/\An u w')):As 51 #[.agg #[.bool n,.slice a l c,.int .i64 e],.agg #[.bool m,.slice b k d,.int .i64 f]] w λr w'=>(∃v,r=.returned (.tuple #[.agg #[.bool dn,v,.int .i64 de],.int .i64 er])/\Nt w.heap.size w' v V)/\An w w':=by
 obtain⟨W1,hW1⟩:=ah (((w.alloc (.cells #[.bool n,.slice a l c,.int .i64 e] 79)).alloc (.cells #[.bool m,.slice b k d,.int .i64 f] 79)).alloc (.cells zD3 79));obtain⟨hB,hz1,DA,DB,DR⟩:=aZ w n m (.slice a l c) (.slice b k d) e f W1 hW1;have H1:=hid (lT.o W1 hB);have SB:=(gy hB hz1 DA DB DR);clear hB hz1 DA DB DR lT;go_enter Tryz.func51,Tryz.ntmps51;go_wp2_with fail;rw[<-hW1];clear hW1;refine H1.o.mono ?_;rintro r u1 ⟨v,v',rfl,hN,hM,hb⟩;obtain⟨a1,c1,rfl,_⟩:=hN.arg ae;obtain⟨a2,c2,rfl,_⟩:=hM.arg ae;obtain⟨hB,hz1,DA,DB,DR⟩:=SB.o;have EA:=DA.below hb;have EB:=DB.below hb;have ER:=DR.below hb;obtain⟨x0,x1,x2,fA,fB,fC⟩:=EA.facts;obtain⟨y0,y1,y2,dY,dZ,eB⟩:=EB.facts;obtain⟨r0,r1,r2,gK,gL,gM⟩:=ER.facts;have FX:=ak (show Fin w.heap.size (w.heap.size+3) w u1 (.slice a1 (ws X).length c1) X from⟨by rw[<-hz1];exact hN,hB.trans (hb.mono ae),by have:=hb.size;omega⟩);have FY:=ak (show Fin w.heap.size (w.heap.size+3) w u1 (.slice a2 (ws Y).length c2) Y from⟨by rw[<-hz1];exact hM,hB.trans (hb.mono ae),by have:=hb.size;omega⟩);have SE:=(gp EA EB ER);clear hN hM hb H1 hB hz1 DA DB DR EA EB ER SB;obtain⟨EA,EB,ER⟩:=SE.o;obtain⟨U0,qL⟩:=ah (dW (dW u1 w.heap.size (.bool n1) (.slice a1 (ws X).length c1) (.int .i64 e1)) (w.heap.size+1) (.bool m1) (.slice a2 (ws Y).length c2) (.int .i64 f1));have JA:Dk U0 w.heap.size n1 (.slice a1 (ws X).length c1) e1:=by rw[qL];exact((EA.set _ _ _).other _ ae _ _ _)
 have JB:Dk U0 (w.heap.size+1) m1 (.slice a2 (ws Y).length c2) f1:=by rw[qL];exact((EB.other _ ae _ _ _).set _ _ _)
 have JR:Dk U0 (w.heap.size+1+1) false (.slice none 0 0) 0:=by rw[qL];exact((ER.other _ ae _ _ _).other _ ae _ _ _)
 have KX:=ak (show Fin w.heap.size (w.heap.size+3) w U0 (.slice a1 (ws X).length c1) X by rw[qL];exact(Fin.dW (Fin.dW FX.o _ _ _ _ ae ae) _ _ _ _ ae ae));have KY:=ak (show Fin w.heap.size (w.heap.size+3) w U0 (.slice a2 (ws Y).length c2) Y by rw[qL];exact(Fin.dW (Fin.dW FY.o _ _ _ _ ae ae) _ _ _ _ ae ae));have SE:=(gp JA JB JR);unfold dW at qL;clear EA EB ER JA JB JR
 go_upto_region 9 with fail
 rw[<-qL];clear qL x0 x1 x2 fA fB fC y0 y1 y2 dY dZ eB r0 r1 r2 gK gL gM FX FY;obtain⟨x0,x1,x2,fA,fB,fC⟩:=SE.o.1.facts;obtain⟨y0,y1,y2,dY,dZ,eB⟩:=SE.o.2.1.facts;obtain⟨r0,r1,r2,gK,gL,gM⟩:=SE.o.r2.facts;obtain⟨EA,EB,ER⟩:=SE.o;obtain⟨U1,aX⟩:=ah (dW (dW U0 w.heap.size (.bool m1) (.slice a2 (ws Y).length c2) (.int .i64 f1)) (w.heap.size+1) (.bool n1) (.slice a1 (ws X).length c1) (.int .i64 e1));have IA:Dk U1 w.heap.size m1 (.slice a2 (ws Y).length c2) f1:=by rw[aX];exact((EA.set _ _ _).other _ ae _ _ _)
 have IB:Dk U1 (w.heap.size+1) n1 (.slice a1 (ws X).length c1) e1:=by rw[aX];exact((EB.other _ ae _ _ _).set _ _ _)
 have IR:Dk U1 (w.heap.size+1+1) false (.slice none 0 0) 0:=by rw[aX];exact((ER.other _ ae _ _ _).other _ ae _ _ _)
 have GX:Fin w.heap.size (w.heap.size+3) w U1 (.slice a1 (ws X).length c1) X:=by rw[aX];exact(Fin.dW (Fin.dW KX.o _ _ _ _ ae ae) _ _ _ _ ae ae)
 have GY:Fin w.heap.size (w.heap.size+3) w U1 (.slice a2 (ws Y).length c2) Y:=by rw[aX];exact(Fin.dW (Fin.dW KY.o _ _ _ _ ae ae) _ _ _ _ ae ae)
 have H2:=hid (wU.o U1 a2 c2 GX.aF (GY.nt.bS ae).2);have S1:=(gy IA IB IR GX GY);have hzU:w.heap.size+3<=U1.heap.size:=by have:=IR.lt;omega
 clear EA EB ER IA IB IR GX GY SE wU;unfold dW at aX;go_wp2_with fail;rw[<-aX];clear aX x0 x1 x2 fA fB fC y0 y1 y2 dY dZ eB r0 r1 r2 gK gL gM;refine H2.o.mono ?_;rintro r u2 ⟨v,rfl,hN,hb⟩;obtain⟨a3,c3,rfl,_⟩:=hN.arg ae;obtain⟨IA,IB,IR,GX,GY⟩:=S1.o;obtain⟨x0,x1,x2,fA,fB,fC⟩:=(IA.below hb).facts;obtain⟨y0,y1,y2,dY,dZ,eB⟩:=(IB.below hb).facts;obtain⟨r0,r1,r2,gK,gL,gM⟩:=(IR.below hb).facts;have H3:=hid (HT.o u2 a3 a1 c3 c1 (GX.below hb).aF (hN.bS ae).2 ((GX.below hb).nt.bS ae).2);have S2:=(bA (IR.below hb) ((GX.below hb)));have hz2:w.heap.size+3<=u2.heap.size:=by have:=hb.size;omega
 clear hN hb H2 S1 IA IB IR GX GY HT;go_wp2_with fail;refine H3.o.mono ?_;rintro r u3 ⟨⟨v,rfl,hN⟩,hb⟩;obtain⟨a4,c4,rfl,_⟩:=hN.arg ae;have IR:=S2.o.1.below hb;obtain⟨s0,s1,s2,Bt,Bu,Bw⟩:=IR.facts;have FV:=ak (show Fin w.heap.size (w.heap.size+3) w u3 (.slice a4 (ws V).length c4) V from⟨hN.mono hz2,(S2.o.2.below hb).aF,by have:=hb.size;omega⟩);have S3:=ak IR;clear hN hb IR H3 S2;go_wp2;refine aH (kT _ (w.heap.size+1+1) dn (.slice a4 (ws V).length c4) de er _ rfl rfl (S3.o.set _ _ _)) rfl ?_;refine Fin.j4 (m:=w.heap.size+3) ?_ ae
 repeat (with_reducible first | exact FV.o | refine Fin.drew ?_ | refine Fin.alloc ?_ _ | refine Fin.set ?_ _ _ _ ae ae)
theorem Oz {w:World}{a b:Option Addr}{l c k d:Nat}(n m:Bool) (e f:Int) (n1 m1:Bool) (X Y:Nat) (e1 f1:Int) (lX:(ws X).length<=8192) (lY:(ws Y).length<=8192) (hX:((((ws X).length:Nat):Int)==0)=false) (hY:((((ws Y).length:Nat):Int)==0)=false) (hlt:e1<f1) (Ot:-1048576<=e1) (Ou:e1<=1048576) (Ov:-1048576<=f1) (Ow:f1<=1048576)
 (lT:Hid (∀u,An w u->As 80 #[.agg #[.bool n,.slice a l c,.int .i64 e],.agg #[.bool m,.slice b k d,.int .i64 f]] u λr w'=>∃v v',r=.returned (.tuple #[.agg #[.bool n1,v,.int .i64 e1],.agg #[.bool m1,v',.int .i64 f1],.int .i64 0])/\Nt u.heap.size w' v X/\Nt u.heap.size w' v' Y/\An u w')) (hs:(m1==n1)=false) (L:Nat) (lL:(ws L).length<=8192) (dn:Bool) (V:Nat) (de er:Int) (lV:(ws V).length<=8192)
 (wU:Hid (∀(u:World) (p:Option Addr) (q:Nat),An w u->Arg u p (ws Y).length q (ws Y)->As 81 #[.slice p (ws Y).length q,.int .i64 (f1-e1)] u λr w'=>∃v,r=.returned (.tuple #[v,.int .i64 0])/\Nt u.heap.size w' v L/\An u w'))
 (HT:Hid (∀(u:World) (p q:Option Addr) (s t:Nat),An w u->Arg u p (ws L).length s (ws L)->Arg u q (ws X).length t (ws X)->As 83 #[.bool m1,.slice p (ws L).length s,.slice q (ws X).length t,.int .i64 e1] u λr w'=>(∃v,r=.returned (.tuple #[.agg #[.bool dn,v,.int .i64 de],.int .i64 er])/\Nt u.heap.size w' v V)/\An u w')):As 51 #[.agg #[.bool n,.slice a l c,.int .i64 e],.agg #[.bool m,.slice b k d,.int .i64 f]] w λr w'=>(∃v,r=.returned (.tuple #[.agg #[.bool dn,v,.int .i64 de],.int .i64 er])/\Nt w.heap.size w' v V)/\An w w':=by
 obtain⟨W1,hW1⟩:=ah (((w.alloc (.cells #[.bool n,.slice a l c,.int .i64 e] 79)).alloc (.cells #[.bool m,.slice b k d,.int .i64 f] 79)).alloc (.cells zD3 79));obtain⟨hB,hz1,DA,DB,DR⟩:=aZ w n m (.slice a l c) (.slice b k d) e f W1 hW1;have H1:=hid (lT.o W1 hB);have SB:=(gy hB hz1 DA DB DR);clear hB hz1 DA DB DR lT;go_enter Tryz.func51,Tryz.ntmps51;go_wp2_with fail;rw[<-hW1];clear hW1;refine H1.o.mono ?_;rintro r u1 ⟨v,v',rfl,hN,hM,hb⟩;obtain⟨a1,c1,rfl,_⟩:=hN.arg ae;obtain⟨a2,c2,rfl,_⟩:=hM.arg ae;obtain⟨hB,hz1,DA,DB,DR⟩:=SB.o;have EA:=DA.below hb;have EB:=DB.below hb;have ER:=DR.below hb;obtain⟨x0,x1,x2,fA,fB,fC⟩:=EA.facts;obtain⟨y0,y1,y2,dY,dZ,eB⟩:=EB.facts;obtain⟨r0,r1,r2,gK,gL,gM⟩:=ER.facts;have FX:=ak (show Fin w.heap.size (w.heap.size+3) w u1 (.slice a1 (ws X).length c1) X from⟨by rw[<-hz1];exact hN,hB.trans (hb.mono ae),by have:=hb.size;omega⟩);have FY:=ak (show Fin w.heap.size (w.heap.size+3) w u1 (.slice a2 (ws Y).length c2) Y from⟨by rw[<-hz1];exact hM,hB.trans (hb.mono ae),by have:=hb.size;omega⟩);have SE:=(gp EA EB ER);clear hN hM hb H1 hB hz1 DA DB DR EA EB ER SB;obtain⟨EA,EB,ER⟩:=SE.o;obtain⟨U0,qL⟩:=ah (dW (dW u1 w.heap.size (.bool n1) (.slice a1 (ws X).length c1) (.int .i64 e1)) (w.heap.size+1) (.bool m1) (.slice a2 (ws Y).length c2) (.int .i64 f1));have JA:Dk U0 w.heap.size n1 (.slice a1 (ws X).length c1) e1:=by rw[qL];exact((EA.set _ _ _).other _ ae _ _ _)
 have JB:Dk U0 (w.heap.size+1) m1 (.slice a2 (ws Y).length c2) f1:=by rw[qL];exact((EB.other _ ae _ _ _).set _ _ _)
 have JR:Dk U0 (w.heap.size+1+1) false (.slice none 0 0) 0:=by rw[qL];exact((ER.other _ ae _ _ _).other _ ae _ _ _)
 have KX:=ak (show Fin w.heap.size (w.heap.size+3) w U0 (.slice a1 (ws X).length c1) X by rw[qL];exact(Fin.dW (Fin.dW FX.o _ _ _ _ ae ae) _ _ _ _ ae ae));have KY:=ak (show Fin w.heap.size (w.heap.size+3) w U0 (.slice a2 (ws Y).length c2) Y by rw[qL];exact(Fin.dW (Fin.dW FY.o _ _ _ _ ae ae) _ _ _ _ ae ae));have SE:=(gp JA JB JR);unfold dW at qL;clear EA EB ER JA JB JR
 go_upto_region 9 with fail
 rw[<-qL];clear qL x0 x1 x2 fA fB fC y0 y1 y2 dY dZ eB r0 r1 r2 gK gL gM FX FY;obtain⟨x0,x1,x2,fA,fB,fC⟩:=SE.o.1.facts;obtain⟨y0,y1,y2,dY,dZ,eB⟩:=SE.o.2.1.facts;obtain⟨r0,r1,r2,gK,gL,gM⟩:=SE.o.r2.facts;obtain⟨EA,EB,ER⟩:=SE.o;obtain⟨U1,aX⟩:=ah (dW (dW U0 w.heap.size (.bool m1) (.slice a2 (ws Y).length c2) (.int .i64 f1)) (w.heap.size+1) (.bool n1) (.slice a1 (ws X).length c1) (.int .i64 e1));have IA:Dk U1 w.heap.size m1 (.slice a2 (ws Y).length c2) f1:=by rw[aX];exact((EA.set _ _ _).other _ ae _ _ _)
 have IB:Dk U1 (w.heap.size+1) n1 (.slice a1 (ws X).length c1) e1:=by rw[aX];exact((EB.other _ ae _ _ _).set _ _ _)
 have IR:Dk U1 (w.heap.size+1+1) false (.slice none 0 0) 0:=by rw[aX];exact((ER.other _ ae _ _ _).other _ ae _ _ _)
 have GX:Fin w.heap.size (w.heap.size+3) w U1 (.slice a1 (ws X).length c1) X:=by rw[aX];exact(Fin.dW (Fin.dW KX.o _ _ _ _ ae ae) _ _ _ _ ae ae)
 have GY:Fin w.heap.size (w.heap.size+3) w U1 (.slice a2 (ws Y).length c2) Y:=by rw[aX];exact(Fin.dW (Fin.dW KY.o _ _ _ _ ae ae) _ _ _ _ ae ae)
 have H2:=hid (wU.o U1 a2 c2 GX.aF (GY.nt.bS ae).2);have S1:=(gy IA IB IR GX GY);have hzU:w.heap.size+3<=U1.heap.size:=by have:=IR.lt;omega
 clear EA EB ER IA IB IR GX GY SE wU;unfold dW at aX;go_wp2_with fail;rw[<-aX];clear aX x0 x1 x2 fA fB fC y0 y1 y2 dY dZ eB r0 r1 r2 gK gL gM;refine H2.o.mono ?_;rintro r u2 ⟨v,rfl,hN,hb⟩;obtain⟨a3,c3,rfl,_⟩:=hN.arg ae;obtain⟨IA,IB,IR,GX,GY⟩:=S1.o;obtain⟨x0,x1,x2,fA,fB,fC⟩:=(IA.below hb).facts;obtain⟨y0,y1,y2,dY,dZ,eB⟩:=(IB.below hb).facts;obtain⟨r0,r1,r2,gK,gL,gM⟩:=(IR.below hb).facts;have H3:=hid (HT.o u2 a3 a1 c3 c1 (GX.below hb).aF (hN.bS ae).2 ((GX.below hb).nt.bS ae).2);have S2:=(bA (IR.below hb) ((GX.below hb)));have hz2:w.heap.size+3<=u2.heap.size:=by have:=hb.size;omega
 clear hN hb H2 S1 IA IB IR GX GY HT;go_wp2_with fail;refine H3.o.mono ?_;rintro r u3 ⟨⟨v,rfl,hN⟩,hb⟩;obtain⟨a4,c4,rfl,_⟩:=hN.arg ae;have IR:=S2.o.1.below hb;obtain⟨s0,s1,s2,Bt,Bu,Bw⟩:=IR.facts;have FV:=ak (show Fin w.heap.size (w.heap.size+3) w u3 (.slice a4 (ws V).length c4) V from⟨hN.mono hz2,(S2.o.2.below hb).aF,by have:=hb.size;omega⟩);have S3:=ak IR;clear hN hb IR H3 S2;go_wp2;refine aH (kT _ (w.heap.size+1+1) dn (.slice a4 (ws V).length c4) de er _ rfl rfl (S3.o.set _ _ _)) rfl ?_;refine Fin.j4 (m:=w.heap.size+3) ?_ ae
 repeat (with_reducible first | exact FV.o | refine Fin.drew ?_ | refine Fin.alloc ?_ _ | refine Fin.set ?_ _ _ _ ae ae)
def j6(n:Bool)(X:Nat)(e:Int)(m:Bool)(Y:Nat)(f:Int):Option (Bool×Nat×Int) :=
 if 262144<bl X+(e-f).toNat then none
 else if n=m then mkS n (X*2^(e-f).toNat+Y) f
 else if Y<=X*2^(e-f).toNat then mkS n (X*2^(e-f).toNat-Y) f
 else mkS (!n) (Y-X*2^(e-f).toNat) f
def uf(x y:Bool×Nat×Int):Option (Bool×Nat×Int) :=
 if x.2.1=0 then some y else if y.2.1=0 then some x
 else if x.2.2<y.2.2 then j6 y.1 y.2.1 y.2.2 x.1 x.2.1 x.2.2 else j6 x.1 x.2.1 x.2.2 y.1 y.2.1 y.2.2
def qa(o p:Option (Bool×Nat×Int)):Option (Bool×Nat×Int) :=
 match o,p with
 | some x,some y=>uf x y
 | _,_=>none
theorem zi(X:Nat)(b:Int)(h0:0<=b)(hX:X≠0)(hl:bl X<=262144):bJ X b=if 262144<bl X+b.toNat then(0,2) else(X*2^b.toNat,0):=by
 unfold bJ;rw[if_neg (mH hl),if_neg hX,if_neg ae]
 by_cases h:262144<bl X+b.toNat
 . rw[if_pos h,if_pos ae]
 . rw[if_neg h,if_neg ae]
theorem Gg(X b:Nat)(hX:X≠0):bl (X*2^b)=bl X+b:=by rw[cK,rX b X hX];omega
theorem kY{w:World}{p:Option Addr}{q X:Nat}(b:Int)(L:Nat)(er:Int)(hA:Arg w p (ws X).length q (ws X))(hb0:-9223372036854775808<=b)(hb1:b<=9223372036854775807)(h:bJ X b=(L,er)) :
 As 81 #[.slice p (ws X).length q,.int .i64 b] w λr w'=>∃v,r=.returned (.tuple #[v,.int .i64 er])/\Nt w.heap.size w' v L/\An w w':=by
 have:=A9 (ws X) p (ws X).length q w.heap.size b w hA.len hA.cap (by have:=hA.big;omega) hA.wf hA.rd (aA _) hb0 hb1;rw[aB,h] at this;exact this.mono λr w' ⟨⟨v,h1,h2⟩,h3⟩=>⟨v,h1,h2,h3⟩
theorem Sr{w u:World}{p q:Option Addr}{s t L Y:Nat}(hT:gP w)(hu:An w u)(A1:Arg u p (ws L).length s (ws L))(A2:Arg u q (ws Y).length t (ws Y))(n:Bool)(f:Int)(h0:-1048576<=f)(h1:f<=1048576)(oY:Y%2=1)(bL:bl L<=262144)(bY:bl Y<=262144) :
 As 82 #[.bool n,.slice p (ws L).length s,.slice q (ws Y).length t,.int .i64 f] u λr w'=>dm u.heap.size w' r (mkS n (L+Y) f)/\An u w' :=
 WG A1 A2 (hT.belows hu) n f h0 h1 L Y (aB L) (aB Y) oY bL bY
theorem LY{w u:World}{p q:Option Addr}{s t L Y:Nat}(hT:gP w)(hu:An w u)(A1:Arg u p (ws L).length s (ws L))(A2:Arg u q (ws Y).length t (ws Y))(n:Bool)(f:Int)(h0:-1048576<=f)(h1:f<=1048576)(bL:bl L<=262144)(bY:bl Y<=262144) :
 As 83 #[.bool n,.slice p (ws L).length s,.slice q (ws Y).length t,.int .i64 f] u λr w'=>dm u.heap.size w' r (if Y<=L then mkS n (L-Y) f else mkS (!n) (Y-L) f)/\An u w':=by
 by_cases h:Y<=L
 . rw[if_pos h];exact Om A1 A2 (hT.belows hu) n f h0 h1 L Y (aB L) (aB Y) bL bY h
 . rw[if_neg h];exact Si A1 A2 (hT.belows hu) n f h0 h1 L Y (aB L) (aB Y) bL bY ae
theorem dD{X:Nat}(h:X≠0):((((ws X).length:Nat):Int)==0)=false:=beq_eq_false_iff_ne.2 (by have:(ws X).length≠0:=λe=>h ((bT X).1 e);omega)
theorem Su{w:World}{a b:Option Addr}{l c k d:Nat}{xs ys:List Nat}(h1:Arg w a l c xs)(h2:Arg w b k d ys)(hT:gP w)(n m:Bool)(e f:Int)(he0:-9223372036854775808<=e)(he1:e<=9223372036854775807)(hf0:-9223372036854775808<=f)(hf1:f<=9223372036854775807) :
 As 51 #[.agg #[.bool n,.slice a l c,.int .i64 e],.agg #[.bool m,.slice b k d,.int .i64 f]] w λr w'=>dm w.heap.size w' r (qa (mkS n (val xs) e) (mkS m (val ys) f))/\An w w':=by
 have zero:∀{r:Ending} {w':World},(r=.returned (.tuple #[.agg zD3,.int .i64 2])/\An w w')->dm w.heap.size w' r none/\An w w':=λ⟨h1,h2⟩=>⟨⟨_,h1,Nt.nil _ _⟩,h2⟩
 cases hx:mkS n (val xs) e with
 | none =>
   exact(LW n m e f (hid λu hu=>zg (h1.below hu) (h2.below hu) (hT.belows hu) n m e f he0 he1 hf0 hf1 hx)).mono λr w' h=>zero h
 | some x =>
   obtain⟨n1,X,e1⟩:=x
   cases hy:mkS m (val ys) f with
   | none =>
     exact(LW n m e f (hid λu hu=>zh (h1.below hu) (h2.below hu) (hT.belows hu) n m e f he0 he1 hf0 hf1 n1 X e1 hx hy)).mono λr w' h=>zero h
   | some y =>
     obtain⟨m1,Y,f1⟩:=y;have lT:=hid λu (hu:An w u)=>Gb (h1.below hu) (h2.below hu) (hT.belows hu) n m e f he0 he1 hf0 hf1 n1 m1 X Y e1 f1 hx hy;have FX:=cO hx;have FY:=cO hy;have lX:=fw FX;have lY:=fw FY;have:=FX.up;have:=FX.down;have:=FY.up;have:=FY.down;show Calls _ _ _ _ λr w'=>dm w.heap.size w' r (uf (n1,X,e1) (m1,Y,f1))/\_;unfold uf;simp only
     by_cases hX0:X=0
     . rw[if_pos hX0];exact Sm n m e f n1 m1 X Y e1 f1 lX lY ((bT X).2 hX0) lT
     . rw[if_neg hX0]
       by_cases hY0:Y=0
       . rw[if_pos hY0];exact Oo n m e f n1 m1 X Y e1 f1 lX lY (dD hX0) ((bT Y).2 hY0) lT
       . rw[if_neg hY0];have oX:X%2=1:=by rcases FX.odd with h | h <;> omega
         have oY:Y%2=1:=by rcases FY.odd with h | h <;> omega
         by_cases hlt:e1<f1
         . rw[if_pos hlt];have hsh:=zi Y (f1-e1) ae hY0 FY.size;unfold j6
           by_cases hL:262144<bl Y+(f1-e1).toNat
           . rw[if_pos hL] at hsh |-;exact(Oy n m e f n1 m1 X Y e1 f1 lX lY (dD hX0) (dD hY0) hlt ae ae ae ae lT (hid λu p q hu hA=>kY (f1-e1) 0 2 hA ae ae hsh)).mono λr w' h=>zero h
           . rw[if_neg hL] at hsh |-;have hbl:=Gg Y (f1-e1).toNat hY0;obtain⟨L,Y8⟩:∃L,Y*2^(f1-e1).toNat=L:=⟨_,rfl⟩;rw[Y8] at hsh hbl |-;have lL:=len8 (X:=L) ae
             by_cases hs:m1=n1
             . rw[if_pos hs]
               exact Sq n m e f n1 m1 X Y e1 f1 lX lY (dD hX0) (dD hY0) hlt ae ae ae ae lT (by simp[hs]) L lL _ _ _ _ (aR m1 (L+X) e1) (hid λu p q hu hA=>kY (f1-e1) L 0 hA ae ae hsh)
                (hid λu p q s t hu hA hB=>Sr hT hu hA hB m1 e1 ae ae oX ae FX.size)
             . rw[if_neg hs];have hlen:(ws (dX (if X<=L then mkS m1 (L-X) e1 else mkS (!m1) (X-L) e1))).length<=8192:=by split <;> exact aR _ _ _
               exact Oz n m e f n1 m1 X Y e1 f1 lX lY (dD hX0) (dD hY0) hlt ae ae ae ae lT (by simp[hs]) L lL _ _ _ _ hlen (hid λu p q hu hA=>kY (f1-e1) L 0 hA ae ae hsh)
                (hid λu p q s t hu hA hB=>LY hT hu hA hB m1 e1 ae ae ae FX.size)
         . rw[if_neg hlt];have hsh:=zi X (e1-f1) ae hX0 FX.size;have hltd:decide (e1<f1)=false:=decide_eq_false hlt;unfold j6
           by_cases hL:262144<bl X+(e1-f1).toNat
           . rw[if_pos hL] at hsh |-;exact(Oq n m e f n1 m1 X Y e1 f1 lX lY (dD hX0) (dD hY0) hltd ae ae ae ae lT (hid λu p q hu hA=>kY (e1-f1) 0 2 hA ae ae hsh)).mono λr w' h=>zero h
           . rw[if_neg hL] at hsh |-;have hbl:=Gg X (e1-f1).toNat hX0;obtain⟨L,Y8⟩:∃L,X*2^(e1-f1).toNat=L:=⟨_,rfl⟩;rw[Y8] at hsh hbl |-;have lL:=len8 (X:=L) ae
             by_cases hs:n1=m1
             . rw[if_pos hs]
               exact Sn n m e f n1 m1 X Y e1 f1 lX lY (dD hX0) (dD hY0) hltd ae ae ae ae lT (by simp[hs]) L lL _ _ _ _ (aR n1 (L+Y) f1) (hid λu p q hu hA=>kY (e1-f1) L 0 hA ae ae hsh)
                (hid λu p q s t hu hA hB=>Sr hT hu hA hB n1 f1 ae ae oY ae FY.size)
             . rw[if_neg hs];have hlen:(ws (dX (if Y<=L then mkS n1 (L-Y) f1 else mkS (!n1) (Y-L) f1))).length<=8192:=by split <;> exact aR _ _ _
               exact Ox n m e f n1 m1 X Y e1 f1 lX lY (dD hX0) (dD hY0) hltd ae ae ae ae lT (by simp[hs]) L lL _ _ _ _ hlen (hid λu p q hu hA=>kY (e1-f1) L 0 hA ae ae hsh)
                (hid λu p q s t hu hA hB=>LY hT hu hA hB n1 f1 ae ae ae FY.size)
end
namespace B
open Ieee
theorem Dt(f:Format)(j c:Nat)(h:j=0\/f.binade<=c)(hc:c<=2*f.binade):val f (j*f.binade+c)=c*2^j:=by
 have hb:=jT f;unfold val;generalize f.binade=B at *
 by_cases h1:c<B
 . have hj:j=0:=ae
   subst hj;rw[fe,dA,if_pos h1,fO,eQ]
 . have h2:¬ j*B+c<B:=by
    have:=lD (j*B);omega
   rw[if_neg h2]
   by_cases h3:c=2*B
   . subst h3;have e:j*B+2*B=(j+2)*B:=by rw[fT]
     rw[e,Nat.mul_mod_left,Nat.mul_div_cancel _ hb,il,show j+2-1=j+1 from rfl,dS,cK 2 B,aQ,cK 2]
   . have e:j*B+c=B*(j+1)+(c-B):=by
      rw[Nat.mul_succ,cK j];omega
     have e1:(j*B+c)%B=c-B:=by rw[e,Nat.mul_add_mod,jL ae]
     have e2:(j*B+c)/B=j+1:=by rw[e,Nat.mul_add_div hb,iq ae]
     rw[e1,e2,mX,show B+(c-B)=c from by omega]
theorem Du(f:Format)(neg:Bool)(mag k a:Nat)(hm:mag≠0) :
 ∃R,f.nearest neg mag (f.leastPlace+(k:Int)-(a:Int))=f.word neg (min R f.infRung) /\
   (val f R*2^a<=mag*2^k->mag*2^k<val f (R+1)*2^a) /\
   (mag*2^k<val f R*2^a->0<R/\val f (R-1)*2^a<mag*2^k):=by
 unfold Format.nearest;rw[if_neg hm];simp only[FI,Cs];have hl:=(Nat.log2_eq_iff hm (k:=mag.log2)).1 rfl;generalize mag.log2=L at *;have hB:f.binade=2^f.fractionBits:=rfl;have hb:=jT f
 obtain⟨j,hj⟩:∃j:Nat,max (f.leastPlace+(k:Int)-(a:Int)+(L:Int)-(f.fractionBits:Int)) f.leastPlace=f.leastPlace+j :=
  ⟨(max (f.leastPlace+(k:Int)-(a:Int)+(L:Int)-(f.fractionBits:Int)) f.leastPlace-f.leastPlace).toNat,ae⟩
 have hj1:k+L<=a+f.fractionBits+j:=ae
 have hj2:j=0\/k+L=a+f.fractionBits+j:=ae
 rw[hj];have e3:(f.leastPlace+(j:Int)-f.leastPlace).toNat=j:=ae
 have e1:(f.leastPlace+(k:Int)-(a:Int)-(f.leastPlace+(j:Int))).toNat=k-(a+j):=ae
 have e2:(f.leastPlace+(j:Int)-(f.leastPlace+(k:Int)-(a:Int))).toNat=a+j-k:=ae
 rw[e1,e2,e3];have hg:0<2^(a+j-k):=bG _
 -- V*g=m'*2^(a+j)
 have hV:mag*2^k*2^(a+j-k)=mag*2^(k-(a+j))*2^(a+j):=by
  rw[aQ,aQ,<-aP,<-aP];congr 2;omega
 have up:mag*2^(k-(a+j))<2*f.binade*2^(a+j-k):=by
  have:2*f.binade=2^(f.fractionBits+1):=by rw[hB,dS,cK]
  rw[this,<-aP];refine gT (fK hl.2 (bG _)) ?_;rw[<-aP];exact fD ae ae
 have dn:j=0\/f.binade*2^(a+j-k)<=mag*2^(k-(a+j)):=by
  rcases hj2 with h|h
  . exact Or.inl h
  . right
    refine dB ?_ (dL _ hl.1);rw[hB,<-aP,<-aP];exact fD ae ae
 generalize hm':mag*2^(k-(a+j))=m' at *;generalize 2^(a+j-k)=g at *;generalize mag*2^k=V at *;have OA:=oz m' g;have hmod:=iB m' hg;have hlow:m'/g<2*f.binade:=(xM hg).2 up
 have hlow2:j=0\/f.binade<=m'/g:=by
  rcases dn with h|h
  . exact Or.inl h
  . exact Or.inr ((yl hg).2 h)
 have hp2:0<2^(a+j):=bG _
 -- the bounds
 have b1:m'/g*2^(a+j)<=V:=by
  refine Nat.le_of_mul_le_mul_right ?_ hg;rw[hV,Au];exact dL _ (by rw[cK];omega)
 have b2:V<(m'/g+1)*2^(a+j):=by
  refine xP (a:=g) ?_;rw[hV,Au];refine fK ?_ hp2;rw[fT,ik,cK];omega
 have b3:m'%g≠0->m'/g*2^(a+j)<V:=by
  intro hr;refine xP (a:=g) ?_;rw[hV,Au];refine fK ?_ hp2;rw[cK];omega
 have v0:val f (j*f.binade+m'/g)*2^a=m'/g*2^(a+j):=by
  rw[Dt f j _ hlow2 ae,aQ,<-aP,oV j a]
 have v1:val f (j*f.binade+(m'/g+1))*2^a=(m'/g+1)*2^(a+j):=by
  rw[Dt f j _ ae ae,aQ,<-aP,oV j a]
 refine⟨j*f.binade+YV m' g,rfl,?_,?_⟩
 . unfold YV
   cases hc:(decide (g<2*(m'%g)) || (g==2*(m'%g)&&m'/g%2==1))
   . intro _;simp only[gF,il];rw[oo,v1];exact b2
   . intro h;simp only[gD] at h;rw[v1] at h;omega
 . unfold YV
   cases hc:(decide (g<2*(m'%g)) || (g==2*(m'%g)&&m'/g%2==1))
   . intro h;simp only[gF,il] at h;rw[v0] at h;omega
   . intro _;simp only[gD];refine⟨Nat.succ_pos _,?_⟩;rw[show j*f.binade+(m'/g+1)-1=j*f.binade+m'/g from rfl,v0];refine b3 (λhr=>?_);rw[hr] at hc;simp at hc;omega
theorem zk(f:Format)(neg:Bool)(mag k a r:Nat)(hr:r<f.infRung)(h:mag*2^k=val f r*2^a)(hm:mag≠0) :
 f.nearest neg mag (f.leastPlace+(k:Int)-(a:Int))=f.word neg r:=by
 obtain⟨R,e,h1,h2⟩:=Du f neg mag k a hm;have hp:0<2^a:=bG _
 have:R=r:=by
  by_cases c:val f R*2^a<=mag*2^k
  . have c2:=h1 c;rw[h] at c c2;have d1:=Nat.le_of_mul_le_mul_right c hp;have d2:=(iH f).1 (xP c2);have d3:¬ r<R:=λhh=>by have:=dh f hh;omega
    omega
  . have c2:=h2 ae;rw[h] at c c2;have d1:=(iH f).1 (xP (a:=2^a) (Nat.lt_of_not_le c));have d2:=(iH f).1 (xP c2.2);omega
 rw[e,this,iQ ae]
end B
namespace B
open Go.RowKit
attribute [local go_sem] aW aJ
theorem Bz (f:Ieee.Format) (hs:f.infRung<f.signWeight) (s t:Bool) (r u v a:Nat) (ha:f.leastPlace=-(a:Int)) (hr:r<f.infRung) (hu:u<f.infRung) (hv:v<f.infRung)
 (h:val f r*val f u=val f v*2^a) (h0:val f r≠0) (h1:val f u≠0):f.mul (f.word s r) (f.word t u)=some (f.word (s ^^ t) v):=by
 obtain⟨m,k,e1,v1⟩:=nu f s r hr hs;obtain⟨n,j,e2,v2⟩:=nu f t u hu hs;unfold Ieee.Format.mul;rw[e1,e2];show some (f.nearest (s ^^ t) (m*n) (f.leastPlace+k+(f.leastPlace+j)))=_;have e:f.leastPlace+(k:Int)+(f.leastPlace+(j:Int))=f.leastPlace+((k+j:Nat):Int)-(a:Int):=ae
 have IX:m*n≠0:=by
  intro h2;rcases CE.1 h2 with h3|h3
  . subst h3;simp at v1;exact h0 v1.symm
  . subst h3;simp at v2;exact h1 v2.symm
 rw[e,zk f _ (m*n) (k+j) a v hv ?_ IX];rw[<-h,<-v1,<-v2,aP]
 grind
theorem Sv(a:Nat)(h:a<2^63):a &&& 2^63=0:=by
 apply Nat.eq_of_testBit_eq;intro i;rw[Nat.testBit_and,Nat.testBit_two_pow,Nat.zero_testBit]
 by_cases hi:63=i
 . subst hi;rw[Nat.testBit_lt_two_pow h];rfl
 . simp[hi]
theorem JC(e g:Nat)(he:e<2048)(hg:g<4503599627370496):bits .andNot .u64 ((bw false e g:Nat):Int) 9218868437227405312=(g:Int):=by
 have h:=u64_andNot_nat (bw false e g) 9218868437227405312 (pU false e g he hg) ae;rw[show(((9218868437227405312:Nat)):Int)=9218868437227405312 from rfl] at h;rw[h];have hb:bw false e g=e*4503599627370496+g:=by unfold bw;simp
 have hlt:bw false e g<2^63:=by rw[hb];omega
 have e1:18446744073709551615-9218868437227405312=2^63 ||| (2^52-1):=aM
 rw[e1,Nat.and_or_distrib_left,IM,Sv _ hlt,Nat.zero_or,hb];omega
theorem zl(E g:Nat)(hE:E<2048)(hg:g<4503599627370496):bits .or .u64 (g:Int) ((E:Int)*4503599627370496)=((bw false E g:Nat):Int):=by
 have hc:bits .or .u64 (g:Int) ((E:Int)*4503599627370496)=bits .or .u64 ((E:Int)*4503599627370496) (g:Int):=by simp only[bits,BitVec.or_comm]
 rw[hc,bits_join .u64 64 aM wraps_u64 52 ((E:Int)*4503599627370496) (g:Int) ae ae ae ae ae ae];unfold bw;simp
theorem isInf0(e g:Nat)(he:e<2047)(hg:g<4503599627370496)(w:World) :
 Ax 226 #[.float .f64 (bw false e g),.int .i64 0] w (.bool false):=by
 have H:=hid (Dn false e g ae hg w);have h1:=Z7 false e g ae hg;have h2:(!false&&(e==2047&&g==0))=false:=by simp;omega
 rw[h2] at h1;generalize bw false e g=b at *;go_enter Tryz.func226,Tryz.ntmps226;go_wp2_with fail;refine H.o.mono ?_;rintro r w1 ⟨rfl,rfl⟩;go_wp2;go_ret;exact⟨rfl,rfl⟩
theorem Ag(e g:Nat)(h0:0<e)(he:e<2047)(hg:g<4503599627370496)(w:World) :
 Ax 227 #[.float .f64 (bw false e g)] w (.tuple #[.float .f64 (bw false e g),.int .i64 0]):=by
 have H:=hid (Dn false e g ae hg w);have h1:=Js false false e g 1 0 ae hg ae ae
 have h3:(!odd e g&&(!odd 1 0&&decide (pl false e g<pl false 1 0)))=false:=by
  have:¬ pl false e g<pl false 1 0:=by unfold pl sg;simp;omega
  simp[this]
 rw[h3,show bw false 1 0=4503599627370496 from rfl] at h1;generalize bw false e g=b at *;clear h3;go_enter Tryz.func227,Tryz.ntmps227;go_wp2_with fail;refine H.o.mono ?_;rintro r w1 ⟨rfl,rfl⟩;go_wp2
 go_ret2
 exact⟨rfl,rfl⟩
theorem WI(w:World):Ax 228 #[.int .i64 1] w (.float .f64 9218868437227405312):=by
 go_enter Tryz.func228,Tryz.ntmps228;go_wp2;exact Jx
theorem Dv(e g:Nat)(he:e<2048)(hg:g<4503599627370496)(w:World) :
 Ax 90 #[.float .f64 (bw false e g),.float .f64 13830554455654793216] w (.float .f64 (bw true e g)):=by
 have h1:=R4 false e g he hg;have h2:bits .and .u64 13830554455654793216 9223372036854775808=9223372036854775808:=aM
 have hb:bw false e g=e*4503599627370496+g:=by unfold bw;simp
 have h3:=V4 ((bw false e g:Nat):Int) ae (by rw[hb];omega);have h4:((bw false e g:Nat):Int)+9223372036854775808=((bw true e g:Nat):Int):=by unfold bw;simp;omega
 rw[h4] at h3;generalize bw false e g=b at *;generalize bw true e g=d at *;clear hb h4;go_enter Tryz.func90,Tryz.ntmps90;go_wp2;go_ret;exact⟨aN,rfl⟩
end B
end Go.Proofs.YtjppdacikihpdaaGreatDoor
