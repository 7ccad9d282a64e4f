import Derived.Test.YtfmfhehbdfhnbaaGreatDoorD8x
import Derived.Deep.Cut
import Derived.Test.YtfmfhehbdfhnbaaGreatDoorW50x
import Derived.Test.YtfmfhehbdfhnbaaGreatDoorBIeeex
import Derived.Laws.FloatArith
set_option linter.unusedVariables false
set_option linter.unusedSimpArgs false
set_option maxHeartbeats 16000000
set_option maxRecDepth 20000
namespace Go.Proofs.YtfmfhehbdfhnbaaGreatDoor
section
open Go.RowKit
def Dk(w:World)(g:Nat)(n:Bool)(v:Value)(e:Int):Prop:=w.heap[g]?=some (.cells #[.bool n,v,.int .i64 e] 25 (0,0))
theorem Dk.lt{w:World}{g:Nat}{n:Bool}{v:Value}{e:Int}(h:Dk w g n v e):g<w.heap.size:=(gL.1 h).1
theorem Qaf{P:Prop}(h:P:=by
 rw[hb.block g h.lt];exact h):P:=h
theorem Dk.below{w w':World}{g:Nat}{n:Bool}{v:Value}{e:Int}(h:Dk w g n v e)(hb:Below w.heap.size w w'):Dk w' g n v e:=by
 unfold Dk;exact Qaf
theorem Dk.alloc{w:World}{g:Nat}{n:Bool}{v:Value}{e:Int}(h:Dk w g n v e)(o:Obj):Dk (w.alloc o) g n v e:=h.below (af w o)
theorem Dk.new(w:World)(n:Bool)(v:Value)(e:Int):Dk (w.alloc (.cells #[.bool n,v,.int .i64 e] 25)) w.heap.size n v e:=gY _ _
theorem Dk.facts{w:World}{g:Nat}{n:Bool}{v:Value}{e:Int}(h:Dk w g n v e) :
 w.cell? ⟨g,0,none⟩=some (.bool n)/\w.cell? ⟨g,1,none⟩=some v/\w.cell? ⟨g,2,none⟩=some (.int .i64 e)/\w.frozen? ⟨g,0,none⟩=false/\w.frozen? ⟨g,1,none⟩=false/\w.frozen? ⟨g,2,none⟩=false:=by
 unfold Dk at h;simp[World.cell?,World.frozen?,h]
abbrev dM(w:World)(g:Nat)(x y z:Value):World:=((w.setCell ⟨g,0,none⟩ x).setCell ⟨g,1,none⟩ y).setCell ⟨g,2,none⟩ z
theorem Fb(w:World)(g:Nat)(x y z:Value):(dM w g x y z).heap.size=w.heap.size:=by simp[dM,World.setCell]
theorem Dk.set{w:World}{g:Nat}{n:Bool}{v:Value}{e:Int}(h:Dk w g n v e)(m:Bool)(u:Value)(f:Int):Dk (dM w g (.bool m) u (.int .i64 f)) g m u f:=by
 unfold Dk at h |-;simp[dM,World.setCell,mJ,h]
theorem Dk.other{w:World}{g:Nat}{n:Bool}{v:Value}{e:Int}(h:Dk w g n v e)(g':Nat)(hg:g≠g')(x y z:Value):Dk (dM w g' x y z) g n v e:=by
 unfold Dk;rw[(mU g' w x y z).block g h.lt hg];exact h
theorem Fin.dM{lo m:Nat}{w0 w:World}{v:Value}{X:Nat}(H:Fin lo m w0 w v X)(g:Nat)(x y z:Value)(h1:lo<=g)(h2:g<m):Fin lo m w0 (dM w g x y z) v X:=((H.set g 0 x h1 h2).set g 1 y h1 h2).set g 2 z h1 h2
theorem Fin.below{lo m:Nat}{w0 w w':World}{v:Value}{X:Nat}(H:Fin lo m w0 w v X)(hb:Below w.heap.size w w'):Fin lo m w0 w' v X:=⟨H.nt.below hb,H.aB.trans (hb.mono H.size),dW H.size hb.size⟩
theorem Fin.drew{lo m:Nat}{w0 w:World}{v:Value}{X:Nat}(H:Fin lo m w0 w v X):Fin lo m w0 w.drew v X:=⟨H.nt,H.aB.drew,H.size⟩
theorem Fin.pair{lo m:Nat}{w0 w:World}{v v':Value}{X X':Nat}{n n':Bool}{e e':Int}{k:Value}(H:Fin lo m w0 w v X)(H':Fin lo m w0 w v' X')(h:lo<=m) :
 ∃ p q,Ending.returned (.tuple #[.agg #[.bool n,v,.int .i64 e],.agg #[.bool n',v',.int .i64 e'],k])=.returned (.tuple #[.agg #[.bool n,p,.int .i64 e],.agg #[.bool n',q,.int .i64 e'],k])/\Nt lo w p X/\Nt lo w q X'/\Below lo w0 w:=⟨v,v',rfl,H.nt.mono h,H'.nt.mono h,H.aB⟩
theorem BR(W:World)(g h:Nat)(n m:Bool)(v u:Value)(e f k:Int)(tmps:Array Value)(ht:tmps[4]?.getD undef=.pointer (some ⟨g,0,none⟩))(hs:tmps[5]?.getD undef=.pointer (some ⟨h,0,none⟩))(hk:tmps[6]?.getD undef=.int .i64 k)(D:Dk W g n v e)(E:Dk W h m u f) :
 (results Tryz.f98 tmps).run Tryz.prog W=.ok (.tuple #[.agg #[.bool n,v,.int .i64 e],.agg #[.bool m,u,.int .i64 f],.int .i64 k]) W:=by
 obtain⟨x0,x1,x2,dw,dz,dA⟩:=D.facts;obtain⟨y0,y1,y2,dF,dG,dH⟩:=E.facts;simp[results,Tryz.results98,ht,hs,hk,go_sem,x0,x1,x2,y0,y1,y2]
theorem Fe {w:World}{a b:Option Addr}{l c k d:Nat}{xs ys:List Nat}(h1:Arg w a l c xs) (h2:Arg w b k d ys) (hT:dU w) (n m:Bool) (e f:Int) (he0:-9223372036854775808<=e) (he1:e<=9223372036854775807) (hf0:-9223372036854775808<=f) (hf1:f<=9223372036854775807)
 (n1 m1:Bool) (X Y:Nat) (e1 f1:Int) (hx:mkS n (val xs) e=some (n1,X,e1)) (hy:mkS m (val ys) f=some (m1,Y,f1)) :
 Calls Tryz.prog 98 #[.agg #[.bool n,.slice a l c,.int .i64 e],.agg #[.bool m,.slice b k d,.int .i64 f]] w fun r w' =>
  ∃ v u,r=.returned (.tuple #[.agg #[.bool n1,v,.int .i64 e1],.agg #[.bool m1,u,.int .i64 f1],.int .i64 0])/\Nt w.heap.size w' v X/\Nt w.heap.size w' u Y/\Below w.heap.size w w':=by
 obtain⟨W1,hW1⟩:=ah ((((w.alloc (.cells #[.bool n,.slice a l c,.int .i64 e] 25)).alloc (.cells #[.bool m,.slice b k d,.int .i64 f] 25)).alloc (.cells zD3 25)).alloc (.cells zD3 25));have hB:Below w.heap.size w W1:=by rw[hW1];exact(((af w _).alloc aQ _).alloc (by simp;omega) _).alloc (by simp;omega) _
 have hz1:W1.heap.size=w.heap.size+4:=by rw[hW1];simp
 have D1:Dk W1 (w.heap.size+1) m (.slice b k d) f:=by rw[hW1];have:=((Dk.new (w.alloc (.cells #[.bool n,.slice a l c,.int .i64 e] 25)) m (.slice b k d) f).alloc (.cells zD3 25)).alloc (.cells zD3 25);simpa using this
 have D2:Dk W1 (w.heap.size+1+1) false (.slice none 0 0) 0:=by rw[hW1];have:=(Dk.new ((w.alloc (.cells #[.bool n,.slice a l c,.int .i64 e] 25)).alloc (.cells #[.bool m,.slice b k d,.int .i64 f] 25)) false (.slice none 0 0) 0).alloc (.cells zD3 25);simpa using this
 have D3:Dk W1 (w.heap.size+1+1+1) false (.slice none 0 0) 0:=by rw[hW1];have:=Dk.new (((w.alloc (.cells #[.bool n,.slice a l c,.int .i64 e] 25)).alloc (.cells #[.bool m,.slice b k d,.int .i64 f] 25)).alloc (.cells zD3 25)) false (.slice none 0 0) 0;simpa using this
 have kF:=mV (h1.below hB) (hT.belows hB) n e he0 he1;have l9:Hid (∀ u,Below w.heap.size w u->Calls Tryz.prog 125 #[.agg #[.bool m,.slice b k d,.int .i64 f]] u fun r w'=>dm u.heap.size w' r (mkS m (val ys) f)/\Below u.heap.size u w'):=fun u hu=>mV (h2.below hu) (hT.belows hu) m f hf0 hf1;have lX:(ws X).length<=8192:=by have:=aR n (val xs) e;rw[hx] at this;exact this
 have lY:(ws Y).length<=8192:=by have:=aR m (val ys) f;rw[hy] at this;exact this
 rw[hx] at kF;rw[hy] at l9;simp only[dm,dN,dX,dE,o7,Option.isSome,Option.getD,if_true,fJ,if_false] at kF l9;have H1:=hid kF;have SB:=(fO hB hz1 D1 D2 D3);clear kF h1 h2 hT hx hy he0 he1 hf0 hf1 hB hz1 D1 D2 D3;go_enter Tryz.func98,Tryz.ntmps98;go_wp2_with fail;rw[<-hW1];clear hW1;refine H1.o.mono ?_;rintro r u1 ⟨⟨v,rfl,hN⟩,hb⟩;obtain⟨a1,c1,rfl,_⟩:=hN.arg ae;obtain⟨hB,hz1,D1,D2,D3⟩:=SB.o;have E1:=D1.below hb;have E2:=D2.below hb;have E3:=D3.below hb;obtain⟨p0,p1,p2,w9,xc,xe⟩:=E1.facts;obtain⟨q0,q1,q2,AQ,AU,AV⟩:=E2.facts;have F1:Fin w.heap.size (w.heap.size+4) w u1 (.slice a1 (ws X).length c1) X:=⟨by rw[<-hz1];exact hN,hB.trans (hb.mono ae),by have:=hb.size;omega⟩;obtain⟨U1,aX⟩:=ah (dM u1 (w.heap.size+1+1) (.bool n1) (.slice a1 (ws X).length c1) (.int .i64 e1));have G1:Fin w.heap.size (w.heap.size+4) w U1 (.slice a1 (ws X).length c1) X:=by rw[aX];exact F1.dM _ _ _ _ ae ae
 have I2:Dk U1 (w.heap.size+1+1) n1 (.slice a1 (ws X).length c1) e1:=by rw[aX];exact E2.set _ _ _
 have I3:Dk U1 (w.heap.size+1+1+1) false (.slice none 0 0) 0:=by rw[aX];exact E3.other _ ae _ _ _
 have I1:Dk U1 (w.heap.size+1) m (.slice b k d) f:=by rw[aX];exact E1.other _ ae _ _ _
 have hsz1:U1.heap.size=u1.heap.size:=by rw[aX];exact Fb _ _ _ _ _
 have H2:=hid (l9.o _ G1.aB);have S1:=(dC G1 I2 I3);obtain⟨i0,i1,i2,Ux,Uy,Uz⟩:=I1.facts;have MC:w.heap.size+4<=U1.heap.size:=by rw[hsz1];have:=hb.size;omega
 clear hN hb F1 G1 H1 hB hz1 D1 D2 D3 E1 E2 E3 I2 I3 I1 SB hsz1;unfold dM at aX;go_wp2_with fail;rw[<-aX];clear aX;refine H2.o.mono ?_;rintro r u2 ⟨⟨v,rfl,hN⟩,hb⟩;obtain⟨a2,c2,rfl,_⟩:=hN.arg ae;obtain⟨G1,I2,I3⟩:=S1.o;have J2:=I2.below hb;have J3:=I3.below hb;obtain⟨U2,fH⟩:=ah (dM u2 (w.heap.size+1+1+1) (.bool m1) (.slice a2 (ws Y).length c2) (.int .i64 f1));have K2:Dk U2 (w.heap.size+1+1) n1 (.slice a1 (ws X).length c1) e1:=by rw[fH];exact J2.other _ ae _ _ _
 have K3:Dk U2 (w.heap.size+1+1+1) m1 (.slice a2 (ws Y).length c2) f1:=by rw[fH];exact J3.set _ _ _
 have Q1:=aA (show Fin w.heap.size (w.heap.size+4) w U2 (.slice a1 (ws X).length c1) X by rw[fH];exact(G1.below hb).dM _ _ _ _ ae ae);have Q2:=aA (show Fin w.heap.size (w.heap.size+4) w U2 (.slice a2 (ws Y).length c2) Y by rw[fH];exact Fin.dM ⟨hN.mono MC,(G1.below hb).aB,(G1.below hb).size⟩ _ _ _ _ ae ae);obtain⟨s0,s1,s2,uZ,ve,vg⟩:=J3.facts;obtain⟨x0,x1,x2,dw,dz,dA⟩:=K2.facts;obtain⟨y0,y1,y2,dF,dG,dH⟩:=K3.facts;clear hN hb H2 S1 G1 I2 I3 J2 J3 K2 K3;unfold dM at fH;go_wp2;rw[<-fH];clear fH l9
 go_region
 all_goals (
  go_wp2;refine aG (v:=.tuple #[.agg #[.bool n1,.slice a1 (ws X).length c1,.int .i64 e1],.agg #[.bool m1,.slice a2 (ws Y).length c2,.int .i64 f1],.int .i64 0]) (by simp[results,Tryz.results98,go_sem,x0,x1,x2,y0,y1,y2]) rfl ?_;refine Fin.pair (m:=w.heap.size+4) ?_ ?_ ae
  · repeat (with_reducible first | exact Q1.o | refine Fin.drew ?_ | refine Fin.alloc ?_ _ | refine Fin.set ?_ _ _ _ ae ae)
  · repeat (with_reducible first | exact Q2.o | refine Fin.drew ?_ | refine Fin.alloc ?_ _ | refine Fin.set ?_ _ _ _ ae ae))
theorem zb {w:World}{a b:Option Addr}{l c k d:Nat}{xs ys:List Nat}(h1:Arg w a l c xs) (h2:Arg w b k d ys) (hT:dU w) (n m:Bool) (e f:Int) (he0:-9223372036854775808<=e) (he1:e<=9223372036854775807) (hf0:-9223372036854775808<=f) (hf1:f<=9223372036854775807)
 (hx:mkS n (val xs) e=none) :
 Calls Tryz.prog 98 #[.agg #[.bool n,.slice a l c,.int .i64 e],.agg #[.bool m,.slice b k d,.int .i64 f]] w fun r w' =>
  r=.returned (.tuple #[.agg zD3,.agg zD3,.int .i64 2])/\Below w.heap.size w w':=by
 obtain⟨W1,hW1⟩:=ah ((((w.alloc (.cells #[.bool n,.slice a l c,.int .i64 e] 25)).alloc (.cells #[.bool m,.slice b k d,.int .i64 f] 25)).alloc (.cells zD3 25)).alloc (.cells zD3 25));have hB:Below w.heap.size w W1:=by rw[hW1];exact(((af w _).alloc aQ _).alloc (by simp;omega) _).alloc (by simp;omega) _
 have hz1:W1.heap.size=w.heap.size+4:=by rw[hW1];simp
 have D1:Dk W1 (w.heap.size+1) m (.slice b k d) f:=by rw[hW1];have:=((Dk.new (w.alloc (.cells #[.bool n,.slice a l c,.int .i64 e] 25)) m (.slice b k d) f).alloc (.cells zD3 25)).alloc (.cells zD3 25);simpa using this
 have D2:Dk W1 (w.heap.size+1+1) false (.slice none 0 0) 0:=by rw[hW1];have:=(Dk.new ((w.alloc (.cells #[.bool n,.slice a l c,.int .i64 e] 25)).alloc (.cells #[.bool m,.slice b k d,.int .i64 f] 25)) false (.slice none 0 0) 0).alloc (.cells zD3 25);simpa using this
 have D3:Dk W1 (w.heap.size+1+1+1) false (.slice none 0 0) 0:=by rw[hW1];have:=Dk.new (((w.alloc (.cells #[.bool n,.slice a l c,.int .i64 e] 25)).alloc (.cells #[.bool m,.slice b k d,.int .i64 f] 25)).alloc (.cells zD3 25)) false (.slice none 0 0) 0;simpa using this
 have kF:=mV (h1.below hB) (hT.belows hB) n e he0 he1;have l0:(ws 0).length=0:=by rw[bO];rfl
 rw[hx] at kF;simp only[dm,dN,dX,dE,o7,Option.isSome,Option.getD,if_true,fJ,if_false] at kF;have H1:=hid kF;have SB:=(fO hB hz1 D1 D2 D3);clear kF h1 h2 hT hx he0 he1 hf0 hf1 hB hz1 D1 D2 D3;go_enter Tryz.func98,Tryz.ntmps98;go_wp2_with fail;rw[<-hW1];clear hW1;refine H1.o.mono ?_;rintro r u1 ⟨⟨v,rfl,hN⟩,hb⟩;obtain⟨a1,c1,rfl,_⟩:=hN.arg ae;obtain⟨hB,hz1,D1,D2,D3⟩:=SB.o;have E2:=D2.below hb;have E3:=D3.below hb;obtain⟨q0,q1,q2,AQ,AU,AV⟩:=E2.facts;obtain⟨y0,y1,y2,dF,dG,dH⟩:=E3.facts;have F1:=aA (show Fin w.heap.size (w.heap.size+4) w u1 (.slice none 0 0) 0 from⟨Nt.nil _ _,hB.trans (hb.mono ae),by have:=hb.size;omega⟩);have SE:=(aP E2 E3);clear hN hb H1 hB hz1 D1 D2 D3 E2 E3 SB;go_wp2;obtain⟨E2,E3⟩:=SE.o;refine aG (BR _ (w.heap.size+1+1) (w.heap.size+1+1+1) false false (.slice none 0 0) (.slice none 0 0) 0 0 2 _ rfl rfl rfl (((E2.set _ _ _).set _ _ _).other _ ae _ _ _) (((E3.other _ ae _ _ _).other _ ae _ _ _).set _ _ _)) rfl ⟨rfl,?_⟩;refine Fin.aB (m:=w.heap.size+4) (v:=.slice none 0 0) (X:=0) ?_
 repeat (with_reducible first | exact F1.o | refine Fin.drew ?_ | refine Fin.alloc ?_ _ | refine Fin.set ?_ _ _ _ ae ae)
theorem ze {w:World}{a b:Option Addr}{l c k d:Nat}{xs ys:List Nat}(h1:Arg w a l c xs) (h2:Arg w b k d ys) (hT:dU w) (n m:Bool) (e f:Int) (he0:-9223372036854775808<=e) (he1:e<=9223372036854775807) (hf0:-9223372036854775808<=f) (hf1:f<=9223372036854775807)
 (n1:Bool) (X:Nat) (e1:Int) (hx:mkS n (val xs) e=some (n1,X,e1)) (hy:mkS m (val ys) f=none) :
 Calls Tryz.prog 98 #[.agg #[.bool n,.slice a l c,.int .i64 e],.agg #[.bool m,.slice b k d,.int .i64 f]] w fun r w' =>
  r=.returned (.tuple #[.agg zD3,.agg zD3,.int .i64 2])/\Below w.heap.size w w':=by
 obtain⟨W1,hW1⟩:=ah ((((w.alloc (.cells #[.bool n,.slice a l c,.int .i64 e] 25)).alloc (.cells #[.bool m,.slice b k d,.int .i64 f] 25)).alloc (.cells zD3 25)).alloc (.cells zD3 25));have hB:Below w.heap.size w W1:=by rw[hW1];exact(((af w _).alloc aQ _).alloc (by simp;omega) _).alloc (by simp;omega) _
 have hz1:W1.heap.size=w.heap.size+4:=by rw[hW1];simp
 have D1:Dk W1 (w.heap.size+1) m (.slice b k d) f:=by rw[hW1];have:=((Dk.new (w.alloc (.cells #[.bool n,.slice a l c,.int .i64 e] 25)) m (.slice b k d) f).alloc (.cells zD3 25)).alloc (.cells zD3 25);simpa using this
 have D2:Dk W1 (w.heap.size+1+1) false (.slice none 0 0) 0:=by rw[hW1];have:=(Dk.new ((w.alloc (.cells #[.bool n,.slice a l c,.int .i64 e] 25)).alloc (.cells #[.bool m,.slice b k d,.int .i64 f] 25)) false (.slice none 0 0) 0).alloc (.cells zD3 25);simpa using this
 have D3:Dk W1 (w.heap.size+1+1+1) false (.slice none 0 0) 0:=by rw[hW1];have:=Dk.new (((w.alloc (.cells #[.bool n,.slice a l c,.int .i64 e] 25)).alloc (.cells #[.bool m,.slice b k d,.int .i64 f] 25)).alloc (.cells zD3 25)) false (.slice none 0 0) 0;simpa using this
 have kF:=mV (h1.below hB) (hT.belows hB) n e he0 he1;have l9:Hid (∀ u,Below w.heap.size w u->Calls Tryz.prog 125 #[.agg #[.bool m,.slice b k d,.int .i64 f]] u fun r w'=>dm u.heap.size w' r (mkS m (val ys) f)/\Below u.heap.size u w'):=fun u hu=>mV (h2.below hu) (hT.belows hu) m f hf0 hf1;have lX:(ws X).length<=8192:=by have:=aR n (val xs) e;rw[hx] at this;exact this
 have l0:(ws 0).length=0:=by rw[bO];rfl
 rw[hx] at kF;rw[hy] at l9;simp only[dm,dN,dX,dE,o7,Option.isSome,Option.getD,if_true,fJ,if_false] at kF l9;have H1:=hid kF;have SB:=(fO hB hz1 D1 D2 D3);clear kF h1 h2 hT hx hy he0 he1 hf0 hf1 hB hz1 D1 D2 D3;go_enter Tryz.func98,Tryz.ntmps98;go_wp2_with fail;rw[<-hW1];clear hW1;refine H1.o.mono ?_;rintro r u1 ⟨⟨v,rfl,hN⟩,hb⟩;obtain⟨a1,c1,rfl,_⟩:=hN.arg ae;obtain⟨hB,hz1,D1,D2,D3⟩:=SB.o;have E1:=D1.below hb;have E2:=D2.below hb;have E3:=D3.below hb;obtain⟨p0,p1,p2,w9,xc,xe⟩:=E1.facts;obtain⟨q0,q1,q2,AQ,AU,AV⟩:=E2.facts;have F1:Fin w.heap.size (w.heap.size+4) w u1 (.slice a1 (ws X).length c1) X:=⟨by rw[<-hz1];exact hN,hB.trans (hb.mono ae),by have:=hb.size;omega⟩;obtain⟨U1,aX⟩:=ah (dM u1 (w.heap.size+1+1) (.bool n1) (.slice a1 (ws X).length c1) (.int .i64 e1));have G1:Fin w.heap.size (w.heap.size+4) w U1 (.slice a1 (ws X).length c1) X:=by rw[aX];exact F1.dM _ _ _ _ ae ae
 have I2:Dk U1 (w.heap.size+1+1) n1 (.slice a1 (ws X).length c1) e1:=by rw[aX];exact E2.set _ _ _
 have I3:Dk U1 (w.heap.size+1+1+1) false (.slice none 0 0) 0:=by rw[aX];exact E3.other _ ae _ _ _
 have I1:Dk U1 (w.heap.size+1) m (.slice b k d) f:=by rw[aX];exact E1.other _ ae _ _ _
 have hsz1:U1.heap.size=u1.heap.size:=by rw[aX];exact Fb _ _ _ _ _
 have H2:=hid (l9.o _ G1.aB);have S1:=(dC G1 I2 I3);obtain⟨i0,i1,i2,Ux,Uy,Uz⟩:=I1.facts;have MC:w.heap.size+4<=U1.heap.size:=by rw[hsz1];have:=hb.size;omega
 clear hN hb F1 G1 H1 hB hz1 D1 D2 D3 E1 E2 E3 I2 I3 I1 SB hsz1;unfold dM at aX;go_wp2_with fail;rw[<-aX];clear aX;refine H2.o.mono ?_;rintro r u2 ⟨⟨v,rfl,hN⟩,hb⟩;obtain⟨a2,c2,rfl,_⟩:=hN.arg ae;obtain⟨G1,I2,I3⟩:=S1.o;have J2:=I2.below hb;have J3:=I3.below hb;have Q1:=aA (G1.below hb);obtain⟨s0,s1,s2,uZ,ve,vg⟩:=J3.facts;obtain⟨x0,x1,x2,dw,dz,dA⟩:=J2.facts;have SE:=(aP J2 J3);clear hN hb H2 S1 G1 I2 I3 J2 J3;go_wp2;obtain⟨E2,E3⟩:=SE.o;refine aG (BR _ (w.heap.size+1+1) (w.heap.size+1+1+1) false false (.slice none 0 0) (.slice none 0 0) 0 0 2 _ rfl rfl rfl (((E2.other _ ae _ _ _).set _ _ _).other _ ae _ _ _) (((E3.set _ _ _).other _ ae _ _ _).set _ _ _)) rfl ⟨rfl,?_⟩;refine Fin.aB (m:=w.heap.size+4) (v:=.slice a1 (ws X).length c1) (X:=X) ?_
 repeat (with_reducible first | exact Q1.o | refine Fin.drew ?_ | refine Fin.alloc ?_ _ | refine Fin.set ?_ _ _ _ ae ae)
theorem mi(W:World)(g:Nat)(n:Bool)(v:Value)(e k:Int)(tmps:Array Value)(ht:tmps[4]?.getD undef=.pointer (some ⟨g,0,none⟩))(hk:tmps[5]?.getD undef=.int .i64 k)(D:Dk W g n v e) :
 (results Tryz.f100 tmps).run Tryz.prog W=.ok (.tuple #[.agg #[.bool n,v,.int .i64 e],.int .i64 k]) W:=by
 obtain⟨x0,x1,x2,dw,dz,dA⟩:=D.facts;simp[results,Tryz.results100,ht,hk,go_sem,x0,x1,x2]
theorem bE(w:World)(n m:Bool)(v u:Value)(e f:Int)(W:World)(hW:W=((w.alloc (.cells #[.bool n,v,.int .i64 e] 25)).alloc (.cells #[.bool m,u,.int .i64 f] 25)).alloc (.cells zD3 25)) :
 Below w.heap.size w W/\W.heap.size=w.heap.size+3/\Dk W w.heap.size n v e/\Dk W (w.heap.size+1) m u f/\Dk W (w.heap.size+1+1) false (.slice none 0 0) 0:=by
 subst hW;refine⟨((af w _).alloc aQ _).alloc (by simp;omega) _,aQ,((Dk.new w n v e).alloc _).alloc _,?_,?_⟩
 · have:=(Dk.new (w.alloc (.cells #[.bool n,v,.int .i64 e] 25)) m u f).alloc (.cells zD3 25);simpa using this
 · have:=Dk.new ((w.alloc (.cells #[.bool n,v,.int .i64 e] 25)).alloc (.cells #[.bool m,u,.int .i64 f] 25)) false (.slice none 0 0) 0;simpa using this
theorem yv{P:Prop}(h:P:=by
 refine Fin.aB (m:=w.heap.size+3) (v:=.slice none 0 0) (X:=0) ?_
 repeat (with_reducible first | exact F1.o | refine Fin.drew ?_ | refine Fin.alloc ?_ _ | refine Fin.set ?_ _ _ _ ae ae)):P:=h
theorem Kz{w:World}{a b:Option Addr}{l c k d:Nat}(n m:Bool)(e f:Int)(mW:Hid (∀ u,Below w.heap.size w u->Calls Tryz.prog 98 #[.agg #[.bool n,.slice a l c,.int .i64 e],.agg #[.bool m,.slice b k d,.int .i64 f]] u fun r w'=>r=.returned (.tuple #[.agg zD3,.agg zD3,.int .i64 2])/\Below u.heap.size u w')):Calls Tryz.prog 100 #[.agg #[.bool n,.slice a l c,.int .i64 e],.agg #[.bool m,.slice b k d,.int .i64 f]] w fun r w'=>r=.returned (.tuple #[.agg zD3,.int .i64 2])/\Below w.heap.size w w':=by
 obtain⟨W1,hW1⟩:=ah (((w.alloc (.cells #[.bool n,.slice a l c,.int .i64 e] 25)).alloc (.cells #[.bool m,.slice b k d,.int .i64 f] 25)).alloc (.cells zD3 25));obtain⟨hB,hz1,DA,DB,DR⟩:=bE w n m (.slice a l c) (.slice b k d) e f W1 hW1;have H1:=hid (mW.o W1 hB);have SB:=(fO hB hz1 DA DB DR);clear hB hz1 DA DB DR mW;go_enter Tryz.func100,Tryz.ntmps100;go_wp2_with fail;rw[<-hW1];clear hW1;refine H1.o.mono ?_;rintro r u1 ⟨rfl,hb⟩;obtain⟨hB,hz1,DA,DB,DR⟩:=SB.o;have EA:=DA.below hb;have EB:=DB.below hb;have ER:=DR.below hb;obtain⟨x0,x1,x2,dw,dz,dA⟩:=EA.facts;obtain⟨y0,y1,y2,dF,dG,dH⟩:=EB.facts;obtain⟨r0,r1,r2,iH,iI,iJ⟩:=ER.facts;have F1:=aA (show Fin w.heap.size (w.heap.size+3) w u1 (.slice none 0 0) 0 from⟨Nt.nil _ _,hB.trans (hb.mono ae),by have:=hb.size;omega⟩);have SE:=aA ER;clear hb H1 hB hz1 DA DB DR EA EB ER SB;go_wp2;refine aG (mi _ (w.heap.size+1+1) false (.slice none 0 0) 0 2 _ rfl rfl (((SE.o.other _ ae _ _ _).other _ ae _ _ _).set _ _ _)) rfl ⟨rfl,?_⟩;exact yv
theorem QM {w:World}{a b:Option Addr}{l c k d:Nat}(n m:Bool) (e f:Int) (n1 m1:Bool) (X Y:Nat) (e1 f1:Int) (lX:(ws X).length<=8192) (lY:(ws Y).length<=8192) (hX:(ws X).length=0)
 (mW:Hid (∀ u,Below w.heap.size w u->Calls Tryz.prog 98 #[.agg #[.bool n,.slice a l c,.int .i64 e],.agg #[.bool m,.slice b k d,.int .i64 f]] u fun r w'=>∃ v v',r=.returned (.tuple #[.agg #[.bool n1,v,.int .i64 e1],.agg #[.bool m1,v',.int .i64 f1],.int .i64 0])/\Nt u.heap.size w' v X/\Nt u.heap.size w' v' Y/\Below u.heap.size u w')):Calls Tryz.prog 100 #[.agg #[.bool n,.slice a l c,.int .i64 e],.agg #[.bool m,.slice b k d,.int .i64 f]] w fun r w'=>dm w.heap.size w' r (some (m1,Y,f1))/\Below w.heap.size w w':=by
 obtain⟨W1,hW1⟩:=ah (((w.alloc (.cells #[.bool n,.slice a l c,.int .i64 e] 25)).alloc (.cells #[.bool m,.slice b k d,.int .i64 f] 25)).alloc (.cells zD3 25));obtain⟨hB,hz1,DA,DB,DR⟩:=bE w n m (.slice a l c) (.slice b k d) e f W1 hW1;have H1:=hid (mW.o W1 hB);have SB:=(fO hB hz1 DA DB DR);clear hB hz1 DA DB DR mW;go_enter Tryz.func100,Tryz.ntmps100;go_wp2_with fail;rw[<-hW1];clear hW1;refine H1.o.mono ?_;rintro r u1 ⟨v,v',rfl,hN,hM,hb⟩;obtain⟨a1,c1,rfl,_⟩:=hN.arg ae;obtain⟨a2,c2,rfl,_⟩:=hM.arg ae;obtain⟨hB,hz1,DA,DB,DR⟩:=SB.o;have EA:=DA.below hb;have EB:=DB.below hb;have ER:=DR.below hb;obtain⟨x0,x1,x2,dw,dz,dA⟩:=EA.facts;obtain⟨y0,y1,y2,dF,dG,dH⟩:=EB.facts;obtain⟨r0,r1,r2,iH,iI,iJ⟩:=ER.facts;have FX:=aA (show Fin w.heap.size (w.heap.size+3) w u1 (.slice a1 (ws X).length c1) X from⟨by rw[<-hz1];exact hN,hB.trans (hb.mono ae),by have:=hb.size;omega⟩);have FY:=aA (show Fin w.heap.size (w.heap.size+3) w u1 (.slice a2 (ws Y).length c2) Y from⟨by rw[<-hz1];exact hM,hB.trans (hb.mono ae),by have:=hb.size;omega⟩);have SE:=(dC EA EB ER);clear hN hM hb H1 hB hz1 DA DB DR EA EB ER SB
 try rw[hX]
 go_wp2;refine aG (mi _ (w.heap.size+1+1) m1 (.slice a2 (ws Y).length c2) f1 0 _ rfl rfl (((SE.o.r2.other _ ae _ _ _).other _ ae _ _ _).set _ _ _)) rfl ?_;refine Fin.lh (m:=w.heap.size+3) ?_ ae
 repeat (with_reducible first | exact FY.o | refine Fin.drew ?_ | refine Fin.alloc ?_ _ | refine Fin.set ?_ _ _ _ ae ae)
 exact FY.o
theorem ML {w:World}{a b:Option Addr}{l c k d:Nat}(n m:Bool) (e f:Int) (n1 m1:Bool) (X Y:Nat) (e1 f1:Int) (lX:(ws X).length<=8192) (lY:(ws Y).length<=8192) (hX:((((ws X).length:Nat):Int)==0)=false) (hY:(ws Y).length=0)
 (mW:Hid (∀ u,Below w.heap.size w u->Calls Tryz.prog 98 #[.agg #[.bool n,.slice a l c,.int .i64 e],.agg #[.bool m,.slice b k d,.int .i64 f]] u fun r w'=>∃ v v',r=.returned (.tuple #[.agg #[.bool n1,v,.int .i64 e1],.agg #[.bool m1,v',.int .i64 f1],.int .i64 0])/\Nt u.heap.size w' v X/\Nt u.heap.size w' v' Y/\Below u.heap.size u w')):Calls Tryz.prog 100 #[.agg #[.bool n,.slice a l c,.int .i64 e],.agg #[.bool m,.slice b k d,.int .i64 f]] w fun r w'=>dm w.heap.size w' r (some (n1,X,e1))/\Below w.heap.size w w':=by
 obtain⟨W1,hW1⟩:=ah (((w.alloc (.cells #[.bool n,.slice a l c,.int .i64 e] 25)).alloc (.cells #[.bool m,.slice b k d,.int .i64 f] 25)).alloc (.cells zD3 25));obtain⟨hB,hz1,DA,DB,DR⟩:=bE w n m (.slice a l c) (.slice b k d) e f W1 hW1;have H1:=hid (mW.o W1 hB);have SB:=(fO hB hz1 DA DB DR);clear hB hz1 DA DB DR mW;go_enter Tryz.func100,Tryz.ntmps100;go_wp2_with fail;rw[<-hW1];clear hW1;refine H1.o.mono ?_;rintro r u1 ⟨v,v',rfl,hN,hM,hb⟩;obtain⟨a1,c1,rfl,_⟩:=hN.arg ae;obtain⟨a2,c2,rfl,_⟩:=hM.arg ae;obtain⟨hB,hz1,DA,DB,DR⟩:=SB.o;have EA:=DA.below hb;have EB:=DB.below hb;have ER:=DR.below hb;obtain⟨x0,x1,x2,dw,dz,dA⟩:=EA.facts;obtain⟨y0,y1,y2,dF,dG,dH⟩:=EB.facts;obtain⟨r0,r1,r2,iH,iI,iJ⟩:=ER.facts;have FX:=aA (show Fin w.heap.size (w.heap.size+3) w u1 (.slice a1 (ws X).length c1) X from⟨by rw[<-hz1];exact hN,hB.trans (hb.mono ae),by have:=hb.size;omega⟩);have FY:=aA (show Fin w.heap.size (w.heap.size+3) w u1 (.slice a2 (ws Y).length c2) Y from⟨by rw[<-hz1];exact hM,hB.trans (hb.mono ae),by have:=hb.size;omega⟩);have SE:=(dC EA EB ER);clear hN hM hb H1 hB hz1 DA DB DR EA EB ER SB
 try rw[hX]
 go_wp2;refine aG (mi _ (w.heap.size+1+1) n1 (.slice a1 (ws X).length c1) e1 0 _ rfl rfl (((SE.o.r2.other _ ae _ _ _).other _ ae _ _ _).set _ _ _)) rfl ?_;refine Fin.lh (m:=w.heap.size+3) ?_ ae
 repeat (with_reducible first | exact FX.o | refine Fin.drew ?_ | refine Fin.alloc ?_ _ | refine Fin.set ?_ _ _ _ ae ae)
 exact FX.o
theorem MN {w:World}{a b:Option Addr}{l c k d:Nat}(n m:Bool) (e f:Int) (n1 m1:Bool) (X Y:Nat) (e1 f1:Int) (lX:(ws X).length<=8192) (lY:(ws Y).length<=8192) (hX:((((ws X).length:Nat):Int)==0)=false) (hY:((((ws Y).length:Nat):Int)==0)=false) (hlt:decide (e1<f1)=false) (MO:-1048576<=e1) (MR:e1<=1048576) (MS:-1048576<=f1) (MU:f1<=1048576)
 (mW:Hid (∀ u,Below w.heap.size w u->Calls Tryz.prog 98 #[.agg #[.bool n,.slice a l c,.int .i64 e],.agg #[.bool m,.slice b k d,.int .i64 f]] u fun r w'=>∃ v v',r=.returned (.tuple #[.agg #[.bool n1,v,.int .i64 e1],.agg #[.bool m1,v',.int .i64 f1],.int .i64 0])/\Nt u.heap.size w' v X/\Nt u.heap.size w' v' Y/\Below u.heap.size u w'))
 (sw:Hid (∀ (u:World) (p:Option Addr) (q:Nat),Below w.heap.size w u->Arg u p (ws X).length q (ws X)->Calls Tryz.prog 137 #[.slice p (ws X).length q,.int .i64 (e1-f1)] u fun r w'=>∃ v,r=.returned (.tuple #[v,.int .i64 2])/\Nt u.heap.size w' v 0/\Below u.heap.size u w')):Calls Tryz.prog 100 #[.agg #[.bool n,.slice a l c,.int .i64 e],.agg #[.bool m,.slice b k d,.int .i64 f]] w fun r w'=>r=.returned (.tuple #[.agg zD3,.int .i64 2])/\Below w.heap.size w w':=by
 have l0:(ws 0).length=0:=by rw[bO];rfl
 obtain⟨W1,hW1⟩:=ah (((w.alloc (.cells #[.bool n,.slice a l c,.int .i64 e] 25)).alloc (.cells #[.bool m,.slice b k d,.int .i64 f] 25)).alloc (.cells zD3 25));obtain⟨hB,hz1,DA,DB,DR⟩:=bE w n m (.slice a l c) (.slice b k d) e f W1 hW1;have H1:=hid (mW.o W1 hB);have SB:=(fO hB hz1 DA DB DR);clear hB hz1 DA DB DR mW;go_enter Tryz.func100,Tryz.ntmps100;go_wp2_with fail;rw[<-hW1];clear hW1;refine H1.o.mono ?_;rintro r u1 ⟨v,v',rfl,hN,hM,hb⟩;obtain⟨a1,c1,rfl,_⟩:=hN.arg ae;obtain⟨a2,c2,rfl,_⟩:=hM.arg ae;obtain⟨hB,hz1,DA,DB,DR⟩:=SB.o;have EA:=DA.below hb;have EB:=DB.below hb;have ER:=DR.below hb;obtain⟨x0,x1,x2,dw,dz,dA⟩:=EA.facts;obtain⟨y0,y1,y2,dF,dG,dH⟩:=EB.facts;obtain⟨r0,r1,r2,iH,iI,iJ⟩:=ER.facts;have FX:=aA (show Fin w.heap.size (w.heap.size+3) w u1 (.slice a1 (ws X).length c1) X from⟨by rw[<-hz1];exact hN,hB.trans (hb.mono ae),by have:=hb.size;omega⟩);have FY:=aA (show Fin w.heap.size (w.heap.size+3) w u1 (.slice a2 (ws Y).length c2) Y from⟨by rw[<-hz1];exact hM,hB.trans (hb.mono ae),by have:=hb.size;omega⟩);have SE:=(dC EA EB ER);clear hN hM hb H1 hB hz1 DA DB DR EA EB ER SB;obtain⟨EA,EB,ER⟩:=SE.o;obtain⟨U1,aX⟩:=ah (dM (dM u1 w.heap.size (.bool n1) (.slice a1 (ws X).length c1) (.int .i64 e1)) (w.heap.size+1) (.bool m1) (.slice a2 (ws Y).length c2) (.int .i64 f1));have IA:Dk U1 w.heap.size n1 (.slice a1 (ws X).length c1) e1:=by rw[aX];exact((EA.set _ _ _).other _ ae _ _ _)
 have IB:Dk U1 (w.heap.size+1) m1 (.slice a2 (ws Y).length c2) f1:=by rw[aX];exact((EB.other _ ae _ _ _).set _ _ _)
 have IR:Dk U1 (w.heap.size+1+1) false (.slice none 0 0) 0:=by rw[aX];exact((ER.other _ ae _ _ _).other _ ae _ _ _)
 have GX:Fin w.heap.size (w.heap.size+3) w U1 (.slice a1 (ws X).length c1) X:=by rw[aX];exact(Fin.dM (Fin.dM FX.o _ _ _ _ ae ae) _ _ _ _ ae ae)
 have GY:Fin w.heap.size (w.heap.size+3) w U1 (.slice a2 (ws Y).length c2) Y:=by rw[aX];exact(Fin.dM (Fin.dM FY.o _ _ _ _ ae ae) _ _ _ _ ae ae)
 have H2:=hid (sw.o U1 a1 c1 GX.aB (GX.nt.aY ae).2);have S1:=(fO IA IB IR GX GY);have Y8:w.heap.size+3<=U1.heap.size:=by have:=IR.lt;omega
 clear EA EB ER IA IB IR GX GY SE sw;unfold dM at aX;go_wp2_with fail;rw[<-aX];clear aX x0 x1 x2 dw dz dA y0 y1 y2 dF dG dH r0 r1 r2 iH iI iJ;refine H2.o.mono ?_;rintro r u2 ⟨v,rfl,hN,hb⟩;obtain⟨a3,c3,rfl,_⟩:=hN.arg ae;obtain⟨IA,IB,IR,GX,GY⟩:=S1.o;obtain⟨x0,x1,x2,dw,dz,dA⟩:=(IA.below hb).facts;obtain⟨y0,y1,y2,dF,dG,dH⟩:=(IB.below hb).facts;obtain⟨r0,r1,r2,iH,iI,iJ⟩:=(IR.below hb).facts;have S2:=(aP (IR.below hb) ((GX.below hb)));clear hN hb H2 S1 IA IB IR GX GY;go_wp2;refine aG (mi _ (w.heap.size+1+1) false (.slice none 0 0) 0 2 _ rfl rfl (S2.o.1.set _ _ _)) rfl ⟨rfl,?_⟩;refine Fin.aB (m:=w.heap.size+3) (v:=.slice a1 (ws X).length c1) (X:=X) ?_
 repeat (with_reducible first | exact S2.o.2 | refine Fin.drew ?_ | refine Fin.alloc ?_ _ | refine Fin.set ?_ _ _ _ ae ae)
theorem QN {w:World}{a b:Option Addr}{l c k d:Nat}(n m:Bool) (e f:Int) (n1 m1:Bool) (X Y:Nat) (e1 f1:Int) (lX:(ws X).length<=8192) (lY:(ws Y).length<=8192) (hX:((((ws X).length:Nat):Int)==0)=false) (hY:((((ws Y).length:Nat):Int)==0)=false) (hlt:decide (e1<f1)=false) (MO:-1048576<=e1) (MR:e1<=1048576) (MS:-1048576<=f1) (MU:f1<=1048576)
 (mW:Hid (∀ u,Below w.heap.size w u->Calls Tryz.prog 98 #[.agg #[.bool n,.slice a l c,.int .i64 e],.agg #[.bool m,.slice b k d,.int .i64 f]] u fun r w'=>∃ v v',r=.returned (.tuple #[.agg #[.bool n1,v,.int .i64 e1],.agg #[.bool m1,v',.int .i64 f1],.int .i64 0])/\Nt u.heap.size w' v X/\Nt u.heap.size w' v' Y/\Below u.heap.size u w')) (hs:(n1==m1)=true) (L:Nat) (lL:(ws L).length<=8192) (dn:Bool) (V:Nat) (de er:Int) (lV:(ws V).length<=8192)
 (sw:Hid (∀ (u:World) (p:Option Addr) (q:Nat),Below w.heap.size w u->Arg u p (ws X).length q (ws X)->Calls Tryz.prog 137 #[.slice p (ws X).length q,.int .i64 (e1-f1)] u fun r w'=>∃ v,r=.returned (.tuple #[v,.int .i64 0])/\Nt u.heap.size w' v L/\Below u.heap.size u w'))
 (HT:Hid (∀ (u:World) (p q:Option Addr) (s t:Nat),Below w.heap.size w u->Arg u p (ws L).length s (ws L)->Arg u q (ws Y).length t (ws Y)->Calls Tryz.prog 138 #[.bool n1,.slice p (ws L).length s,.slice q (ws Y).length t,.int .i64 f1] u fun r w'=>(∃ v,r=.returned (.tuple #[.agg #[.bool dn,v,.int .i64 de],.int .i64 er])/\Nt u.heap.size w' v V)/\Below u.heap.size u w')):Calls Tryz.prog 100 #[.agg #[.bool n,.slice a l c,.int .i64 e],.agg #[.bool m,.slice b k d,.int .i64 f]] w fun r w'=>(∃ v,r=.returned (.tuple #[.agg #[.bool dn,v,.int .i64 de],.int .i64 er])/\Nt w.heap.size w' v V)/\Below w.heap.size w w':=by
 obtain⟨W1,hW1⟩:=ah (((w.alloc (.cells #[.bool n,.slice a l c,.int .i64 e] 25)).alloc (.cells #[.bool m,.slice b k d,.int .i64 f] 25)).alloc (.cells zD3 25));obtain⟨hB,hz1,DA,DB,DR⟩:=bE w n m (.slice a l c) (.slice b k d) e f W1 hW1;have H1:=hid (mW.o W1 hB);have SB:=(fO hB hz1 DA DB DR);clear hB hz1 DA DB DR mW;go_enter Tryz.func100,Tryz.ntmps100;go_wp2_with fail;rw[<-hW1];clear hW1;refine H1.o.mono ?_;rintro r u1 ⟨v,v',rfl,hN,hM,hb⟩;obtain⟨a1,c1,rfl,_⟩:=hN.arg ae;obtain⟨a2,c2,rfl,_⟩:=hM.arg ae;obtain⟨hB,hz1,DA,DB,DR⟩:=SB.o;have EA:=DA.below hb;have EB:=DB.below hb;have ER:=DR.below hb;obtain⟨x0,x1,x2,dw,dz,dA⟩:=EA.facts;obtain⟨y0,y1,y2,dF,dG,dH⟩:=EB.facts;obtain⟨r0,r1,r2,iH,iI,iJ⟩:=ER.facts;have FX:=aA (show Fin w.heap.size (w.heap.size+3) w u1 (.slice a1 (ws X).length c1) X from⟨by rw[<-hz1];exact hN,hB.trans (hb.mono ae),by have:=hb.size;omega⟩);have FY:=aA (show Fin w.heap.size (w.heap.size+3) w u1 (.slice a2 (ws Y).length c2) Y from⟨by rw[<-hz1];exact hM,hB.trans (hb.mono ae),by have:=hb.size;omega⟩);have SE:=(dC EA EB ER);clear hN hM hb H1 hB hz1 DA DB DR EA EB ER SB;obtain⟨EA,EB,ER⟩:=SE.o;obtain⟨U1,aX⟩:=ah (dM (dM u1 w.heap.size (.bool n1) (.slice a1 (ws X).length c1) (.int .i64 e1)) (w.heap.size+1) (.bool m1) (.slice a2 (ws Y).length c2) (.int .i64 f1));have IA:Dk U1 w.heap.size n1 (.slice a1 (ws X).length c1) e1:=by rw[aX];exact((EA.set _ _ _).other _ ae _ _ _)
 have IB:Dk U1 (w.heap.size+1) m1 (.slice a2 (ws Y).length c2) f1:=by rw[aX];exact((EB.other _ ae _ _ _).set _ _ _)
 have IR:Dk U1 (w.heap.size+1+1) false (.slice none 0 0) 0:=by rw[aX];exact((ER.other _ ae _ _ _).other _ ae _ _ _)
 have GX:Fin w.heap.size (w.heap.size+3) w U1 (.slice a1 (ws X).length c1) X:=by rw[aX];exact(Fin.dM (Fin.dM FX.o _ _ _ _ ae ae) _ _ _ _ ae ae)
 have GY:Fin w.heap.size (w.heap.size+3) w U1 (.slice a2 (ws Y).length c2) Y:=by rw[aX];exact(Fin.dM (Fin.dM FY.o _ _ _ _ ae ae) _ _ _ _ ae ae)
 have H2:=hid (sw.o U1 a1 c1 GX.aB (GX.nt.aY ae).2);have S1:=(fO IA IB IR GX GY);have Y8:w.heap.size+3<=U1.heap.size:=by have:=IR.lt;omega
 clear EA EB ER IA IB IR GX GY SE sw;unfold dM at aX;go_wp2_with fail;rw[<-aX];clear aX x0 x1 x2 dw dz dA y0 y1 y2 dF dG dH r0 r1 r2 iH iI iJ;refine H2.o.mono ?_;rintro r u2 ⟨v,rfl,hN,hb⟩;obtain⟨a3,c3,rfl,_⟩:=hN.arg ae;obtain⟨IA,IB,IR,GX,GY⟩:=S1.o;obtain⟨x0,x1,x2,dw,dz,dA⟩:=(IA.below hb).facts;obtain⟨y0,y1,y2,dF,dG,dH⟩:=(IB.below hb).facts;obtain⟨r0,r1,r2,iH,iI,iJ⟩:=(IR.below hb).facts;have H3:=hid (HT.o u2 a3 a2 c3 c2 (GX.below hb).aB (hN.aY ae).2 ((GY.below hb).nt.aY ae).2);have S2:=(aP (IR.below hb) ((GX.below hb)));have hz2:w.heap.size+3<=u2.heap.size:=by have:=hb.size;omega
 clear hN hb H2 S1 IA IB IR GX GY HT;go_wp2_with fail;refine H3.o.mono ?_;rintro r u3 ⟨⟨v,rfl,hN⟩,hb⟩;obtain⟨a4,c4,rfl,_⟩:=hN.arg ae;have IR:=S2.o.1.below hb;obtain⟨s0,s1,s2,uZ,ve,vg⟩:=IR.facts;have FV:=aA (show Fin w.heap.size (w.heap.size+3) w u3 (.slice a4 (ws V).length c4) V from⟨hN.mono hz2,(S2.o.2.below hb).aB,by have:=hb.size;omega⟩);have S3:=aA IR;clear hN hb IR H3 S2;go_wp2;refine aG (mi _ (w.heap.size+1+1) dn (.slice a4 (ws V).length c4) de er _ rfl rfl (S3.o.set _ _ _)) rfl ?_;refine Fin.lh (m:=w.heap.size+3) ?_ ae
 repeat (with_reducible first | exact FV.o | refine Fin.drew ?_ | refine Fin.alloc ?_ _ | refine Fin.set ?_ _ _ _ ae ae)
theorem MW {w:World}{a b:Option Addr}{l c k d:Nat}(n m:Bool) (e f:Int) (n1 m1:Bool) (X Y:Nat) (e1 f1:Int) (lX:(ws X).length<=8192) (lY:(ws Y).length<=8192) (hX:((((ws X).length:Nat):Int)==0)=false) (hY:((((ws Y).length:Nat):Int)==0)=false) (hlt:decide (e1<f1)=false) (MO:-1048576<=e1) (MR:e1<=1048576) (MS:-1048576<=f1) (MU:f1<=1048576)
 (mW:Hid (∀ u,Below w.heap.size w u->Calls Tryz.prog 98 #[.agg #[.bool n,.slice a l c,.int .i64 e],.agg #[.bool m,.slice b k d,.int .i64 f]] u fun r w'=>∃ v v',r=.returned (.tuple #[.agg #[.bool n1,v,.int .i64 e1],.agg #[.bool m1,v',.int .i64 f1],.int .i64 0])/\Nt u.heap.size w' v X/\Nt u.heap.size w' v' Y/\Below u.heap.size u w')) (hs:(n1==m1)=false) (L:Nat) (lL:(ws L).length<=8192) (dn:Bool) (V:Nat) (de er:Int) (lV:(ws V).length<=8192)
 (sw:Hid (∀ (u:World) (p:Option Addr) (q:Nat),Below w.heap.size w u->Arg u p (ws X).length q (ws X)->Calls Tryz.prog 137 #[.slice p (ws X).length q,.int .i64 (e1-f1)] u fun r w'=>∃ v,r=.returned (.tuple #[v,.int .i64 0])/\Nt u.heap.size w' v L/\Below u.heap.size u w'))
 (HT:Hid (∀ (u:World) (p q:Option Addr) (s t:Nat),Below w.heap.size w u->Arg u p (ws L).length s (ws L)->Arg u q (ws Y).length t (ws Y)->Calls Tryz.prog 139 #[.bool n1,.slice p (ws L).length s,.slice q (ws Y).length t,.int .i64 f1] u fun r w'=>(∃ v,r=.returned (.tuple #[.agg #[.bool dn,v,.int .i64 de],.int .i64 er])/\Nt u.heap.size w' v V)/\Below u.heap.size u w')):Calls Tryz.prog 100 #[.agg #[.bool n,.slice a l c,.int .i64 e],.agg #[.bool m,.slice b k d,.int .i64 f]] w fun r w'=>(∃ v,r=.returned (.tuple #[.agg #[.bool dn,v,.int .i64 de],.int .i64 er])/\Nt w.heap.size w' v V)/\Below w.heap.size w w':=by
 obtain⟨W1,hW1⟩:=ah (((w.alloc (.cells #[.bool n,.slice a l c,.int .i64 e] 25)).alloc (.cells #[.bool m,.slice b k d,.int .i64 f] 25)).alloc (.cells zD3 25));obtain⟨hB,hz1,DA,DB,DR⟩:=bE w n m (.slice a l c) (.slice b k d) e f W1 hW1;have H1:=hid (mW.o W1 hB);have SB:=(fO hB hz1 DA DB DR);clear hB hz1 DA DB DR mW;go_enter Tryz.func100,Tryz.ntmps100;go_wp2_with fail;rw[<-hW1];clear hW1;refine H1.o.mono ?_;rintro r u1 ⟨v,v',rfl,hN,hM,hb⟩;obtain⟨a1,c1,rfl,_⟩:=hN.arg ae;obtain⟨a2,c2,rfl,_⟩:=hM.arg ae;obtain⟨hB,hz1,DA,DB,DR⟩:=SB.o;have EA:=DA.below hb;have EB:=DB.below hb;have ER:=DR.below hb;obtain⟨x0,x1,x2,dw,dz,dA⟩:=EA.facts;obtain⟨y0,y1,y2,dF,dG,dH⟩:=EB.facts;obtain⟨r0,r1,r2,iH,iI,iJ⟩:=ER.facts;have FX:=aA (show Fin w.heap.size (w.heap.size+3) w u1 (.slice a1 (ws X).length c1) X from⟨by rw[<-hz1];exact hN,hB.trans (hb.mono ae),by have:=hb.size;omega⟩);have FY:=aA (show Fin w.heap.size (w.heap.size+3) w u1 (.slice a2 (ws Y).length c2) Y from⟨by rw[<-hz1];exact hM,hB.trans (hb.mono ae),by have:=hb.size;omega⟩);have SE:=(dC EA EB ER);clear hN hM hb H1 hB hz1 DA DB DR EA EB ER SB;obtain⟨EA,EB,ER⟩:=SE.o;obtain⟨U1,aX⟩:=ah (dM (dM u1 w.heap.size (.bool n1) (.slice a1 (ws X).length c1) (.int .i64 e1)) (w.heap.size+1) (.bool m1) (.slice a2 (ws Y).length c2) (.int .i64 f1));have IA:Dk U1 w.heap.size n1 (.slice a1 (ws X).length c1) e1:=by rw[aX];exact((EA.set _ _ _).other _ ae _ _ _)
 have IB:Dk U1 (w.heap.size+1) m1 (.slice a2 (ws Y).length c2) f1:=by rw[aX];exact((EB.other _ ae _ _ _).set _ _ _)
 have IR:Dk U1 (w.heap.size+1+1) false (.slice none 0 0) 0:=by rw[aX];exact((ER.other _ ae _ _ _).other _ ae _ _ _)
 have GX:Fin w.heap.size (w.heap.size+3) w U1 (.slice a1 (ws X).length c1) X:=by rw[aX];exact(Fin.dM (Fin.dM FX.o _ _ _ _ ae ae) _ _ _ _ ae ae)
 have GY:Fin w.heap.size (w.heap.size+3) w U1 (.slice a2 (ws Y).length c2) Y:=by rw[aX];exact(Fin.dM (Fin.dM FY.o _ _ _ _ ae ae) _ _ _ _ ae ae)
 have H2:=hid (sw.o U1 a1 c1 GX.aB (GX.nt.aY ae).2);have S1:=(fO IA IB IR GX GY);have Y8:w.heap.size+3<=U1.heap.size:=by have:=IR.lt;omega
 clear EA EB ER IA IB IR GX GY SE sw;unfold dM at aX;go_wp2_with fail;rw[<-aX];clear aX x0 x1 x2 dw dz dA y0 y1 y2 dF dG dH r0 r1 r2 iH iI iJ;refine H2.o.mono ?_;rintro r u2 ⟨v,rfl,hN,hb⟩;obtain⟨a3,c3,rfl,_⟩:=hN.arg ae;obtain⟨IA,IB,IR,GX,GY⟩:=S1.o;obtain⟨x0,x1,x2,dw,dz,dA⟩:=(IA.below hb).facts;obtain⟨y0,y1,y2,dF,dG,dH⟩:=(IB.below hb).facts;obtain⟨r0,r1,r2,iH,iI,iJ⟩:=(IR.below hb).facts;have H3:=hid (HT.o u2 a3 a2 c3 c2 (GX.below hb).aB (hN.aY ae).2 ((GY.below hb).nt.aY ae).2);have S2:=(aP (IR.below hb) ((GX.below hb)));have hz2:w.heap.size+3<=u2.heap.size:=by have:=hb.size;omega
 clear hN hb H2 S1 IA IB IR GX GY HT;go_wp2_with fail;refine H3.o.mono ?_;rintro r u3 ⟨⟨v,rfl,hN⟩,hb⟩;obtain⟨a4,c4,rfl,_⟩:=hN.arg ae;have IR:=S2.o.1.below hb;obtain⟨s0,s1,s2,uZ,ve,vg⟩:=IR.facts;have FV:=aA (show Fin w.heap.size (w.heap.size+3) w u3 (.slice a4 (ws V).length c4) V from⟨hN.mono hz2,(S2.o.2.below hb).aB,by have:=hb.size;omega⟩);have S3:=aA IR;clear hN hb IR H3 S2;go_wp2;refine aG (mi _ (w.heap.size+1+1) dn (.slice a4 (ws V).length c4) de er _ rfl rfl (S3.o.set _ _ _)) rfl ?_;refine Fin.lh (m:=w.heap.size+3) ?_ ae
 repeat (with_reducible first | exact FV.o | refine Fin.drew ?_ | refine Fin.alloc ?_ _ | refine Fin.set ?_ _ _ _ ae ae)
theorem M5 {w:World}{a b:Option Addr}{l c k d:Nat}(n m:Bool) (e f:Int) (n1 m1:Bool) (X Y:Nat) (e1 f1:Int) (lX:(ws X).length<=8192) (lY:(ws Y).length<=8192) (hX:((((ws X).length:Nat):Int)==0)=false) (hY:((((ws Y).length:Nat):Int)==0)=false) (hlt:e1<f1) (MO:-1048576<=e1) (MR:e1<=1048576) (MS:-1048576<=f1) (MU:f1<=1048576)
 (mW:Hid (∀ u,Below w.heap.size w u->Calls Tryz.prog 98 #[.agg #[.bool n,.slice a l c,.int .i64 e],.agg #[.bool m,.slice b k d,.int .i64 f]] u fun r w'=>∃ v v',r=.returned (.tuple #[.agg #[.bool n1,v,.int .i64 e1],.agg #[.bool m1,v',.int .i64 f1],.int .i64 0])/\Nt u.heap.size w' v X/\Nt u.heap.size w' v' Y/\Below u.heap.size u w'))
 (sw:Hid (∀ (u:World) (p:Option Addr) (q:Nat),Below w.heap.size w u->Arg u p (ws Y).length q (ws Y)->Calls Tryz.prog 137 #[.slice p (ws Y).length q,.int .i64 (f1-e1)] u fun r w'=>∃ v,r=.returned (.tuple #[v,.int .i64 2])/\Nt u.heap.size w' v 0/\Below u.heap.size u w')):Calls Tryz.prog 100 #[.agg #[.bool n,.slice a l c,.int .i64 e],.agg #[.bool m,.slice b k d,.int .i64 f]] w fun r w'=>r=.returned (.tuple #[.agg zD3,.int .i64 2])/\Below w.heap.size w w':=by
 have l0:(ws 0).length=0:=by rw[bO];rfl
 obtain⟨W1,hW1⟩:=ah (((w.alloc (.cells #[.bool n,.slice a l c,.int .i64 e] 25)).alloc (.cells #[.bool m,.slice b k d,.int .i64 f] 25)).alloc (.cells zD3 25));obtain⟨hB,hz1,DA,DB,DR⟩:=bE w n m (.slice a l c) (.slice b k d) e f W1 hW1;have H1:=hid (mW.o W1 hB);have SB:=(fO hB hz1 DA DB DR);clear hB hz1 DA DB DR mW;go_enter Tryz.func100,Tryz.ntmps100;go_wp2_with fail;rw[<-hW1];clear hW1;refine H1.o.mono ?_;rintro r u1 ⟨v,v',rfl,hN,hM,hb⟩;obtain⟨a1,c1,rfl,_⟩:=hN.arg ae;obtain⟨a2,c2,rfl,_⟩:=hM.arg ae;obtain⟨hB,hz1,DA,DB,DR⟩:=SB.o;have EA:=DA.below hb;have EB:=DB.below hb;have ER:=DR.below hb;obtain⟨x0,x1,x2,dw,dz,dA⟩:=EA.facts;obtain⟨y0,y1,y2,dF,dG,dH⟩:=EB.facts;obtain⟨r0,r1,r2,iH,iI,iJ⟩:=ER.facts;have FX:=aA (show Fin w.heap.size (w.heap.size+3) w u1 (.slice a1 (ws X).length c1) X from⟨by rw[<-hz1];exact hN,hB.trans (hb.mono ae),by have:=hb.size;omega⟩);have FY:=aA (show Fin w.heap.size (w.heap.size+3) w u1 (.slice a2 (ws Y).length c2) Y from⟨by rw[<-hz1];exact hM,hB.trans (hb.mono ae),by have:=hb.size;omega⟩);have SE:=(dC EA EB ER);clear hN hM hb H1 hB hz1 DA DB DR EA EB ER SB;obtain⟨EA,EB,ER⟩:=SE.o;obtain⟨U0,wF⟩:=ah (dM (dM u1 w.heap.size (.bool n1) (.slice a1 (ws X).length c1) (.int .i64 e1)) (w.heap.size+1) (.bool m1) (.slice a2 (ws Y).length c2) (.int .i64 f1));have JA:Dk U0 w.heap.size n1 (.slice a1 (ws X).length c1) e1:=by rw[wF];exact((EA.set _ _ _).other _ ae _ _ _)
 have JB:Dk U0 (w.heap.size+1) m1 (.slice a2 (ws Y).length c2) f1:=by rw[wF];exact((EB.other _ ae _ _ _).set _ _ _)
 have JR:Dk U0 (w.heap.size+1+1) false (.slice none 0 0) 0:=by rw[wF];exact((ER.other _ ae _ _ _).other _ ae _ _ _)
 have KX:=aA (show Fin w.heap.size (w.heap.size+3) w U0 (.slice a1 (ws X).length c1) X by rw[wF];exact(Fin.dM (Fin.dM FX.o _ _ _ _ ae ae) _ _ _ _ ae ae));have KY:=aA (show Fin w.heap.size (w.heap.size+3) w U0 (.slice a2 (ws Y).length c2) Y by rw[wF];exact(Fin.dM (Fin.dM FY.o _ _ _ _ ae ae) _ _ _ _ ae ae));have SE:=(dC JA JB JR);unfold dM at wF;clear EA EB ER JA JB JR
 go_upto_region 9 with fail
 rw[<-wF];clear wF x0 x1 x2 dw dz dA y0 y1 y2 dF dG dH r0 r1 r2 iH iI iJ FX FY;obtain⟨x0,x1,x2,dw,dz,dA⟩:=SE.o.1.facts;obtain⟨y0,y1,y2,dF,dG,dH⟩:=SE.o.2.1.facts;obtain⟨r0,r1,r2,iH,iI,iJ⟩:=SE.o.r2.facts;obtain⟨EA,EB,ER⟩:=SE.o;obtain⟨U1,aX⟩:=ah (dM (dM U0 w.heap.size (.bool m1) (.slice a2 (ws Y).length c2) (.int .i64 f1)) (w.heap.size+1) (.bool n1) (.slice a1 (ws X).length c1) (.int .i64 e1));have IA:Dk U1 w.heap.size m1 (.slice a2 (ws Y).length c2) f1:=by rw[aX];exact((EA.set _ _ _).other _ ae _ _ _)
 have IB:Dk U1 (w.heap.size+1) n1 (.slice a1 (ws X).length c1) e1:=by rw[aX];exact((EB.other _ ae _ _ _).set _ _ _)
 have IR:Dk U1 (w.heap.size+1+1) false (.slice none 0 0) 0:=by rw[aX];exact((ER.other _ ae _ _ _).other _ ae _ _ _)
 have GX:Fin w.heap.size (w.heap.size+3) w U1 (.slice a1 (ws X).length c1) X:=by rw[aX];exact(Fin.dM (Fin.dM KX.o _ _ _ _ ae ae) _ _ _ _ ae ae)
 have GY:Fin w.heap.size (w.heap.size+3) w U1 (.slice a2 (ws Y).length c2) Y:=by rw[aX];exact(Fin.dM (Fin.dM KY.o _ _ _ _ ae ae) _ _ _ _ ae ae)
 have H2:=hid (sw.o U1 a2 c2 GX.aB (GY.nt.aY ae).2);have S1:=(fO IA IB IR GX GY);have Y8:w.heap.size+3<=U1.heap.size:=by have:=IR.lt;omega
 clear EA EB ER IA IB IR GX GY SE sw;unfold dM at aX;go_wp2_with fail;rw[<-aX];clear aX x0 x1 x2 dw dz dA y0 y1 y2 dF dG dH r0 r1 r2 iH iI iJ;refine H2.o.mono ?_;rintro r u2 ⟨v,rfl,hN,hb⟩;obtain⟨a3,c3,rfl,_⟩:=hN.arg ae;obtain⟨IA,IB,IR,GX,GY⟩:=S1.o;obtain⟨x0,x1,x2,dw,dz,dA⟩:=(IA.below hb).facts;obtain⟨y0,y1,y2,dF,dG,dH⟩:=(IB.below hb).facts;obtain⟨r0,r1,r2,iH,iI,iJ⟩:=(IR.below hb).facts;have S2:=(aP (IR.below hb) ((GX.below hb)));clear hN hb H2 S1 IA IB IR GX GY;go_wp2;refine aG (mi _ (w.heap.size+1+1) false (.slice none 0 0) 0 2 _ rfl rfl (S2.o.1.set _ _ _)) rfl ⟨rfl,?_⟩;refine Fin.aB (m:=w.heap.size+3) (v:=.slice a1 (ws X).length c1) (X:=X) ?_
 repeat (with_reducible first | exact S2.o.2 | refine Fin.drew ?_ | refine Fin.alloc ?_ _ | refine Fin.set ?_ _ _ _ ae ae)
theorem QO {w:World}{a b:Option Addr}{l c k d:Nat}(n m:Bool) (e f:Int) (n1 m1:Bool) (X Y:Nat) (e1 f1:Int) (lX:(ws X).length<=8192) (lY:(ws Y).length<=8192) (hX:((((ws X).length:Nat):Int)==0)=false) (hY:((((ws Y).length:Nat):Int)==0)=false) (hlt:e1<f1) (MO:-1048576<=e1) (MR:e1<=1048576) (MS:-1048576<=f1) (MU:f1<=1048576)
 (mW:Hid (∀ u,Below w.heap.size w u->Calls Tryz.prog 98 #[.agg #[.bool n,.slice a l c,.int .i64 e],.agg #[.bool m,.slice b k d,.int .i64 f]] u fun r w'=>∃ v v',r=.returned (.tuple #[.agg #[.bool n1,v,.int .i64 e1],.agg #[.bool m1,v',.int .i64 f1],.int .i64 0])/\Nt u.heap.size w' v X/\Nt u.heap.size w' v' Y/\Below u.heap.size u w')) (hs:(m1==n1)=true) (L:Nat) (lL:(ws L).length<=8192) (dn:Bool) (V:Nat) (de er:Int) (lV:(ws V).length<=8192)
 (sw:Hid (∀ (u:World) (p:Option Addr) (q:Nat),Below w.heap.size w u->Arg u p (ws Y).length q (ws Y)->Calls Tryz.prog 137 #[.slice p (ws Y).length q,.int .i64 (f1-e1)] u fun r w'=>∃ v,r=.returned (.tuple #[v,.int .i64 0])/\Nt u.heap.size w' v L/\Below u.heap.size u w'))
 (HT:Hid (∀ (u:World) (p q:Option Addr) (s t:Nat),Below w.heap.size w u->Arg u p (ws L).length s (ws L)->Arg u q (ws X).length t (ws X)->Calls Tryz.prog 138 #[.bool m1,.slice p (ws L).length s,.slice q (ws X).length t,.int .i64 e1] u fun r w'=>(∃ v,r=.returned (.tuple #[.agg #[.bool dn,v,.int .i64 de],.int .i64 er])/\Nt u.heap.size w' v V)/\Below u.heap.size u w')):Calls Tryz.prog 100 #[.agg #[.bool n,.slice a l c,.int .i64 e],.agg #[.bool m,.slice b k d,.int .i64 f]] w fun r w'=>(∃ v,r=.returned (.tuple #[.agg #[.bool dn,v,.int .i64 de],.int .i64 er])/\Nt w.heap.size w' v V)/\Below w.heap.size w w':=by
 obtain⟨W1,hW1⟩:=ah (((w.alloc (.cells #[.bool n,.slice a l c,.int .i64 e] 25)).alloc (.cells #[.bool m,.slice b k d,.int .i64 f] 25)).alloc (.cells zD3 25));obtain⟨hB,hz1,DA,DB,DR⟩:=bE w n m (.slice a l c) (.slice b k d) e f W1 hW1;have H1:=hid (mW.o W1 hB);have SB:=(fO hB hz1 DA DB DR);clear hB hz1 DA DB DR mW;go_enter Tryz.func100,Tryz.ntmps100;go_wp2_with fail;rw[<-hW1];clear hW1;refine H1.o.mono ?_;rintro r u1 ⟨v,v',rfl,hN,hM,hb⟩;obtain⟨a1,c1,rfl,_⟩:=hN.arg ae;obtain⟨a2,c2,rfl,_⟩:=hM.arg ae;obtain⟨hB,hz1,DA,DB,DR⟩:=SB.o;have EA:=DA.below hb;have EB:=DB.below hb;have ER:=DR.below hb;obtain⟨x0,x1,x2,dw,dz,dA⟩:=EA.facts;obtain⟨y0,y1,y2,dF,dG,dH⟩:=EB.facts;obtain⟨r0,r1,r2,iH,iI,iJ⟩:=ER.facts;have FX:=aA (show Fin w.heap.size (w.heap.size+3) w u1 (.slice a1 (ws X).length c1) X from⟨by rw[<-hz1];exact hN,hB.trans (hb.mono ae),by have:=hb.size;omega⟩);have FY:=aA (show Fin w.heap.size (w.heap.size+3) w u1 (.slice a2 (ws Y).length c2) Y from⟨by rw[<-hz1];exact hM,hB.trans (hb.mono ae),by have:=hb.size;omega⟩);have SE:=(dC EA EB ER);clear hN hM hb H1 hB hz1 DA DB DR EA EB ER SB;obtain⟨EA,EB,ER⟩:=SE.o;obtain⟨U0,wF⟩:=ah (dM (dM u1 w.heap.size (.bool n1) (.slice a1 (ws X).length c1) (.int .i64 e1)) (w.heap.size+1) (.bool m1) (.slice a2 (ws Y).length c2) (.int .i64 f1));have JA:Dk U0 w.heap.size n1 (.slice a1 (ws X).length c1) e1:=by rw[wF];exact((EA.set _ _ _).other _ ae _ _ _)
 have JB:Dk U0 (w.heap.size+1) m1 (.slice a2 (ws Y).length c2) f1:=by rw[wF];exact((EB.other _ ae _ _ _).set _ _ _)
 have JR:Dk U0 (w.heap.size+1+1) false (.slice none 0 0) 0:=by rw[wF];exact((ER.other _ ae _ _ _).other _ ae _ _ _)
 have KX:=aA (show Fin w.heap.size (w.heap.size+3) w U0 (.slice a1 (ws X).length c1) X by rw[wF];exact(Fin.dM (Fin.dM FX.o _ _ _ _ ae ae) _ _ _ _ ae ae));have KY:=aA (show Fin w.heap.size (w.heap.size+3) w U0 (.slice a2 (ws Y).length c2) Y by rw[wF];exact(Fin.dM (Fin.dM FY.o _ _ _ _ ae ae) _ _ _ _ ae ae));have SE:=(dC JA JB JR);unfold dM at wF;clear EA EB ER JA JB JR
 go_upto_region 9 with fail
 rw[<-wF];clear wF x0 x1 x2 dw dz dA y0 y1 y2 dF dG dH r0 r1 r2 iH iI iJ FX FY;obtain⟨x0,x1,x2,dw,dz,dA⟩:=SE.o.1.facts;obtain⟨y0,y1,y2,dF,dG,dH⟩:=SE.o.2.1.facts;obtain⟨r0,r1,r2,iH,iI,iJ⟩:=SE.o.r2.facts;obtain⟨EA,EB,ER⟩:=SE.o;obtain⟨U1,aX⟩:=ah (dM (dM U0 w.heap.size (.bool m1) (.slice a2 (ws Y).length c2) (.int .i64 f1)) (w.heap.size+1) (.bool n1) (.slice a1 (ws X).length c1) (.int .i64 e1));have IA:Dk U1 w.heap.size m1 (.slice a2 (ws Y).length c2) f1:=by rw[aX];exact((EA.set _ _ _).other _ ae _ _ _)
 have IB:Dk U1 (w.heap.size+1) n1 (.slice a1 (ws X).length c1) e1:=by rw[aX];exact((EB.other _ ae _ _ _).set _ _ _)
 have IR:Dk U1 (w.heap.size+1+1) false (.slice none 0 0) 0:=by rw[aX];exact((ER.other _ ae _ _ _).other _ ae _ _ _)
 have GX:Fin w.heap.size (w.heap.size+3) w U1 (.slice a1 (ws X).length c1) X:=by rw[aX];exact(Fin.dM (Fin.dM KX.o _ _ _ _ ae ae) _ _ _ _ ae ae)
 have GY:Fin w.heap.size (w.heap.size+3) w U1 (.slice a2 (ws Y).length c2) Y:=by rw[aX];exact(Fin.dM (Fin.dM KY.o _ _ _ _ ae ae) _ _ _ _ ae ae)
 have H2:=hid (sw.o U1 a2 c2 GX.aB (GY.nt.aY ae).2);have S1:=(fO IA IB IR GX GY);have Y8:w.heap.size+3<=U1.heap.size:=by have:=IR.lt;omega
 clear EA EB ER IA IB IR GX GY SE sw;unfold dM at aX;go_wp2_with fail;rw[<-aX];clear aX x0 x1 x2 dw dz dA y0 y1 y2 dF dG dH r0 r1 r2 iH iI iJ;refine H2.o.mono ?_;rintro r u2 ⟨v,rfl,hN,hb⟩;obtain⟨a3,c3,rfl,_⟩:=hN.arg ae;obtain⟨IA,IB,IR,GX,GY⟩:=S1.o;obtain⟨x0,x1,x2,dw,dz,dA⟩:=(IA.below hb).facts;obtain⟨y0,y1,y2,dF,dG,dH⟩:=(IB.below hb).facts;obtain⟨r0,r1,r2,iH,iI,iJ⟩:=(IR.below hb).facts;have H3:=hid (HT.o u2 a3 a1 c3 c1 (GX.below hb).aB (hN.aY ae).2 ((GX.below hb).nt.aY ae).2);have S2:=(aP (IR.below hb) ((GX.below hb)));have hz2:w.heap.size+3<=u2.heap.size:=by have:=hb.size;omega
 clear hN hb H2 S1 IA IB IR GX GY HT;go_wp2_with fail;refine H3.o.mono ?_;rintro r u3 ⟨⟨v,rfl,hN⟩,hb⟩;obtain⟨a4,c4,rfl,_⟩:=hN.arg ae;have IR:=S2.o.1.below hb;obtain⟨s0,s1,s2,uZ,ve,vg⟩:=IR.facts;have FV:=aA (show Fin w.heap.size (w.heap.size+3) w u3 (.slice a4 (ws V).length c4) V from⟨hN.mono hz2,(S2.o.2.below hb).aB,by have:=hb.size;omega⟩);have S3:=aA IR;clear hN hb IR H3 S2;go_wp2;refine aG (mi _ (w.heap.size+1+1) dn (.slice a4 (ws V).length c4) de er _ rfl rfl (S3.o.set _ _ _)) rfl ?_;refine Fin.lh (m:=w.heap.size+3) ?_ ae
 repeat (with_reducible first | exact FV.o | refine Fin.drew ?_ | refine Fin.alloc ?_ _ | refine Fin.set ?_ _ _ _ ae ae)
theorem M6 {w:World}{a b:Option Addr}{l c k d:Nat}(n m:Bool) (e f:Int) (n1 m1:Bool) (X Y:Nat) (e1 f1:Int) (lX:(ws X).length<=8192) (lY:(ws Y).length<=8192) (hX:((((ws X).length:Nat):Int)==0)=false) (hY:((((ws Y).length:Nat):Int)==0)=false) (hlt:e1<f1) (MO:-1048576<=e1) (MR:e1<=1048576) (MS:-1048576<=f1) (MU:f1<=1048576)
 (mW:Hid (∀ u,Below w.heap.size w u->Calls Tryz.prog 98 #[.agg #[.bool n,.slice a l c,.int .i64 e],.agg #[.bool m,.slice b k d,.int .i64 f]] u fun r w'=>∃ v v',r=.returned (.tuple #[.agg #[.bool n1,v,.int .i64 e1],.agg #[.bool m1,v',.int .i64 f1],.int .i64 0])/\Nt u.heap.size w' v X/\Nt u.heap.size w' v' Y/\Below u.heap.size u w')) (hs:(m1==n1)=false) (L:Nat) (lL:(ws L).length<=8192) (dn:Bool) (V:Nat) (de er:Int) (lV:(ws V).length<=8192)
 (sw:Hid (∀ (u:World) (p:Option Addr) (q:Nat),Below w.heap.size w u->Arg u p (ws Y).length q (ws Y)->Calls Tryz.prog 137 #[.slice p (ws Y).length q,.int .i64 (f1-e1)] u fun r w'=>∃ v,r=.returned (.tuple #[v,.int .i64 0])/\Nt u.heap.size w' v L/\Below u.heap.size u w'))
 (HT:Hid (∀ (u:World) (p q:Option Addr) (s t:Nat),Below w.heap.size w u->Arg u p (ws L).length s (ws L)->Arg u q (ws X).length t (ws X)->Calls Tryz.prog 139 #[.bool m1,.slice p (ws L).length s,.slice q (ws X).length t,.int .i64 e1] u fun r w'=>(∃ v,r=.returned (.tuple #[.agg #[.bool dn,v,.int .i64 de],.int .i64 er])/\Nt u.heap.size w' v V)/\Below u.heap.size u w')):Calls Tryz.prog 100 #[.agg #[.bool n,.slice a l c,.int .i64 e],.agg #[.bool m,.slice b k d,.int .i64 f]] w fun r w'=>(∃ v,r=.returned (.tuple #[.agg #[.bool dn,v,.int .i64 de],.int .i64 er])/\Nt w.heap.size w' v V)/\Below w.heap.size w w':=by
 obtain⟨W1,hW1⟩:=ah (((w.alloc (.cells #[.bool n,.slice a l c,.int .i64 e] 25)).alloc (.cells #[.bool m,.slice b k d,.int .i64 f] 25)).alloc (.cells zD3 25));obtain⟨hB,hz1,DA,DB,DR⟩:=bE w n m (.slice a l c) (.slice b k d) e f W1 hW1;have H1:=hid (mW.o W1 hB);have SB:=(fO hB hz1 DA DB DR);clear hB hz1 DA DB DR mW;go_enter Tryz.func100,Tryz.ntmps100;go_wp2_with fail;rw[<-hW1];clear hW1;refine H1.o.mono ?_;rintro r u1 ⟨v,v',rfl,hN,hM,hb⟩;obtain⟨a1,c1,rfl,_⟩:=hN.arg ae;obtain⟨a2,c2,rfl,_⟩:=hM.arg ae;obtain⟨hB,hz1,DA,DB,DR⟩:=SB.o;have EA:=DA.below hb;have EB:=DB.below hb;have ER:=DR.below hb;obtain⟨x0,x1,x2,dw,dz,dA⟩:=EA.facts;obtain⟨y0,y1,y2,dF,dG,dH⟩:=EB.facts;obtain⟨r0,r1,r2,iH,iI,iJ⟩:=ER.facts;have FX:=aA (show Fin w.heap.size (w.heap.size+3) w u1 (.slice a1 (ws X).length c1) X from⟨by rw[<-hz1];exact hN,hB.trans (hb.mono ae),by have:=hb.size;omega⟩);have FY:=aA (show Fin w.heap.size (w.heap.size+3) w u1 (.slice a2 (ws Y).length c2) Y from⟨by rw[<-hz1];exact hM,hB.trans (hb.mono ae),by have:=hb.size;omega⟩);have SE:=(dC EA EB ER);clear hN hM hb H1 hB hz1 DA DB DR EA EB ER SB;obtain⟨EA,EB,ER⟩:=SE.o;obtain⟨U0,wF⟩:=ah (dM (dM u1 w.heap.size (.bool n1) (.slice a1 (ws X).length c1) (.int .i64 e1)) (w.heap.size+1) (.bool m1) (.slice a2 (ws Y).length c2) (.int .i64 f1));have JA:Dk U0 w.heap.size n1 (.slice a1 (ws X).length c1) e1:=by rw[wF];exact((EA.set _ _ _).other _ ae _ _ _)
 have JB:Dk U0 (w.heap.size+1) m1 (.slice a2 (ws Y).length c2) f1:=by rw[wF];exact((EB.other _ ae _ _ _).set _ _ _)
 have JR:Dk U0 (w.heap.size+1+1) false (.slice none 0 0) 0:=by rw[wF];exact((ER.other _ ae _ _ _).other _ ae _ _ _)
 have KX:=aA (show Fin w.heap.size (w.heap.size+3) w U0 (.slice a1 (ws X).length c1) X by rw[wF];exact(Fin.dM (Fin.dM FX.o _ _ _ _ ae ae) _ _ _ _ ae ae));have KY:=aA (show Fin w.heap.size (w.heap.size+3) w U0 (.slice a2 (ws Y).length c2) Y by rw[wF];exact(Fin.dM (Fin.dM FY.o _ _ _ _ ae ae) _ _ _ _ ae ae));have SE:=(dC JA JB JR);unfold dM at wF;clear EA EB ER JA JB JR
 go_upto_region 9 with fail
 rw[<-wF];clear wF x0 x1 x2 dw dz dA y0 y1 y2 dF dG dH r0 r1 r2 iH iI iJ FX FY;obtain⟨x0,x1,x2,dw,dz,dA⟩:=SE.o.1.facts;obtain⟨y0,y1,y2,dF,dG,dH⟩:=SE.o.2.1.facts;obtain⟨r0,r1,r2,iH,iI,iJ⟩:=SE.o.r2.facts;obtain⟨EA,EB,ER⟩:=SE.o;obtain⟨U1,aX⟩:=ah (dM (dM U0 w.heap.size (.bool m1) (.slice a2 (ws Y).length c2) (.int .i64 f1)) (w.heap.size+1) (.bool n1) (.slice a1 (ws X).length c1) (.int .i64 e1));have IA:Dk U1 w.heap.size m1 (.slice a2 (ws Y).length c2) f1:=by rw[aX];exact((EA.set _ _ _).other _ ae _ _ _)
 have IB:Dk U1 (w.heap.size+1) n1 (.slice a1 (ws X).length c1) e1:=by rw[aX];exact((EB.other _ ae _ _ _).set _ _ _)
 have IR:Dk U1 (w.heap.size+1+1) false (.slice none 0 0) 0:=by rw[aX];exact((ER.other _ ae _ _ _).other _ ae _ _ _)
 have GX:Fin w.heap.size (w.heap.size+3) w U1 (.slice a1 (ws X).length c1) X:=by rw[aX];exact(Fin.dM (Fin.dM KX.o _ _ _ _ ae ae) _ _ _ _ ae ae)
 have GY:Fin w.heap.size (w.heap.size+3) w U1 (.slice a2 (ws Y).length c2) Y:=by rw[aX];exact(Fin.dM (Fin.dM KY.o _ _ _ _ ae ae) _ _ _ _ ae ae)
 have H2:=hid (sw.o U1 a2 c2 GX.aB (GY.nt.aY ae).2);have S1:=(fO IA IB IR GX GY);have Y8:w.heap.size+3<=U1.heap.size:=by have:=IR.lt;omega
 clear EA EB ER IA IB IR GX GY SE sw;unfold dM at aX;go_wp2_with fail;rw[<-aX];clear aX x0 x1 x2 dw dz dA y0 y1 y2 dF dG dH r0 r1 r2 iH iI iJ;refine H2.o.mono ?_;rintro r u2 ⟨v,rfl,hN,hb⟩;obtain⟨a3,c3,rfl,_⟩:=hN.arg ae;obtain⟨IA,IB,IR,GX,GY⟩:=S1.o;obtain⟨x0,x1,x2,dw,dz,dA⟩:=(IA.below hb).facts;obtain⟨y0,y1,y2,dF,dG,dH⟩:=(IB.below hb).facts;obtain⟨r0,r1,r2,iH,iI,iJ⟩:=(IR.below hb).facts;have H3:=hid (HT.o u2 a3 a1 c3 c1 (GX.below hb).aB (hN.aY ae).2 ((GX.below hb).nt.aY ae).2);have S2:=(aP (IR.below hb) ((GX.below hb)));have hz2:w.heap.size+3<=u2.heap.size:=by have:=hb.size;omega
 clear hN hb H2 S1 IA IB IR GX GY HT;go_wp2_with fail;refine H3.o.mono ?_;rintro r u3 ⟨⟨v,rfl,hN⟩,hb⟩;obtain⟨a4,c4,rfl,_⟩:=hN.arg ae;have IR:=S2.o.1.below hb;obtain⟨s0,s1,s2,uZ,ve,vg⟩:=IR.facts;have FV:=aA (show Fin w.heap.size (w.heap.size+3) w u3 (.slice a4 (ws V).length c4) V from⟨hN.mono hz2,(S2.o.2.below hb).aB,by have:=hb.size;omega⟩);have S3:=aA IR;clear hN hb IR H3 S2;go_wp2;refine aG (mi _ (w.heap.size+1+1) dn (.slice a4 (ws V).length c4) de er _ rfl rfl (S3.o.set _ _ _)) rfl ?_;refine Fin.lh (m:=w.heap.size+3) ?_ ae
 repeat (with_reducible first | exact FV.o | refine Fin.drew ?_ | refine Fin.alloc ?_ _ | refine Fin.set ?_ _ _ _ ae ae)
def ll(n:Bool)(X:Nat)(e:Int)(m:Bool)(Y:Nat)(f:Int):Option (Bool×Nat×Int) :=
 if 262144<bl X+(e-f).toNat then none
 else if n=m then mkS n (X*2^(e-f).toNat+Y) f
 else if Y<=X*2^(e-f).toNat then mkS n (X*2^(e-f).toNat-Y) f
 else mkS (!n) (Y-X*2^(e-f).toNat) f
def tZ(x y:Bool×Nat×Int):Option (Bool×Nat×Int) :=
 if x.2.1=0 then some y else if y.2.1=0 then some x
 else if x.2.2<y.2.2 then ll y.1 y.2.1 y.2.2 x.1 x.2.1 x.2.2 else ll x.1 x.2.1 x.2.2 y.1 y.2.1 y.2.2
def jv(o p:Option (Bool×Nat×Int)):Option (Bool×Nat×Int) :=
 match o,p with
 | some x,some y=>tZ x y
 | _,_=>none
theorem zf(X:Nat)(b:Int)(h0:0<=b)(hX:X≠0)(hl:bl X<=262144):bz X b=if 262144<bl X+b.toNat then(0,2) else(X*2^b.toNat,0):=by
 unfold bz;rw[if_neg (nG hl),if_neg hX,if_neg ae]
 by_cases h:262144<bl X+b.toNat
 · rw[if_pos h,if_pos ae]
 · rw[if_neg h,if_neg ae]
theorem Ff(X b:Nat)(hX:X≠0):bl (X*2^b)=bl X+b:=by rw[cu,sj b X hX];omega
theorem mF{w:World}{p:Option Addr}{q X:Nat}(b:Int)(L:Nat)(er:Int)(hA:Arg w p (ws X).length q (ws X))(hb0:-9223372036854775808<=b)(hb1:b<=9223372036854775807)(h:bz X b=(L,er)) :
 Calls Tryz.prog 137 #[.slice p (ws X).length q,.int .i64 b] w fun r w'=>∃ v,r=.returned (.tuple #[v,.int .i64 er])/\Nt w.heap.size w' v L/\Below w.heap.size w w':=by
 have:=BK (ws X) p (ws X).length q w.heap.size b w hA.len hA.cap (by have:=hA.big;omega) hA.wf hA.rd (aC _) hb0 hb1;rw[ak,h] at this;exact this.mono fun r w' ⟨⟨v,h1,h2⟩,h3⟩=>⟨v,h1,h2,h3⟩
theorem QP{w u:World}{p q:Option Addr}{s t L Y:Nat}(hT:dU w)(hu:Below w.heap.size w u)(A1:Arg u p (ws L).length s (ws L))(A2:Arg u q (ws Y).length t (ws Y))(n:Bool)(f:Int)(h0:-1048576<=f)(h1:f<=1048576)(oY:Y%2=1)(bL:bl L<=262144)(bY:bl Y<=262144) :
 Calls Tryz.prog 138 #[.bool n,.slice p (ws L).length s,.slice q (ws Y).length t,.int .i64 f] u fun r w'=>dm u.heap.size w' r (mkS n (L+Y) f)/\Below u.heap.size u w' :=
 Vp A1 A2 (hT.belows hu) n f h0 h1 L Y (ak L) (ak Y) oY bL bY
theorem KA{w u:World}{p q:Option Addr}{s t L Y:Nat}(hT:dU w)(hu:Below w.heap.size w u)(A1:Arg u p (ws L).length s (ws L))(A2:Arg u q (ws Y).length t (ws Y))(n:Bool)(f:Int)(h0:-1048576<=f)(h1:f<=1048576)(bL:bl L<=262144)(bY:bl Y<=262144) :
 Calls Tryz.prog 139 #[.bool n,.slice p (ws L).length s,.slice q (ws Y).length t,.int .i64 f] u fun r w'=>dm u.heap.size w' r (if Y<=L then mkS n (L-Y) f else mkS (!n) (Y-L) f)/\Below u.heap.size u w':=by
 by_cases h:Y<=L
 · rw[if_pos h];exact MJ A1 A2 (hT.belows hu) n f h0 h1 L Y (ak L) (ak Y) bL bY h
 · rw[if_neg h];exact QL A1 A2 (hT.belows hu) n f h0 h1 L Y (ak L) (ak Y) bL bY ae
theorem dY{X:Nat}(h:X≠0):((((ws X).length:Nat):Int)==0)=false:=beq_eq_false_iff_ne.2 (by have:(ws X).length≠0:=fun e=>h ((bU X).1 e);omega)
theorem Fg{w:World}{a b:Option Addr}{l c k d:Nat}{xs ys:List Nat}(h1:Arg w a l c xs)(h2:Arg w b k d ys)(hT:dU w)(n m:Bool)(e f:Int)(he0:-9223372036854775808<=e)(he1:e<=9223372036854775807)(hf0:-9223372036854775808<=f)(hf1:f<=9223372036854775807) :
 Calls Tryz.prog 100 #[.agg #[.bool n,.slice a l c,.int .i64 e],.agg #[.bool m,.slice b k d,.int .i64 f]] w fun r w'=>dm w.heap.size w' r (jv (mkS n (val xs) e) (mkS m (val ys) f))/\Below w.heap.size w w':=by
 have zero:∀ {r:Ending} {w':World},(r=.returned (.tuple #[.agg zD3,.int .i64 2])/\Below w.heap.size w w')->dm w.heap.size w' r none/\Below w.heap.size w w':=fun⟨h1,h2⟩=>⟨⟨_,h1,Nt.nil _ _⟩,h2⟩
 cases hx:mkS n (val xs) e with
 | none =>
   exact(Kz n m e f (hid fun u hu=>zb (h1.below hu) (h2.below hu) (hT.belows hu) n m e f he0 he1 hf0 hf1 hx)).mono fun r w' h=>zero h
 | some x =>
   obtain⟨n1,X,e1⟩:=x
   cases hy:mkS m (val ys) f with
   | none =>
     exact(Kz n m e f (hid fun u hu=>ze (h1.below hu) (h2.below hu) (hT.belows hu) n m e f he0 he1 hf0 hf1 n1 X e1 hx hy)).mono fun r w' h=>zero h
   | some y =>
     obtain⟨m1,Y,f1⟩:=y;have mW:=hid fun u (hu:Below w.heap.size w u)=>Fe (h1.below hu) (h2.below hu) (hT.belows hu) n m e f he0 he1 hf0 hf1 n1 m1 X Y e1 f1 hx hy;have FX:=cK hx;have FY:=cK hy;have lX:=dS FX;have lY:=dS FY;have:=FX.up;have:=FX.down;have:=FY.up;have:=FY.down;show Calls _ _ _ _ fun r w'=>dm w.heap.size w' r (tZ (n1,X,e1) (m1,Y,f1))/\_;unfold tZ;simp only
     by_cases hX0:X=0
     · rw[if_pos hX0];exact QM n m e f n1 m1 X Y e1 f1 lX lY ((bU X).2 hX0) mW
     · rw[if_neg hX0]
       by_cases hY0:Y=0
       · rw[if_pos hY0];exact ML n m e f n1 m1 X Y e1 f1 lX lY (dY hX0) ((bU Y).2 hY0) mW
       · rw[if_neg hY0];have oX:X%2=1:=by rcases FX.odd with h | h <;> omega
         have oY:Y%2=1:=by rcases FY.odd with h | h <;> omega
         by_cases hlt:e1<f1
         · rw[if_pos hlt];have hsh:=zf Y (f1-e1) ae hY0 FY.size;unfold ll
           by_cases hL:262144<bl Y+(f1-e1).toNat
           · rw[if_pos hL] at hsh |-;exact(M5 n m e f n1 m1 X Y e1 f1 lX lY (dY hX0) (dY hY0) hlt ae ae ae ae mW (hid fun u p q hu hA=>mF (f1-e1) 0 2 hA ae ae hsh)).mono fun r w' h=>zero h
           · rw[if_neg hL] at hsh |-;have hbl:=Ff Y (f1-e1).toNat hY0;obtain⟨L,XW⟩:∃ L,Y*2^(f1-e1).toNat=L:=⟨_,rfl⟩;rw[XW] at hsh hbl |-;have lL:=len8 (X:=L) ae
             by_cases hs:m1=n1
             · rw[if_pos hs]
               exact QO n m e f n1 m1 X Y e1 f1 lX lY (dY hX0) (dY hY0) hlt ae ae ae ae mW (by simp[hs]) L lL _ _ _ _ (aR m1 (L+X) e1) (hid fun u p q hu hA=>mF (f1-e1) L 0 hA ae ae hsh)
                (hid fun u p q s t hu hA hB=>QP hT hu hA hB m1 e1 ae ae oX ae FX.size)
             · rw[if_neg hs];have hlen:(ws (dX (if X<=L then mkS m1 (L-X) e1 else mkS (!m1) (X-L) e1))).length<=8192:=by split <;> exact aR _ _ _
               exact M6 n m e f n1 m1 X Y e1 f1 lX lY (dY hX0) (dY hY0) hlt ae ae ae ae mW (by simp[hs]) L lL _ _ _ _ hlen (hid fun u p q hu hA=>mF (f1-e1) L 0 hA ae ae hsh)
                (hid fun u p q s t hu hA hB=>KA hT hu hA hB m1 e1 ae ae ae FX.size)
         · rw[if_neg hlt];have hsh:=zf X (e1-f1) ae hX0 FX.size;have Y9:decide (e1<f1)=false:=decide_eq_false hlt;unfold ll
           by_cases hL:262144<bl X+(e1-f1).toNat
           · rw[if_pos hL] at hsh |-;exact(MN n m e f n1 m1 X Y e1 f1 lX lY (dY hX0) (dY hY0) Y9 ae ae ae ae mW (hid fun u p q hu hA=>mF (e1-f1) 0 2 hA ae ae hsh)).mono fun r w' h=>zero h
           · rw[if_neg hL] at hsh |-;have hbl:=Ff X (e1-f1).toNat hX0;obtain⟨L,XW⟩:∃ L,X*2^(e1-f1).toNat=L:=⟨_,rfl⟩;rw[XW] at hsh hbl |-;have lL:=len8 (X:=L) ae
             by_cases hs:n1=m1
             · rw[if_pos hs]
               exact QN n m e f n1 m1 X Y e1 f1 lX lY (dY hX0) (dY hY0) Y9 ae ae ae ae mW (by simp[hs]) L lL _ _ _ _ (aR n1 (L+Y) f1) (hid fun u p q hu hA=>mF (e1-f1) L 0 hA ae ae hsh)
                (hid fun u p q s t hu hA hB=>QP hT hu hA hB n1 f1 ae ae oY ae FY.size)
             · rw[if_neg hs];have hlen:(ws (dX (if Y<=L then mkS n1 (L-Y) f1 else mkS (!n1) (Y-L) f1))).length<=8192:=by split <;> exact aR _ _ _
               exact MW n m e f n1 m1 X Y e1 f1 lX lY (dY hX0) (dY hY0) Y9 ae ae ae ae mW (by simp[hs]) L lL _ _ _ _ hlen (hid fun u p q hu hA=>mF (e1-f1) L 0 hA ae ae hsh)
                (hid fun u p q s t hu hA hB=>KA hT hu hA hB n1 f1 ae ae ae FY.size)
end
namespace B
open Go.RowKit
attribute [local go_sem] bF aH
theorem BS (f:Ieee.Format) (hs:f.infRung<f.signWeight) (s t:Bool) (r u v a:Nat) (ha:f.leastPlace=-(a:Int)) (hr:r<f.infRung) (hu:u<f.infRung) (hv:v<f.infRung)
 (h:val f r*val f u=val f v*2^a) (h0:val f r≠0) (h1:val f u≠0):f.mul (f.word s r) (f.word t u)=some (f.word (s ^^ t) v):=by
 obtain⟨m,k,e1,v1⟩:=jM f s r hr hs;obtain⟨n,j,e2,v2⟩:=jM f t u hu hs;unfold Ieee.Format.mul;rw[e1,e2];show some (f.nearest (s ^^ t) (m*n) (f.leastPlace+k+(f.leastPlace+j)))=_;have e:f.leastPlace+(k:Int)+(f.leastPlace+(j:Int))=f.leastPlace+((k+j:Nat):Int)-(a:Int):=ae
 have Ih:m*n≠0:=by
  intro h2;rcases Nat.mul_eq_zero.1 h2 with h3|h3
  · subst h3;simp at v1;exact h0 v1.symm
  · subst h3;simp at v2;exact h1 v2.symm
 rw[e,yG f _ (m*n) (k+j) a v hv ?_ Ih];rw[<-h,<-v1,<-v2,aJ]
 grind
theorem QQ(a:Nat)(h:a<2^63):a &&& 2^63=0:=by
 apply Hr;intro i;rw[Nat.testBit_and,Nat.testBit_two_pow,Nat.zero_testBit]
 by_cases hi:63=i
 · subst hi;rw[yA h];rfl
 · simp[hi]
theorem IM(e g:Nat)(he:e<2048)(hg:g<4503599627370496):bits .andNot .u64 ((bw false e g:Nat):Int) 9218868437227405312=(g:Int):=by
 have h:=u64_andNot_nat (bw false e g) 9218868437227405312 (yH false e g he hg) ae;rw[show(((9218868437227405312:Nat)):Int)=9218868437227405312 from rfl] at h;rw[h];have hb:bw false e g=e*4503599627370496+g:=by unfold bw;simp
 have hlt:bw false e g<2^63:=by rw[hb];omega
 have e1:18446744073709551615-9218868437227405312=2^63 ||| (2^52-1):=aj
 rw[e1,Nat.and_or_distrib_left,Cu,QQ _ hlt,Nat.zero_or,hb];omega
theorem zg(E g:Nat)(hE:E<2048)(hg:g<4503599627370496):bits .or .u64 (g:Int) ((E:Int)*4503599627370496)=((bw false E g:Nat):Int):=by
 have hc:bits .or .u64 (g:Int) ((E:Int)*4503599627370496)=bits .or .u64 ((E:Int)*4503599627370496) (g:Int):=by simp only[bits,BitVec.or_comm]
 rw[hc,bits_join .u64 64 aj wraps_u64 52 ((E:Int)*4503599627370496) (g:Int) ae ae ae ae ae ae];unfold bw;simp
theorem Za(e g:Nat)(he:e<2047)(hg:g<4503599627370496)(w:World) :
 Calls Tryz.prog 188 #[.float .f64 (bw false e g),.int .i64 0] w fun r w'=>r=.returned (.bool false)/\w'=w:=by
 have H:=hid (Dl false e g ae hg w);have h1:=YJ false e g ae hg;have h2:(!false&&(e==2047&&g==0))=false:=by simp;omega
 rw[h2] at h1;generalize bw false e g=b at *;go_enter Tryz.func188,Tryz.ntmps188;go_wp2_with fail;refine H.o.mono ?_;rintro r w1 ⟨rfl,rfl⟩;go_wp2;go_ret;exact⟨rfl,rfl⟩
theorem AZ(e g:Nat)(h0:0<e)(he:e<2047)(hg:g<4503599627370496)(w:World) :
 Calls Tryz.prog 190 #[.float .f64 (bw false e g)] w fun r w'=>r=.returned (.tuple #[.float .f64 (bw false e g),.int .i64 0])/\w'=w:=by
 have H:=hid (Dl false e g ae hg w);have h1:=H9 false false e g 1 0 ae hg ae ae
 have h3:(!odd e g&&(!odd 1 0&&decide (pl false e g<pl false 1 0)))=false:=by
  have:¬ pl false e g<pl false 1 0:=by unfold pl sg;simp;omega
  simp[this]
 rw[h3,show bw false 1 0=4503599627370496 from rfl] at h1;generalize bw false e g=b at *;clear h3;go_enter Tryz.func190,Tryz.ntmps190;go_wp2_with fail;refine H.o.mono ?_;rintro r w1 ⟨rfl,rfl⟩;go_wp2
 go_ret2
 exact⟨rfl,rfl⟩
theorem Vq(w:World):Calls Tryz.prog 119 #[.int .i64 1] w fun r w'=>r=.returned (.float .f64 9218868437227405312)/\w'=w:=by
 go_enter Tryz.func119,Tryz.ntmps119;exact XS
theorem Dp(e g:Nat)(he:e<2048)(hg:g<4503599627370496)(w:World) :
 Calls Tryz.prog 148 #[.float .f64 (bw false e g),.float .f64 13830554455654793216] w fun r w'=>r=.returned (.float .f64 (bw true e g))/\w'=w:=by
 have h1:=Ia false e g he hg;have h2:bits .and .u64 13830554455654793216 9223372036854775808=9223372036854775808:=aj
 have hb:bw false e g=e*4503599627370496+g:=by unfold bw;simp
 have h3:=JX ((bw false e g:Nat):Int) ae (by rw[hb];omega);have h4:((bw false e g:Nat):Int)+9223372036854775808=((bw true e g:Nat):Int):=by unfold bw;simp;omega
 rw[h4] at h3;generalize bw false e g=b at *;generalize bw true e g=d at *;clear hb h4;go_enter Tryz.func148,Tryz.ntmps148;go_wp2;go_ret;exact⟨aQ,rfl⟩
end B
namespace B
open Go.RowKit
attribute [local go_sem] bF aH
theorem zh (b e g d:Nat) (x y z:Int) (w:World) (hb:b<9223372036854775808) (hx0:-3000<=x) (hx1:x<=3000) (he0:0<e) (he1:e<2047) (hg:g<4503599627370496)
 (z0:(FloatKind.f64.format.order b 0==some .eq)=false)
 (HI:Hid (∀ u,Calls Tryz.prog 188 #[.float .f64 b,.int .i64 0] u fun r w'=>r=.returned (.bool false)/\w'=u))
 (HN:Hid (∀ u,Calls Tryz.prog 189 #[.float .f64 b] u fun r w'=>r=.returned (.bool false)/\w'=u))
 (HZ:Hid (∀ u,Calls Tryz.prog 190 #[.float .f64 b] u fun r w'=>r=.returned (.tuple #[.float .f64 b,.int .i64 0])/\w'=u))
 (e1:bits .and .i64 ((b:Int)/4503599627370496) 2047=(e:Int)) (mc:bits .andNot .u64 (b:Int) 9218868437227405312=(g:Int))
 (ey:x+((e:Int)-1023)=y) (hy0:-1022<=y) (hy1:y<=1023) (ez:(y+1023)*4503599627370496=z) (hz0:0<=z) (hz1:z<9223372036854775808) (je:bits .or .u64 (g:Int) z=(d:Int))
 (mu:∀ u:World,(binOp .mul 28 (.float .f64 4607182418800017408) (.float .f64 d)).run Tryz.prog u=.ok (.float .f64 d) u) :
 Calls Tryz.prog 176 #[.float .f64 b,.int .i64 x] w fun r w'=>r=.returned (.float .f64 d)/\w'=w:=by
 go_enter Tryz.func176,Tryz.ntmps176;go_wp2_with fail;refine(aF (HI.o _)) ?_;rintro r w1 ⟨rfl,hw⟩;rw[hw];clear hw w1;go_wp2_with fail;refine(aF (HN.o _)) ?_;rintro r w1 ⟨rfl,hw⟩;rw[hw];clear hw w1;go_wp2_with fail;refine(aF (HZ.o _)) ?_;rintro r w1 ⟨rfl,hw⟩;rw[hw];clear hw w1;go_wp2;go_ret;exact⟨rfl,rfl⟩
theorem M8 (b e g d c:Nat) (x y y2 z:Int) (w:World) (hb:b<9223372036854775808) (hx0:-3000<=x) (hx1:x<=3000) (he0:0<e) (he1:e<2047) (hg:g<4503599627370496)
 (z0:(FloatKind.f64.format.order b 0==some .eq)=false)
 (HI:Hid (∀ u,Calls Tryz.prog 188 #[.float .f64 b,.int .i64 0] u fun r w'=>r=.returned (.bool false)/\w'=u))
 (HN:Hid (∀ u,Calls Tryz.prog 189 #[.float .f64 b] u fun r w'=>r=.returned (.bool false)/\w'=u))
 (HZ:Hid (∀ u,Calls Tryz.prog 190 #[.float .f64 b] u fun r w'=>r=.returned (.tuple #[.float .f64 b,.int .i64 0])/\w'=u))
 (e1:bits .and .i64 ((b:Int)/4503599627370496) 2047=(e:Int)) (mc:bits .andNot .u64 (b:Int) 9218868437227405312=(g:Int))
 (ey:x+((e:Int)-1023)=y) (hy0:-1075<=y) (hy1:y < -1022) (ey2:y+53=y2) (hy2:-1022<=y2) (hy3:y2<=1023) (ez:(y2+1023)*4503599627370496=z) (hz0:0<=z) (hz1:z<9223372036854775808) (je:bits .or .u64 (g:Int) z=(d:Int))
 (mu:∀ u:World,(binOp .mul 28 (.float .f64 4368491638549381120) (.float .f64 d)).run Tryz.prog u=.ok (.float .f64 c) u) :
 Calls Tryz.prog 176 #[.float .f64 b,.int .i64 x] w fun r w'=>r=.returned (.float .f64 c)/\w'=w:=by
 go_enter Tryz.func176,Tryz.ntmps176;go_wp2_with fail;refine(aF (HI.o _)) ?_;rintro r w1 ⟨rfl,hw⟩;rw[hw];clear hw w1;go_wp2_with fail;refine(aF (HN.o _)) ?_;rintro r w1 ⟨rfl,hw⟩;rw[hw];clear hw w1;go_wp2_with fail;refine(aF (HZ.o _)) ?_;rintro r w1 ⟨rfl,hw⟩;rw[hw];clear hw w1;go_wp2;go_ret;exact⟨rfl,rfl⟩
theorem M9 (b e g:Nat) (x y:Int) (w:World) (hb:b<9223372036854775808) (hx0:-3000<=x) (hx1:x<=3000) (he0:0<e) (he1:e<2047) (hg:g<4503599627370496)
 (z0:(FloatKind.f64.format.order b 0==some .eq)=false)
 (HI:Hid (∀ u,Calls Tryz.prog 188 #[.float .f64 b,.int .i64 0] u fun r w'=>r=.returned (.bool false)/\w'=u))
 (HN:Hid (∀ u,Calls Tryz.prog 189 #[.float .f64 b] u fun r w'=>r=.returned (.bool false)/\w'=u))
 (HZ:Hid (∀ u,Calls Tryz.prog 190 #[.float .f64 b] u fun r w'=>r=.returned (.tuple #[.float .f64 b,.int .i64 0])/\w'=u))
 (e1:bits .and .i64 ((b:Int)/4503599627370496) 2047=(e:Int)) (mc:bits .andNot .u64 (b:Int) 9218868437227405312=(g:Int))
 (ey:x+((e:Int)-1023)=y) (hy0:1023<y) (z1:(FloatKind.f64.format.order b 0==some .lt)=false) :
 Calls Tryz.prog 176 #[.float .f64 b,.int .i64 x] w fun r w'=>r=.returned (.float .f64 9218868437227405312)/\w'=w:=by
 go_enter Tryz.func176,Tryz.ntmps176;go_wp2_with fail;refine(aF (HI.o _)) ?_;rintro r w1 ⟨rfl,hw⟩;rw[hw];clear hw w1;go_wp2_with fail;refine(aF (HN.o _)) ?_;rintro r w1 ⟨rfl,hw⟩;rw[hw];clear hw w1;go_wp2_with fail;refine(aF (HZ.o _)) ?_;rintro r w1 ⟨rfl,hw⟩;rw[hw];clear hw w1;go_wp2_with fail;refine(aF (Vq _)) ?_;rintro r w1 ⟨rfl,hw⟩;rw[hw];clear hw w1;go_wp2;go_ret;exact⟨rfl,rfl⟩
end B
end Go.Proofs.YtfmfhehbdfhnbaaGreatDoor
