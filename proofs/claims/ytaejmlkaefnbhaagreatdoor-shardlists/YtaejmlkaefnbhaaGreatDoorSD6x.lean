import Derived.Test.YtaejmlkaefnbhaaGreatDoorSE4x
import Derived.Test.YtaejmlkaefnbhaaGreatDoorF3x
import Derived.Test.YtaejmlkaefnbhaaGreatDoorPR1x
import Derived.Test.YtaejmlkaefnbhaaGreatDoorS11ax
import Derived.BigQuiet
import Derived.Test.YtaejmlkaefnbhaaGreatDoorD21x
import Derived.Test.YtaejmlkaefnbhaaGreatDoorZ7x
import Derived.RangeFuncNested
import Derived.RangeFuncBound
import Derived.RangeFuncCalls
import Derived.RangeFuncLeaves
import Derived.RangeFuncBox
import Derived.Shelf.Abstract
import Derived.Shelf.RegionOpen
import Derived.WalkKit
import Derived.OwnWalkIn
import Derived.TacticsInMore
import Derived.LoopNIn
import Derived.LoopIn
import Derived.Test.YtaejmlkaefnbhaaGreatDoorD16x
import Derived.Test.YtaejmlkaefnbhaaGreatDoorX2x
import Derived.Test.YtaejmlkaefnbhaaGreatDoorD30x
import Derived.Deep.RegionHeld3
import Derived.Test.YtaejmlkaefnbhaaGreatDoorW24x
import Derived.Deep.CutRange
import Derived.Test.YtaejmlkaefnbhaaGreatDoorBW6x
import Derived.Defers
set_option linter.unusedVariables false
set_option linter.unusedSimpArgs false
set_option maxHeartbeats 16000000
set_option maxRecDepth 20000
namespace Go.Proofs.YtaejmlkaefnbhaaGreatDoor
namespace J
end J
section
open Go Go.RowKit J
abbrev Iq(x:Nat):Value:=.int .i64 (x:Int)
def G8(xs rest:List Nat):List Nat:=(xs.map fun x=>aR x 8).flatten++rest
theorem Uh(x:Nat)(xs rest:List Nat):G8 (x::xs) rest=aR x 8++G8 xs rest:=by unfold G8;simp
theorem cbB_by{xs rest:List Nat}(h:∀ b ∈ rest,b<256):∀ b ∈ G8 xs rest,b<256:=by
 intro b hb;rcases fA.1 hb with q|q
 · obtain⟨l,hl,q⟩:=List.mem_flatten.1 q;obtain⟨y,_,rfl⟩:=kW.1 hl;exact gM q
 · exact h b q
theorem G9(xs:List Nat)(k:Nat)(h:k<xs.length):xs.drop k=xs.getD k 0::xs.drop (k+1):=by
 rw[IQ h,aS,aY h];rfl
def wD(xs:List Nat)(k:Nat):List Value:=(rq xs k).map Iq
theorem eQ{g h:Nat}{w v v':World}(h1:But g w v)(h2:But h v v')(hh:w.heap.size<=h):But g w v' :=
 ⟨h2.os.trans h1.os,h2.tape.trans h1.tape,h2.output.trans h1.output,aV h1.size h2.size,fun b hb hne=>(h2.block b (gG hb h1.size) af).trans (h1.block b hb hne)⟩
theorem Kg (w:World) (g B:Nat) (ao:Option Addr) (c n u d m p a:Nat) (rest:List Nat) (h:gQ w g ao (G8 [n,u,d,m,p,a] rest) c false) (hF:dO B w ao (G8 [n,u,d,m,p,a] rest)) (hg:B<=g) (hB:B<=w.heap.size) (hrb:∀ b ∈ rest,b<256)
 (hx:∀ x ∈ [n,u,d,m,p,a],x<=1099511627776) :
 Calls Tryz.prog 102 #[.pointer (some ⟨g,0,none⟩)] w fun r w'=>r=.returned (.agg #[Iq n,Iq u,Iq d,Iq m,Iq p,Iq a])/\(∃ jq c',gQ w' g jq rest c' false/\dO B w' jq rest)/\But g w w':=by
 have hgl:g<w.heap.size:=h.1.lt;obtain⟨W,hW⟩:=ah ((w.alloc (Obj.cells #[.int .i64 0,.int .i64 0,.int .i64 0,.int .i64 0,.int .i64 0,.int .i64 0] 73)).alloc (Obj.cells #[.int .i64 0,.int .i64 0,.int .i64 0,.int .i64 0,.int .i64 0,.int .i64 0] 80));obtain⟨gs,hgs⟩:=ah (w.heap.size);obtain⟨ga,hga⟩:=ah (w.heap.size+1);have hb0:Below w.heap.size w W:=by rw[hW];exact(ak _ _).trans ((ak _ _).mono aL)
 have hS:Bl W gs 73 [.int .i64 0,.int .i64 0,.int .i64 0,.int .i64 0,.int .i64 0,.int .i64 0]:=by rw[hW,hgs];exact(Bl.new w _ [_,_,_,_,_,_]).alloc _
 obtain⟨xs,hxs⟩:=ah ([n,u,d,m,p,a])
 have hA:Bl W ga 80 (wD xs 0):=by
  rw[hW,hga,show wD xs 0=[.int .i64 0,.int .i64 0,.int .i64 0,.int .i64 0,.int .i64 0,.int .i64 0] by rw[hxs];rfl];exact Bl.new' (w.alloc _) _ _ [_,_,_,_,_,_] aL
 have hl6:xs.length=6:=by rw[hxs];rfl
 rw[<-hxs] at h hF hx;have H0:Aside (But g w W/\Bl W ga 80 (wD xs 0)/\Bl W gs 73 [.int .i64 0,.int .i64 0,.int .i64 0,.int .i64 0,.int .i64 0,.int .i64 0]/\∃ jq c',gQ W g jq (G8 (xs.drop 0) rest) c' false/\dO B W jq (G8 (xs.drop 0) rest)):=au ⟨(But.refl g w).of_below hb0,hA,hS,ao,c,⟨h.1.below hb0 hgl,h.2⟩,hF.below (hb0.mono hB)⟩;have HX:=(EF hb0 hS hgl hg hB hrb hx);have HG:Aside (gs=w.heap.size/\ga=w.heap.size+1/\gs≠ga/\gs≠g/\ga≠g):=au ⟨hgs,hga,af,af,af⟩;have HW:=(bM hW hgs hga);have HXS:=(aT hxs hl6);clear h hF hb0 hS hA hg hB hrb hx hW hgs hga hxs hl6;go_enter Tryz.func102,Tryz.ntmps102
 go_upto_region 2 with fail
 rw[<-HW.o.1,<-HW.o.r2,<-HW.o.2.1];clear HW;go_wp2
 go_loopg [5] 6 (fun gk iv wr=>∃ k:Nat,gk+k=6/\iv=.int .i64 (k:Nat)/\Aside (But g w wr/\Bl wr ga 80 (wD xs k)/\Bl wr gs 73 [.int .i64 0,.int .i64 0,.int .i64 0,.int .i64 0,.int .i64 0,.int .i64 0]/\∃ jq c',gQ wr g jq (G8 (xs.drop k) rest) c' false/\dO B wr jq (G8 (xs.drop k) rest)))
 case atStart=>exact⟨0,af,aL,H0.o⟩
 case round =>
  obtain⟨k,iL,rfl,HA⟩:=hrel
  by_cases hk:k<6
  · have hd:decide ((k:Int)<6)=true:=by simp;omega
    have hk2:¬ (6<=k):=af
    have hkx:k<xs.length:=by rw[HXS.o.2];exact hk
    obtain⟨jq,c',q1,q2⟩:=HA.o.r3;have Ui:=G9 xs k hkx;have hwl:=Bu (L:=xs) (k:=k) hkx
    have hxb:xs.getD k 0<=1099511627776:=by
     rw[aS,aY hkx];exact HX.o.r6 _ (iw hkx)
    obtain⟨x,hx⟩:=ah (xs.getD k 0);rw[<-hx] at Ui hwl hxb;rw[Ui,Uh] at q1 q2;have hBw:B<=wr.heap.size:=aV HX.o.r4.1 HA.o.1.size;have HC:=hid (show Calls Tryz.prog 175 #[.pointer (some ⟨g,0,none⟩),.int .u64 1099511627776,.int .i64 8] wr _ from TC wr g B jq _ c' 8 1099511627776 x false q1 q2 (by simp[aN]) aA aA HX.o.r3.1 hBw (by intro b hb;rcases fA.1 hb with q | q;exact gM q;exact cbB_by HX.o.r5.1 b q) (by rw[rQ (aN x 8)];exact lC 8 x (iC hxb aA)) hxb af);rw[rP (aN x 8)] at HC;have HS:=au hwl;clear q1 q2 Ui hwl hkx hx hxb;go_wp2_with fail;refine HC.o.mono ?_;rintro r v ⟨rfl,⟨a2,q1,q2⟩,hb⟩;have hgA:=HG.o;have hA2:Bl v ga 80 (wD xs k):=HA.o.2.1.but hb hgA.2.2.2.2;have hS2:Bl v gs 73 [.int .i64 0,.int .i64 0,.int .i64 0,.int .i64 0,.int .i64 0,.int .i64 0]:=HA.o.r2.1.but hb hgA.2.2.2.1;have hbs:But ga v (v.setCell ⟨ga,k,none⟩ (.int .i64 (x:Int))):=(But.refl ga v).set k _;have hA3:=hA2.set k (.int .i64 (x:Int))
    have e:(wD xs k).set k (.int .i64 (x:Int))=wD xs (k+1):=by
     unfold wD;rw[<-HS.o,wX]
    rw[e] at hA3;have HV:Aside (But g w (v.setCell ⟨ga,k,none⟩ (.int .i64 (x:Int)))/\Bl (v.setCell ⟨ga,k,none⟩ (.int .i64 (x:Int))) ga 80 (wD xs (k+1))/\Bl (v.setCell ⟨ga,k,none⟩ (.int .i64 (x:Int))) gs 73 [.int .i64 0,.int .i64 0,.int .i64 0,.int .i64 0,.int .i64 0,.int .i64 0]/\∃ jq c',gQ (v.setCell ⟨ga,k,none⟩ (.int .i64 (x:Int))) g jq (G8 (xs.drop (k+1)) rest) c' false/\dO B (v.setCell ⟨ga,k,none⟩ (.int .i64 (x:Int))) jq (G8 (xs.drop (k+1)) rest)):=au ⟨eQ (HA.o.1.trans hb) hbs af,hA3,hS2.but hbs hgA.2.2.1,a2,_,⟨q1.1.but hbs hgA.2.2.2.2.symm,q1.2⟩,q2.but hbs (aV hBw hb.size) (by have:=HX.o.r4.1;omega)⟩;have f0:=hA2.frozen k;obtain⟨c0,z0⟩:∃ c0,v.cell? ⟨ga,k,none⟩=some c0:=⟨_,hA2.cell k ((wD xs k)[k]'(by unfold wD rq;simp;have:=HXS.o.2;omega)) (aY _)⟩;clear q1 q2 hb hA2 hS2 hbs hA3 e HC hBw hgA;exact Qaf
  · obtain rfl:k=6:=af
    have hd:decide (((6:Nat):Int)<6)=false:=aA
    have IL:=HA.o.2.1;rw[show wD xs 6=[.int .i64 (n:Int),.int .i64 (u:Int),.int .i64 (d:Int),.int .i64 (m:Int),.int .i64 (p:Int),.int .i64 (a:Int)] by rw[HXS.o.1];rfl] at IL;have sZ:=HA.o.r2.1;have a0:=IL.cell 0 _ rfl;have a1:=IL.cell 1 _ rfl;have a2:=IL.cell 2 _ rfl;have a3:=IL.cell 3 _ rfl;have a4:=IL.cell 4 _ rfl;have a5:=IL.cell 5 _ rfl;have s0:=sZ.cell 0 _ rfl;have s1:=sZ.cell 1 _ rfl;have s2:=sZ.cell 2 _ rfl;have s3:=sZ.cell 3 _ rfl;have s4:=sZ.cell 4 _ rfl;have s5:=sZ.cell 5 _ rfl;have f0:=sZ.frozen 0;have f1:=sZ.frozen 1;have f2:=sZ.frozen 2;have f3:=sZ.frozen 3;have f4:=sZ.frozen 4;have f5:=sZ.frozen 5
    have HV:Aside (But g w wr/\Bl wr gs 73 [.int .i64 0,.int .i64 0,.int .i64 0,.int .i64 0,.int .i64 0,.int .i64 0]/\∃ jq c',gQ wr g jq rest c' false/\dO B wr jq rest):=by
     obtain⟨jq,c',q1,q2⟩:=HA.o.r3;rw[show G8 (xs.drop 6) rest=rest by rw[HXS.o.1];rfl] at q1 q2;exact au ⟨HA.o.1,sZ,jq,c',q1,q2⟩
    have ne:=HG.o.r2.1;have ne':=ne.symm;clear iL hk HA IL sZ;go_wp2;refine aJ (v:=.agg #[.int .i64 (n:Int),.int .i64 (u:Int),.int .i64 (d:Int),.int .i64 (m:Int),.int .i64 (p:Int),.int .i64 (a:Int)]) (jK Tryz.results102 _ _ gs [.int .i64 (n:Int),.int .i64 (u:Int),.int .i64 (d:Int),.int .i64 (m:Int),.int .i64 (p:Int),.int .i64 (a:Int)] aL ((((((HV.o.2.1.set 0 _).set 1 _).set 2 _).set 3 _).set 4 _).set 5 _) Tryz.yL gD) rfl ?_;have hbs:=But.set (But.set (But.set (But.set (But.set (But.set (But.refl gs wr) 0 (.int .i64 (n:Int))) 1 (.int .i64 (u:Int))) 2 (.int .i64 (d:Int))) 3 (.int .i64 (m:Int))) 4 (.int .i64 (p:Int))) 5 (.int .i64 (a:Int));obtain⟨h1,h2,jq,c',q1,q2⟩:=HV.o;exact⟨rfl,⟨jq,c',⟨q1.1.but hbs HG.o.r3.1.symm,q1.2⟩,q2.but hbs (aV HX.o.r4.1 h1.size) (by have:=HX.o.r4.1;have:=HG.o;omega)⟩,eQ h1 hbs (by have:=HG.o;omega)⟩
attribute [local go_sem] gZ
def Kh(n a lo hi:Nat):List Nat:=if n<a then aR lo 8++(aR hi 8++[]) else[]
theorem PV(n u d m p a:Nat)(o q:Option (Bool×Nat×Int))(lo hi E1 E2:Nat)(h1:dE o+4096=(E1:Int))(h2:dE q+4096=(E2:Int)) :
 Ue n u d m p a o q lo hi=G8 [n,u,d,m,p,a] (qJ (dN o) (dX o) E1++(qJ (dN q) (dX q) E2++Kh n a lo hi)):=by
 unfold Ue IK QH G8 Kh;rw[show(dE o+4096).toNat=E1 by omega,show(dE q+4096).toNat=E2 by omega]
 split <;> simp
theorem Uj{n a lo hi:Nat}:∀ b ∈ Kh n a lo hi,b<256:=by
 intro b hb;unfold Kh at hb
 split at hb
 · rcases fA.1 hb with q | q
   · exact gM q
   · rw[qB] at q;exact gM q
 · simp at hb
theorem yZ{l r:List Nat}(h1:∀ b ∈ l,b<256)(h2:∀ b ∈ r,b<256):∀ b ∈ l++r,b<256:=fun b hb=>by rcases fA.1 hb with q | q;exact h1 b q;exact h2 b q
theorem Xy (w:World) (g B:Nat) (ao:Option Addr) (c n u d m p a:Nat) (o q:Option (Bool×Nat×Int)) (lo hi E1 E2:Nat)
 (h:gQ w g ao (G8 [n,u,d,m,p,a] (qJ (dN o) (dX o) E1++(qJ (dN q) (dX q) E2++Kh n a lo hi))) c false) (hF:dO B w ao (G8 [n,u,d,m,p,a] (qJ (dN o) (dX o) E1++(qJ (dN q) (dX q) E2++Kh n a lo hi)))) (hg:B<=g) (hB:B<=w.heap.size)
 (hx:∀ x ∈ [n,u,d,m,p,a],x<=1099511627776) (h1:dE o=(E1:Int)-4096) (h2:dE q=(E2:Int)-4096) (hE1:E1<=65535) (hE2:E2<=65535) (l1:(ws (dX o)).length<=65535) (l2:(ws (dX q)).length<=65535)
 (f1:(dX o=0/\dN o=false/\E1=4096)\/dX o%2=1) (f2:(dX q=0/\dN q=false/\E2=4096)\/dX q%2=1) (e1:lo<18446744073709551616) (e2:hi<18446744073709551616) (he:n<a\/(lo=0/\hi=0)) :
 Calls Tryz.prog 49 #[.pointer (some ⟨g,0,none⟩)] w fun r w'=>(∃ gS,r=.returned (.pointer (some ⟨gS,0,none⟩))/\w.heap.size<=gS/\fe w' gS ⟨n,u,d,m,p,a⟩ o q lo hi)/\(∃ jq c',gQ w' g jq [] c' false)/\But g w w':=by
 have hgl:g<w.heap.size:=h.1.lt;have HN:=hid (Ty w);have HX:=(rG h hF hg hB hx hgl);have HY:=(Yr hE1 hE2 l1 l2 f1 f2 e1 e2 he);have HE:=(aT h1 h2);clear h hF hg hB hx hE1 hE2 l1 l2 f1 f2 e1 e2 h1 h2;go_enter Tryz.func49,Tryz.ntmps49;go_wp2_with fail;refine HN.o.mono ?_;rintro r v0 ⟨rfl,hS,hb⟩;obtain⟨gS,QI⟩:=ah (w.heap.size);rw[<-QI];obtain⟨x1,y1,x2,y2,hS0,_,_⟩:=hS;rw[<-QI] at hS0;have K0:Aside (But g w v0/\Bl v0 gS 79 [.int .i64 0,.int .i64 0,.int .i64 0,.int .i64 0,.int .i64 0,.int .i64 0,.bool (dN dz),.slice x1 (ws (dX dz)).length y1,.int .i64 (dE dz),.bool (dN dz),.slice x2 (ws (dX dz)).length y2,.int .i64 (dE dz),.float .f64 0,.float .f64 0]/\gS=w.heap.size/\gS≠g/\B<=v0.heap.size):=au ⟨(But.refl g w).of_below hb,hS0,QI,by have:=HX.o.r5;omega,aV HX.o.r3.1 hb.size⟩;have rb2:∀ b ∈ qJ (dN q) (dX q) E2++Kh n a lo hi,b<256:=yZ (fun b hb=>TI hb) Uj;have rb1:∀ b ∈ qJ (dN o) (dX o) E1++(qJ (dN q) (dX q) E2++Kh n a lo hi),b<256:=yZ (fun b hb=>TI hb) rb2;have HRB:=(aT rb1 rb2);have C:=hid (Kg v0 g B ao c n u d m p a _ ⟨HX.o.1.1.below hb HX.o.r5,HX.o.1.2⟩ (HX.o.2.1.below (hb.mono HX.o.r3.1)) HX.o.r2.1 K0.o.r4 HRB.o.1 HX.o.r4.1);clear hS0 QI hb rb1 rb2 HN;go_wp2_with fail;refine C.o.mono ?_;rintro r v1 ⟨rfl,⟨ao1,c1',q1,q2⟩,hb⟩;have hS1:Bl v1 gS 79 [.int .i64 0,.int .i64 0,.int .i64 0,.int .i64 0,.int .i64 0,.int .i64 0,.bool (dN dz),.slice x1 (ws (dX dz)).length y1,.int .i64 (dE dz),.bool (dN dz),.slice x2 (ws (dX dz)).length y2,.int .i64 (dE dz),.float .f64 0,.float .f64 0]:=K0.o.2.1.but hb K0.o.r3.1;have z0:=hS1.cell 0 _ rfl;have f0:=hS1.frozen 0;have z1:=hS1.cell 1 _ rfl;have f1:=hS1.frozen 1;have z2:=hS1.cell 2 _ rfl;have f2:=hS1.frozen 2;have z3:=hS1.cell 3 _ rfl;have f3:=hS1.frozen 3;have z4:=hS1.cell 4 _ rfl;have f4:=hS1.frozen 4;have z5:=hS1.cell 5 _ rfl;have f5:=hS1.frozen 5;have hbS:=But.set (But.set (But.set (But.set (But.set (But.set (But.refl gS v1) 0 (.int .i64 (n:Int))) 1 (.int .i64 (u:Int))) 2 (.int .i64 (d:Int))) 3 (.int .i64 (m:Int))) 4 (.int .i64 (p:Int))) 5 (.int .i64 (a:Int));have hS2:Bl ((((((v1.setCell ⟨gS,0,none⟩ (.int .i64 (n:Int))).setCell ⟨gS,1,none⟩ (.int .i64 (u:Int))).setCell ⟨gS,2,none⟩ (.int .i64 (d:Int))).setCell ⟨gS,3,none⟩ (.int .i64 (m:Int))).setCell ⟨gS,4,none⟩ (.int .i64 (p:Int))).setCell ⟨gS,5,none⟩ (.int .i64 (a:Int))) gS 79 [.int .i64 (n:Int),.int .i64 (u:Int),.int .i64 (d:Int),.int .i64 (m:Int),.int .i64 (p:Int),.int .i64 (a:Int),.bool (dN dz),.slice x1 (ws (dX dz)).length y1,.int .i64 (dE dz),.bool (dN dz),.slice x2 (ws (dX dz)).length y2,.int .i64 (dE dz),.float .f64 0,.float .f64 0]:=((((((hS1.set 0 _).set 1 _).set 2 _).set 3 _).set 4 _).set 5 _);obtain⟨V1,hV1⟩:=ah (((((((v1.setCell ⟨gS,0,none⟩ (.int .i64 (n:Int))).setCell ⟨gS,1,none⟩ (.int .i64 (u:Int))).setCell ⟨gS,2,none⟩ (.int .i64 (d:Int))).setCell ⟨gS,3,none⟩ (.int .i64 (m:Int))).setCell ⟨gS,4,none⟩ (.int .i64 (p:Int))).setCell ⟨gS,5,none⟩ (.int .i64 (a:Int))))
 go_upto_region 3 with fail
 rw[<-hV1];rw[<-hV1] at hbS hS2;have K1:Aside (But g w V1/\Bl V1 gS 79 [.int .i64 (n:Int),.int .i64 (u:Int),.int .i64 (d:Int),.int .i64 (m:Int),.int .i64 (p:Int),.int .i64 (a:Int),.bool (dN dz),.slice x1 (ws (dX dz)).length y1,.int .i64 (dE dz),.bool (dN dz),.slice x2 (ws (dX dz)).length y2,.int .i64 (dE dz),.float .f64 0,.float .f64 0]/\gS=w.heap.size/\gS≠g/\B<=V1.heap.size):=au ⟨eQ (K0.o.1.trans hb) hbS (by have:=K0.o.r2.1;omega),hS2,K0.o.r2.1,K0.o.r3.1,aV (aV K0.o.r4 hb.size) hbS.size⟩;have C1:=hid (TJ V1 g B ao1 c1' (dN o) (dX o) E1 _ ⟨q1.1.but hbS K0.o.r3.1.symm,q1.2⟩ (q2.but hbS (aV K0.o.r4 hb.size) (by have:=K0.o.r2.1;have:=HX.o.r3.1;omega)) HX.o.r2.1 K1.o.r4 HRB.o.2 HY.o.1 HY.o.r2.1 HY.o.r4.1);rw[<-HE.o.1] at C1;clear hV1 hbS hS2 hS1 q1 q2 hb C K0 z0 f0 z1 f1 z2 f2 z3 f3 z4 f4 z5 f5;go_wp2_with fail;refine C1.o.mono ?_;rintro r v2 ⟨⟨b1,c1,rfl,hN1⟩,⟨ao2,c2',q1,q2⟩,hb⟩;have hS1:Bl v2 gS 79 [.int .i64 (n:Int),.int .i64 (u:Int),.int .i64 (d:Int),.int .i64 (m:Int),.int .i64 (p:Int),.int .i64 (a:Int),.bool (dN dz),.slice x1 (ws (dX dz)).length y1,.int .i64 (dE dz),.bool (dN dz),.slice x2 (ws (dX dz)).length y2,.int .i64 (dE dz),.float .f64 0,.float .f64 0]:=K1.o.2.1.but hb K1.o.r3.1;have z6:=hS1.cell 6 _ rfl;have f6:=hS1.frozen 6;have z7:=hS1.cell 7 _ rfl;have f7:=hS1.frozen 7;have z8:=hS1.cell 8 _ rfl;have f8:=hS1.frozen 8;have hbS:=But.set (But.set (But.set (But.refl gS v2) 6 (.bool (dN o))) 7 (.slice b1 (ws (dX o)).length c1)) 8 (.int .i64 (dE o));have hS2:Bl (((v2.setCell ⟨gS,6,none⟩ (.bool (dN o))).setCell ⟨gS,7,none⟩ (.slice b1 (ws (dX o)).length c1)).setCell ⟨gS,8,none⟩ (.int .i64 (dE o))) gS 79 [.int .i64 (n:Int),.int .i64 (u:Int),.int .i64 (d:Int),.int .i64 (m:Int),.int .i64 (p:Int),.int .i64 (a:Int),.bool (dN o),.slice b1 (ws (dX o)).length c1,.int .i64 (dE o),.bool (dN dz),.slice x2 (ws (dX dz)).length y2,.int .i64 (dE dz),.float .f64 0,.float .f64 0]:=(((hS1.set 6 _).set 7 _).set 8 _);obtain⟨V2,hV2⟩:=ah ((((v2.setCell ⟨gS,6,none⟩ (.bool (dN o))).setCell ⟨gS,7,none⟩ (.slice b1 (ws (dX o)).length c1)).setCell ⟨gS,8,none⟩ (.int .i64 (dE o))))
 go_upto_region 4 with fail
 rw[<-hV2];rw[<-hV2] at hbS hS2;have K2:Aside (But g w V2/\Bl V2 gS 79 [.int .i64 (n:Int),.int .i64 (u:Int),.int .i64 (d:Int),.int .i64 (m:Int),.int .i64 (p:Int),.int .i64 (a:Int),.bool (dN o),.slice b1 (ws (dX o)).length c1,.int .i64 (dE o),.bool (dN dz),.slice x2 (ws (dX dz)).length y2,.int .i64 (dE dz),.float .f64 0,.float .f64 0]/\gS=w.heap.size/\gS≠g/\B<=V2.heap.size/\Nt 0 V2 (.slice b1 (ws (dX o)).length c1) (dX o)):=au ⟨eQ (K1.o.1.trans hb) hbS (by have:=K1.o.r2.1;omega),hS2,K1.o.r2.1,K1.o.r3.1,aV (aV K1.o.r4 hb.size) hbS.size,bZ hN1 hS1 aA hbS⟩;have HRE:Aside (gQ V2 g ao2 (qJ (dN q) (dX q) E2++Kh n a lo hi) c2' false):=au ⟨q1.1.but hbS K1.o.r3.1.symm,q1.2⟩;have C2:=hid (TJ V2 g B ao2 c2' (dN q) (dX q) E2 _ HRE.o (q2.but hbS (aV K1.o.r4 hb.size) (by have:=K1.o.r2.1;have:=HX.o.r3.1;omega)) HX.o.r2.1 K2.o.r4.1 Uj HY.o.2.1 HY.o.r3.1 HY.o.r5.1);rw[<-HE.o.2] at C2;clear hV2 hbS hS2 hS1 q1 q2 hb C1 K1 hN1 z6 f6 z7 f7 z8 f8;go_wp2_with fail;refine C2.o.mono ?_;rintro r v3 ⟨⟨b2,c2,rfl,zI⟩,⟨ao3,c3',q1,q2⟩,hb⟩;have hS1:Bl v3 gS 79 [.int .i64 (n:Int),.int .i64 (u:Int),.int .i64 (d:Int),.int .i64 (m:Int),.int .i64 (p:Int),.int .i64 (a:Int),.bool (dN o),.slice b1 (ws (dX o)).length c1,.int .i64 (dE o),.bool (dN dz),.slice x2 (ws (dX dz)).length y2,.int .i64 (dE dz),.float .f64 0,.float .f64 0]:=K2.o.2.1.but hb K2.o.r3.1;have z9:=hS1.cell 9 _ rfl;have f9:=hS1.frozen 9;have z10:=hS1.cell 10 _ rfl;have f10:=hS1.frozen 10;have z11:=hS1.cell 11 _ rfl;have f11:=hS1.frozen 11;have hbS:=But.set (But.set (But.set (But.refl gS v3) 9 (.bool (dN q))) 10 (.slice b2 (ws (dX q)).length c2)) 11 (.int .i64 (dE q));have hS2:Bl (((v3.setCell ⟨gS,9,none⟩ (.bool (dN q))).setCell ⟨gS,10,none⟩ (.slice b2 (ws (dX q)).length c2)).setCell ⟨gS,11,none⟩ (.int .i64 (dE q))) gS 79 [.int .i64 (n:Int),.int .i64 (u:Int),.int .i64 (d:Int),.int .i64 (m:Int),.int .i64 (p:Int),.int .i64 (a:Int),.bool (dN o),.slice b1 (ws (dX o)).length c1,.int .i64 (dE o),.bool (dN q),.slice b2 (ws (dX q)).length c2,.int .i64 (dE q),.float .f64 0,.float .f64 0]:=(((hS1.set 9 _).set 10 _).set 11 _);obtain⟨V3,G7⟩:=ah ((((v3.setCell ⟨gS,9,none⟩ (.bool (dN q))).setCell ⟨gS,10,none⟩ (.slice b2 (ws (dX q)).length c2)).setCell ⟨gS,11,none⟩ (.int .i64 (dE q))))
 go_upto_region 5 with fail
 rw[<-G7];rw[<-G7] at hbS hS2;have hN1:Nt 0 v3 (.slice b1 (ws (dX o)).length c1) (dX o):=bZ K2.o.r5 HRE.o.1 aA hb;have K3:Aside (But g w V3/\Bl V3 gS 79 [.int .i64 (n:Int),.int .i64 (u:Int),.int .i64 (d:Int),.int .i64 (m:Int),.int .i64 (p:Int),.int .i64 (a:Int),.bool (dN o),.slice b1 (ws (dX o)).length c1,.int .i64 (dE o),.bool (dN q),.slice b2 (ws (dX q)).length c2,.int .i64 (dE q),.float .f64 0,.float .f64 0]/\gS=w.heap.size/\gS≠g/\B<=V3.heap.size/\Nt 0 V3 (.slice b1 (ws (dX o)).length c1) (dX o)/\Nt 0 V3 (.slice b2 (ws (dX q)).length c2) (dX q)/\gQ V3 g ao3 (Kh n a lo hi) c3' false/\dO B V3 ao3 (Kh n a lo hi)):=au ⟨eQ (K2.o.1.trans hb) hbS (by have:=K2.o.r2.1;omega),hS2,K2.o.r2.1,K2.o.r3.1,aV (aV K2.o.r4.1 hb.size) hbS.size,bZ hN1 hS1 aA hbS,bZ zI hS1 aA hbS,⟨q1.1.but hbS K2.o.r3.1.symm,q1.2⟩,q2.but hbS (aV K2.o.r4.1 hb.size) (by have:=K2.o.r2.1;have:=HX.o.r3.1;omega)⟩;clear G7 hbS hS2 hS1 q1 q2 hb C2 K2 hN1 zI HRE z9 f9 z10 f10 z11 f11;have CR:=hid (ll (w:=V3) (g:=gS) (s:=⟨n,u,d,m,p,a⟩) (o:=o) (q:=q) (lo:=0) (hi:=0) ⟨b1,c1,b2,c2,K3.o.2.1,K3.o.r5.1,K3.o.r6.1⟩);simp only at CR;have hgV:g<V3.heap.size:=K3.o.r7.1.1.lt
 by_cases hna:n<a
 · have t0:decide ((n:Int)<a)=true:=by simp;omega
   go_wp2_with fail;refine CR.o.mono ?_;rintro r v4 ⟨rfl,hb⟩
   have K4:Aside (But g w v4/\Bl v4 gS 79 [.int .i64 (n:Int),.int .i64 (u:Int),.int .i64 (d:Int),.int .i64 (m:Int),.int .i64 (p:Int),.int .i64 (a:Int),.bool (dN o),.slice b1 (ws (dX o)).length c1,.int .i64 (dE o),.bool (dN q),.slice b2 (ws (dX q)).length c2,.int .i64 (dE q),.float .f64 0,.float .f64 0]/\gS=w.heap.size/\gS≠g/\B<=v4.heap.size/\Nt 0 v4 (.slice b1 (ws (dX o)).length c1) (dX o)/\Nt 0 v4 (.slice b2 (ws (dX q)).length c2) (dX q)/\gQ v4 g ao3 (aR lo 8++(aR hi 8++[])) c3' false/\dO B v4 ao3 (aR lo 8++(aR hi 8++[]))):=by
    obtain⟨k1,k2,k3,k4,k5,k6,k7,k8,k9⟩:=K3.o;rw[show Kh n a lo hi=aR lo 8++(aR hi 8++[]) by unfold Kh;rw[if_pos hna]] at k8 k9;exact au ⟨k1.of_below hb,k2.below hb k2.lt,k3,k4,aV k5 hb.size,k6.below hb,k7.below hb,⟨k8.1.below hb hgV,k8.2⟩,k9.below (hb.mono k5)⟩
   have C4:=hid (Mv v4 g B ao3 _ c3' lo false K4.o.r7.1 K4.o.r8 (by simp[aN]) HX.o.r2.1 K4.o.r4.1 (yZ (fun b hb=>gM hb) (yZ (fun b hb=>gM hb) aL)) (by rw[rQ (aN lo 8)];exact lC 8 lo HY.o.r6.1));rw[rP (aN lo 8)] at C4;clear hb CR K3 hgV;go_wp2_with fail;refine C4.o.mono ?_;rintro r v5 ⟨rfl,⟨ao4,q1,q2⟩,hb⟩;have hS1:Bl v5 gS 79 [.int .i64 (n:Int),.int .i64 (u:Int),.int .i64 (d:Int),.int .i64 (m:Int),.int .i64 (p:Int),.int .i64 (a:Int),.bool (dN o),.slice b1 (ws (dX o)).length c1,.int .i64 (dE o),.bool (dN q),.slice b2 (ws (dX q)).length c2,.int .i64 (dE q),.float .f64 0,.float .f64 0]:=K4.o.2.1.but hb K4.o.r3.1;have z12:=hS1.cell 12 _ rfl;have f12:=hS1.frozen 12;have hbS:=But.set (But.refl gS v5) 12 (.float .f64 lo);have hS2:Bl (v5.setCell ⟨gS,12,none⟩ (.float .f64 lo)) gS 79 [.int .i64 (n:Int),.int .i64 (u:Int),.int .i64 (d:Int),.int .i64 (m:Int),.int .i64 (p:Int),.int .i64 (a:Int),.bool (dN o),.slice b1 (ws (dX o)).length c1,.int .i64 (dE o),.bool (dN q),.slice b2 (ws (dX q)).length c2,.int .i64 (dE q),.float .f64 lo,.float .f64 0]:=(hS1.set 12 _);obtain⟨V5,YT⟩:=ah ((v5.setCell ⟨gS,12,none⟩ (.float .f64 lo)))
   go_upto_region 7 with fail
   rw[<-YT];rw[<-YT] at hbS hS2;have hN1:Nt 0 v5 (.slice b1 (ws (dX o)).length c1) (dX o):=bZ K4.o.r5.1 K4.o.r7.1.1 aA hb;have zI:Nt 0 v5 (.slice b2 (ws (dX q)).length c2) (dX q):=bZ K4.o.r6.1 K4.o.r7.1.1 aA hb;have K5:Aside (But g w V5/\Bl V5 gS 79 [.int .i64 (n:Int),.int .i64 (u:Int),.int .i64 (d:Int),.int .i64 (m:Int),.int .i64 (p:Int),.int .i64 (a:Int),.bool (dN o),.slice b1 (ws (dX o)).length c1,.int .i64 (dE o),.bool (dN q),.slice b2 (ws (dX q)).length c2,.int .i64 (dE q),.float .f64 lo,.float .f64 0]/\gS=w.heap.size/\gS≠g/\B<=V5.heap.size/\Nt 0 V5 (.slice b1 (ws (dX o)).length c1) (dX o)/\Nt 0 V5 (.slice b2 (ws (dX q)).length c2) (dX q)/\gQ V5 g ao4 (aR hi 8++[]) (c3'-8) false/\dO B V5 ao4 (aR hi 8++[])):=au ⟨eQ (K4.o.1.trans hb) hbS (by have:=K4.o.r2.1;omega),hS2,K4.o.r2.1,K4.o.r3.1,aV (aV K4.o.r4.1 hb.size) hbS.size,bZ hN1 hS1 aA hbS,bZ zI hS1 aA hbS,⟨q1.1.but hbS K4.o.r3.1.symm,q1.2⟩,q2.but hbS (aV K4.o.r4.1 hb.size) (by have:=K4.o.r2.1;have:=HX.o.r3.1;omega)⟩;have C5:=hid (Mv V5 g B ao4 _ (c3'-8) hi false K5.o.r7.1 K5.o.r8 (by simp[aN]) HX.o.r2.1 K5.o.r4.1 (yZ (fun b hb=>gM hb) aL) (by rw[rQ (aN hi 8)];exact lC 8 hi HY.o.r7.1));rw[rP (aN hi 8)] at C5;clear YT hbS hS2 hS1 q1 q2 hb C4 K4 hN1 zI z12 f12;go_wp2_with fail;refine C5.o.mono ?_;rintro r v6 ⟨rfl,⟨ao5,q1,q2⟩,hb⟩;have hS1:Bl v6 gS 79 [.int .i64 (n:Int),.int .i64 (u:Int),.int .i64 (d:Int),.int .i64 (m:Int),.int .i64 (p:Int),.int .i64 (a:Int),.bool (dN o),.slice b1 (ws (dX o)).length c1,.int .i64 (dE o),.bool (dN q),.slice b2 (ws (dX q)).length c2,.int .i64 (dE q),.float .f64 lo,.float .f64 0]:=K5.o.2.1.but hb K5.o.r3.1;have z13:=hS1.cell 13 _ rfl;have f13:=hS1.frozen 13;have hbS:=But.set (But.refl gS v6) 13 (.float .f64 hi);have hN1:Nt 0 v6 (.slice b1 (ws (dX o)).length c1) (dX o):=bZ K5.o.r5.1 K5.o.r7.1.1 aA hb;have zI:Nt 0 v6 (.slice b2 (ws (dX q)).length c2) (dX q):=bZ K5.o.r6.1 K5.o.r7.1.1 aA hb;have KF:Aside (((∃ gS',gS=gS'/\w.heap.size<=gS'/\fe (v6.setCell ⟨gS,13,none⟩ (.float .f64 hi)) gS' ⟨n,u,d,m,p,a⟩ o q lo hi)/\(∃ jq c',gQ (v6.setCell ⟨gS,13,none⟩ (.float .f64 hi)) g jq [] c' false))/\But g w (v6.setCell ⟨gS,13,none⟩ (.float .f64 hi))):=au ⟨⟨⟨gS,rfl,by have:=K5.o.r2.1;omega,⟨b1,c1,b2,c2,(hS1.set 13 _),bZ hN1 hS1 aA hbS,bZ zI hS1 aA hbS⟩⟩,⟨ao5,_,⟨q1.1.but hbS K5.o.r3.1.symm,q1.2⟩⟩⟩,eQ (K5.o.1.trans hb) hbS (by have:=K5.o.r2.1;omega)⟩;clear hbS hS1 q1 q2 hb C5 K5 hN1 zI;go_wp2;refine aJ (v:=.pointer (some ⟨gS,0,none⟩)) (by simp[results,Tryz.results49,go_sem]) rfl ?_;obtain⟨⟨⟨g',rfl,k1,k2⟩,k3⟩,k4⟩:=KF.o;exact⟨⟨_,rfl,k1,k2⟩,k3,k4⟩
 · have t0:decide ((n:Int)<a)=false:=by simp;omega
   obtain⟨rfl,rfl⟩:lo=0/\hi=0:=by rcases HY.o.r8 with h|h;exact absurd h hna;exact h
   go_wp2_with fail;refine CR.o.mono ?_;rintro r v4 ⟨rfl,hb⟩
   have KF:Aside ((w.heap.size<=gS/\fe v4 gS ⟨n,u,d,m,p,a⟩ o q 0 0)/\(∃ jq c',gQ v4 g jq [] c' false)/\But g w v4):=by
    obtain⟨k1,k2,k3,k4,k5,k6,k7,k8,k9⟩:=K3.o;rw[show Kh n a 0 0=[] by unfold Kh;rw[if_neg hna]] at k8 k9;exact au ⟨⟨af,⟨b1,c1,b2,c2,k2.below hb k2.lt,k6.below hb,k7.below hb⟩⟩,⟨ao3,c3',⟨k8.1.below hb hgV,k8.2⟩⟩,k1.of_below hb⟩
   clear hb CR K3 hgV;go_wp2;refine aJ (v:=.pointer (some ⟨gS,0,none⟩)) (by simp[results,Tryz.results49,go_sem]) rfl ?_;exact⟨⟨_,rfl,KF.o.1.1,KF.o.1.2⟩,KF.o.2.1,KF.o.r2⟩
end
section
open Go Go.RowKit J
abbrev R0(w:World)(g:Nat)(am:Bool):Prop:=Bl w g 91 [.slice none 0 0,.bool am]
theorem cutE21(w:World)(g n:Nat)(am:Bool)(h:R0 w g am)(hn:0<n) :
 Calls Tryz.prog 178 #[.pointer (some ⟨g,0,none⟩),.int .i64 (n:Nat)] w fun r w'=>r=.returned (.slice none 0 0)/\R0 w' g true/\But g w w':=by
 have HX:=au h;have c0:=h.cell 0 _ rfl;have c1:=h.cell 1 _ rfl;have f1:=h.frozen 1;have d1:decide ((0:Int)<n)=true:=by simp;omega
 clear h;go_enter Tryz.func178,Tryz.ntmps178;go_wp2;refine aJ (v:=.slice none 0 0) (by simp[results,Tryz.results178,go_sem]) rfl ?_;exact⟨rfl,HX.o.set 1 _,(But.refl g w).set 1 _⟩
theorem BI(w:World)(g n:Nat)(am:Bool)(h:R0 w g am)(hn:0<n) :
 Calls Tryz.prog 176 #[.pointer (some ⟨g,0,none⟩),.int .i64 (n:Nat)] w fun r w'=>r=.returned (.int .u64 0)/\R0 w' g true/\But g w w':=by
 have HC:=hid (cutE21 w g n am h hn);clear h hn;go_enter Tryz.func176,Tryz.ntmps176;go_wp2_with fail;refine HC.o.mono ?_;rintro r v ⟨rfl,h1,hb⟩;have HV:=(aT h1 hb);clear h1 hb HC;go_wp2
 go_loopg [5,12] 1 (fun gk sv iv wr=>sv=.int .u64 0/\iv=.int .i64 0/\wr=v)
 case atStart=>exact⟨rfl,rfl,rfl⟩
 case round =>
  obtain⟨rfl,rfl,hw⟩:=hrel;rw[hw];go_wp2;go_ret;exact⟨rfl,HV.o.1,HV.o.2⟩
theorem MQ(w:World)(g n most:Nat)(am:Bool)(h:R0 w g am)(hn:0<n) :
 Calls Tryz.prog 175 #[.pointer (some ⟨g,0,none⟩),.int .u64 (most:Nat),.int .i64 (n:Nat)] w fun r w'=>r=.returned (.int .i64 0)/\R0 w' g true/\But g w w':=by
 have HC:=hid (BI w g n am h hn);have d1:decide ((most:Int)<0)=false:=by simp
 clear h hn;go_enter Tryz.func175,Tryz.ntmps175;go_wp2_with fail;refine HC.o.mono ?_;rintro r v ⟨rfl,h1,hb⟩;have HV:=(aT h1 hb);clear h1 hb HC;go_wp2;go_ret;exact⟨rfl,HV.o.1,HV.o.2⟩
theorem PW(w:World)(a:Option Addr)(c:Nat):Calls Tryz.prog 179 #[.agg #[.bool false,.slice a 0 c,.int .i64 (-4096)]] w fun r w'=>r=.returned (.bool false)/\Below w.heap.size w w':=by
 obtain⟨W,hW⟩:=ah (w.alloc (Obj.cells #[.bool false,.slice a 0 c,.int .i64 (-4096)] 77));have hb0:Below w.heap.size w W:=by rw[hW];exact ak _ _
 have hBl:Bl W w.heap.size 77 [.bool false,.slice a 0 c,.int .i64 (-4096)]:=by rw[hW];exact Bl.new _ _ [_,_,_]
 have c0:=hBl.cell 0 _ rfl;have c1:=hBl.cell 1 _ rfl;have c2:=hBl.cell 2 _ rfl;have HW:=au hW;have HB:=au hb0;clear hW hb0 hBl;exact xi
theorem Xz(w:World)(g:Nat)(am:Bool)(h:R0 w g am):Calls Tryz.prog 178 #[.pointer (some ⟨g,0,none⟩),.int .i64 0] w fun r w'=>r=.returned (.slice none 0 0)/\R0 w' g am/\But g w w':=by
 refine(Mw w g none [] 0 am ⟨h,aB _⟩).mono ?_;rintro r w' ⟨rfl,h1,h2⟩;exact⟨rfl,h1.1,h2⟩
theorem natE21(w:World):Calls Tryz.prog 177 #[.slice none 0 0] w fun r w'=>r=.returned (.slice (some ⟨w.heap.size,0,none⟩) 0 0)/\Below w.heap.size w w':=by
 refine(YM w 0 none [] 0 0 (fun h=>absurd rfl h) (jd _) rfl (aB _) aA aL).mono ?_;rintro r w' ⟨rfl,_,hb⟩;exact⟨rfl,hb⟩
theorem MR(w:World)(g:Nat)(am:Bool)(h:R0 w g am) :
 Calls Tryz.prog 103 #[.pointer (some ⟨g,0,none⟩)] w fun r w'=>(∃ a,r=.returned (.agg #[.bool false,.slice a 0 0,.int .i64 (-4096)]))/\R0 w' g true/\But g w w':=by
 have hgl:g<w.heap.size:=h.lt;obtain⟨W,hW⟩:=ah (w.alloc (Obj.cells #[.bool false,.slice none 0 0,.int .i64 0] 77));have hb0:Below w.heap.size w W:=by rw[hW];exact ak _ _
 have hZ:Bl W w.heap.size 77 [.bool false,.slice none 0 0,.int .i64 0]:=by rw[hW];exact Bl.new _ _ [_,_,_]
 have C1:=hid (show Calls Tryz.prog 175 #[.pointer (some ⟨g,0,none⟩),.int .u64 1,.int .i64 1] W _ from MQ W g 1 1 am (h.below hb0 hgl) aA);have C2:=hid (fun(u:World) (hu:R0 u g true)=>show Calls Tryz.prog 176 #[.pointer (some ⟨g,0,none⟩),.int .i64 2] u _ from BI u g 2 true hu aA);have C4:=hid (fun(u:World) (hu:R0 u g true)=>Xz u g true hu);have C5:=hid (fun(u:World)=>natE21 u);have HW:=au hW;have H0:=(bM hb0 hZ hgl);clear h hW hb0 hZ hgl;go_enter Tryz.func103,Tryz.ntmps103
 go_upto_region 1 with fail
 rw[<-HW.o];clear HW;go_wp2_with fail;refine C1.o.mono ?_;rintro r v1 ⟨rfl,q1,hb⟩;have D2:=hid (C2.o _ q1);have K1:=au hb;clear q1 hb C1;go_wp2_with fail;refine D2.o.mono ?_;rintro r v2 ⟨rfl,q1,hb⟩;have D3:=hid (C2.o _ q1);have K2:=au (K1.o.trans hb);clear q1 hb D2 K1 C2;go_wp2_with fail;refine D3.o.mono ?_;rintro r v3 ⟨rfl,q1,hb⟩;have D4:=hid (C4.o _ q1);have K3:=au (K2.o.trans hb);clear q1 hb D3 K2 C4;go_wp2_with fail;refine D4.o.mono ?_;rintro r v4 ⟨rfl,q1,hb⟩;have D5:=hid (C5.o v4);have K4:=aT (K3.o.trans hb) q1;clear q1 hb D4 K3 C5;go_wp2_with fail;refine D5.o.mono ?_;rintro r v5 ⟨rfl,hb⟩;have K5:Aside (But g W v5/\R0 v5 g true):=au ⟨K4.o.1.of_below hb,K4.o.2.below hb K4.o.2.lt⟩;clear hb D5
 go_upto_region 5 with fail
 obtain⟨V,hV⟩:=ah (v5.alloc (Obj.cells #[.bool false,.slice (some ⟨v4.heap.size,0,none⟩) 0 0,.int .i64 (-4096)] 77));rw[<-hV];obtain⟨gd,hgd⟩:=ah (v5.heap.size);have zT:Below v5.heap.size v5 V:=by rw[hV];exact ak _ _
 have hBd:Bl V gd 77 [.bool false,.slice (some ⟨v4.heap.size,0,none⟩) 0 0,.int .i64 (-4096)]:=by rw[hV,hgd];exact Bl.new _ _ [_,_,_]
 have hg5:g<v5.heap.size:=K5.o.2.lt;have Ji:w.heap.size<v5.heap.size:=by have:=K5.o.1.size;have:=H0.o.2.1.lt;omega
 have K6:Aside (But g W V/\R0 V g true/\Bl V gd 77 [.bool false,.slice (some ⟨v4.heap.size,0,none⟩) 0 0,.int .i64 (-4096)]/\w.heap.size≠gd/\w.heap.size≠g/\g≠gd):=au ⟨K5.o.1.of_below zT,K5.o.2.below zT hg5,hBd,af,by have:=H0.o.r2;omega,af⟩;rw[<-hgd];have d0:=hBd.cell 0 _ rfl;have d1:=hBd.cell 1 _ rfl;have d2:=hBd.cell 2 _ rfl;have CF:=hid (PW V (some ⟨v4.heap.size,0,none⟩) 0);clear hV zT hBd hg5 Ji K5 hgd K4;go_wp2_with fail;refine CF.o.mono ?_;rintro r v7 ⟨rfl,hb⟩;obtain⟨s,hs⟩:=ah (v7.setCell ⟨g,1,none⟩ (.bool true));obtain⟨m1,m2,m3,m4,m5,m6⟩:=K6.o;have hR7:R0 v7 g true:=m2.below hb m2.lt;have hbs:But g v7 s:=by rw[hs];exact(But.refl g v7).set 1 _
 have hR8:R0 s g true:=by rw[hs];exact hR7.set 1 _
 have hBd7:Bl v7 gd 77 [.bool false,.slice (some ⟨v4.heap.size,0,none⟩) 0 0,.int .i64 (-4096)]:=m3.below hb m3.lt;have hBz7:Bl v7 w.heap.size 77 [.bool false,.slice none 0 0,.int .i64 0]:=(H0.o.2.1.but m1 m5).below hb (by have:=m1.size;have:=H0.o.2.1.lt;omega);have hBd:Bl s gd 77 [.bool false,.slice (some ⟨v4.heap.size,0,none⟩) 0 0,.int .i64 (-4096)]:=hBd7.but hbs m6.symm;have vQ:Bl s w.heap.size 77 [.bool false,.slice none 0 0,.int .i64 0]:=hBz7.but hbs m5;have aF:But w.heap.size s (((s.setCell ⟨w.heap.size,0,none⟩ (.bool false)).setCell ⟨w.heap.size,1,none⟩ (.slice (some ⟨v4.heap.size,0,none⟩) 0 0)).setCell ⟨w.heap.size,2,none⟩ (.int .i64 (-4096))):=(((But.refl _ s).set 0 _).set 1 _).set 2 _;have K7:Aside (But g W s/\R0 s g true/\Bl s w.heap.size 77 [.bool false,.slice none 0 0,.int .i64 0]/\But w.heap.size s (((s.setCell ⟨w.heap.size,0,none⟩ (.bool false)).setCell ⟨w.heap.size,1,none⟩ (.slice (some ⟨v4.heap.size,0,none⟩) 0 0)).setCell ⟨w.heap.size,2,none⟩ (.int .i64 (-4096)))/\w.heap.size≠g):=au ⟨(m1.of_below hb).trans hbs,hR8,vQ,aF,m5⟩;have r1:=hR7.cell 1 _ rfl;have rf:=hR7.frozen 1;have e0:=hBd.cell 0 _ rfl;have e1:=hBd.cell 1 _ rfl;have e2:=hBd.cell 2 _ rfl;have z0:=vQ.cell 0 _ rfl;have z1:=vQ.cell 1 _ rfl;have z2:=vQ.cell 2 _ rfl;have f0:=vQ.frozen 0;have f1:=vQ.frozen 1;have f2:=vQ.frozen 2;have ne:=m4;have ne':=ne.symm;clear m1 m2 m3 m4 m5 m6 hR7 hbs hR8 hBd7 hBz7 hBd vQ aF hb CF d0 d1 d2 K6
 go_upto_region 7 with fail
 rw[<-hs];clear hs;go_wp2;refine aJ (v:=.agg #[.bool false,.slice (some ⟨v4.heap.size,0,none⟩) 0 0,.int .i64 (-4096)]) (sJ Tryz.results103 _ _ w.heap.size false _ _ aL (((K7.o.r2.1.set 0 _).set 1 _).set 2 _)) rfl ?_;obtain⟨k1,k2,k5,k6,k8⟩:=K7.o;refine⟨⟨_,rfl⟩,k2.but k6 k8.symm,?_⟩;have h1:But g w s:=((But.refl g w).of_below H0.o.1).trans k1;exact⟨k6.os.trans h1.os,k6.tape.trans h1.tape,k6.output.trans h1.output,aV h1.size k6.size,fun b hb hne=>(k6.block b (gG hb h1.size) (kz hb)).trans (h1.block b hb hne)⟩
abbrev z21:List Value:=[.int .i64 0,.int .i64 0,.int .i64 0,.int .i64 0,.int .i64 0,.int .i64 0]
theorem XA(k:Nat)(hk:k<6):z21.set k (.int .i64 0)=z21:=by
 have:k=0\/k=1\/k=2\/k=3\/k=4\/k=5:=af
 rcases this with rfl|rfl|rfl|rfl|rfl|rfl <;> rfl
theorem Ha(w:World)(g:Nat)(am:Bool)(h:R0 w g am) :
 Calls Tryz.prog 102 #[.pointer (some ⟨g,0,none⟩)] w fun r w'=>r=.returned (.agg #[.int .i64 0,.int .i64 0,.int .i64 0,.int .i64 0,.int .i64 0,.int .i64 0])/\(∃ PX,R0 w' g PX)/\But g w w':=by
 have hgl:g<w.heap.size:=h.lt;obtain⟨W,hW⟩:=ah ((w.alloc (Obj.cells #[.int .i64 0,.int .i64 0,.int .i64 0,.int .i64 0,.int .i64 0,.int .i64 0] 73)).alloc (Obj.cells #[.int .i64 0,.int .i64 0,.int .i64 0,.int .i64 0,.int .i64 0,.int .i64 0] 80));obtain⟨gs,hgs⟩:=ah (w.heap.size);obtain⟨ga,hga⟩:=ah (w.heap.size+1);have hb0:Below w.heap.size w W:=by rw[hW];exact(ak _ _).trans ((ak _ _).mono aL)
 have hS:Bl W gs 73 z21:=by rw[hW,hgs];exact(Bl.new w _ [_,_,_,_,_,_]).alloc _
 have hA:Bl W ga 80 z21:=by
  rw[hW,hga];exact Bl.new' (w.alloc _) _ _ [_,_,_,_,_,_] aL
 have H0:Aside (But g w W/\Bl W ga 80 z21/\Bl W gs 73 z21/\∃ PX,R0 W g PX):=au ⟨(But.refl g w).of_below hb0,hA,hS,am,h.below hb0 hgl⟩;have HG:Aside (gs=w.heap.size/\ga=w.heap.size+1/\gs≠ga/\gs≠g/\ga≠g):=au ⟨hgs,hga,af,af,af⟩;have HW:=(bM hW hgs hga);clear h hb0 hS hA hgl hW hgs hga;go_enter Tryz.func102,Tryz.ntmps102
 go_upto_region 2 with fail
 rw[<-HW.o.1,<-HW.o.r2,<-HW.o.2.1];clear HW;go_wp2
 go_loopg [5] 6 (fun gk iv wr=>∃ k:Nat,gk+k=6/\iv=.int .i64 (k:Nat)/\Aside (But g w wr/\Bl wr ga 80 z21/\Bl wr gs 73 z21/\∃ PX,R0 wr g PX))
 case atStart=>exact⟨0,af,aL,H0.o⟩
 case round =>
  obtain⟨k,iL,rfl,HA⟩:=hrel
  by_cases hk:k<6
  · have hd:decide ((k:Int)<6)=true:=by simp;omega
    have hk2:¬ (6<=k):=af
    obtain⟨PX,q1⟩:=HA.o.r3;have HC:=hid (show Calls Tryz.prog 175 #[.pointer (some ⟨g,0,none⟩),.int .u64 1099511627776,.int .i64 8] wr _ from MQ wr g 8 1099511627776 PX q1 aA);clear q1;go_wp2_with fail;refine HC.o.mono ?_;rintro r v ⟨rfl,q1,hb⟩;have hgA:=HG.o;have hA2:Bl v ga 80 z21:=HA.o.2.1.but hb hgA.2.2.2.2;have hS2:Bl v gs 73 z21:=HA.o.r2.1.but hb hgA.2.2.2.1;have hbs:But ga v (v.setCell ⟨ga,k,none⟩ (.int .i64 0)):=(But.refl ga v).set k _;have hA3:=hA2.set k (.int .i64 0);rw[XA k hk] at hA3;have HV:Aside (But g w (v.setCell ⟨ga,k,none⟩ (.int .i64 0))/\Bl (v.setCell ⟨ga,k,none⟩ (.int .i64 0)) ga 80 z21/\Bl (v.setCell ⟨ga,k,none⟩ (.int .i64 0)) gs 73 z21/\∃ PX,R0 (v.setCell ⟨ga,k,none⟩ (.int .i64 0)) g PX):=au ⟨eQ (HA.o.1.trans hb) hbs af,hA3,hS2.but hbs hgA.2.2.1,true,q1.but hbs hgA.2.2.2.2.symm⟩;have f0:=hA2.frozen k;obtain⟨c0,z0⟩:∃ c0,v.cell? ⟨ga,k,none⟩=some c0:=⟨_,hA2.cell k (z21[k]'(by simp;omega)) (aY _)⟩;clear q1 hb hA2 hS2 hbs hA3 HC hgA;exact Qaf
  · obtain rfl:k=6:=af
    have hd:decide (((6:Nat):Int)<6)=false:=aA
    have IL:=HA.o.2.1;have sZ:=HA.o.r2.1;have a0:=IL.cell 0 _ rfl;have a1:=IL.cell 1 _ rfl;have a2:=IL.cell 2 _ rfl;have a3:=IL.cell 3 _ rfl;have a4:=IL.cell 4 _ rfl;have a5:=IL.cell 5 _ rfl;have s0:=sZ.cell 0 _ rfl;have s1:=sZ.cell 1 _ rfl;have s2:=sZ.cell 2 _ rfl;have s3:=sZ.cell 3 _ rfl;have s4:=sZ.cell 4 _ rfl;have s5:=sZ.cell 5 _ rfl;have f0:=sZ.frozen 0;have f1:=sZ.frozen 1;have f2:=sZ.frozen 2;have f3:=sZ.frozen 3;have f4:=sZ.frozen 4;have f5:=sZ.frozen 5;have HV:Aside (But g w wr/\Bl wr gs 73 z21/\∃ PX,R0 wr g PX):=au ⟨HA.o.1,sZ,HA.o.r3⟩;have ne:=HG.o.r2.1;have ne':=ne.symm;clear iL hk HA IL sZ;go_wp2;refine aJ (v:=.agg #[.int .i64 0,.int .i64 0,.int .i64 0,.int .i64 0,.int .i64 0,.int .i64 0]) (jK Tryz.results102 _ _ gs z21 aL ((((((HV.o.2.1.set 0 _).set 1 _).set 2 _).set 3 _).set 4 _).set 5 _) Tryz.yL gD) rfl ?_;have hbs:=But.set (But.set (But.set (But.set (But.set (But.set (But.refl gs wr) 0 (.int .i64 0)) 1 (.int .i64 0)) 2 (.int .i64 0)) 3 (.int .i64 0)) 4 (.int .i64 0)) 5 (.int .i64 0);obtain⟨h1,h2,PX,q1⟩:=HV.o;exact⟨rfl,⟨PX,q1.but hbs HG.o.r3.1.symm⟩,eQ h1 hbs (by have:=HG.o;omega)⟩
def gN(s:Sp)(mode a b:Int):Int:=if mode<0\/4<mode\/may a b=false then 1 else if 0<s.n/\a=2 then 60 else if 0<s.u+s.d/\b=2 then 61 else 0
def rA(s:Sp)(a b:Int):Nat×Bool:=vd (snd s.n s.u s.d s.m s.p s.a&&may a b) s.n s.u s.d a b
theorem Qab{P:Prop}(h:P:=by
 go_upto_region 1 with fail
 rw[<-HW.o];go_wp2;refine aJ (v:=.tuple #[.float .f64 0,.bool false,.int .i64 1]) (by simp[results,Tryz.results51,go_sem]) rfl ?_;exact⟨rfl,E0.o⟩):P:=h
theorem Em{w:World}{g:Nat}{s:Sp}{o q:Option (Bool×Nat×Int)}{lo hi:Nat}(h:fe w g s o q lo hi)(hs:s.sm)(mode a b:Int) :
 Calls Tryz.prog 51 #[.pointer (some ⟨g,0,none⟩),.int .i64 mode,.agg #[.int .i64 a,.int .i64 b]] w fun r w'=>r=.returned (.tuple #[.float .f64 (if gN s mode a b=0 then(rA s a b).1 else 0),.bool (if gN s mode a b=0 then(rA s a b).2 else false),.int .i64 (gN s mode a b)])/\Below w.heap.size w w':=by
 have HC:Aside (∀ u:World,Below w.heap.size w u->(u.cell? ⟨g,0,none⟩=some (.int .i64 s.n)/\u.cell? ⟨g,1,none⟩=some (.int .i64 s.u)/\u.cell? ⟨g,2,none⟩=some (.int .i64 s.d)/\u.cell? ⟨g,3,none⟩=some (.int .i64 s.m)/\u.cell? ⟨g,4,none⟩=some (.int .i64 s.p)/\u.cell? ⟨g,5,none⟩=some (.int .i64 s.a))):=by
  refine au fun u hu=>?_;obtain⟨a1,c1,a2,c2,k,_⟩:=h.aD hu;exact⟨k.cell 0 _ rfl,k.cell 1 _ rfl,k.cell 2 _ rfl,k.cell 3 _ rfl,k.cell 4 _ rfl,k.cell 5 _ rfl⟩
 obtain⟨z,hz⟩:=ah (gN s mode a b);rw[<-hz];unfold gN at hz;have HV:=hid (fun u:World=>lT s.n s.u s.d s.m s.p s.a a b u);obtain⟨⟨vx,vc⟩,hv⟩:∃ v,v=rA s a b:=⟨_,rfl⟩;rw[<-hv];unfold rA at hv;rw[<-hv] at HV;simp only at HV |-;have wud:=GH (x:=s.u) (y:=s.d) (by have:=hs.n0;have:=hs.u0;have:=hs.d0;have:=hs.m0;have:=hs.p0;have:=hs.al;have:=hs.le;omega) (by have:=hs.n0;have:=hs.u0;have:=hs.d0;have:=hs.m0;have:=hs.p0;have:=hs.al;have:=hs.le;omega);obtain⟨n,u,d,m,p,l⟩:=s;simp only at HC hz HV wud;have HM:=hid (fun u:World=>jR a b u);obtain⟨W,hW⟩:=ah (w.alloc (Obj.cells #[.int .i64 a,.int .i64 b] 34));have E0:Aside (Below w.heap.size w W):=by rw[hW];exact ak _ _
 have HP:Aside (Bl W w.heap.size 34 [.int .i64 a,.int .i64 b]):=by rw[hW];exact Bl.new _ _ [_,_]
 have HW:=au hW;clear hW h hs hv
 by_cases hm0:mode<0
 · have b0:decide (mode<0)=true:=decide_eq_true hm0;rw[if_pos (.inl hm0)] at hz;subst hz;rw[if_neg aA,if_neg aA];clear HM HV wud;go_enter Tryz.func51,Tryz.ntmps51
   exact Qab
 · have b0:decide (mode<0)=false:=decide_eq_false hm0
   by_cases OX:4<mode
   · have b1:decide (4<mode)=true:=decide_eq_true OX;rw[if_pos (.inr (.inl OX))] at hz;subst hz;rw[if_neg aA,if_neg aA];clear HM HV wud;go_enter Tryz.func51,Tryz.ntmps51
     exact Qab
   · have b1:decide (4<mode)=false:=decide_eq_false OX;have p0:=HP.o.cell 0 _ rfl;have p1:=HP.o.cell 1 _ rfl
     cases hab:may a b with
     | false =>
       rw[if_pos (.inr (.inr hab))] at hz;subst hz;rw[if_neg aA,if_neg aA];rw[hab] at HM;clear HV wud;go_enter Tryz.func51,Tryz.ntmps51
       go_upto_region 1 with fail
       rw[<-HW.o];go_wp2_with fail;refine(HM.o _).mono ?_;rintro r w1 ⟨rfl,hb1⟩;have E1:=au (E0.o.trans (hb1.mono E0.o.size));obtain⟨x0,x1,x2,x3,x4,x5⟩:=HC.o w1 (E0.o.trans (hb1.mono E0.o.size));have p0:=(HP.o.below hb1 HP.o.lt).cell 0 _ rfl;have p1:=(HP.o.below hb1 HP.o.lt).cell 1 _ rfl;have HP1:=au (HP.o.below hb1 HP.o.lt);clear hb1 HM;go_wp2;refine aJ (v:=.tuple #[.float .f64 0,.bool false,.int .i64 1]) (by simp[results,Tryz.results51,go_sem]) rfl ?_;exact⟨rfl,E1.o⟩
     | true =>
       rw[if_neg (by rw[hab];simp;omega)] at hz;rw[hab] at HM;clear hab
       by_cases q1:0<n/\a=2
       · rw[if_pos q1] at hz;subst hz;rw[if_neg aA,if_neg aA];have t1:decide (0<n)=true:=decide_eq_true q1.1;have t2:(a==2)=true:=by simpa using q1.2
         clear q1 HV;go_enter Tryz.func51,Tryz.ntmps51
         go_upto_region 1 with fail
         rw[<-HW.o];go_wp2_with fail;refine(HM.o _).mono ?_;rintro r w1 ⟨rfl,hb1⟩;have E1:=au (E0.o.trans (hb1.mono E0.o.size));obtain⟨x0,x1,x2,x3,x4,x5⟩:=HC.o w1 (E0.o.trans (hb1.mono E0.o.size));have p0:=(HP.o.below hb1 HP.o.lt).cell 0 _ rfl;have p1:=(HP.o.below hb1 HP.o.lt).cell 1 _ rfl;have HP1:=au (HP.o.below hb1 HP.o.lt);clear hb1 HM;go_wp2;refine aJ (v:=.tuple #[.float .f64 0,.bool false,.int .i64 60]) (by simp[results,Tryz.results51,go_sem]) rfl ?_;exact⟨rfl,E1.o⟩
       · rw[if_neg q1] at hz
         by_cases q2:0<u+d/\b=2
         · rw[if_pos q2] at hz;subst hz;rw[if_neg aA,if_neg aA];have t1:decide (0<u+d)=true:=decide_eq_true q2.1;have t2:(b==2)=true:=by simpa using q2.2
           have k1:decide (0<n)=true->(a==2)=false:=fun h=>by simpa using fun e=>q1 ⟨of_decide_eq_true h,e⟩
           obtain⟨t3,ht3⟩:∃ t,decide (0<n)=t:=⟨_,rfl⟩;rw[ht3] at k1;clear q1 q2 HV
           cases t3 <;> (
            first | have a2:=k1 rfl | skip
            clear k1;go_enter Tryz.func51,Tryz.ntmps51
            go_upto_region 1 with fail
            rw[<-HW.o];go_wp2_with fail;refine(HM.o _).mono ?_;rintro r w1 ⟨rfl,hb1⟩;have E1:=au (E0.o.trans (hb1.mono E0.o.size));obtain⟨x0,x1,x2,x3,x4,x5⟩:=HC.o w1 (E0.o.trans (hb1.mono E0.o.size));have p0:=(HP.o.below hb1 HP.o.lt).cell 0 _ rfl;have p1:=(HP.o.below hb1 HP.o.lt).cell 1 _ rfl;have HP1:=au (HP.o.below hb1 HP.o.lt);clear hb1 HM;go_wp2_with fail
            go_quiet (fail)
            go_wp2;refine aJ (v:=.tuple #[.float .f64 0,.bool false,.int .i64 61]) (by simp[results,Tryz.results51,go_sem]) rfl ?_
            exact⟨rfl,ib E1.o _⟩)
         · rw[if_neg q2] at hz;subst hz;rw[if_pos rfl,if_pos rfl];have k1:decide (0<n)=true->(a==2)=false:=fun h=>by simpa using fun e=>q1 ⟨of_decide_eq_true h,e⟩
           have k2:decide (0<u+d)=true->(b==2)=false:=fun h=>by simpa using fun e=>q2 ⟨of_decide_eq_true h,e⟩
           obtain⟨t1,ht1⟩:∃ t,decide (0<n)=t:=⟨_,rfl⟩;obtain⟨t2,ht2⟩:∃ t,decide (0<u+d)=t:=⟨_,rfl⟩;rw[ht1] at k1;rw[ht2] at k2;clear q1 q2
           cases t1 <;> cases t2 <;> (
            first | have a2:=k1 rfl | skip
            first | have b2:=k2 rfl | skip
            clear k1 k2;go_enter Tryz.func51,Tryz.ntmps51
            go_upto_region 1 with fail
            rw[<-HW.o];go_wp2_with fail;refine(HM.o _).mono ?_;rintro r w1 ⟨rfl,hb1⟩;have E1:=au (E0.o.trans (hb1.mono E0.o.size));obtain⟨x0,x1,x2,x3,x4,x5⟩:=HC.o w1 (E0.o.trans (hb1.mono E0.o.size));have p0:=(HP.o.below hb1 HP.o.lt).cell 0 _ rfl;have p1:=(HP.o.below hb1 HP.o.lt).cell 1 _ rfl;have HP1:=au (HP.o.below hb1 HP.o.lt);clear hb1 HM;go_wp2_with fail
            go_quiet (fail)
            obtain⟨u3,hu3⟩:=ah (w1.drewN nq);have E2:Aside (Below w.heap.size w u3):=by rw[hu3];exact ib E1.o _
            have HP2:Aside (Bl u3 w.heap.size 34 [.int .i64 a,.int .i64 b]):=by rw[hu3];exact HP1.o
            rw[<-hu3];clear hu3 x0 x1 x2 x3 x4 x5 p0 p1 E1 HP1 E0 HP;have hbd:Below w.heap.size w u3.drew:=E2.o.drew
            have kS:Aside (u3.drew.cell? ⟨g,0,none⟩=some (.int .i64 n)/\u3.drew.cell? ⟨g,1,none⟩=some (.int .i64 u)/\u3.drew.cell? ⟨g,2,none⟩=some (.int .i64 d)/\u3.drew.cell? ⟨g,3,none⟩=some (.int .i64 m)/\u3.drew.cell? ⟨g,4,none⟩=some (.int .i64 p)/\u3.drew.cell? ⟨g,5,none⟩=some (.int .i64 l)/\u3.drew.cell? ⟨w.heap.size,0,none⟩=some (.int .i64 a)/\u3.drew.cell? ⟨w.heap.size,1,none⟩=some (.int .i64 b)):=by
             obtain⟨x0,x1,x2,x3,x4,x5⟩:=HC.o _ hbd;exact⟨x0,x1,x2,x3,x4,x5,HP2.o.drew.cell 0 _ rfl,HP2.o.drew.cell 1 _ rfl⟩
            go_upto_region 7 with fail
            go_region_held3 (fun w'=>w'.cell? ⟨g,0,none⟩=some (.int .i64 n)/\w'.cell? ⟨g,1,none⟩=some (.int .i64 u)/\w'.cell? ⟨g,2,none⟩=some (.int .i64 d)/\w'.cell? ⟨g,3,none⟩=some (.int .i64 m)/\w'.cell? ⟨g,4,none⟩=some (.int .i64 p)/\w'.cell? ⟨g,5,none⟩=some (.int .i64 l)/\w'.cell? ⟨w.heap.size,0,none⟩=some (.int .i64 a)/\w'.cell? ⟨w.heap.size,1,none⟩=some (.int .i64 b)) (with_reducible exact kS.o) (first
             | (go_at_call 67
                with_reducible refine(HV.o _).mono ?_
                rintro r v ⟨rfl,hb⟩;have BE:=au ((E2.o.drew).trans (hb.mono E2.o.drew.size))
                have kS:Aside (v.cell? ⟨g,0,none⟩=some (.int .i64 n)/\v.cell? ⟨g,1,none⟩=some (.int .i64 u)/\v.cell? ⟨g,2,none⟩=some (.int .i64 d)/\v.cell? ⟨g,3,none⟩=some (.int .i64 m)/\v.cell? ⟨g,4,none⟩=some (.int .i64 p)/\v.cell? ⟨g,5,none⟩=some (.int .i64 l)/\v.cell? ⟨w.heap.size,0,none⟩=some (.int .i64 a)/\v.cell? ⟨w.heap.size,1,none⟩=some (.int .i64 b)):=by
                 obtain⟨x0,x1,x2,x3,x4,x5⟩:=HC.o _ BE.o;exact⟨x0,x1,x2,x3,x4,x5,(HP2.o.drew.below hb HP2.o.lt).cell 0 _ rfl,(HP2.o.drew.below hb HP2.o.lt).cell 1 _ rfl⟩
                clear hb))
            go_wp2;refine aJ (v:=.tuple #[.float .f64 vx,.bool vc,.int .i64 0]) (by simp[results,Tryz.results51,go_sem]) rfl ?_
            exact⟨rfl,BE.o⟩)
end
section
open Go.RowKit
theorem XB {fn:Func}{p:Tmp}(hfn:fn.results=#[.cell p 77]) {w base:World}{tmps:Array Value}{o:Option (Bool×Nat×Int)}{v x y z:Value}{lo:Nat}(h2:tmps.getD p undef=.pointer (some ⟨w.heap.size,0,none⟩))
 (hZ:Bl base w.heap.size 77 [x,y,z]) (hbw:Below w.heap.size w base) (hN:Nt lo base v (dX o)) (hlo:w.heap.size<lo) :
 bodyPost Tryz.prog fn (fun r w'=>∃ v,r=.returned (.agg #[.bool (dN o),v,.int .i64 (dE o)])/\Nt w.heap.size w' v (dX o)/\Below w.heap.size w w') .ret ⟨tmps,[]⟩
  (((base.setCell ⟨w.heap.size,0,none⟩ (.bool (dN o))).setCell ⟨w.heap.size,1,none⟩ v).setCell ⟨w.heap.size,2,none⟩ (.int .i64 (dE o))):=by
 have q:Bl (((base.setCell ⟨w.heap.size,0,none⟩ (.bool (dN o))).setCell ⟨w.heap.size,1,none⟩ v).setCell ⟨w.heap.size,2,none⟩ (.int .i64 (dE o))) w.heap.size 77 [.bool (dN o),v,.int .i64 (dE o)]:=((hZ.set 0 _).set 1 _).set 2 _;have aF:But w.heap.size base (((base.setCell ⟨w.heap.size,0,none⟩ (.bool (dN o))).setCell ⟨w.heap.size,1,none⟩ v).setCell ⟨w.heap.size,2,none⟩ (.int .i64 (dE o))):=(((But.refl _ _).set 0 _).set 1 _).set 2 _;refine aJ (v:=.agg #[.bool (dN o),v,.int .i64 (dE o)]) (jK hfn _ _ w.heap.size [.bool (dN o),v,.int .i64 (dE o)] h2 q Tryz.xZ (by rw[Tryz.uf];rfl)) rfl ?_;exact⟨v,rfl,(hN.Rz aF hlo).mono af,But.below hbw aF hbw.size (aB _)⟩
theorem HB13:∃ k:Nat,k=4238/\HB=2^k:=⟨4238,rfl,CY 4238 rfl⟩
theorem YV{xs:List Nat}(hW:eD xs)(hl:xs.length<=65536):∃ k:Nat,k=4238/\(vS xs).natAbs<2^k:=by
 obtain⟨k,hk,e⟩:=HB13;refine⟨k,hk,?_⟩;rw[<-e];have h1:=sj xs hW xs.length (aB _);rw[Ab] at h1;have h3:xs.length*QB<=65536*QB:=dF _ hl;have h4:=Me;have h5:=Dq;omega
theorem YW{xs:List Nat}(hW:eD xs)(hl:xs.length<=65536):Fm (mi (vS xs)):=by
 obtain⟨k,hk,h⟩:=YV hW hl;exact YG _ k af h
theorem XC(xs:List Nat)(a:Option Addr)(n c:Nat)(w:World)(hn:n=xs.length)(hF:Fs w.heap.size w a xs)(hW:eD xs)(hT:bO w)(hl:n<=65536) :
 Calls Tryz.prog 128 #[.slice a n c] w fun r w'=>∃ v,r=.returned (.agg #[.bool (dN (mi (vS xs))),v,.int .i64 (dE (mi (vS xs)))])/\Nt w.heap.size w' v (dX (mi (vS xs)))/\Below w.heap.size w w':=by
 have HX:=iq hn hF hW hT hl;obtain⟨o,ho⟩:=ah (mi (vS xs));rw[<-ho];have HO:=au ho;clear hn hF hW hT ho;obtain⟨W1,hW1⟩:=ah (w.alloc (.cells #[.bool false,.slice none 0 0,.int .i64 0] 77))
 have H1:Aside (Below w.heap.size w W1/\Bl W1 w.heap.size 77 [.bool false,.slice none 0 0,.int .i64 0]/\W1.heap.size=w.heap.size+1):=by
  subst hW1;exact⟨ak _ _,Bl.new _ 77 [_,_,_],aL⟩
 go_enter Tryz.func128,Tryz.ntmps128;go_wp2_with fail;rw[<-hW1];clear hW1;refine(New7 W1).mono ?_;rintro r w2 ⟨rfl,hA,hb2⟩;obtain⟨g,hg⟩:=ah (W1.heap.size);rw[<-hg] at hA |-
 have P2:Aside (Bl w2 w.heap.size 77 [.bool false,.slice none 0 0,.int .i64 0]/\Below w.heap.size w w2/\w.heap.size<g/\kG w2 g 0 ⟨0,0,0,0,0,0⟩) :=
  ⟨H1.o.2.1.below hb2 (by have:=H1.o.r2;omega),H1.o.1.trans (hb2.mono (by have:=H1.o.r2;omega)),by have:=H1.o.r2;omega,hA⟩
 clear hb2 hA hg H1;go_wp2
 go_loopg [9] n (fun gk i wr=>∃ k:Nat,gk+k=n/\i=.int .i64 (k:Nat)/\Aside (kG wr g (vS (xs.take k)) (sS (xs.take k))/\Bl wr w.heap.size 77 [.bool false,.slice none 0 0,.int .i64 0]/\Below w.heap.size w wr))
 case atStart=>exact⟨0,af,aL,by simpa [vS,sS] using P2.o.r3,P2.o.1,P2.o.2.1⟩
 case round =>
  obtain⟨k,iL,rfl,HA⟩:=hrel
  by_cases hk:k<n
  · exact qs
  · obtain rfl:n=k:=af
    have hd:decide ((n:Int)<n)=false:=by simp
    have C:Hid (Calls Tryz.prog 123 #[.pointer (some ⟨g,0,none⟩)] wr fun r w'=>∃ v,r=.returned (.agg #[.bool (dN o),v,.int .i64 (dE o)])/\Nt wr.heap.size w' v (dX o)/\Below wr.heap.size wr w'):=by
     have e:xs.take n=xs:=by rw[jc];rw[<-HX.o.1];omega
     have hA:=HA.o.1;rw[e] at hA;rw[HO.o];exact RI g _ _ wr hA (HX.o.r3.1.belows HA.o.r2)
    have HL:=au (HA.o.2.1.lt);go_wp2_with fail;refine(C.o).mono ?_;rintro r w3 ⟨v,rfl,hN,hb3⟩;obtain⟨a9,c9,rfl,_⟩:=Lo.shape (q:=o) (by rw[HO.o];exact YW HX.o.r2.1 (by rw[<-HX.o.1];exact HX.o.r4)) hN;have B3:=bM (HA.o.2.1.below hb3 HL.o) (HA.o.r2.trans (hb3.mono HA.o.r2.size)) hN;have z0:=B3.o.1.cell 0 _ rfl;have z1:=B3.o.1.cell 1 _ rfl;have z2:=B3.o.1.cell 2 _ rfl;have f0:=B3.o.1.frozen 0;have f1:=B3.o.1.frozen 1;have f2:=B3.o.1.frozen 2;clear hb3 C hN;go_wp2;refine XB Tryz.results128 ?_ B3.o.1 B3.o.2.1 B3.o.r2 (HL.o);rfl
end
section
open Go.RowKit J
theorem Ki{V:Int}(hV:V≠0)(k:Nat)(hk:k<=90000)(hb:V.natAbs<2^k):∃ X e,mi V=some (decide (V<0),X,e)/\X%2=1/\-2148<=e/\e<=100000/\X*2^(e+2148).toNat=V.natAbs/\bl X<=262144/\tZ (decide (V<0)) X e:=by
 obtain⟨n,X,e,ho,F,hx⟩:=YF V k af hb;have hm:mkS (decide (V<0)) V.natAbs (-2148)=some (n,X,e):=ho;have hz:=ma hm (-2148) (.inr af);unfold zv at hz;simp only at hz;rw[show((-2148:Int) - -2148).toNat=0 by decide,jr,gI] at hz
 have hX0:X≠0:=by
  rintro rfl;simp[nQ] at hz
  split at hz <;> omega
 have hp:0<X*2^(e - -2148).toNat:=nW af (bK _);rcases hx with h|⟨h1,h2⟩
 · exact absurd h hX0
 have hn:n=decide (V<0):=by
  by_cases hs:V<0
  · rw[decide_eq_true hs] at hz |-
    cases n with
    | true=>rfl
    | false=>simp only[nQ,if_true,dY,if_false] at hz;omega
  · rw[decide_eq_false hs] at hz |-
    cases n with
    | false=>rfl
    | true=>simp only[nQ,if_true,dY,if_false] at hz;omega
 rw[hn] at hz ho F
 have hv:X*2^(e - -2148).toNat=V.natAbs:=by
  by_cases hs:V<0
  · rw[decide_eq_true hs] at hz;simp only[nQ,if_true] at hz;omega
  · rw[decide_eq_false hs] at hz;simp only[nQ,dY,if_false] at hz;omega
 refine⟨X,e,ho,?_,h1,af,?_,af,F⟩
 · rcases F.odd with q | q
   · exact q
   · exact absurd q.1 hX0
 · rw[show(e+2148).toNat=(e - -2148).toNat by congr 1];exact hv
theorem int_ex(N:Nat)(k:Nat)(hk:k=2148):mi ((N:Int)*((2^k:Nat):Int))=mkS false N 0:=by
 unfold mi;rw[<-dU,decide_eq_false af,xc,bR,PD];congr 1;omega
def tq(mode:Int):Int:=if mode<0\/4<mode then 1 else 0
theorem MU(mode:Int)(w:World):Calls Tryz.prog 65 #[.int .i64 mode] w fun r w'=>r=.returned (.int .i64 (tq mode))/\w'=w:=by
 by_cases h0:mode<0
 · have e:tq mode=1:=if_pos (.inl h0);rw[e];clear e;go_enter Tryz.func65,Tryz.ntmps65;go_wp2;exact Ks
 · have d0:decide (mode<0)=false:=decide_eq_false h0
   by_cases h4:4<mode
   · have e:tq mode=1:=if_pos (.inr h4);rw[e];clear e;go_enter Tryz.func65,Tryz.ntmps65;go_wp2;exact Ks
   · have d4:decide (4<mode)=false:=decide_eq_false h4;have e:tq mode=0:=if_neg af;rw[e];clear e;go_enter Tryz.func65,Tryz.ntmps65;go_wp2;exact Ks
theorem He(e:Int)(x:Nat)(w:World):Calls Tryz.prog 64 #[.int .i64 e,.float .f64 x] w fun r w'=>r=.returned (.float .f64 (if e=0 then x else 0))/\w'=w:=by
 by_cases h0:e=0
 · subst h0;go_enter Tryz.func64,Tryz.ntmps64;go_wp2;exact Ks
 · rw[if_neg h0];have h1:(e==0)=false:=by simp[h0]
   go_enter Tryz.func64,Tryz.ntmps64;go_wp2;exact Ks
noncomputable def qnR (V:Int) (N:Nat) (mode:Int):Nat×Int:=Gy nC ⟨dN (mi V),.bool false,dX (mi V),dE (mi V),dN (mkS false N 0),.bool false,dX (mkS false N 0),dE (mkS false N 0)⟩ mode
theorem Uk(N:Nat)(h:N<2^41):Fm (mkS false N 0):=by
 obtain⟨k,hk⟩:∃ k:Nat,k=2148:=⟨_,rfl⟩;rw[<-int_ex N k hk];refine YG _ (41+k) af ?_;rw[<-dU,xc,aW];exact jV h (bK k)
noncomputable def Hf (xs:List Nat) (s:Sp) (mode:Int):Nat×Int :=
 if xs=[] then(0,3) else if vS xs=0 then(nt (snd s.n s.u s.d s.m s.p s.a) s.n s.u s.d s.m s.p s.a mode,0) else qnR (vS xs) xs.length mode
theorem sgn_ex{V:Int}(k:Nat)(hk:k<=90000)(hb:V.natAbs<2^k):(V=0->iP (dN (mi V)) (val (ws (dX (mi V))))=0)/\(V≠0->(iP (dN (mi V)) (val (ws (dX (mi V))))==0)=false)/\(V<0↔iP (dN (mi V)) (val (ws (dX (mi V))))<0):=by
 rw[aC]
 by_cases h0:V=0
 · subst h0;rw[WS];exact⟨fun _=>rfl,fun h=>absurd rfl h,by constructor <;> (intro h;exact absurd h aA)⟩
 · obtain⟨X,e,ho,hX,he0,he1,hv,hbl,F⟩:=Ki h0 k hk hb;rw[ho];show(V=0->iP (decide (V<0)) X=0)/\(V≠0->(iP (decide (V<0)) X==0)=false)/\(V<0↔iP (decide (V<0)) X<0);unfold iP;refine⟨fun h=>absurd h h0,fun _=>?_,?_⟩
   · rw[if_neg af];by_cases hs:V<0 <;> simp[hs]
   · rw[if_neg af];by_cases hs:V<0 <;> simp[hs]
theorem XD(xs:List Nat)(a:Option Addr)(n c:Nat)(sn su sd sm sp sa mode:Int)(w:World)(hn:n=xs.length)(hF:Fs w.heap.size w a xs)(hW:eD xs)(hT:bO w)(hl:n<=65536)(z:Nat×Int)(hz:Hf xs ⟨sn,su,sd,sm,sp,sa⟩ mode=z) :
 Calls Tryz.prog 68 #[.slice a n c,.agg #[.int .i64 sn,.int .i64 su,.int .i64 sd,.int .i64 sm,.int .i64 sp,.int .i64 sa],.int .i64 mode] w fun r w'=>r=.returned (.tuple #[.float .f64 z.1,.int .i64 z.2])/\Below w.heap.size w w':=by
 obtain⟨X,E⟩:=z;simp only
 by_cases h0:n=0
 · have e:(X,E)=(0,3):=by rw[<-hz];unfold Hf;rw[if_pos (xg af)]
   obtain⟨rfl,rfl⟩:=fB e;subst h0;clear hz hn hF hW hT e;go_enter Tryz.func68,Tryz.ntmps68;go_wp2;exact aJ (v:=.tuple #[.float .f64 0,.int .i64 3]) (by simp[results,Tryz.results68,go_sem]) rfl ⟨rfl,ak _ _⟩
 · have hx0:xs≠[]:=by rintro rfl;simp at hn;omega
   unfold Hf at hz;rw[if_neg hx0] at hz;simp only at hz;obtain⟨k,hk,hvb⟩:=YV hW af;obtain⟨g1,g2,g3⟩:=sgn_ex k af hvb;have Fv:=au (YW hW af);obtain⟨sb,W,hWs,HW⟩:∃ (sb:Value) (W:World),sb=.agg #[.int .i64 sn,.int .i64 su,.int .i64 sd,.int .i64 sm,.int .i64 sp,.int .i64 sa]/\W=w.alloc (Obj.cells #[.int .i64 sn,.int .i64 su,.int .i64 sd,.int .i64 sm,.int .i64 sp,.int .i64 sa] 73):=⟨_,_,rfl,rfl⟩;clear hWs
   have BW:Aside (Below w.heap.size w W/\Bl W w.heap.size 73 [.int .i64 sn,.int .i64 su,.int .i64 sd,.int .i64 sm,.int .i64 sp,.int .i64 sa]/\bO W):=by
    rw[HW];exact⟨ak _ _,Bl.new _ 73 [_,_,_,_,_,_],hT.belows (ak _ _)⟩
   have HE:=hid (XC xs a n c W hn ((hF.below BW.o.1).mono BW.o.1.size) hW BW.o.r2 hl);obtain⟨V,hV⟩:∃ V,vS xs=V:=⟨_,rfl⟩;rw[hV] at HE hz g1 g2 Fv;obtain⟨ov,hov⟩:∃ o,mi V=o:=⟨_,rfl⟩;rw[hov] at HE g1 g2 Fv;have HS:Hid (∀ (u:World) (p:Option Addr) (q:Nat),Nt 0 u (.slice p (ws (dX ov)).length q) (dX ov)->Calls Tryz.prog 52 #[.agg #[.bool (dN ov),.slice p (ws (dX ov)).length q,.int .i64 (dE ov)]] u fun r u'=>r=.returned (.int .i64 (iP (dN ov) (val (ws (dX ov)))))/\Below u.heap.size u u'):=fun u p q hN=>fK (Fv.o.a12 hN) _ _;have hnb:(n:Int)≠0:=af
   have HN:=au hn;have HTW:=au BW.o.r2;obtain⟨sg,hsg⟩:∃ sg,iP (dN ov) (val (ws (dX ov)))=sg:=⟨_,rfl⟩;rw[hsg] at HS g1 g2;have pg:=au HW;have G:=aT g1 g2;clear hn hF hW hT hx0 g1 g2 g3 hvb hk k hsg HW;go_enter Tryz.func68,Tryz.ntmps68;go_wp2_with fail;rw[<-pg.o];refine HE.o.mono ?_;rintro r u ⟨v,rfl,hN,hb⟩;obtain⟨a1,c1,rfl,hN0⟩:=Lo.shape Fv.o hN;obtain⟨U,hU⟩:=ah (u.alloc (Obj.cells #[.bool (dN ov),.slice a1 (ws (dX ov)).length c1,.int .i64 (dE ov)] 77));have bU:Below W.heap.size W U:=by rw[hU];exact hb.trans ((ag _ _).mono hb.size)
   have H1:Aside (Lo U u.heap.size ov/\Bl U w.heap.size 73 [.int .i64 sn,.int .i64 su,.int .i64 sd,.int .i64 sm,.int .i64 sp,.int .i64 sa]/\Below w.heap.size w U/\bO U/\Dk U u.heap.size (dN ov) (.slice a1 (ws (dX ov)).length c1) (dE ov)/\Nt 0 U (.slice a1 (ws (dX ov)).length c1) (dX ov)):=by
    refine⟨?_,BW.o.2.1.below bU BW.o.2.1.lt,BW.o.1.trans (bU.mono BW.o.1.size),HTW.o.belows bU,?_,?_⟩
    · rw[hU];exact Lo.new hN0
    · rw[hU];exact Dk.new _ _ _ _
    · rw[hU];exact hN0.below (ag _ _)
   obtain⟨gd,hgd⟩:=ah (u.heap.size);have HU:=au hU;have C:=hid (HS.o U a1 c1 H1.o.r5);rw[<-hgd] at H1;obtain⟨y0,y1,y2,eF,eG,eO⟩:=H1.o.r4.1.facts;clear hN hN0 hb bU hU HE HS
   go_upto_region 4 with fail
   try rw[<-hgd]
   rw[<-HU.o];clear HU hgd;go_wp2_with fail;refine C.o.mono ?_;rintro r v ⟨rfl,hb⟩
   have H2:Aside (Bl v w.heap.size 73 [.int .i64 sn,.int .i64 su,.int .i64 sd,.int .i64 sm,.int .i64 sp,.int .i64 sa]/\Below w.heap.size w v/\bO v/\Dk v gd (dN ov) (.slice a1 (ws (dX ov)).length c1) (dE ov)/\Nt 0 v (.slice a1 (ws (dX ov)).length c1) (dX ov)) :=
    ⟨H1.o.2.1.below hb H1.o.2.1.lt,H1.o.r2.1.trans (hb.mono H1.o.r2.1.size),H1.o.r3.1.belows hb,H1.o.r4.1.below hb,H1.o.r5.below hb⟩
   clear hb H1 C y0 y1 y2 eF eG eO
   by_cases hv0:V=0
   · rw[if_pos hv0] at hz;obtain⟨hX,hE⟩:=fB hz;have hs:=G.o.1 hv0;have HNo:=hid (fun u:World=>nu sn su sd sm sp sa mode u);rw[hX] at HNo;subst hs;subst hE;have q0:=H2.o.1.cell 0 _ rfl;have q1:=H2.o.1.cell 1 _ rfl;have q2:=H2.o.1.cell 2 _ rfl;have q3:=H2.o.1.cell 3 _ rfl;have q4:=H2.o.1.cell 4 _ rfl;have q5:=H2.o.1.cell 5 _ rfl;clear hX hz G hov;go_wp2_with fail;refine(HNo.o _).mono ?_;rintro r u2 ⟨rfl,hb⟩;have B3:=au (H2.o.2.1.trans (hb.mono H2.o.2.1.size));clear hb HNo q0 q1 q2 q3 q4 q5;go_wp2;exact aJ (v:=.tuple #[.float .f64 X,.int .i64 0]) (by simp[results,Tryz.results68,go_sem]) rfl ⟨rfl,B3.o⟩
   · rw[if_neg hv0] at hz;have hs:=G.o.2 hv0;have hnN:n<2^41:=af
     have F1:=au (Uk n hnN)
     have HI:Hid (∀ u:World,bO u->Calls Tryz.prog 113 #[.int .i64 (n:Nat)] u fun r w'=>(∃ v,r=.returned (.agg #[.bool (dN (mkS false n 0)),v,.int .i64 (dE (mkS false n 0))])/\Nt u.heap.size w' v (dX (mkS false n 0)))/\Below u.heap.size u w'):=fun u hT=>by
      have:=si (n:Nat) u hT af af;rw[decide_eq_false af,xc] at this;exact this
     have HR:Hid (∀ (u:World) (p q:Option Addr) (cp cq:Nat),bO u->Nt 0 u (.slice p (ws (dX ov)).length cp) (dX ov)->Nt 0 u (.slice q (ws (dX (mkS false n 0))).length cq) (dX (mkS false n 0))->Calls Tryz.prog 70 #[.agg #[.bool (dN ov),.slice p (ws (dX ov)).length cp,.int .i64 (dE ov),.bool (dN (mkS false n 0)),.slice q (ws (dX (mkS false n 0))).length cq,.int .i64 (dE (mkS false n 0))],.int .i64 mode] u fun r w'=>r=.returned (.tuple #[.float .f64 X,.int .i64 E])/\Below u.heap.size u w'):=fun u p q cp cq hT n1 n2=>by
      have:=DJ (w:=u) (n:=dN ov) (m:=dN (mkS false n 0)) (X:=dX ov) (Y:=dX (mkS false n 0)) (e:=dE ov) (f:=dE (mkS false n 0)) mode ⟨n1.av (aV Fv.o.len aA),n2.av (aV F1.o.len aA),Fv.o.o7,F1.o.o7⟩ hT;rw[show Gy nC ⟨dN ov,.slice p (ws (dX ov)).length cp,dX ov,dE ov,dN (mkS false n 0),.slice q (ws (dX (mkS false n 0))).length cq,dX (mkS false n 0),dE (mkS false n 0)⟩ mode=(X,E) from(by rw[<-hov,<-hz,<-HN.o];rfl)] at this;exact this
     obtain⟨ow,how⟩:∃ o,mkS false n 0=o:=⟨_,rfl⟩;rw[how] at HR HI F1;clear hz how G hov hv0 hnN
     go_upto_region 6 with fail
     have hdr:=(aG v.heap.size v).drew;have BD:=mh (H2.o.2.1.trans (hdr.mono H2.o.2.1.size)) (H2.o.r3.1.below hdr) (H2.o.r4.below hdr) (H2.o.r2.1.belows hdr);clear hdr H2;have kS:=bM BD.o.2.1.facts.1 BD.o.2.1.facts.2.1 BD.o.2.1.facts.2.2.1
     go_region_held3 (fun w'=>w'.cell? ⟨gd,0,none⟩=some (.bool (dN ov))/\w'.cell? ⟨gd,1,none⟩=some (.slice a1 (ws (dX ov)).length c1)/\w'.cell? ⟨gd,2,none⟩=some (.int .i64 (dE ov))) (with_reducible exact kS.o) (first
      | (go_at_call 70
         with_reducible refine(HR.o _ a1 a2 c1 c2 BD.o.r3 BD.o.r2.1 Q2.o).mono ?_
         rintro r v ⟨rfl,hb⟩;have BD:=mh (BD.o.1.trans (hb.mono BD.o.1.size)) (BD.o.2.1.below hb) (BD.o.r2.1.below hb) (BD.o.r3.belows hb);have kS:=bM BD.o.2.1.facts.1 BD.o.2.1.facts.2.1 BD.o.2.1.facts.2.2.1
         clear hb)
      | (go_at_call 113
         with_reducible refine(HI.o _ BD.o.r3).mono ?_
         rintro r v ⟨⟨p,rfl,hN⟩,hb⟩;obtain⟨a2,c2,rfl,hN0⟩:=Lo.shape F1.o hN;have BD:=mh (BD.o.1.trans (hb.mono BD.o.1.size)) (BD.o.2.1.below hb) (BD.o.r2.1.below hb) (BD.o.r3.belows hb);have Q2:=au hN0;have kS:=bM BD.o.2.1.facts.1 BD.o.2.1.facts.2.1 BD.o.2.1.facts.2.2.1
         clear hb hN hN0))
     clear kS Q2 HR HI;go_wp2;exact aJ (v:=.tuple #[.float .f64 X,.int .i64 E]) (by simp[results,Tryz.results68,go_sem]) rfl ⟨rfl,BD.o.1⟩
attribute [local go_sem] gZ
def BJ(e:Int)(x:Nat):Nat:=if e=0 then x else 0
theorem za {fn:Func}{f:FuncId}{px pe:Tmp}(hres:fn.results=#[.cell px 31,.cell pe 48]) {tmps:Array Value}{gx ge:Nat}{w:World}{x:Nat}{e:Int}{R:Ending->World->Prop}
 (hi:(callFunc f #[.pointer (some ⟨ge,0,none⟩),.pointer (some ⟨gx,0,none⟩)]).run Tryz.prog w=.ok (.enter f #[.pointer (some ⟨ge,0,none⟩),.pointer (some ⟨gx,0,none⟩)]) w)
 (HC:∀ (u:FrameMode),CallsD Tryz.prog f #[.pointer (some ⟨ge,0,none⟩),.pointer (some ⟨gx,0,none⟩)] u w fun r u' w'=>u'=u/\(r=.returned (.tuple #[])/\w'=w.setCell ⟨gx,0,none⟩ (.float .f64 (BJ e x))))
 (h1:tmps.getD px undef=.pointer (some ⟨gx,0,none⟩)) (h2:tmps.getD pe undef=.pointer (some ⟨ge,0,none⟩))
 (cx:w.cell? ⟨gx,0,none⟩=some (.float .f64 x)) (ce:w.cell? ⟨ge,0,none⟩=some (.int .i64 e)) (hne:ge≠gx)
 (hR:R (.returned (.tuple #[.float .f64 (BJ e x),.int .i64 e])) (w.setCell ⟨gx,0,none⟩ (.float .f64 (BJ e x)))) :
 Leaves Tryz.prog fn tmps R [{ target:=.fn (.func f) #[.pointer (some ⟨ge,0,none⟩),.pointer (some ⟨gx,0,none⟩)],args:=#[] }] .returning w:=by
 refine leaves_cons (f:=f) (args:=#[.pointer (some ⟨ge,0,none⟩),.pointer (some ⟨gx,0,none⟩)]) aL (by simp[go_sem,hi]) ?_;refine(HC _).mono ?_;rintro r u' w' ⟨rfl,rfl,rfl⟩;have q1:(w.setCell ⟨gx,0,none⟩ (.float .f64 (BJ e x))).cell? ⟨gx,0,none⟩=some (.float .f64 (BJ e x)):=World.cell?_setCell_same _ _ _ cx
 have q2:(w.setCell ⟨gx,0,none⟩ (.float .f64 (BJ e x))).cell? ⟨ge,0,none⟩=some (.int .i64 e):=by
  rw[World.cell?_setCell_other _ _ _ _ (by intro h;cases h;exact hne rfl)];exact ce
 rw[Array.getD_eq_getD_getElem?] at h1 h2;exact⟨.tuple #[.float .f64 (BJ e x),.int .i64 e],by simp[results,hres,go_sem,h1,h2,q1,q2],hR⟩
theorem wR(gx ge x:Nat)(e:Int)(w:World)(cx:w.cell? ⟨gx,0,none⟩=some (.float .f64 x))(ce:w.cell? ⟨ge,0,none⟩=some (.int .i64 e))(fx:w.frozen? ⟨gx,0,none⟩=false)(u:FrameMode) :
 CallsD Tryz.prog 63 #[.pointer (some ⟨ge,0,none⟩),.pointer (some ⟨gx,0,none⟩)] u w fun r u' w'=>u'=u/\(r=.returned (.tuple #[])/\w'=w.setCell ⟨gx,0,none⟩ (.float .f64 (BJ e x))):=by
 have HB:=hid (fun w:World=>He e x w);go_enter_d Tryz.func63,Tryz.ntmps63;go_wp2_with fail;refine(HB.o _).mono ?_;rintro r v ⟨rfl,rfl⟩;obtain⟨b,hb⟩:=ah (BJ e x);have hb2:(if e=0 then x else 0)=b:=hb.symm;rw[hb2];have pq:=au hb;clear hb hb2 HB;go_wp2
 go_end0
 exact⟨rfl,by rw[pq.o]⟩
theorem MV(gx ge x:Nat)(e:Int)(w:World)(cx:w.cell? ⟨gx,0,none⟩=some (.float .f64 x))(ce:w.cell? ⟨ge,0,none⟩=some (.int .i64 e))(fx:w.frozen? ⟨gx,0,none⟩=false)(u:FrameMode) :
 CallsD Tryz.prog 112 #[.pointer (some ⟨ge,0,none⟩),.pointer (some ⟨gx,0,none⟩)] u w fun r u' w'=>u'=u/\(r=.returned (.tuple #[])/\w'=w.setCell ⟨gx,0,none⟩ (.float .f64 (BJ e x))):=by
 have HB:=hid (fun w:World=>He e x w);go_enter_d Tryz.func112,Tryz.ntmps112;go_wp2_with fail;refine(HB.o _).mono ?_;rintro r v ⟨rfl,rfl⟩;obtain⟨b,hb⟩:=ah (BJ e x);have hb2:(if e=0 then x else 0)=b:=hb.symm;rw[hb2];have pq:=au hb;clear hb hb2 HB;go_wp2
 go_end0
 exact⟨rfl,by rw[pq.o]⟩
end
end Go.Proofs.YtaejmlkaefnbhaaGreatDoor
