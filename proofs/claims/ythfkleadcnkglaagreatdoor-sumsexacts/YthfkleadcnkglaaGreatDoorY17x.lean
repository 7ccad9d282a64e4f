import Derived.Test.YthfkleadcnkglaaGreatDoorH28x
import Derived.Deep.RegionWith
import Derived.Deep.RegionHeld3
import Derived.BigQuiet
set_option linter.unusedVariables false
set_option linter.unusedSimpArgs false
set_option maxHeartbeats 16000000
set_option maxRecDepth 20000
namespace Go.Proofs.YthfkleadcnkglaaGreatDoor
namespace J
end J
section
open Go.RowKit J
attribute [local go_sem] st_float
def Lt (w:World) (g:Nat) (k:Nat) (o:Option (Bool×Nat×Int)):Prop:=∃ a c,Bl w g 68 [.int .i64 (k:Nat),.bool (dN o),.slice a (ws (dX o)).length c,.int .i64 (dE o)]∧Nt 0 w (.slice a (ws (dX o)).length c) (dX o)
theorem Lt.below {w w':World}{g k:Nat}{o:Option (Bool×Nat×Int)}(h:Lt w g k o) (hb:Below w.heap.size w w'):Lt w' g k o:=by
 obtain ⟨a,c,h1,h2⟩:=h;exact ⟨a,c,h1.below hb h1.lt,h2.below hb⟩
theorem Lt.new {w:World}{k:Nat}{o:Option (Bool×Nat×Int)}{a:Option Addr}{c:Nat}(hN:Nt 0 w (.slice a (ws (dX o)).length c) (dX o)):Lt (w.alloc (Obj.cells #[.int .i64 (k:Nat),.bool (dN o),.slice a (ws (dX o)).length c,.int .i64 (dE o)] 68)) w.heap.size k o :=
 ⟨a,c,Bl.new w 68 [_,_,_,_],hN.below (below_alloc _ _)⟩
end
section
open Go.RowKit J
attribute [local go_sem] st_float
def laC (o:Option (Bool×Nat×Int)) (a:Option Addr) (c:Nat) (s:Sp):List Value:=[.bool (dN o),.slice a (ws (dX o)).length c,.int .i64 (dE o),.int .i64 s.n,.int .i64 s.u,.int .i64 s.d,.int .i64 s.m,.int .i64 s.p,.int .i64 s.a]
def La (w:World) (g:Nat) (o:Option (Bool×Nat×Int)) (s:Sp):Prop:=∃ a c,Bl w g 65 (laC o a c s)∧Nt 0 w (.slice a (ws (dX o)).length c) (dX o)
theorem La.below {w w':World}{g:Nat}{o:Option (Bool×Nat×Int)}{s:Sp}(h:La w g o s) (hb:Below w.heap.size w w'):La w' g o s:=by
 obtain ⟨a,c,h1,h2⟩:=h;exact ⟨a,c,h1.below hb h1.lt,h2.below hb⟩
theorem La.lt {w:World}{g:Nat}{o:Option (Bool×Nat×Int)}{s:Sp}(h:La w g o s):g<w.heap.size:=by
 obtain ⟨a,c,h1,h2⟩:=h;exact h1.lt
theorem Nt.offA {lo g T:Nat}{w w':World}{v:Value}{X:Nat}{C:List Value}(h:Nt lo w v X) (hB:Bl w g T C) (hT:T≠133) (hb:But g w w'):Nt lo w' v X:=by
 refine h.off hb ?_
 rcases h.2 with ⟨rfl,_⟩|⟨g',cap,cur,rfl,_,hg,_⟩
 · simp [Value.ownBlock]
 · intro e'
   obtain rfl:g'=g:=by simpa [Value.ownBlock] using e'
   rw [show w.heap[g']?=_ from hB] at hg
   simp at hg;exact hT hg.2
theorem ex_great {V:Int}(j:Nat) (hj:j=4238) (hV:V.natAbs<2^j):decide ((2090:Int)<(bl (dX (exV V)):Int)+dE (exV V))=false∧bl (dX (exV V))≤262144∧-2000000≤dE (exV V)∧dE (exV V)≤2000000:=by
 obtain ⟨n,X,e,ho,F,hx⟩:=ex_iv V j (by omega) hV
 rw [ho];have h1:=F.size;have h2:=F.down;have h3:=F.up
 show decide ((2090:Int)<(bl X:Int)+e)=false∧bl X≤262144∧-2000000≤e∧e≤2000000
 refine ⟨decide_eq_false ?_,h1,by omega,by omega⟩
 rcases hx with h|⟨h4,h5⟩
 · rcases F.odd with q | ⟨_,q,_⟩
   · omega
   · have hb:bl 0=0:=by decide
     rcases F.odd with r|⟨r1,r2,r3⟩
     · omega
     · subst h
       rw [hb];omega
 · omega
end
section
open Go.RowKit J
attribute [local go_sem] st_float
theorem Bl.facts9 {w:World}{g T:Nat}{a b c d e f h i j:Value}(H:Bl w g T [a,b,c,d,e,f,h,i,j]):(w.cell? ⟨g,0,none⟩=some a∧w.cell? ⟨g,1,none⟩=some b∧w.cell? ⟨g,2,none⟩=some c)∧(w.cell? ⟨g,3,none⟩=some d∧w.cell? ⟨g,4,none⟩=some e∧w.cell? ⟨g,5,none⟩=some f∧w.cell? ⟨g,6,none⟩=some h∧w.cell? ⟨g,7,none⟩=some i∧w.cell? ⟨g,8,none⟩=some j) :=
 ⟨⟨H.cell 0 _ rfl,H.cell 1 _ rfl,H.cell 2 _ rfl⟩,H.cell 3 _ rfl,H.cell 4 _ rfl,H.cell 5 _ rfl,H.cell 6 _ rfl,H.cell 7 _ rfl,H.cell 8 _ rfl⟩
theorem La.st3T {w:World}{g gq:Nat}{o p:Option (Bool×Nat×Int)}{s:Sp}(h:La w g o s) (hq:Lo w gq p) (hne:g≠gq) (x y z:Value):La (st3 w gq x y z) g o s:=by
 obtain ⟨a,c,h1,h2⟩:=h;obtain ⟨_,_,k1,_⟩:=hq;exact ⟨a,c,Bl.but h1 (st3_but12 gq w x y z) hne,h2.off12 k1 _ _ _⟩
theorem Lt.st3T {w:World}{g gq k:Nat}{o p:Option (Bool×Nat×Int)}(h:Lt w g k o) (hq:Lo w gq p) (hne:g≠gq) (x y z:Value):Lt (st3 w gq x y z) g k o:=by
 obtain ⟨a,c,h1,h2⟩:=h;obtain ⟨_,_,k1,_⟩:=hq;exact ⟨a,c,Bl.but h1 (st3_but12 gq w x y z) hne,h2.off12 k1 _ _ _⟩
theorem addW0 (W:World):Below W.heap.size W (W.alloc (Obj.cells #[.bool false,.slice none 0 0,.int .i64 0] 47)).drew:=(below_alloc W (Obj.cells #[.bool false,.slice none 0 0,.int .i64 0] 47)).trans (((Below.refl (W.alloc (Obj.cells #[.bool false,.slice none 0 0,.int .i64 0] 47)).heap.size (W.alloc (Obj.cells #[.bool false,.slice none 0 0,.int .i64 0] 47))).drew).mono (by simp))
theorem addZ {W w3:World}(hb:Below (W.alloc (Obj.cells #[.bool false,.slice none 0 0,.int .i64 0] 47)).drew.heap.size (W.alloc (Obj.cells #[.bool false,.slice none 0 0,.int .i64 0] 47)).drew w3):Lo w3 W.heap.size o00∧Below W.heap.size W w3:=by
 have h1:Lo (W.alloc (Obj.cells #[.bool false,.slice none 0 0,.int .i64 0] 47)).drew W.heap.size o00:=(Lo.zero W).below (Below.refl _ _).drew;have h2:Below W.heap.size W (W.alloc (Obj.cells #[.bool false,.slice none 0 0,.int .i64 0] 47)).drew:=addW0 W;exact ⟨h1.below hb,h2.trans (hb.mono h2.size)⟩
theorem addW (W:World):Below W.heap.size W (W.alloc (Obj.cells #[.bool false,.slice none 0 0,.int .i64 0] 47)).drew:=addW0 W
set_option maxRecDepth 100000 in
theorem rAdd7 (g:Nat) (V T:Int) (n u d m p a:Int) (k:Nat) (b:Option Addr) (cb:Nat) (w:World) (hA:La w g (exV V) ⟨n,u,d,m,p,a⟩) (hs:(Sp.mk n u d m p a).ok) (hk:k≤5) (ha:a≠1099511627776) (N:Nt 0 w (.slice b (ws (dX (exV T))).length cb) (dX (exV T))) (j:Nat) (hj:j=4238) (hV:V.natAbs<2^j) (hT:T.natAbs<2^j) (hVT:(V+T).natAbs<2^j) :
 Calls Tryz.prog 42 #[.pointer (some ⟨g,0,none⟩),.agg #[.int .i64 (k:Nat),.bool (dN (exV T)),.slice b (ws (dX (exV T))).length cb,.int .i64 (dE (exV T))]] w fun r w'=>r=.returned (.int .i64 0)∧La w' g (exV (V+T)) ((Sp.mk n u d m p a).cnt (kOf k) 1)∧But g w w':=by
 have FV:=ex_fm V j (by omega) hV
 have FT:=ex_fm T j (by omega) hT
 have FS:=ex_fm (V+T) j (by omega) hVT
 have EA:=add_ex j (by omega) hV hT
 obtain ⟨gr1,gr2,gr3,gr4⟩:=ex_great (V:=V+T) j hj hVT;have HC:=hid (fun w':World=>rcounted7 n u d m p a k hk hs w')
 obtain ⟨ov,hov⟩:∃ o,o=exV V:=⟨_,rfl⟩;obtain ⟨ot,hot⟩:∃ o,o=exV T:=⟨_,rfl⟩;obtain ⟨os,hos⟩:∃ o,o=exV (V+T):=⟨_,rfl⟩;rw [←hov] at FV EA hA;rw [←hot] at FT EA N ⊢;rw [←hos] at FS EA gr1 gr2 gr3 gr4 ⊢;obtain ⟨⟨n1,u1,d1,m1,p1,a1⟩,hs1⟩:∃ s,s=(Sp.mk n u d m p a).cnt (kOf k) 1:=⟨_,rfl⟩;rw [←hs1] at HC ⊢;unfold Sp.agg at HC;simp only at HC;have FF:=qsd (ai FV (ai FT (ai FS EA)));have GG:=qsd (ai gr1 (ai gr2 (ai gr3 gr4)));have ha':(a==1099511627776)=false:=by simpa using ha
 have glt:=hA.lt;obtain ⟨W,hW⟩:∃ W,W=w.alloc (Obj.cells #[.int .i64 (k:Nat),.bool (dN ot),.slice b (ws (dX ot)).length cb,.int .i64 (dE ot)] 68):=⟨_,rfl⟩;obtain ⟨g3,hg3⟩:∃ x,x=w.heap.size:=⟨_,rfl⟩
 have K0:Aside (La W g ov ⟨n,u,d,m,p,a⟩∧Lt W g3 k ot∧Below w.heap.size w W∧g<g3):=by
  rw [hW,hg3];exact ⟨hA.below (below_alloc _ _),Lt.new N,below_alloc _ _,glt⟩
 have HW:=qsd hW;have HG:=qsd hg3;clear FV FT FS EA gr1 gr2 gr3 gr4 hov hot hos hs1 hA N ha hV hT hVT hj hW glt hs hg3;go_enter Tryz.func42,Tryz.ntmps42
 go_upto_region 1 with fail
 rw [←HW.out,←HG.out];clear HW;obtain ⟨aV,cV,BV,NV⟩:=K0.out.1;obtain ⟨aT,cT,BT,NT⟩:=K0.out.2.1;unfold laC at BV;obtain ⟨⟨v0,v1,v2⟩,v3,v4,v5,v6,v7,v8⟩:=BV.facts9;obtain ⟨t0,t1,t2,t3⟩:=BT.four;have PB:Hid (∀ U:World,Below W.heap.size W U→Calls Tryz.prog 27 #[.agg #[.bool (dN ov),.slice aV (ws (dX ov)).length cV,.int .i64 (dE ov)],.agg #[.bool (dN ot),.slice aT (ws (dX ot)).length cT,.int .i64 (dE ot)]] U fun r w'=>(∃ v,r=.returned (.tuple #[.agg #[.bool (dN os),v,.int .i64 (dE os)],.int .i64 0])∧Nt U.heap.size w' v (dX os))∧Below U.heap.size U w'):=fun U hU=>radd12 FF.out.1 FF.out.2.1 (NV.below hU) (NT.below hU) FF.out.2.2.2 FF.out.2.2.1
 clear BV NV BT NT
 go_upto_region 3 with fail
 go_cut [5,6] from 13 to 22 (fun q e wx=>∃ gq:Nat,q=.pointer (some ⟨gq,0,none⟩)∧e=.int .i64 0∧Aside (Lo wx gq os∧La wx g ov ⟨n,u,d,m,p,a⟩∧Lt wx g3 k ot∧Below w.heap.size w wx∧g3<gq))
 case first =>
  have hgl:g<W.heap.size:=K0.out.1.lt;have hg3l:g3<W.heap.size:=by obtain ⟨_,_,h,_⟩:=K0.out.2.1;exact h.lt
  go_region_with (go_at_call 27;first
   | (refine (PB.out _ (Below.refl _ W).drew).mono ?_;rintro r w3 ⟨⟨v,rfl,hN⟩,hb3⟩;obtain ⟨a3,c3,rfl,hN0⟩:=Lo.shape FF.out.2.2.1 hN;have HQ:=qsd (ai hN0 ((Below.refl _ W).drew.trans hb3));clear hN hN0 hb3)
   | (refine (PB.out _ (addW W)).mono ?_;rintro r w3 ⟨⟨v,rfl,hN⟩,hb3⟩;obtain ⟨a3,c3,rfl,hN0⟩:=Lo.shape FF.out.2.2.1 hN;have HZ:=qsd (ai hN0 (addZ hb3));obtain ⟨zp,zq,DZ,MZ⟩:=HZ.out.2.1;obtain ⟨z0,z1,z2,zf0,zf1,zf2⟩:=DZ.facts;clear hN hN0 hb3 DZ MZ))
  all_goals
   go_wp2_with fail
   go_meet
   case rel =>
    first
     | exact ⟨w3.heap.size,rfl,rfl,Lo.new HQ.out.1,(K0.out.1.below HQ.out.2).below (below_alloc _ _),(K0.out.2.1.below HQ.out.2).below (below_alloc _ _),(K0.out.2.2.1.trans (HQ.out.2.mono K0.out.2.2.1.size)).trans ((below_alloc _ _).mono (Nat.le_trans K0.out.2.2.1.size HQ.out.2.size)),Nat.lt_of_lt_of_le hg3l HQ.out.2.size⟩
     | exact ⟨W.heap.size,rfl,rfl,HZ.out.2.1.set HZ.out.1,(K0.out.1.below HZ.out.2.2).st3T HZ.out.2.1 (by omega) _ _ _,(K0.out.2.1.below HZ.out.2.2).st3T HZ.out.2.1 (by omega) _ _ _,st3_bel12 (K0.out.2.2.1.trans (HZ.out.2.2.mono K0.out.2.2.1.size)) (Nat.le_trans K0.out.2.2.1.size HZ.out.2.2.size) K0.out.2.2.1.size _ _ _,hg3l⟩
 obtain ⟨gq,rfl,rfl,K1⟩:=hcut;obtain ⟨U,hU⟩:∃ U,U=wc:=⟨_,rfl⟩;rw [←hU] at K1 ⊢;clear hU v0 v1 v2 v3 v4 v5 v6 v7 v8 t0 t1 t2 t3 PB;obtain ⟨q0,r0,D0,M0⟩:=K1.out.1;obtain ⟨x0,x1,x2,xf0,xf1,xf2⟩:=D0.facts
 have HGr:Hid (Calls Tryz.prog 88 #[.agg #[.bool (dN os),.slice q0 (ws (dX os)).length r0,.int .i64 (dE os)]] U fun r w'=>r=.returned (.bool false)∧Below U.heap.size U w'):=by
  have:=rgreat7 (dN os) (dX os) (dE os) q0 r0 U (FF.out.2.2.1.a12 M0) GG.out.2.1 GG.out.2.2.1 GG.out.2.2.2;rw [GG.out.1] at this;exact this
 clear D0 M0
 go_wp2_with fail
 refine HGr.out.mono ?_;rintro r u2 ⟨rfl,hb⟩;have l0:=K1.out.1.below hb;have l1:=K1.out.2.1.below hb;have l2:=K1.out.2.2.1.below hb;have b2:=K1.out.2.2.2.1.trans (hb.mono K1.out.2.2.2.1.size);have hg3:=K1.out.2.2.2.2;obtain ⟨q0,r0,D0,M0⟩:=l0;obtain ⟨y0,y1,y2,yf0,yf1,yf2⟩:=D0.facts;obtain ⟨aV,cV,BV,NV⟩:=l1;unfold laC at BV;obtain ⟨⟨v0,v1,v2⟩,v3,v4,v5,v6,v7,v8⟩:=BV.facts9;have vf0:=BV.frozen 0;have vf1:=BV.frozen 1;have vf2:=BV.frozen 2;obtain ⟨U2,hU2⟩:∃ U2,U2=st3 u2 g (.bool (dN os)) (.slice q0 (ws (dX os)).length r0) (.int .i64 (dE os)):=⟨_,rfl⟩
 have K2:Aside (Bl U2 g 65 (laC os q0 r0 ⟨n,u,d,m,p,a⟩)∧Nt 0 U2 (.slice q0 (ws (dX os)).length r0) (dX os)∧Lt U2 g3 k ot∧But g w U2∧g<g3∧w.heap.size≤U2.heap.size):=by
  rw [hU2];refine ⟨((BV.set 0 _).set 1 _).set 2 _,M0.offA BV (by decide) (st3_but12 _ _ _ _ _),?_,((But.refl g w).of_bel b2).trans (st3_but12 _ _ _ _ _),K0.out.2.2.2,Nat.le_trans b2.size (by simp [st3,World.setCell])⟩
  obtain ⟨aT,cT,BT,NT⟩:=l2;exact ⟨aT,cT,Bl.but BT (st3_but12 _ _ _ _ _) (by have:=K0.out.2.2.2;omega),NT.offA BV (by decide) (st3_but12 _ _ _ _ _)⟩
 unfold st3 at hU2;have HU:=qsd hU2;clear D0 M0 BV NV l2 b2 hb hU2 HGr x0 x1 x2 xf0 xf1 xf2 K1
 go_upto_region 7 with fail
 rw [←HU.out];clear HU v0 v1 v2 v3 v4 v5 v6 v7 v8 vf0 vf1 vf2 y0 y1 y2 yf0 yf1 yf2;obtain ⟨v3,v4,v5,v6,v7,v8⟩:=(show Bl U2 g 65 [_,_,_,_,_,_,_,_,_] from K2.out.1).facts9.2
 obtain ⟨aT,cT,BT,NT⟩:=K2.out.2.2.1;have t0:=BT.cell 0 _ rfl;have HB:Hid (Bl U2 g 65 [.bool (dN os),.slice q0 (ws (dX os)).length r0,.int .i64 (dE os),.int .i64 n,.int .i64 u,.int .i64 d,.int .i64 m,.int .i64 p,.int .i64 a]):=K2.out.1;have hlt:g<U2.heap.size:=HB.out.lt;clear BT NT
 go_region_with (go_at_call 89;refine (HC.out _).mono ?_;rintro r w3 ⟨rfl,hb3⟩;have HQ:=qsd (Bl.below (w:=U2.drew) HB.out hb3 hlt);have q3:=HQ.out.cell 3 _ rfl;have q4:=HQ.out.cell 4 _ rfl;have q5:=HQ.out.cell 5 _ rfl;have q6:=HQ.out.cell 6 _ rfl;have q7:=HQ.out.cell 7 _ rfl;have q8:=HQ.out.cell 8 _ rfl;have f3:=HQ.out.frozen 3;have f4:=HQ.out.frozen 4;have f5:=HQ.out.frozen 5;have f6:=HQ.out.frozen 6;have f7:=HQ.out.frozen 7;have f8:=HQ.out.frozen 8;have HB3:=qsd hb3;clear hb3)
 all_goals
  go_wp2;go_ret;have hbd:Below U2.heap.size U2 w3:=(Below.refl _ U2).drew.trans HB3.out;refine ⟨rfl,⟨q0,r0,((((((HQ.out.set 3 _).set 4 _).set 5 _).set 6 _).set 7 _).set 8 _),?_⟩,?_⟩
  · exact (K2.out.2.1.below hbd).offA HQ.out (by decide) ((((((But.refl g w3).set 3 _).set 4 _).set 5 _).set 6 _).set 7 _ |>.set 8 _)
  · exact K2.out.2.2.2.1.trans (((But.refl g U2).of_bel hbd).trans ((((((But.refl g w3).set 3 _).set 4 _).set 5 _).set 6 _).set 7 _ |>.set 8 _))
end
section
open Go.RowKit
open Go.Proofs.YthfkleadcnkglaaGreatDoor.B (f64bits f64frombits bw bcell)
attribute [local go_sem] f64bits f64frombits
theorem MayBe_any (n u d m p a:Int) (w:World):Calls Tryz.prog 137 #[.agg #[.int .i64 n,.int .i64 u,.int .i64 d,.int .i64 m,.int .i64 p,.int .i64 a]] w fun r w'=>r=.returned (.bool (snd n u d m p a))∧Below w.heap.size w w':=by
 have below:∀ o,Below w.heap.size w (w.alloc o):=fun o=>(Below.refl _ _).alloc (Nat.le_refl _) _
 unfold snd;have Hn:=hid (within_any n);have Hu:=hid (within_any u);have Hd:=hid (within_any d);have Hm:=hid (within_any m);have Hp:=hid (within_any p);have Ha:=hid (within_any a);have h1:(ct n=false)∨(ct n=true∧ct u=false)∨(ct n=true∧ct u=true∧ct d=false)∨(ct n=true∧ct u=true∧ct d=true):=by cases ct n <;> cases ct u <;> cases ct d <;> simp
 have h2:(ct m=false)∨(ct m=true∧ct p=false)∨(ct m=true∧ct p=true∧ct a=false)∨(ct m=true∧ct p=true∧ct a=true):=by cases ct m <;> cases ct p <;> cases ct a <;> simp
 rcases h1 with e1|⟨e1,e2⟩|⟨e1,e2,e3⟩|⟨e1,e2,e3⟩ <;> rcases h2 with g1|⟨g1,g2⟩|⟨g1,g2,g3⟩|⟨g1,g2,g3⟩
 · rw [e1,g1]
   rw [e1] at Hn;rw [g1] at Hm;clear e1 g1;go_enter Tryz.func137,Tryz.ntmps137
   go_wp2_with fail
   refine (Hn.out _).mono ?_;rintro r w1 ⟨rfl,rfl⟩
   go_wp2_with fail
   refine (Hm.out _).mono ?_;rintro r w1 ⟨rfl,rfl⟩;go_wp2;go_ret;exact ⟨by first | rfl | simp,below _⟩
 · rw [e1,g1,g2]
   rw [e1] at Hn;rw [g1] at Hm;rw [g2] at Hp;clear e1 g1 g2;go_enter Tryz.func137,Tryz.ntmps137
   go_wp2_with fail
   refine (Hn.out _).mono ?_;rintro r w1 ⟨rfl,rfl⟩
   go_wp2_with fail
   refine (Hm.out _).mono ?_;rintro r w1 ⟨rfl,rfl⟩
   go_wp2_with fail
   refine (Hp.out _).mono ?_;rintro r w1 ⟨rfl,rfl⟩;go_wp2;go_ret;exact ⟨by first | rfl | simp,below _⟩
 · rw [e1,g1,g2,g3]
   rw [e1] at Hn;rw [g1] at Hm;rw [g2] at Hp;rw [g3] at Ha;clear e1 g1 g2 g3;go_enter Tryz.func137,Tryz.ntmps137
   go_wp2_with fail
   refine (Hn.out _).mono ?_;rintro r w1 ⟨rfl,rfl⟩
   go_wp2_with fail
   refine (Hm.out _).mono ?_;rintro r w1 ⟨rfl,rfl⟩
   go_wp2_with fail
   refine (Hp.out _).mono ?_;rintro r w1 ⟨rfl,rfl⟩
   go_wp2_with fail
   refine (Ha.out _).mono ?_;rintro r w1 ⟨rfl,rfl⟩;go_wp2;go_ret;exact ⟨by first | rfl | simp,below _⟩
 · rw [e1,g1,g2,g3]
   rw [e1] at Hn;rw [g1] at Hm;rw [g2] at Hp;rw [g3] at Ha;clear e1 g1 g2 g3;go_enter Tryz.func137,Tryz.ntmps137
   go_wp2_with fail
   refine (Hn.out _).mono ?_;rintro r w1 ⟨rfl,rfl⟩
   go_wp2_with fail
   refine (Hm.out _).mono ?_;rintro r w1 ⟨rfl,rfl⟩
   go_wp2_with fail
   refine (Hp.out _).mono ?_;rintro r w1 ⟨rfl,rfl⟩
   go_wp2_with fail
   refine (Ha.out _).mono ?_;rintro r w1 ⟨rfl,rfl⟩;go_wp2;go_ret;exact ⟨by first | rfl | simp,below _⟩
 · rw [e1,e2,g1]
   rw [e1] at Hn;rw [e2] at Hu;rw [g1] at Hm;clear e1 e2 g1;go_enter Tryz.func137,Tryz.ntmps137
   go_wp2_with fail
   refine (Hn.out _).mono ?_;rintro r w1 ⟨rfl,rfl⟩
   go_wp2_with fail
   refine (Hu.out _).mono ?_;rintro r w1 ⟨rfl,rfl⟩
   go_wp2_with fail
   refine (Hm.out _).mono ?_;rintro r w1 ⟨rfl,rfl⟩;go_wp2;go_ret;exact ⟨by first | rfl | simp,below _⟩
 · rw [e1,e2,g1,g2]
   rw [e1] at Hn;rw [e2] at Hu;rw [g1] at Hm;rw [g2] at Hp;clear e1 e2 g1 g2;go_enter Tryz.func137,Tryz.ntmps137
   go_wp2_with fail
   refine (Hn.out _).mono ?_;rintro r w1 ⟨rfl,rfl⟩
   go_wp2_with fail
   refine (Hu.out _).mono ?_;rintro r w1 ⟨rfl,rfl⟩
   go_wp2_with fail
   refine (Hm.out _).mono ?_;rintro r w1 ⟨rfl,rfl⟩
   go_wp2_with fail
   refine (Hp.out _).mono ?_;rintro r w1 ⟨rfl,rfl⟩;go_wp2;go_ret;exact ⟨by first | rfl | simp,below _⟩
 · rw [e1,e2,g1,g2,g3]
   rw [e1] at Hn;rw [e2] at Hu;rw [g1] at Hm;rw [g2] at Hp;rw [g3] at Ha;clear e1 e2 g1 g2 g3;go_enter Tryz.func137,Tryz.ntmps137
   go_wp2_with fail
   refine (Hn.out _).mono ?_;rintro r w1 ⟨rfl,rfl⟩
   go_wp2_with fail
   refine (Hu.out _).mono ?_;rintro r w1 ⟨rfl,rfl⟩
   go_wp2_with fail
   refine (Hm.out _).mono ?_;rintro r w1 ⟨rfl,rfl⟩
   go_wp2_with fail
   refine (Hp.out _).mono ?_;rintro r w1 ⟨rfl,rfl⟩
   go_wp2_with fail
   refine (Ha.out _).mono ?_;rintro r w1 ⟨rfl,rfl⟩;go_wp2;go_ret;exact ⟨by first | rfl | simp,below _⟩
 · rw [e1,e2,g1,g2,g3]
   rw [e1] at Hn;rw [e2] at Hu;rw [g1] at Hm;rw [g2] at Hp;rw [g3] at Ha;clear e1 e2 g1 g2 g3;go_enter Tryz.func137,Tryz.ntmps137
   go_wp2_with fail
   refine (Hn.out _).mono ?_;rintro r w1 ⟨rfl,rfl⟩
   go_wp2_with fail
   refine (Hu.out _).mono ?_;rintro r w1 ⟨rfl,rfl⟩
   go_wp2_with fail
   refine (Hm.out _).mono ?_;rintro r w1 ⟨rfl,rfl⟩
   go_wp2_with fail
   refine (Hp.out _).mono ?_;rintro r w1 ⟨rfl,rfl⟩
   go_wp2_with fail
   refine (Ha.out _).mono ?_;rintro r w1 ⟨rfl,rfl⟩;go_wp2;go_ret;exact ⟨by first | rfl | simp,below _⟩
 · rw [e1,e2,e3,g1]
   rw [e1] at Hn;rw [e2] at Hu;rw [e3] at Hd;rw [g1] at Hm;clear e1 e2 e3 g1;go_enter Tryz.func137,Tryz.ntmps137
   go_wp2_with fail
   refine (Hn.out _).mono ?_;rintro r w1 ⟨rfl,rfl⟩
   go_wp2_with fail
   refine (Hu.out _).mono ?_;rintro r w1 ⟨rfl,rfl⟩
   go_wp2_with fail
   refine (Hd.out _).mono ?_;rintro r w1 ⟨rfl,rfl⟩
   go_wp2_with fail
   refine (Hm.out _).mono ?_;rintro r w1 ⟨rfl,rfl⟩;go_wp2;go_ret;exact ⟨by first | rfl | simp,below _⟩
 · rw [e1,e2,e3,g1,g2]
   rw [e1] at Hn;rw [e2] at Hu;rw [e3] at Hd;rw [g1] at Hm;rw [g2] at Hp;clear e1 e2 e3 g1 g2;go_enter Tryz.func137,Tryz.ntmps137
   go_wp2_with fail
   refine (Hn.out _).mono ?_;rintro r w1 ⟨rfl,rfl⟩
   go_wp2_with fail
   refine (Hu.out _).mono ?_;rintro r w1 ⟨rfl,rfl⟩
   go_wp2_with fail
   refine (Hd.out _).mono ?_;rintro r w1 ⟨rfl,rfl⟩
   go_wp2_with fail
   refine (Hm.out _).mono ?_;rintro r w1 ⟨rfl,rfl⟩
   go_wp2_with fail
   refine (Hp.out _).mono ?_;rintro r w1 ⟨rfl,rfl⟩;go_wp2;go_ret;exact ⟨by first | rfl | simp,below _⟩
 · rw [e1,e2,e3,g1,g2,g3]
   rw [e1] at Hn;rw [e2] at Hu;rw [e3] at Hd;rw [g1] at Hm;rw [g2] at Hp;rw [g3] at Ha;clear e1 e2 e3 g1 g2 g3;go_enter Tryz.func137,Tryz.ntmps137
   go_wp2_with fail
   refine (Hn.out _).mono ?_;rintro r w1 ⟨rfl,rfl⟩
   go_wp2_with fail
   refine (Hu.out _).mono ?_;rintro r w1 ⟨rfl,rfl⟩
   go_wp2_with fail
   refine (Hd.out _).mono ?_;rintro r w1 ⟨rfl,rfl⟩
   go_wp2_with fail
   refine (Hm.out _).mono ?_;rintro r w1 ⟨rfl,rfl⟩
   go_wp2_with fail
   refine (Hp.out _).mono ?_;rintro r w1 ⟨rfl,rfl⟩
   go_wp2_with fail
   refine (Ha.out _).mono ?_;rintro r w1 ⟨rfl,rfl⟩;go_wp2;go_ret;exact ⟨by first | rfl | simp,below _⟩
 · rw [e1,e2,e3,g1,g2,g3]
   rw [e1] at Hn;rw [e2] at Hu;rw [e3] at Hd;rw [g1] at Hm;rw [g2] at Hp;rw [g3] at Ha;clear e1 e2 e3 g1 g2 g3;go_enter Tryz.func137,Tryz.ntmps137
   go_wp2_with fail
   refine (Hn.out _).mono ?_;rintro r w1 ⟨rfl,rfl⟩
   go_wp2_with fail
   refine (Hu.out _).mono ?_;rintro r w1 ⟨rfl,rfl⟩
   go_wp2_with fail
   refine (Hd.out _).mono ?_;rintro r w1 ⟨rfl,rfl⟩
   go_wp2_with fail
   refine (Hm.out _).mono ?_;rintro r w1 ⟨rfl,rfl⟩
   go_wp2_with fail
   refine (Hp.out _).mono ?_;rintro r w1 ⟨rfl,rfl⟩
   go_wp2_with fail
   refine (Ha.out _).mono ?_;rintro r w1 ⟨rfl,rfl⟩;go_wp2;go_ret;exact ⟨by first | rfl | simp,below _⟩
 · rw [e1,e2,e3,g1]
   rw [e1] at Hn;rw [e2] at Hu;rw [e3] at Hd;rw [g1] at Hm;clear e1 e2 e3 g1;go_enter Tryz.func137,Tryz.ntmps137
   go_wp2_with fail
   refine (Hn.out _).mono ?_;rintro r w1 ⟨rfl,rfl⟩
   go_wp2_with fail
   refine (Hu.out _).mono ?_;rintro r w1 ⟨rfl,rfl⟩
   go_wp2_with fail
   refine (Hd.out _).mono ?_;rintro r w1 ⟨rfl,rfl⟩
   go_wp2_with fail
   refine (Hm.out _).mono ?_;rintro r w1 ⟨rfl,rfl⟩;go_wp2;go_ret;exact ⟨by first | rfl | simp,below _⟩
 · rw [e1,e2,e3,g1,g2]
   rw [e1] at Hn;rw [e2] at Hu;rw [e3] at Hd;rw [g1] at Hm;rw [g2] at Hp;clear e1 e2 e3 g1 g2;go_enter Tryz.func137,Tryz.ntmps137
   go_wp2_with fail
   refine (Hn.out _).mono ?_;rintro r w1 ⟨rfl,rfl⟩
   go_wp2_with fail
   refine (Hu.out _).mono ?_;rintro r w1 ⟨rfl,rfl⟩
   go_wp2_with fail
   refine (Hd.out _).mono ?_;rintro r w1 ⟨rfl,rfl⟩
   go_wp2_with fail
   refine (Hm.out _).mono ?_;rintro r w1 ⟨rfl,rfl⟩
   go_wp2_with fail
   refine (Hp.out _).mono ?_;rintro r w1 ⟨rfl,rfl⟩;go_wp2;go_ret;exact ⟨by first | rfl | simp,below _⟩
 · rw [e1,e2,e3,g1,g2,g3]
   rw [e1] at Hn;rw [e2] at Hu;rw [e3] at Hd;rw [g1] at Hm;rw [g2] at Hp;rw [g3] at Ha;clear e1 e2 e3 g1 g2 g3;go_enter Tryz.func137,Tryz.ntmps137
   go_wp2_with fail
   refine (Hn.out _).mono ?_;rintro r w1 ⟨rfl,rfl⟩
   go_wp2_with fail
   refine (Hu.out _).mono ?_;rintro r w1 ⟨rfl,rfl⟩
   go_wp2_with fail
   refine (Hd.out _).mono ?_;rintro r w1 ⟨rfl,rfl⟩
   go_wp2_with fail
   refine (Hm.out _).mono ?_;rintro r w1 ⟨rfl,rfl⟩
   go_wp2_with fail
   refine (Hp.out _).mono ?_;rintro r w1 ⟨rfl,rfl⟩
   go_wp2_with fail
   refine (Ha.out _).mono ?_;rintro r w1 ⟨rfl,rfl⟩;go_wp2;go_ret;exact ⟨by first | rfl | simp,below _⟩
 · rw [e1,e2,e3,g1,g2,g3]
   rw [e1] at Hn;rw [e2] at Hu;rw [e3] at Hd;rw [g1] at Hm;rw [g2] at Hp;rw [g3] at Ha;have kn:=ct_true e1;have ku:=ct_true e2;have kd:=ct_true e3;have km:=ct_true g1;have kp:=ct_true g2;have ka:=ct_true g3;clear e1 e2 e3 g1 g2 g3;go_enter Tryz.func137,Tryz.ntmps137
   go_wp2_with fail
   refine (Hn.out _).mono ?_;rintro r w1 ⟨rfl,rfl⟩
   go_wp2_with fail
   refine (Hu.out _).mono ?_;rintro r w1 ⟨rfl,rfl⟩
   go_wp2_with fail
   refine (Hd.out _).mono ?_;rintro r w1 ⟨rfl,rfl⟩
   go_wp2_with fail
   refine (Hm.out _).mono ?_;rintro r w1 ⟨rfl,rfl⟩
   go_wp2_with fail
   refine (Hp.out _).mono ?_;rintro r w1 ⟨rfl,rfl⟩
   go_wp2_with fail
   refine (Ha.out _).mono ?_;rintro r w1 ⟨rfl,rfl⟩;go_wp2;go_ret;exact ⟨by first | rfl | simp,below _⟩
end
section
open Go.RowKit
open Go.Proofs.YthfkleadcnkglaaGreatDoor.B (f64bits f64frombits bw bcell)
attribute [local go_sem] f64bits f64frombits
theorem rVerdict_any (n u d m p l a b:Int) (w:World):Calls Tryz.prog 95 #[.agg #[.int .i64 n,.int .i64 u,.int .i64 d,.int .i64 m,.int .i64 p,.int .i64 l],.agg #[.int .i64 a,.int .i64 b]] w fun r w'=>r=.returned (.tuple #[.float .f64 (vd (snd n u d m p l&&may a b) n u d a b).1,.bool (vd (snd n u d m p l&&may a b) n u d a b).2])∧Below w.heap.size w w':=by
 have HS:=hid (MayBe_any n u d m p l);have HM:=hid (rMay_any a b);have HN:=hid (TheNaN_any);have HU:=hid (rInf_any false);have HD:=hid (rInf_any true)
 rcases hs:snd n u d m p l with _|_
 · rw [hs] at HS
   rw [Bool.false_and];have hv:vd false n u d a b=(0,false):=by unfold vd;rw [if_pos rfl]
   rw [hv];obtain ⟨mb,hmb⟩:∃ mb,may a b=mb:=⟨_,rfl⟩;rw [hmb] at HM;clear hs hv hmb;go_enter Tryz.func95,Tryz.ntmps95
   go_wp2_with fail
   refine (HS.out _).mono ?_;rintro r w1 ⟨rfl,hb1⟩;have hz1:=hb1.size;simp at hz1;obtain ⟨hc1,hf1⟩:=bcell hb1;have B1:=qsd hb1;clear hb1
   go_wp2_with fail
   refine (HM.out _).mono ?_;rintro r w2 ⟨rfl,hb2⟩;have hz2:=hb2.size;obtain ⟨hc2,hf2⟩:=bcell hb2;have hc3:∀ b o,b<w.heap.size+1+1→w2.cell? ⟨b,o,none⟩=w1.cell? ⟨b,o,none⟩:=fun b o h=>hc2 b o (by omega)
   have B2:=qsd hb2;clear hb2 hc2 hf2;go_wp2
   go_ret2
   exact ⟨by first | rfl | simp,((((Below.refl _ w).alloc (Nat.le_refl _) _).alloc (by simp) _).trans (B1.out.mono (by simp;omega))).trans (B2.out.mono (by omega))⟩
 rcases hm:may a b with _|_
 · rw [hs] at HS
   rw [hm] at HM;have hv:vd (true&&false) n u d a b=(0,false):=if_pos rfl;rw [hv];clear hs hm hv;go_enter Tryz.func95,Tryz.ntmps95
   go_wp2_with fail
   refine (HS.out _).mono ?_;rintro r w1 ⟨rfl,hb1⟩;have hz1:=hb1.size;simp at hz1;obtain ⟨hc1,hf1⟩:=bcell hb1;have B1:=qsd hb1;clear hb1
   go_wp2_with fail
   refine (HM.out _).mono ?_;rintro r w2 ⟨rfl,hb2⟩;have hz2:=hb2.size;obtain ⟨hc2,hf2⟩:=bcell hb2;have hc3:∀ b o,b<w.heap.size+1+1→w2.cell? ⟨b,o,none⟩=w1.cell? ⟨b,o,none⟩:=fun b o h=>hc2 b o (by omega)
   have B2:=qsd hb2;clear hb2 hc2 hf2;go_wp2
   go_ret2
   exact ⟨by first | rfl | simp,((((Below.refl _ w).alloc (Nat.le_refl _) _).alloc (by simp) _).trans (B1.out.mono (by simp;omega))).trans (B2.out.mono (by omega))⟩
 rw [hs] at HS;rw [hm] at HM;rw [Bool.true_and];clear hs hm
 have way1:0<n→a=0→Calls Tryz.prog 95 #[.agg #[.int .i64 n,.int .i64 u,.int .i64 d,.int .i64 m,.int .i64 p,.int .i64 l],.agg #[.int .i64 a,.int .i64 b]] w fun r w'=>r=.returned (.tuple #[.float .f64 (vd true n u d a b).1,.bool (vd true n u d a b).2])∧Below w.heap.size w w':=by
  intro p1 p2;have hv:vd true n u d a b=(9221120237041090560,true):=by unfold vd;rw [if_neg (by decide),if_pos ⟨p1,p2⟩]
  rw [hv];clear hv;have q1:0<n:=p1;have q2:a=0:=p2;subst q2;go_enter Tryz.func95,Tryz.ntmps95
  go_wp2_with fail
  refine (HS.out _).mono ?_;rintro r w1 ⟨rfl,hb1⟩;have hz1:=hb1.size;simp at hz1;obtain ⟨hc1,hf1⟩:=bcell hb1;have B1:=qsd hb1;clear hb1
  go_wp2_with fail
  refine (HM.out _).mono ?_;rintro r w2 ⟨rfl,hb2⟩;have hz2:=hb2.size;obtain ⟨hc2,hf2⟩:=bcell hb2;have hc3:∀ b o,b<w.heap.size+1+1→w2.cell? ⟨b,o,none⟩=w1.cell? ⟨b,o,none⟩:=fun b o h=>hc2 b o (by omega)
  have B2:=qsd hb2;clear hb2 hc2 hf2
  go_wp2_with fail
  refine (HN.out _).mono ?_;rintro r w3 ⟨rfl,rfl⟩;go_wp2
  go_ret2
  exact ⟨by first | rfl | simp,((((Below.refl _ w).alloc (Nat.le_refl _) _).alloc (by simp) _).trans (B1.out.mono (by simp;omega))).trans (B2.out.mono (by omega))⟩
 have way2:0<n→¬ (a=0)→¬ (b=0)→Calls Tryz.prog 95 #[.agg #[.int .i64 n,.int .i64 u,.int .i64 d,.int .i64 m,.int .i64 p,.int .i64 l],.agg #[.int .i64 a,.int .i64 b]] w fun r w'=>r=.returned (.tuple #[.float .f64 (vd true n u d a b).1,.bool (vd true n u d a b).2])∧Below w.heap.size w w':=by
  intro p1 p2 p3;have hv:vd true n u d a b=(0,false):=by unfold vd;rw [if_neg (by decide),if_neg (fun h=>p2 h.2),if_pos p3]
  rw [hv];clear hv;have q1:0<n:=p1;have q2:(a==0)=false:=by rw [beq_eq_false_iff_ne];exact p2
  have q3:(b==0)=false:=by rw [beq_eq_false_iff_ne];exact p3
  go_enter Tryz.func95,Tryz.ntmps95
  go_wp2_with fail
  refine (HS.out _).mono ?_;rintro r w1 ⟨rfl,hb1⟩;have hz1:=hb1.size;simp at hz1;obtain ⟨hc1,hf1⟩:=bcell hb1;have B1:=qsd hb1;clear hb1
  go_wp2_with fail
  refine (HM.out _).mono ?_;rintro r w2 ⟨rfl,hb2⟩;have hz2:=hb2.size;obtain ⟨hc2,hf2⟩:=bcell hb2;have hc3:∀ b o,b<w.heap.size+1+1→w2.cell? ⟨b,o,none⟩=w1.cell? ⟨b,o,none⟩:=fun b o h=>hc2 b o (by omega)
  have B2:=qsd hb2;clear hb2 hc2 hf2;go_wp2
  go_ret2
  exact ⟨by first | rfl | simp,((((Below.refl _ w).alloc (Nat.le_refl _) _).alloc (by simp) _).trans (B1.out.mono (by simp;omega))).trans (B2.out.mono (by omega))⟩
 have way3:0<n→¬ (a=0)→b=0→0<u→0<d→Calls Tryz.prog 95 #[.agg #[.int .i64 n,.int .i64 u,.int .i64 d,.int .i64 m,.int .i64 p,.int .i64 l],.agg #[.int .i64 a,.int .i64 b]] w fun r w'=>r=.returned (.tuple #[.float .f64 (vd true n u d a b).1,.bool (vd true n u d a b).2])∧Below w.heap.size w w':=by
  intro p1 p2 p3 p4 p5;have hv:vd true n u d a b=(9221120237041090560,true):=by unfold vd;rw [if_neg (by decide),if_neg (fun h=>p2 h.2),if_neg (not_not_intro p3),if_pos ⟨p4,p5⟩]
  rw [hv];clear hv;have q1:0<n:=p1;have q2:(a==0)=false:=by rw [beq_eq_false_iff_ne];exact p2
  have q3:b=0:=p3;have q4:0<u:=p4;have q5:0<d:=p5;subst q3;go_enter Tryz.func95,Tryz.ntmps95
  go_wp2_with fail
  refine (HS.out _).mono ?_;rintro r w1 ⟨rfl,hb1⟩;have hz1:=hb1.size;simp at hz1;obtain ⟨hc1,hf1⟩:=bcell hb1;have B1:=qsd hb1;clear hb1
  go_wp2_with fail
  refine (HM.out _).mono ?_;rintro r w2 ⟨rfl,hb2⟩;have hz2:=hb2.size;obtain ⟨hc2,hf2⟩:=bcell hb2;have hc3:∀ b o,b<w.heap.size+1+1→w2.cell? ⟨b,o,none⟩=w1.cell? ⟨b,o,none⟩:=fun b o h=>hc2 b o (by omega)
  have B2:=qsd hb2;clear hb2 hc2 hf2
  go_wp2_with fail
  refine (HN.out _).mono ?_;rintro r w3 ⟨rfl,rfl⟩;go_wp2
  go_ret2
  exact ⟨by first | rfl | simp,((((Below.refl _ w).alloc (Nat.le_refl _) _).alloc (by simp) _).trans (B1.out.mono (by simp;omega))).trans (B2.out.mono (by omega))⟩
 have way4:0<n→¬ (a=0)→b=0→0<u→¬ (0<d)→Calls Tryz.prog 95 #[.agg #[.int .i64 n,.int .i64 u,.int .i64 d,.int .i64 m,.int .i64 p,.int .i64 l],.agg #[.int .i64 a,.int .i64 b]] w fun r w'=>r=.returned (.tuple #[.float .f64 (vd true n u d a b).1,.bool (vd true n u d a b).2])∧Below w.heap.size w w':=by
  intro p1 p2 p3 p4 p5;have hv:vd true n u d a b=(9218868437227405312,true):=by unfold vd;rw [if_neg (by decide),if_neg (fun h=>p2 h.2),if_neg (not_not_intro p3),if_neg (fun h=>p5 h.2),if_pos p4]
  rw [hv];clear hv;have q1:0<n:=p1;have q2:(a==0)=false:=by rw [beq_eq_false_iff_ne];exact p2
  have q3:b=0:=p3;have q4:0<u:=p4;have q5:decide (0<d)=false:=decide_eq_false p5;subst q3;go_enter Tryz.func95,Tryz.ntmps95
  go_wp2_with fail
  refine (HS.out _).mono ?_;rintro r w1 ⟨rfl,hb1⟩;have hz1:=hb1.size;simp at hz1;obtain ⟨hc1,hf1⟩:=bcell hb1;have B1:=qsd hb1;clear hb1
  go_wp2_with fail
  refine (HM.out _).mono ?_;rintro r w2 ⟨rfl,hb2⟩;have hz2:=hb2.size;obtain ⟨hc2,hf2⟩:=bcell hb2;have hc3:∀ b o,b<w.heap.size+1+1→w2.cell? ⟨b,o,none⟩=w1.cell? ⟨b,o,none⟩:=fun b o h=>hc2 b o (by omega)
  have B2:=qsd hb2;clear hb2 hc2 hf2
  go_wp2_with fail
  refine (HU.out _).mono ?_;rintro r w3 ⟨rfl,rfl⟩;go_wp2
  go_ret2
  exact ⟨by first | rfl | simp,((((Below.refl _ w).alloc (Nat.le_refl _) _).alloc (by simp) _).trans (B1.out.mono (by simp;omega))).trans (B2.out.mono (by omega))⟩
 have way5:0<n→¬ (a=0)→b=0→¬ (0<u)→0<d→Calls Tryz.prog 95 #[.agg #[.int .i64 n,.int .i64 u,.int .i64 d,.int .i64 m,.int .i64 p,.int .i64 l],.agg #[.int .i64 a,.int .i64 b]] w fun r w'=>r=.returned (.tuple #[.float .f64 (vd true n u d a b).1,.bool (vd true n u d a b).2])∧Below w.heap.size w w':=by
  intro p1 p2 p3 p4 p5;have hv:vd true n u d a b=(18442240474082181120,true):=by unfold vd;rw [if_neg (by decide),if_neg (fun h=>p2 h.2),if_neg (not_not_intro p3),if_neg (fun h=>p4 h.1),if_neg p4,if_pos p5]
  rw [hv];clear hv;have q1:0<n:=p1;have q2:(a==0)=false:=by rw [beq_eq_false_iff_ne];exact p2
  have q3:b=0:=p3;have q4:decide (0<u)=false:=decide_eq_false p4;have q5:0<d:=p5;subst q3;go_enter Tryz.func95,Tryz.ntmps95
  go_wp2_with fail
  refine (HS.out _).mono ?_;rintro r w1 ⟨rfl,hb1⟩;have hz1:=hb1.size;simp at hz1;obtain ⟨hc1,hf1⟩:=bcell hb1;have B1:=qsd hb1;clear hb1
  go_wp2_with fail
  refine (HM.out _).mono ?_;rintro r w2 ⟨rfl,hb2⟩;have hz2:=hb2.size;obtain ⟨hc2,hf2⟩:=bcell hb2;have hc3:∀ b o,b<w.heap.size+1+1→w2.cell? ⟨b,o,none⟩=w1.cell? ⟨b,o,none⟩:=fun b o h=>hc2 b o (by omega)
  have B2:=qsd hb2;clear hb2 hc2 hf2
  go_wp2_with fail
  refine (HD.out _).mono ?_;rintro r w3 ⟨rfl,rfl⟩;go_wp2
  go_ret2
  exact ⟨by first | rfl | simp,((((Below.refl _ w).alloc (Nat.le_refl _) _).alloc (by simp) _).trans (B1.out.mono (by simp;omega))).trans (B2.out.mono (by omega))⟩
 have way6:0<n→¬ (a=0)→b=0→¬ (0<u)→¬ (0<d)→Calls Tryz.prog 95 #[.agg #[.int .i64 n,.int .i64 u,.int .i64 d,.int .i64 m,.int .i64 p,.int .i64 l],.agg #[.int .i64 a,.int .i64 b]] w fun r w'=>r=.returned (.tuple #[.float .f64 (vd true n u d a b).1,.bool (vd true n u d a b).2])∧Below w.heap.size w w':=by
  intro p1 p2 p3 p4 p5;have hv:vd true n u d a b=(0,false):=by unfold vd;rw [if_neg (by decide),if_neg (fun h=>p2 h.2),if_neg (not_not_intro p3),if_neg (fun h=>p4 h.1),if_neg p4,if_neg p5]
  rw [hv];clear hv;have q1:0<n:=p1;have q2:(a==0)=false:=by rw [beq_eq_false_iff_ne];exact p2
  have q3:b=0:=p3;have q4:decide (0<u)=false:=decide_eq_false p4;have q5:decide (0<d)=false:=decide_eq_false p5;subst q3;go_enter Tryz.func95,Tryz.ntmps95
  go_wp2_with fail
  refine (HS.out _).mono ?_;rintro r w1 ⟨rfl,hb1⟩;have hz1:=hb1.size;simp at hz1;obtain ⟨hc1,hf1⟩:=bcell hb1;have B1:=qsd hb1;clear hb1
  go_wp2_with fail
  refine (HM.out _).mono ?_;rintro r w2 ⟨rfl,hb2⟩;have hz2:=hb2.size;obtain ⟨hc2,hf2⟩:=bcell hb2;have hc3:∀ b o,b<w.heap.size+1+1→w2.cell? ⟨b,o,none⟩=w1.cell? ⟨b,o,none⟩:=fun b o h=>hc2 b o (by omega)
  have B2:=qsd hb2;clear hb2 hc2 hf2;go_wp2
  go_ret2
  exact ⟨by first | rfl | simp,((((Below.refl _ w).alloc (Nat.le_refl _) _).alloc (by simp) _).trans (B1.out.mono (by simp;omega))).trans (B2.out.mono (by omega))⟩
 have way7:¬ (0<n)→¬ (b=0)→Calls Tryz.prog 95 #[.agg #[.int .i64 n,.int .i64 u,.int .i64 d,.int .i64 m,.int .i64 p,.int .i64 l],.agg #[.int .i64 a,.int .i64 b]] w fun r w'=>r=.returned (.tuple #[.float .f64 (vd true n u d a b).1,.bool (vd true n u d a b).2])∧Below w.heap.size w w':=by
  intro p1 p3;have hv:vd true n u d a b=(0,false):=by unfold vd;rw [if_neg (by decide),if_neg (fun h=>p1 h.1),if_pos p3]
  rw [hv];clear hv;have q1:decide (0<n)=false:=decide_eq_false p1;have q3:(b==0)=false:=by rw [beq_eq_false_iff_ne];exact p3
  go_enter Tryz.func95,Tryz.ntmps95
  go_wp2_with fail
  refine (HS.out _).mono ?_;rintro r w1 ⟨rfl,hb1⟩;have hz1:=hb1.size;simp at hz1;obtain ⟨hc1,hf1⟩:=bcell hb1;have B1:=qsd hb1;clear hb1
  go_wp2_with fail
  refine (HM.out _).mono ?_;rintro r w2 ⟨rfl,hb2⟩;have hz2:=hb2.size;obtain ⟨hc2,hf2⟩:=bcell hb2;have hc3:∀ b o,b<w.heap.size+1+1→w2.cell? ⟨b,o,none⟩=w1.cell? ⟨b,o,none⟩:=fun b o h=>hc2 b o (by omega)
  have B2:=qsd hb2;clear hb2 hc2 hf2;go_wp2
  go_ret2
  exact ⟨by first | rfl | simp,((((Below.refl _ w).alloc (Nat.le_refl _) _).alloc (by simp) _).trans (B1.out.mono (by simp;omega))).trans (B2.out.mono (by omega))⟩
 have way8:¬ (0<n)→b=0→0<u→0<d→Calls Tryz.prog 95 #[.agg #[.int .i64 n,.int .i64 u,.int .i64 d,.int .i64 m,.int .i64 p,.int .i64 l],.agg #[.int .i64 a,.int .i64 b]] w fun r w'=>r=.returned (.tuple #[.float .f64 (vd true n u d a b).1,.bool (vd true n u d a b).2])∧Below w.heap.size w w':=by
  intro p1 p3 p4 p5;have hv:vd true n u d a b=(9221120237041090560,true):=by unfold vd;rw [if_neg (by decide),if_neg (fun h=>p1 h.1),if_neg (not_not_intro p3),if_pos ⟨p4,p5⟩]
  rw [hv];clear hv;have q1:decide (0<n)=false:=decide_eq_false p1;have q3:b=0:=p3;have q4:0<u:=p4;have q5:0<d:=p5;subst q3;go_enter Tryz.func95,Tryz.ntmps95
  go_wp2_with fail
  refine (HS.out _).mono ?_;rintro r w1 ⟨rfl,hb1⟩;have hz1:=hb1.size;simp at hz1;obtain ⟨hc1,hf1⟩:=bcell hb1;have B1:=qsd hb1;clear hb1
  go_wp2_with fail
  refine (HM.out _).mono ?_;rintro r w2 ⟨rfl,hb2⟩;have hz2:=hb2.size;obtain ⟨hc2,hf2⟩:=bcell hb2;have hc3:∀ b o,b<w.heap.size+1+1→w2.cell? ⟨b,o,none⟩=w1.cell? ⟨b,o,none⟩:=fun b o h=>hc2 b o (by omega)
  have B2:=qsd hb2;clear hb2 hc2 hf2
  go_wp2_with fail
  refine (HN.out _).mono ?_;rintro r w3 ⟨rfl,rfl⟩;go_wp2
  go_ret2
  exact ⟨by first | rfl | simp,((((Below.refl _ w).alloc (Nat.le_refl _) _).alloc (by simp) _).trans (B1.out.mono (by simp;omega))).trans (B2.out.mono (by omega))⟩
 have way9:¬ (0<n)→b=0→0<u→¬ (0<d)→Calls Tryz.prog 95 #[.agg #[.int .i64 n,.int .i64 u,.int .i64 d,.int .i64 m,.int .i64 p,.int .i64 l],.agg #[.int .i64 a,.int .i64 b]] w fun r w'=>r=.returned (.tuple #[.float .f64 (vd true n u d a b).1,.bool (vd true n u d a b).2])∧Below w.heap.size w w':=by
  intro p1 p3 p4 p5;have hv:vd true n u d a b=(9218868437227405312,true):=by unfold vd;rw [if_neg (by decide),if_neg (fun h=>p1 h.1),if_neg (not_not_intro p3),if_neg (fun h=>p5 h.2),if_pos p4]
  rw [hv];clear hv;have q1:decide (0<n)=false:=decide_eq_false p1;have q3:b=0:=p3;have q4:0<u:=p4;have q5:decide (0<d)=false:=decide_eq_false p5;subst q3;go_enter Tryz.func95,Tryz.ntmps95
  go_wp2_with fail
  refine (HS.out _).mono ?_;rintro r w1 ⟨rfl,hb1⟩;have hz1:=hb1.size;simp at hz1;obtain ⟨hc1,hf1⟩:=bcell hb1;have B1:=qsd hb1;clear hb1
  go_wp2_with fail
  refine (HM.out _).mono ?_;rintro r w2 ⟨rfl,hb2⟩;have hz2:=hb2.size;obtain ⟨hc2,hf2⟩:=bcell hb2;have hc3:∀ b o,b<w.heap.size+1+1→w2.cell? ⟨b,o,none⟩=w1.cell? ⟨b,o,none⟩:=fun b o h=>hc2 b o (by omega)
  have B2:=qsd hb2;clear hb2 hc2 hf2
  go_wp2_with fail
  refine (HU.out _).mono ?_;rintro r w3 ⟨rfl,rfl⟩;go_wp2
  go_ret2
  exact ⟨by first | rfl | simp,((((Below.refl _ w).alloc (Nat.le_refl _) _).alloc (by simp) _).trans (B1.out.mono (by simp;omega))).trans (B2.out.mono (by omega))⟩
 have way10:¬ (0<n)→b=0→¬ (0<u)→0<d→Calls Tryz.prog 95 #[.agg #[.int .i64 n,.int .i64 u,.int .i64 d,.int .i64 m,.int .i64 p,.int .i64 l],.agg #[.int .i64 a,.int .i64 b]] w fun r w'=>r=.returned (.tuple #[.float .f64 (vd true n u d a b).1,.bool (vd true n u d a b).2])∧Below w.heap.size w w':=by
  intro p1 p3 p4 p5;have hv:vd true n u d a b=(18442240474082181120,true):=by unfold vd;rw [if_neg (by decide),if_neg (fun h=>p1 h.1),if_neg (not_not_intro p3),if_neg (fun h=>p4 h.1),if_neg p4,if_pos p5]
  rw [hv];clear hv;have q1:decide (0<n)=false:=decide_eq_false p1;have q3:b=0:=p3;have q4:decide (0<u)=false:=decide_eq_false p4;have q5:0<d:=p5;subst q3;go_enter Tryz.func95,Tryz.ntmps95
  go_wp2_with fail
  refine (HS.out _).mono ?_;rintro r w1 ⟨rfl,hb1⟩;have hz1:=hb1.size;simp at hz1;obtain ⟨hc1,hf1⟩:=bcell hb1;have B1:=qsd hb1;clear hb1
  go_wp2_with fail
  refine (HM.out _).mono ?_;rintro r w2 ⟨rfl,hb2⟩;have hz2:=hb2.size;obtain ⟨hc2,hf2⟩:=bcell hb2;have hc3:∀ b o,b<w.heap.size+1+1→w2.cell? ⟨b,o,none⟩=w1.cell? ⟨b,o,none⟩:=fun b o h=>hc2 b o (by omega)
  have B2:=qsd hb2;clear hb2 hc2 hf2
  go_wp2_with fail
  refine (HD.out _).mono ?_;rintro r w3 ⟨rfl,rfl⟩;go_wp2
  go_ret2
  exact ⟨by first | rfl | simp,((((Below.refl _ w).alloc (Nat.le_refl _) _).alloc (by simp) _).trans (B1.out.mono (by simp;omega))).trans (B2.out.mono (by omega))⟩
 have way11:¬ (0<n)→b=0→¬ (0<u)→¬ (0<d)→Calls Tryz.prog 95 #[.agg #[.int .i64 n,.int .i64 u,.int .i64 d,.int .i64 m,.int .i64 p,.int .i64 l],.agg #[.int .i64 a,.int .i64 b]] w fun r w'=>r=.returned (.tuple #[.float .f64 (vd true n u d a b).1,.bool (vd true n u d a b).2])∧Below w.heap.size w w':=by
  intro p1 p3 p4 p5;have hv:vd true n u d a b=(0,false):=by unfold vd;rw [if_neg (by decide),if_neg (fun h=>p1 h.1),if_neg (not_not_intro p3),if_neg (fun h=>p4 h.1),if_neg p4,if_neg p5]
  rw [hv];clear hv;have q1:decide (0<n)=false:=decide_eq_false p1;have q3:b=0:=p3;have q4:decide (0<u)=false:=decide_eq_false p4;have q5:decide (0<d)=false:=decide_eq_false p5;subst q3;go_enter Tryz.func95,Tryz.ntmps95
  go_wp2_with fail
  refine (HS.out _).mono ?_;rintro r w1 ⟨rfl,hb1⟩;have hz1:=hb1.size;simp at hz1;obtain ⟨hc1,hf1⟩:=bcell hb1;have B1:=qsd hb1;clear hb1
  go_wp2_with fail
  refine (HM.out _).mono ?_;rintro r w2 ⟨rfl,hb2⟩;have hz2:=hb2.size;obtain ⟨hc2,hf2⟩:=bcell hb2;have hc3:∀ b o,b<w.heap.size+1+1→w2.cell? ⟨b,o,none⟩=w1.cell? ⟨b,o,none⟩:=fun b o h=>hc2 b o (by omega)
  have B2:=qsd hb2;clear hb2 hc2 hf2;go_wp2
  go_ret2
  exact ⟨by first | rfl | simp,((((Below.refl _ w).alloc (Nat.le_refl _) _).alloc (by simp) _).trans (B1.out.mono (by simp;omega))).trans (B2.out.mono (by omega))⟩
 by_cases p1:0<n
 · by_cases p2:a=0
   · exact way1 p1 p2
   · by_cases p3:b=0
     · by_cases p4:0<u <;> by_cases p5:0<d
       · exact way3 p1 p2 p3 p4 p5
       · exact way4 p1 p2 p3 p4 p5
       · exact way5 p1 p2 p3 p4 p5
       · exact way6 p1 p2 p3 p4 p5
     · exact way2 p1 p2 p3
 · by_cases p3:b=0
   · by_cases p4:0<u <;> by_cases p5:0<d
     · exact way8 p1 p3 p4 p5
     · exact way9 p1 p3 p4 p5
     · exact way10 p1 p3 p4 p5
     · exact way11 p1 p3 p4 p5
   · exact way7 p1 p3
open Go.RowKit
open Go.Proofs.YthfkleadcnkglaaGreatDoor.B (f64bits f64frombits bw bcell)
attribute [local go_sem] f64bits f64frombits
theorem rNought_any (n u d m p l mode:Int) (w:World):Calls Tryz.prog 96 #[.agg #[.int .i64 n,.int .i64 u,.int .i64 d,.int .i64 m,.int .i64 p,.int .i64 l],.int .i64 mode] w fun r w'=>r=.returned (.float .f64 (nt (snd n u d m p l) n u d m p l mode))∧Below w.heap.size w w':=by
 have HS:=hid (MayBe_any n u d m p l);have HM:=hid (minus_any);have HT:=hid (Zero_any true);have HF:=hid (Zero_any false)
 rcases hs:snd n u d m p l with _|_
 · rw [hs] at HS
   have hv:nt false n u d m p l mode=0:=if_pos rfl;rw [hv];clear hs hv;go_enter Tryz.func96,Tryz.ntmps96
   go_wp2_with fail
   refine (HS.out _).mono ?_;rintro r w1 ⟨rfl,hb1⟩;have hz1:=hb1.size;simp at hz1;obtain ⟨hc1,hf1⟩:=bcell hb1;have B1:=qsd hb1;clear hb1
   go_wp2_with fail
   refine (HF.out _).mono ?_;rintro r w3 ⟨rfl,rfl⟩;go_wp2;go_ret;exact ⟨by first | rfl | simp,((Below.refl _ w).alloc (Nat.le_refl _) _).trans (B1.out.mono (by simp))⟩
 have bd:=snd_bd hs;rw [hs] at HS;obtain ⟨f,hf⟩:∃ f,l-n-u-d=f:=⟨_,rfl⟩;have hfb:-9223372036854775808≤f∧f≤9223372036854775807:=by omega
 have hb1:0≤n∧n≤1099511627776:=bd.1;have hb2:0≤u∧u≤1099511627776:=bd.2.1;have hb3:0≤d∧d≤1099511627776:=bd.2.2.1;have hb4:0≤l∧l≤1099511627776:=bd.2.2.2;unfold nt;rw [if_neg (by decide),hf]
 clear hs bd
 by_cases p1:f=0
 · rw [if_pos p1]
   have q1:(f==0)=true:=by rw [beq_iff_eq];exact p1
   clear p1;go_enter Tryz.func96,Tryz.ntmps96
   go_wp2_with fail
   refine (HS.out _).mono ?_;rintro r w1 ⟨rfl,hb1⟩;have hz1:=hb1.size;simp at hz1;obtain ⟨hc1,hf1⟩:=bcell hb1;have B1:=qsd hb1;clear hb1
   go_wp2_with fail
   refine (HF.out _).mono ?_;rintro r w3 ⟨rfl,rfl⟩;go_wp2;go_ret;exact ⟨by first | rfl | simp,((Below.refl _ w).alloc (Nat.le_refl _) _).trans (B1.out.mono (by simp))⟩
 rw [if_neg p1];have q1:(f==0)=false:=by rw [beq_eq_false_iff_ne];exact p1
 clear p1
 by_cases p2:m=f
 · rw [if_pos p2]
   have q2:(m==f)=true:=by rw [beq_iff_eq];exact p2
   clear p2;go_enter Tryz.func96,Tryz.ntmps96
   go_wp2_with fail
   refine (HS.out _).mono ?_;rintro r w1 ⟨rfl,hb1⟩;have hz1:=hb1.size;simp at hz1;obtain ⟨hc1,hf1⟩:=bcell hb1;have B1:=qsd hb1;clear hb1
   go_wp2_with fail
   refine (HT.out _).mono ?_;rintro r w3 ⟨rfl,rfl⟩;go_wp2;go_ret;exact ⟨by first | rfl | simp,((Below.refl _ w).alloc (Nat.le_refl _) _).trans (B1.out.mono (by simp))⟩
 rw [if_neg p2];have q2:(m==f)=false:=by rw [beq_eq_false_iff_ne];exact p2
 clear p2
 by_cases p3:p=f
 · rw [if_pos p3]
   have q3:(p==f)=true:=by rw [beq_iff_eq];exact p3
   clear p3;go_enter Tryz.func96,Tryz.ntmps96
   go_wp2_with fail
   refine (HS.out _).mono ?_;rintro r w1 ⟨rfl,hb1⟩;have hz1:=hb1.size;simp at hz1;obtain ⟨hc1,hf1⟩:=bcell hb1;have B1:=qsd hb1;clear hb1
   go_wp2_with fail
   refine (HF.out _).mono ?_;rintro r w3 ⟨rfl,rfl⟩;go_wp2;go_ret;exact ⟨by first | rfl | simp,((Below.refl _ w).alloc (Nat.le_refl _) _).trans (B1.out.mono (by simp))⟩
 rw [if_neg p3];have q3:(p==f)=false:=by rw [beq_eq_false_iff_ne];exact p3
 clear p3
 by_cases p4:mode=3
 · rw [if_pos p4]
   subst p4;go_enter Tryz.func96,Tryz.ntmps96
   go_wp2_with fail
   refine (HS.out _).mono ?_;rintro r w1 ⟨rfl,hb1⟩;have hz1:=hb1.size;simp at hz1;obtain ⟨hc1,hf1⟩:=bcell hb1;have B1:=qsd hb1;clear hb1
   go_wp2_with fail
   refine (HT.out _).mono ?_;rintro r w3 ⟨rfl,rfl⟩;go_wp2;go_ret;exact ⟨by first | rfl | simp,((Below.refl _ w).alloc (Nat.le_refl _) _).trans (B1.out.mono (by simp))⟩
 · rw [if_neg p4]
   have q4:(mode==3)=false:=by rw [beq_eq_false_iff_ne];exact p4
   clear p4;go_enter Tryz.func96,Tryz.ntmps96
   go_wp2_with fail
   refine (HS.out _).mono ?_;rintro r w1 ⟨rfl,hb1⟩;have hz1:=hb1.size;simp at hz1;obtain ⟨hc1,hf1⟩:=bcell hb1;have B1:=qsd hb1;clear hb1
   go_wp2_with fail
   refine (HF.out _).mono ?_;rintro r w3 ⟨rfl,rfl⟩;go_wp2;go_ret;exact ⟨by first | rfl | simp,((Below.refl _ w).alloc (Nat.le_refl _) _).trans (B1.out.mono (by simp))⟩
end
section
open Go.RowKit J
attribute [local go_sem] st_float
def rfz (n u d a b:Int):Int:=if 0<n∧a=2 then 60 else if 0<u+d∧b=2 then 61 else 0
theorem rRefused12 (n u d m p l a b:Int) (w:World) (hu:0≤u∧u≤1099511627776) (hd:0≤d∧d≤1099511627776) :
 Calls Tryz.prog 136 #[.agg #[.int .i64 n,.int .i64 u,.int .i64 d,.int .i64 m,.int .i64 p,.int .i64 l],.agg #[.int .i64 a,.int .i64 b]] w fun r w'=>r=.returned (.int .i64 (rfz n u d a b))∧Below w.heap.size w w':=by
 have hne:w.heap.size≠w.heap.size+1:=by omega
 have bb:=qsd ((bel_alloc w (Obj.cells #[.int .i64 n,.int .i64 u,.int .i64 d,.int .i64 m,.int .i64 p,.int .i64 l] 42)).trans ((bel_alloc (w.alloc (Obj.cells #[.int .i64 n,.int .i64 u,.int .i64 d,.int .i64 m,.int .i64 p,.int .i64 l] 42)) (Obj.cells #[.int .i64 a,.int .i64 b] 24)).mono (by simp)))
 obtain ⟨x1,h1⟩:∃ x,decide (0<n)=x:=⟨_,rfl⟩;obtain ⟨x2,h2⟩:∃ x,(a==2)=x:=⟨_,rfl⟩;obtain ⟨x3,h3⟩:∃ x,decide (0<u+d)=x:=⟨_,rfl⟩;obtain ⟨x4,h4⟩:∃ x,(b==2)=x:=⟨_,rfl⟩
 have key:rfz n u d a b=if x1&&x2 then 60 else if x3&&x4 then 61 else 0:=by
  unfold rfz;rw [←h1,←h2,←h3,←h4];simp
 rw [key];clear key
 cases x1
 · cases x3
   · go_enter Tryz.func136,Tryz.ntmps136
     go_wp2;go_ret;exact ⟨by first | rfl | simp,bb.out⟩
   · cases x4
     · go_enter Tryz.func136,Tryz.ntmps136
       go_wp2;go_ret;exact ⟨by first | rfl | simp,bb.out⟩
     · go_enter Tryz.func136,Tryz.ntmps136
       go_wp2;go_ret;exact ⟨by first | rfl | simp,bb.out⟩
 · cases x2
   · cases x3
     · go_enter Tryz.func136,Tryz.ntmps136
       go_wp2;go_ret;exact ⟨by first | rfl | simp,bb.out⟩
     · cases x4
       · go_enter Tryz.func136,Tryz.ntmps136
         go_wp2;go_ret;exact ⟨by first | rfl | simp,bb.out⟩
       · go_enter Tryz.func136,Tryz.ntmps136
         go_wp2;go_ret;exact ⟨by first | rfl | simp,bb.out⟩
   · go_enter Tryz.func136,Tryz.ntmps136
     go_wp2;go_ret;exact ⟨by first | rfl | simp,bb.out⟩
set_option maxRecDepth 100000 in
theorem rrefused12 (g:Nat) (o:Option (Bool×Nat×Int)) (n u d m p l a b mode:Int) (w:World) (hA:La w g o ⟨n,u,d,m,p,l⟩) (hu:0≤u∧u≤1099511627776) (hd:0≤d∧d≤1099511627776) (hm0:0≤mode) (hm1:mode≤4) (hab:may a b=true) :
 Calls Tryz.prog 94 #[.pointer (some ⟨g,0,none⟩),.int .i64 mode,.agg #[.int .i64 a,.int .i64 b]] w fun r w'=>r=.returned (.int .i64 (rfz n u d a b))∧Below w.heap.size w w':=by
 have HM:=hid (fun u:World=>rMay_any a b u)
 rw [hab] at HM;have HR:=hid (fun w':World=>rRefused12 n u d m p l a b w' hu hd)
 have h1:decide (mode<0)=false:=decide_eq_false (by omega)
 have h2:decide (4<mode)=false:=decide_eq_false (by omega)
 obtain ⟨W,hW⟩:∃ W,W=w.alloc (Obj.cells #[.int .i64 a,.int .i64 b] 24):=⟨_,rfl⟩;obtain ⟨g5,hg5⟩:∃ x,x=w.heap.size:=⟨_,rfl⟩
 have K0:Aside (La W g o ⟨n,u,d,m,p,l⟩∧Bl W g5 24 [.int .i64 a,.int .i64 b]∧Below w.heap.size w W):=by
  rw [hW,hg5];exact ⟨hA.below (below_alloc _ _),Bl.new w 24 [_,_],below_alloc _ _⟩
 have HW:=qsd hW;have HG:=qsd hg5;clear hW hg5 hA hab hm0 hm1 hu hd;obtain ⟨ez,hez⟩:∃ e,e=rfz n u d a b:=⟨_,rfl⟩;rw [←hez] at HR ⊢;clear hez;go_enter Tryz.func94,Tryz.ntmps94
 go_upto_region 1 with fail
 rw [←HW.out,←HG.out];clear HW HG;have p0:=K0.out.2.1.cell 0 _ rfl;have p1:=K0.out.2.1.cell 1 _ rfl
 go_wp2_with fail
 refine (HM.out W).mono ?_;rintro r u1 ⟨rfl,hb⟩;have K1:Aside (La u1 g o ⟨n,u,d,m,p,l⟩∧Bl u1 g5 24 [.int .i64 a,.int .i64 b]∧Below w.heap.size w u1):=⟨K0.out.1.below hb,K0.out.2.1.below hb K0.out.2.1.lt,K0.out.2.2.trans (hb.mono K0.out.2.2.size)⟩;clear hb K0 HM p0 p1
 go_upto_region 4 with fail
 have hdr:=(Below.refl u1.heap.size u1).drew;have BD:Aside (La u1.drew g o ⟨n,u,d,m,p,l⟩∧Bl u1.drew g5 24 [.int .i64 a,.int .i64 b]∧Below w.heap.size w u1.drew):=⟨K1.out.1.below hdr,K1.out.2.1.below hdr K1.out.2.1.lt,K1.out.2.2.trans (hdr.mono K1.out.2.2.size)⟩;clear hdr K1;obtain ⟨aV,cV,BV,NV⟩:=BD.out.1;unfold laC at BV;have kS:=qsd (ai BV.facts9.2 (ai (BD.out.2.1.cell 0 _ rfl) (BD.out.2.1.cell 1 _ rfl)));clear BV NV
 go_region_held3 (fun w'=>(w'.cell? ⟨g,3,none⟩=some (.int .i64 n)∧w'.cell? ⟨g,4,none⟩=some (.int .i64 u)∧w'.cell? ⟨g,5,none⟩=some (.int .i64 d)∧w'.cell? ⟨g,6,none⟩=some (.int .i64 m)∧w'.cell? ⟨g,7,none⟩=some (.int .i64 p)∧w'.cell? ⟨g,8,none⟩=some (.int .i64 l))∧w'.cell? ⟨g5,0,none⟩=some (.int .i64 a)∧w'.cell? ⟨g5,1,none⟩=some (.int .i64 b)) (with_reducible exact kS.out) (
  (go_at_call 136
   with_reducible refine (HR.out _).mono ?_
   rintro r v ⟨rfl,hb⟩;have BD:Aside (La v g o ⟨n,u,d,m,p,l⟩∧Bl v g5 24 [.int .i64 a,.int .i64 b]∧Below w.heap.size w v):=⟨BD.out.1.below hb,BD.out.2.1.below hb BD.out.2.1.lt,BD.out.2.2.trans (hb.mono BD.out.2.2.size)⟩;obtain ⟨aV,cV,BV,NV⟩:=BD.out.1;unfold laC at BV;have kS:=qsd (ai BV.facts9.2 (ai (BD.out.2.1.cell 0 _ rfl) (BD.out.2.1.cell 1 _ rfl)));clear hb BV NV))
 go_wp2;go_ret;exact ⟨rfl,BD.out.2.2⟩
end
section
open Go.RowKit J
attribute [local go_sem] st_float
theorem rd_ref {V:Int}{n u d m p l mode a b:Int}(h:rfz n u d a b≠0):rd10 V ⟨n,u,d,m,p,l⟩ mode a b=(0,rfz n u d a b):=by
 unfold rd10;unfold rfz at h ⊢;simp only
 by_cases h1:0<n∧a=2
 · rw [if_pos h1,if_pos h1]
 · rw [if_neg h1] at h ⊢
   rw [if_neg h1]
   by_cases h2:0<u+d∧b=2
   · rw [if_pos h2,if_pos h2]
   · rw [if_neg h2] at h
     exact absurd rfl h
theorem rd_go {V:Int}{n u d m p l mode a b:Int}(h:rfz n u d a b=0):rd10 V ⟨n,u,d,m,p,l⟩ mode a b=rd7 V ⟨n,u,d,m,p,l⟩ mode a b:=by
 unfold rd10;unfold rfz at h;simp only
 by_cases h1:0<n∧a=2
 · rw [if_pos h1] at h;omega
 · rw [if_neg h1] at h
   rw [if_neg h1]
   by_cases h2:0<u+d∧b=2
   · rw [if_pos h2] at h;omega
   · rw [if_neg h2]
theorem ex_none {V:Int}(j:Nat) (hj:j≤90000) (hV:V.natAbs<2^j):((((ws (dX (exV V))).length:Nat):Int)==0)=decide (V=0):=by
 have F:=ex_fm V j (by omega) hV
 by_cases h:V=0
 · subst h
   rw [ex_zero,len00];rfl
 · rw [decide_eq_false h]
   obtain ⟨n,X,e,ho,F',hx⟩:=ex_iv V j (by omega) hV
   have hX:X≠0:=by
    rintro rfl
    rcases F'.odd with q|⟨_,q1,q2⟩
    · omega
    · rw [q1,q2] at ho
      have e1:=val_ex F;rw [ho,show valO (some (false,0,0))=0 from valO_00] at e1
      rcases Int.mul_eq_zero.1 e1.symm with r|r
      · exact h r
      · have:=X_pos;omega
   have hl:¬ (ws X).length≤0:=fun q=>by
    have:=(ws_len_le X 0).1 q;rw [show pw 0=1 from rfl] at this
    omega
   rw [ho]
   show ((((ws X).length:Nat):Int)==0)=false
   have h3:¬ (((ws X).length:Nat):Int)=0:=by omega
   exact beq_eq_false_iff_ne.2 h3
set_option maxRecDepth 100000 in
theorem rRound7 (g:Nat) (V:Int) (n u d m p l a b mode:Int) (w:World) (hA:La w g (exV V) ⟨n,u,d,m,p,l⟩) (j:Nat) (hj:j≤90000) (hV:V.natAbs<2^j) (hu:0≤u∧u≤1099511627776) (hd:0≤d∧d≤1099511627776) (hm0:0≤mode) (hm1:mode≤4) (hab:may a b=true) :
 Calls Tryz.prog 44 #[.pointer (some ⟨g,0,none⟩),.int .i64 mode,.agg #[.int .i64 a,.int .i64 b]] w fun r w'=>r=.returned (.tuple #[.float .f64 (rd10 V ⟨n,u,d,m,p,l⟩ mode a b).1,.int .i64 (rd10 V ⟨n,u,d,m,p,l⟩ mode a b).2])∧Below w.heap.size w w':=by
 obtain ⟨⟨RX,RE⟩,hR⟩:∃ z,z=rd10 V ⟨n,u,d,m,p,l⟩ mode a b:=⟨_,rfl⟩;rw [←hR];simp only;have HF:Hid (∀ u':World,La u' g (exV V) ⟨n,u,d,m,p,l⟩→Calls Tryz.prog 94 #[.pointer (some ⟨g,0,none⟩),.int .i64 mode,.agg #[.int .i64 a,.int .i64 b]] u' fun r w'=>r=.returned (.int .i64 (rfz n u d a b))∧Below u'.heap.size u' w'):=fun u' h=>rrefused12 g (exV V) n u d m p l a b mode u' h hu hd hm0 hm1 hab
 have HV:=hid (fun w':World=>rVerdict_any n u d m p l a b w')
 have HN:=hid (fun w':World=>rNought_any n u d m p l mode w')
 have FV:=qsd (ex_fm V j (by omega) hV)
 have EL:=ex_none j hj hV;have HO:=hid (fun w':World=>rOf10z w')
 obtain ⟨⟨VX,VB⟩,hVD⟩:∃ z,z=vd (snd n u d m p l&&may a b) n u d a b:=⟨_,rfl⟩;rw [←hVD] at HV;simp only at HV;obtain ⟨NX,hNX⟩:∃ z,z=nt (snd n u d m p l) n u d m p l mode:=⟨_,rfl⟩;rw [←hNX] at HN;have C1:Aside (rfz n u d a b≠0→(RX,RE)=(0,rfz n u d a b)):=fun h=>by rw [hR];exact rd_ref h
 have C2:Aside (rfz n u d a b=0→VB=true→(RX,RE)=(VX,0)):=fun h hv=>by
  rw [hR,rd_go h];unfold rd7 ahd;simp only;rw [←hVD];simp only;rw [if_pos hv];rfl
 have C3:Aside (rfz n u d a b=0→VB=false→V=0→(RX,RE)=(NX,0)):=fun h hv h0=>by
  rw [hR,rd_go h];unfold rd7 ahd;simp only;rw [←hVD,←hNX];simp only;rw [hv];simp only [Bool.false_eq_true,if_false,if_pos h0,if_true]
 have C4:Aside (rfz n u d a b=0→VB=false→V≠0→rndS (exV V) mode=(RX,RE)):=fun h hv h0=>by
  rw [hR,rd_go h];unfold rd7 ahd;simp only;rw [←hVD];simp only;rw [hv];simp only [Bool.false_eq_true,if_false,if_neg h0];rw [FV.out.re]
 obtain ⟨ez,hez⟩:∃ e,e=rfz n u d a b:=⟨_,rfl⟩;rw [←hez] at HF C1 C2 C3 C4;obtain ⟨ov,hov⟩:∃ o,o=exV V:=⟨_,rfl⟩;rw [←hov] at hA HF FV EL C4;obtain ⟨W,hW⟩:∃ W,W=w.alloc (Obj.cells #[.int .i64 a,.int .i64 b] 24):=⟨_,rfl⟩;obtain ⟨g5,hg5⟩:∃ x,x=w.heap.size:=⟨_,rfl⟩
 have K0:Aside (La W g ov ⟨n,u,d,m,p,l⟩∧Bl W g5 24 [.int .i64 a,.int .i64 b]∧Below w.heap.size w W):=by
  rw [hW,hg5];exact ⟨hA.below (below_alloc _ _),Bl.new w 24 [_,_],below_alloc _ _⟩
 have HW:=qsd hW;have HG:=qsd hg5;clear hW hg5 hA hab hm0 hm1 hu hd hV hj hR hVD hNX hez hov;go_enter Tryz.func44,Tryz.ntmps44
 go_upto_region 1 with fail
 rw [←HW.out,←HG.out];clear HW HG;have p0:=K0.out.2.1.cell 0 _ rfl;have p1:=K0.out.2.1.cell 1 _ rfl
 go_wp2_with fail
 refine (HF.out W K0.out.1).mono ?_;rintro r u1 ⟨rfl,hb⟩;have K1:Aside (La u1 g ov ⟨n,u,d,m,p,l⟩∧Bl u1 g5 24 [.int .i64 a,.int .i64 b]∧Below w.heap.size w u1):=⟨K0.out.1.below hb,K0.out.2.1.below hb K0.out.2.1.lt,K0.out.2.2.trans (hb.mono K0.out.2.2.size)⟩;clear hb K0 HF p0 p1
 by_cases hz:ez=0
 rotate_left
 · have hz':(ez != 0)=true:=by simpa using hz
   obtain ⟨e1,e2⟩:=Prod.mk.inj (C1.out hz);have EE:=qsd (ai e1 e2);clear e1 e2 hz C1 C2 C3 C4
   go_wp2_with fail
   refine (HO.out _).mono ?_;rintro r u2 ⟨rfl,hu⟩;have hu':=hu.symm;clear hu;subst hu';go_wp2;exact bodyPost_ret (v:=.tuple #[.float .f64 0,.int .i64 ez]) (by simp [results,Tryz.results44,go_sem]) rfl ⟨by rw [EE.out.1,EE.out.2],K1.out.2.2⟩
 subst hz;clear C1
 go_upto_region 4 with fail
 have hdr:=(Below.refl u1.heap.size u1).drew;have BD:Aside (La u1.drew g ov ⟨n,u,d,m,p,l⟩∧Bl u1.drew g5 24 [.int .i64 a,.int .i64 b]∧Below w.heap.size w u1.drew):=⟨K1.out.1.below hdr,K1.out.2.1.below hdr K1.out.2.1.lt,K1.out.2.2.trans (hdr.mono K1.out.2.2.size)⟩;clear hdr K1;obtain ⟨aV,cV,BV,NV⟩:=BD.out.1;unfold laC at BV;have kS:=qsd (ai BV.facts9.2 (ai (BD.out.2.1.cell 0 _ rfl) (BD.out.2.1.cell 1 _ rfl)));clear BV NV
 go_region_held3 (fun w'=>(w'.cell? ⟨g,3,none⟩=some (.int .i64 n)∧w'.cell? ⟨g,4,none⟩=some (.int .i64 u)∧w'.cell? ⟨g,5,none⟩=some (.int .i64 d)∧w'.cell? ⟨g,6,none⟩=some (.int .i64 m)∧w'.cell? ⟨g,7,none⟩=some (.int .i64 p)∧w'.cell? ⟨g,8,none⟩=some (.int .i64 l))∧w'.cell? ⟨g5,0,none⟩=some (.int .i64 a)∧w'.cell? ⟨g5,1,none⟩=some (.int .i64 b)) (with_reducible exact kS.out) (
  (go_at_call 95
   with_reducible refine (HV.out _).mono ?_
   rintro r v ⟨rfl,hb⟩;have BD:Aside (La v g ov ⟨n,u,d,m,p,l⟩∧Bl v g5 24 [.int .i64 a,.int .i64 b]∧Below w.heap.size w v):=⟨BD.out.1.below hb,BD.out.2.1.below hb BD.out.2.1.lt,BD.out.2.2.trans (hb.mono BD.out.2.2.size)⟩;obtain ⟨aV,cV,BV,NV⟩:=BD.out.1;unfold laC at BV;have kS:=qsd (ai BV.facts9.2 (ai (BD.out.2.1.cell 0 _ rfl) (BD.out.2.1.cell 1 _ rfl)));clear hb BV NV))
 clear kS HV
 cases VB
 rotate_left
 · obtain ⟨e1,e2⟩:=Prod.mk.inj (C2.out (by trivial) (by trivial))
   have EE:=qsd (ai e1 e2);clear e1 e2 C2 C3 C4;go_wp2;exact bodyPost_ret (v:=.tuple #[.float .f64 VX,.int .i64 0]) (by simp [results,Tryz.results44,go_sem]) rfl ⟨by rw [EE.out.1,EE.out.2],BD.out.2.2⟩
 clear C2;obtain ⟨aV,cV,BV,NV⟩:=BD.out.1;unfold laC at BV;obtain ⟨⟨v0,v1,v2⟩,v3,v4,v5,v6,v7,v8⟩:=BV.facts9
 by_cases h0:V=0
 · have el:((((ws (dX ov)).length:Nat):Int)==0)=true:=by rw [EL,decide_eq_true h0]
   obtain ⟨e1,e2⟩:=Prod.mk.inj (C3.out (by trivial) (by trivial) h0)
   have EE:=qsd (ai e1 e2);clear e1 e2 C3 C4 EL h0 BV NV
   go_wp2_with fail
   refine (HN.out _).mono ?_;rintro r u2 ⟨rfl,hb⟩;have B:=qsd (BD.out.2.2.trans (hb.mono BD.out.2.2.size));clear hb;go_wp2;exact bodyPost_ret (v:=.tuple #[.float .f64 NX,.int .i64 0]) (by simp [results,Tryz.results44,go_sem]) rfl ⟨by rw [EE.out.1,EE.out.2],B.out⟩
 · have el:((((ws (dX ov)).length:Nat):Int)==0)=false:=by rw [EL,decide_eq_false h0]
   have HR:=hid (rround12 FV.out NV mode (RX,RE) (C4.out (by trivial) (by trivial) h0))
   simp only at HR;clear C3 C4 EL h0 BV NV
   go_wp2_with fail
   refine HR.out.mono ?_;rintro r u2 ⟨rfl,hb⟩;have B:=qsd (BD.out.2.2.trans (hb.mono BD.out.2.2.size));clear hb;go_wp2;exact bodyPost_ret (v:=.tuple #[.float .f64 RX,.int .i64 RE]) (by simp [results,Tryz.results44,go_sem]) rfl ⟨rfl,B.out⟩
end
section
open Go.RowKit J
attribute [local go_sem] st_float
theorem bd12 {V:Int}(n:Nat) (hn:n≤65536) (h:-((n*QB:Nat):Int)≤V∧V≤((n*QB:Nat):Int)) (j:Nat) (hj:j=4238):V.natAbs<2^j:=by
 rw [←HB_two j hj,QB_HB];have h3:n*QB≤65536*QB:=Nat.mul_le_mul_right _ hn;have h5:=QB_pos;omega
end
section
open Go.RowKit J
attribute [local go_sem] st_float
theorem kd_neg {x:Nat}(hx:x<18446744073709551616):(kd x=4→negW x=true)∧(kd x=3→negW x=false)∧(kd x=1→negW x=true)∧(kd x=2→negW x=false):=by
 have e2:negW x=decide (9223372036854775808≤x):=rfl;rw [e2];unfold kd
 by_cases h1:9218868437227405312<x%9223372036854775808
 · rw [if_pos h1];omega
 · rw [if_neg h1]
   by_cases h2:x%9223372036854775808=9218868437227405312
   · rw [if_pos h2]
     by_cases h3:x/9223372036854775808=1
     · rw [if_pos h3]
       exact ⟨fun _=>decide_eq_true (by omega),(fun h=>by omega),(fun h=>by omega),(fun h=>by omega)⟩
     · rw [if_neg h3]
       exact ⟨(fun h=>by omega),fun _=>decide_eq_false (by omega),(fun h=>by omega),(fun h=>by omega)⟩
   · rw [if_neg h2]
     by_cases h4:x%9223372036854775808=0
     · rw [if_pos h4]
       by_cases h3:x/9223372036854775808=1
       · rw [if_pos h3]
         exact ⟨(fun h=>by omega),(fun h=>by omega),fun _=>decide_eq_true (by omega),(fun h=>by omega)⟩
       · rw [if_neg h3]
         exact ⟨(fun h=>by omega),(fun h=>by omega),(fun h=>by omega),fun _=>decide_eq_false (by omega)⟩
     · rw [if_neg h4];omega
theorem ex_fo {V:Int}(m:Nat) (hm:m≤10000) (hV:V.natAbs<2^m) (k:Nat) (hk:k=1074):exV (V*((2^k:Nat):Int))=fo8 V:=by
 have hb:(V*((2^k:Nat):Int)).natAbs<2^(m+k):=by
  rw [Int.natAbs_mul,Int.natAbs_natCast,Nat.pow_add];exact Nat.mul_lt_mul_of_pos_right hV (Nat.two_pow_pos k)
 have F:=ex_fm _ (m+k) (by omega) hb
 have G:=fo_fm V m (by omega) hV
 refine valO_inj F G ?_;rw [val_ex F,val_fo G,YX k hk,Int.natCast_mul,Int.mul_assoc]
theorem one7 {x:Nat}(hx:x<18446744073709551616):kOf (kd x)=pK x 4607182418800017408∧oZ x=exV (pT x 4607182418800017408)∧kd x≤5:=by
 have h1:(4607182418800017408:Nat)<18446744073709551616:=by decide
 have k1:kd 4607182418800017408=0:=by decide +kernel
 have n1:negW 4607182418800017408=false:=by decide +kernel
 obtain ⟨p1,p2,p3,p4⟩:=prod7 hx h1;obtain ⟨q4,q3,q1,q2⟩:=kd_neg hx;unfold na7 at p1 p2 p3 p4;rw [k1,n1] at *;refine ⟨?_,?_,kd_le12 x⟩
 · rcases cls_kd hx with ⟨k,c⟩ | ⟨k,c,n⟩ | ⟨k,c,n,f,v⟩ | ⟨k,c,n,f⟩
   · rw [(p1 (by rw [k];rfl)).1,k];rfl
   · rcases k with k | k
     · rw [(p2 (by rw [k];rfl) (by rw [k];rfl)).2.1,q3 k,k];rfl
     · rw [(p2 (by rw [k];rfl) (by rw [k];rfl)).2.1,q4 k,k];rfl
   · rcases k with k | k
     · rw [(p3 (by rw [k];rfl) (by rw [k];rfl) (by rw [k];rfl)).2.1,q1 k,k];rfl
     · rw [(p3 (by rw [k];rfl) (by rw [k];rfl) (by rw [k];rfl)).2.1,q2 k,k];rfl
   · rw [(p4 (by rw [k];rfl) (by rw [k];rfl) (by rw [k];rfl)).2.2,k];rfl
 · rcases cls_kd hx with ⟨k,c⟩ | ⟨k,c,n⟩ | ⟨k,c,n,f,v⟩ | ⟨k,c,n,f⟩
   · rw [(p1 (by rw [k];rfl)).2,ex_zero]
     exact oZ_odd (by intro f;rcases (fin_parts hx f).2.2.2 with q | q <;> omega)
   · have e:pT x 4607182418800017408=0:=by
      rcases k with k|k
      · exact (p2 (by rw [k];rfl) (by rw [k];rfl)).2.2
      · exact (p2 (by rw [k];rfl) (by rw [k];rfl)).2.2
     rw [e,ex_zero];exact oZ_odd (by intro f;rcases (fin_parts hx f).2.2.2 with q | q <;> omega)
   · have e:pT x 4607182418800017408=0:=by
      rcases k with k|k
      · exact (p3 (by rw [k];rfl) (by rw [k];rfl) (by rw [k];rfl)).2.2
      · exact (p3 (by rw [k];rfl) (by rw [k];rfl) (by rw [k];rfl)).2.2
     rw [e,ex_zero];exact oZ_zero f v
   · obtain ⟨z,hz⟩:∃ z,z=2098:=⟨_,rfl⟩
     obtain ⟨i,hi⟩:∃ i,i=1074:=⟨_,rfl⟩;have fo:finW 4607182418800017408:=by decide
     rw [(pT_mul hx h1 f fo).1,f1 i hi,Nat.one_mul,ex_fo z (by omega) (top_fv hx f z hz) i hi,oZ_fin f]
     rfl
def st9 (w:World) (g:Nat) (a b c d e f h i j:Value):World:=((((((((w.setCell ⟨g,0,none⟩ a).setCell ⟨g,1,none⟩ b).setCell ⟨g,2,none⟩ c).setCell ⟨g,3,none⟩ d).setCell ⟨g,4,none⟩ e).setCell ⟨g,5,none⟩ f).setCell ⟨g,6,none⟩ h).setCell ⟨g,7,none⟩ i).setCell ⟨g,8,none⟩ j
theorem Bl.st9 {w:World}{g T:Nat}{a' b' c' d' e' f' h' i' j':Value}(H:Bl w g T [a',b',c',d',e',f',h',i',j']) (a b c d e f h i j:Value):Bl (st9 w g a b c d e f h i j) g T [a,b,c,d,e,f,h,i,j] :=
 ((((((((H.set 0 a).set 1 b).set 2 c).set 3 d).set 4 e).set 5 f).set 6 h).set 7 i).set 8 j
theorem st9_but (w:World) (g:Nat) (a b c d e f h i j:Value):But g w (st9 w g a b c d e f h i j):=(((((((((But.refl g w).set 0 a).set 1 b).set 2 c).set 3 d).set 4 e).set 5 f).set 6 h).set 7 i).set 8 j
set_option maxRecDepth 100000 in
theorem rWhole12 (xs:List Nat) (a:Option Addr) (n c:Nat) (w:World) (hn:n=xs.length) (hF:Fs w.heap.size w a xs) (hW:W64 xs) (hm:n≤65536) :
 Calls Tryz.prog 82 #[.slice a n c] w fun r w'=>(∃ p q,r=.returned (.agg #[.bool (dN (exV (vS xs))),.slice p (ws (dX (exV (vS xs)))).length q,.int .i64 (dE (exV (vS xs))),.int .i64 (sS xs).n,.int .i64 (sS xs).u,.int .i64 (sS xs).d,.int .i64 (sS xs).m,.int .i64 (sS xs).p,.int .i64 (sS xs).a])∧Nt 0 w' (.slice p (ws (dX (exV (vS xs)))).length q) (dX (exV (vS xs))))∧Below w.heap.size w w':=by
 obtain ⟨ov,hov⟩:∃ o,o=exV (vS xs):=⟨_,rfl⟩;obtain ⟨⟨fn,fu,fd,fm,fp,fa⟩,hs0⟩:∃ s,s=sS xs:=⟨_,rfl⟩;rw [←hov,←hs0];simp only;have OV:=qsd (ai hov hs0);clear hov hs0;obtain ⟨W,hWW⟩:∃ W,W=(w.alloc (Obj.cells #[.bool false,.slice none 0 0,.int .i64 0,.int .i64 0,.int .i64 0,.int .i64 0,.int .i64 0,.int .i64 0,.int .i64 0] 65)).alloc (Obj.cells #[.bool false,.slice none 0 0,.int .i64 0,.int .i64 0,.int .i64 0,.int .i64 0,.int .i64 0,.int .i64 0,.int .i64 0] 65):=⟨_,rfl⟩;obtain ⟨g2,hg2⟩:∃ x,x=w.heap.size:=⟨_,rfl⟩
 have H0:Aside (La W (g2+1) o00 ⟨0,0,0,0,0,0⟩∧Bl W g2 65 [.bool false,.slice none 0 0,.int .i64 0,.int .i64 0,.int .i64 0,.int .i64 0,.int .i64 0,.int .i64 0,.int .i64 0]∧Below w.heap.size w W∧w.heap.size≤g2):=by
  rw [hWW,hg2];refine ⟨⟨none,0,?_,?_⟩,(Bl.new w 65 [_,_,_,_,_,_,_,_,_]).alloc _,(bel_alloc _ _).trans ((bel_alloc _ _).mono (by simp)),Nat.le_refl _⟩
  · unfold laC
    rw [len00];exact Bl.new' (w.alloc _) 65 _ [_,_,_,_,_,_,_,_,_] (by simp)
  · rw [len00];exact Nt.nil _ _
 have HW2:=qsd hWW;have HG:=qsd hg2;have PP:=qsd (ai hn (ai hF (ai hW (show xs.length≤65536 by omega))))
 clear hWW hg2 hn hF hW;go_enter Tryz.func82,Tryz.ntmps82;go_wp2;rw [←HW2.out,←HG.out];clear HW2 HG
 go_loopg [4] n (fun gk i wr=>∃ k:Nat,gk+k=n∧i=.int .i64 (k:Nat)∧Aside (La wr (g2+1) (exV (vS (xs.take k))) (sS (xs.take k))∧Bl wr g2 65 [.bool false,.slice none 0 0,.int .i64 0,.int .i64 0,.int .i64 0,.int .i64 0,.int .i64 0,.int .i64 0,.int .i64 0]∧Below w.heap.size w wr∧w.heap.size≤g2))
 case atStart=>exact ⟨0,by omega,by simp,by rw [List.take_zero,show vS []=0 from rfl,show sS []=⟨0,0,0,0,0,0⟩ from rfl,ex_zero];exact H0.out⟩
 case round =>
  clear H0;obtain ⟨k,hgk,rfl,HL⟩:=hrel
  by_cases hk:k<n
  · obtain ⟨b,off,rfl,hcx⟩:=PP.out.2.1.at HL.out.2.2.1 k (by rw [←PP.out.1];exact hk)
    have hln:=PP.out.1;have e1:=vS_take xs k (by omega)
    have e2:=sS_take xs k (by omega)
    have hx64:=PP.out.2.2.1.get k;obtain ⟨x,hx⟩:∃ x,x=xs.getD k 0:=⟨_,rfl⟩;rw [←hx] at hcx e1 e2 hx64;obtain ⟨o1,o2,o3⟩:=one7 hx64;obtain ⟨j,hj⟩:∃ j,j=4238:=⟨_,rfl⟩;have v0:=bd12 k (by omega) (vS_bound xs PP.out.2.2.1 k (by omega)) j hj
    have v2:=bd12 (k+1) (by omega) (vS_bound xs PP.out.2.2.1 (k+1) (by omega)) j hj
    have sp:=sS_pos xs k (by omega)
    have vT:(pT x 4607182418800017408).natAbs<2^j:=bd12 1 (by omega) (by rw [Nat.one_mul];exact pT_small x _ hx64 (by decide)) j hj
    rw [e1] at v2;obtain ⟨V0,hV0⟩:∃ V,V=vS (xs.take k):=⟨_,rfl⟩;obtain ⟨⟨sn,su,sd,sm,sp',sa⟩,hs0⟩:∃ s,s=sS (xs.take k):=⟨_,rfl⟩;rw [←hV0] at v0 v2 e1;rw [←hs0] at sp e2;have HL':=HL;rw [←hV0,←hs0] at HL';obtain ⟨⟨s1,s2,s3,s4,s5,s6'⟩,sa'⟩:=sp;simp only at s1 s2 s3 s4 s5 s6' sa';have HP:=hid (fun u:World=>rOf7x x u hx64)
    have FX:=qsd (oZ_iv x hx64).fm
    have HA:Hid (∀ (U:World) (q:Option Addr) (cq:Nat),La U (g2+1) (exV V0) ⟨sn,su,sd,sm,sp',sa⟩→Nt 0 U (.slice q (ws (dX (oZ x))).length cq) (dX (oZ x))→Calls Tryz.prog 42 #[.pointer (some ⟨g2+1,0,none⟩),.agg #[.int .i64 (kd x:Nat),.bool (dN (oZ x)),.slice q (ws (dX (oZ x))).length cq,.int .i64 (dE (oZ x))]] U fun r w'=>r=.returned (.int .i64 0)∧La w' (g2+1) (exV (V0+pT x 4607182418800017408)) ((Sp.mk sn su sd sm sp' sa).cnt (pK x 4607182418800017408) 1)∧But (g2+1) U w'):=fun U q cq hLa hNt=>by
     rw [o2] at hNt ⊢;have:=rAdd7 (g2+1) V0 (pT x 4607182418800017408) sn su sd sm sp' sa (kd x) q cq U hLa (by unfold Sp.ok;simp only;omega) o3 (by omega) hNt j hj v0 vT v2
     rw [o1] at this;exact this
    have EE:=qsd (ai e1 e2);have hkb:k<4611686018427387904:=by omega
    obtain ⟨ox,hox⟩:∃ o,o=oZ x:=⟨_,rfl⟩;obtain ⟨jx,hjx⟩:∃ j:Nat,j=kd x:=⟨_,rfl⟩;rw [←hox,←hjx] at HP HA;rw [←hox] at FX;clear hx hj v0 v2 vT e1 e2 hV0 hs0 HL hln hx64 s1 s2 s3 s4 s5 s6' sa' o1 o2 o3 hox hjx;have hd1:decide ((k:Int)<(n:Nat))=true:=by simp;omega
    go_wp2_with fail
    refine (HP.out wr).mono ?_;rintro r u ⟨⟨v,rfl,hN⟩,hb⟩;obtain ⟨a1,c1,rfl,hN0⟩:=Lo.shape FX.out hN;have HA1:=hid (HA.out u a1 c1 (HL'.out.1.below hb) hN0);have K1:Aside (Bl u g2 65 [.bool false,.slice none 0 0,.int .i64 0,.int .i64 0,.int .i64 0,.int .i64 0,.int .i64 0,.int .i64 0,.int .i64 0]∧Below w.heap.size w u∧w.heap.size≤g2):=⟨HL'.out.2.1.below hb HL'.out.2.1.lt,HL'.out.2.2.1.trans (hb.mono HL'.out.2.2.1.size),HL'.out.2.2.2⟩;clear hN hN0 hb HP HA HL' hcx
    go_wp2_with fail
    refine HA1.out.mono ?_;rintro r u2 ⟨rfl,hla,hbt⟩
    have H4:Aside (La u2 (g2+1) (exV (vS (xs.take (k+1)))) (sS (xs.take (k+1)))∧Bl u2 g2 65 [.bool false,.slice none 0 0,.int .i64 0,.int .i64 0,.int .i64 0,.int .i64 0,.int .i64 0,.int .i64 0,.int .i64 0]∧Below w.heap.size w u2∧w.heap.size≤g2):=by
     rw [EE.out.1,EE.out.2];exact ⟨hla,Bl.but K1.out.1 hbt (by omega),But.below K1.out.2.1 hbt K1.out.2.1.size (by have:=K1.out.2.2;omega),K1.out.2.2⟩
    clear hla hbt K1 EE HA1;go_wp2
    go_roundg (gk-1)
    case measure=>omega
    case rel=>exact ⟨k+1,by omega,by first | rfl | simp,H4.out⟩
  · obtain rfl:n=k:=by omega
    have hd1:decide ((n:Int)<(n:Nat))=false:=by simp
    have e:xs.take n=xs:=List.take_of_length_le (by rw [←PP.out.1];omega)
    rw [e] at HL;rw [←OV.out.1,←OV.out.2] at HL;obtain ⟨p,q,BV,NV⟩:=HL.out.1;unfold laC at BV;simp only at BV;obtain ⟨⟨v0,v1,v2⟩,v3,v4,v5,v6,v7,v8⟩:=BV.facts9;have hB2:=HL.out.2.1;obtain ⟨⟨y0,y1,y2⟩,y3,y4,y5,y6,y7,y8⟩:=hB2.facts9;have f0:=hB2.frozen 0;have f1:=hB2.frozen 1;have f2:=hB2.frozen 2;have f3:=hB2.frozen 3;have f4:=hB2.frozen 4;have f5:=hB2.frozen 5;have f6:=hB2.frozen 6;have f7:=hB2.frozen 7;have f8:=hB2.frozen 8
    have HF:Aside (Bl (st9 wr g2 (.bool (dN ov)) (.slice p (ws (dX ov)).length q) (.int .i64 (dE ov)) (.int .i64 fn) (.int .i64 fu) (.int .i64 fd) (.int .i64 fm) (.int .i64 fp) (.int .i64 fa)) g2 65 [.bool (dN ov),.slice p (ws (dX ov)).length q,.int .i64 (dE ov),.int .i64 fn,.int .i64 fu,.int .i64 fd,.int .i64 fm,.int .i64 fp,.int .i64 fa]∧Nt 0 (st9 wr g2 (.bool (dN ov)) (.slice p (ws (dX ov)).length q) (.int .i64 (dE ov)) (.int .i64 fn) (.int .i64 fu) (.int .i64 fd) (.int .i64 fm) (.int .i64 fp) (.int .i64 fa)) (.slice p (ws (dX ov)).length q) (dX ov)∧Below w.heap.size w (st9 wr g2 (.bool (dN ov)) (.slice p (ws (dX ov)).length q) (.int .i64 (dE ov)) (.int .i64 fn) (.int .i64 fu) (.int .i64 fd) (.int .i64 fm) (.int .i64 fp) (.int .i64 fa))) :=
     ⟨hB2.st9 _ _ _ _ _ _ _ _ _,NV.offA hB2 (by decide) (st9_but _ _ _ _ _ _ _ _ _ _ _),But.below HL.out.2.2.1 (st9_but _ _ _ _ _ _ _ _ _ _ _) HL.out.2.2.1.size HL.out.2.2.2⟩
    unfold st9 at HF;clear BV NV hB2 e HL OV;go_wp2;obtain ⟨⟨t0,t1,t2⟩,t3,t4,t5,t6,t7,t8⟩:=HF.out.1.facts9;exact bodyPost_ret (v:=.agg #[.bool (dN ov),.slice p (ws (dX ov)).length q,.int .i64 (dE ov),.int .i64 fn,.int .i64 fu,.int .i64 fd,.int .i64 fm,.int .i64 fp,.int .i64 fa]) (by simp [results,Tryz.results82,go_sem,t0,t1,t2,t3,t4,t5,t6,t7,t8]) rfl ⟨⟨p,q,rfl,HF.out.2.1⟩,HF.out.2.2⟩
end
section
open Go.RowKit J
attribute [local go_sem] st_float
theorem La.new {w:World}{o:Option (Bool×Nat×Int)}{a:Option Addr}{c:Nat}{s:Sp}(hN:Nt 0 w (.slice a (ws (dX o)).length c) (dX o)):La (w.alloc (Obj.cells #[.bool (dN o),.slice a (ws (dX o)).length c,.int .i64 (dE o),.int .i64 s.n,.int .i64 s.u,.int .i64 s.d,.int .i64 s.m,.int .i64 s.p,.int .i64 s.a] 65)) w.heap.size o s :=
 ⟨a,c,Bl.new w 65 [_,_,_,_,_,_,_,_,_],hN.below (below_alloc _ _)⟩
set_option maxRecDepth 100000 in
theorem rExact12 (xs:List Nat) (a:Option Addr) (n c:Nat) (mode pa pb:Int) (w:World) (hn:n=xs.length) (hF:Fs w.heap.size w a xs) (hW:W64 xs) (hm:n≤17592186043904) :
 Calls Tryz.prog 33 #[.slice a n c,.int .i64 mode,.agg #[.int .i64 pa,.int .i64 pb]] w fun r w'=>r=.returned (.tuple #[.float .f64 (exR xs mode pa pb).1,.int .i64 (exR xs mode pa pb).2])∧Below w.heap.size w w':=by
 have HM:=hid (fun u:World=>rMay_any pa pb u)
 have HO:=hid (fun u:World=>rOf10z u)
 obtain ⟨W,hWW⟩:∃ W,W=w.alloc (Obj.cells #[.int .i64 pa,.int .i64 pb] 24):=⟨_,rfl⟩;obtain ⟨g5,hg5⟩:∃ x,x=w.heap.size:=⟨_,rfl⟩
 have K0:Aside (Bl W g5 24 [.int .i64 pa,.int .i64 pb]∧Below w.heap.size w W):=by
  rw [hWW,hg5];exact ⟨Bl.new w 24 [_,_],below_alloc _ _⟩
 have HW:=qsd hWW;have HG:=qsd hg5;clear hWW hg5;have p0:=K0.out.1.cell 0 _ rfl;have p1:=K0.out.1.cell 1 _ rfl
 by_cases hb1:mode<0∨4<mode∨may pa pb=false
 · have e:exR xs mode pa pb=(0,1):=by unfold exR;rw [if_pos hb1]
   rw [e];clear e hn hF hW hm
   by_cases h1:mode<0
   · have d1:decide (mode<0)=true:=decide_eq_true h1
     clear hb1 h1;go_enter Tryz.func33,Tryz.ntmps33
     go_upto_region 1 with fail
     rw [←HW.out,←HG.out];clear HW HG
     go_wp2_with fail
     refine (HM.out _).mono ?_;rintro r w1 ⟨rfl,hb⟩;have K1:Aside (Bl w1 g5 24 [.int .i64 pa,.int .i64 pb]∧Below w.heap.size w w1):=⟨K0.out.1.below hb K0.out.1.lt,K0.out.2.trans (hb.mono K0.out.2.size)⟩;clear hb HM K0 p0 p1
     go_wp2_with fail
     refine (HO.out _).mono ?_;rintro r w2 ⟨rfl,hu⟩;have hu':=hu.symm;clear hu;subst hu';go_wp2;exact bodyPost_ret (v:=.tuple #[.float .f64 0,.int .i64 1]) (by simp [results,Tryz.results33,go_sem]) rfl ⟨rfl,K1.out.2⟩
   · have d1:decide (mode<0)=false:=decide_eq_false h1
     by_cases h2:4<mode
     · have d2:decide (4<mode)=true:=decide_eq_true h2
       clear hb1 h1 h2;go_enter Tryz.func33,Tryz.ntmps33
       go_upto_region 1 with fail
       rw [←HW.out,←HG.out];clear HW HG
       go_wp2_with fail
       refine (HM.out _).mono ?_;rintro r w1 ⟨rfl,hb⟩;have K1:Aside (Bl w1 g5 24 [.int .i64 pa,.int .i64 pb]∧Below w.heap.size w w1):=⟨K0.out.1.below hb K0.out.1.lt,K0.out.2.trans (hb.mono K0.out.2.size)⟩;clear hb HM K0 p0 p1
       go_wp2_with fail
       refine (HO.out _).mono ?_;rintro r w2 ⟨rfl,hu⟩;have hu':=hu.symm;clear hu;subst hu';go_wp2;exact bodyPost_ret (v:=.tuple #[.float .f64 0,.int .i64 1]) (by simp [results,Tryz.results33,go_sem]) rfl ⟨rfl,K1.out.2⟩
     · have d2:decide (4<mode)=false:=decide_eq_false h2
       have h3:may pa pb=false:=by rcases hb1 with q | q | q;exact absurd q h1;exact absurd q h2;exact q
       rw [h3] at HM;clear hb1 h1 h2 h3;go_enter Tryz.func33,Tryz.ntmps33
       go_upto_region 1 with fail
       rw [←HW.out,←HG.out];clear HW HG
       go_wp2_with fail
       refine (HM.out _).mono ?_;rintro r w1 ⟨rfl,hb⟩;have K1:Aside (Bl w1 g5 24 [.int .i64 pa,.int .i64 pb]∧Below w.heap.size w w1):=⟨K0.out.1.below hb K0.out.1.lt,K0.out.2.trans (hb.mono K0.out.2.size)⟩;clear hb HM K0 p0 p1
       go_wp2_with fail
       refine (HO.out _).mono ?_;rintro r w2 ⟨rfl,hu⟩;have hu':=hu.symm;clear hu;subst hu';go_wp2;exact bodyPost_ret (v:=.tuple #[.float .f64 0,.int .i64 1]) (by simp [results,Tryz.results33,go_sem]) rfl ⟨rfl,K1.out.2⟩
 have h1:0≤mode:=by omega
 have h2:mode≤4:=by omega
 have h3:may pa pb=true:=by
  cases q:may pa pb
  · exact absurd (.inr (.inr q)) hb1
  · rfl
 rw [h3] at HM;have d1:decide (mode<0)=false:=decide_eq_false (by omega)
 have d2:decide (4<mode)=false:=decide_eq_false (by omega)
 by_cases hl:65536<xs.length
 · have hd:decide ((65536:Int)<(n:Int))=true:=by simp;omega
   have e:exR xs mode pa pb=(0,2):=by unfold exR;rw [if_neg hb1,if_pos hl]
   rw [e];clear e hn hF hW hm hb1 hl h1 h2 h3;go_enter Tryz.func33,Tryz.ntmps33
   go_upto_region 1 with fail
   rw [←HW.out,←HG.out];clear HW HG
   go_wp2_with fail
   refine (HM.out _).mono ?_;rintro r w1 ⟨rfl,hb⟩;have K1:Aside (Bl w1 g5 24 [.int .i64 pa,.int .i64 pb]∧Below w.heap.size w w1):=⟨K0.out.1.below hb K0.out.1.lt,K0.out.2.trans (hb.mono K0.out.2.size)⟩;clear hb HM K0 p0 p1
   go_wp2_with fail
   refine (HO.out _).mono ?_;rintro r w2 ⟨rfl,hu⟩;have hu':=hu.symm;clear hu;subst hu';go_wp2;exact bodyPost_ret (v:=.tuple #[.float .f64 0,.int .i64 2]) (by simp [results,Tryz.results33,go_sem]) rfl ⟨rfl,K1.out.2⟩
 have hd:decide ((65536:Int)<(n:Int))=false:=by simp;omega
 have NC:Aside (exR xs mode pa pb=rd10 (vS xs) (sS xs) mode pa pb):=by unfold exR;rw [if_neg hb1,if_neg hl];exact rfl
 obtain ⟨j,hj⟩:∃ j,j=4238:=⟨_,rfl⟩;have v0:=vS_bound xs hW xs.length (Nat.le_refl _);have sp:=sS_pos xs xs.length (Nat.le_refl _);rw [List.take_length] at v0 sp;have v0:=bd12 xs.length (by omega) v0 j hj
 have HWh:=hid (fun (u:World) (hb:Below w.heap.size w u)=>rWhole12 xs a n c u hn ((hF.below hb).mono hb.size) hW (by omega))
 obtain ⟨⟨sn,su,sd,sm,sp',sa⟩,hs0⟩:∃ s,s=sS xs:=⟨_,rfl⟩;rw [←hs0] at sp HWh NC;obtain ⟨⟨s1,s2,s3,s4,s5,s6'⟩,sa'⟩:=sp;simp only at s1 s2 s3 s4 s5 s6' sa' HWh;have HR:=hid (fun (g:Nat) (u:World) (hA:La u g (exV (vS xs)) ⟨sn,su,sd,sm,sp',sa⟩)=>rRound7 g (vS xs) sn su sd sm sp' sa pa pb mode u hA j (by omega) v0 (by omega) (by omega) h1 h2 h3)
 obtain ⟨⟨RX,RE⟩,hR⟩:∃ z,exR xs mode pa pb=z:=⟨_,rfl⟩;rw [hR] at NC ⊢;rw [←NC.out] at HR;simp only at HR ⊢;obtain ⟨ov,hov⟩:∃ o,o=exV (vS xs):=⟨_,rfl⟩;rw [←hov] at HR HWh;clear hn hF hW hm hb1 hl h1 h2 h3 hj v0 s1 s2 s3 s4 s5 s6' sa' hs0 hR hov NC;go_enter Tryz.func33,Tryz.ntmps33
 go_upto_region 1 with fail
 rw [←HW.out,←HG.out];clear HW HG
 go_wp2_with fail
 refine (HM.out _).mono ?_;rintro r w1 ⟨rfl,hb⟩;have K1:Aside (Bl w1 g5 24 [.int .i64 pa,.int .i64 pb]∧Below w.heap.size w w1):=⟨K0.out.1.below hb K0.out.1.lt,K0.out.2.trans (hb.mono K0.out.2.size)⟩;clear hb HM K0 p0 p1
 go_wp2_with fail
 refine (HWh.out _ K1.out.2).mono ?_;rintro r u ⟨⟨p,q,rfl,hN⟩,hb⟩;obtain ⟨U,hU⟩:∃ U,U=u.alloc (Obj.cells #[.bool (dN ov),.slice p (ws (dX ov)).length q,.int .i64 (dE ov),.int .i64 sn,.int .i64 su,.int .i64 sd,.int .i64 sm,.int .i64 sp',.int .i64 sa] 65):=⟨_,rfl⟩
 have K2:Aside (La U u.heap.size ov ⟨sn,su,sd,sm,sp',sa⟩∧Bl U g5 24 [.int .i64 pa,.int .i64 pb]∧Below w.heap.size w U):=by
  have q1:=K1.out.2.trans (hb.mono K1.out.2.size);rw [hU];exact ⟨La.new (s:=⟨sn,su,sd,sm,sp',sa⟩) hN,(K1.out.1.below hb K1.out.1.lt).alloc _,q1.trans ((below_alloc _ _).mono q1.size)⟩
 have HU:=qsd hU;clear hU hN hb K1 HWh
 go_upto_region 7 with fail
 rw [←HU.out];clear HU;have p0:=K2.out.2.1.cell 0 _ rfl;have p1:=K2.out.2.1.cell 1 _ rfl
 go_wp2_with fail
 refine (HR.out _ U K2.out.1).mono ?_;rintro r u2 ⟨rfl,hb⟩;have B:=qsd (K2.out.2.2.trans (hb.mono K2.out.2.2.size));clear hb;go_wp2;exact bodyPost_ret (v:=.tuple #[.float .f64 RX,.int .i64 RE]) (by simp [results,Tryz.results33,go_sem]) rfl ⟨rfl,B.out⟩
end
end Go.Proofs.YthfkleadcnkglaaGreatDoor
