import Derived.Test.YtjppdacikihpdaaGreatDoorZ41x
import Derived.Deep.RegionWith
import Derived.Deep.RegionHeld3
import Derived.Test.YtjppdacikihpdaaGreatDoorPR2x
import Derived.Test.YtjppdacikihpdaaGreatDoorU1x
import Derived.BigQuiet
import Derived.Test.YtjppdacikihpdaaGreatDoorRS6x
import Derived.Test.YtjppdacikihpdaaGreatDoorF2x
import Derived.Test.YtjppdacikihpdaaGreatDoorS10x
import Derived.Deep.CutRange
import Derived.Test.YtjppdacikihpdaaGreatDoorBIeeex
set_option linter.unusedVariables false
set_option linter.unusedSimpArgs false
set_option maxHeartbeats 16000000
set_option maxRecDepth 20000
namespace Go.Proofs.YtjppdacikihpdaaGreatDoor
namespace J
end J
section
open Go.RowKit J
attribute [local go_sem] bR
def laC(o:Option (Bool×Nat×Int))(a:Option Addr)(c:Nat)(s:Sp):List Value:=[.bool (dN o),.slice a (ws (dX o)).length c,.int .i64 (dE o),.int .i64 s.n,.int .i64 s.u,.int .i64 s.d,.int .i64 s.m,.int .i64 s.p,.int .i64 s.a]
def La(w:World)(g:Nat)(o:Option (Bool×Nat×Int))(s:Sp):Prop:=∃ a c,Bl w g 103 (laC o a c s)/\Nt 0 w (.slice a (ws (dX o)).length c) (dX o)
theorem La.below{w w':World}{g:Nat}{o:Option (Bool×Nat×Int)}{s:Sp}(h:La w g o s)(hb:Below w.heap.size w w'):La w' g o s:=by
 exact Qbt
theorem La.lt{w:World}{g:Nat}{o:Option (Bool×Nat×Int)}{s:Sp}(h:La w g o s):g<w.heap.size:=by
 obtain⟨a,c,h1,h2⟩:=h;exact h1.lt
theorem Nt.Xe{lo g T:Nat}{w w':World}{v:Value}{X:Nat}{C:List Value}(h:Nt lo w v X)(hB:Bl w g T C)(hT:T≠162)(hb:But g w w'):Nt lo w' v X:=by
 refine h.off hb ?_;rcases h.2 with ⟨rfl,_⟩|⟨g',cap,cur,rfl,_,hg,_⟩
 · simp[Value.ownBlock]
 · intro e';obtain rfl:g'=g:=by simpa [Value.ownBlock] using e'
   rw[show w.heap[g']?=_ from hB] at hg;simp at hg;exact hT hg.2
theorem TF{V:Int}(j:Nat)(hj:j=4238)(hV:V.natAbs<2^j):decide ((2090:Int)<(bl (dX (gH V)):Int)+dE (gH V))=false/\bl (dX (gH V))<=262144/\-2000000<=dE (gH V)/\dE (gH V)<=2000000:=by
 obtain⟨n,X,e,ho,F,hx⟩:=FC V j (by omega) hV;rw[ho];have h1:=F.size;have h2:=F.down;have h3:=F.up;show decide ((2090:Int)<(bl X:Int)+e)=false/\bl X<=262144/\-2000000<=e/\e<=2000000;refine⟨decide_eq_false ?_,h1,by omega,by omega⟩;rcases hx with h|⟨h4,h5⟩
 · rcases F.odd with q | ⟨_,q,_⟩
   · omega
   · have hb:bl 0=0:=by decide
     rcases F.odd with r|⟨r1,r2,r3⟩
     · omega
     · subst h;rw[hb];omega
 · omega
end
section
open Go.RowKit J
attribute [local go_sem] bR
theorem Bl.uF{w:World}{g T:Nat}{a b c d e f h i j:Value}(H:Bl w g T [a,b,c,d,e,f,h,i,j]):(w.cell? ⟨g,0,none⟩=some a/\w.cell? ⟨g,1,none⟩=some b/\w.cell? ⟨g,2,none⟩=some c)/\(w.cell? ⟨g,3,none⟩=some d/\w.cell? ⟨g,4,none⟩=some e/\w.cell? ⟨g,5,none⟩=some f/\w.cell? ⟨g,6,none⟩=some h/\w.cell? ⟨g,7,none⟩=some i/\w.cell? ⟨g,8,none⟩=some j) :=
 ⟨⟨H.cell 0 _ rfl,H.cell 1 _ rfl,H.cell 2 _ rfl⟩,H.cell 3 _ rfl,H.cell 4 _ rfl,H.cell 5 _ rfl,H.cell 6 _ rfl,H.cell 7 _ rfl,H.cell 8 _ rfl⟩
theorem Qax{P:Prop}(h:P:=by
 obtain⟨a,c,h1,h2⟩:=h;obtain⟨_,_,k1,_⟩:=hq;exact⟨a,c,Bl.but h1 (eF gq w x y z) hne,h2.yB k1 _ _ _⟩):P:=h
theorem La.ZX{w:World}{g gq:Nat}{o p:Option (Bool×Nat×Int)}{s:Sp}(h:La w g o s)(hq:Lo w gq p)(hne:g≠gq)(x y z:Value):La (dG w gq x y z) g o s:=by
 exact Qax
theorem Lt.ZX{w:World}{g gq k:Nat}{o p:Option (Bool×Nat×Int)}(h:Lt w g k o)(hq:Lo w gq p)(hne:g≠gq)(x y z:Value):Lt (dG w gq x y z) g k o:=by
 exact Qax
theorem X0(W:World):Below W.heap.size W (W.alloc (Obj.cells #[.bool false,.slice none 0 0,.int .i64 0] 79)).drew:=(ae W (Obj.cells #[.bool false,.slice none 0 0,.int .i64 0] 79)).trans (((ay (W.alloc (Obj.cells #[.bool false,.slice none 0 0,.int .i64 0] 79)).heap.size (W.alloc (Obj.cells #[.bool false,.slice none 0 0,.int .i64 0] 79))).drew).mono (by simp))
theorem addZ{W w3:World}(hb:Below (W.alloc (Obj.cells #[.bool false,.slice none 0 0,.int .i64 0] 79)).drew.heap.size (W.alloc (Obj.cells #[.bool false,.slice none 0 0,.int .i64 0] 79)).drew w3):Lo w3 W.heap.size Fy/\Below W.heap.size W w3:=by
 have h1:Lo (W.alloc (Obj.cells #[.bool false,.slice none 0 0,.int .i64 0] 79)).drew W.heap.size Fy:=(Lo.zero W).below (ay _ _).drew;have h2:Below W.heap.size W (W.alloc (Obj.cells #[.bool false,.slice none 0 0,.int .i64 0] 79)).drew:=X0 W;exact⟨h1.below hb,h2.trans (hb.mono h2.size)⟩
theorem addW(W:World):Below W.heap.size W (W.alloc (Obj.cells #[.bool false,.slice none 0 0,.int .i64 0] 79)).drew:=X0 W
set_option maxRecDepth 100000 in
theorem rAdd7(g:Nat)(V T:Int)(n u d m p a:Int)(k:Nat)(b:Option Addr)(cb:Nat)(w:World)(hA:La w g (gH V) ⟨n,u,d,m,p,a⟩)(hs:(Sp.mk n u d m p a).ok)(hk:k<=5)(ha:a≠1099511627776)(N:Nt 0 w (.slice b (ws (dX (gH T))).length cb) (dX (gH T)))(j:Nat)(hj:j=4238)(hV:V.natAbs<2^j)(hT:T.natAbs<2^j)(hVT:(V+T).natAbs<2^j) :
 Calls Tryz.prog 103 #[.pointer (some ⟨g,0,none⟩),.agg #[.int .i64 (k:Nat),.bool (dN (gH T)),.slice b (ws (dX (gH T))).length cb,.int .i64 (dE (gH T))]] w fun r w'=>r=.returned (.int .i64 0)/\La w' g (gH (V+T)) ((Sp.mk n u d m p a).cnt (FD k) 1)/\But g w w':=by
 have FV:=nC V j (by omega) hV;have FT:=nC T j (by omega) hT;have FS:=nC (V+T) j (by omega) hVT;have EA:=Zf j (by omega) hV hT;obtain⟨gr1,gr2,gr3,gr4⟩:=TF (V:=V+T) j hj hVT;have HC:=hid (fun w':World=>Oh n u d m p a k hk hs w');obtain⟨ov,hov⟩:=af (gH V);obtain⟨ot,hot⟩:=af (gH T);obtain⟨os,hos⟩:=af (gH (V+T));rw[<-hov] at FV EA hA;rw[<-hot] at FT EA N |-;rw[<-hos] at FS EA gr1 gr2 gr3 gr4 |-;obtain⟨⟨n1,u1,d1,m1,p1,a1⟩,hs1⟩:∃ s,s=(Sp.mk n u d m p a).cnt (FD k) 1:=⟨_,rfl⟩;rw[<-hs1] at HC |-;unfold Sp.agg at HC;simp only at HC;have FF:=iw FV FT FS EA;have GG:=iw gr1 gr2 gr3 gr4;have ha':(a==1099511627776)=false:=by simpa using ha
 have glt:=hA.lt;obtain⟨W,hW⟩:=af (w.alloc (Obj.cells #[.int .i64 (k:Nat),.bool (dN ot),.slice b (ws (dX ot)).length cb,.int .i64 (dE ot)] 133));obtain⟨g3,hg3⟩:=af (w.heap.size)
 have K0:Aside (La W g ov ⟨n,u,d,m,p,a⟩/\Lt W g3 k ot/\Below w.heap.size w W/\g<g3):=by
  rw[hW,hg3];exact⟨hA.below (ae _ _),Lt.new N,ae _ _,glt⟩
 have HW:=ah hW;have HG:=ah hg3;clear FV FT FS EA gr1 gr2 gr3 gr4 hov hot hos hs1 hA N ha hV hT hVT hj hW glt hs hg3;go_enter Tryz.func103,Tryz.ntmps103
 go_upto_region 1 with fail
 rw[<-HW.o,<-HG.o];clear HW;obtain⟨aV,cV,BV,NV⟩:=K0.o.1;obtain⟨aT,cT,BT,NT⟩:=K0.o.2.1;unfold laC at BV;obtain⟨⟨v0,v1,v2⟩,v3,v4,v5,v6,v7,v8⟩:=BV.uF;obtain⟨t0,t1,t2,t3⟩:=BT.four;have PB:Hid (∀ U:World,Below W.heap.size W U->Calls Tryz.prog 70 #[.agg #[.bool (dN ov),.slice aV (ws (dX ov)).length cV,.int .i64 (dE ov)],.agg #[.bool (dN ot),.slice aT (ws (dX ot)).length cT,.int .i64 (dE ot)]] U fun r w'=>(∃ v,r=.returned (.tuple #[.agg #[.bool (dN os),v,.int .i64 (dE os)],.int .i64 0])/\Nt U.heap.size w' v (dX os))/\Below U.heap.size U w'):=fun U hU=>R6 FF.o.1 FF.o.2.1 (NV.below hU) (NT.below hU) FF.o.r3 FF.o.r2.1;clear BV NV BT NT
 go_upto_region 3 with fail
 go_cut [5,6] from 13 to 22 (fun q e wx=>∃ gq:Nat,q=.pointer (some ⟨gq,0,none⟩)/\e=.int .i64 0/\Aside (Lo wx gq os/\La wx g ov ⟨n,u,d,m,p,a⟩/\Lt wx g3 k ot/\Below w.heap.size w wx/\g3<gq))
 case first =>
  have hgl:g<W.heap.size:=K0.o.1.lt;have hg3l:g3<W.heap.size:=by obtain⟨_,_,h,_⟩:=K0.o.2.1;exact h.lt
  go_region_with (go_at_call 70;first
   | (refine(PB.o _ (ay _ W).drew).mono ?_;rintro r w3 ⟨⟨v,rfl,hN⟩,hb3⟩;obtain⟨a3,c3,rfl,hN0⟩:=Lo.shape FF.o.r2.1 hN;have HQ:=aZ hN0 ((ay _ W).drew.trans hb3);clear hN hN0 hb3)
   | (refine(PB.o _ (addW W)).mono ?_;rintro r w3 ⟨⟨v,rfl,hN⟩,hb3⟩;obtain⟨a3,c3,rfl,hN0⟩:=Lo.shape FF.o.r2.1 hN;have HZ:=aZ hN0 (addZ hb3);obtain⟨zp,zq,DZ,MZ⟩:=HZ.o.2.1;obtain⟨z0,z1,z2,zf0,zf1,zf2⟩:=DZ.facts;clear hN hN0 hb3 DZ MZ))
  all_goals
   go_wp2_with fail
   go_meet
   case rel =>
    first
     | exact⟨w3.heap.size,rfl,rfl,Lo.new HQ.o.1,(K0.o.1.below HQ.o.2).below (ae _ _),(K0.o.2.1.below HQ.o.2).below (ae _ _),(K0.o.r2.1.trans (HQ.o.2.mono K0.o.r2.1.size)).trans ((ae _ _).mono (dz K0.o.r2.1.size HQ.o.2.size)),fZ hg3l HQ.o.2.size⟩
     | exact⟨W.heap.size,rfl,rfl,HZ.o.2.1.set HZ.o.1,(K0.o.1.below HZ.o.r2).ZX HZ.o.2.1 (by omega) _ _ _,(K0.o.2.1.below HZ.o.r2).ZX HZ.o.2.1 (by omega) _ _ _,jk (K0.o.r2.1.trans (HZ.o.r2.mono K0.o.r2.1.size)) (dz K0.o.r2.1.size HZ.o.r2.size) K0.o.r2.1.size _ _ _,hg3l⟩
 obtain⟨gq,rfl,rfl,K1⟩:=hcut;obtain⟨U,hU⟩:=af wc;rw[<-hU] at K1 |-;clear hU v0 v1 v2 v3 v4 v5 v6 v7 v8 t0 t1 t2 t3 PB;obtain⟨q0,r0,D0,M0⟩:=K1.o.1;obtain⟨x0,x1,x2,dW,dY,dZ⟩:=D0.facts
 have HGr:Hid (Calls Tryz.prog 160 #[.agg #[.bool (dN os),.slice q0 (ws (dX os)).length r0,.int .i64 (dE os)]] U fun r w'=>r=.returned (.bool false)/\Below U.heap.size U w'):=by
  have:=Xc (dN os) (dX os) (dE os) q0 r0 U (FF.o.r2.1.a12 M0) GG.o.2.1 GG.o.r2.1 GG.o.r3;rw[GG.o.1] at this;exact this
 clear D0 M0;go_wp2_with fail;refine HGr.o.mono ?_;rintro r u2 ⟨rfl,hb⟩;have l0:=K1.o.1.below hb;have l1:=K1.o.2.1.below hb;have l2:=K1.o.r2.1.below hb;have b2:=K1.o.r3.1.trans (hb.mono K1.o.r3.1.size);have hg3:=K1.o.r4;obtain⟨q0,r0,D0,M0⟩:=l0;obtain⟨y0,y1,y2,dH,dI,dJ⟩:=D0.facts;obtain⟨aV,cV,BV,NV⟩:=l1;unfold laC at BV;obtain⟨⟨v0,v1,v2⟩,v3,v4,v5,v6,v7,v8⟩:=BV.uF;have vf0:=BV.frozen 0;have vf1:=BV.frozen 1;have vf2:=BV.frozen 2;obtain⟨U2,dA⟩:=af (dG u2 g (.bool (dN os)) (.slice q0 (ws (dX os)).length r0) (.int .i64 (dE os)))
 have K2:Aside (Bl U2 g 103 (laC os q0 r0 ⟨n,u,d,m,p,a⟩)/\Nt 0 U2 (.slice q0 (ws (dX os)).length r0) (dX os)/\Lt U2 g3 k ot/\But g w U2/\g<g3/\w.heap.size<=U2.heap.size):=by
  rw[dA];refine⟨((BV.set 0 _).set 1 _).set 2 _,M0.Xe BV (by decide) (eF _ _ _ _ _),?_,((But.refl g w).oh b2).trans (eF _ _ _ _ _),K0.o.r3,dz b2.size (by simp[dG,World.setCell])⟩;obtain⟨aT,cT,BT,NT⟩:=l2;exact⟨aT,cT,Bl.but BT (eF _ _ _ _ _) (by have:=K0.o.r3;omega),NT.Xe BV (by decide) (eF _ _ _ _ _)⟩
 unfold dG at dA;have HU:=ah dA;clear D0 M0 BV NV l2 b2 hb dA HGr x0 x1 x2 dW dY dZ K1
 go_upto_region 7 with fail
 rw[<-HU.o];clear HU v0 v1 v2 v3 v4 v5 v6 v7 v8 vf0 vf1 vf2 y0 y1 y2 dH dI dJ;obtain⟨v3,v4,v5,v6,v7,v8⟩:=(show Bl U2 g 103 [_,_,_,_,_,_,_,_,_] from K2.o.1).uF.2;obtain⟨aT,cT,BT,NT⟩:=K2.o.r2.1;have t0:=BT.cell 0 _ rfl;have HB:Hid (Bl U2 g 103 [.bool (dN os),.slice q0 (ws (dX os)).length r0,.int .i64 (dE os),.int .i64 n,.int .i64 u,.int .i64 d,.int .i64 m,.int .i64 p,.int .i64 a]):=K2.o.1;have hlt:g<U2.heap.size:=HB.o.lt;clear BT NT
 go_region_with (go_at_call 161;refine(HC.o _).mono ?_;rintro r w3 ⟨rfl,hb3⟩;have HQ:=ah (Bl.below (w:=U2.drew) HB.o hb3 hlt);have q3:=HQ.o.cell 3 _ rfl;have q4:=HQ.o.cell 4 _ rfl;have q5:=HQ.o.cell 5 _ rfl;have q6:=HQ.o.cell 6 _ rfl;have q7:=HQ.o.cell 7 _ rfl;have q8:=HQ.o.cell 8 _ rfl;have f3:=HQ.o.frozen 3;have f4:=HQ.o.frozen 4;have f5:=HQ.o.frozen 5;have f6:=HQ.o.frozen 6;have f7:=HQ.o.frozen 7;have f8:=HQ.o.frozen 8;have HB3:=ah hb3;clear hb3)
 all_goals
  go_wp2;go_ret;have hbd:Below U2.heap.size U2 w3:=(ay _ U2).drew.trans HB3.o;refine⟨rfl,⟨q0,r0,((((((HQ.o.set 3 _).set 4 _).set 5 _).set 6 _).set 7 _).set 8 _),?_⟩,?_⟩
  · exact(K2.o.2.1.below hbd).Xe HQ.o (by decide) ((((((But.refl g w3).set 3 _).set 4 _).set 5 _).set 6 _).set 7 _ |>.set 8 _)
  · exact K2.o.r3.1.trans (((But.refl g U2).oh hbd).trans ((((((But.refl g w3).set 3 _).set 4 _).set 5 _).set 6 _).set 7 _ |>.set 8 _))
end
section
open Go.RowKit J
attribute [local go_sem] bR
theorem ZY{V:Int}(n:Nat)(hn:n<=65536)(h:-((n*QB:Nat):Int)<=V/\V<=((n*QB:Nat):Int))(j:Nat)(hj:j=4238):V.natAbs<2^j:=by
 rw[<-xO j hj,Kt];have h3:n*QB<=65536*QB:=di _ hn;have h5:=Cm;omega
end
section
open Go.RowKit J
attribute [local go_sem] bR
theorem ZZ{x:Nat}(hx:x<18446744073709551616):(kd x=4->cZ x=true)/\(kd x=3->cZ x=false)/\(kd x=1->cZ x=true)/\(kd x=2->cZ x=false):=by
 have e2:cZ x=decide (9223372036854775808<=x):=rfl;rw[e2];unfold kd
 by_cases h1:9218868437227405312<x%9223372036854775808
 · rw[if_pos h1];omega
 · rw[if_neg h1]
   by_cases h2:x%9223372036854775808=9218868437227405312
   · rw[if_pos h2]
     by_cases h3:x/9223372036854775808=1
     · rw[if_pos h3];exact⟨fun _=>decide_eq_true (by omega),(fun h=>by omega),(fun h=>by omega),(fun h=>by omega)⟩
     · rw[if_neg h3];exact⟨(fun h=>by omega),fun _=>decide_eq_false (by omega),(fun h=>by omega),(fun h=>by omega)⟩
   · rw[if_neg h2]
     by_cases h4:x%9223372036854775808=0
     · rw[if_pos h4]
       by_cases h3:x/9223372036854775808=1
       · rw[if_pos h3];exact⟨(fun h=>by omega),(fun h=>by omega),fun _=>decide_eq_true (by omega),(fun h=>by omega)⟩
       · rw[if_neg h3];exact⟨(fun h=>by omega),(fun h=>by omega),(fun h=>by omega),fun _=>decide_eq_false (by omega)⟩
     · rw[if_neg h4];omega
theorem ex_fo{V:Int}(m:Nat)(hm:m<=10000)(hV:V.natAbs<2^m)(k:Nat)(hk:k=1074):gH (V*((2^k:Nat):Int))=Dm V:=by
 have hb:(V*((2^k:Nat):Int)).natAbs<2^(m+k):=by
  rw[Int.natAbs_mul,ni,aI];exact fe hV (aU k)
 have F:=nC _ (m+k) (by omega) hb;have G:=fo_fm V m (by omega) hV;refine rV F G ?_;rw[CE F,Ze G,YX k hk,dK,kV]
theorem Z0{x:Nat}(hx:x<18446744073709551616):FD (kd x)=pK x 4607182418800017408/\oZ x=gH (pT x 4607182418800017408)/\kd x<=5:=by
 have h1:(4607182418800017408:Nat)<18446744073709551616:=by decide
 have k1:kd 4607182418800017408=0:=by decide +kernel
 have n1:cZ 4607182418800017408=false:=by decide +kernel
 obtain⟨p1,p2,p3,p4⟩:=prod7 hx h1;obtain⟨q4,q3,q1,q2⟩:=ZZ hx;unfold na7 at p1 p2 p3 p4;rw[k1,n1] at *;refine⟨?_,?_,KE x⟩
 · rcases qP hx with ⟨k,c⟩ | ⟨k,c,n⟩ | ⟨k,c,n,f,v⟩ | ⟨k,c,n,f⟩
   · rw[(p1 (by rw[k];rfl)).1,k];rfl
   · rcases k with k | k
     · rw[(p2 (by rw[k];rfl) (by rw[k];rfl)).2.1,q3 k,k];rfl
     · rw[(p2 (by rw[k];rfl) (by rw[k];rfl)).2.1,q4 k,k];rfl
   · rcases k with k | k
     · rw[(p3 (by rw[k];rfl) (by rw[k];rfl) (by rw[k];rfl)).2.1,q1 k,k];rfl
     · rw[(p3 (by rw[k];rfl) (by rw[k];rfl) (by rw[k];rfl)).2.1,q2 k,k];rfl
   · rw[(p4 (by rw[k];rfl) (by rw[k];rfl) (by rw[k];rfl)).2.2,k];rfl
 · rcases qP hx with ⟨k,c⟩ | ⟨k,c,n⟩ | ⟨k,c,n,f,v⟩ | ⟨k,c,n,f⟩
   · rw[(p1 (by rw[k];rfl)).2,qd];exact uD (by intro f;rcases(ig hx f).2.2.2 with q | q <;> omega)
   · have e:pT x 4607182418800017408=0:=by
      rcases k with k|k
      · exact(p2 (by rw[k];rfl) (by rw[k];rfl)).2.2
      · exact(p2 (by rw[k];rfl) (by rw[k];rfl)).2.2
     rw[e,qd];exact uD (by intro f;rcases(ig hx f).2.2.2 with q | q <;> omega)
   · have e:pT x 4607182418800017408=0:=by
      rcases k with k|k
      · exact(p3 (by rw[k];rfl) (by rw[k];rfl) (by rw[k];rfl)).2.2
      · exact(p3 (by rw[k];rfl) (by rw[k];rfl) (by rw[k];rfl)).2.2
     rw[e,qd];exact Dc f v
   · obtain⟨z,hz⟩:∃ z,z=2098:=⟨_,rfl⟩;obtain⟨i,hi⟩:∃ i,i=1074:=⟨_,rfl⟩;have fo:aY 4607182418800017408:=by decide
     rw[(YW hx h1 f fo).1,f1 i hi,gI,ex_fo z (by omega) (Jb hx f z hz) i hi,CY f];rfl
def X4(w:World)(g:Nat)(a b c d e f h i j:Value):World:=((((((((w.setCell ⟨g,0,none⟩ a).setCell ⟨g,1,none⟩ b).setCell ⟨g,2,none⟩ c).setCell ⟨g,3,none⟩ d).setCell ⟨g,4,none⟩ e).setCell ⟨g,5,none⟩ f).setCell ⟨g,6,none⟩ h).setCell ⟨g,7,none⟩ i).setCell ⟨g,8,none⟩ j
theorem Bl.X4{w:World}{g T:Nat}{a' b' c' d' e' f' h' i' j':Value}(H:Bl w g T [a',b',c',d',e',f',h',i',j'])(a b c d e f h i j:Value):Bl (X4 w g a b c d e f h i j) g T [a,b,c,d,e,f,h,i,j] :=
 ((((((((H.set 0 a).set 1 b).set 2 c).set 3 d).set 4 e).set 5 f).set 6 h).set 7 i).set 8 j
theorem KU(w:World)(g:Nat)(a b c d e f h i j:Value):But g w (X4 w g a b c d e f h i j):=(((((((((But.refl g w).set 0 a).set 1 b).set 2 c).set 3 d).set 4 e).set 5 f).set 6 h).set 7 i).set 8 j
set_option maxRecDepth 100000 in
theorem TG(xs:List Nat)(a:Option Addr)(n c:Nat)(w:World)(hn:n=xs.length)(hF:Fs w.heap.size w a xs)(hW:ja xs)(hm:n<=65536) :
 Calls Tryz.prog 64 #[.slice a n c] w fun r w'=>(∃ p q,r=.returned (.agg #[.bool (dN (gH (vS xs))),.slice p (ws (dX (gH (vS xs)))).length q,.int .i64 (dE (gH (vS xs))),.int .i64 (sS xs).n,.int .i64 (sS xs).u,.int .i64 (sS xs).d,.int .i64 (sS xs).m,.int .i64 (sS xs).p,.int .i64 (sS xs).a])/\Nt 0 w' (.slice p (ws (dX (gH (vS xs)))).length q) (dX (gH (vS xs))))/\Below w.heap.size w w':=by
 obtain⟨ov,hov⟩:=af (gH (vS xs));obtain⟨⟨fn,fu,fd,fm,fp,fa⟩,hs0⟩:∃ s,s=sS xs:=⟨_,rfl⟩;rw[<-hov,<-hs0];simp only;have OV:=aZ hov hs0;clear hov hs0;obtain⟨W,um⟩:=af ((w.alloc (Obj.cells #[.bool false,.slice none 0 0,.int .i64 0,.int .i64 0,.int .i64 0,.int .i64 0,.int .i64 0,.int .i64 0,.int .i64 0] 103)).alloc (Obj.cells #[.bool false,.slice none 0 0,.int .i64 0,.int .i64 0,.int .i64 0,.int .i64 0,.int .i64 0,.int .i64 0,.int .i64 0] 103));obtain⟨g2,hg2⟩:=af (w.heap.size)
 have H0:Aside (La W (g2+1) Fy ⟨0,0,0,0,0,0⟩/\Bl W g2 103 [.bool false,.slice none 0 0,.int .i64 0,.int .i64 0,.int .i64 0,.int .i64 0,.int .i64 0,.int .i64 0,.int .i64 0]/\Below w.heap.size w W/\w.heap.size<=g2):=by
  rw[um,hg2];refine⟨⟨none,0,?_,?_⟩,(Bl.new w 103 [_,_,_,_,_,_,_,_,_]).alloc _,(ax _ _).trans ((ax _ _).mono (by simp)),ak _⟩
  · unfold laC;rw[Fz];exact Bl.new' (w.alloc _) 103 _ [_,_,_,_,_,_,_,_,_] (by simp)
  · rw[Fz];exact Nt.nil _ _
 have HW2:=ah um;have HG:=ah hg2;have PP:=iw hn hF hW (show xs.length<=65536 by omega);clear um hg2 hn hF hW;go_enter Tryz.func64,Tryz.ntmps64;go_wp2;rw[<-HW2.o,<-HG.o];clear HW2 HG
 go_loopg [4] n (fun gk i wr=>∃ k:Nat,gk+k=n/\i=.int .i64 (k:Nat)/\Aside (La wr (g2+1) (gH (vS (xs.take k))) (sS (xs.take k))/\Bl wr g2 103 [.bool false,.slice none 0 0,.int .i64 0,.int .i64 0,.int .i64 0,.int .i64 0,.int .i64 0,.int .i64 0,.int .i64 0]/\Below w.heap.size w wr/\w.heap.size<=g2))
 case atStart=>exact⟨0,by omega,by simp,by rw[List.take_zero,show vS []=0 from rfl,show sS []=⟨0,0,0,0,0,0⟩ from rfl,qd];exact H0.o⟩
 case round =>
  clear H0;obtain⟨k,lU,rfl,HL⟩:=hrel
  by_cases hk:k<n
  · obtain⟨b,off,rfl,hcx⟩:=PP.o.2.1.at HL.o.r2.1 k (by rw[<-PP.o.1];exact hk);have hln:=PP.o.1;have e1:=Cn xs k (by omega);have e2:=Co xs k (by omega);have uj:=PP.o.r2.1.get k;obtain⟨x,hx⟩:=af (xs.getD k 0);rw[<-hx] at hcx e1 e2 uj;obtain⟨o1,o2,o3⟩:=Z0 uj;obtain⟨j,hj⟩:∃ j,j=4238:=⟨_,rfl⟩;have v0:=ZY k (by omega) (oG xs PP.o.r2.1 k (by omega)) j hj;have v2:=ZY (k+1) (by omega) (oG xs PP.o.r2.1 (k+1) (by omega)) j hj;have sp:=IK xs k (by omega);have vT:(pT x 4607182418800017408).natAbs<2^j:=ZY 1 (by omega) (by rw[gI];exact yl x _ uj (by decide)) j hj;rw[e1] at v2;obtain⟨V0,hV0⟩:=af (vS (xs.take k));obtain⟨⟨sn,su,sd,sm,sp',sa⟩,hs0⟩:∃ s,s=sS (xs.take k):=⟨_,rfl⟩;rw[<-hV0] at v0 v2 e1;rw[<-hs0] at sp e2;have X5:=HL;rw[<-hV0,<-hs0] at X5;obtain⟨⟨s1,s2,s3,s4,s5,s6'⟩,sa'⟩:=sp;simp only at s1 s2 s3 s4 s5 s6' sa';have HP:=hid (fun u:World=>rOf7x x u uj);have FX:=ah (oZ_iv x uj).fm
    have HA:Hid (∀ (U:World) (q:Option Addr) (cq:Nat),La U (g2+1) (gH V0) ⟨sn,su,sd,sm,sp',sa⟩->Nt 0 U (.slice q (ws (dX (oZ x))).length cq) (dX (oZ x))->Calls Tryz.prog 103 #[.pointer (some ⟨g2+1,0,none⟩),.agg #[.int .i64 (kd x:Nat),.bool (dN (oZ x)),.slice q (ws (dX (oZ x))).length cq,.int .i64 (dE (oZ x))]] U fun r w'=>r=.returned (.int .i64 0)/\La w' (g2+1) (gH (V0+pT x 4607182418800017408)) ((Sp.mk sn su sd sm sp' sa).cnt (pK x 4607182418800017408) 1)/\But (g2+1) U w'):=fun U q cq hLa Qf=>by
     rw[o2] at Qf |-;have:=rAdd7 (g2+1) V0 (pT x 4607182418800017408) sn su sd sm sp' sa (kd x) q cq U hLa (by unfold Sp.ok;simp only;omega) o3 (by omega) Qf j hj v0 vT v2;rw[o1] at this;exact this
    have EE:=aZ e1 e2;have hkb:k<4611686018427387904:=by omega
    obtain⟨ox,hox⟩:=af (oZ x);obtain⟨jx,hjx⟩:∃ j:Nat,j=kd x:=⟨_,rfl⟩;rw[<-hox,<-hjx] at HP HA;rw[<-hox] at FX;clear hx hj v0 v2 vT e1 e2 hV0 hs0 HL hln uj s1 s2 s3 s4 s5 s6' sa' o1 o2 o3 hox hjx;have hd1:decide ((k:Int)<(n:Nat))=true:=by simp;omega
    go_wp2_with fail;refine(HP.o wr).mono ?_;rintro r u ⟨⟨v,rfl,hN⟩,hb⟩;obtain⟨a1,c1,rfl,hN0⟩:=Lo.shape FX.o hN;have HA1:=hid (HA.o u a1 c1 (X5.o.1.below hb) hN0);have K1:Aside (Bl u g2 103 [.bool false,.slice none 0 0,.int .i64 0,.int .i64 0,.int .i64 0,.int .i64 0,.int .i64 0,.int .i64 0,.int .i64 0]/\Below w.heap.size w u/\w.heap.size<=g2):=⟨X5.o.2.1.below hb X5.o.2.1.lt,X5.o.r2.1.trans (hb.mono X5.o.r2.1.size),X5.o.r3⟩;clear hN hN0 hb HP HA X5 hcx;go_wp2_with fail;refine HA1.o.mono ?_;rintro r u2 ⟨rfl,hla,hbt⟩
    have H4:Aside (La u2 (g2+1) (gH (vS (xs.take (k+1)))) (sS (xs.take (k+1)))/\Bl u2 g2 103 [.bool false,.slice none 0 0,.int .i64 0,.int .i64 0,.int .i64 0,.int .i64 0,.int .i64 0,.int .i64 0,.int .i64 0]/\Below w.heap.size w u2/\w.heap.size<=g2):=by
     rw[EE.o.1,EE.o.2];exact⟨hla,Bl.but K1.o.1 hbt (by omega),But.below K1.o.2.1 hbt K1.o.2.1.size (by have:=K1.o.r2;omega),K1.o.r2⟩
    clear hla hbt K1 EE HA1;go_wp2;go_roundg (gk-1)
    case measure=>omega
    case rel=>exact⟨k+1,by omega,by first | rfl | simp,H4.o⟩
  · obtain rfl:n=k:=by omega
    have hd1:decide ((n:Int)<(n:Nat))=false:=by simp
    have e:xs.take n=xs:=dO (by rw[<-PP.o.1];omega);rw[e] at HL;rw[<-OV.o.1,<-OV.o.2] at HL;obtain⟨p,q,BV,NV⟩:=HL.o.1;unfold laC at BV;simp only at BV;obtain⟨⟨v0,v1,v2⟩,v3,v4,v5,v6,v7,v8⟩:=BV.uF;have hB2:=HL.o.2.1;obtain⟨⟨y0,y1,y2⟩,y3,y4,y5,y6,y7,y8⟩:=hB2.uF;have f0:=hB2.frozen 0;have f1:=hB2.frozen 1;have f2:=hB2.frozen 2;have f3:=hB2.frozen 3;have f4:=hB2.frozen 4;have f5:=hB2.frozen 5;have f6:=hB2.frozen 6;have f7:=hB2.frozen 7;have f8:=hB2.frozen 8
    have HF:Aside (Bl (X4 wr g2 (.bool (dN ov)) (.slice p (ws (dX ov)).length q) (.int .i64 (dE ov)) (.int .i64 fn) (.int .i64 fu) (.int .i64 fd) (.int .i64 fm) (.int .i64 fp) (.int .i64 fa)) g2 103 [.bool (dN ov),.slice p (ws (dX ov)).length q,.int .i64 (dE ov),.int .i64 fn,.int .i64 fu,.int .i64 fd,.int .i64 fm,.int .i64 fp,.int .i64 fa]/\Nt 0 (X4 wr g2 (.bool (dN ov)) (.slice p (ws (dX ov)).length q) (.int .i64 (dE ov)) (.int .i64 fn) (.int .i64 fu) (.int .i64 fd) (.int .i64 fm) (.int .i64 fp) (.int .i64 fa)) (.slice p (ws (dX ov)).length q) (dX ov)/\Below w.heap.size w (X4 wr g2 (.bool (dN ov)) (.slice p (ws (dX ov)).length q) (.int .i64 (dE ov)) (.int .i64 fn) (.int .i64 fu) (.int .i64 fd) (.int .i64 fm) (.int .i64 fp) (.int .i64 fa))) :=
     ⟨hB2.X4 _ _ _ _ _ _ _ _ _,NV.Xe hB2 (by decide) (KU _ _ _ _ _ _ _ _ _ _ _),But.below HL.o.r2.1 (KU _ _ _ _ _ _ _ _ _ _ _) HL.o.r2.1.size HL.o.r3⟩
    unfold X4 at HF;clear BV NV hB2 e HL OV;go_wp2;obtain⟨⟨t0,t1,t2⟩,t3,t4,t5,t6,t7,t8⟩:=HF.o.1.uF;exact aB (v:=.agg #[.bool (dN ov),.slice p (ws (dX ov)).length q,.int .i64 (dE ov),.int .i64 fn,.int .i64 fu,.int .i64 fd,.int .i64 fm,.int .i64 fp,.int .i64 fa]) (by simp[results,Tryz.results64,go_sem,t0,t1,t2,t3,t4,t5,t6,t7,t8]) rfl ⟨⟨p,q,rfl,HF.o.2.1⟩,HF.o.r2⟩
end
section
open Go.RowKit J
attribute [local go_sem] bR
theorem Fm.Xf{w:World}{p:Option Addr}{c:Nat}{o:Option (Bool×Nat×Int)}(F:Fm o)(N:Nt 0 w (.slice p (ws (dX o)).length c) (dX o)):Al w (.slice p (ws (dX o)).length c) (dX o):=⟨p,_,c,ws (dX o),rfl,F.a12 N,au _,dz F.len (by decide)⟩
theorem Z4(e:Int)(w:World):Calls Tryz.prog 62 #[.int .i64 e] w fun r w'=>r=.returned (.tuple #[.float .f64 0,.int .i64 e])/\w'=w:=by
 have H:=hid (SQ w);go_enter Tryz.func62,Tryz.ntmps62;go_wp2_with fail;refine H.o.mono ?_;rintro r v ⟨rfl,hv⟩;rw[hv];clear hv v H;go_wp2;exact aB (v:=.tuple #[.float .f64 0,.int .i64 e]) (by simp[results,Tryz.results62,go_sem]) rfl ⟨rfl,rfl⟩
theorem Xg{x:Nat}(hx:x<18446744073709551616):(aY x->jy x<=2)/\(¬ aY x->2<jy x):=by
 constructor
 · intro fx;rcases(ig hx fx).2.2.2 with q|q <;> omega
 · intro nx;rcases l6 9218868437227405312 (aQ x) with h|h|h
   · rw[Ct h];decide
   · rw[(tT h.symm).1];decide
   · exact absurd h nx
theorem TH{x:Nat}(hx:x<18446744073709551616)(w:World):Calls Tryz.prog 37 #[.float .f64 x] w fun r w'=>r=.returned (.int .i64 (jy x))/\Below w.heap.size w w':=by
 obtain⟨h1,h2,h3⟩:=gZ x hx;have:=B.xS (sW x) (eW x) (fW x) h2 h3 w;rw[<-h1] at this;exact this
theorem OZ(xs:List Nat)(a:Option Addr)(n c:Nat)(w:World)(hn:n=xs.length)(hF:Fs w.heap.size w a xs)(hW:ja xs)(hl:n<=35184372088832)(t:Bool)(ht:t=true↔∀ x ∈ xs,aY x) :
 Calls Tryz.prog 63 #[.slice a n c] w fun r w'=>r=.returned (.bool t)/\Below w.heap.size w w':=by
 have HX:=(iw hn hF hW ht);clear hn hF hW ht;go_enter Tryz.func63,Tryz.ntmps63;go_wp2
 go_loopg [3] n (fun gk i wr=>∃ k:Nat,gk+k=n/\i=.int .i64 (k:Nat)/\Aside (Below w.heap.size w wr/\∀ j,j<k->aY (xs.getD j 0)))
 case atStart=>exact⟨0,by omega,by simp,ay _ _,fun j hj=>absurd hj (by omega)⟩
 case round =>
  obtain⟨k,lU,rfl,HA⟩:=hrel
  by_cases hk:k<n
  · obtain⟨b,off,rfl,hc⟩:=HX.o.2.1.at HA.o.1 k (by rw[<-HX.o.1];exact hk);obtain⟨x,hx⟩:=af (xs.getD k 0);rw[<-hx] at hc;have uj:x<18446744073709551616:=by rw[hx];exact HX.o.r2.1.get k
    have C:=hid (TH uj wr);obtain⟨f1,f2⟩:=Xg uj;obtain⟨cl,hcl⟩:∃ c,jy x=c:=⟨_,rfl⟩;rw[hcl] at C f1 f2;have HF:=(fG f1 f2 hx);clear hx hcl f1 f2 uj;have hkb:k<4611686018427387904:=by omega
    have hd:decide ((k:Int)<n)=true:=by simp;omega
    go_wp2_with fail;refine C.o.mono ?_;rintro r v ⟨rfl,hb⟩;have HB:=ah (HA.o.1.trans (hb.mono HA.o.1.size));clear hb C hc
    by_cases hc2:2<cl
    · have d1:decide (2<cl)=true:=decide_eq_true hc2;have hnf:¬ aY x:=fun h=>by have:=HF.o.1 h;omega
      have HT:Aside (t=false):=by
       cases ht:t with
       | false=>rfl
       | true =>
         exfalso;have:=HX.o.r3.1 ht (xs.getD k 0) (by rw[bG,dx (show k<xs.length by rw[<-HX.o.1];exact hk)];exact kR _);rw[<-HF.o.r2] at this;exact hnf this
      clear hnf;go_wp2;go_ret;exact⟨by rw[HT.o];rfl,HB.o⟩
    · have d1:decide (2<cl)=false:=decide_eq_false hc2
      have hf:Aside (aY x):=by
       by_cases h:aY x
       · exact h
       · exact absurd (HF.o.2.1 h) hc2
      go_wp2;go_roundg (gk-1)
      case measure=>omega
      case rel =>
       refine⟨k+1,by omega,by first | rfl | simp,HB.o,fun j hj=>?_⟩
       by_cases e:j=k
       · subst e;rw[<-HF.o.r2];exact hf.o
       · exact HA.o.2 j (by omega)
  · obtain rfl:n=k:=by omega
    have hd:decide ((n:Int)<n)=false:=by simp
    have HT:Aside (t=true):=by
     refine HX.o.2.2.2.2 fun x hx=>?_;obtain⟨j,hj,rfl⟩:=GJ.1 hx;have:=HA.o.2 j (by rw[HX.o.1];exact hj);rw[bG,dx hj] at this;exact this
    go_wp2;go_ret;exact⟨by rw[HT.o];rfl,HA.o.1⟩
noncomputable def toR (V:Int) (n:Nat) (s:Sp) (mode:Int):Nat×Int:=if V=0 then(nt (snd s.n s.u s.d s.m s.p s.a) s.n s.u s.d s.m s.p s.a mode,0) else qnR V n mode
theorem Z5{xs:List Nat}(hne:xs≠[])(s:Sp)(mode:Int):lK xs s mode=toR (vS xs) xs.length s mode:=by unfold lK toR;rw[if_neg hne]
theorem Xh(V:Int)(p:Option Addr)(q n:Nat)(sn su sd sm sp sa mode:Int)(w:World)(k:Nat)(hk:k<=90000)(hb:V.natAbs<2^k)(hN:Nt 0 w (.slice p (ws (dX (gH V))).length q) (dX (gH V)))(hn:n<=1099511627776)(z:Nat×Int)(hz:toR V n ⟨sn,su,sd,sm,sp,sa⟩ mode=z) :
 Calls Tryz.prog 65 #[.agg #[.bool (dN (gH V)),.slice p (ws (dX (gH V))).length q,.int .i64 (dE (gH V))],.int .i64 (n:Nat),.agg #[.int .i64 sn,.int .i64 su,.int .i64 sd,.int .i64 sm,.int .i64 sp,.int .i64 sa],.int .i64 mode] w fun r w'=>r=.returned (.tuple #[.float .f64 z.1,.int .i64 z.2])/\Below w.heap.size w w':=by
 obtain⟨X,E⟩:=z;simp only;unfold toR at hz;have Fv:=ah (nC V k (by omega) hb)
 have hl0:(V=0->(ws (dX (gH V))).length=0)/\(V≠0->(ws (dX (gH V))).length≠0):=by
  constructor
  · rintro rfl;rw[qd];exact Fz
  · intro h;obtain⟨X,e,ho,hX,_⟩:=mU h k hk hb;rw[ho];intro h2;have:ws X=[]:=uT h2;have h3:=au X;rw[this] at h3;simp[val] at h3;omega
 obtain⟨ov,hov⟩:∃ o,gH V=o:=⟨_,rfl⟩;rw[hov] at hN Fv hl0 |-;obtain⟨W,um⟩:=af ((w.alloc (Obj.cells #[.bool (dN ov),.slice p (ws (dX ov)).length q,.int .i64 (dE ov)] 79)).alloc (Obj.cells #[.int .i64 sn,.int .i64 su,.int .i64 sd,.int .i64 sm,.int .i64 sp,.int .i64 sa] 72))
 have B0:Aside (Dk W w.heap.size (dN ov) (.slice p (ws (dX ov)).length q) (dE ov)/\Bl W (w.heap.size+1) 72 [.int .i64 sn,.int .i64 su,.int .i64 sd,.int .i64 sm,.int .i64 sp,.int .i64 sa]/\Below w.heap.size w W/\Nt 0 W (.slice p (ws (dX ov)).length q) (dX ov)):=by
  rw[um];have z2:=Bl.new (w.alloc (Obj.cells #[.bool (dN ov),.slice p (ws (dX ov)).length q,.int .i64 (dE ov)] 79)) 72 [.int .i64 sn,.int .i64 su,.int .i64 sd,.int .i64 sm,.int .i64 sp,.int .i64 sa];rw[sF] at z2;exact⟨(Dk.new w _ _ _).below (ae _ _),z2,(ae _ _).trans ((ae _ _).mono (by simp)),(hN.below (ae _ _)).below (ae _ _)⟩
 obtain⟨gd,hgd⟩:∃ g,w.heap.size=g:=⟨_,rfl⟩;obtain⟨gs,hgs⟩:∃ g,w.heap.size+1=g:=⟨_,rfl⟩;have HG:=(aZ hgd hgs);rw[hgs] at B0;have B1:Aside (Dk W gd (dN ov) (.slice p (ws (dX ov)).length q) (dE ov)):=by rw[<-hgd];exact B0.o.1
 have FI:=ah um;have HL0:=ah hl0;obtain⟨y0,y1,y2,dH,dI,dJ⟩:=B1.o.facts;clear hN um hgd hgs hl0 hb hk;go_enter Tryz.func65,Tryz.ntmps65
 go_upto_region 1 with fail
 rw[<-FI.o,HG.o.2,HG.o.1];clear FI
 by_cases hv0:V=0
 · rw[if_pos hv0] at hz;obtain⟨hX,hE⟩:=iA hz;have hl:=HL0.o.1 hv0;have hl2:(((ws (dX ov)).length:Int)==0)=true:=by rw[hl];rfl
   have Oi:=hid (fun u:World=>vE sn su sd sm sp sa mode u);rw[hX] at Oi;subst hE;have q0:=B0.o.2.1.cell 0 _ rfl;have q1:=B0.o.2.1.cell 1 _ rfl;have q2:=B0.o.2.1.cell 2 _ rfl;have q3:=B0.o.2.1.cell 3 _ rfl;have q4:=B0.o.2.1.cell 4 _ rfl;have q5:=B0.o.2.1.cell 5 _ rfl;obtain⟨ln,hln⟩:∃ l,(ws (dX ov)).length=l:=⟨_,rfl⟩;rw[hln] at y1 hl hl2 |-;subst hl;clear hX hz HL0 hv0 hln;go_wp2_with fail;refine(Oi.o _).mono ?_;rintro r u2 ⟨rfl,hb⟩;have B3:=ah (B0.o.r2.1.trans (hb.mono B0.o.r2.1.size));clear hb Oi q0 q1 q2 q3 q4 q5;go_wp2;exact aB (v:=.tuple #[.float .f64 X,.int .i64 0]) (by simp[results,Tryz.results65,go_sem]) rfl ⟨rfl,B3.o⟩
 · rw[if_neg hv0] at hz;have hl:=HL0.o.2 hv0;have hl2:(((ws (dX ov)).length:Int)==0)=false:=by rw[beq_eq_false_iff_ne];omega
   have Yq:n<2^41:=by omega
   have F1:=ah (Sc n Yq)
   have HI:Hid (∀ u:World,Calls Tryz.prog 69 #[.int .i64 (n:Nat)] u fun r w'=>(∃ v,r=.returned (.agg #[.bool (dN (mkS false n 0)),v,.int .i64 (dE (mkS false n 0))])/\Nt u.heap.size w' v (dX (mkS false n 0)))/\Below u.heap.size u w'):=fun u=>by
    have:=xW (n:Nat) u (by omega) (by omega);rw[decide_eq_false (by omega),ni] at this;exact this
   have HR:Hid (∀ (u:World) (p q:Option Addr) (cp cq:Nat),Nt 0 u (.slice p (ws (dX ov)).length cp) (dX ov)->Nt 0 u (.slice q (ws (dX (mkS false n 0))).length cq) (dX (mkS false n 0))->Calls Tryz.prog 73 #[.agg #[.bool (dN ov),.slice p (ws (dX ov)).length cp,.int .i64 (dE ov),.bool (dN (mkS false n 0)),.slice q (ws (dX (mkS false n 0))).length cq,.int .i64 (dE (mkS false n 0))],.int .i64 mode] u fun r w'=>r=.returned (.tuple #[.float .f64 X,.int .i64 E])/\Below u.heap.size u w'):=fun u p q cp cq n1 n2=>by
    have:=KT (w:=u) mode (Fv.o.Xf n1) (F1.o.Xf n2) Fv.o.qL (n:=dN ov) (m:=dN (mkS false n 0)) (f:=dE (mkS false n 0)) F1.o.qL;rw[show mr iW ⟨dN ov,.slice p (ws (dX ov)).length cp,dX ov,dE ov,dN (mkS false n 0),.slice q (ws (dX (mkS false n 0))).length cq,dX (mkS false n 0),dE (mkS false n 0)⟩ mode=(X,E) from(by rw[<-hov,<-hz];rfl)] at this;exact this
   obtain⟨ow,how⟩:∃ o,mkS false n 0=o:=⟨_,rfl⟩;rw[how] at HR HI F1;clear hz how hov hv0 Yq HL0 hl
   go_upto_region 3 with fail
   have hdr:=(ay W.heap.size W).drew;have BD:=fG (B0.o.r2.1.trans (hdr.mono B0.o.r2.1.size)) (B1.o.below hdr) (B0.o.r3.below hdr);clear hdr B0 B1 y0 y1 y2 dH dI dJ;have kS:=fG BD.o.2.1.facts.1 BD.o.2.1.facts.2.1 BD.o.2.1.facts.2.2.1
   go_region_held3 (fun w'=>w'.cell? ⟨gd,0,none⟩=some (.bool (dN ov))/\w'.cell? ⟨gd,1,none⟩=some (.slice p (ws (dX ov)).length q)/\w'.cell? ⟨gd,2,none⟩=some (.int .i64 (dE ov))) (with_reducible exact kS.o) (first
    | (go_at_call 73
       with_reducible refine(HR.o _ p a2 q c2 BD.o.r2 Q2.o).mono ?_
       rintro r v ⟨rfl,hb⟩;have BD:=fG (BD.o.1.trans (hb.mono BD.o.1.size)) (BD.o.2.1.below hb) (BD.o.r2.below hb);have kS:=fG BD.o.2.1.facts.1 BD.o.2.1.facts.2.1 BD.o.2.1.facts.2.2.1
       clear hb)
    | (go_at_call 69
       with_reducible refine(HI.o _).mono ?_
       rintro r v ⟨⟨pp,rfl,hN⟩,hb⟩;obtain⟨a2,c2,rfl,hN0⟩:=Lo.shape F1.o hN;have BD:=fG (BD.o.1.trans (hb.mono BD.o.1.size)) (BD.o.2.1.below hb) (BD.o.r2.below hb);have Q2:=ah hN0;have kS:=fG BD.o.2.1.facts.1 BD.o.2.1.facts.2.1 BD.o.2.1.facts.2.2.1
       clear hb hN hN0))
   clear kS Q2 HR HI;go_wp2;exact aB (v:=.tuple #[.float .f64 X,.int .i64 E]) (by simp[results,Tryz.results65,go_sem]) rfl ⟨rfl,BD.o.1⟩
end
section
open Go.RowKit J
open Go.Proofs.YtjppdacikihpdaaGreatDoor.B (aM aF)
attribute [local go_sem] bR aM aF
theorem KV(N:Nat)(h:N<=65536)(k:Nat)(hk:k=2148):∃ j:Nat,j=4238/\((N:Int)*((2^k:Nat):Int)).natAbs<2^j:=by
 obtain⟨j,hj⟩:∃ j:Nat,j=4238:=⟨_,rfl⟩;refine⟨j,hj,?_⟩;rw[<-dK,ni];have h1:N*2^k<2^17*2^k:=fe (by omega) (aU k);rw[<-aI] at h1;exact fZ h1 (eB (by decide) (by omega))
end
section
open Go.RowKit J
attribute [local go_sem] bR
theorem Z6{mode:Int}(h:nG mode=0):0<=mode/\mode<=4:=by
 unfold nG at h
 by_cases h1:mode<0\/4<mode
 · rw[if_pos h1] at h;exact absurd h (by decide)
 · omega
theorem X6{V:Int}{N:Nat}{mode:Int}(hm:nG mode=0)(hV:V≠0)(k:Nat)(hk:k=4238)(hb:V.natAbs<2^k)(hN:0<N)(Di:N<=65536):(qnR V N mode).2=0:=by
 obtain⟨j,hj⟩:∃ k:Nat,k=2148:=⟨_,rfl⟩;obtain⟨j2,hj2,hb2⟩:=KV N Di j hj;obtain⟨m0,m4⟩:=Z6 hm;rw[XO _ _ _ j hj];obtain⟨K,t,m,_,hR⟩:=Au (V:=V) (W:=(N:Int)*((2^j:Nat):Int)) hV (by rw[<-dK];have:=iL hN (aU j);omega) k (by omega) hb (by rw[hk,<-hj2];exact hb2);rw[hR mode m0 m4]
theorem Xi{xs:List Nat}{s:Sp}{mode:Int}(hm:nG mode=0)(hW:ja xs)(hl:xs.length<=65536):Dn (lK xs s mode).2 (lK xs s mode).1=(lK xs s mode).1:=by
 by_cases h0:xs=[]
 · subst h0;unfold lK;rw[if_pos rfl];rfl
 · by_cases hV:vS xs=0
   · unfold lK;rw[if_neg h0,if_pos hV];rfl
   · obtain⟨k,hk,hb⟩:=Ar hW hl
     have e:(lK xs s mode).2=0:=by
      unfold lK;rw[if_neg h0,if_neg hV];exact X6 hm hV k hk hb (wH.2 h0) hl
     rw[e];rfl
theorem Gi{xs:List Nat}(hW:ja xs)(hl:xs.length<=65536):(0<=(sS xs).n/\(sS xs).n<=65536)/\(0<=(sS xs).u/\(sS xs).u<=65536)/\(0<=(sS xs).d/\(sS xs).d<=65536)/\(sS xs).a=xs.length/\(sS xs).a-(sS xs).n-(sS xs).u-(sS xs).d=(Ps.fin xs).length:=by
 rw[Sl hW];have h:=fun k=>GI (p:=fun x=>kd x==k) (l:=xs);have h5:=h 5;have h3:=h 3;have h4:=h 4;have hf:=Aw (xs:=xs);unfold Ps.cn at *;refine⟨⟨?_,?_⟩,⟨?_,?_⟩,⟨?_,?_⟩,rfl,?_⟩ <;> (simp only;omega)
end
section
open Go.RowKit J
attribute [local go_sem] bR
theorem Xj{xs:List Nat}(hW:ja xs)(hl:xs.length<=65536):(yV xs=0↔∀ x ∈ xs,aY x)/\(yV xs=0\/yV xs=30):=by
 obtain⟨b1,b2,b3,b4,b5⟩:=Gi hW hl;unfold yV;rw[if_neg (by omega)]
 have key:(0<(sS xs).n\/0<(sS xs).u+(sS xs).d)↔¬ ∀ x ∈ xs,aY x:=by
  have hf:(Ps.fin xs).length=xs.length↔∀ x ∈ xs,aY x:=by
   constructor
   · intro h x hx
     have:Ps.fin xs=xs:=by
      have:=List.filter_sublist (p:=fun x=>decide (kd x<=2)) (l:=xs);exact this.eq_of_length h
     exact Ws hW x (by rw[this];exact hx)
   · intro h;rw[Sm hW h]
  rw[<-hf];omega
 by_cases h:0<(sS xs).n\/0<(sS xs).u+(sS xs).d
 · rw[if_pos h];exact⟨⟨fun q=>absurd q (by decide),fun q=>absurd q (key.1 h)⟩,.inr rfl⟩
 · rw[if_neg h];refine⟨⟨fun _=>?_,fun _=>rfl⟩,.inl rfl⟩
   by_cases q:∀ x ∈ xs,aY x
   · exact q
   · exact absurd (key.2 q) h
theorem TI{mode:Int}(h:mode<0\/4<mode):nG mode=1:=if_pos h
theorem Xk{mode:Int}(h:¬ (mode<0\/4<mode)):nG mode=0:=if_neg h
theorem O0(x y:Nat)(hx:x<18446744073709551616)(hy:y<18446744073709551616)(mode:Int)(w:World)(z:Nat×Int)(hz:oL x y mode=z) :
 Calls Tryz.prog 39 #[.float .f64 x,.float .f64 y,.int .i64 mode] w fun r w'=>r=.returned (.tuple #[.float .f64 z.1,.int .i64 z.2])/\Below w.heap.size w w':=by
 obtain⟨X,E⟩:=z;simp only;unfold oL at hz
 by_cases h1:mode<0
 · rw[TI (.inl h1),if_neg (by decide)] at hz;have FN:=ah (iA hz);have Oi:=hid (fun u:World=>Z4 1 u);clear hz hx hy;go_enter Tryz.func39,Tryz.ntmps39;go_wp2_with fail;refine(Oi.o _).mono ?_;rintro r u2 ⟨rfl,hu⟩;rw[hu];go_wp2;exact aB (v:=.tuple #[.float .f64 0,.int .i64 1]) (by simp[results,Tryz.results39,go_sem]) rfl ⟨by rw[FN.o.1,FN.o.2],ay _ _⟩
 · have d1:decide (mode<0)=false:=decide_eq_false h1
   by_cases h4:4<mode
   · rw[TI (.inr h4),if_neg (by decide)] at hz;have FN:=ah (iA hz);have Oi:=hid (fun u:World=>Z4 1 u);clear hz hx hy;go_enter Tryz.func39,Tryz.ntmps39;go_wp2_with fail;refine(Oi.o _).mono ?_;rintro r u2 ⟨rfl,hu⟩;rw[hu];go_wp2;exact aB (v:=.tuple #[.float .f64 0,.int .i64 1]) (by simp[results,Tryz.results39,go_sem]) rfl ⟨by rw[FN.o.1,FN.o.2],ay _ _⟩
   · have d4:decide (4<mode)=false:=decide_eq_false h4;have Z7:nG mode=0:=Xk (by omega);rw[Z7,if_pos rfl] at hz
     have hW:ja [x,y]:=by
      intro q hq;simp at hq;rcases hq with rfl|rfl
      · exact hx
      · exact hy
     have h2l:[x,y].length<=65536:=by simp
     obtain⟨f1,f2⟩:=Xj hW h2l;obtain⟨k,hk,hvb⟩:=Ar hW h2l;have lb:=Xi (s:=sS [x,y]) Z7 hW h2l;have hVm:=R9 hW h2l;unfold Sv at hz;rw[lb,Z5 (by simp)] at hz;obtain⟨W,um⟩:=af (w.alloc (Obj.cells #[.float .f64 x,.float .f64 y] 27));obtain⟨ga,hga⟩:∃ g,w.heap.size=g:=⟨_,rfl⟩
     have B0:Aside (Below w.heap.size w W/\Fs W.heap.size W (some ⟨ga,0,none⟩) [x,y]):=by
      rw[um,<-hga];exact⟨ax _ _,CG w x y⟩
     obtain⟨t,ht⟩:∃ t:Bool,t=true↔∀ q ∈ [x,y],aY q:=⟨decide (yV [x,y]=0),by rw[decide_eq_true_eq];exact f1⟩;have HF:=hid (OZ [x,y] (some ⟨ga,0,none⟩) 2 2 W rfl B0.o.2 hW (by decide) t ht);have Z8:=hid (fun(u:World) (hb:Below W.heap.size W u)=>TG [x,y] (some ⟨ga,0,none⟩) 2 2 u rfl ((B0.o.2.below hb).mono hb.size) hW (by decide))
     have HT:Aside ((t=true->yV [x,y]=0)/\(t=false->yV [x,y]=30)):=by
      constructor
      · intro h;exact f1.2 (ht.1 h)
      · intro h;rcases f2 with q|q
        · have:=ht.2 (f1.1 q);rw[h] at this;cases this
        · exact q
     obtain⟨⟨sn,su,sd,sm,sp,sa⟩,hs⟩:∃ s,sS [x,y]=s:=⟨_,rfl⟩;rw[hs] at hz Z8;simp only at Z8;obtain⟨V,hV⟩:∃ V,vS [x,y]=V:=⟨_,rfl⟩;rw[hV] at hz Z8 hvb hVm;have HTo:=hid (fun(u:World) (p:Option Addr) (q:Nat) (hN:Nt 0 u (.slice p (ws (dX (gH V))).length q) (dX (gH V))) (z:Nat×Int) (hz:toR V 2 ⟨sn,su,sd,sm,sp,sa⟩ mode=z)=>Xh V p q 2 sn su sd sm sp sa mode u k (by omega) hvb hN (by decide) z hz);obtain⟨ov,hov⟩:∃ o,gH V=o:=⟨_,rfl⟩;rw[hov] at Z8 HTo;have FI:=(aZ um hga);obtain⟨ep,Wu⟩:∃ e,yV [x,y]=e:=⟨_,rfl⟩;rw[Wu] at HT hz;clear hx hy hW f1 f2 hk hvb lb hVm hs hV hov um hga ht Wu Z7 h2l;go_enter Tryz.func39,Tryz.ntmps39
     go_upto_region 4 with fail
     rw[<-FI.o.1,FI.o.2];clear FI;go_wp2_with fail;refine HF.o.mono ?_;rintro r u ⟨rfl,hb⟩;have B1:=aZ (B0.o.1.trans (hb.mono B0.o.1.size)) hb;clear hb HF
     cases t with
     | false =>
       rw[HT.o.2 rfl,if_neg (by decide)] at hz;have FN:=ah (iA hz);have Oi:=hid (fun u:World=>Z4 30 u);clear hz HTo Z8;go_wp2_with fail;refine(Oi.o _).mono ?_;rintro r u2 ⟨rfl,hu⟩;rw[hu];go_wp2;exact aB (v:=.tuple #[.float .f64 0,.int .i64 30]) (by simp[results,Tryz.results39,go_sem]) rfl ⟨by rw[FN.o.1,FN.o.2],B1.o.1⟩
     | true =>
       rw[HT.o.1 rfl,if_pos rfl] at hz;have C:=hid (Z8.o u B1.o.2);clear Z8;go_wp2_with fail;refine C.o.mono ?_;rintro r u2 ⟨⟨p,q,rfl,hN⟩,hb⟩;obtain⟨U,hU⟩:=af (u2.alloc (Obj.cells #[.bool (dN ov),.slice p (ws (dX ov)).length q,.int .i64 (dE ov),.int .i64 sn,.int .i64 su,.int .i64 sd,.int .i64 sm,.int .i64 sp,.int .i64 sa] 103));obtain⟨gr,hgr⟩:∃ g,u2.heap.size=g:=⟨_,rfl⟩
       have B2:Aside (Bl U gr 103 [.bool (dN ov),.slice p (ws (dX ov)).length q,.int .i64 (dE ov),.int .i64 sn,.int .i64 su,.int .i64 sd,.int .i64 sm,.int .i64 sp,.int .i64 sa]/\Below w.heap.size w U/\Nt 0 U (.slice p (ws (dX ov)).length q) (dX ov)):=by
        have hb3:=B1.o.1.trans (hb.mono B1.o.1.size);rw[hU,<-hgr];exact⟨Bl.new _ 103 [_,_,_,_,_,_,_,_,_],hb3.trans ((ax _ _).mono hb3.size),hN.below (ax _ _)⟩
       have HU:=(aZ hU hgr);clear hb hN C B1 hU hgr;have s0:=B2.o.1.cell 0 _ rfl;have s1:=B2.o.1.cell 1 _ rfl;have s2:=B2.o.1.cell 2 _ rfl;have s3:=B2.o.1.cell 3 _ rfl;have s4:=B2.o.1.cell 4 _ rfl;have s5:=B2.o.1.cell 5 _ rfl;have s6:=B2.o.1.cell 6 _ rfl;have s7:=B2.o.1.cell 7 _ rfl;have s8:=B2.o.1.cell 8 _ rfl;have CT:=hid (HTo.o U p q B2.o.r2 _ hz);simp only at CT;clear hz HTo
       go_upto_region 8 with fail
       rw[<-HU.o.1,HU.o.2];clear HU;go_wp2_with fail;refine CT.o.mono ?_;rintro r u5 ⟨rfl,hb⟩;have B5:=ah (B2.o.2.1.trans (hb.mono B2.o.2.1.size));clear hb CT;go_wp2;exact aB (v:=.tuple #[.float .f64 X,.int .i64 E]) (by simp[results,Tryz.results39,go_sem]) rfl ⟨rfl,B5.o⟩
end
section
open Go Go.RowKit J
theorem one16(x:Nat)(w:World):Calls Tryz.prog 38 #[.float .f64 x] w fun r w'=>r=.returned (.tuple #[.float .f64 x,.int .i64 0])/\w'=w:=by
 go_enter Tryz.func38,Tryz.ntmps38;go_wp2;refine aB (v:=.tuple #[.float .f64 x,.int .i64 0]) (by simp[results,Tryz.results38,go_sem]) rfl ?_;exact XS
theorem Qai{P:Prop}(h:P:=by
 go_wp2;refine aB (v:=.tuple #[.float .f64 e1,.int .i64 0]) (by simp[results,Tryz.results23,go_sem]) rfl ?_;exact⟨by rw[HZ.o],G.o⟩):P:=h
theorem qq{P:Prop}(h:P:=by
 have C:=hid (CO.o y w);go_enter Tryz.func23,Tryz.ntmps23;go_wp2_with fail;refine C.o.mono ?_;rintro r v ⟨rfl,hv⟩;rw[hv];clear hv;go_wp2;refine aB (v:=.tuple #[.float .f64 y,.int .i64 0]) (by simp[results,Tryz.results23,go_sem]) rfl ?_;exact⟨by rw[HZ.o],ay _ _⟩):P:=h
theorem qk{P:Prop}(h:P:=by
 have C:=hid (CO.o x w);go_enter Tryz.func23,Tryz.ntmps23;go_wp2_with fail;refine C.o.mono ?_;rintro r v ⟨rfl,hv⟩;rw[hv];clear hv;go_wp2;refine aB (v:=.tuple #[.float .f64 x,.int .i64 0]) (by simp[results,Tryz.results23,go_sem]) rfl ?_;exact⟨by rw[HZ.o],ay _ _⟩):P:=h
theorem rAt16 (ys:List Nat) (b:Nat) (n cap num den:Nat) (rule mode:Int) (w:World) (hF:Fs w.heap.size w (some ⟨b,0,none⟩) ys) (hn:n=ys.length) (hn1:1<=n) (hn2:n<=65536) (hW:ja ys) (hf:∀ x ∈ ys,aY x) (Tt:num<=den) (hd1:1<=den) (hd:den<=2147483648) (hr0:0<=rule) (hr4:rule<=4)
 (HMD:Hid (∀ (x y:Nat) (u:World),x<18446744073709551616->y<18446744073709551616->aY x->aY y->Calls Tryz.prog 39 #[.float .f64 x,.float .f64 y,.int .i64 mode] u fun r w'=>r=.returned (.tuple #[.float .f64 (oL x y mode).1,.int .i64 0])/\Below u.heap.size u w'))
 (HLN:Hid (∀ (x y m:Nat) (u:World),x<18446744073709551616->y<18446744073709551616->aY x->aY y->m<=den->Calls Tryz.prog 40 #[.float .f64 x,.float .f64 y,.int .i64 (m:Nat),.int .i64 (den:Nat),.int .i64 mode] u fun r w'=>r=.returned (.tuple #[.float .f64 (F9 x y m den mode),.int .i64 0])/\Below u.heap.size u w')) :
 Calls Tryz.prog 23 #[.slice (some ⟨b,0,none⟩) n cap,.int .i64 (num:Nat),.int .i64 (den:Nat),.int .i64 rule,.int .i64 mode] w fun r w'=>r=.returned (.tuple #[.float .f64 (uC ys num den rule mode),.int .i64 0])/\Below w.heap.size w w':=by
 obtain⟨zz,hzz⟩:=af (uC ys num den rule mode);rw[<-hzz];unfold uC at hzz;simp only[<-hn] at hzz;obtain⟨n1,hn1'⟩:∃ x,x=n-1:=⟨_,rfl⟩;rw[<-hn1'] at hzz;obtain⟨s,hs⟩:=af (n1*num);rw[<-hs] at hzz;have hsb:s<=n1*den:=by rw[hs];exact eO _ Tt
 have hsb2:s<=65535*2147483648:=dz hsb (jG (by omega) hd);obtain⟨q,hq⟩:=af (s/den);obtain⟨m,hm⟩:=af (s%den);rw[<-hq,<-hm] at hzz;have M5:den*q+m=s:=by rw[hq,hm];exact mZ _ _
 have GU:m<den:=by rw[hm];exact gP _ (by omega)
 have VV:q<n:=by
  have:q<=n1:=by
   rw[hq];exact Nat.div_le_of_le_mul (by rw[bJ];exact hsb)
  omega
 have hq1:m≠0->q+1<n:=fun h0=>by
  have h1:den*q<n1*den:=by omega
  rw[bJ] at h1;have:=wF h1;omega
 have w1:IntKind.i64.wrap ((n:Int)-1)=(n1:Int):=aH (by omega) (by omega);have w2:IntKind.i64.wrap ((n1:Int)*(num:Int))=(s:Int):=aH (by rw[hs];simp) (by omega);have w3:Int.tdiv (s:Int) (den:Int)=(q:Int):=by rw[hq];rfl
 have w4:Int.tmod (s:Int) (den:Int)=(m:Int):=by rw[hm];rfl
 have w5:IntKind.i64.wrap (q:Int)=(q:Int):=aH rfl (by omega);have w6:IntKind.i64.wrap (m:Int)=(m:Int):=aH rfl (by omega);have w7:((den:Int)==0)=false:=by simp;omega
 have w8:¬ (den:Int)=0:=by omega
 have w9:¬ den=0:=by omega
 have hmem:∀ i,i<n->ys.getD i 0<18446744073709551616/\aY (ys.getD i 0):=fun i hi=>⟨hW _ (cK (by omega)),hf _ (cK (by omega))⟩
 have cell:∀ i,i<n->w.cell? ⟨b,i,none⟩=some (.float .f64 (ys.getD i 0)):=fun i hi=>by
  obtain⟨b',off,e,c⟩:=hF.at (ay _ _) i (by omega)
  cases e
  rw[cO] at c;exact c
 have HY:=(aZ hmem cell);have HZ:=ah hzz;have bq:(q:Int)<(n:Int):=by omega
 clear hF hmem cell hzz hs hsb hsb2 hq hm M5 hW hf hn hn1';have CO:=hid one16
 by_cases h0:m=0
 · replace HZ:Aside (zz=ys.getD q 0):=ah (by rw[HZ.o,if_pos h0]);have c0:=HY.o.2 q VV;obtain⟨x,hx⟩:=af (ys.getD q 0);rw[<-hx] at c0 HZ;subst h0;have C:=hid (CO.o x w);clear hx;go_enter Tryz.func23,Tryz.ntmps23;go_wp2_with fail;refine C.o.mono ?_;rintro r v ⟨rfl,hv⟩;rw[hv];clear hv;go_wp2;refine aB (v:=.tuple #[.float .f64 x,.int .i64 0]) (by simp[results,Tryz.results23,go_sem]) rfl ?_;exact⟨by rw[HZ.o],ay _ _⟩
 · have d0:((m:Int)==0)=false:=by simp;omega
   have d1:decide ((m:Int)=0)=false:=by simp;omega
   have hq2:=hq1 h0;obtain⟨q1,Jl⟩:∃ x,x=q+1:=⟨_,rfl⟩;have wq:IntKind.i64.wrap ((q:Int)+1)=(q1:Int):=aH (by omega) (by omega);have bq1:(q1:Int)<(n:Int):=by omega
   have Tw:q1<n:=by omega
   have c0:=HY.o.2 q VV;have c1:=HY.o.2 q1 Tw;obtain⟨f0,g0⟩:=HY.o.1 q VV;obtain⟨f1,g1⟩:=HY.o.1 q1 Tw;replace HZ:Aside (zz=if rule=0 then ys.getD q 0 else if rule=1 then ys.getD q1 0 else if rule=2 then ys.getD (Tu q m den) 0 else if rule=3 then(oL (ys.getD q 0) (ys.getD q1 0) mode).1 else F9 (ys.getD q 0) (ys.getD q1 0) m den mode):=ah (by rw[HZ.o,if_neg h0,Jl])
   have HR:Aside (Tu q m den=if 2*m<den\/2*m=den/\q%2=0 then q else q1):=ah (by
    unfold Tu;rw[Jl]
    by_cases a:2*m<den\/2*m=den/\q%2=0
    · rw[if_pos a,if_neg (by omega)]
    · rw[if_neg a,if_pos (by omega)])
   obtain⟨x,hx⟩:=af (ys.getD q 0);obtain⟨y,hy⟩:=af (ys.getD q1 0);have Pf:=(aZ hx hy);rw[<-hx] at c0 f0 g0 HZ;rw[<-hy] at c1 f1 g1 HZ;clear hx hy Jl;have hr:rule=0\/rule=1\/rule=2\/rule=3\/rule=4:=by omega
   rcases hr with rfl|rfl|rfl|rfl|rfl
   · replace HZ:Aside (zz=x):=ah (by rw[HZ.o,if_pos rfl]);exact qk
   · replace HZ:Aside (zz=y):=ah (by rw[HZ.o,if_neg (by decide),if_pos rfl]);exact qq
   · obtain⟨t,ht⟩:=af (2*m);obtain⟨e,he⟩:=af (q%2);have v1:IntKind.i64.wrap (2*(m:Int))=(t:Int):=aH (by omega) (by omega);have v2:Int.tmod (q:Int) 2=(e:Int):=by rw[he];rfl
     have v3:IntKind.i64.wrap (e:Int)=(e:Int):=aH rfl (by omega);replace HZ:Aside (zz=ys.getD (if t<den\/t=den/\e=0 then q else q1) 0):=ah (by rw[HZ.o,if_neg (by decide),if_neg (by decide),if_pos rfl,HR.o,ht,he]);clear ht he HR
     by_cases k1:t<den
     · have e1:decide ((t:Int)<(den:Int))=true:=by simp;omega
       replace HZ:Aside (zz=x):=ah (by rw[HZ.o,if_pos (.inl k1)];exact Pf.o.1.symm);exact qk
     · have e1:decide ((t:Int)<(den:Int))=false:=by simp;omega
       by_cases k2:t=den
       · subst k2
         by_cases k3:e=0
         · subst k3;replace HZ:Aside (zz=x):=ah (by rw[HZ.o,if_pos (.inr ⟨rfl,rfl⟩)];exact Pf.o.1.symm);exact qk
         · have e3:((e:Int)==0)=false:=by simp;omega
           have e4:decide ((e:Int)=0)=false:=by simp;omega
           replace HZ:Aside (zz=y):=ah (by rw[HZ.o,if_neg (by omega)];exact Pf.o.2.symm);exact qq
       · have e3:((t:Int)==(den:Int))=false:=by simp;omega
         have e4:decide ((t:Int)=(den:Int))=false:=by simp;omega
         replace HZ:Aside (zz=y):=ah (by rw[HZ.o,if_neg (by omega)];exact Pf.o.2.symm);exact qq
   · have C:=hid (HMD.o x y w.drew f0 f1 g0 g1);obtain⟨e1,he⟩:=af ((oL x y mode).1);rw[<-he] at C HZ;replace HZ:Aside (zz=e1):=ah (by rw[HZ.o,if_neg (by decide),if_neg (by decide),if_neg (by decide),if_pos rfl]);clear he;have kS:Aside (w.drew.cell? ⟨b,q,none⟩=some (.float .f64 x)/\w.drew.cell? ⟨b,q1,none⟩=some (.float .f64 y)):=⟨c0,c1⟩;go_enter Tryz.func23,Tryz.ntmps23
     go_upto_region 12 with fail
     go_region_held3 (fun w'=>w'.cell? ⟨b,q,none⟩=some (.float .f64 x)/\w'.cell? ⟨b,q1,none⟩=some (.float .f64 y)) (with_reducible exact kS.o) (first
      | (go_at_call 39
         with_reducible refine C.o.mono ?_
         rintro r v ⟨rfl,hb⟩;have G:=ah ((ay w.heap.size w).drew.trans hb);have kS:Aside (v.cell? ⟨b,q,none⟩=some (.float .f64 x)/\v.cell? ⟨b,q1,none⟩=some (.float .f64 y)):=⟨(hb.cell (p:=⟨b,q,none⟩) (aA kS.o.1)).trans kS.o.1,(hb.cell (p:=⟨b,q1,none⟩) (aA kS.o.2)).trans kS.o.2⟩
         clear hb))
     all_goals
      exact Qai
   · have C:=hid (HLN.o x y m w.drew f0 f1 g0 g1 (by omega));obtain⟨e1,he⟩:=af (F9 x y m den mode);rw[<-he] at C HZ;replace HZ:Aside (zz=e1):=ah (by rw[HZ.o,if_neg (by decide),if_neg (by decide),if_neg (by decide),if_neg (by decide)]);clear he;have kS:Aside (w.drew.cell? ⟨b,q,none⟩=some (.float .f64 x)/\w.drew.cell? ⟨b,q1,none⟩=some (.float .f64 y)):=⟨c0,c1⟩;go_enter Tryz.func23,Tryz.ntmps23
     go_upto_region 14 with fail
     go_region_held3 (fun w'=>w'.cell? ⟨b,q,none⟩=some (.float .f64 x)/\w'.cell? ⟨b,q1,none⟩=some (.float .f64 y)) (with_reducible exact kS.o) (first
      | (go_at_call 40
         with_reducible refine C.o.mono ?_
         rintro r v ⟨rfl,hb⟩;have G:=ah ((ay w.heap.size w).drew.trans hb);have kS:Aside (v.cell? ⟨b,q,none⟩=some (.float .f64 x)/\v.cell? ⟨b,q1,none⟩=some (.float .f64 y)):=⟨(hb.cell (p:=⟨b,q,none⟩) (aA kS.o.1)).trans kS.o.1,(hb.cell (p:=⟨b,q1,none⟩) (aA kS.o.2)).trans kS.o.2⟩
         clear hb))
     all_goals
      exact Qai
end
section
open Go.RowKit J
def leF(x y:Nat):Bool:=FloatKind.f64.format.order y x==some Ordering.lt || FloatKind.f64.format.order y x==some Ordering.eq
def yT(xs:List Nat)(x:Nat):Nat:=xs.countP (leF x)
theorem O3{xs:List Nat}{x k:Nat}(h:k<xs.length):yT (xs.take (k+1)) x=yT (xs.take k) x+(leF x (xs.getD k 0)).toNat:=by
 unfold yT;rw[List.take_add_one,dx h,List.countP_append,bG,dx h];simp only[Option.toList,List.countP_cons,List.countP_nil,Bq]
 cases leF x xs[k] <;> rfl
theorem Xl(xs:List Nat)(x:Nat):yT xs x<=xs.length:=GI
theorem Xm(xs:List Nat)(x:Nat)(ao:Option Addr)(n cap:Nat)(w:World)(hx:x<18446744073709551616)(hF:Fs w.heap.size w ao xs)(hn:n=xs.length)(hb:n<=17592186044416)(hW:ja xs) :
 Calls Tryz.prog 15 #[.slice ao n cap,.float .f64 x] w fun r w'=>r=.returned (.tuple #[.int .i64 (if yY xs (rO x)=0 then(yT xs x:Int) else 0),.int .i64 (if yY xs (rO x)=0 then(xs.length:Int) else 0),.int .i64 (yY xs (rO x))])/\Below w.heap.size w w':=by
 have CN:=hid (Vn x hx w);have CA:=hid (CW xs (rO x) ao n cap w hF hn hb hW);obtain⟨e,he⟩:=af (yY xs (rO x));rw[<-he] at CA |-;rw[<-hn];obtain⟨nb,hnb⟩:=af (rO x);rw[<-hnb] at CN CA;have HY:=(aZ hF hn);clear hF hn hW he hnb hx
 by_cases h0:e=0
 · subst h0;rw[if_pos rfl,if_pos rfl];go_enter Tryz.func15,Tryz.ntmps15;go_wp2_with fail;refine CN.o.mono ?_;rintro r v ⟨rfl,rfl⟩;go_wp2_with fail;refine CA.o.mono ?_;rintro r v1 ⟨rfl,hb1⟩;have HB:=ah hb1;clear hb1 CN CA;go_wp2
   go_loopg [4,17] n (fun gk cv iv wr=>∃ k:Nat,gk+k=n/\cv=.int .i64 (yT (xs.take k) x:Nat)/\iv=.int .i64 (k:Nat)/\wr=v1)
   case atStart=>exact⟨0,rfl,by simp[yT],by first | rfl | simp,rfl⟩
   case round =>
    obtain⟨k,lU,hcv,rfl,rfl⟩:=hrel;obtain⟨c,hc⟩:=af (yT (xs.take k) x)
    have hcl:c<=n:=by
     rw[hc];refine dz (Xl _ _) ?_;rw[eY];have:=HY.o.2;omega
    rw[<-hc] at hcv;subst hcv
    by_cases hk:k<n
    · have hdk:decide ((k:Int)<(n:Int))=true:=by simp;omega
      have bk:(k:Int)<(n:Int):=by omega
      obtain⟨k1,hk1⟩:=af (k+1);have wk:IntKind.i64.wrap ((k:Int)+1)=(k1:Int):=aH (by omega) (by omega);obtain⟨cp,hcp⟩:=af (c+1);have wc1:IntKind.i64.wrap ((c:Int)+1)=(cp:Int):=aH (by omega) (by omega);obtain⟨b,off,rfl,c2⟩:=HY.o.1.at HB.o k (by have:=HY.o.2;omega);have hst:=O3 (xs:=xs) (x:=x) (k:=k) (by have:=HY.o.2;omega);rw[<-hc] at hst;obtain⟨y,hy⟩:=af (xs.getD k 0);rw[<-hy] at c2 hst;have HK:=(iw hk1 hcp hst hc);obtain⟨t,ht⟩:=af (leF x y);have HT:=ah ht;have ht2:(FloatKind.f64.format.order y x==some Ordering.lt || FloatKind.f64.format.order y x==some Ordering.eq)=t:=by rw[ht];rfl
      clear hk1 hcp hst hc hy ht
      cases t
      · go_wp2;go_roundg (n-k1)
        case measure=>have:=HK.o;omega
        case rel=>exact⟨k1,by have:=HK.o;omega,by rw[HK.o.1,HK.o.r2.1,<-HT.o];rfl,by first | rfl | simp,rfl⟩
      · go_wp2;go_roundg (n-k1)
        case measure=>have:=HK.o;omega
        case rel=>exact⟨k1,by have:=HK.o;omega,by rw[HK.o.1,HK.o.r2.1,<-HT.o,HK.o.2.1];rfl,by first | rfl | simp,rfl⟩
    · have hdk:decide ((k:Int)<(n:Int))=false:=by simp;omega
      have HE:Aside (c=yT xs x):=ah (by rw[hc,dO (by have:=HY.o.2;omega)]);clear hc;go_wp2;refine aB (v:=.tuple #[.int .i64 (c:Nat),.int .i64 (n:Nat),.int .i64 0]) (by simp[results,Tryz.results15,go_sem]) rfl ?_;exact⟨by rw[HE.o],HB.o⟩
 · rw[if_neg h0,if_neg h0];have k1:(e==0)=false:=by simp[h0]
   have k2:(e != 0)=true:=by simp[h0]
   have k3:decide (e=0)=false:=by simp[h0]
   go_enter Tryz.func15,Tryz.ntmps15;go_wp2_with fail;refine CN.o.mono ?_;rintro r v ⟨rfl,rfl⟩;go_wp2_with fail;refine CA.o.mono ?_;rintro r v1 ⟨rfl,hb1⟩;go_wp2;refine aB (v:=.tuple #[.int .i64 0,.int .i64 0,.int .i64 e]) (by simp[results,Tryz.results15,go_sem]) rfl ?_;exact⟨rfl,hb1⟩
end
section
open Go Go.RowKit J
theorem TJ{x:Nat}(hx:x<18446744073709551616)(w:World):Calls Tryz.prog 37 #[.float .f64 x] w fun r w'=>r=.returned (.int .i64 (WR x))/\Below w.heap.size w w':=by
 obtain⟨s,e,f,h1,h2,h3,h4,h5,h6⟩:=ZI hx;have:=B.xS s e f h1 h2 w;rw[<-h3,h5,h6] at this;exact this
theorem Jt(xs:List Nat)(ao:Option Addr)(n cap:Nat)(w:World)(hF:Fs w.heap.size w ao xs)(hn:n=xs.length)(hb:n<=17592186044416)(hW:ja xs) :
 Calls Tryz.prog 22 #[.slice ao n cap] w fun r w'=>r=.returned (.int .i64 (yY xs false))/\Below w.heap.size w w':=by
 obtain⟨z,hz⟩:=af (yY xs false);rw[<-hz];unfold yY at hz;rw[<-hn,wT] at hz;have HN:=(fG hn hW hF);clear hF hn hW
 by_cases h1:65536<n
 · have d1:decide ((65536:Int)<(n:Int))=true:=by simp;omega
   rw[if_pos h1] at hz;subst hz;go_enter Tryz.func22,Tryz.ntmps22;go_wp2;go_ret;exact zc
 · have d1:decide ((65536:Int)<(n:Int))=false:=by simp;omega
   rw[if_neg h1] at hz;have HZ:=ah hz;clear hz;go_enter Tryz.func22,Tryz.ntmps22;go_wp2
   go_loopg [3] n (fun gk iv wr=>∃ k:Nat,gk+k=n/\iv=.int .i64 (k:Nat)/\Aside ((xs.take k).any Dr=false/\Below w.heap.size w wr))
   case atStart=>exact⟨0,rfl,by first | rfl | simp,by simp,ay _ _⟩
   case round =>
    obtain⟨k,lU,rfl,HA⟩:=hrel
    by_cases hk:k<n
    · have hdk:decide ((k:Int)<(n:Int))=true:=by simp;omega
      have bk:(k:Int)<(n:Int):=by omega
      obtain⟨k1,hk1⟩:=af (k+1);have wk:IntKind.i64.wrap ((k:Int)+1)=(k1:Int):=aH (by omega) (by omega);obtain⟨hn,hW,hF⟩:=HN.o;obtain⟨b,off,rfl,c2⟩:=hF.at HA.o.2 k (by omega);have hx:xs.getD k 0<18446744073709551616:=hW _ (cK (by omega));have ht:=yO (xs:=xs) (k:=k) (by omega);obtain⟨x,eD⟩:=af (xs.getD k 0);rw[<-eD] at c2 hx ht;have D:=hid (TJ hx wr);rw[HA.o.1,wT] at ht;have hcb:=Tp hx;obtain⟨c,hc⟩:=af (WR x);rw[<-hc] at D hcb;have HK:=(fM hk1 ht hcb eD hn);clear hn hW hF hx ht eD hk1 hcb hc;go_wp2_with fail;refine D.o.mono ?_;rintro r v ⟨rfl,hv⟩;have HB:=ah (HA.o.2.trans (hv.mono HA.o.2.size));clear D hv
      by_cases h3:2<c
      · have d3:decide ((2:Int)<c)=true:=by simp[h3]
        have E:Aside (z=30):=by
         obtain⟨hk1,ht,hcb,eD,hn⟩:=HK.o;rw[decide_eq_true (show(3:Int)<=c by omega)] at hcb;refine ah ?_;rw[HZ.o,if_pos];rw[wU];exact⟨x,by rw[eD];exact cK (by omega),hcb.symm⟩
        go_wp2;go_ret;exact⟨by rw[E.o];rfl,HB.o⟩
      · have d3:decide ((2:Int)<c)=false:=by simp;omega
        have HT:Aside ((xs.take k1).any Dr=false):=by
         obtain⟨hk1,ht,hcb,eD,hn⟩:=HK.o;rw[decide_eq_false (show ¬ (3:Int)<=c by omega)] at hcb;rw[hk1,ht,<-hcb];rfl
        go_wp2;go_roundg (n-k1)
        case measure=>have:=HK.o.1;omega
        case rel=>exact⟨k1,by have:=HK.o.1;omega,by first | rfl | simp,HT.o,HB.o⟩
    · have hdk:decide ((k:Int)<(n:Int))=false:=by simp;omega
      have E:Aside (z=if n=0 then 3 else 0):=by
       have h1:=HA.o.1;rw[dO (by have:=HN.o.1;omega)] at h1;refine ah ?_;rw[HZ.o,if_neg (by rw[h1];decide)]
      by_cases h2:n=0
      · subst h2;go_wp2;go_ret;exact⟨by rw[E.o];rfl,HA.o.2⟩
      · have d2:((n:Int)==0)=false:=by simp;omega
        have d3:decide ((n:Int)=0)=false:=by simp;omega
        replace E:Aside (z=0):=ah (by rw[E.o,if_neg h2]);go_wp2;go_ret;exact⟨by rw[E.o];rfl,HA.o.2⟩
end
section
open Go.RowKit J
def kW(x:Nat):Int:=if cZ x then -1-(aQ x:Int) else aQ x
theorem TK{x y:Nat}(hx:x<18446744073709551616)(hy:y<18446744073709551616)(h:kW x=kW y):x=y:=by
 unfold kW cZ aQ at h
 by_cases a:9223372036854775808<=x <;> by_cases b:9223372036854775808<=y <;> simp only[a,b,decide_true,decide_false,if_true,dP,if_false] at h <;> omega
def nI(x y:Nat):Bool:=decide (kW x<=kW y)
def qQ(xs:List Nat):List Nat:=xs.mergeSort nI
theorem AB(a b c:Nat)(h1:nI a b=true)(h2:nI b c=true):nI a c=true:=by unfold nI at *;simp at *;omega
theorem AJ(a b:Nat):(nI a b || nI b a)=true:=by unfold nI;simp;omega
theorem jC(xs:List Nat):(qQ xs).Perm xs:=List.mergeSort_perm xs nI
theorem wu(xs:List Nat):(qQ xs).length=xs.length:=(jC xs).length_eq
theorem mW(xs:List Nat):(qQ xs).Pairwise (fun a b=>nI a b=true):=List.pairwise_mergeSort AB AJ xs
theorem De{xs:List Nat}(h:ja xs):ja (qQ xs):=fun x hx=>h x ((jC xs).mem_iff.1 hx)
theorem KW{xs:List Nat}(h:∀ x ∈ xs,aY x):∀ x ∈ qQ xs,aY x:=fun x hx=>h x ((jC xs).mem_iff.1 hx)
theorem X7{x:Nat}(hx:x<18446744073709551616)(fx:aY x):∃ s e f,e<2048/\f<4503599627370496/\x=B.bw s e f/\B.ky s e f=kW x:=by
 have hm:aQ x<9218868437227405312:=fx;refine⟨cZ x,aQ x/4503599627370496,aQ x%4503599627370496,by omega,by omega,?_,?_⟩
 · exact Qac
 · unfold B.ky kW;rw[if_neg (by omega)];have e:((aQ x/4503599627370496:Nat):Int)*4503599627370496+(aQ x%4503599627370496:Nat)=(aQ x:Int):=by omega
   rw[e]
end
section
open Go Go.RowKit J
theorem X8{x:Nat}(fx:aY x):tkQ x=kW x:=by
 unfold tkQ kW;rw[if_neg (by unfold aY at fx;omega)]
theorem Gj(xs:List Nat):(List.range xs.length).map (fun i=>xs.getD i 0)=xs:=by
 refine List.ext_getElem (by simp) fun i h1 h2=>?_;simp[bG,h2]
theorem AQ{xs:List Nat}(hf:∀ x ∈ xs,aY x):dR xs=(kL xs).map (fun i=>xs.getD i 0):=by
 unfold dR;refine List.map_congr_left fun i hi=>KP (hf _ (cK (kM.1 hi)))
theorem Df{xs:List Nat}(hf:∀ x ∈ xs,aY x):(dR xs).Perm xs:=by
 rw[AQ hf];have:=(qf xs).map (fun i=>xs.getD i 0);rw[Gj] at this;exact this
theorem TL{xs:List Nat}(hf:∀ x ∈ xs,aY x):(dR xs).Pairwise (fun a b=>nI a b=true):=by
 rw[AQ hf,List.pairwise_map];have h:=ll xs (List.range xs.length);refine List.Pairwise.imp_of_mem ?_ (show(kL xs).Pairwise _ from h);intro a b ha hb hab;have fa:=hf _ (cK (kM.1 ha));have fb:=hf _ (cK (kM.1 hb));unfold leI at hab;have:=of_decide_eq_true hab;unfold nI;rw[decide_eq_true_eq,<-X8 fa,<-X8 fb];omega
theorem Gl{l m:List Nat}(hW:ja l)(hp:l.Perm m)(h1:l.Pairwise (fun a b=>nI a b=true))(h2:m.Pairwise (fun a b=>nI a b=true)):l=m:=by
 refine Bt (le:=fun a b=>nI a b=true) (fun a b ha hb q1 q2=>?_) h1 h2 hp;have ha':=hW a ha;have hb':=hW b (hp.mem_iff.2 hb);unfold nI at q1 q2;have:=of_decide_eq_true q1;have:=of_decide_eq_true q2;exact TK ha' hb' (by omega)
theorem O4{xs:List Nat}(hW:ja xs)(hf:∀ x ∈ xs,aY x):qQ xs=dR xs :=
 Gl (De hW) ((jC xs).trans (Df hf).symm) (mW xs) (TL hf)
end
namespace B
open Go.RowKit
attribute [local go_sem] aM aF
theorem KZ{a b:Int}(h:a=b):Ending.returned (.int .i64 a)=.returned (.int .i64 b):=by rw[h]
theorem O5 (X:Nat) (b k:Int) (h0:9223372036854775808<=b) (h1:b<18446744073709551616) (hk:Hid (k=-1-(b-9223372036854775808)))
 (H1:Hid (∀ w,Calls Tryz.prog 102 #[.float .f64 X] w fun r w'=>r=.returned (.int .u64 b)/\w'=w)) (w:World) :
 Calls Tryz.prog 74 #[.float .f64 X] w fun r w'=>r=.returned (.int .i64 k)/\w'=w:=by
 go_enter Tryz.func74,Tryz.ntmps74
 go_wp2_with (go_at_call 102;refine(H1.o _).mono ?_;rintro r w1 ⟨rfl,rfl⟩)
 go_ret;exact⟨KZ (by have:=hk.o;omega),rfl⟩
theorem AU (X:Nat) (b k:Int) (h0:0<=b) (h1:b<9223372036854775808) (hk:Hid (k=b))
 (H1:Hid (∀ w,Calls Tryz.prog 102 #[.float .f64 X] w fun r w'=>r=.returned (.int .u64 b)/\w'=w)) (w:World) :
 Calls Tryz.prog 74 #[.float .f64 X] w fun r w'=>r=.returned (.int .i64 k)/\w'=w:=by
 go_enter Tryz.func74,Tryz.ntmps74
 go_wp2_with (go_at_call 102;refine(H1.o _).mono ?_;rintro r w1 ⟨rfl,rfl⟩)
 go_ret;exact⟨KZ (by have:=hk.o;omega),rfl⟩
theorem AZ(s:Bool)(e f:Nat)(he:e<2048)(hf:f<4503599627370496)(w:World) :
 Calls Tryz.prog 74 #[.float .f64 (bw s e f)] w fun r w'=>r=.returned (.int .i64 (ky s e f))/\w'=w:=by
 have hB:=pF s e f he hf
 cases ho:odd e f
 · rw[iE s e f (fP e f ho)] at hB;have hl:=om s e f he hf;rw[rH s e f ho]
   cases s
   · refine AU _ _ _ (by omega) ?_ ?_ hB w
     · unfold bw;simp only[fI];omega
     · show _=_;unfold bw;simp only[fI,dP,if_false];omega
   · refine O5 _ _ _ ?_ (by omega) ?_ hB w
     · unfold bw;simp only[fH];omega
     · show _=_;unfold bw;simp only[fH,if_true];omega
 · rw[lG s e f (kC e f ho)] at hB;rw[xQ s e f ho];exact AU _ 9221120237041090560 _ (by omega) (by omega) rfl hB w
theorem Gm (X Y:Nat) (a b c:Int) (hc:a<b/\c=-1\/b<a/\c=1\/a=b/\c=0)
 (H1:Hid (∀ w,Calls Tryz.prog 74 #[.float .f64 X] w fun r w'=>r=.returned (.int .i64 a)/\w'=w))
 (H2:Hid (∀ w,Calls Tryz.prog 74 #[.float .f64 Y] w fun r w'=>r=.returned (.int .i64 b)/\w'=w)) (w:World) :
 Calls Tryz.prog 41 #[.float .f64 X,.float .f64 Y] w fun r w'=>r=.returned (.int .i64 c)/\w'=w:=by
 rcases hc with ⟨h1,rfl⟩|⟨h1,rfl⟩|⟨h1,rfl⟩
 · go_enter Tryz.func41,Tryz.ntmps41;go_wp2_with fail;refine(H1.o _).mono ?_;rintro r w1 ⟨rfl,rfl⟩;go_wp2_with fail;refine(H2.o _).mono ?_;rintro r w2 ⟨rfl,rfl⟩;go_wp2_with fail;go_ret;exact⟨rfl,rfl⟩
 · have h2:¬ a<b:=by omega
   go_enter Tryz.func41,Tryz.ntmps41;go_wp2_with fail;refine(H1.o _).mono ?_;rintro r w1 ⟨rfl,rfl⟩;go_wp2_with fail;refine(H2.o _).mono ?_;rintro r w2 ⟨rfl,rfl⟩;go_wp2_with fail;exact Xs
 · subst h1;go_enter Tryz.func41,Tryz.ntmps41;go_wp2_with fail;refine(H1.o _).mono ?_;rintro r w1 ⟨rfl,rfl⟩;go_wp2_with fail;refine(H2.o _).mono ?_;rintro r w2 ⟨rfl,rfl⟩;go_wp2_with fail;go_ret;exact⟨rfl,rfl⟩
theorem Ju(s t:Bool)(e f u v:Nat)(he:e<2048)(hf:f<4503599627370496)(hu:u<2048)(hv:v<4503599627370496)(w:World) :
 Calls Tryz.prog 41 #[.float .f64 (bw s e f),.float .f64 (bw t u v)] w fun r w'=>r=.returned (.int .i64 (oc (ky s e f) (ky t u v)))/\w'=w:=by
 refine Gm _ _ (ky s e f) (ky t u v) _ ?_ (AZ s e f he hf) (AZ t u v hu hv) w;unfold oc
 by_cases h:ky s e f<ky t u v
 · rw[if_pos h];exact Or.inl ⟨h,rfl⟩
 · rw[if_neg h]
   by_cases h2:ky t u v<ky s e f
   · rw[if_pos h2];exact Or.inr (Or.inl ⟨h2,rfl⟩)
   · rw[if_neg h2];exact Or.inr (Or.inr ⟨by omega,rfl⟩)
end B
section
open Go.RowKit J
theorem Gn{x y:Nat}(hx:x<18446744073709551616)(hy:y<18446744073709551616)(fx:aY x)(fy:aY y)(w:World) :
 Calls Tryz.prog 41 #[.float .f64 x,.float .f64 y] w fun r w'=>r=.returned (.int .i64 (B.oc (kW x) (kW y)))/\w'=w:=by
 obtain⟨s,e,f,h1,h2,h3,h4⟩:=X7 hx fx;obtain⟨t,u,v,i1,i2,i3,i4⟩:=X7 hy fy;have h:=B.Ju s t e f u v h1 h2 i1 i2 w;rw[h4,i4,<-h3,<-i3] at h;exact h
end
end Go.Proofs.YtjppdacikihpdaaGreatDoor
