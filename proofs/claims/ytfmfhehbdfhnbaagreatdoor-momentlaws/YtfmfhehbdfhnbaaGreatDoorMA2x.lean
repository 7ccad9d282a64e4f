import Derived.Test.YtfmfhehbdfhnbaaGreatDoorMO18x
import Derived.Test.YtfmfhehbdfhnbaaGreatDoorD39x
import Derived.OwnWalk
import Derived.ArgAppend
import Derived.Test.YtfmfhehbdfhnbaaGreatDoorMC4x
set_option linter.unusedVariables false
set_option linter.unusedSimpArgs false
set_option maxHeartbeats 16000000
set_option maxRecDepth 20000
namespace Go.Proofs.YtfmfhehbdfhnbaaGreatDoor
namespace J
end J
section
open Go Go.RowKit J
theorem Xt {w:World}{as' ap:Option Addr}{cs cp:Nat}(n s q less mode:Int) (hs:0<=s/\s<=100) (hq:0<=q/\q<=100) (h1:Nt 0 w (.slice as' (ws (dX (gV 0 s))).length cs) (dX (gV 0 s))) (h2:Nt 0 w (.slice ap (ws (dX (gV 0 q))).length cp) (dX (gV 0 q))) (hT:dU w) (hn:-9223372036854775808<=n/\n<=9223372036854775807)
 (z:Nat×Int) (hz:wT n (uo (fu (gV 0 n) (gV 0 q)) (fu (gV 0 s) (gV 0 s))) less mode=z) :
 Calls Tryz.prog 7 #[.int .i64 n,.agg #[.bool (dN (gV 0 s)),.slice as' (ws (dX (gV 0 s))).length cs,.int .i64 (dE (gV 0 s))],.agg #[.bool (dN (gV 0 q)),.slice ap (ws (dX (gV 0 q))).length cp,.int .i64 (dE (gV 0 q))],.int .i64 less,.int .i64 mode] w λr w'=>r=.returned (.tuple #[.float .f64 z.1,.int .i64 z.2])/\Below w.heap.size w w':=by
 have F:∀x:Int,0<=x/\x<=100->Fm (gV 0 x):=λx hx=>by
  obtain⟨k,rfl⟩:=Int.eq_ofNat_of_zero_le hx.1;exact dJ (m:=7) aj aj (Bd.nat ae)
 have F1:=F s hs;have F2:=F q hq;refine Of14 n (dN (gV 0 s)) (dN (gV 0 q)) (dE (gV 0 s)) (dE (gV 0 q)) less mode (F1.a12 h1) (F2.a12 h2) hT hn ?_ ?_ z ?_
 . have:=F1.qI;omega
 . have:=F2.qI;omega
 . rw[ak,ak,F1.re,F2.re];exact hz
theorem Qar{P:Prop}(h:P:=by
 go_wp2;go_ret;exact⟨rfl,BD.o⟩):P:=h
set_option maxRecDepth 100000 in
theorem Xu(w:World)(hT:dU w):Calls Tryz.prog 5 #[] w λr w'=>r=.returned (.bool true)/\Below w.heap.size w w':=by
 have HT:=aA hT;have BD:=aA (aD w.heap.size w);clear hT;go_enter Tryz.func5,Tryz.ntmps5;obtain⟨W1,hW1⟩:=ah ((w.alloc (Obj.cells #[.float .f64 4607182418800017408,.float .f64 4611686018427387904,.float .f64 4613937818241073152,.float .f64 4616189618054758400] 28)));obtain⟨g1,hg1⟩:=ah (w.heap.size);have BE:=aA BD.o;have q0:Below w.heap.size w W1:=by rw[hW1];exact af _ _
 have q1:Fs W1.heap.size W1 (some ⟨g1,0,none⟩) [4607182418800017408,4611686018427387904,4613937818241073152,4616189618054758400]:=by rw[hW1,hg1];exact wU w [4607182418800017408,4611686018427387904,4613937818241073152,4616189618054758400]
 have BD:=aP (BD.o.trans (q0.mono BD.o.size)) q1;have HE:=(aP hW1 hg1);clear hW1 hg1 q0 q1 BE;go_wp2_with fail;rw[<-HE.o.1,<-HE.o.2];clear HE;refine(pM W1).mono ?_;rintro r u2 ⟨rfl,hb⟩;have BD:=aP (BD.o.1.trans (hb.mono BD.o.1.size)) ((BD.o.2.below hb).mono hb.size);clear hb;have C:Hid (Calls Tryz.prog 16 #[.slice (some ⟨g1,0,none⟩) 4 4,.int .i64 0,.int .i64 0,.agg #[.int .i64 0,.int .i64 0]] u2 λr w'=>r=.returned (.tuple #[.float .f64 4608308318706860032,.int .i64 0])/\Below u2.heap.size u2 w'):=hid (uB [4607182418800017408,4611686018427387904,4613937818241073152,4616189618054758400] _ 4 4 0 0 0 0 u2 rfl BD.o.2 (iE aj) (HT.o.belows BD.o.1) aj (4608308318706860032,0) (cVa.trans (by decide +kernel)));go_wp2_with fail;refine C.o.mono ?_;rintro r u3 ⟨rfl,hb⟩;have BD:=aP (BD.o.1.trans (hb.mono BD.o.1.size)) ((BD.o.2.below hb).mono hb.size);clear hb C;go_wp2_with fail;refine(pM u3).mono ?_;rintro r u4 ⟨rfl,hb⟩;have BD:=aP (BD.o.1.trans (hb.mono BD.o.1.size)) ((BD.o.2.below hb).mono hb.size);clear hb;have C:Hid (Calls Tryz.prog 16 #[.slice (some ⟨g1,0,none⟩) 4 4,.int .i64 1,.int .i64 0,.agg #[.int .i64 0,.int .i64 0]] u4 λr w'=>r=.returned (.tuple #[.float .f64 4610184818551597739,.int .i64 0])/\Below u4.heap.size u4 w'):=hid (uB [4607182418800017408,4611686018427387904,4613937818241073152,4616189618054758400] _ 4 4 1 0 0 0 u4 rfl BD.o.2 (iE aj) (HT.o.belows BD.o.1) aj (4610184818551597739,0) (cVb.trans (by decide +kernel)));go_wp2_with fail;refine C.o.mono ?_;rintro r u5 ⟨rfl,hb⟩;have BD:=aP (BD.o.1.trans (hb.mono BD.o.1.size)) ((BD.o.2.below hb).mono hb.size);clear hb C;go_wp2_with fail;refine(pM u5).mono ?_;rintro r u6 ⟨rfl,hb⟩;have BD:=aP (BD.o.1.trans (hb.mono BD.o.1.size)) ((BD.o.2.below hb).mono hb.size);clear hb;have C:Hid (Calls Tryz.prog 18 #[.slice (some ⟨g1,0,none⟩) 4 4,.int .i64 1,.int .i64 0,.agg #[.int .i64 0,.int .i64 0]] u6 λr w'=>r=.returned (.tuple #[.float .f64 4608492941290910865,.int .i64 0])/\Below u6.heap.size u6 w'):=hid (Gt [4607182418800017408,4611686018427387904,4613937818241073152,4616189618054758400] _ 4 4 1 0 0 0 u6 rfl BD.o.2 (iE aj) (HT.o.belows BD.o.1) aj (4608492941290910865,0) (cSc.trans (by decide +kernel)));go_wp2_with fail;refine C.o.mono ?_;rintro r u7 ⟨rfl,hb⟩;have BD:=aP (BD.o.1.trans (hb.mono BD.o.1.size)) ((BD.o.2.below hb).mono hb.size);clear hb C;have BD:=aA BD.o.1;obtain⟨W8,hW8⟩:=ah ((u7.alloc (Obj.cells #[.float .f64 4607182418800017408,.float .f64 4611686018427387904,.float .f64 4618441417868443648] 28)));obtain⟨g8,hg8⟩:=ah (u7.heap.size);have BE:=aA BD.o;have q0:Below u7.heap.size u7 W8:=by rw[hW8];exact af _ _
 have q1:Fs W8.heap.size W8 (some ⟨g8,0,none⟩) [4607182418800017408,4611686018427387904,4618441417868443648]:=by rw[hW8,hg8];exact wU u7 [4607182418800017408,4611686018427387904,4618441417868443648]
 have BD:=aP (BD.o.trans (q0.mono BD.o.size)) q1;have HE:=(aP hW8 hg8);clear hW8 hg8 q0 q1 BE;have C:Hid (Calls Tryz.prog 19 #[.slice (some ⟨g8,0,none⟩) 3 3,.int .i64 3,.int .i64 0] W8 λr w'=>r=.returned (.tuple #[.float .f64 4618441417868443648,.int .i64 0])/\Below W8.heap.size W8 w'):=hid (vQ [4607182418800017408,4611686018427387904,4618441417868443648] _ 3 3 3 0 W8 rfl BD.o.2 (iE aj) (HT.o.belows BD.o.1) aj (4618441417868443648,0) (cCen.trans (by decide +kernel)));go_wp2_with fail;rw[<-HE.o.1,<-HE.o.2];clear HE;refine C.o.mono ?_;rintro r u9 ⟨rfl,hb⟩;have BD:=aP (BD.o.1.trans (hb.mono BD.o.1.size)) ((BD.o.2.below hb).mono hb.size);clear hb C;have BD:=aA BD.o.1;obtain⟨Xv,TH⟩:=ah (((u9.alloc (Obj.cells #[.float .f64 4607182418800017408,.float .f64 4611686018427387904,.float .f64 4613937818241073152] 28)).alloc (Obj.cells #[.float .f64 4611686018427387904,.float .f64 4616189618054758400,.float .f64 4619567317775286272] 28)));obtain⟨g10,nR⟩:=ah (u9.heap.size);have BE:=aA BD.o;have q0:Below u9.heap.size u9 Xv:=by rw[TH];exact(af _ _).trans ((af _ _).mono aQ)
 have q1:Fs Xv.heap.size Xv (some ⟨g10,0,none⟩) [4607182418800017408,4611686018427387904,4613937818241073152]:=by rw[TH,nR];exact((wU u9 [4607182418800017408,4611686018427387904,4613937818241073152]).below (af _ _)).mono aQ
 have q2:Fs Xv.heap.size Xv (some ⟨g10+1,0,none⟩) [4611686018427387904,4616189618054758400,4619567317775286272]:=by rw[TH,nR];exact JL (u9.alloc (Obj.cells #[.float .f64 4607182418800017408,.float .f64 4611686018427387904,.float .f64 4613937818241073152] 28)) [4611686018427387904,4616189618054758400,4619567317775286272] (u9.heap.size+1) aQ
 have BD:=dC (BD.o.trans (q0.mono BD.o.size)) q1 q2;have HE:=(aP TH nR);clear TH nR q0 q1 q2 BE;have C:Hid (Calls Tryz.prog 20 #[.slice (some ⟨g10,0,none⟩) 3 3,.slice (some ⟨g10+1,0,none⟩) 3 3,.int .i64 1,.int .i64 0] Xv λr w'=>r=.returned (.tuple #[.float .f64 4612811918334230528,.int .i64 0])/\Below Xv.heap.size Xv w'):=hid (O5 [4607182418800017408,4611686018427387904,4613937818241073152] [4611686018427387904,4616189618054758400,4619567317775286272] _ _ 3 3 3 3 1 0 Xv rfl rfl BD.o.2.1 BD.o.r2 (iE aj) (iE aj) (HT.o.belows BD.o.1) aj aj (4612811918334230528,0) (cCo.trans (by decide +kernel)));go_wp2_with fail;rw[<-HE.o.1,<-HE.o.2];clear HE;refine C.o.mono ?_;rintro r El ⟨rfl,hb⟩;have BD:=dC (BD.o.1.trans (hb.mono BD.o.1.size)) ((BD.o.2.1.below hb).mono hb.size) ((BD.o.r2.below hb).mono hb.size);clear hb C;have BD:=aA BD.o.1;obtain⟨Xw,TI⟩:=ah (((El.alloc (Obj.cells #[.float .f64 4607182418800017408,.float .f64 4611686018427387904,.float .f64 4613937818241073152] 28)).alloc (Obj.cells #[.float .f64 4613937818241073152,.float .f64 4611686018427387904,.float .f64 4607182418800017408] 28)));obtain⟨g12,pF⟩:=ah (El.heap.size);have BE:=aA BD.o;have q0:Below El.heap.size El Xw:=by rw[TI];exact(af _ _).trans ((af _ _).mono aQ)
 have q1:Fs Xw.heap.size Xw (some ⟨g12,0,none⟩) [4607182418800017408,4611686018427387904,4613937818241073152]:=by rw[TI,pF];exact((wU El [4607182418800017408,4611686018427387904,4613937818241073152]).below (af _ _)).mono aQ
 have q2:Fs Xw.heap.size Xw (some ⟨g12+1,0,none⟩) [4613937818241073152,4611686018427387904,4607182418800017408]:=by rw[TI,pF];exact JL (El.alloc (Obj.cells #[.float .f64 4607182418800017408,.float .f64 4611686018427387904,.float .f64 4613937818241073152] 28)) [4613937818241073152,4611686018427387904,4607182418800017408] (El.heap.size+1) aQ
 have BD:=dC (BD.o.trans (q0.mono BD.o.size)) q1 q2;have HE:=(aP TI pF);clear TI pF q0 q1 q2 BE;have C:Hid (Calls Tryz.prog 21 #[.slice (some ⟨g12,0,none⟩) 3 3,.slice (some ⟨g12+1,0,none⟩) 3 3,.int .i64 2] Xw λr w'=>r=.returned (.tuple #[.float .f64 13830554455654793216,.int .i64 0])/\Below Xw.heap.size Xw w'):=hid (nT [4607182418800017408,4611686018427387904,4613937818241073152] [4613937818241073152,4611686018427387904,4607182418800017408] _ _ 3 3 3 3 2 Xw rfl rfl BD.o.2.1 BD.o.r2 (iE aj) (iE aj) (HT.o.belows BD.o.1) aj aj (13830554455654793216,0) (cLi.trans (by decide +kernel)));go_wp2_with fail;rw[<-HE.o.1,<-HE.o.2];clear HE;refine C.o.mono ?_;rintro r JC ⟨rfl,hb⟩;have BD:=dC (BD.o.1.trans (hb.mono BD.o.1.size)) ((BD.o.2.1.below hb).mono hb.size) ((BD.o.r2.below hb).mono hb.size);clear hb C;have BD:=aA BD.o.1;go_wp2_with fail;obtain⟨oa,hoa⟩:=ah (gV 0 10);obtain⟨ob,hob⟩:=ah (gV 0 30);have C:Hid (Calls Tryz.prog 22 #[.int .i64 10] JC λr w'=>bI 0 w' r oa/\Below JC.heap.size JC w'):=by rw[hoa];exact Sn 10 JC aj aj
 refine C.o.mono ?_;rintro r Xx ⟨hd,hb⟩;obtain⟨ja,jc,rfl,hN⟩:=hd.aL;have BD:=aP (BD.o.trans (hb.mono BD.o.size)) hN;clear hb hd hN C;have C:Hid (Calls Tryz.prog 22 #[.int .i64 30] Xx λr w'=>bI 0 w' r ob/\Below Xx.heap.size Xx w'):=by rw[hob];exact Sn 30 Xx aj aj
 have HO:=(aP hoa hob);clear hoa hob;go_wp2_with fail;refine C.o.mono ?_;rintro r Z4 ⟨hd,hb⟩;obtain⟨ka,kc,rfl,hN⟩:=hd.aL;have BD:=dC (BD.o.1.trans (hb.mono BD.o.1.size)) (BD.o.2.below hb) hN;clear hb hd hN C
 have C:Hid (Calls Tryz.prog 7 #[.int .i64 4,.agg #[.bool (dN oa),.slice ja (ws (dX oa)).length jc,.int .i64 (dE oa)],.agg #[.bool (dN ob),.slice ka (ws (dX ob)).length kc,.int .i64 (dE ob)],.int .i64 0,.int .i64 0] Z4 λr w'=>r=.returned (.tuple #[.float .f64 4608308318706860032,.int .i64 0])/\Below Z4.heap.size Z4 w'):=by
  have h1:=BD.o.2.1;have h2:=BD.o.r2;rw[HO.o.1] at h1;rw[HO.o.2] at h2;rw[HO.o.1,HO.o.2];exact Xt 4 10 30 0 0 aj aj h1 h2 (HT.o.belows BD.o.1) aj (4608308318706860032,0) (cOf.trans (by decide +kernel))
 clear HO;go_wp2_with fail;refine C.o.mono ?_;rintro r JM ⟨rfl,hb⟩;have BD:=aA (BD.o.1.trans (hb.mono BD.o.1.size));clear hb C;obtain⟨Xy,TJ⟩:=ah (((JM.alloc (Obj.cells #[.float .f64 4607182418800017408,.float .f64 4607182418800017408] 28)).alloc (Obj.cells #[.float .f64 4607182418800017408,.float .f64 4611686018427387904] 28)));obtain⟨g15,Bc⟩:=ah (JM.heap.size);have BE:=aA BD.o;have q0:Below JM.heap.size JM Xy:=by rw[TJ];exact(af _ _).trans ((af _ _).mono aQ)
 have q1:Fs Xy.heap.size Xy (some ⟨g15,0,none⟩) [4607182418800017408,4607182418800017408]:=by rw[TJ,Bc];exact((wU JM [4607182418800017408,4607182418800017408]).below (af _ _)).mono aQ
 have q2:Fs Xy.heap.size Xy (some ⟨g15+1,0,none⟩) [4607182418800017408,4611686018427387904]:=by rw[TJ,Bc];exact JL (JM.alloc (Obj.cells #[.float .f64 4607182418800017408,.float .f64 4607182418800017408] 28)) [4607182418800017408,4611686018427387904] (JM.heap.size+1) aQ
 have BD:=dC (BD.o.trans (q0.mono BD.o.size)) q1 q2;have HE:=(aP TJ Bc);clear TJ Bc q0 q1 q2 BE;have C:Hid (Calls Tryz.prog 21 #[.slice (some ⟨g15,0,none⟩) 2 2,.slice (some ⟨g15+1,0,none⟩) 2 2,.int .i64 0] Xy λr w'=>r=.returned (.tuple #[.float .f64 0,.int .i64 190])/\Below Xy.heap.size Xy w'):=hid (nT [4607182418800017408,4607182418800017408] [4607182418800017408,4611686018427387904] _ _ 2 2 2 2 0 Xy rfl rfl BD.o.2.1 BD.o.r2 (iE aj) (iE aj) (HT.o.belows BD.o.1) aj aj (0,190) (cFlat.trans (by decide +kernel)));go_wp2_with fail;rw[<-HE.o.1,<-HE.o.2];clear HE;refine C.o.mono ?_;rintro r u16 ⟨rfl,hb⟩;have BD:=dC (BD.o.1.trans (hb.mono BD.o.1.size)) ((BD.o.2.1.below hb).mono hb.size) ((BD.o.r2.below hb).mono hb.size);clear hb C;have BD:=aA BD.o.1;obtain⟨W17,Xz⟩:=ah ((u16.alloc (Obj.cells #[.float .f64 4617315517961601024] 28)));obtain⟨g17,Gx⟩:=ah (u16.heap.size);have BE:=aA BD.o;have q0:Below u16.heap.size u16 W17:=by rw[Xz];exact af _ _
 have q1:Fs W17.heap.size W17 (some ⟨g17,0,none⟩) [4617315517961601024]:=by rw[Xz,Gx];exact wU u16 [4617315517961601024]
 have BD:=aP (BD.o.trans (q0.mono BD.o.size)) q1;have HE:=(aP Xz Gx);clear Xz Gx q0 q1 BE;go_wp2_with fail;rw[<-HE.o.1,<-HE.o.2];clear HE;refine(pM W17).mono ?_;rintro r Pm ⟨rfl,hb⟩;have BD:=aP (BD.o.1.trans (hb.mono BD.o.1.size)) ((BD.o.2.below hb).mono hb.size);clear hb;have C:Hid (Calls Tryz.prog 16 #[.slice (some ⟨g17,0,none⟩) 1 1,.int .i64 1,.int .i64 0,.agg #[.int .i64 0,.int .i64 0]] Pm λr w'=>r=.returned (.tuple #[.float .f64 0,.int .i64 3])/\Below Pm.heap.size Pm w'):=hid (uB [4617315517961601024] _ 1 1 1 0 0 0 Pm rfl BD.o.2 (iE aj) (HT.o.belows BD.o.1) aj (0,3) (Z0.trans (by decide +kernel)));go_wp2_with fail;refine C.o.mono ?_;rintro r Pn ⟨rfl,hb⟩;have BD:=aP (BD.o.1.trans (hb.mono BD.o.1.size)) ((BD.o.2.below hb).mono hb.size);clear hb C;have BD:=aA BD.o.1;obtain⟨W20,XA⟩:=ah ((Pn.alloc (Obj.cells #[.float .f64 4617315517961601024] 28)));obtain⟨g20,Ed⟩:=ah (Pn.heap.size);have BE:=aA BD.o;have q0:Below Pn.heap.size Pn W20:=by rw[XA];exact af _ _
 have q1:Fs W20.heap.size W20 (some ⟨g20,0,none⟩) [4617315517961601024]:=by rw[XA,Ed];exact wU Pn [4617315517961601024]
 have BD:=aP (BD.o.trans (q0.mono BD.o.size)) q1;have HE:=(aP XA Ed);clear XA Ed q0 q1 BE;go_wp2_with fail;rw[<-HE.o.1,<-HE.o.2];clear HE;refine(pM W20).mono ?_;rintro r u21 ⟨rfl,hb⟩;have BD:=aP (BD.o.1.trans (hb.mono BD.o.1.size)) ((BD.o.2.below hb).mono hb.size);clear hb;have C:Hid (Calls Tryz.prog 16 #[.slice (some ⟨g20,0,none⟩) 1 1,.int .i64 2,.int .i64 0,.agg #[.int .i64 0,.int .i64 0]] u21 λr w'=>r=.returned (.tuple #[.float .f64 0,.int .i64 1])/\Below u21.heap.size u21 w'):=hid (uB [4617315517961601024] _ 1 1 2 0 0 0 u21 rfl BD.o.2 (iE aj) (HT.o.belows BD.o.1) aj (0,1) (cVarg.trans (by decide +kernel)));go_wp2_with fail;refine C.o.mono ?_;rintro r u22 ⟨rfl,hb⟩;have BD:=aP (BD.o.1.trans (hb.mono BD.o.1.size)) ((BD.o.2.below hb).mono hb.size);clear hb C;have BD:=aA BD.o.1;have C:=hid (pO 4608308318706860032 4608308318706860032 rfl u22);go_wp2_with fail;refine C.o.mono ?_;rintro r u23 ⟨rfl,hq⟩;rw[hq];clear hq C u23;have C:=hid (pO 4610184818551597739 4610184818551597739 rfl u22);go_wp2_with fail;refine C.o.mono ?_;rintro r u24 ⟨rfl,hq⟩;rw[hq];clear hq C u24;have C:=hid (pO 4608492941290910865 4608492941290910865 rfl u22);go_wp2_with fail;refine C.o.mono ?_;rintro r u25 ⟨rfl,hq⟩;rw[hq];clear hq C u25;have C:=hid (pO 4618441417868443648 4618441417868443648 rfl u22);go_wp2_with fail;refine C.o.mono ?_;rintro r u26 ⟨rfl,hq⟩;rw[hq];clear hq C u26;have C:=hid (pO 4612811918334230528 4612811918334230528 rfl u22);go_wp2_with fail;refine C.o.mono ?_;rintro r u27 ⟨rfl,hq⟩;rw[hq];clear hq C u27;have C:=hid (pO 13830554455654793216 13830554455654793216 rfl u22);go_wp2_with fail;refine C.o.mono ?_;rintro r u28 ⟨rfl,hq⟩;rw[hq];clear hq C u28;have C:=hid (pO 4608308318706860032 4608308318706860032 rfl u22);go_wp2_with fail;refine C.o.mono ?_;rintro r u29 ⟨rfl,hq⟩;rw[hq];clear hq C u29;exact Qar
def I14(n:Nat):Value:=.int .i64 (n:Int)
theorem Tryz.JN:(Tryz.prog.info? 3).map (λi=>(i.zero,i.size,i.bytes))=some (some (.int .i64 0),1,8):=by kernel_rfl
theorem Tryz.GK:Tryz.prog.underlying 36=some (.slice 3):=by kernel_rfl
def eG(lo:Nat)(w:World)(v:Value)(R:List Nat):Prop:=w.ownsRow lo 3 1 v R.length (R.map I14)
theorem eG.nil(lo:Nat)(w:World):eG lo w (.slice none 0 0) []:=Ar w lo 3 1
theorem eG.keep{lo:Nat}{w w':World}{v:Value}{L:List Nat}{row:Option Nat}(h:eG lo w v L)(hg:w.grownBy w' row)(hr:∀g,v.ownBlock=some g->row≠some g):eG lo w' v L:=by
 refine⟨h.1,?_⟩;rcases h.2 with hn|⟨g,cap,cur,rfl,hlo,hgc,rest⟩
 . exact .inl hn
 . refine .inr ⟨g,cap,cur,rfl,hlo,?_,rest⟩;rw[hg.block g (gL.1 hgc).1 (λe=>hr g rfl e.symm)];exact hgc
theorem eG.below{lo:Nat}{w w':World}{v:Value}{L:List Nat}(h:eG lo w v L)(hb:Below w.heap.size w w'):eG lo w' v L:=by
 exact yW
theorem eG.lt{lo:Nat}{w:World}{v:Value}{L:List Nat}(h:eG lo w v L){g:Nat}(hv:v.ownBlock=some g):lo<=g/\g<w.heap.size:=by
 rcases h.2 with ⟨rfl,hn⟩|⟨g',cap,cur,rfl,hlo,hgc,rest⟩
 . simp[Value.ownBlock] at hv
 . simp[Value.ownBlock] at hv;subst hv;exact⟨hlo,(gL.1 hgc).1⟩
theorem eG.mono{lo lo':Nat}{w:World}{v:Value}{L:List Nat}(h:eG lo w v L)(hl:lo'<=lo):eG lo' w v L:=by
 refine⟨h.1,?_⟩;rcases h.2 with hn|⟨g,cap,cur,rfl,hlo,rest⟩
 . exact .inl hn
 . exact .inr ⟨g,cap,cur,rfl,ae,rest⟩
theorem eG.shape{lo:Nat}{w:World}{v:Value}{L:List Nat}(h:eG lo w v L):(v=.slice none 0 0/\L=[])\/∃g cap,v=.slice (some ⟨g,0,none⟩) L.length cap/\lo<=g/\g<w.heap.size/\L.length<=cap/\cap<=maxLen/\∀i,i<L.length->w.cell? ⟨g,i,none⟩=some (.int .i64 ((L.getD i 0:Nat):Int)):=by
 have h':=h;rcases h.2 with ⟨rfl,hn⟩|⟨g,cap,cur,rfl,hlo,hg,hn,hm,hs,ht⟩
 . exact .inl ⟨rfl,l7 hn⟩
 . refine .inr ⟨g,cap,rfl,hlo,(gL.1 hg).1,hn,hm,λi hi=>?_⟩;have:=World.ownsRow.cellAt h' i ae;rw[this,List.getElem?_map,gD hi,fF,gD hi];rfl
theorem eG.set{lo:Nat}{w:World}{v:Value}{L:List Nat}(h:eG lo w v L){g:Nat}(hne:v.ownBlock≠some g)(i:Nat)(u:Value):eG lo (w.setCell ⟨g,i,none⟩ u) v L:=by
 refine⟨h.1,?_⟩;rcases h.2 with hn|⟨g',cap,cur,rfl,hlo,hgc,rest⟩
 . exact .inl hn
 . refine .inr ⟨g',cap,cur,rfl,hlo,?_,rest⟩;rw[Below.heap_setCell _ _ _ _ (λe=>hne (by rw[e];rfl))];exact hgc
theorem eG.slice{lo:Nat}{w:World}{v:Value}{L:List Nat}(h:eG lo w v L):∃ao m cp,v=.slice ao m cp:=by
 rcases h.shape with ⟨rfl,_⟩|⟨g,cap,rfl,_⟩
 . exact⟨_,_,_,rfl⟩
 . exact⟨_,_,_,rfl⟩
def TK(B:Nat)(w:World)(ao:Option Addr)(xs:List Int):Prop :=
 xs≠[]->∃b off,b<B/\ao=some ⟨b,off,none⟩/\∀i,i<xs.length->w.cell? ⟨b,off+i,none⟩=some (.int .i64 (xs.getD i 0))
theorem TK.at{B:Nat}{w w':World}{ao:Option Addr}{xs:List Int}(h:TK B w ao xs)(hb:Below B w w')(i:Nat)(hi:i<xs.length):∃b off,ao=some ⟨b,off,none⟩/\w'.cell? ⟨b,off+i,none⟩=some (.int .i64 (xs.getD i 0)):=by
 exact xf
def Z5(xs:List Int):Prop:=∀i,-9223372036854775808<=xs.getD i 0/\xs.getD i 0<=9223372036854775807
theorem TL(c:Int)(m:Nat)(w:World)(h0:-9223372036854775808<=c)(h1:c<=9223372036854775807)(hm:0<m)(hm2:m<=1000000) :
 Calls Tryz.prog 12 #[.int .i64 c,.int .i64 (m:Nat)] w λr w'=>∃p:Nat,r=.returned (.int .i64 (p:Nat))/\p<m/\w'=w:=by
 by_cases h:c<0
 . go_enter Tryz.func12,Tryz.ntmps12;go_wp2;have e1:(-(c+1)).tmod (m:Int)=-(c+1)%(m:Int):=Hq ae;rw[Int.neg_tmod] at e1;have e2:=Int.emod_nonneg (-(c+1)) (b:=(m:Int)) ae;have e3:=Int.emod_lt_of_pos (-(c+1)) (b:=(m:Int)) ae;obtain⟨p,hp⟩:∃p:Nat,(p:Int)=-(c+1)%(m:Int):=⟨(-(c+1)%(m:Int)).toNat,ae⟩;rw[e1,<-hp];exact aG (v:=.int .i64 (p:Nat)) (by simp[results,Tryz.results12,go_sem]) rfl ⟨p,rfl,ae,rfl⟩
 . go_enter Tryz.func12,Tryz.ntmps12;go_wp2;have e2:=Int.emod_nonneg c (b:=(m:Int)) ae;have e3:=Int.emod_lt_of_pos c (b:=(m:Int)) ae;obtain⟨p,hp⟩:∃p:Nat,(p:Int)=c%(m:Int):=⟨(c%(m:Int)).toNat,ae⟩;rw[<-hp];exact aG (v:=.int .i64 (p:Nat)) (by simp[results,Tryz.results12,go_sem]) rfl ⟨p,rfl,ae,rfl⟩
theorem swap_perm(R:List Nat)(k:Nat)(hk:k<R.length):(R.getD k 0::((R.set k (R.getD (R.length-1) 0)).take (R.length-1))).Perm R:=by
 obtain⟨P,x,rfl⟩:∃P x,R=P++[x]:=⟨R.dropLast,R.getLast (by intro e;subst e;simp at hk),(List.dropLast_concat_getLast _).symm⟩;have hl:(P++[x]).length-1=P.length:=by simp
 have hx:(P++[x]).getD P.length 0=x:=by simp[fF]
 rw[hl,hx]
 by_cases h:k=P.length
 . subst h;rw[hx,List.set_append_right _ _ (aC _),List.take_left' rfl];exact(List.perm_append_comm (l₁:=[x]) (l₂:=P))
 . have hk2:k<P.length:=by simp at hk;omega
   rw[List.set_append_left _ _ hk2,List.take_left' aQ];have e:(P++[x]).getD k 0=P[k]:=by rw[fF,CJ hk2,gD hk2];rfl
   rw[e];have hP:P=P.take k++P[k]::P.drop (k+1):=by rw[List.getElem_cons_drop,List.take_append_drop]
   have hS:P.set k x=P.take k++x::P.drop (k+1):=by
    rw[List.set_eq_take_append_cons_drop,if_pos hk2]
   rw[hS];have h1:(P[k]::(P.take k++x::P.drop (k+1))).Perm (P[k]::x::(P.take k++P.drop (k+1))):=(List.perm_middle).cons _;have h2:(P++[x]).Perm (x::P):=List.perm_append_comm (l₁:=P) (l₂:=[x])
   have h3:(x::P).Perm (x::P[k]::(P.take k++P.drop (k+1))):=by
    refine List.Perm.cons _ ?_
    conv=>lhs;rw[hP]
    exact List.perm_middle
   exact h1.trans ((List.Perm.swap _ _ _).trans (h3.symm.trans h2.symm))
theorem eG.put{lo:Nat}{w:World}{g m cap:Nat}{R:List Nat}(h:eG lo w (.slice (some ⟨g,0,none⟩) m cap) R)(k x:Nat)(hk:k<R.length):eG lo (w.setCell ⟨g,k,none⟩ (.int .i64 (x:Nat))) (.slice (some ⟨g,0,none⟩) m cap) (R.set k x):=by
 have yM:m=R.length:=by rcases h.shape with ⟨q,_⟩ | ⟨g,cap,q,_⟩ <;> (cases q;try rfl)
 subst yM;unfold eG at h |-;rw[List.length_set];refine⟨aQ,?_⟩;rcases h.2 with ⟨e,hn⟩|⟨g',cap',cur,e,hlo,hg,hnc,hm,hs,ht⟩
 . omega
 . cases e
   refine .inr ⟨g,cap,cur.set! k (.int .i64 (x:Nat)),rfl,hlo,?_,hnc,hm,by simpa using hs,?_⟩
   . simp only[World.setCell,mJ,hg];simp
   . have e:(R.set k x).map I14=(R.map I14).set k (.int .i64 (x:Nat)):=by rw[List.map_set];rfl
     rw[e,<-ht];simp[List.take_set]
theorem eG.cut{lo:Nat}{w:World}{g m cap:Nat}{R:List Nat}(h:eG lo w (.slice (some ⟨g,0,none⟩) m cap) R)(j:Nat)(hj:j<=R.length):eG lo w (.slice (some ⟨g,0,none⟩) j cap) (R.take j):=by
 have e:(R.take j).length=j:=by simp;omega
 unfold eG at h |-;rw[e];refine⟨by simp;omega,?_⟩;rcases h.2 with ⟨e,hn⟩|⟨g',cap',cur,e,hlo,hg,hnc,hm,hs,ht⟩
 . cases e
 . cases e
   refine .inr ⟨g,cap,cur,rfl,hlo,hg,ae,hm,hs,?_⟩;rw[List.map_take,<-ht];simp[List.take_take];omega
theorem pQ(w:World)(lo:Nat)(v:Value)(l:List Nat)(x s:Nat)(hown:eG lo w v l)(hx:w.cell? ⟨s,0,none⟩=some (.int .i64 (x:Nat)))(hl:l.length<=2000000)(hlo:lo<=w.heap.size) :
 ∃v' w',(Builtin.append_ #[36,36] 36 #[v,.slice (some ⟨s,0,none⟩) 1 1]).run Tryz.prog w=.ok v' w'/\eG lo w' v' (l++[x])/\w.grownBy w' v.ownBlock/\(v'.ownBlock=v.ownBlock\/∃g,v'.ownBlock=some g/\w.heap.size<=g):=by
 obtain⟨i0,hi,hz0,hz1,hz2⟩:=info_parts Tryz.JN
 obtain⟨v',w',r1,r2,r3,_,r5⟩:=run_append_own_at (P:=Tryz.prog) w lo 36 36 3 i0 (.int .i64 0) 1 8 Tryz.GK hi hz0 hz1 hz2 rfl aj v l.length (l.map I14) hown ⟨s,0,none⟩ 1 1 [.int .i64 (x:Nat)] rfl (by
  intro j u hj
  match j,hj with
  | 0,hj=>simp at hj;subst hj;simpa [Addr.add] using hx) (by intro u hu;simp at hu;subst hu;rfl) (by unfold maxLen;omega) ae hlo
 refine⟨v',w',r1,by unfold eG;rw[wh,yg];exact r2,r3,?_⟩;rcases r5 with q|q
 . exact .inl q
 . exact .inr ⟨_,q,aC _⟩
structure TM (w:World) (L:List Nat) (gl cap:Nat) (R O:List Nat) (ov:Value) (wr:World):Prop where
 left:eG w.heap.size wr (.slice (some ⟨gl,0,none⟩) R.length cap) R
 o:eG w.heap.size wr ov O
 apart:ov.ownBlock≠some gl
 perm:(O++R).Perm L
 aB:Below w.heap.size w wr
 len:O.length+R.length=L.length
theorem eG.len{lo:Nat}{w:World}{ao:Option Addr}{m c:Nat}{L:List Nat}(h:eG lo w (.slice ao m c) L):m=L.length:=by
 rcases h.shape with ⟨q,q2⟩|⟨g,cap,q,_⟩
 . cases q;rw[q2];rfl
 . cases q;rfl
theorem TM.next {w:World}{L:List Nat}{gl cap:Nat}{R O:List Nat}{ov:Value}{wr:World}(h:TM w L gl cap R O ov wr) (p:Nat) (hp:p<R.length) {v':Value}{w1 w2:World}(hb:Below wr.heap.size wr w1)
 (k1:eG w.heap.size w2 v' (O++[R.getD p 0])) (k2:w1.grownBy w2 ov.ownBlock) (k3:v'.ownBlock=ov.ownBlock\/∃g,v'.ownBlock=some g/\w1.heap.size<=g) :
 eG w.heap.size w2 (.slice (some ⟨gl,0,none⟩) R.length cap) R/\Below w.heap.size w w2 /\
  TM w L gl cap ((R.set p (R.getD (R.length-1) 0)).take (R.length-1)) (O++[R.getD p 0]) v' (w2.setCell ⟨gl,p,none⟩ (.int .i64 (R.getD (R.length-1) 0:Nat))):=by
 have hL:eG w.heap.size w2 (.slice (some ⟨gl,0,none⟩) R.length cap) R:=(h.left.below hb).keep k2 (λg hg=>λe=>h.apart (by simp[Value.ownBlock] at hg;rw[hg];exact e));have hlt:=h.left.lt (g:=gl) rfl
 have hap:v'.ownBlock≠some gl:=by
  rcases k3 with q|⟨g,q,q2⟩
  . rw[q];exact h.apart
  . rw[q];intro e;injection e with e;have:=hb.size;omega
 have hbw:Below w.heap.size w w1:=h.aB.trans (hb.mono h.aB.size);have hB:Below w.heap.size w w2:=hbw.grown k2 hbw.size (λk hk=>(h.o.lt hk).1);have ht:((R.set p (R.getD (R.length-1) 0)).take (R.length-1)).length=R.length-1:=by simp
 refine⟨hL,hB,⟨?_,?_,hap,?_,But.below hB ((But.refl gl _).set p _) hB.size hlt.1,?_⟩⟩
 . rw[ht];exact(hL.put p _ hp).cut (R.length-1) aQ
 . exact k1.set hap _ _
 . have:=(swap_perm R p hp).append_left O;rw[yh];exact this.trans h.perm
 . rw[ht,wh,List.length_singleton];have:=h.len;omega
theorem Z6(w:World)(bo:Option Addr)(nb cb:Nat) :
 Calls Tryz.prog 14 #[.int .i64 0,.slice bo nb cb] w λr w'=>r=.returned (.slice none 0 0)/\w'=w:=by
 go_enter Tryz.func14,Tryz.ntmps14;go_wp2_with fail
 go_loopg [5,6] 0 (λgk lv iv wr=>lv=.slice none 0 0/\iv=.int .i64 0/\wr=w)
 case atStart=>exact⟨rfl,rfl,rfl⟩
 case round =>
  obtain⟨rfl,rfl,rfl⟩:=hrel;go_wp2
  go_loopg [5,7] 0 (λgk lv ov wr2=>lv=.slice none 0 0/\ov=.slice none 0 0/\wr2=wr)
  case atStart=>exact⟨rfl,rfl,rfl⟩
  case round =>
   obtain⟨rfl,rfl,rfl⟩:=hrel;exact XS
section

theorem Qbx{P:Prop}(h:P:=by
 obtain⟨y,hy⟩:=ah (R.getD (R.length-1) 0)
 obtain⟨hgl,hcell⟩:gl<w2.heap.size/\∀i,i<R.length->w2.cell? ⟨gl,i,none⟩=some (.int .i64 (R.getD i 0:Nat)):=by
  rcases HW.o.left.shape with ⟨q,_⟩|⟨g',cap',q,_,q1,_,_,q2⟩
  . cases q
  . cases q;exact⟨q1,q2⟩
 have hcx:w2.cell? ⟨gl,p,none⟩=some (.int .i64 (x:Nat)):=by rw[hx];exact hcell p TR
 obtain⟨W3,hW3⟩:=ah (w2.alloc (.cells #[.int .i64 (x:Nat)] 3));have hb3:Below w2.heap.size w2 W3:=by subst hW3;exact af _ _
 have hc3:W3.cell? ⟨w2.heap.size,0,none⟩=some (.int .i64 (x:Nat)):=by subst hW3;unfold World.cell?;simp only[gY];rfl
 obtain⟨v4,w4,GL,Uw,hg4,Z8⟩:=pQ W3 w.heap.size _ O x w2.heap.size (HW.o.o.below hb3) hc3 (by have:=TQ.o;omega) (dW HW.o.aB.size hb3.size);have TP:=hid GL;obtain⟨n1,n2,n3⟩:=HW.o.next p TR hb3 (by rw[<-hx];exact Uw) hg4 Z8;rw[<-hx,<-hy] at n3
 have sQ:∀i,i<R.length->w4.cell? ⟨gl,i,none⟩=some (.int .i64 (R.getD i 0:Nat)):=by
  rcases n1.shape with ⟨q,_⟩|⟨g',cap',q,_,_,_,_,q2⟩
  . cases q
  . cases q;exact q2
 have hc4:w4.cell? ⟨gl,mr-1,none⟩=some (.int .i64 (y:Nat)):=by rw[hy,TQ.o.1];exact sQ _ ae
 have hc5:w4.cell? ⟨gl,p,none⟩=some (.int .i64 (x:Nat)):=by rw[hx];exact sQ _ TR
 have hfz:w4.frozen? ⟨gl,p,none⟩=false:=by
  rcases n1.2 with ⟨q,_⟩|⟨g',cap',cur,q,_,hgc,_⟩
  . cases q
  . cases q;simp[World.frozen?,hgc]
 have H4:=aP n3 TR;have hm1:(mr:Int)-1=((mr-1:Nat):Int):=ae
 have hrl:((R.set p y).take (R.length-1)).length=mr-1:=by simp;have:=TQ.o.1;omega
 have HRL:=aA hrl;clear GL Uw hg4 Z8 n1 n2 n3 hb3 hc3 hcell sQ hx hy TR hgl hrl
 go_upto_region 12 with fail
 go_wp2_with (at_builtin;rw[<-hW3];refine gW rfl (.tmp 39) (.tmp 44) 36 rfl _ _ rfl rfl _ _ TP.o ?_)
 go_roundg (mr-1)
 case measure=>have:=TQ.o.r2;omega
 case rel =>
  refine⟨_,_,HRL.o.symm,?_,H4.o.1⟩;rw[HRL.o]):P:=h
theorem Z7(w:World)(n:Nat)(h0:0<n)(hn:n<=300)(bo:Option Addr)(nb cb:Nat)(bs:List Int)(hnb:nb=bs.length)(hbs:TK w.heap.size w bo bs)(hbw:Z5 bs)(hnb2:nb<=9223372036854775807) :
 Calls Tryz.prog 14 #[.int .i64 (n:Nat),.slice bo nb cb] w λr w'=>∃v' p,r=.returned v'/\p.Perm (List.range n)/\eG w.heap.size w' v' p/\Below w.heap.size w w':=by
 obtain⟨L,hLr⟩:=ah (List.range n);have hl:L.length=n:=by rw[hLr,wy]
 have HA:=ic hnb hbs hbw (show L.length<=1000 by omega);have HL:=(aP hLr hl);clear hnb hbs hbw;rw[<-hLr];clear hLr hl;go_enter Tryz.func14,Tryz.ntmps14;go_wp2_with fail
 go_loopg [5,6] n (λgk lv iv wr=>∃k:Nat,gk+k=n/\iv=.int .i64 (k:Nat)/\Aside (eG w.heap.size wr lv (List.range k)/\Below w.heap.size w wr))
 case atStart=>exact⟨0,ae,rfl,eG.nil _ _,aD _ _⟩
 case round =>
  obtain⟨k,hk,rfl,HR⟩:=hrel;obtain⟨la,lm,lc,rfl⟩:=HR.o.1.slice
  by_cases hkn:k<n
  . obtain⟨W3,hW3⟩:=ah (wr.alloc (.cells #[.int .i64 (k:Nat)] 3));have hb3:Below wr.heap.size wr W3:=by subst hW3;exact af _ _
    have hc3:W3.cell? ⟨wr.heap.size,0,none⟩=some (.int .i64 (k:Nat)):=by subst hW3;unfold World.cell?;simp only[gY];rfl
    obtain⟨v4,w4,GL,Uw,hg4,Z8⟩:=pQ W3 w.heap.size _ (List.range k) k wr.heap.size (HR.o.1.below hb3) hc3 (by simp;omega) (dW HR.o.2.size hb3.size);have TP:=hid GL;have hbw:Below w.heap.size w W3:=HR.o.2.trans (hb3.mono HR.o.2.size);have H4:=aP Uw (hbw.grown hg4 hbw.size (λq hq=>(HR.o.1.lt hq).1));clear GL Uw hg4 Z8 hb3 hc3 hbw HR
    go_wp2_with (at_builtin;rw[<-hW3];refine gW rfl (.tmp 15) (.tmp 17) 36 rfl _ _ rfl rfl _ _ TP.o ?_)
    go_roundg (gk-1)
    case measure=>omega
    case rel=>exact⟨k+1,ae,by first | rfl | go_num,by rw[List.range_succ];exact H4.o.1,H4.o.2⟩
  . obtain rfl:k=n:=ae
    obtain rfl:gk=0:=ae
    have HR2:Aside (∃gl cap,Value.slice la lm lc=.slice (some ⟨gl,0,none⟩) L.length cap/\TM w L gl cap L [] (.slice none 0 0) wr):=by
     obtain⟨h1,h2⟩:=HR.o;rw[<-HL.o.1] at h1;have e:=HL.o.2;rcases h1.shape with ⟨_,q⟩|⟨gl,cap,q,_⟩
     . rw[q] at e;simp at e;omega
     . rw[q] at h1;exact⟨gl,cap,q,h1,eG.nil _ _,by simp[Value.ownBlock],aQ,h2,aQ⟩
    obtain⟨gl,cap,e,H0⟩:=HR2.o;have H0:=aA H0
    cases e
    obtain⟨cap,hcap⟩:=ah lc;subst hcap;obtain⟨n,hn⟩:=ah (L.length);have HN:=aA hn;clear hn HR HR2;go_wp2
    go_loopg [5,7] n (λgk lv ov wr=>∃R O:List Nat,gk=R.length/\lv=.slice (some ⟨gl,0,none⟩) R.length cap/\Aside (TM w L gl cap R O ov wr))
    case atStart=>exact⟨L,[],HN.o,rfl,H0⟩
    case round =>
     clear H0;obtain⟨R,O,Ex,rfl,HW⟩:=hrel;obtain⟨mr,hmr⟩:=ah (R.length);rw[<-hmr] at Ex |-;obtain⟨oo,mo,co,rfl⟩:=HW.o.o.slice;have hmo:=HW.o.o.len;have hlen:=HW.o.len;have hl2:=HA.o.r3;have hmr2:mr<=1000:=ae
     have hmo2:mo<=1000:=ae
     have hcp:mr<=cap:=by
      rcases HW.o.left.shape with ⟨q,_⟩|⟨g',cap',q,_,_,q1,_,_⟩
      . cases q
      . cases q;omega
     have TQ:=dC hmr hmo Ex;clear hmo hlen hl2 hmr Ex
     by_cases h0:0<mr
     . have key:∀(c:Int),-9223372036854775808<=c->c<=9223372036854775807->Hid (∀u,Calls Tryz.prog 12 #[.int .i64 c,.int .i64 (mr:Nat)] u λr w'=>∃p:Nat,r=.returned (.int .i64 (p:Nat))/\p<mr/\w'=u):=λc q1 q2=>hid (λu=>TL c mr u q1 q2 h0 ae)
       by_cases hb0:0<nb
       . obtain⟨q,hq⟩:=ah (mo%nb);have Zt:q<nb:=by rw[hq];exact lU _ hb0
         have hrem:((mo:Int)).tmod (nb:Int)=(q:Int):=by rw[hq];exact(Hq ae).trans (Int.natCast_emod _ _).symm
         obtain⟨b,off,rfl,hc⟩:=HA.o.2.1.at HW.o.aB q (by rw[<-HA.o.1];exact Zt);obtain⟨c,hcc⟩:=ah (bs.getD q 0);have hcw:=HA.o.r2.1 q;rw[<-hcc] at hc hcw;have HP:=key c hcw.1 hcw.2;clear key hcc hcw hq;go_wp2_with fail
         with_reducible refine(HP.o _).mono ?_
         rintro r w2 ⟨p,rfl,hp,rfl⟩;have TR:p<R.length:=by have:=TQ.o.1;omega
         obtain⟨x,hx⟩:=ah (R.getD p 0);exact Qbx
       . have HP:=key (mo:Int) ae ae;clear key;go_wp2_with fail
         with_reducible refine(HP.o _).mono ?_
         rintro r w2 ⟨p,rfl,hp,rfl⟩;have TR:p<R.length:=by have:=TQ.o.1;omega
         obtain⟨x,hx⟩:=ah (R.getD p 0);exact Qbx
     . obtain rfl:mr=0:=ae
       have H1:Aside (O.Perm L/\eG w.heap.size wr (.slice oo mo co) O/\Below w.heap.size w wr):=by
        have q:=HW.o.perm;have q0:R=[]:=l7 TQ.o.1.symm;rw[q0,Cz] at q;exact⟨q,HW.o.o,HW.o.aB⟩
       clear HW;go_wp2;go_ret;exact⟨_,O,rfl,H1.o⟩
end
theorem Ld(w:World)(n:Nat)(hn:n<=300)(bo:Option Addr)(nb cb:Nat)(bs:List Int)(hnb:nb=bs.length)(hbs:TK w.heap.size w bo bs)(hbw:Z5 bs)(hnb2:nb<=9223372036854775807) :
 Calls Tryz.prog 14 #[.int .i64 (n:Nat),.slice bo nb cb] w λr w'=>∃v' p,r=.returned v'/\p.Perm (List.range n)/\eG w.heap.size w' v' p/\Below w.heap.size w w':=by
 rcases jZ n with rfl|h0
 . exact(Z6 w bo nb cb).mono λr w' h=>⟨_,[],h.1,List.Perm.refl _,eG.nil _ _,by rw[h.2];exact aD _ _⟩
 . exact Z7 w n h0 hn bo nb cb bs hnb hbs hbw hnb2
theorem JO(f:Nat->Int):∀n,tS f n=((List.range n).map f).sum
 | 0=>rfl
 | n+1=>by rw[gJ,JO f n,List.range_succ,yg,List.sum_append];simp
theorem JP{A B:List Int}(h:A.Perm B):A.sum=B.sum:=by
 induction h with
 | nil=>rfl
 | cons x _ ih=>simp[ih]
 | swap x y l=>simp;omega
 | trans _ _ a b=>exact a.trans b
theorem GM(p:List Nat)(F:Nat->Int):(List.range p.length).map (λi=>F (p.getD i 0))=p.map F:=by
 refine List.ext_getElem aQ (λi h1 h2=>?_);have:i<p.length:=by simpa using h2
 simp[fF,gD this]
theorem Lg{p:List Nat}{n:Nat}(hp:p.Perm (List.range n))(F:Nat->Int):tS (λi=>F (p.getD i 0)) n=tS F n:=by
 have hl:p.length=n:=by rw[hp.length_eq,wy]
 subst hl;rw[JO,JO,GM];exact JP (hp.map F)
def JQ(p:List Nat)(s:Int)(xs ys:List Nat):Prop:=ys.length=xs.length/\∀i,i<xs.length->fX ys i=s*fX xs (p.getD i 0)
theorem Yx{p xs xs':List Nat}{s:Int}(hp:p.Perm (List.range xs.length))(h:JQ p s xs xs'):sX xs'=s*sX xs:=by
 unfold sX;rw[h.1,kg h.2,qL,Lg hp]
theorem rU{p xs ys xs' ys':List Nat}{s t:Int}(hp:p.Perm (List.range xs.length))(he:ys.length=xs.length)(h1:JQ p s xs xs')(h2:JQ p t ys ys'):cS xs' ys'=s*t*cS xs ys:=by
 unfold cS;rw[Yx hp h1,Yx (by rw[he];exact hp) h2,h1.1]
 have e:tS (λi=>fX xs' i*fX ys' i) xs.length=s*t*tS (λi=>fX xs i*fX ys i) xs.length:=by
  rw[<-qL,<-Lg hp (λi=>s*t*(fX xs i*fX ys i))]
  exact kg λi hi=>by
   rw[h1.2 i hi,h2.2 i ae]
   grind
 rw[e]
 grind
theorem Lh{xs ys:List Nat}(he:ys.length=xs.length):cS xs ys=cS ys xs:=by
 unfold cS;rw[he,kg (f:=λi=>fX xs i*fX ys i) (g:=λi=>fX ys i*fX xs i) (λi _=>yC _ _),yC (sX xs)]
theorem XB{xs ys:List Nat}{c:Int}{G H:Nat->Int}(he:ys.length=xs.length)(h1:∀i,i<xs.length->fX xs i=c*G i)(h2:∀i,i<xs.length->fX ys i=c*H i) :
 cS xs ys=c*c*((xs.length:Int)*tS (λi=>G i*H i) xs.length-tS G xs.length*tS H xs.length):=by
 unfold cS sX;rw[he,kg h1,kg h2,qL,qL]
 rw[kg (f:=λi=>fX xs i*fX ys i) (g:=λi=>c*c*(G i*H i)) (λi hi=>by
  rw[h1 i hi,h2 i hi]
  grind),qL]
 grind
theorem Aa(c:Int):∀n:Nat,tS (λ_=>c) n=(n:Int)*c
 | 0=>by simp[tS]
 | n+1=>by rw[gJ,Aa c n];grind
theorem j8{P:Prop}(h:P:=by
 induction n with
 | zero=>simp[tS]
 | succ n ih=>simp only[gJ];rw[ih];grind):P:=h
theorem Ab(xs:List Nat):zX xs 2=(xs.length:Int)*cS xs xs:=by
 have key:∀(N S:Int) (f:Nat->Int) (n:Nat),tS (λi=>(N*f i-S)^2) n=N*N*tS (λi=>f i*f i) n-2*N*S*tS f n+(n:Int)*(S*S):=by
  intro N S f n
  exact j8
 unfold zX cS;rw[key];have:sX xs=tS (fX xs) xs.length:=rfl;rw[<-this]
 grind
theorem TS(xs:List Nat):zX xs 1=0:=by
 have key:∀(N S:Int) (f:Nat->Int) (n:Nat),tS (λi=>(N*f i-S)^1) n=N*tS f n-(n:Int)*S:=by
  intro N S f n
  exact j8
 unfold zX;rw[key];have:sX xs=tS (fX xs) xs.length:=rfl;rw[<-this]
 grind
theorem JS(f:Nat->Int):∀n:Nat,tS (λi=>f i^2) n=0->∀i,i<n->f i=0:=by
 have nn:∀n:Nat,0<=tS (λi=>f i^2) n:=by
  intro n
  induction n with
  | zero=>simp[tS]
  | succ n ih=>rw[gJ];have:=wR (f n);have e:f n^2=f n*f n:=by grind
               omega
 intro n
 induction n with
 | zero=>intro _ i hi;omega
 | succ n ih =>
   intro h i hi;rw[gJ] at h;have h1:=nn n;have h2:=wR (f n);have e:f n^2=f n*f n:=by grind
   have h3:f n*f n=0:=ae
   by_cases q:i=n
   . subst q;rcases yD.1 h3 with q|q <;> exact q
   . exact ih ae i ae
theorem Ee(xs:List Nat)(h0:0<xs.length):cS xs xs=0↔∀i,i<xs.length->fX xs i=fX xs 0:=by
 constructor
 . intro h;have h2:=Ab xs;rw[h,Int.mul_zero] at h2;have h3:=JS _ _ h2;intro i hi;have a:=h3 i hi;have b:=h3 0 h0;have e:(xs.length:Int)*fX xs i=(xs.length:Int)*fX xs 0:=ae
   exact Int.eq_of_mul_eq_mul_left ae e
 . intro h
   have e1:sX xs=(xs.length:Int)*fX xs 0:=by
    unfold sX;rw[kg h,Aa]
   have h2:zX xs 2=0:=by
    unfold zX;rw[kg (g:=λ_=>0) (λi hi=>by rw[h i hi,e1];simp),Aa];simp
   rw[Ab] at h2;rcases yD.1 h2 with q|q
   . omega
   . exact q
theorem O6{xs ys:List Nat}(he:ys.length=xs.length)(hy:0<cS ys ys):cS xs ys*cS xs ys<=cS xs xs*cS ys ys:=by
 have lin:∀(x y:Int) (f g:Nat->Int) (n:Nat),(n:Int)*tS (λi=>(x*f i+y*g i)*(x*f i+y*g i)) n-tS (λi=>x*f i+y*g i) n*tS (λi=>x*f i+y*g i) n =
  x*x*((n:Int)*tS (λi=>f i*f i) n-tS f n*tS f n)+2*(x*y)*((n:Int)*tS (λi=>f i*g i) n-tS f n*tS g n)+y*y*((n:Int)*tS (λi=>g i*g i) n-tS g n*tS g n):=by
  intro x y f g n
  have e1:tS (λi=>(x*f i+y*g i)*(x*f i+y*g i)) n=x*x*tS (λi=>f i*f i) n+2*(x*y)*tS (λi=>f i*g i) n+y*y*tS (λi=>g i*g i) n:=by
   exact j8
  have e2:tS (λi=>x*f i+y*g i) n=x*tS f n+y*tS g n:=by rw[Si,qL,qL]
  rw[e1,e2]
  grind
 have nn:=TE (λi=>cS ys ys*fX xs i+(-cS xs ys)*fX ys i) xs.length;rw[lin] at nn;have eA:(xs.length:Int)*tS (λi=>fX xs i*fX xs i) xs.length-tS (fX xs) xs.length*tS (fX xs) xs.length=cS xs xs:=rfl;have eC:(xs.length:Int)*tS (λi=>fX xs i*fX ys i) xs.length-tS (fX xs) xs.length*tS (fX ys) xs.length=cS xs ys:=by unfold cS sX;rw[he]
 have eB:(xs.length:Int)*tS (λi=>fX ys i*fX ys i) xs.length-tS (fX ys) xs.length*tS (fX ys) xs.length=cS ys ys:=by unfold cS sX;rw[he]
 rw[eA,eB,eC] at nn;generalize cS xs xs=A at *;generalize cS ys ys=B at *;generalize cS xs ys=C at *;have e:B*B*A+2*(B*-C)*C+-C*-C*B=B*(A*B-C*C):=by grind
 rw[e] at nn;rcases Int.lt_or_le (A*B-C*C) 0 with q|q
 . have:=Int.mul_neg_of_pos_of_neg hy q;omega
 . omega
local notation "TOP" => 9218868437227405312
theorem oJ{c V:Int}(hc:0<c):(c*V).natAbs=c.natAbs*V.natAbs/\(c*V<0↔V<0):=by
 refine⟨yj _ _,?_,λh=>Int.mul_neg_of_pos_of_neg hc h⟩;intro h;rcases Int.lt_or_le V 0 with q|q
 . exact q
 . have:=uL (yu hc) q;omega
theorem XC{u v k:Nat}{V D c:Int}(hu:u<=100000)(hv:v<=100000)(hk:k<=90000)(hc:0<c)(hD:0<D)(bV:Bd k V)(bD:Bd k D)(bV':Bd k (c*V))(bD':Bd k (c*D))(mode:Int)(m0:0<=mode)(m4:mode<=4) :
 jk (gV u (c*V)) (gV v (c*D)) mode=jk (gV u V) (gV v D) mode:=by
 have hcD:0<c*D:=tu hc hD
 by_cases h0:V=0
 . subst h0;rw[Int.mul_zero,xZ hv hk hD bD mode m0 m4,xZ hv hk hcD bD' mode m0 m4]
 . have h1:c*V≠0:=λq=>by rcases yD.1 q with q | q <;> omega
   obtain⟨K,t,m,hL,hR⟩:=GI hu hv hk h0 hD bV bD;obtain⟨K',t',m',hL',hR'⟩:=GI hu hv hk h1 hcD bV' bD';have L1:=hL 1074 rfl;have L2:=hL' 1074 rfl;rw[(oJ hc).1,(oJ hc).1] at L2;generalize 2^(1074+v)=p at L1 L2;generalize hq:2^u=q at L1 L2;have hqp:0<q:=by rw[<-hq];exact aZ _
   have L3:=L1.uD (V':=c.natAbs*V.natAbs*p) (S':=c.natAbs*D.natAbs*q) (iq (iq ae ae) hqp) (by grind);rw[hR mode m0 m4,hR' mode m0 m4,kK (L2.sP aj L3)];have e:=(oJ (V:=V) hc).2
   by_cases q:V<0
   . rw[decide_eq_true q,decide_eq_true (e.2 q),if_pos q,if_pos (e.2 q)]
   . rw[decide_eq_false q,decide_eq_false (λx=>q (e.1 x)),if_neg q,if_neg (λx=>q (e.1 x))]
theorem Li{u k:Nat}{V D c:Int}(hu:u<=100000)(hk:k<=90000)(hc:0<c)(hV:0<=V)(hD:0<D)(bV:Bd k V)(bD:Bd k D)(bV':Bd k (c*V))(bD':Bd k (c*D))(mode:Int)(m0:0<=mode)(m4:mode<=4) :
 jI (gV u (c*V)) (gV u (c*D)) mode=jI (gV u V) (gV u D) mode:=by
 obtain⟨K,t,m,hL,hR⟩:=GA hu hk hV hD bV bD;obtain⟨K',t',m',hL',hR'⟩:=GA hu hk (uL (yu hc) hV) (tu hc hD) bV' bD';rw[(oJ hc).1,(oJ hc).1] at hL';generalize (2:Nat)^2148=p at hL hL';have L3:=hL.uD (V':=c.natAbs*V.natAbs*p) (S':=c.natAbs*D.natAbs) (iq ae ae) (by grind);rw[hR mode m0 m4,hR' mode m0 m4,kK (hL'.sP aj L3)]
theorem Yy(K a:Nat)(h:4503599627370496<=K):vK (K+a*4503599627370496)=2^a*vK K/\vK (K+1+a*4503599627370496)=2^a*vK (K+1):=by
 obtain⟨q,r,hr,hK⟩:∃q r,r<4503599627370496/\K=q*4503599627370496+(4503599627370496+r):=⟨K/4503599627370496-1,K%4503599627370496,lU _ aj,ae⟩;have e1:K+a*4503599627370496=(q+a)*4503599627370496+(4503599627370496+r):=by rw[hK,fI];omega
 have e2:K+1+a*4503599627370496=(q+a)*4503599627370496+(4503599627370496+r+1):=by rw[hK,fI];omega
 have e3:K+1=q*4503599627370496+(4503599627370496+r+1):=ae
 rw[e1,e2,e3,hK,gm _ _ (.inr ae) ae,gm _ _ (.inr ae) ae,gm _ _ (.inr ae) ae,gm _ _ (.inr ae) ae,aJ]
 constructor <;> grind
theorem gN.up14{n K K' j:Nat}{t:Bool}{m:Int}{V S:Nat}(h:gN vK TOP n K t m V S)(e0:vK K'=2^j*vK K)(e1:vK (K'+1)=2^j*vK (K+1))(hK:K'<TOP)(hn:K+1≠TOP):gN vK TOP n K' t m ((2^j)^n*V) S:=by
 obtain⟨h1,h2,h3,h4,h5,h6⟩:=h;have hp:0<(2^j)^n:=pW (aZ j);have m1:∀x,(2^j*x)^n*S=(2^j)^n*(x^n*S):=λx=>by rw[rJ,aM]
 have m2:2^n*((2^j)^n*V)=(2^j)^n*(2^n*V):=by rw[<-aM,<-aM,cu (2^n)]
 refine⟨hK,h2,λa=>by rw[e0,m1,h3 a],λa=>by rw[e0,m1];exact rG (h4 a) hp,λa b=>?_,λa=>?_⟩
 . rw[e1,m1] at b;have b':=(Nat.mul_lt_mul_left hp).1 b;rw[e0,e1,<-kz,m1,m2];rcases h5 a b' with ⟨q,r⟩|⟨q,r⟩|⟨q,r⟩
   . exact .inl ⟨q,rG r hp⟩
   . exact .inr (.inl ⟨q,by rw[r]⟩)
   . exact .inr (.inr ⟨q,rG r hp⟩)
 . rcases h6 a with q | q
   . exact .inl (by rw[e1,m1];exact rG q hp)
   . exact absurd q.1 hn
theorem Lj{K L:Nat}(h:K<=L):vK K<=vK L:=by
 rcases Nat.lt_or_eq_of_le h with q|rfl
 . exact jm (qE.2 q)
 . exact aC _
theorem gN.mid14{n K:Nat}{t:Bool}{m:Int}{V S:Nat}(hn:n≠0)(h:gN vK TOP n K t m V S)(lo:(2^53)^n*S<=V)(hi:∀j,j=2094->V<(2^j)^n*S):4503599627370496<=K/\K<9200854038717923328:=by
 have hS:=h.pos;constructor
 . rcases jK K 4503599627370496 with q | q
   . exfalso
     have v1:vK (K+1)<=2^52:=by
      have:=Lj (K:=K+1) (L:=4503599627370496) ae;have e:vK 4503599627370496=2^52:=by have:=gm 0 4503599627370496 (.inl rfl) aj;simpa using this
      omega
     have v2:V<=vK (K+1)^n*S:=by
      cases t with
      | true=>rw[h.one rfl];exact eZ S (yl (Lj (Nat.le_succ K)) n)
      | false=>rcases h.high rfl with w | w;exact jm w;omega
     have:=eZ S (yl v1 n);have:(2^52)^n*S<(2^53)^n*S:=(mK hS).2 (Nat.pow_lt_pow_left aj hn);omega
   . exact q
 . rcases jK K 9200854038717923328 with q | q
   . exact q
   . exfalso;obtain⟨j,hj⟩:∃j,j=2094:=⟨_,rfl⟩
     have v1:2^j<=vK K:=by
      have e:vK 9200854038717923328=4503599627370496*2^(j-52):=by rw[<-gm (j-52) 4503599627370496 (.inr (aC _)) aj,hj]
      have e2:(2:Nat)^j=4503599627370496*2^(j-52):=by rw[show(4503599627370496:Nat)=2^52 by decide,<-aJ];congr 1;omega
      rw[e2,<-e];exact Lj q
     have h2:=(zM h).1;have h3:=eZ S (yl v1 n);have h4:=hi j hj;omega
end
section
open Go Go.RowKit J
local notation "TOP" => 9218868437227405312
theorem XE(mode:Int)(n:Bool)(K a:Nat)(t:Bool)(m:Int):rK mode n (K+a*4503599627370496) t m=rK mode n K t m+a*4503599627370496:=by
 unfold rK;rw[show K+a*4503599627370496=a*4503599627370496+K by omega,Fy]
 exact Qat
theorem Ll(mode:Int)(n:Bool)(K:Nat)(t:Bool)(m:Int):K<=rK mode n K t m/\rK mode n K t m<=K+1:=by
 unfold rK
 exact Qat
theorem GN{A B a b c d:Nat}(h1:A<=2^a)(h2:2^b<=B)(h:a+c<=b+d):A*2^c<=B*2^d:=by
 have e1:A*2^c<=2^a*2^c:=eZ _ h1;have e2:2^b*2^d<=B*2^d:=eZ _ h2;rw[<-aJ] at e1 e2;exact dW e1 (dW (fe aj h) e2)
theorem Lm {n K K2:Nat}{t t2:Bool}{m m2:Int}{V D v p u:Nat}(hn:n=1\/n=2) (L:gN vK TOP n K t m (V*2^v) (D*2^u)) (L2:gN vK TOP n K2 t2 m2 (4*V*2^v) (D*2^u))
 (lo:∀j,j=1646->2^j<=V) (hi:∀j,j=3000->V<=2^j) (hD:0<D) (hD2:D<=2^18) (hu:u=2148) (hv:v=1074*n) (mode:Int) :
 4503599627370496<=rK mode false K t m/\rK mode false K t m<=9200854038717923328/\rK mode false K2 t2 m2=rK mode false K t m+(3-n)*4503599627370496:=by
 obtain⟨j,hj⟩:∃j,j=1646:=⟨_,rfl⟩;obtain⟨k,hk⟩:∃k,k=3000:=⟨_,rfl⟩;obtain⟨b,hb⟩:∃b,b=2094:=⟨_,rfl⟩;have lo':=lo j hj;have hi':=hi k hk;have hD1:2^0<=D:=hD
 have M:=L.mid14 ae (by
  have h1:(2^53)^n*D<=2^(53*n+18):=by
   rw[aJ,<-kD];exact iw _ hD2
  rw[<-aM]
  exact GN h1 lo' (by rcases hn with rfl | rfl <;> omega)) (λb hb=>by
  have h1:2^(b*n)<=(2^b)^n*D:=by
   rw[<-kD];exact Nat.le_mul_of_pos_right _ hD
  rw[<-aM];refine iQ ?_ (GN (A:=2^k*2) (a:=k+1) (c:=v) (by rw[fC];exact aC _) h1 (by rcases hn with rfl | rfl <;> omega))
  exact(mK (aZ v)).2 (by have:=aZ k;omega))
 have B:=Ll mode false K t m;obtain⟨e0,e1⟩:=Yy K (3-n) M.1;have L3:=L.up14 (K':=K+(3-n)*4503599627370496) e0 (by rw[<-e1];congr 1;omega) (by rcases hn with rfl | rfl <;> omega) ae;have e4:(2^(3-n))^n=4:=by rcases hn with rfl | rfl <;> rfl
 rw[e4,<-aM] at L3;refine⟨ae,ae,?_⟩;rw[kK (L2.sP ae L3),XE]
theorem Qa5{P:Prop}(h:P:=by
 have:=Bd.mul (a:=2) (b:=k) (V:=4) (W:=V) (by unfold Bd;decide) bK;exact this.mono ae):P:=h
theorem XF{V D:Int}{u:Nat}(hV:0<V)(hD:0<D)(hu:u=2148)(lo:∀j,j=1646->2^j<=V.natAbs)(hi:∀j,j=3000->V.natAbs<=2^j)(bD:Bd 18 D)(mode:Int)(m0:0<=mode)(m4:mode<=4) :
 ∃z:Nat,4503599627370496<=z/\z<=9200854038717923328/\jk (gV u V) (gV 0 D) mode=(z,0)/\jk (gV u (4*V)) (gV 0 D) mode=(z+9007199254740992,0):=by
 obtain⟨k,hk⟩:∃k,k=3000:=⟨_,rfl⟩;have bK:Bd k V:=by unfold Bd;exact hi k hk
 have bV:Bd 4000 V:=bK.mono ae
 have bV4:Bd 4000 (4*V):=by
  exact Qa5
 obtain⟨K,t,m,hL,hR⟩:=GI (u:=u) (v:=0) (k:=4000) ae ae ae ae hD bV (bD.mono ae);obtain⟨K2,t2,m2,hL2,hR2⟩:=GI (u:=u) (v:=0) (k:=4000) (V:=4*V) ae ae ae ae hD bV4 (bD.mono ae);obtain⟨j,hj⟩:∃j,j=1074:=⟨_,rfl⟩;have L1:=hL j hj;have L2:=hL2 j hj;rw[show(4*V).natAbs=4*V.natAbs by omega] at L2;have R:=Lm (p:=0) (.inl rfl) L1 L2 lo hi ae (by unfold Bd at bD;exact bD) hu ae mode;refine⟨_,R.1,R.2.1,?_,?_⟩
 . rw[hR mode m0 m4,decide_eq_false ae,if_neg ae];rfl
 . rw[hR2 mode m0 m4,decide_eq_false ae,if_neg ae,R.2.2]
theorem XG{V D:Int}{u:Nat}(hV:0<V)(hD:0<D)(hu:u=2148)(lo:∀j,j=1646->2^j<=V.natAbs)(hi:∀j,j=3000->V.natAbs<=2^j)(bD:Bd 18 D)(mode:Int)(m0:0<=mode)(m4:mode<=4) :
 ∃z:Nat,4503599627370496<=z/\z<=9200854038717923328/\jI (gV u V) (gV 0 D) mode=(z,0)/\jI (gV u (4*V)) (gV 0 D) mode=(z+4503599627370496,0):=by
 obtain⟨k,hk⟩:∃k,k=3000:=⟨_,rfl⟩;have bK:Bd k V:=by unfold Bd;exact hi k hk
 have bV:Bd 4000 V:=bK.mono ae
 have bV4:Bd 4000 (4*V):=by
  exact Qa5
 obtain⟨K,t,m,hL,hR⟩:=JJ (u:=u) (v:=0) (k:=4000) ae ae ae hV hD bV (bD.mono ae);obtain⟨K2,t2,m2,hL2,hR2⟩:=JJ (u:=u) (v:=0) (k:=4000) (V:=4*V) ae ae ae ae hD bV4 (bD.mono ae);obtain⟨j,hj⟩:∃j,j=2148:=⟨_,rfl⟩;have L1:=hL j hj;have L2:=hL2 j hj;rw[show(4*V).natAbs=4*V.natAbs by omega] at L2;have R:=Lm (p:=0) (.inr rfl) L1 L2 lo hi ae (by unfold Bd at bD;exact bD) hu ae mode;refine⟨_,R.1,R.2.1,?_,?_⟩
 . rw[hR mode m0 m4]
 . rw[hR2 mode m0 m4,R.2.2]
theorem vR{s t:Bool}{K L R:Nat}(hK:K<TOP)(hL:L<TOP)(hR:R<TOP)(e:∀j,j=1074->vK K*vK L=vK R*2^j):sS .mul (dI s K) (dI t L)=dI (s != t) R:=by
 obtain⟨j,hj⟩:∃j,j=1074:=⟨_,rfl⟩;obtain⟨Q,hQ,hA⟩:=Rm j hj s t K L hK hL;have hQR:Q=R:=hQ.one (Ut.own (aZ _) (e j hj)) (aZ _);subst hQR;show(Ieee.double.mul (dI s K) (dI t L)).getD jh=_;rw[hA];show dI (s != t) (min Q TOP)=_;rw[iO (jm hR)]
theorem uE(a:Nat):∀j,j=1074->vK (4607182418800017408+a*4503599627370496)=2^(j+a):=by
 intro j hj;have e:=gm (1022+a) 4503599627370496 (.inr (aC _)) aj;have e1:4607182418800017408+a*4503599627370496=(1022+a)*4503599627370496+4503599627370496:=ae
 have e2:(4503599627370496:Nat)=2^52:=aj
 have e3:4503599627370496*2^(1022+a)=2^(52+(1022+a)):=by rw[aJ 2 52,<-e2]
 have e4:52+(1022+a)=j+a:=ae
 exact(congrArg vK e1).trans (e.trans (e3.trans (congrArg _ e4)))
theorem GQ{x:Nat}(hx:x<18446744073709551616)(fx:dR x):sS .mul x 4607182418800017408=x:=by
 have:=vR (s:=aV x) (t:=false) (K:=aK x) (L:=4607182418800017408) (R:=aK x) fx aj fx (λj hj=>by have:=uE 0 j hj;rw[dL,fT,fT] at this;rw[this]);rw[<-qd x hx,Bool.bne_false,<-qd x hx] at this;have e:dI false 4607182418800017408=4607182418800017408:=aj
 rw[e] at this;exact this
theorem Ef{x:Nat}(hx:x<18446744073709551616)(fx:dR x):sS .mul x 13830554455654793216=dI (!aV x) (aK x):=by
 have:=vR (s:=aV x) (t:=true) (K:=aK x) (L:=4607182418800017408) (R:=aK x) fx aj fx (λj hj=>by have:=uE 0 j hj;rw[dL,fT,fT] at this;rw[this]);rw[<-qd x hx,Bool.bne_true] at this;have e:dI true 4607182418800017408=13830554455654793216:=aj
 rw[e] at this;exact this
def Aq(a K:Nat):Nat:=if K=0 then 0 else K+a*4503599627370496
theorem TT{a K:Nat}(h:K=0\/4503599627370496<=K):vK (Aq a K)=2^a*vK K:=by
 unfold Aq
 by_cases h0:K=0
 . rw[if_pos h0,h0,xW,jY]
 . rw[if_neg h0];exact(Yy K a ae).1
theorem iM(K:Nat):dI false K=K:=by unfold dI;simp
theorem Ac{s:Bool}{K a:Nat}(h:K=0\/4503599627370496<=K)(ha:a<=2)(hK:K<=9200854038717923328):sS .mul (dI s K) (4607182418800017408+a*4503599627370496)=dI s (Aq a K):=by
 have h1:Aq a K<TOP:=by unfold Aq;split <;> omega
 have:=vR (s:=s) (t:=false) (K:=K) (L:=4607182418800017408+a*4503599627370496) (R:=Aq a K) ae ae h1 (λj hj=>by
  rw[uE a j hj,TT h,aJ,cu (2^a) (vK K),aM,cu (2^a) (2^j)])
 rw[Bool.bne_false] at this;rw[iM] at this;exact this
end
section
open Go Go.RowKit J
local notation "TOP" => 9218868437227405312
theorem TU:∀j,j=1074->vK 4607182418800017408=2^j:=by
 intro j hj;have:=uE 0 j hj;rw[dL,fT,fT] at this;exact this
theorem Lp{c q:Int}(bc:Bd 4229 c)(hq:0<q)(bq:Bd 8458 q)(h:c*c<=q)(mode:Int)(hm:pI mode=true) :
 ∃z:Nat,z<=4607182418800017408/\jI (gV 4296 (c*c)) (gV 4296 q) mode=(z,0)/\(c*c=q->z=4607182418800017408):=by
 have M:=uz hm;have b2:Bd 8458 (c*c):=(bc.mul bc).mono aj;obtain⟨K,t,m,L,hR⟩:=GA (u:=4296) (k:=8458) aj aj (wR c) hq b2 bq;obtain⟨j,hj⟩:∃j,j=1074:=⟨_,rfl⟩;have e2:∀i,i=2148->(2:Nat)^i=(2^j)^2:=λi hi=>by rw[<-kD];congr 1;omega
 rw[e2 2148 rfl] at L;have v1:=TU j hj;have hc2:(c*c).natAbs<=q.natAbs:=by have:=wR c;omega
 have hS:0<q.natAbs:=ae
 have hle:(c*c).natAbs*(2^j)^2<=vK 4607182418800017408^2*q.natAbs:=by
  rw[v1,cu ((2^j)^2)];exact eZ _ hc2
 have hK:K<=4607182418800017408/\(t=false->K<4607182418800017408):=by
  constructor
  . rcases jK 4607182418800017408 K with w | w
    . have a1:=(zM L).1;have a2:vK 4607182418800017408^2<vK K^2:=Nat.pow_lt_pow_left (qE.2 w) aj;have a3:=(mK hS).2 a2;omega
    . exact w
  . intro ht;rcases jK K 4607182418800017408 with w|w
    . exact w
    . have a1:=L.low ht;have a2:vK 4607182418800017408^2<=vK K^2:=yl (Lj w) 2;have a3:=eZ q.natAbs a2;omega
 refine⟨rK mode false K t m,?_,hR mode M.1 M.2,λe=>?_⟩
 . cases t with
   | true=>exact hK.1
   | false=>have:=(Ll mode false K false m).2;have:=hK.2 rfl;omega
 . have L2:gN vK TOP 2 4607182418800017408 true 0 ((c*c).natAbs*(2^j)^2) q.natAbs:=⟨aj,hS,λ_=>by rw[v1,e,cu],λh=>(by cases h),λh=>(by cases h),λh=>(by cases h)⟩;rw[kK (L.sP aj L2)];rfl
theorem vS{c q:Int}(bc:Bd 4229 c)(hq:0<q)(bq:Bd 8458 q)(h:c*c<=q)(mode:Int)(hm:pI mode=true) :
 ∃z:Nat,z<=4607182418800017408/\(c*c=q->z=4607182418800017408)/\PD c q mode=(if 0<=c then z else nH z,0):=by
 unfold PD
 by_cases h0:0<=c
 . obtain⟨z,h1,h2,h3⟩:=Lp bc hq bq h mode hm;exact⟨z,h1,h3,by rw[if_pos h0,if_pos h0,h2]⟩
 . obtain⟨z,h1,h2,h3⟩:=Lp bc hq bq h (JH mode) (JI hm);exact⟨z,h1,h3,by rw[if_neg h0,if_neg h0,h2,if_pos rfl]⟩
theorem O7{c q:Int}(bc:Bd 4229 c)(hq:0<q)(bq:Bd 8458 q)(mode:Int)(hm:pI mode=true):PD (2*c) (4*q) mode=PD c q mode:=by
 have M:=uz hm;have M2:=uz (JI hm);have b2:Bd 9000 (c*c):=(bc.mul bc).mono aj;have b3:Bd 9000 (4*(c*c)):=(Bd.mul (a:=2) (b:=8458) (V:=4) (by unfold Bd;decide) (bc.mul bc)).mono aj;have b4:Bd 9000 (4*q):=(Bd.mul (a:=2) (b:=8458) (V:=4) (by unfold Bd;decide) bq).mono aj;have e:2*c*(2*c)=4*(c*c):=by grind
 unfold PD;rw[e,Li (u:=4296) aj aj aj (wR c) hq b2 (bq.mono aj) b3 b4 mode M.1 M.2,Li (u:=4296) aj aj aj (wR c) hq b2 (bq.mono aj) b3 b4 (JH mode) M2.1 M2.2]
 by_cases h0:0<=c
 . rw[if_pos h0,if_pos ae]
 . rw[if_neg h0,if_neg ae]
end
section
open Go Go.RowKit J
local notation "TOP" => 9218868437227405312
def XH(x:Nat):Bool:=decide (aK x=0) || (decide (3710966092953288704<=aK x)&&decide (aK x<5507902344274116608))
theorem x8{x:Nat}:XH x=true↔aK x=0\/(3710966092953288704<=aK x/\aK x<5507902344274116608):=by unfold XH;simp
structure jl (xs:List Nat):Prop where
 w:mE xs
 u:∀x ∈ xs,XH x=true
 l:xs.length<=300
theorem Z9{x:Nat}(h:XH x=true):dR x:=by
 rcases x8.1 h with q|q
 . unfold dR;omega
 . unfold dR;omega
theorem aaa{x:Nat}(h:XH x=true):∀j,j=823->∃g:Int,q8 x=((2^j:Nat):Int)*g/\Bd 452 g:=by
 intro j hj;obtain⟨c,hc⟩:∃c,c=452:=⟨_,rfl⟩;rw[<-hc]
 have key:∃m:Nat,vK (aK x)=2^j*m/\m<=2^c:=by
  rcases x8.1 h with q|q
  . exact⟨0,by rw[q,xW,jY],nV _⟩
  . obtain⟨a,r,hr,ha,hK⟩:∃a r,r<4503599627370496/\a<=398/\aK x=(j+a)*4503599627370496+(4503599627370496+r):=⟨aK x/4503599627370496-824,aK x%4503599627370496,lU _ aj,ae,ae⟩;refine⟨(4503599627370496+r)*2^a,?_,?_⟩
    . rw[hK,gm _ _ (.inr ae) ae,aJ]
      grind
    . have h1:4503599627370496+r<=2^53:=ae
      have h3:=eZ (2^a) h1;rw[<-aJ] at h3;exact dW h3 (fe aj ae)
 obtain⟨m,h1,h2⟩:=key;unfold q8 B.sg;rw[h1]
 cases aV x with
 | false=>exact⟨(m:Int),aQ,by unfold Bd;simpa using h2⟩
 | true=>exact⟨-(m:Int),by rw[if_pos rfl,gM,Int.mul_neg],by unfold Bd;simpa using h2⟩
theorem jl.fin{xs:List Nat}(h:jl xs):∀x ∈ xs,dR x:=λx hx=>Z9 (h.u x hx)
theorem jl.unit{xs:List Nat}(h:jl xs):∀j,j=823->∃G:Nat->Int,(∀i,i<xs.length->fX xs i=((2^j:Nat):Int)*G i)/\∀i,i<xs.length->Bd 452 (G i):=by
 intro j hj
 have key:∀i,∃g:Int,i<xs.length->fX xs i=((2^j:Nat):Int)*g/\Bd 452 g:=λi=>by
  by_cases hi:i<xs.length
  . have hm:xs.getD i 0 ∈ xs:=by rw[fF,gD hi];exact nu hi
    obtain⟨g,h1,h2⟩:=aaa (h.u _ hm) j hj;exact⟨g,λ_=>⟨h1,h2⟩⟩
  . exact⟨0,λq=>absurd q hi⟩
 exact⟨λi=>(key i).choose,λi hi=>((key i).choose_spec hi).1,λi hi=>((key i).choose_spec hi).2⟩
theorem jl.spread{xs:List Nat}(h:jl xs):(cS xs xs≠0->∀j,j=1646->2^j<=(cS xs xs).natAbs)/\∀j,j=3000->(cS xs xs).natAbs<=2^j:=by
 obtain⟨i,hi⟩:∃i,i=823:=⟨_,rfl⟩;obtain⟨G,h1,h2⟩:=h.unit i hi;have e:=XB rfl h1 h1;have hl:=h.l;have b0:Bd 16 (xs.length:Int):=Bd.nat ae;have b1:∀k,k<=xs.length->Bd 468 (tS G k):=λk hk=>uk h2 ae k hk;have b2:Bd 920 (tS (λi=>G i*G i) xs.length):=uk (λi hi=>(h2 i hi).mul (h2 i hi)) ae _ (aC _);have b3:Bd 937 ((xs.length:Int)*tS (λi=>G i*G i) xs.length-tS G xs.length*tS G xs.length):=(b0.mul b2).sub ((b1 _ (aC _)).mul (b1 _ (aC _)));generalize (xs.length:Int)*tS (λi=>G i*G i) xs.length-tS G xs.length*tS G xs.length=W at *;have e2:(cS xs xs).natAbs=2^(i+i)*W.natAbs:=by rw[e,yj,yj,CK,aJ]
 obtain⟨k,hk⟩:∃k,k=937:=⟨_,rfl⟩;rw[<-hk] at b3;unfold Bd at b3;refine⟨λh0 j hj=>?_,λj hj=>?_⟩
 . have hW:1<=W.natAbs:=by
    rcases jZ W.natAbs with q|q
    . rw[q,jY] at e2;omega
    . exact q
   rw[e2,show j=i+i by omega];exact Nat.le_mul_of_pos_right _ hW
 . rw[e2];refine dW (iw _ b3) ?_;rw[<-aJ];exact fe aj ae
def bu(xs p:List Nat)(by':Nat):List Nat:=p.map λk=>sS .mul (xs.getD k 0) by'
theorem Lr{xs p:List Nat}{b i:Nat}(hi:i<p.length):(bu xs p b).getD i 0=sS .mul (xs.getD (p.getD i 0) 0) b:=by
 unfold bu;rw[fF,List.getElem?_map,fF (l:=p),gD hi];rfl
theorem TV{xs p:List Nat}{b:Nat}{s:Int}(hp:p.Perm (List.range xs.length))(h:∀x ∈ xs,dR (sS .mul x b)/\sS .mul x b<18446744073709551616/\q8 (sS .mul x b)=s*q8 x) :
 JQ p s xs (bu xs p b)/\mE (bu xs p b)/\(∀x ∈ bu xs p b,dR x)/\(bu xs p b).length=xs.length:=by
 have hl:p.length=xs.length:=by rw[hp.length_eq,wy]
 have hm:∀k ∈ p,xs.getD k 0 ∈ xs:=λk hk=>by
  have:k<xs.length:=ql.1 (hp.mem_iff.1 hk);rw[fF,gD this];exact nu this
 have hl2:(bu xs p b).length=xs.length:=by unfold bu;rw[ym,hl]
 refine⟨⟨hl2,λi hi=>?_⟩,λx hx=>?_,λx hx=>?_,hl2⟩
 . unfold fX;rw[Lr ae];refine(h _ (hm _ ?_)).2.2;rw[fF,gD ae];exact nu _
 . obtain⟨k,hk,rfl⟩:=yx.1 hx;exact(h _ (hm k hk)).2.1
 . obtain⟨k,hk,rfl⟩:=yx.1 hx;exact(h _ (hm k hk)).1
theorem TY(s:Bool)(K:Nat):B.sg (!s) K=-1*B.sg s K:=by unfold B.sg;cases s <;> simp
theorem jl.one{xs p:List Nat}(h:jl xs)(hp:p.Perm (List.range xs.length)):JQ p 1 xs (bu xs p 4607182418800017408)/\mE (bu xs p 4607182418800017408)/\(∀x ∈ bu xs p 4607182418800017408,dR x)/\(bu xs p 4607182418800017408).length=xs.length :=
 TV hp λx hx=>by
  rw[GQ (h.w x hx) (h.fin x hx)];exact⟨h.fin x hx,h.w x hx,ae⟩
theorem jl.less{xs p:List Nat}(h:jl xs)(hp:p.Perm (List.range xs.length)):JQ p (-1) xs (bu xs p 13830554455654793216)/\mE (bu xs p 13830554455654793216)/\(∀x ∈ bu xs p 13830554455654793216,dR x)/\(bu xs p 13830554455654793216).length=xs.length :=
 TV hp λx hx=>by
  have f:=h.fin x hx;rw[Ef (h.w x hx) f];have q:=X5 (!aV x) (aK x) f;refine⟨q.1,(Dz _ _ (by have:aK x<TOP:=f;omega)).2.2,?_⟩;rw[q.2,TY];rfl
theorem jl.two{xs p:List Nat}(h:jl xs)(hp:p.Perm (List.range xs.length)):JQ p 2 xs (bu xs p 4611686018427387904)/\mE (bu xs p 4611686018427387904)/\(∀x ∈ bu xs p 4611686018427387904,dR x)/\(bu xs p 4611686018427387904).length=xs.length :=
 TV hp λx hx=>by
  have hu:=x8.1 (h.u x hx);have e:=Ac (s:=aV x) (K:=aK x) (a:=1) ae aj ae;rw[<-qd x (h.w x hx),show 4607182418800017408+1*4503599627370496=4611686018427387904 from rfl] at e;have hK:Aq 1 (aK x)<TOP:=by unfold Aq;split <;> omega
  rw[e];have q:=X5 (aV x) (Aq 1 (aK x)) hK;refine⟨q.1,(Dz _ _ ae).2.2,?_⟩;rw[q.2,TT ae];unfold q8 B.sg
  cases aV x <;> simp <;> omega
end
section
open Go Go.RowKit J
local notation "ONE" => 4607182418800017408
local notation "LESS" => 13830554455654793216
local notation "TWO" => 4611686018427387904
theorem T9{x:Nat}(h:dR x):kd x<=2:=by
 have em:aK x=x%9223372036854775808:=rfl;unfold dR at h;unfold kd;rw[if_neg ae,if_neg ae]
 split
 . split <;> omega
 . omega
theorem Ua{xs:List Nat}(h:∀x ∈ xs,dR x):Ps.fin xs=xs:=by
 unfold Ps.fin;rw[List.filter_eq_self];intro x hx;exact decide_eq_true (T9 (h x hx))
theorem vT{xs:List Nat}(h:∀x ∈ xs,dR x)(k:Nat)(hk:2<k):Ps.cn k xs=0:=by
 unfold Ps.cn;rw[List.countP_eq_zero];intro x hx;have:=T9 (h x hx);simp;omega
theorem Ad(rd:Option (Bool×Nat×Int)->Option (Bool×Nat×Int)->Int->Nat×Int){xs:List Nat}(h:∀x ∈ xs,dR x)(hl:xs.length<=65536){less mode:Int}(hm:pI mode=true)(hs:lsB less=true) :
 kr rd xs less mode 0 0=if (xs.length:Int)<=less then(0,3) else rd (gV 2148 (cS xs xs)) (gV 0 ((xs.length:Int)*((xs.length:Int)-less))) mode:=by
 have e1:Ps.gG 0 0 xs=0:=by
  unfold Ps.gG;rw[if_neg aj,if_neg ae,vT h 5 aj,vT h 3 aj,vT h 4 aj];decide
 have e2:Pg 0 0 xs=false:=by
  unfold Pg;rw[vT h 5 aj,vT h 3 aj,vT h 4 aj];decide
 unfold kr;rw[hm,hs,wu,if_pos rfl,if_pos e1,e2,if_neg aj,Ua h]
theorem Eg{xs:List Nat}(h:∀x ∈ xs,dR x)(hl:xs.length<=65536):rR xs=0:=by
 unfold rR;rw[if_neg ae,if_pos ((ji _).2 h)]
theorem x9{xs ys:List Nat}(h:∀x ∈ xs,dR x)(h2:∀x ∈ ys,dR x)(hl:xs.length<=65536)(he:ys.length=xs.length):zY xs ys=0:=by
 unfold zY;rw[if_neg ae,if_neg ae,if_pos (Eg h hl),Eg h2 ae]
theorem XI{u v k:Nat}{D:Int}(hD:0<D)(bD:Bd 18 D)(mode:Int)(m0:0<=mode)(m4:mode<=4):jI (gV 2148 0) (gV 0 D) mode=(0,0):=by
 have e:gV 2148 0=gV 0 0:=by rw[nP,nP]
 rw[e];obtain⟨K,t,m,L,hR⟩:=GA (u:=0) (k:=18) (V:=0) aj aj aj hD (Bd.zero _) bD;generalize (2:Nat)^2148=pp at L;rw[show(0:Int).natAbs=0 from rfl,dL] at L;have L2:=Gn (n:=2) (S:=D.natAbs) vL aj ae;rw[hR mode m0 m4,kK (L.sP aj L2)];rfl
def jo(xs:List Nat):Prop:=∀i,i<xs.length->fX xs i=fX xs 0
structure Vs14 (xs:List Nat) (p:List Nat) (less mode:Int) (v s v0:Nat):Prop where
 a1:kr jk xs less mode 0 0=(v,0)
 a2:kr jI xs less mode 0 0=(s,0)
 a3:kr jk (bu xs p ONE) less mode 0 0=(v,0)
 a4:kr jI (bu xs p LESS) less mode 0 0=(s,0)
 a5:kr jk (bu xs p TWO) less mode 0 0=(Aq 2 v,0)
 a6:kr jI (bu xs p TWO) less mode 0 0=(Aq 1 s,0)
 a7:wT (xs.length:Nat) (uo (fu (gV 0 (xs.length:Nat)) (gV 2148 (tS (λi=>fX xs i*fX xs i) xs.length))) (fu (gV 1074 (sX xs)) (gV 1074 (sX xs)))) less mode=(v,0)
 a8:Pz xs xs less mode=(v,0)
 a9:Be xs 2 mode=(v0,0)
 b1:kr jk xs 0 mode 0 0=(v0,0)
 b2:Be xs 1 mode=(0,0)
 v1:v=0\/4503599627370496<=v
 v2:v<=9200854038717923328
 s1:s=0\/4503599627370496<=s
 s2:s<=9200854038717923328
 v3:v=0↔jo xs
 s3:s=0↔jo xs
theorem Ae{V D:Int}(hV:0<=V)(lo:V≠0->∀j,j=1646->2^j<=V.natAbs)(hi:∀j,j=3000->V.natAbs<=2^j)(hD:0<D)(bD:Bd 18 D)(mode:Int)(m0:0<=mode)(m4:mode<=4) :
 ∃v s:Nat,jk (gV 2148 V) (gV 0 D) mode=(v,0)/\jk (gV 2148 (4*V)) (gV 0 D) mode=(Aq 2 v,0)/\jI (gV 2148 V) (gV 0 D) mode=(s,0)/\jI (gV 2148 (4*V)) (gV 0 D) mode=(Aq 1 s,0) /\
   (v=0\/4503599627370496<=v)/\v<=9200854038717923328/\(s=0\/4503599627370496<=s)/\s<=9200854038717923328/\(v=0↔V=0)/\(s=0↔V=0):=by
 by_cases h0:V=0
 . subst h0;have q:=xZ (u:=2148) (v:=0) (k:=18) aj aj hD bD mode m0 m4;have s:=XI (u:=0) (v:=0) (k:=0) hD bD mode m0 m4;exact⟨0,0,q,q,s,s,.inl rfl,aj,.inl rfl,aj,aQ,aQ⟩
 . obtain⟨v,v1,v2,v3,v4⟩:=XF (u:=2148) ae hD rfl (lo h0) hi bD mode m0 m4;obtain⟨s,s1,s2,s3,s4⟩:=XG (u:=2148) ae hD rfl (lo h0) hi bD mode m0 m4;refine⟨v,s,v3,?_,s3,?_,.inr v1,v2,.inr s1,s2,⟨λh=>by omega,λh=>absurd h h0⟩,⟨λh=>by omega,λh=>absurd h h0⟩⟩
   . rw[v4];unfold Aq;rw[if_neg ae]
   . rw[s4];unfold Aq;rw[if_neg ae]
theorem vs14{xs p:List Nat}(h:jl xs)(hp:p.Perm (List.range xs.length)){less mode:Int}(hm:pI mode=true)(hs:lsB less=true)(hlt:less<xs.length):∃v s v0,Vs14 xs p less mode v s v0:=by
 have M:=uz hm;have hl:=h.l;have hls:0<=less/\less<=1:=by rcases Gp hs with rfl | rfl <;> decide
 have hn:0<xs.length:=ae
 obtain⟨N,hN⟩:∃N:Int,N=(xs.length:Int)*((xs.length:Int)-less):=⟨_,rfl⟩;have hNp:0<N:=by rw[hN];exact tu ae ae
 have bn:Bd 9 (xs.length:Int):=Bd.nat ae;have bN:Bd 18 N:=by rw[hN];exact Bd.mul (a:=9) (b:=9) bn (by unfold Bd;omega)
 have sp:=h.spread;have nn:=GH xs;obtain⟨v,s,q1,q2,q3,q4,v1,v2,s1,s2,v3,s3⟩:=Ae nn sp.1 sp.2 hNp bN mode M.1 M.2;have T1:=h.one hp;have T2:=h.less hp;have T3:=h.two hp;have c1:=rU hp rfl T1.1 T1.1;have c2:=rU hp rfl T2.1 T2.1;have c3:=rU hp rfl T3.1 T3.1;rw[show(1:Int)*1*cS xs xs=cS xs xs by omega] at c1;rw[show(-1:Int)*-1*cS xs xs=cS xs xs by omega] at c2;rw[show(2:Int)*2*cS xs xs=4*cS xs xs by omega] at c3;have fl:=Ee xs hn
 have key:∀rd ys,(∀x ∈ ys,dR x)->ys.length=xs.length->kr rd ys less mode 0 0=rd (gV 2148 (cS ys ys)) (gV 0 N) mode:=λrd ys hf he=>by
  rw[Ad rd hf ae hm hs,he,if_neg ae,hN]
 have b41:Bd 4229 (cS xs xs):=lD h.w h.fin h.w h.fin ae rfl;have fQ:rR xs=0:=Eg h.fin ae;have nE:xs≠[]:=λq=>by rw[q] at hn;simp at hn
 have b0:kr jk xs 0 mode 0 0=jk (gV 2148 (cS xs xs)) (gV 0 ((xs.length:Int)*(xs.length:Int))) mode:=by
  rw[Ad jk h.fin ae hm aj,if_neg ae,Int.sub_zero]
 have b9:Be xs 2 mode=jk (gV 2148 (cS xs xs)) (gV 0 ((xs.length:Int)*(xs.length:Int))) mode:=by
  unfold Be;rw[hm,if_pos aj,if_pos fQ,if_neg nE];have e:(2:Int).toNat=2:=rfl;rw[e,Ab,show((xs.length:Int))^(2+1)=(xs.length:Int)*((xs.length:Int)*(xs.length:Int)) by grind];have bs:Bd 5000 ((xs.length:Int)*cS xs xs):=(bn.mul b41).mono aj;have bd1:Bd 5000 ((xs.length:Int)*(xs.length:Int)):=(bn.mul bn).mono aj;have bd2:Bd 5000 ((xs.length:Int)*((xs.length:Int)*(xs.length:Int))):=(bn.mul (bn.mul bn)).mono aj;exact XC (u:=1074*2) (v:=0) (k:=5000) aj aj aj ae (tu ae ae) (b41.mono aj) bd1 bs bd2 mode M.1 M.2
 have b1:Be xs 1 mode=(0,0):=by
  unfold Be;rw[hm,if_pos aj,if_pos fQ,if_neg nE];have e:(1:Int).toNat=1:=rfl;rw[e,TS];have bd1:Bd 5000 ((xs.length:Int)^(1+1)):=(Bd.pow bn 2).mono aj;exact xZ aj aj (by rw[show((xs.length:Int))^(1+1)=(xs.length:Int)*(xs.length:Int) by grind];exact tu ae ae) bd1 mode M.1 M.2
 obtain⟨v0,_,e0,_⟩:=Ae nn sp.1 sp.2 (D:=(xs.length:Int)*(xs.length:Int)) (tu ae ae) (bn.mul bn) mode M.1 M.2;refine⟨v,s,v0,?_,?_,?_,?_,?_,?_,?_,?_,by rw[b9,e0],by rw[b0,e0],b1,v1,v2,s1,s2,v3.trans fl,s3.trans fl⟩
 . rw[key _ _ h.fin rfl,q1]
 . rw[key _ _ h.fin rfl,q3]
 . rw[key _ _ T1.2.2.1 T1.2.2.2,c1,q1]
 . rw[key _ _ T2.2.2.1 T2.2.2.2,c2,q3]
 . rw[key _ _ T3.2.2.1 T3.2.2.2,c3,q2]
 . rw[key _ _ T3.2.2.1 T3.2.2.2,c3,q4]
 . have bS:Bd 2114 (sX xs):=jf h.w h.fin ae _ (aC _);have bP:Bd 4212 (tS (λi=>fX xs i*fX xs i) xs.length):=uk (λi hi=>(iD h.w h.fin i hi).mul (iD h.w h.fin i hi)) ae _ (aC _);have b1':Bd 4228 ((xs.length:Int)*tS (λi=>fX xs i*fX xs i) xs.length):=(bn.mul bP).mono aj;have b2':Bd 4228 (sX xs*sX xs):=bS.mul bS;have F4:Fm (gV 2148 ((xs.length:Int)*tS (λi=>fX xs i*fX xs i) xs.length)):=dJ aj aj b1';have F5:Fm (gV 2148 (sX xs*sX xs)):=dJ aj aj b2'
   have e:uo (fu (gV 0 (xs.length:Nat)) (gV 2148 (tS (λi=>fX xs i*fX xs i) xs.length))) (fu (gV 1074 (sX xs)) (gV 1074 (sX xs)))=gV 2148 (cS xs xs):=by
    rw[mY aj aj aj aj bn bP,mY aj aj aj aj bS bS,eP];unfold uo;rw[F4.sm,F5.sm];exact Sg aj aj b1' b2'
   have F6:Fm (gV 2148 (cS xs xs)):=dJ aj aj b41;rw[e];unfold wT;rw[hm,hs,decide_eq_true (by omega:(1:Int)<=(xs.length:Nat)),decide_eq_true (by omega:((xs.length:Nat):Int)<=1099511627776),F6.sm];rw[if_pos (show(true&&true&&(true&&true))=true from rfl)]
   try rw[if_pos (show true=true from rfl)]
   rw[if_neg (show ¬ ((xs.length:Nat):Int)<=less by omega),<-hN,q1]
 . unfold Pz;rw[hm,hs,wu,if_pos rfl,if_pos (x9 h.fin h.fin ae rfl),if_neg ae,<-hN,q1]
end
end Go.Proofs.YtfmfhehbdfhnbaaGreatDoor
