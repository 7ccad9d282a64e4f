import Derived.Test.YteginbngplldaaaGreatDoorMO18x
import Derived.Test.YteginbngplldaaaGreatDoorD32cx
import Derived.Test.YteginbngplldaaaGreatDoorW17x
import Derived.Test.YteginbngplldaaaGreatDoorF2x
import Derived.Test.YteginbngplldaaaGreatDoorM1x
import Derived.BigQuiet
import Derived.Deep.RegionWith
import Derived.Test.YteginbngplldaaaGreatDoorZ47x
import Derived.Deep.LoopGhost
import Derived.Deep.RegionHeld3
import Derived.ProofKit
import Derived.OpenShut
import Derived.ChangeOld
import Derived.ChangeArms
import Derived.SizedLaws
import Derived.Laws.Cover2
import Derived.Test.YteginbngplldaaaGreatDoorZ22x
import Derived.Test.YteginbngplldaaaGreatDoorMO14x
set_option linter.unusedVariables false
set_option linter.unusedSimpArgs false
set_option maxHeartbeats 16000000
set_option maxRecDepth 20000
namespace Go.Proofs.YteginbngplldaaaGreatDoor
namespace J
end J
section
open Go Go.RowKit J
theorem UN {w:World}{as' ap:Option Addr}{cs cp:Nat}(n s q less mode:Int) (hs:0<=s/\s<=100) (hq:0<=q/\q<=100) (h1:Nt 0 w (.slice as' (ws (dX (gV 0 s))).length cs) (dX (gV 0 s))) (h2:Nt 0 w (.slice ap (ws (dX (gV 0 q))).length cp) (dX (gV 0 q))) (hT:dH w) (hn:-9223372036854775808<=n/\n<=9223372036854775807)
 (z:Nat×Int) (hz:zF n (xE (dY (gV 0 n) (gV 0 q)) (dY (gV 0 s) (gV 0 s))) less mode=z) :
 At 13 #[.int .i64 n,.agg #[.bool (dN (gV 0 s)),.slice as' (ws (dX (gV 0 s))).length cs,.int .i64 (dE (gV 0 s))],.agg #[.bool (dN (gV 0 q)),.slice ap (ws (dX (gV 0 q))).length cp,.int .i64 (dE (gV 0 q))],.int .i64 less,.int .i64 mode] w (.tuple #[.float .f64 z.1,.int .i64 z.2]):=by
 have F:∀ x:Int,0<=x/\x<=100->Fm (gV 0 x):=fun x hx=>by
  obtain⟨k,rfl⟩:=E5 hx.1;exact aZ (m:=7) (by decide) (by decide) (Bd.nat (by omega))
 have F1:=F s hs;have F2:=F q hq;refine Of14 n (dN (gV 0 s)) (dN (gV 0 q)) (dE (gV 0 s)) (dE (gV 0 q)) less mode (F1.a12 h1) (F2.a12 h2) hT hn ?_ ?_ z ?_
 · have:=F1.mV;omega
 · have:=F2.mV;omega
 · rw[aj,aj,F1.re,F2.re];exact hz
set_option maxRecDepth 100000 in
theorem UO(w:World)(hT:dH w):As 8 #[] w fun r w'=>r=.returned (.bool true)/\Below w.heap.size w w':=by
 have HT:=ak hT;have BD:=ak (aB w.heap.size w);clear hT;go_enter Tryz.func8,Tryz.ntmps8;obtain⟨W1,hW1⟩:=af ((w.alloc (Obj.cells #[.float .f64 4607182418800017408,.float .f64 4611686018427387904,.float .f64 4613937818241073152,.float .f64 4616189618054758400] 23)));obtain⟨g1,hg1⟩:=af (w.heap.size);have BE:=ak BD.o;have q0:Below w.heap.size w W1:=by rw[hW1];exact ae _ _
 have q1:Fs W1.heap.size W1 (some ⟨g1,0,none⟩) [4607182418800017408,4611686018427387904,4613937818241073152,4616189618054758400]:=by rw[hW1,hg1];exact uU w [4607182418800017408,4611686018427387904,4613937818241073152,4616189618054758400]
 have BD:=aJ (BD.o.trans (q0.mono BD.o.size)) q1;have HE:=(aJ hW1 hg1);clear hW1 hg1 q0 q1 BE;go_wp2_with fail;rw[<-HE.o.1,<-HE.o.2];clear HE;refine(sw W1).mono ?_;rintro r u2 ⟨rfl,hb⟩;have BD:=aJ (BD.o.1.trans (hb.mono BD.o.1.size)) ((BD.o.2.below hb).mono hb.size);clear hb;have C:Hid (At 10 #[.slice (some ⟨g1,0,none⟩) 4 4,.int .i64 0,.int .i64 0,.agg #[.int .i64 0,.int .i64 0]] u2 (.tuple #[.float .f64 4608308318706860032,.int .i64 0])):=hid (Js [4607182418800017408,4611686018427387904,4613937818241073152,4616189618054758400] _ 4 4 0 0 0 0 u2 rfl BD.o.2 (gH (by decide)) (HT.o.belows BD.o.1) (by decide) (4608308318706860032,0) (cVa.trans (by decide +kernel)));go_wp2_with fail;refine C.o.mono ?_;rintro r u3 ⟨rfl,hb⟩;have BD:=aJ (BD.o.1.trans (hb.mono BD.o.1.size)) ((BD.o.2.below hb).mono hb.size);clear hb C;go_wp2_with fail;refine(sw u3).mono ?_;rintro r u4 ⟨rfl,hb⟩;have BD:=aJ (BD.o.1.trans (hb.mono BD.o.1.size)) ((BD.o.2.below hb).mono hb.size);clear hb;have C:Hid (At 10 #[.slice (some ⟨g1,0,none⟩) 4 4,.int .i64 1,.int .i64 0,.agg #[.int .i64 0,.int .i64 0]] u4 (.tuple #[.float .f64 4610184818551597739,.int .i64 0])):=hid (Js [4607182418800017408,4611686018427387904,4613937818241073152,4616189618054758400] _ 4 4 1 0 0 0 u4 rfl BD.o.2 (gH (by decide)) (HT.o.belows BD.o.1) (by decide) (4610184818551597739,0) (cVb.trans (by decide +kernel)));go_wp2_with fail;refine C.o.mono ?_;rintro r u5 ⟨rfl,hb⟩;have BD:=aJ (BD.o.1.trans (hb.mono BD.o.1.size)) ((BD.o.2.below hb).mono hb.size);clear hb C;go_wp2_with fail;refine(sw u5).mono ?_;rintro r u6 ⟨rfl,hb⟩;have BD:=aJ (BD.o.1.trans (hb.mono BD.o.1.size)) ((BD.o.2.below hb).mono hb.size);clear hb;have C:Hid (At 19 #[.slice (some ⟨g1,0,none⟩) 4 4,.int .i64 1,.int .i64 0,.agg #[.int .i64 0,.int .i64 0]] u6 (.tuple #[.float .f64 4608492941290910865,.int .i64 0])):=hid (ZF [4607182418800017408,4611686018427387904,4613937818241073152,4616189618054758400] _ 4 4 1 0 0 0 u6 rfl BD.o.2 (gH (by decide)) (HT.o.belows BD.o.1) (by decide) (4608492941290910865,0) (cSc.trans (by decide +kernel)));go_wp2_with fail;refine C.o.mono ?_;rintro r u7 ⟨rfl,hb⟩;have BD:=aJ (BD.o.1.trans (hb.mono BD.o.1.size)) ((BD.o.2.below hb).mono hb.size);clear hb C;have BD:=ak BD.o.1;obtain⟨W8,hW8⟩:=af ((u7.alloc (Obj.cells #[.float .f64 4607182418800017408,.float .f64 4611686018427387904,.float .f64 4618441417868443648] 23)));obtain⟨g8,hg8⟩:=af (u7.heap.size);have BE:=ak BD.o;have q0:Below u7.heap.size u7 W8:=by rw[hW8];exact ae _ _
 have q1:Fs W8.heap.size W8 (some ⟨g8,0,none⟩) [4607182418800017408,4611686018427387904,4618441417868443648]:=by rw[hW8,hg8];exact uU u7 [4607182418800017408,4611686018427387904,4618441417868443648]
 have BD:=aJ (BD.o.trans (q0.mono BD.o.size)) q1;have HE:=(aJ hW8 hg8);clear hW8 hg8 q0 q1 BE;have C:Hid (At 15 #[.slice (some ⟨g8,0,none⟩) 3 3,.int .i64 3,.int .i64 0] W8 (.tuple #[.float .f64 4618441417868443648,.int .i64 0])):=hid (zB [4607182418800017408,4611686018427387904,4618441417868443648] _ 3 3 3 0 W8 rfl BD.o.2 (gH (by decide)) (HT.o.belows BD.o.1) (by decide) (4618441417868443648,0) (cCen.trans (by decide +kernel)));go_wp2_with fail;rw[<-HE.o.1,<-HE.o.2];clear HE;refine C.o.mono ?_;rintro r u9 ⟨rfl,hb⟩;have BD:=aJ (BD.o.1.trans (hb.mono BD.o.1.size)) ((BD.o.2.below hb).mono hb.size);clear hb C;have BD:=ak BD.o.1;obtain⟨UQ,QS⟩:=af (((u9.alloc (Obj.cells #[.float .f64 4607182418800017408,.float .f64 4611686018427387904,.float .f64 4613937818241073152] 23)).alloc (Obj.cells #[.float .f64 4611686018427387904,.float .f64 4616189618054758400,.float .f64 4619567317775286272] 23)));obtain⟨g10,jX⟩:=af (u9.heap.size);have BE:=ak BD.o;have q0:Below u9.heap.size u9 UQ:=by rw[QS];exact(ae _ _).trans ((ae _ _).mono (by simp))
 have q1:Fs UQ.heap.size UQ (some ⟨g10,0,none⟩) [4607182418800017408,4611686018427387904,4613937818241073152]:=by rw[QS,jX];exact((uU u9 [4607182418800017408,4611686018427387904,4613937818241073152]).below (ae _ _)).mono (by simp)
 have q2:Fs UQ.heap.size UQ (some ⟨g10+1,0,none⟩) [4611686018427387904,4616189618054758400,4619567317775286272]:=by rw[QS,jX];exact Hq (u9.alloc (Obj.cells #[.float .f64 4607182418800017408,.float .f64 4611686018427387904,.float .f64 4613937818241073152] 23)) [4611686018427387904,4616189618054758400,4619567317775286272] (u9.heap.size+1) (by simp)
 have BD:=bO (BD.o.trans (q0.mono BD.o.size)) q1 q2;have HE:=(aJ QS jX);clear QS jX q0 q1 q2 BE;have C:Hid (At 24 #[.slice (some ⟨g10,0,none⟩) 3 3,.slice (some ⟨g10+1,0,none⟩) 3 3,.int .i64 1,.int .i64 0] UQ (.tuple #[.float .f64 4612811918334230528,.int .i64 0])):=hid (ZN [4607182418800017408,4611686018427387904,4613937818241073152] [4611686018427387904,4616189618054758400,4619567317775286272] _ _ 3 3 3 3 1 0 UQ rfl rfl BD.o.2.1 BD.o.r2 (gH (by decide)) (gH (by decide)) (HT.o.belows BD.o.1) (by decide) (by decide) (4612811918334230528,0) (cCo.trans (by decide +kernel)));go_wp2_with fail;rw[<-HE.o.1,<-HE.o.2];clear HE;refine C.o.mono ?_;rintro r Eo ⟨rfl,hb⟩;have BD:=bO (BD.o.1.trans (hb.mono BD.o.1.size)) ((BD.o.2.1.below hb).mono hb.size) ((BD.o.r2.below hb).mono hb.size);clear hb C;have BD:=ak BD.o.1;obtain⟨UR,QT⟩:=af (((Eo.alloc (Obj.cells #[.float .f64 4607182418800017408,.float .f64 4611686018427387904,.float .f64 4613937818241073152] 23)).alloc (Obj.cells #[.float .f64 4613937818241073152,.float .f64 4611686018427387904,.float .f64 4607182418800017408] 23)));obtain⟨g12,nI⟩:=af (Eo.heap.size);have BE:=ak BD.o;have q0:Below Eo.heap.size Eo UR:=by rw[QT];exact(ae _ _).trans ((ae _ _).mono (by simp))
 have q1:Fs UR.heap.size UR (some ⟨g12,0,none⟩) [4607182418800017408,4611686018427387904,4613937818241073152]:=by rw[QT,nI];exact((uU Eo [4607182418800017408,4611686018427387904,4613937818241073152]).below (ae _ _)).mono (by simp)
 have q2:Fs UR.heap.size UR (some ⟨g12+1,0,none⟩) [4613937818241073152,4611686018427387904,4607182418800017408]:=by rw[QT,nI];exact Hq (Eo.alloc (Obj.cells #[.float .f64 4607182418800017408,.float .f64 4611686018427387904,.float .f64 4613937818241073152] 23)) [4613937818241073152,4611686018427387904,4607182418800017408] (Eo.heap.size+1) (by simp)
 have BD:=bO (BD.o.trans (q0.mono BD.o.size)) q1 q2;have HE:=(aJ QT nI);clear QT nI q0 q1 q2 BE;have C:Hid (At 12 #[.slice (some ⟨g12,0,none⟩) 3 3,.slice (some ⟨g12+1,0,none⟩) 3 3,.int .i64 2] UR (.tuple #[.float .f64 13830554455654793216,.int .i64 0])):=hid (BQ [4607182418800017408,4611686018427387904,4613937818241073152] [4613937818241073152,4611686018427387904,4607182418800017408] _ _ 3 3 3 3 2 UR rfl rfl BD.o.2.1 BD.o.r2 (gH (by decide)) (gH (by decide)) (HT.o.belows BD.o.1) (by decide) (by decide) (13830554455654793216,0) (cLi.trans (by decide +kernel)));go_wp2_with fail;rw[<-HE.o.1,<-HE.o.2];clear HE;refine C.o.mono ?_;rintro r Ep ⟨rfl,hb⟩;have BD:=bO (BD.o.1.trans (hb.mono BD.o.1.size)) ((BD.o.2.1.below hb).mono hb.size) ((BD.o.r2.below hb).mono hb.size);clear hb C;have BD:=ak BD.o.1;go_wp2_with fail;obtain⟨oa,hoa⟩:=af (gV 0 10);obtain⟨ob,XR⟩:=af (gV 0 30);have C:Hid (As 14 #[.int .i64 10] Ep fun r w'=>aN 0 w' r oa/\An Ep w'):=by rw[hoa];exact qK 10 Ep (by decide) (by decide)
 refine C.o.mono ?_;rintro r UT ⟨hd,hb⟩;obtain⟨ja,jc,rfl,hN⟩:=hd.aD;have BD:=aJ (BD.o.trans (hb.mono BD.o.size)) hN;clear hb hd hN C;have C:Hid (As 14 #[.int .i64 30] UT fun r w'=>aN 0 w' r ob/\An UT w'):=by rw[XR];exact qK 30 UT (by decide) (by decide)
 have HO:=(aJ hoa XR);clear hoa XR;go_wp2_with fail;refine C.o.mono ?_;rintro r XH ⟨hd,hb⟩;obtain⟨ka,kc,rfl,hN⟩:=hd.aD;have BD:=bO (BD.o.1.trans (hb.mono BD.o.1.size)) (BD.o.2.below hb) hN;clear hb hd hN C
 have C:Hid (At 13 #[.int .i64 4,.agg #[.bool (dN oa),.slice ja (ws (dX oa)).length jc,.int .i64 (dE oa)],.agg #[.bool (dN ob),.slice ka (ws (dX ob)).length kc,.int .i64 (dE ob)],.int .i64 0,.int .i64 0] XH (.tuple #[.float .f64 4608308318706860032,.int .i64 0])):=by
  have h1:=BD.o.2.1;have h2:=BD.o.r2;rw[HO.o.1] at h1;rw[HO.o.2] at h2;rw[HO.o.1,HO.o.2];exact UN 4 10 30 0 0 (by decide) (by decide) h1 h2 (HT.o.belows BD.o.1) (by decide) (4608308318706860032,0) (cOf.trans (by decide +kernel))
 clear HO;go_wp2_with fail;refine C.o.mono ?_;rintro r Hr ⟨rfl,hb⟩;have BD:=ak (BD.o.1.trans (hb.mono BD.o.1.size));clear hb C;obtain⟨UW,QU⟩:=af (((Hr.alloc (Obj.cells #[.float .f64 4607182418800017408,.float .f64 4607182418800017408] 23)).alloc (Obj.cells #[.float .f64 4607182418800017408,.float .f64 4611686018427387904] 23)));obtain⟨g15,yA⟩:=af (Hr.heap.size);have BE:=ak BD.o;have q0:Below Hr.heap.size Hr UW:=by rw[QU];exact(ae _ _).trans ((ae _ _).mono (by simp))
 have q1:Fs UW.heap.size UW (some ⟨g15,0,none⟩) [4607182418800017408,4607182418800017408]:=by rw[QU,yA];exact((uU Hr [4607182418800017408,4607182418800017408]).below (ae _ _)).mono (by simp)
 have q2:Fs UW.heap.size UW (some ⟨g15+1,0,none⟩) [4607182418800017408,4611686018427387904]:=by rw[QU,yA];exact Hq (Hr.alloc (Obj.cells #[.float .f64 4607182418800017408,.float .f64 4607182418800017408] 23)) [4607182418800017408,4611686018427387904] (Hr.heap.size+1) (by simp)
 have BD:=bO (BD.o.trans (q0.mono BD.o.size)) q1 q2;have HE:=(aJ QU yA);clear QU yA q0 q1 q2 BE;have C:Hid (At 12 #[.slice (some ⟨g15,0,none⟩) 2 2,.slice (some ⟨g15+1,0,none⟩) 2 2,.int .i64 0] UW (.tuple #[.float .f64 0,.int .i64 190])):=hid (BQ [4607182418800017408,4607182418800017408] [4607182418800017408,4611686018427387904] _ _ 2 2 2 2 0 UW rfl rfl BD.o.2.1 BD.o.r2 (gH (by decide)) (gH (by decide)) (HT.o.belows BD.o.1) (by decide) (by decide) (0,190) (ZU.trans (by decide +kernel)));go_wp2_with fail;rw[<-HE.o.1,<-HE.o.2];clear HE;refine C.o.mono ?_;rintro r u16 ⟨rfl,hb⟩;have BD:=bO (BD.o.1.trans (hb.mono BD.o.1.size)) ((BD.o.2.1.below hb).mono hb.size) ((BD.o.r2.below hb).mono hb.size);clear hb C;have BD:=ak BD.o.1;obtain⟨W17,UX⟩:=af ((u16.alloc (Obj.cells #[.float .f64 4617315517961601024] 23)));obtain⟨g17,Es⟩:=af (u16.heap.size);have BE:=ak BD.o;have q0:Below u16.heap.size u16 W17:=by rw[UX];exact ae _ _
 have q1:Fs W17.heap.size W17 (some ⟨g17,0,none⟩) [4617315517961601024]:=by rw[UX,Es];exact uU u16 [4617315517961601024]
 have BD:=aJ (BD.o.trans (q0.mono BD.o.size)) q1;have HE:=(aJ UX Es);clear UX Es q0 q1 BE;go_wp2_with fail;rw[<-HE.o.1,<-HE.o.2];clear HE;refine(sw W17).mono ?_;rintro r Rf ⟨rfl,hb⟩;have BD:=aJ (BD.o.1.trans (hb.mono BD.o.1.size)) ((BD.o.2.below hb).mono hb.size);clear hb;have C:Hid (At 10 #[.slice (some ⟨g17,0,none⟩) 1 1,.int .i64 1,.int .i64 0,.agg #[.int .i64 0,.int .i64 0]] Rf (.tuple #[.float .f64 0,.int .i64 3])):=hid (Js [4617315517961601024] _ 1 1 1 0 0 0 Rf rfl BD.o.2 (gH (by decide)) (HT.o.belows BD.o.1) (by decide) (0,3) (XG.trans (by decide +kernel)));go_wp2_with fail;refine C.o.mono ?_;rintro r Rh ⟨rfl,hb⟩;have BD:=aJ (BD.o.1.trans (hb.mono BD.o.1.size)) ((BD.o.2.below hb).mono hb.size);clear hb C;have BD:=ak BD.o.1;obtain⟨W20,UY⟩:=af ((Rh.alloc (Obj.cells #[.float .f64 4617315517961601024] 23)));obtain⟨g20,BO⟩:=af (Rh.heap.size);have BE:=ak BD.o;have q0:Below Rh.heap.size Rh W20:=by rw[UY];exact ae _ _
 have q1:Fs W20.heap.size W20 (some ⟨g20,0,none⟩) [4617315517961601024]:=by rw[UY,BO];exact uU Rh [4617315517961601024]
 have BD:=aJ (BD.o.trans (q0.mono BD.o.size)) q1;have HE:=(aJ UY BO);clear UY BO q0 q1 BE;go_wp2_with fail;rw[<-HE.o.1,<-HE.o.2];clear HE;refine(sw W20).mono ?_;rintro r u21 ⟨rfl,hb⟩;have BD:=aJ (BD.o.1.trans (hb.mono BD.o.1.size)) ((BD.o.2.below hb).mono hb.size);clear hb;have C:Hid (At 10 #[.slice (some ⟨g20,0,none⟩) 1 1,.int .i64 2,.int .i64 0,.agg #[.int .i64 0,.int .i64 0]] u21 (.tuple #[.float .f64 0,.int .i64 1])):=hid (Js [4617315517961601024] _ 1 1 2 0 0 0 u21 rfl BD.o.2 (gH (by decide)) (HT.o.belows BD.o.1) (by decide) (0,1) (ZT.trans (by decide +kernel)));go_wp2_with fail;refine C.o.mono ?_;rintro r u22 ⟨rfl,hb⟩;have BD:=aJ (BD.o.1.trans (hb.mono BD.o.1.size)) ((BD.o.2.below hb).mono hb.size);clear hb C;have BD:=ak BD.o.1;have C:=hid (qN 4608308318706860032 4608308318706860032 rfl u22);go_wp2_with fail;refine C.o.mono ?_;rintro r u23 ⟨rfl,hq⟩;rw[hq];clear hq C u23;have C:=hid (qN 4610184818551597739 4610184818551597739 rfl u22);go_wp2_with fail;refine C.o.mono ?_;rintro r u24 ⟨rfl,hq⟩;rw[hq];clear hq C u24;have C:=hid (qN 4608492941290910865 4608492941290910865 rfl u22);go_wp2_with fail;refine C.o.mono ?_;rintro r u25 ⟨rfl,hq⟩;rw[hq];clear hq C u25;have C:=hid (qN 4618441417868443648 4618441417868443648 rfl u22);go_wp2_with fail;refine C.o.mono ?_;rintro r u26 ⟨rfl,hq⟩;rw[hq];clear hq C u26;have C:=hid (qN 4612811918334230528 4612811918334230528 rfl u22);go_wp2_with fail;refine C.o.mono ?_;rintro r u27 ⟨rfl,hq⟩;rw[hq];clear hq C u27;have C:=hid (qN 13830554455654793216 13830554455654793216 rfl u22);go_wp2_with fail;refine C.o.mono ?_;rintro r u28 ⟨rfl,hq⟩;rw[hq];clear hq C u28;have C:=hid (qN 4608308318706860032 4608308318706860032 rfl u22);go_wp2_with fail;refine C.o.mono ?_;rintro r u29 ⟨rfl,hq⟩;rw[hq];clear hq C u29;go_wp2;go_ret;exact⟨rfl,BD.o⟩
attribute [local go_sem] B.bB B.aF oK
theorem XI:(FloatKind.f64.format.order 4634696597773484032 4634696597773484032==some .eq)=true:=by decide +kernel
theorem XJ:(FloatKind.f64.format.order 4634766966517661696 4634766966517661696==some .eq)=true:=by decide +kernel
attribute [local go_sem] XI XJ
theorem Ey(xs:List Nat)(n:Nat)(hn:n=xs.length):xs++(List.replicate (n+2) 0).drop n=xs++[0,0]:=by
 rw[Cb,show n+2-n=2 by omega];rfl
theorem Ez(xs:List Nat)(n:Nat)(hn:n=xs.length):((xs++[0,0]).set n 4634696597773484032).set (n+1) 4634766966517661696=xs++[4634696597773484032,4634766966517661696]:=by
 subst hn;simp
theorem QV(xs:List Nat)(ao:Option Addr)(n cap B:Nat)(w:World)(hn:n=xs.length)(hm:n<=17592186043904)(hR:Fs B w ao xs)(hB:B<=w.heap.size) :
 As 18 #[.slice ao n cap] w fun r w'=>r=.returned (.slice (some ⟨w.heap.size,0,none⟩) n (n+2))/\fK w' w.heap.size (xs++[4634696597773484032,4634766966517661696])/\An w w':=by
 have hmk:=uP ((n+2:Nat):Int) (n+2) rfl (by omega);have hmk2:=uP ((n:Int)+2) (n+2) (by omega) (by omega);have X6:Hid (fK (w.alloc (.cells (madeCells #[.float .f64 0] (n+2)) 23)) w.heap.size (List.replicate (n+2) 0)):=fK.made w (n+2);obtain⟨w2,hcp,hO2,aG⟩:=Ee _ w.heap.size (n+2) (n+2) ao n cap B 3 (List.replicate (n+2) 0) xs X6.o (by simp) hn (hR.below ((aB _ _).alloc hB _)) (by omega);rw[Ey xs n hn] at hO2;have hg1:=hO2.frozen n;have hg2:=hO2.frozen (n+1);have hc1:=hO2.cell n (by simp;omega);have hc2:=hO2.cell (n+1) (by simp;omega);have HX:=(bO hO2 aG hn);clear hO2 aG X6 hn hR;go_enter Tryz.func18,Tryz.ntmps18;go_wp2;go_ret;obtain⟨hO2,aG,hn⟩:=HX.o;refine⟨rfl,?_,?_⟩
 · have h1:=(hO2.set n 4634696597773484032).set (n+1) 4634766966517661696;rw[Ez xs n hn] at h1;exact h1
 · exact But.below ((aB _ _).alloc (aA _) _) ((aG.set _ _).set _ _) (by simp) (aA _)
theorem qT{P:Prop}(h:P:=by
 go_wp2
 go_quiet (fail)
 go_wp2;go_roundg (gk-1)
 case measure=>omega
 case rel =>
  obtain⟨hl,hM,aG⟩:=HA.o;refine⟨k+1,M.set k 4635541022703616000,by omega,by first | rfl | simp,by first | go_num | (congr 1;omega),(HM.o.set k 4635541022703616000).drew,by simp[hl],fun j hj=>?_,((But.drewN aG _).set k _)⟩;rw[getD_set_ne _ _ _ _ (by omega)];exact hM j (by omega)):P:=h
theorem EC(xs:List Nat)(ao:Option Addr)(n cap B g:Nat)(w:World)(hn:n=xs.length)(hm:n<=17592186043904)(hR:Fs B w ao xs)(hB:B<=g)(hO:fK w g (xs++[4634696597773484032,4634766966517661696])) :
 As 20 #[.slice (some ⟨g,0,none⟩) n (n+2),.slice ao n cap] w fun r w'=>r=.returned (.bool true)/\But g w w':=by
 have hgl:=hO.lt;have hc1:=hO.cell n (by simp;omega);have hc2:=hO.cell (n+1) (by simp;omega);have e1:(xs++[4634696597773484032,4634766966517661696]).getD n 0=4634696597773484032:=by subst hn;simp
 have e2:(xs++[4634696597773484032,4634766966517661696]).getD (n+1) 0=4634766966517661696:=by subst hn;simp
 rw[e1] at hc1;rw[e2] at hc2;have HX:=(dJ hR hO hn hB hgl);clear hR hO hn hB e1 e2 hgl;go_enter Tryz.func20,Tryz.ntmps20;go_wp2
 go_loopg [6,7] (n+2) (fun gk gv iv wr=>∃ (k:Nat) (M:List Nat),gk+k=n+2/\gv=.bool true/\iv=.int .i64 (k:Nat)/\Hid (fK wr g M) /\
  Aside (M.length=n+2/\(∀ j,k<=j->M.getD j 0=(xs++[4634696597773484032,4634766966517661696]).getD j 0)/\But g w wr))
 case atStart =>
  obtain⟨hR,hO,hn,hB,hgl⟩:=HX.o;exact⟨0,xs++[4634696597773484032,4634766966517661696],by omega,rfl,rfl,hO,by simp;omega,fun _ _=>rfl,But.refl _ _⟩
 case round =>
  obtain⟨k,M,hk,rfl,rfl,HM,HA⟩:=hrel
  by_cases hk2:k=n+2
  · obtain rfl:gk=0:=by omega
    subst hk2;go_wp2;go_ret;exact⟨rfl,HA.o.r2⟩
  · obtain⟨hl,hM,aG⟩:=HA.o;have hgc:=HM.o.cell k (by omega);have hgf:=HM.o.frozen k;have hklt:k<n+2:=by omega
    by_cases hkn:k<n
    · obtain⟨hR,hO,hn,hB,hgl⟩:=HX.o;obtain⟨b,off,hlt,rfl,hcell⟩:=(hR.but aG (by omega) hB) (by intro e;subst e;simp at hn;omega);have Wu:=hcell k (by omega)
      have e3:M.getD k 0=xs.getD k 0:=by
       rw[hM k (aA _)];simp[fP,zR (show k<xs.length by omega)]
      rw[e3] at hgc;obtain⟨x,hx1⟩:∃ x,xs.getD k 0=x:=⟨_,rfl⟩;rw[hx1] at hgc Wu;have hd:decide ((n:Int)<=(k:Int))=false:=decide_eq_false (by omega);clear hl hM aG hR hO hn hB hgl hcell e3 hx1;exact qT
    · have hd:decide ((n:Int)<=(k:Int))=true:=decide_eq_true (by omega);clear hl hM aG;exact qT
end
section
open Go Go.RowKit J
theorem sD(x:Nat)(hx:x<18446744073709551616)(fx:fD x)(w:World) :
 As 66 #[.float .f64 x] w fun r w'=>aN 0 w' r (gV 1074 (zn x))/\An w w':=by
 have HO:=hid (fun u:World=>Vu x hx fx u);rw[g_oW] at HO;obtain⟨o,ho⟩:=af (gV 1074 (zn x));rw[<-ho] at HO |-;have FF:Aside (Fm o):=by rw[ho];exact aZ (by decide) (by decide) (PV hx fx)
 clear ho hx fx;obtain⟨W,hW⟩:=af (w.alloc (Obj.cells #[.bool false,.slice none 0 0,.int .i64 0] 37));have H0:Aside (Lo W w.heap.size gG/\An w W):=by rw[hW];exact⟨Lo.zero _,ae _ _⟩
 have HW:=ak hW;clear hW;go_enter Tryz.func66,Tryz.ntmps66
 go_upto_region 1 with fail
 rw[<-HW.o];clear HW;go_wp2_with fail;refine(HO.o W).mono ?_;rintro r u ⟨⟨v,rfl,hN⟩,hb⟩;obtain⟨a1,c1,rfl,hN0⟩:=Lo.shape FF.o hN;obtain⟨U,hU⟩:=af (u.alloc (Obj.cells #[.bool (dN o),.slice a1 (ws (dX o)).length c1,.int .i64 (dE o)] 37));obtain⟨g3,hg3⟩:=af (u.heap.size)
 have H1:Aside (Lo U g3 o/\Lo U w.heap.size gG/\An w U):=by
  rw[hU,hg3];exact⟨Lo.new hN0,(H0.o.1.below hb).below (ae _ _),(H0.o.2.trans (hb.mono H0.o.2.size)).trans ((ae _ _).mono (cB H0.o.2.size hb.size))⟩
 have HU:=(aJ hU hg3);clear hU hg3 hN hN0 hb H0 HO
 go_upto_region 2 with fail
 rw[<-HU.o.1,<-HU.o.2];clear HU;obtain⟨p1,q1,D1,M1⟩:=H1.o.1;obtain⟨p2,q2,D2,M2⟩:=H1.o.2.1;obtain⟨x0,x1,x2,bE,bF,bG⟩:=D1.facts;obtain⟨y0,y1,y2,bI,bJ,bK⟩:=D2.facts;have Bz:=ak M1;clear D1 D2 M1 M2;go_wp2;exact iL Tryz.results66 rfl H1.o.2.1 H1.o.r2 (aA _) Bz.o
theorem yv{P:Prop}(h:P:=by
 have hm:xs.getD i 0 ∈ xs:=by rw[fP,jb (by omega)];exact nN _
 exact sD _ (hW _ hm) (hf _ hm) u):P:=h
theorem Ht(xs:List Nat)(a:Option Addr)(n c:Nat)(w:World)(hn:n=xs.length)(hF:Fs w.heap.size w a xs)(hW:j4 xs)(hf:∀ x ∈ xs,fD x)(hl:n<=65536) :
 As 63 #[.slice a n c] w fun r w'=>aN 0 w' r (gV 1074 (sX xs))/\An w w':=by
 obtain⟨A,hA⟩:∃ A:Nat->Option (Bool×Nat×Int),A=fun i=>gV 1074 (fX xs i):=⟨_,rfl⟩;obtain⟨T,QW⟩:∃ T:Nat->Option (Bool×Nat×Int),T=fun i=>gV 1074 (tS (fX xs) i):=⟨_,rfl⟩;have eT:gV 1074 (sX xs)=T n:=by rw[QW,hn];rfl
 rw[eT];have FA:∀ i,i<n->Fm (A i):=fun i hi=>by rw[hA];exact aZ (by decide) (by decide) (gP hW hf i (by omega))
 have FT:∀ i,i<=n->Fm (T i):=fun i hi=>by rw[QW];exact aZ (by decide) (by decide) (iA hW hf (by omega) i (by omega))
 have ET:∀ i,i<n->iB (T i) (A i)=T (i+1):=fun i hi=>by
  rw[QW,hA];exact uN (by decide) (by decide) (iA hW hf (by omega) i (by omega)) ((gP hW hf i (by omega)).mono (by decide))
 have E0:gG=T 0:=by rw[QW];exact(o6 1074).symm
 have HV:Hid (∀ (i:Nat) (u:World),i<n->As 66 #[.float .f64 (xs.getD i 0)] u fun r w'=>aN 0 w' r (A i)/\An u w'):=fun i u hi=>by
  rw[hA];exact yv
 have HP:Hid (∀ (i:Nat) (u:World) (p q:Option Addr) (cp cq:Nat),i<n->Nt 0 u (.slice p (ws (dX (T i))).length cp) (dX (T i))->Nt 0 u (.slice q (ws (dX (A i))).length cq) (dX (A i))->As 67 #[.agg #[.bool (dN (T i)),.slice p (ws (dX (T i))).length cp,.int .i64 (dE (T i))],.agg #[.bool (dN (A i)),.slice q (ws (dX (A i))).length cq,.int .i64 (dE (A i))]] u fun r w'=>aN 0 w' r (T (i+1))/\An u w') :=
  fun i u p q cp cq hi n1 n2=>Bu (FT i (by omega)) (FA i hi) (FT (i+1) (by omega)) n1 n2 (ET i hi)
 have HX:=aJ hn hF;obtain⟨W,jV⟩:=af ((w.alloc (Obj.cells #[.bool false,.slice none 0 0,.int .i64 0] 37)).alloc (Obj.cells #[.bool false,.slice none 0 0,.int .i64 0] 37))
 have H0:Aside (Lo W (w.heap.size+1) (T 0)/\Lo W w.heap.size gG/\An w W):=by
  subst jV;exact Up
 have jB:=ak jV;clear jV hn hF hW hf hA QW eT FA FT ET E0;go_enter Tryz.func63,Tryz.ntmps63
 go_upto_region 2 with fail
 rw[<-jB.o];clear jB;go_wp2
 go_loopg [4] n (fun gk i wr=>∃ j:Nat,gk+j=n/\i=.int .i64 (j:Nat)/\Aside (Lo wr (w.heap.size+1) (T j)/\Lo wr w.heap.size gG/\An w wr))
 case atStart=>exact⟨0,by omega,by simp,H0.o⟩
 case round =>
  obtain⟨j,hgj,rfl,HA⟩:=hrel
  by_cases hj:j<n
  · have hdr:=(aB wr.heap.size wr).drew;obtain⟨b,off,rfl,hc⟩:=HX.o.2.at (HA.o.r2.trans (hdr.mono HA.o.r2.size)) j (by rw[<-HX.o.1];exact hj);have ZV:=hid (HV.o j wr.drew hj);obtain⟨x,hx⟩:=af (xs.getD j 0);rw[<-hx] at hc ZV;obtain⟨p1,q1,D1,M1⟩:=HA.o.1;have kS:Aside (wr.drew.cell? ⟨w.heap.size+1,0,none⟩=some (.bool (dN (T j)))/\wr.drew.cell? ⟨w.heap.size+1,1,none⟩=some (.slice p1 (ws (dX (T j))).length q1)/\wr.drew.cell? ⟨w.heap.size+1,2,none⟩=some (.int .i64 (dE (T j)))/\wr.drew.cell? ⟨b,off+j,none⟩=some (.float .f64 x)):=⟨(D1.below hdr).facts.1,(D1.below hdr).facts.2.1,(D1.below hdr).facts.2.2.1,hc⟩;have BD:=fE (D1.below hdr) (M1.below hdr) (HA.o.2.1.below hdr) (HA.o.r2.trans (hdr.mono HA.o.r2.size));clear D1 M1 hdr hc hx;go_wp2_with fail;refine dz (fun w'=>w'.cell? ⟨w.heap.size+1,0,none⟩=some (.bool (dN (T j)))/\w'.cell? ⟨w.heap.size+1,1,none⟩=some (.slice p1 (ws (dX (T j))).length q1)/\w'.cell? ⟨w.heap.size+1,2,none⟩=some (.int .i64 (dE (T j)))/\w'.cell? ⟨b,off+j,none⟩=some (.float .f64 x)) 7 (by kernel_rfl) ?_
    refine tk 0 [6] rfl kS.o ?_;try simp only[Act.put,sa,sb,sc]
    refine tk 1 [3,4,5,6] rfl kS.o ?_;try simp only[Act.put,sa,sb,sc]
    refine tk 2 [3,4,5,6] rfl kS.o ?_;try simp only[Act.put,sa,sb,sc]
    refine tk 3 [4,5,6] rfl kS.o ?_;try simp only[Act.put,sa,sb,sc]
    refine tk 4 [5,6] rfl kS.o ?_;try simp only[Act.put,sa,sb,sc]
    have C:=hid (ZV.o);refine ah (i:=5) (by kernel_rfl) rfl (fun K' hK=>?_);go_simp;refine C.o.mono ?_;rintro r u3 ⟨hd,hb⟩;obtain⟨a3,c3,rfl,eu⟩:=hd.aD;have BD:=dJ (BD.o.1.below hb) (BD.o.2.1.below hb) (BD.o.r2.1.below hb) (BD.o.r3.trans (hb.mono BD.o.r3.size)) eu;have kS:=ak (jm hb kS.o);clear hb hd C;dsimp only;refine hK.out _ _ (fun _=>kS.o) ?_;clear hK K'
    try simp only[Act.put,sa,sb,sc]
    have C:=hid (HP.o j u3 p1 a3 q1 c3 hj BD.o.2.1 BD.o.r4);refine ah (i:=6) (by kernel_rfl) rfl (fun K' hK=>?_);go_simp;refine C.o.mono ?_;rintro r u4 ⟨hd,hb⟩;obtain⟨a4,c4,rfl,iD⟩:=hd.aD;have BD:=dJ (BD.o.1.below hb) (BD.o.2.1.below hb) (BD.o.r2.1.below hb) (BD.o.r3.1.trans (hb.mono BD.o.r3.1.size)) iD;have kS:=ak (jm hb kS.o);clear hb hd C;dsimp only;refine hK.out _ _ (fun _=>kS.o) ?_;clear hK K'
    try simp only[Act.put,sa,sb,sc]
    obtain⟨z0,z1,z2,dO,dP,dQ⟩:=BD.o.1.facts;refine ah (i:=7) (by kernel_rfl) rfl (fun K' hK=>?_);go_simp;refine hK.out _ _ (fun h=>absurd h (by decide)) ?_;clear hK K' kS z0 z1 z2 dO dP dQ;refine aH (by kernel_rfl) ?_ _;have LB:Lo u4 (w.heap.size+1) (T j):=⟨_,_,BD.o.1,BD.o.2.1⟩;have b3:=BD.o.r3.1;have H3:=bO (LB.set BD.o.r4) (BD.o.r2.1.other LB (by omega) (.bool (dN (T (j+1)))) (.slice a4 (ws (dX (T (j+1)))).length c4) (.int .i64 (dE (T (j+1))))) (di b3 b3.size (show w.heap.size<=w.heap.size+1 by omega) (.bool (dN (T (j+1)))) (.slice a4 (ws (dX (T (j+1)))).length c4) (.int .i64 (dE (T (j+1)))));clear LB b3;exact Ks
  · obtain rfl:n=j:=by omega
    have hd:decide ((n:Int)<n)=false:=by simp
    obtain⟨p1,q1,D1,M1⟩:=HA.o.1;obtain⟨p2,q2,D2,M2⟩:=HA.o.2.1;obtain⟨x0,x1,x2,bE,bF,bG⟩:=D1.facts;obtain⟨y0,y1,y2,bI,bJ,bK⟩:=D2.facts;have Bz:=ak M1;clear D1 D2 M1 M2;go_wp2;exact iL Tryz.results63 rfl HA.o.2.1 HA.o.r2 (aA _) Bz.o
theorem ED(xs ys:List Nat)(a a2:Option Addr)(n n2 c c2:Nat)(w:World)(hn:n=xs.length)(hn2:n2=ys.length)(he:n=n2)(hF:Fs w.heap.size w a xs)(hG:Fs w.heap.size w a2 ys)(hW:j4 xs)(hf:∀ x ∈ xs,fD x)(hW2:j4 ys)(hf2:∀ x ∈ ys,fD x)(hl:n<=65536) :
 As 74 #[.slice a n c,.slice a2 n2 c2] w fun r w'=>aN 0 w' r (gV 2148 (tS (fun i=>fX xs i*fX ys i) n))/\An w w':=by
 subst he;obtain⟨A,hA⟩:∃ A:Nat->Option (Bool×Nat×Int),A=fun i=>gV 1074 (fX xs i):=⟨_,rfl⟩;obtain⟨B',hB⟩:∃ A:Nat->Option (Bool×Nat×Int),A=fun i=>gV 1074 (fX ys i):=⟨_,rfl⟩;obtain⟨P,hP⟩:∃ A:Nat->Option (Bool×Nat×Int),A=fun i=>gV 2148 (fX xs i*fX ys i):=⟨_,rfl⟩;obtain⟨T,QW⟩:∃ T:Nat->Option (Bool×Nat×Int),T=fun i=>gV 2148 (tS (fun i=>fX xs i*fX ys i) i):=⟨_,rfl⟩;have eT:gV 2148 (tS (fun i=>fX xs i*fX ys i) n)=T n:=by rw[QW]
 rw[eT];have bx:∀ i,i<n->Bd 2098 (fX xs i):=fun i hi=>gP hW hf i (by omega);have by':∀ i,i<n->Bd 2098 (fX ys i):=fun i hi=>gP hW2 hf2 i (by omega)
 have bP:=fun k hk=>pO bx by' hl k hk
 have FA:∀ i,i<n->Fm (A i):=fun i hi=>by rw[hA];exact aZ (by decide) (by decide) (bx i hi)
 have FB:∀ i,i<n->Fm (B' i):=fun i hi=>by rw[hB];exact aZ (by decide) (by decide) (by' i hi)
 have FP:∀ i,i<n->Fm (P i):=fun i hi=>by rw[hP];exact aZ (by decide) (by decide) ((bx i hi).mul (by' i hi))
 have FT:∀ i,i<=n->Fm (T i):=fun i hi=>by rw[QW];exact aZ (by decide) (by decide) (bP i hi)
 have EP:∀ i,i<n->dY (A i) (B' i)=P i:=fun i hi=>by rw[hA,hB,hP];exact iR (by decide) (by decide) (by decide) (by decide) (bx i hi) (by' i hi)
 have ET:∀ i,i<n->iB (T i) (P i)=T (i+1):=fun i hi=>by
  rw[QW,hP];exact uN (by decide) (by decide) (bP i (by omega)) (((bx i hi).mul (by' i hi)).mono (by decide))
 have E0:gG=T 0:=by rw[QW];exact(o6 2148).symm
 have HV:Hid (∀ (i:Nat) (u:World),i<n->As 66 #[.float .f64 (xs.getD i 0)] u fun r w'=>aN 0 w' r (A i)/\An u w'):=fun i u hi=>by
  rw[hA];exact yv
 have HV2:Hid (∀ (i:Nat) (u:World),i<n->As 66 #[.float .f64 (ys.getD i 0)] u fun r w'=>aN 0 w' r (B' i)/\An u w'):=fun i u hi=>by
  rw[hB];have hm:ys.getD i 0 ∈ ys:=by rw[fP,jb (by omega)];exact nN _
  exact sD _ (hW2 _ hm) (hf2 _ hm) u
 have HM:Hid (∀ (i:Nat) (u:World) (p q:Option Addr) (cp cq:Nat),i<n->Nt 0 u (.slice p (ws (dX (A i))).length cp) (dX (A i))->Nt 0 u (.slice q (ws (dX (B' i))).length cq) (dX (B' i))->As 64 #[.agg #[.bool (dN (A i)),.slice p (ws (dX (A i))).length cp,.int .i64 (dE (A i))],.agg #[.bool (dN (B' i)),.slice q (ws (dX (B' i))).length cq,.int .i64 (dE (B' i))]] u fun r w'=>aN 0 w' r (P i)/\An u w') :=
  fun i u p q cp cq hi n1 n2=>jw (FA i hi) (FB i hi) (FP i hi) n1 n2 (EP i hi)
 have HP:Hid (∀ (i:Nat) (u:World) (p q:Option Addr) (cp cq:Nat),i<n->Nt 0 u (.slice p (ws (dX (T i))).length cp) (dX (T i))->Nt 0 u (.slice q (ws (dX (P i))).length cq) (dX (P i))->As 67 #[.agg #[.bool (dN (T i)),.slice p (ws (dX (T i))).length cp,.int .i64 (dE (T i))],.agg #[.bool (dN (P i)),.slice q (ws (dX (P i))).length cq,.int .i64 (dE (P i))]] u fun r w'=>aN 0 w' r (T (i+1))/\An u w') :=
  fun i u p q cp cq hi n1 n2=>Bu (FT i (by omega)) (FP i hi) (FT (i+1) (by omega)) n1 n2 (ET i hi)
 have HX:=fE hn hF hn2 hG;obtain⟨W,jV⟩:=af ((w.alloc (Obj.cells #[.bool false,.slice none 0 0,.int .i64 0] 37)).alloc (Obj.cells #[.bool false,.slice none 0 0,.int .i64 0] 37))
 have H0:Aside (Lo W (w.heap.size+1) (T 0)/\Lo W w.heap.size gG/\An w W):=by
  subst jV;exact Up
 have jB:=ak jV;clear jV hn hF hW hf hn2 hG hW2 hf2 hA hB hP QW eT FA FB FP FT EP ET E0 bx by' bP
 go_enter Tryz.func74,Tryz.ntmps74
 go_upto_region 2 with fail
 rw[<-jB.o];clear jB;go_wp2
 go_loopg [6] n (fun gk i wr=>∃ j:Nat,gk+j=n/\i=.int .i64 (j:Nat)/\Aside (Lo wr (w.heap.size+1) (T j)/\Lo wr w.heap.size gG/\An w wr))
 case atStart=>exact⟨0,by omega,by simp,H0.o⟩
 case round =>
  obtain⟨j,hgj,rfl,HA⟩:=hrel
  by_cases hj:j<n
  · have hdr:=(aB wr.heap.size wr).drew;obtain⟨b,off,rfl,hc⟩:=HX.o.2.1.at (HA.o.r2.trans (hdr.mono HA.o.r2.size)) j (by rw[<-HX.o.1];exact hj);obtain⟨b2,yf,rfl,hc2⟩:=HX.o.r3.at (HA.o.r2.trans (hdr.mono HA.o.r2.size)) j (by rw[<-HX.o.r2.1];exact hj);have ZV:=hid (fun u=>HV.o j u hj);have ZW:=hid (fun u=>HV2.o j u hj);obtain⟨x,hx⟩:=af (xs.getD j 0);obtain⟨y,hy⟩:=af (ys.getD j 0);rw[<-hx] at hc ZV;rw[<-hy] at hc2 ZW;obtain⟨p1,q1,D1,M1⟩:=HA.o.1;have kS:Aside (wr.drew.cell? ⟨w.heap.size+1,0,none⟩=some (.bool (dN (T j)))/\wr.drew.cell? ⟨w.heap.size+1,1,none⟩=some (.slice p1 (ws (dX (T j))).length q1)/\wr.drew.cell? ⟨w.heap.size+1,2,none⟩=some (.int .i64 (dE (T j)))/\wr.drew.cell? ⟨b,off+j,none⟩=some (.float .f64 x)/\wr.drew.cell? ⟨b2,yf+j,none⟩=some (.float .f64 y)):=⟨(D1.below hdr).facts.1,(D1.below hdr).facts.2.1,(D1.below hdr).facts.2.2.1,hc,hc2⟩;have BD:=fE (D1.below hdr) (M1.below hdr) (HA.o.2.1.below hdr) (HA.o.r2.trans (hdr.mono HA.o.r2.size));clear D1 M1 hdr hc hx hc2 hy;go_wp2_with fail;refine dz (fun w'=>w'.cell? ⟨w.heap.size+1,0,none⟩=some (.bool (dN (T j)))/\w'.cell? ⟨w.heap.size+1,1,none⟩=some (.slice p1 (ws (dX (T j))).length q1)/\w'.cell? ⟨w.heap.size+1,2,none⟩=some (.int .i64 (dE (T j)))/\w'.cell? ⟨b,off+j,none⟩=some (.float .f64 x)/\w'.cell? ⟨b2,yf+j,none⟩=some (.float .f64 y)) 13 (by kernel_rfl) ?_
    refine tk 0 [12] rfl kS.o ?_;try simp only[Act.put,sa,sb,sc]
    refine tk 1 [3,4,5,11,12] rfl kS.o ?_;try simp only[Act.put,sa,sb,sc]
    refine tk 2 [3,4,5,11,12] rfl kS.o ?_;try simp only[Act.put,sa,sb,sc]
    refine tk 3 [4,5,11,12] rfl kS.o ?_;try simp only[Act.put,sa,sb,sc]
    refine tk 4 [5,11,12] rfl kS.o ?_;try simp only[Act.put,sa,sb,sc]
    refine tk 6 [8,9,10,11,12] rfl kS.o ?_;try simp only[Act.put,sa,sb,sc]
    refine tk 7 [8,9,10,11,12] rfl kS.o ?_;try simp only[Act.put,sa,sb,sc]
    refine tk 8 [9,10,11,12] rfl kS.o ?_;try simp only[Act.put,sa,sb,sc]
    refine tk 9 [10,11,12] rfl kS.o ?_;try simp only[Act.put,sa,sb,sc]
    have C:=hid (ZV.o wr.drew);refine ah (i:=5) (by kernel_rfl) rfl (fun K' hK=>?_);go_simp;refine C.o.mono ?_;rintro r u3 ⟨hd,hb⟩;obtain⟨a3,c3,rfl,eu⟩:=hd.aD;have BD:=dJ (BD.o.1.below hb) (BD.o.2.1.below hb) (BD.o.r2.1.below hb) (BD.o.r3.trans (hb.mono BD.o.r3.size)) eu;have kS:=ak (ck hb kS.o fun h=>ck1 hb h);clear hb hd C;dsimp only;refine hK.out _ _ (fun _=>kS.o) ?_;clear hK K'
    try simp only[Act.put,sa,sb,sc]
    have C:=hid (ZW.o u3);refine ah (i:=10) (by kernel_rfl) rfl (fun K' hK=>?_);go_simp;refine C.o.mono ?_;rintro r u4 ⟨hd,hb⟩;obtain⟨a4,c4,rfl,iD⟩:=hd.aD;have BD:=iC (BD.o.1.below hb) (BD.o.2.1.below hb) (BD.o.r2.1.below hb) (BD.o.r3.1.trans (hb.mono BD.o.r3.1.size)) (BD.o.r4.below hb) iD;have kS:=ak (ck hb kS.o fun h=>ck1 hb h);clear hb hd C;dsimp only;refine hK.out _ _ (fun _=>kS.o) ?_;clear hK K'
    try simp only[Act.put,sa,sb,sc]
    have C:=hid (HM.o j u4 a3 a4 c3 c4 hj BD.o.r4.1 BD.o.r5);refine ah (i:=11) (by kernel_rfl) rfl (fun K' hK=>?_);go_simp;refine C.o.mono ?_;rintro r u5 ⟨hd,hb⟩;obtain⟨a5,c5,rfl,uW⟩:=hd.aD;have BD:=dJ (BD.o.1.below hb) (BD.o.2.1.below hb) (BD.o.r2.1.below hb) (BD.o.r3.1.trans (hb.mono BD.o.r3.1.size)) uW;have kS:=ak (ck hb kS.o fun h=>ck1 hb h);clear hb hd C;dsimp only;refine hK.out _ _ (fun _=>kS.o) ?_;clear hK K'
    try simp only[Act.put,sa,sb,sc]
    have C:=hid (HP.o j u5 p1 a5 q1 c5 hj BD.o.2.1 BD.o.r4);refine ah (i:=12) (by kernel_rfl) rfl (fun K' hK=>?_);go_simp;refine C.o.mono ?_;rintro r u6 ⟨hd,hb⟩;obtain⟨a6,c6,rfl,Ah⟩:=hd.aD;have BD:=dJ (BD.o.1.below hb) (BD.o.2.1.below hb) (BD.o.r2.1.below hb) (BD.o.r3.1.trans (hb.mono BD.o.r3.1.size)) Ah;have kS:=ak (ck hb kS.o fun h=>ck1 hb h);clear hb hd C;dsimp only;refine hK.out _ _ (fun _=>kS.o) ?_;clear hK K'
    try simp only[Act.put,sa,sb,sc]
    obtain⟨z0,z1,z2,dO,dP,dQ⟩:=BD.o.1.facts;refine ah (i:=13) (by kernel_rfl) rfl (fun K' hK=>?_);go_simp;refine hK.out _ _ (fun h=>absurd h (by decide)) ?_;clear hK K' kS z0 z1 z2 dO dP dQ;refine aH (by kernel_rfl) ?_ _;have LB:Lo u6 (w.heap.size+1) (T j):=⟨_,_,BD.o.1,BD.o.2.1⟩;have b3:=BD.o.r3.1;have H3:=bO (LB.set BD.o.r4) (BD.o.r2.1.other LB (by omega) (.bool (dN (T (j+1)))) (.slice a6 (ws (dX (T (j+1)))).length c6) (.int .i64 (dE (T (j+1))))) (di b3 b3.size (show w.heap.size<=w.heap.size+1 by omega) (.bool (dN (T (j+1)))) (.slice a6 (ws (dX (T (j+1)))).length c6) (.int .i64 (dE (T (j+1)))));clear LB b3;exact Ks
  · obtain rfl:n=j:=by omega
    have hd:decide ((n:Int)<n)=false:=by simp
    obtain⟨p1,q1,D1,M1⟩:=HA.o.1;obtain⟨p2,q2,D2,M2⟩:=HA.o.2.1;obtain⟨x0,x1,x2,bE,bF,bG⟩:=D1.facts;obtain⟨y0,y1,y2,bI,bJ,bK⟩:=D2.facts;have Bz:=ak M1;clear D1 D2 M1 M2;go_wp2;exact iL Tryz.results74 rfl HA.o.2.1 HA.o.r2 (aA _) Bz.o
theorem pV(xs ys:List Nat)(a a2:Option Addr)(n n2 c c2:Nat)(w:World)(hn:n=xs.length)(hn2:n2=ys.length)(he:n=n2)(hF:Fs w.heap.size w a xs)(hG:Fs w.heap.size w a2 ys)(hW:j4 xs)(hf:∀ x ∈ xs,fD x)(hW2:j4 ys)(hf2:∀ x ∈ ys,fD x)(hl:n<=65536) :
 As 59 #[.slice a n c,.slice a2 n2 c2] w fun r w'=>aN 0 w' r (gV 2148 (cS xs ys))/\An w w':=by
 have bx:∀ i,i<n->Bd 2098 (fX xs i):=fun i hi=>gP hW hf i (by omega);have by':∀ i,i<n->Bd 2098 (fX ys i):=fun i hi=>gP hW2 hf2 i (by omega)
 have bP:=pO bx by' hl n (aA _)
 have b1:=iA hW hf (by omega) xs.length (aA _);have b2:=iA hW2 hf2 (by omega) ys.length (aA _);have bn:Bd 16 (n:Int):=Bd.nat (by omega);have bnP:Bd 4228 ((n:Int)*tS (fun i=>fX xs i*fX ys i) n):=(bn.mul bP).mono (by decide);have bST:Bd 4228 (sX xs*sX ys):=(b1.mul b2).mono (by decide);obtain⟨oN,hN⟩:=af (gV 0 (n:Int));obtain⟨oP,hP⟩:=af (gV 2148 (tS (fun i=>fX xs i*fX ys i) n));obtain⟨oQ,hQ⟩:=af (gV 2148 ((n:Int)*tS (fun i=>fX xs i*fX ys i) n));obtain⟨oS,hS⟩:=af (gV 1074 (sX xs));obtain⟨oT,hT⟩:=af (gV 1074 (sX ys));obtain⟨oU,hU⟩:=af (gV 2148 (sX xs*sX ys));obtain⟨oR,hR⟩:=af (gV 2148 (cS xs ys));have eR:oR=gV 2148 ((n:Int)*tS (fun i=>fX xs i*fX ys i) n-sX xs*sX ys):=by rw[hR,hn];rfl
 rw[<-hR];have FN:Fm oN:=by rw[hN];exact aZ (by decide) (by decide) bn
 have FP:Fm oP:=by rw[hP];exact aZ (by decide) (by decide) bP
 have FQ:Fm oQ:=by rw[hQ];exact aZ (by decide) (by decide) bnP
 have FS:Fm oS:=by rw[hS];exact aZ (by decide) (by decide) b1
 have FT:Fm oT:=by rw[hT];exact aZ (by decide) (by decide) b2
 have FU:Fm oU:=by rw[hU];exact aZ (by decide) (by decide) bST
 have FR:Fm oR:=by rw[eR];exact aZ (by decide) (by decide) (bnP.sub bST)
 have E1:dY oN oP=oQ:=by rw[hN,hP,hQ];have:=iR (u:=0) (v:=2148) (by decide) (by decide) (by decide) (by decide) bn bP;rw[dK] at this;exact this
 have E2:dY oS oT=oU:=by rw[hS,hT,hU];exact iR (by decide) (by decide) (by decide) (by decide) b1 b2
 have E3:iB oQ (mkS (!dN oU) (dX oU) (dE oU))=oR:=by rw[hQ,hU,eR];exact Je (by decide) (by decide) bnP bST
 have up:∀ u:World,An w u->Fs u.heap.size u a xs/\Fs u.heap.size u a2 ys:=fun u hb=>⟨(hF.below hb).mono hb.size,(hG.below hb).mono hb.size⟩;have HI:Hid (∀ u:World,As 14 #[.int .i64 (n:Nat)] u fun r w'=>aN 0 w' r oN/\Below u.heap.size u w'):=fun u=>by rw[hN];exact qK n u (by omega) (by omega)
 have HPr:Hid (∀ u:World,An w u->As 74 #[.slice a n c,.slice a2 n2 c2] u fun r w'=>aN 0 w' r oP/\Below u.heap.size u w'):=fun u hu=>by rw[hP];exact ED xs ys a a2 n n2 c c2 u hn hn2 he (up u hu).1 (up u hu).2 hW hf hW2 hf2 hl
 have XV:Hid (∀ u:World,An w u->As 63 #[.slice a n c] u fun r w'=>aN 0 w' r oS/\Below u.heap.size u w'):=fun u hu=>by rw[hS];exact Ht xs a n c u hn (up u hu).1 hW hf hl
 have HS2:Hid (∀ u:World,An w u->As 63 #[.slice a2 n2 c2] u fun r w'=>aN 0 w' r oT/\Below u.heap.size u w'):=fun u hu=>by rw[hT];exact Ht ys a2 n2 c2 u hn2 (up u hu).2 hW2 hf2 (by omega)
 have FF:=(jY FN FP FQ FS FT FU FR);have EE:=(bO E1 E2 E3);clear hn hn2 he hF hG hW hf hW2 hf2 hl bx by' bP b1 b2 bn bnP bST hN hP hQ hS hT hU hR eR FN FP FQ FS FT FU FR E1 E2 E3 up
 obtain⟨W,jV⟩:=af (w.alloc (Obj.cells #[.bool false,.slice none 0 0,.int .i64 0] 37));have H0:Aside (Lo W w.heap.size gG/\An w W):=by rw[jV];exact⟨Lo.zero _,ae _ _⟩
 have jB:=ak jV;clear jV;go_enter Tryz.func59,Tryz.ntmps59
 go_upto_region 1 with fail
 rw[<-jB.o];clear jB;go_wp2_with fail;refine(HI.o W).mono ?_;rintro r u ⟨hd,hb⟩;obtain⟨p1,q1,rfl,hN⟩:=hd.aD;obtain⟨U,hU⟩:=af (u.alloc (Obj.cells #[.bool (dN oN),.slice p1 (ws (dX oN)).length q1,.int .i64 (dE oN)] 37));obtain⟨g5,hg5⟩:=af (u.heap.size)
 have H1:Aside (Dk U g5 (dN oN) (.slice p1 (ws (dX oN)).length q1) (dE oN)/\Nt 0 U (.slice p1 (ws (dX oN)).length q1) (dX oN)/\Lo U w.heap.size gG/\An w U/\w.heap.size<g5):=by
  rw[hU,hg5];exact⟨Dk.new _ _ _ _,hN.below (ae _ _),(H0.o.1.below hb).below (ae _ _),(H0.o.2.trans (hb.mono H0.o.2.size)).trans ((ae _ _).mono (cB H0.o.2.size hb.size)),(H0.o.1.below hb).lt⟩
 have HU:=(aJ hU hg5);clear hU hg5 hN hb hd H0 HI
 go_upto_region 2 with fail
 rw[<-HU.o.1,<-HU.o.2];clear HU;have hdr:=(aB U.heap.size U).drew;have kS:Aside (U.drew.cell? ⟨g5,0,none⟩=some (.bool (dN oN))/\U.drew.cell? ⟨g5,1,none⟩=some (.slice p1 (ws (dX oN)).length q1)/\U.drew.cell? ⟨g5,2,none⟩=some (.int .i64 (dE oN))):=⟨(H1.o.1.below hdr).facts.1,(H1.o.1.below hdr).facts.2.1,(H1.o.1.below hdr).facts.2.2.1⟩;have BD:=(fE (H1.o.r2.1.below hdr) (H1.o.r3.1.trans (hdr.mono H1.o.r3.1.size)) H1.o.r4 (H1.o.2.1.below hdr));have C1:=hid (HPr.o U.drew BD.o.2.1);clear hdr H1
 go_region_held3 (fun w'=>w'.cell? ⟨g5,0,none⟩=some (.bool (dN oN))/\w'.cell? ⟨g5,1,none⟩=some (.slice p1 (ws (dX oN)).length q1)/\w'.cell? ⟨g5,2,none⟩=some (.int .i64 (dE oN))) (first | with_reducible exact kS.o | with_reducible exact kT.o) (first
  | (go_at_call 74
     with_reducible refine C1.o.mono ?_
     rintro r u1 ⟨hd,hb⟩;obtain⟨a1,c1,rfl,hN⟩:=hd.aD;have BD:=dJ (BD.o.1.below hb) (BD.o.2.1.trans (hb.mono BD.o.2.1.size)) BD.o.r2.1 (BD.o.r3.below hb) hN;have kS:=ak (l9 hb kS.o);have C2:=hid (jw FF.o.1 FF.o.2.1 FF.o.r2.1 BD.o.r3.1 BD.o.r4 EE.o.1)
     clear hb hd hN C1)
  | (go_at_call 64
     with_reducible refine C2.o.mono ?_
     rintro r u2 ⟨hd,hb⟩;obtain⟨a2,c2,rfl,hN⟩:=hd.aD;have BD:=fE (BD.o.1.below hb) (BD.o.2.1.trans (hb.mono BD.o.2.1.size)) BD.o.r2.1 hN;have kS:=ak (l9 hb kS.o);have C3:=hid (XV.o u2 BD.o.2.1)
     clear hb hd hN C2)
  | (go_at_call 63
     with_reducible refine C3.o.mono ?_
     rintro r u3 ⟨hd,hb⟩;obtain⟨a3,c3,rfl,hN⟩:=hd.aD;have BD:=dJ (BD.o.1.below hb) (BD.o.2.1.trans (hb.mono BD.o.2.1.size)) BD.o.r2.1 (BD.o.r3.below hb) hN;have kS:=ak (l9 hb kS.o);have C4:=hid (HS2.o u3 BD.o.2.1)
     clear hb hd hN C3)
  | (go_at_call 63
     with_reducible refine C4.o.mono ?_
     rintro r u4 ⟨hd,hb⟩;obtain⟨a4,c4,rfl,hN⟩:=hd.aD;have BD:=iC (BD.o.1.below hb) (BD.o.2.1.trans (hb.mono BD.o.2.1.size)) BD.o.r2.1 (BD.o.r3.1.below hb) (BD.o.r4.below hb) hN;have kS:=ak (l9 hb kS.o);have C5:=hid (jw FF.o.r3.1 FF.o.r4.1 FF.o.r5.1 BD.o.r4.1 BD.o.r5 EE.o.2.1)
     clear hb hd hN C4)
  | (go_at_call 64
     with_reducible refine C5.o.mono ?_
     rintro r u5 ⟨hd,hb⟩;obtain⟨a5,c5,rfl,hN⟩:=hd.aD;have BD:=dJ (BD.o.1.below hb) (BD.o.2.1.trans (hb.mono BD.o.2.1.size)) BD.o.r2.1 (BD.o.r3.1.below hb) hN;have kS:=ak (l9 hb kS.o);have C6:=hid (Jf FF.o.r2.1 FF.o.r5.1 FF.o.r6 BD.o.r3.1 BD.o.r4 EE.o.r2)
     clear hb hd hN C5)
  | (go_at_call 65
     with_reducible refine C6.o.mono ?_
     rintro r u6 ⟨hd,hb⟩;obtain⟨a6,c6,rfl,hN⟩:=hd.aD;have BD:=fE (BD.o.1.below hb) (BD.o.2.1.trans (hb.mono BD.o.2.1.size)) BD.o.r2.1 hN;have kS:=ak (l9 hb kS.o);have kT:=bO (lG (g:=w.heap.size) (x:=.bool (dN oR)) (y:=.slice a6 (ws (dX oR)).length c6) (z:=.int .i64 (dE oR)) kS.o.1 (show g5≠w.heap.size by have:=BD.o.r2.1;omega)) (lG (g:=w.heap.size) (x:=.bool (dN oR)) (y:=.slice a6 (ws (dX oR)).length c6) (z:=.int .i64 (dE oR)) kS.o.2.1 (show g5≠w.heap.size by have:=BD.o.r2.1;omega)) (lG (g:=w.heap.size) (x:=.bool (dN oR)) (y:=.slice a6 (ws (dX oR)).length c6) (z:=.int .i64 (dE oR)) kS.o.r2 (show g5≠w.heap.size by have:=BD.o.r2.1;omega));obtain⟨zp,zq,DZ,MZ⟩:=BD.o.1;obtain⟨z0,z1,z2,dO,dP,dQ⟩:=DZ.facts;clear DZ MZ
     clear hb hd hN C6))
 go_wp2;exact iL Tryz.results59 rfl BD.o.1 BD.o.2.1 (aA _) BD.o.r3
theorem Dk.bt14{w w':World}{g g':Nat}{n:Bool}{v:Value}{e:Int}(h:Dk w g n v e)(hb:But g' w w')(hg:g≠g'):w'.cell? ⟨g,0,none⟩=some (.bool n)/\w'.cell? ⟨g,1,none⟩=some v/\w'.cell? ⟨g,2,none⟩=some (.int .i64 e):=by
 have:Dk w' g n v e:=by unfold Dk;rw[hb.block g h.lt hg];exact h
 exact⟨this.facts.1,this.facts.2.1,this.facts.2.2.1⟩
theorem ZX(oV:Option (Bool×Nat×Int))(a:Option Addr)(c n:Nat)(less:Int)(w:World)(hn:n<=1099511627776)(h0:0<=less)(h1:less<=1)(hN:Nt 0 w (.slice a (ws (dX oV)).length c) (dX oV)) :
 As 58 #[.agg #[.bool (dN oV),.slice a (ws (dX oV)).length c,.int .i64 (dE oV)],.int .i64 (n:Nat),.int .i64 less] w fun r w'=>(∃ b d,r=.returned (.agg #[.bool (dN oV),.slice a (ws (dX oV)).length c,.int .i64 (dE oV),.bool (dN (gV 0 ((n:Int)*((n:Int)-less)))),.slice b (ws (dX (gV 0 ((n:Int)*((n:Int)-less))))).length d,.int .i64 (dE (gV 0 ((n:Int)*((n:Int)-less))))])/\Nt 0 w' (.slice a (ws (dX oV)).length c) (dX oV)/\Nt 0 w' (.slice b (ws (dX (gV 0 ((n:Int)*((n:Int)-less))))).length d) (dX (gV 0 ((n:Int)*((n:Int)-less)))))/\An w w':=by
 have b1:Bd 41 (n:Int):=Bd.nat (by omega);have b2:Bd 41 ((n:Int)-less):=by unfold Bd;omega
 obtain⟨oA,hA⟩:=af (gV 0 (n:Int));obtain⟨oB,hB⟩:=af (gV 0 ((n:Int)-less));obtain⟨oD,hD⟩:=af (gV 0 ((n:Int)*((n:Int)-less)));have FA:Fm oA:=by rw[hA];exact aZ (by decide) (by decide) b1
 have FB:Fm oB:=by rw[hB];exact aZ (by decide) (by decide) b2
 have FD:Fm oD:=by rw[hD];exact aZ (by decide) (by decide) (b1.mul b2)
 have E:dY oA oB=oD:=by rw[hA,hB,hD];exact iR (by decide) (by decide) (by decide) (by decide) b1 b2
 rw[<-hD];have HI1:Hid (∀ u:World,As 14 #[.int .i64 (n:Nat)] u fun r w'=>aN 0 w' r oA/\An u w'):=fun u=>by rw[hA];exact qK n u (by omega) (by omega)
 have HI2:Hid (∀ u:World,As 14 #[.int .i64 ((n:Int)-less)] u fun r w'=>aN 0 w' r oB/\An u w'):=fun u=>by rw[hB];exact qK _ u (by omega) (by omega)
 have FF:=(fE FA FB FD E);have hwr:IntKind.i64.wrap ((n:Int)-less)=(n:Int)-less:=by rw[zY];omega
 obtain⟨W,jV⟩:=af ((w.alloc (Obj.cells #[.bool (dN oV),.slice a (ws (dX oV)).length c,.int .i64 (dE oV)] 37)).alloc (Obj.cells #[.bool false,.slice none 0 0,.int .i64 0,.bool false,.slice none 0 0,.int .i64 0] 73))
 have H0:Aside (Dk W w.heap.size (dN oV) (.slice a (ws (dX oV)).length c) (dE oV)/\Bl W (w.heap.size+1) 73 [.bool false,.slice none 0 0,.int .i64 0,.bool false,.slice none 0 0,.int .i64 0]/\An w W/\Nt 0 W (.slice a (ws (dX oV)).length c) (dX oV)):=by
  have hbW:An w W:=by rw[jV];exact(ae _ _).trans ((ae _ _).mono (by simp))
  refine⟨?_,?_,hbW,hN.below hbW⟩
  · rw[jV];exact(Dk.new _ _ _ _).below (ae _ _)
  · have z:=Bl.new (w.alloc (Obj.cells #[.bool (dN oV),.slice a (ws (dX oV)).length c,.int .i64 (dE oV)] 37)) 73 [.bool false,.slice none 0 0,.int .i64 0,.bool false,.slice none 0 0,.int .i64 0];rw[dA] at z;rw[jV];exact z
 have jB:=ak jV;clear jV hN hA hB hD FA FB FD E b1 b2 hn h0 h1;go_enter Tryz.func58,Tryz.ntmps58
 go_upto_region 1 with fail
 rw[<-jB.o];clear jB;have hdr:=(aB W.heap.size W).drew;have kS:Aside (W.drew.cell? ⟨w.heap.size,0,none⟩=some (.bool (dN oV))/\W.drew.cell? ⟨w.heap.size,1,none⟩=some (.slice a (ws (dX oV)).length c)/\W.drew.cell? ⟨w.heap.size,2,none⟩=some (.int .i64 (dE oV))):=⟨(H0.o.1.below hdr).facts.1,(H0.o.1.below hdr).facts.2.1,(H0.o.1.below hdr).facts.2.2.1⟩;have BD:=(fE (H0.o.2.1.below hdr H0.o.2.1.lt) (H0.o.r2.1.trans (hdr.mono H0.o.r2.1.size)) (H0.o.1.below hdr) (H0.o.r3.below hdr));have C1:=hid (HI1.o W.drew);clear hdr H0
 go_region_held3 (fun w'=>w'.cell? ⟨w.heap.size,0,none⟩=some (.bool (dN oV))/\w'.cell? ⟨w.heap.size,1,none⟩=some (.slice a (ws (dX oV)).length c)/\w'.cell? ⟨w.heap.size,2,none⟩=some (.int .i64 (dE oV))) (first | with_reducible exact kS.o | with_reducible exact kT.o) (first
  | (go_at_call 14
     with_reducible refine C1.o.mono ?_
     rintro r u1 ⟨hd,hb⟩;obtain⟨a1,c1,rfl,hN⟩:=hd.aD;have BD:=dJ (BD.o.1.below hb BD.o.1.lt) (BD.o.2.1.trans (hb.mono BD.o.2.1.size)) (BD.o.r2.1.below hb) (BD.o.r3.below hb) hN;have kS:=ak (l9 hb kS.o);have C2:=hid (HI2.o u1)
     clear hb hd hN C1)
  | (go_at_call 14
     with_reducible refine C2.o.mono ?_
     rintro r u2 ⟨hd,hb⟩;obtain⟨a2,c2,rfl,hN⟩:=hd.aD;have BD:=iC (BD.o.1.below hb BD.o.1.lt) (BD.o.2.1.trans (hb.mono BD.o.2.1.size)) (BD.o.r2.1.below hb) (BD.o.r3.1.below hb) (BD.o.r4.below hb) hN;have kS:=ak (l9 hb kS.o);have C3:=hid (jw FF.o.1 FF.o.2.1 FF.o.r2.1 BD.o.r4.1 BD.o.r5 FF.o.r3)
     clear hb hd hN C2)
  | (go_at_call 64
     with_reducible refine C3.o.mono ?_
     rintro r u3 ⟨hd,hb⟩;obtain⟨a3,c3,rfl,hN⟩:=hd.aD;have BD:=dJ (BD.o.1.below hb BD.o.1.lt) (BD.o.2.1.trans (hb.mono BD.o.2.1.size)) (BD.o.r2.1.below hb) (BD.o.r3.1.below hb) hN;have kS:=ak (l9 hb kS.o);have HQ:=ak (((((((But.refl (w.heap.size+1) u3).set 0 (.bool (dN oV))).set 1 (.slice a (ws (dX oV)).length c)).set 2 (.int .i64 (dE oV))).set 3 (.bool (dN oD))).set 4 (.slice a3 (ws (dX oD)).length c3)).set 5 (.int .i64 (dE oD)));have kT:=ak (BD.o.r2.1.bt14 HQ.o (by omega));have r0:=BD.o.1.frozen 0;have r1:=BD.o.1.frozen 1;have r2:=BD.o.1.frozen 2;have r3:=BD.o.1.frozen 3;have r4:=BD.o.1.frozen 4;have r5:=BD.o.1.frozen 5;have k0:=BD.o.1.cell 0 _ rfl;have k1:=BD.o.1.cell 1 _ rfl;have k2:=BD.o.1.cell 2 _ rfl;have k3:=BD.o.1.cell 3 _ rfl;have k4:=BD.o.1.cell 4 _ rfl;have k5:=BD.o.1.cell 5 _ rfl
     clear hb hd hN C3))
 go_wp2;have qq:=(((((BD.o.1.set 0 (.bool (dN oV))).set 1 (.slice a (ws (dX oV)).length c)).set 2 (.int .i64 (dE oV))).set 3 (.bool (dN oD))).set 4 (.slice a3 (ws (dX oD)).length c3)).set 5 (.int .i64 (dE oD));have g0:=qq.cell 0 _ rfl;have g1:=qq.cell 1 _ rfl;have g2:=qq.cell 2 _ rfl;have g3:=qq.cell 3 _ rfl;have g4:=qq.cell 4 _ rfl;have g5:=qq.cell 5 _ rfl;have aG:=HQ.o;refine aC (v:=.agg #[.bool (dN oV),.slice a (ws (dX oV)).length c,.int .i64 (dE oV),.bool (dN oD),.slice a3 (ws (dX oD)).length c3,.int .i64 (dE oD)]) (by simp[results,Tryz.results58,go_sem,g0,g1,g2,g3,g4,g5]) rfl ⟨⟨_,_,rfl,?_,?_⟩,?_⟩
 · exact BD.o.r3.1.off aG (BD.o.r3.1.fJ (by decide) BD.o.1)
 · exact BD.o.r4.off aG (BD.o.r4.fJ (by decide) BD.o.1)
 · exact But.below BD.o.2.1 aG BD.o.2.1.size (by omega)
end
section
open Go.ChangeShapes Go.WideShapes Go.ChangeAt Go.RowKit
theorem ZY{H:Type}{enc:TypeId×Value->H}{P:Program}{w:World}{base:Nat}{spare:Nat->Bool}{held:Bool}{fuel:Nat}{t:TypeId}{cs:List Value}{x:DataW H×List MemPlace}{k:FloatKind}(ht:P.underlying t=some (.float k))(h:DataW.trod enc P w base spare held fuel t cs=some x):∃ n,cs=[.float k n]/\x=(.lit (.float k n),[])/\(Lit.float k n).wf=true:=by
 cases fuel with
 | zero=>simp[DataW.trod] at h
 | succ m =>
   simp only[DataW.trod,ht] at h
   split at h <;> simp_all
structure QX (w:World) (a:Option Addr) (n c:Nat) (xs:List Nat):Prop where
 len:n=xs.length
 cap:n<=c
 wf:j4 xs
 rd:Fs w.heap.size w a xs
 nil:a=none->c=0
theorem MC(b off i:Nat):(⟨b,off,none⟩:Addr).add i=⟨b,off+i,none⟩:=by unfold Addr.add;split <;> simp_all
def UZ{H:Type}(y:DataW H×List MemPlace):Nat:=match y.1 with | .lit (.float _ n)=>n | _=>0
theorem Tryz.XK:Tryz.prog.cellsOf 23=1:=by kernel_rfl
theorem Tryz.XL:Tryz.prog.bytesOf 23=8:=by kernel_rfl
theorem EF{H:Type}{enc:TypeId×Value->H}{W:World}{a:Option Addr}{n c:Nat}{d:DataW H}{p:List MemPlace}(h:DataW.Trod enc Tryz.prog W 0 (fun _=>true) true 27 (.slice a n c) d p) :
 ∃ xs,QX W a n c xs/\((d=.nil/\c=0)\/∃ elems spare:List (DataW H),d=.slice elems spare/\elems.length+spare.length=c):=by
 obtain⟨fuel,hf⟩:=h;rcases DataW.trod_slice Tryz.underlying27 hf with ⟨hcs,hx⟩|⟨x,l,cp,elems,rest,m,_,hcs,hx,hb,hl,hm,hlen,hel,hsp,hns⟩
 · simp[Value.cells] at hcs;obtain⟨rfl,rfl,rfl⟩:=hcs;exact⟨[],⟨rfl,aA _,(fun x hx=>by cases hx),(fun h=>absurd rfl h),fun _=>rfl⟩,.inl ⟨(eP hx).1,rfl⟩⟩
 · simp[Value.cells] at hcs;obtain⟨rfl,rfl,rfl⟩:=hcs
   have each:∀ i y,i<n->elems[i]?=some y->y=(.lit (.float .f64 (UZ y)),[])/\(Lit.float .f64 (UZ y)).wf=true/\W.cell? (x.add i)=some (.float .f64 (UZ y)):=by
    intro i y hi hy;have hb':=hel i hi;rw[hy,Tryz.XK,eO,Option.bind_eq_some_iff] at hb';obtain⟨cs',hcs,hy'⟩:=hb';obtain⟨k,rfl,rfl,hw⟩:=ZY Tryz.underlying23 hy';exact⟨rfl,hw,cell_of_cells?_one hcs⟩
   refine⟨elems.map UZ,⟨by simp[hlen],hl,?_,?_,fun e=>by cases e⟩,.inr ⟨_,_,(eP hx).1,?_⟩⟩
   · intro y hy;obtain⟨z,hz,rfl⟩:=List.mem_map.1 hy;obtain⟨i,hi⟩:=List.getElem?_of_mem hz;have hil:=(zH.1 hi).1;have:=(each i z (by omega) hi).2.1;exact of_decide_eq_true this
   · intro hne;obtain⟨b,off,spot⟩:=x
     have hn0:0<n:=by
      rcases kU n with h0|h0
      · rw[h0] at hlen;have:=uy hlen;subst this;simp at hne
      · exact h0
     have hc0:=(each 0 (elems[0]'(by omega)) hn0 (jb _)).2.2;have hspot:spot=none:=by simpa [Addr.add] using World.cell?_spot hc0
     subst hspot;refine⟨b,off,lK W _ (by simpa [Addr.add] using hc0),rfl,fun i hi=>?_⟩;rw[List.length_map] at hi;have hadd:=MC b off i;have:=(each i (elems[i]'hi) (by omega) (jb _)).2.2;rw[hadd] at this;rw[this];simp[fP,hi]
   · have hr:=(hsp rfl).1;simp only[List.length_map];omega
theorem uV {H:Type}{ts:List TypeId}{ds:List (DataW H)}(h:(DataW.weightsEach Tryz.prog ts ds).all (·<=reachBytes)=true) {j:Nat}{d:DataW H}{c n:Nat}(ht:ts[j]?=some 27) (hd:ds[j]?=some d) (hn:n<=c)
 (hc:(d=.nil/\c=0)\/∃ elems spare:List (DataW H),d=.slice elems spare/\elems.length+spare.length=c):n<=17592186043904:=by
 rcases hc with ⟨_,rfl⟩|⟨elems,spare,rfl,hl⟩
 · omega
 · have:=sized_slice h ht hd Tryz.underlying27;rw[Tryz.XL,hl] at this;simp only[reachBytes] at this;omega
end
section
open Go Go.RowKit J
theorem lI{w:World}{g n:Nat}{xs:List Nat}(h:fK w g (xs++[4634696597773484032,4634766966517661696]))(hn:n=xs.length):Fs w.heap.size w (some ⟨g,0,none⟩) xs:=by
 have:=h.fs h.lt n;rw[Ch (by omega),iy (by omega)] at this;exact this
theorem ZZ(x:Nat)(hx:x<18446744073709551616)(w:World)(er:Int)(he:er=if fD x then 0 else 30) :
 As 107 #[.float .f64 x] w fun r w'=>(∃ n a l c e,r=.returned (.tuple #[.agg #[.bool n,.slice a l c,.int .i64 e],.int .i64 er]))/\An w w':=by
 by_cases fx:fD x
 · rw[he,if_pos fx];refine(Vu x hx fx w).mono ?_;rintro r u ⟨⟨v,rfl,hN⟩,hb⟩;obtain⟨a,c,rfl,_⟩:=(hN.mono (oh _)).aD;exact⟨⟨_,a,_,c,_,rfl⟩,hb⟩
 · rw[he,if_neg fx];refine(Ma x hx fx w).mono ?_;rintro r u ⟨⟨a,c,rfl,hN⟩,hb⟩;exact⟨⟨_,a,_,c,_,rfl⟩,hb⟩
theorem XM{xs:List Nat}{k:Nat}(hk:k<xs.length)(h:¬ fD (xs.getD k 0)):BH xs=false:=by
 rw[Bool.eq_false_iff];intro hb;refine h ((gU xs).1 hb _ ?_);rw[fP,jb hk];exact nN hk
theorem U4{xs:List Nat}(h:∀ k,k<xs.length->fD (xs.getD k 0)):BH xs=true:=by
 refine(gU xs).2 fun x hx=>?_;obtain⟨k,hk,rfl⟩:=List.getElem_of_mem hx;have:=h k hk;rw[fP,jb hk] at this;exact this
theorem uj(xs:List Nat)(a:Option Addr)(n c:Nat)(w:World)(hn:n=xs.length)(hF:Fs w.heap.size w a xs)(hW:j4 xs)(hl:n<=35184372088832)(z:Bool)(hz:BH xs=z) :
 At 62 #[.slice a n c] w (.bool z):=by
 have HX:=(fE hn hF hW hz);clear hn hF hW hz;go_enter Tryz.func62,Tryz.ntmps62;go_wp2
 go_loopg [3] n (fun gk i wr=>∃ k:Nat,gk+k=n/\i=.int .i64 (k:Nat)/\Aside (An w wr/\∀ j,j<k->fD (xs.getD j 0)))
 case atStart=>exact⟨0,by omega,by first | rfl | simp,aB _ _,fun j hj=>absurd hj (Nat.not_lt_zero _)⟩
 case round =>
  obtain⟨k,Ff,rfl,HA⟩:=hrel
  by_cases hk:k<n
  · obtain⟨b,off,rfl,hcl⟩:=(HX.o.2.1.below HA.o.1).at (aB _ _) k (by rw[<-HX.o.1];exact hk);obtain⟨x,hx⟩:=af (xs.getD k 0);obtain⟨er,he⟩:∃ er:Int,er=if fD x then 0 else 30:=⟨_,rfl⟩
    have D5:x<18446744073709551616:=by
     rw[hx,fP,jb (by rw[<-HX.o.1];exact hk)];exact HX.o.r2.1 _ (nN _)
    rw[<-hx] at hcl;have HO:=hid (ZZ x D5 wr er he);have hd:decide ((k:Int)<(n:Int))=true:=by simp;omega
    have HE:=(aJ hx he);clear hx he D5;go_wp2_with fail;refine HO.o.mono ?_;rintro r u ⟨⟨ng,p,l,q,e,rfl⟩,hb⟩;have HB:=ak (HA.o.1.trans (hb.mono HA.o.1.size));clear hb HO
    by_cases fx:fD x
    · obtain rfl:er=0:=by rw[HE.o.2,if_pos fx]
      have HQ:=ak fx;clear fx;go_wp2;go_roundg (gk-1)
      case measure=>omega
      case rel =>
       refine⟨k+1,by omega,by go_num,HB.o.trans ((ae _ _).mono HB.o.size),fun j hj=>?_⟩
       by_cases hj2:j=k
       · rw[hj2,<-HE.o.1];exact HQ.o
       · exact HA.o.2 j (by omega)
    · obtain rfl:er=30:=by rw[HE.o.2,if_neg fx]
      obtain rfl:z=false:=by rw[<-HX.o.r3];exact XM (by rw[<-HX.o.1];exact hk) (by rw[<-HE.o.1];exact fx)
      clear fx;go_wp2;go_ret;exact⟨rfl,HB.o.trans ((ae _ _).mono HB.o.size)⟩
  · have hkn:k=n:=by omega
    subst hkn;obtain rfl:z=true:=by rw[<-HX.o.r3];exact U4 fun j hj=>HA.o.2 j (by rw[HX.o.1];exact hj)
    go_wp2;go_ret;exact⟨rfl,HA.o.1⟩
def qw(xs ys:List Nat)(less:Int):Int:=if nW xs ys=0 then(if (xs.length:Int)<=less then 3 else 0) else nW xs ys
theorem EG{xs ys:List Nat}{less:Int}(h:65536<xs.length\/65536<ys.length):qw xs ys less=2:=by
 have:nW xs ys=2:=by unfold nW;rw[if_pos h]
 unfold qw;rw[this];rfl
theorem U5{xs ys:List Nat}{less:Int}(h:¬ (65536<xs.length\/65536<ys.length))(h2:xs.length≠ys.length):qw xs ys less=4:=by
 have:nW xs ys=4:=by unfold nW;rw[if_neg h,if_pos h2]
 unfold qw;rw[this];rfl
theorem U6{xs ys:List Nat}{less:Int}(h:¬ (65536<xs.length\/65536<ys.length))(h2:¬ xs.length≠ys.length)(h3:BH xs=false\/BH ys=false):qw xs ys less=30:=by
 have:nW xs ys=30:=by
  unfold nW nV;rw[if_neg h,if_neg h2,if_neg (fun q=>h (Or.inl q)),if_neg (fun q=>h (Or.inr q))];rcases h3 with h3|h3
  · rw[h3];rfl
  · rw[h3];cases BH xs <;> rfl
 unfold qw;rw[this];rfl
theorem XN{xs ys:List Nat}{less:Int}(h:¬ (65536<xs.length\/65536<ys.length))(h2:¬ xs.length≠ys.length)(h3:BH xs=true)(h4:BH ys=true):qw xs ys less=if (xs.length:Int)<=less then 3 else 0:=by
 have:nW xs ys=0:=by
  unfold nW nV;rw[if_neg h,if_neg h2,if_neg (fun q=>h (Or.inl q)),if_neg (fun q=>h (Or.inr q)),h3,h4];rfl
 unfold qw;rw[this,if_pos rfl]
theorem QY(xs ys:List Nat)(a a2:Option Addr)(n n2 c c2:Nat)(less:Int)(w:World)(hn:n=xs.length)(hn2:n2=ys.length)(hF:Fs w.heap.size w a xs)(hG:Fs w.heap.size w a2 ys)(hW:j4 xs)(hW2:j4 ys)(hl:n<=35184372088832)(hl2:n2<=35184372088832)(z:Int)(hz:qw xs ys less=z) :
 At 69 #[.slice a n c,.slice a2 n2 c2,.int .i64 less] w (.int .i64 z):=by
 subst hz;have H1:=hid (uj xs a n c w hn hF hW hl _ rfl);have H2:=hid (fun(u:World) (hb:An w u)=>uj ys a2 n2 c2 u hn2 ((hG.below hb).mono hb.size) hW2 hl2 _ rfl);have HX:=(aJ hn hn2);clear hF hG hW hW2 hl hl2
 by_cases g1:65536<n
 · have hd:decide ((65536:Int)<(n:Int))=true:=decide_eq_true (by omega);rw[EG (by rw[<-hn];exact Or.inl g1)];clear hn hn2 H1 H2;go_enter Tryz.func69,Tryz.ntmps69;go_wp2;go_ret;exact⟨rfl,aB _ _⟩
 have hd:decide ((65536:Int)<(n:Int))=false:=decide_eq_false (by omega)
 by_cases g2:65536<n2
 · have hd2:decide ((65536:Int)<(n2:Int))=true:=decide_eq_true (by omega);rw[EG (by rw[<-hn2];exact Or.inr g2)];clear hn hn2 H1 H2;go_enter Tryz.func69,Tryz.ntmps69;go_wp2;go_ret;exact⟨rfl,aB _ _⟩
 have hd2:decide ((65536:Int)<(n2:Int))=false:=decide_eq_false (by omega);have q1:¬ (65536<xs.length\/65536<ys.length):=by rw[<-hn,<-hn2];omega
 by_cases g3:n=n2
 · have hb3:((n:Int) != (n2:Int))=false:=by simp[g3]
   have q2:¬ xs.length≠ys.length:=by rw[<-hn,<-hn2];simpa using g3
   have E1:∀ less:Int,(BH xs=false\/BH ys=false)->qw xs ys less=30:=fun less h=>U6 q1 q2 h;have E2:∀ less:Int,BH xs=true->BH ys=true->qw xs ys less=if (n:Int)<=less then 3 else 0:=fun less h h'=>by rw[XN q1 q2 h h',hn]
   have EE:=(aJ E1 E2);clear hn hn2 q1 q2 E1 E2 g3;obtain⟨z1,hz1⟩:=af (BH xs);obtain⟨z2,hz2⟩:=af (BH ys);obtain⟨zz,hzz⟩:=af (qw xs ys less);rw[<-hz1] at H1;rw[<-hz2] at H2;rw[<-hzz];have EZ:=(bO hz1 hz2 hzz);clear hz1 hz2 hzz;go_enter Tryz.func69,Tryz.ntmps69;go_wp2_with fail;refine H1.o.mono ?_;rintro r u ⟨rfl,hb⟩;have B1:=ak hb;clear hb H1;go_wp2_with fail;refine(H2.o u B1.o).mono ?_;rintro r u2 ⟨rfl,hb⟩;have B2:=ak (B1.o.trans (hb.mono B1.o.size));clear hb H2 B1
   cases z1 with
   | false =>
     obtain rfl:zz=30:=by rw[EZ.o.r2];exact EE.o.1 less (Or.inl EZ.o.1.symm)
     go_wp2;go_ret;exact⟨rfl,B2.o⟩
   | true =>
     cases z2 with
     | false =>
       obtain rfl:zz=30:=by rw[EZ.o.r2];exact EE.o.1 less (Or.inr EZ.o.2.1.symm)
       go_wp2;go_ret;exact⟨rfl,B2.o⟩
     | true =>
       by_cases g4:(n:Int)<=less
       · have hd4:decide ((n:Int)<=less)=true:=decide_eq_true g4;obtain rfl:zz=3:=by rw[EZ.o.r2,EE.o.2 less EZ.o.1.symm EZ.o.2.1.symm,if_pos g4]
         clear g4;go_wp2;go_ret;exact⟨rfl,B2.o⟩
       · have hd4:decide ((n:Int)<=less)=false:=decide_eq_false g4;obtain rfl:zz=0:=by rw[EZ.o.r2,EE.o.2 less EZ.o.1.symm EZ.o.2.1.symm,if_neg g4]
         clear g4;go_wp2;go_ret;exact⟨rfl,B2.o⟩
 · have hb3:((n:Int) != (n2:Int))=true:=by simp;omega
   rw[U5 q1 (by rw[<-hn,<-hn2];exact g3)];clear hn hn2 H1 H2 g3 q1;go_enter Tryz.func69,Tryz.ntmps69;exact Qad
end
end Go.Proofs.YteginbngplldaaaGreatDoor
