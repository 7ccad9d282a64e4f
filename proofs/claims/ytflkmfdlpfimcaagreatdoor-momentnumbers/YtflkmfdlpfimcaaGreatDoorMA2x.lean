import Derived.Test.YtflkmfdlpfimcaaGreatDoorMO18x
import Derived.Test.YtflkmfdlpfimcaaGreatDoorD30x
set_option linter.unusedVariables false
set_option linter.unusedSimpArgs false
set_option maxHeartbeats 16000000
set_option maxRecDepth 20000
namespace Go.Proofs.YtflkmfdlpfimcaaGreatDoor
namespace J
end J
section
open Go Go.RowKit J
theorem OfLit14 {w:World}{as' ap:Option Addr}{cs cp:Nat}(n s q less mode:Int) (hs:0≤s∧s≤100) (hq:0≤q∧q≤100) (h1:Nt 0 w (.slice as' (ws (dX (gV 0 s))).length cs) (dX (gV 0 s))) (h2:Nt 0 w (.slice ap (ws (dX (gV 0 q))).length cp) (dX (gV 0 q))) (hT:Tab w) (hn:-9223372036854775808≤n∧n≤9223372036854775807)
 (z:Nat×Int) (hz:ofR14 n (difO (mulD (gV 0 n) (gV 0 q)) (mulD (gV 0 s) (gV 0 s))) less mode=z) :
 Calls Tryz.prog 13 #[.int .i64 n,.agg #[.bool (dN (gV 0 s)),.slice as' (ws (dX (gV 0 s))).length cs,.int .i64 (dE (gV 0 s))],.agg #[.bool (dN (gV 0 q)),.slice ap (ws (dX (gV 0 q))).length cp,.int .i64 (dE (gV 0 q))],.int .i64 less,.int .i64 mode] w fun r w'=>r=.returned (.tuple #[.float .f64 z.1,.int .i64 z.2])∧Below w.heap.size w w':=by
 have F:∀ x:Int,0≤x∧x≤100→Fm (gV 0 x):=fun x hx=>by
  obtain ⟨k,rfl⟩:=Int.eq_ofNat_of_zero_le hx.1;exact g_fm (m:=7) (by decide) (by decide) (Bd.nat (by omega))
 have F1:=F s hs;have F2:=F q hq;refine Of14 n (dN (gV 0 s)) (dN (gV 0 q)) (dE (gV 0 s)) (dE (gV 0 q)) less mode (F1.a12 h1) (F2.a12 h2) hT hn ?_ ?_ z ?_
 · have:=F1.rng;omega
 · have:=F2.rng;omega
 · rw [val_ws,val_ws,F1.re,F2.re]
   exact hz
set_option maxRecDepth 100000 in
theorem awake14 (w:World) (hT:Tab w):Calls Tryz.prog 8 #[] w fun r w'=>r=.returned (.bool true)∧Below w.heap.size w w':=by
 have HT:=qsd hT;have BD:=qsd (Below.refl w.heap.size w);clear hT;go_enter Tryz.func8,Tryz.ntmps8;obtain ⟨W1,hW1⟩:∃ W,W=(w.alloc (Obj.cells #[.float .f64 4607182418800017408,.float .f64 4611686018427387904,.float .f64 4613937818241073152,.float .f64 4616189618054758400] 23)):=⟨_,rfl⟩;obtain ⟨g1,hg1⟩:∃ g,g=w.heap.size:=⟨_,rfl⟩;have BE:=qsd BD.out;have q0:Below w.heap.size w W1:=by rw [hW1];exact below_alloc _ _
 have q1:Fs W1.heap.size W1 (some ⟨g1,0,none⟩) [4607182418800017408,4611686018427387904,4613937818241073152,4616189618054758400]:=by rw [hW1,hg1];exact lit14 w [4607182418800017408,4611686018427387904,4613937818241073152,4616189618054758400]
 have BD:=qsd (ai (BD.out.trans (q0.mono BD.out.size)) q1);have HE:=(qsd (ai hW1 hg1));clear hW1 hg1 q0 q1 BE
 go_wp2_with fail
 rw [←HE.out.1,←HE.out.2];clear HE;refine (plain14 W1).mono ?_;rintro r u2 ⟨rfl,hb⟩;have BD:=qsd (ai (BD.out.1.trans (hb.mono BD.out.1.size)) ((BD.out.2.below hb).mono hb.size));clear hb;have C:Hid (Calls Tryz.prog 10 #[.slice (some ⟨g1,0,none⟩) 4 4,.int .i64 0,.int .i64 0,.agg #[.int .i64 0,.int .i64 0]] u2 fun r w'=>r=.returned (.tuple #[.float .f64 4608308318706860032,.int .i64 0])∧Below u2.heap.size u2 w'):=hid (Var14 [4607182418800017408,4611686018427387904,4613937818241073152,4616189618054758400] _ 4 4 0 0 0 0 u2 rfl BD.out.2 (w64_of (by decide)) (HT.out.belows BD.out.1) (by decide) (4608308318706860032,0) (cVa.trans (by decide +kernel)))
 go_wp2_with fail
 refine C.out.mono ?_;rintro r u3 ⟨rfl,hb⟩;have BD:=qsd (ai (BD.out.1.trans (hb.mono BD.out.1.size)) ((BD.out.2.below hb).mono hb.size));clear hb C
 go_wp2_with fail
 refine (plain14 u3).mono ?_;rintro r u4 ⟨rfl,hb⟩;have BD:=qsd (ai (BD.out.1.trans (hb.mono BD.out.1.size)) ((BD.out.2.below hb).mono hb.size));clear hb;have C:Hid (Calls Tryz.prog 10 #[.slice (some ⟨g1,0,none⟩) 4 4,.int .i64 1,.int .i64 0,.agg #[.int .i64 0,.int .i64 0]] u4 fun r w'=>r=.returned (.tuple #[.float .f64 4610184818551597739,.int .i64 0])∧Below u4.heap.size u4 w'):=hid (Var14 [4607182418800017408,4611686018427387904,4613937818241073152,4616189618054758400] _ 4 4 1 0 0 0 u4 rfl BD.out.2 (w64_of (by decide)) (HT.out.belows BD.out.1) (by decide) (4610184818551597739,0) (cVb.trans (by decide +kernel)))
 go_wp2_with fail
 refine C.out.mono ?_;rintro r u5 ⟨rfl,hb⟩;have BD:=qsd (ai (BD.out.1.trans (hb.mono BD.out.1.size)) ((BD.out.2.below hb).mono hb.size));clear hb C
 go_wp2_with fail
 refine (plain14 u5).mono ?_;rintro r u6 ⟨rfl,hb⟩;have BD:=qsd (ai (BD.out.1.trans (hb.mono BD.out.1.size)) ((BD.out.2.below hb).mono hb.size));clear hb;have C:Hid (Calls Tryz.prog 19 #[.slice (some ⟨g1,0,none⟩) 4 4,.int .i64 1,.int .i64 0,.agg #[.int .i64 0,.int .i64 0]] u6 fun r w'=>r=.returned (.tuple #[.float .f64 4608492941290910865,.int .i64 0])∧Below u6.heap.size u6 w'):=hid (Std14 [4607182418800017408,4611686018427387904,4613937818241073152,4616189618054758400] _ 4 4 1 0 0 0 u6 rfl BD.out.2 (w64_of (by decide)) (HT.out.belows BD.out.1) (by decide) (4608492941290910865,0) (cSc.trans (by decide +kernel)))
 go_wp2_with fail
 refine C.out.mono ?_;rintro r u7 ⟨rfl,hb⟩;have BD:=qsd (ai (BD.out.1.trans (hb.mono BD.out.1.size)) ((BD.out.2.below hb).mono hb.size));clear hb C;have BD:=qsd BD.out.1;obtain ⟨W8,hW8⟩:∃ W,W=(u7.alloc (Obj.cells #[.float .f64 4607182418800017408,.float .f64 4611686018427387904,.float .f64 4618441417868443648] 23)):=⟨_,rfl⟩;obtain ⟨g8,hg8⟩:∃ g,g=u7.heap.size:=⟨_,rfl⟩;have BE:=qsd BD.out;have q0:Below u7.heap.size u7 W8:=by rw [hW8];exact below_alloc _ _
 have q1:Fs W8.heap.size W8 (some ⟨g8,0,none⟩) [4607182418800017408,4611686018427387904,4618441417868443648]:=by rw [hW8,hg8];exact lit14 u7 [4607182418800017408,4611686018427387904,4618441417868443648]
 have BD:=qsd (ai (BD.out.trans (q0.mono BD.out.size)) q1);have HE:=(qsd (ai hW8 hg8));clear hW8 hg8 q0 q1 BE;have C:Hid (Calls Tryz.prog 15 #[.slice (some ⟨g8,0,none⟩) 3 3,.int .i64 3,.int .i64 0] W8 fun r w'=>r=.returned (.tuple #[.float .f64 4618441417868443648,.int .i64 0])∧Below W8.heap.size W8 w'):=hid (Central14 [4607182418800017408,4611686018427387904,4618441417868443648] _ 3 3 3 0 W8 rfl BD.out.2 (w64_of (by decide)) (HT.out.belows BD.out.1) (by decide) (4618441417868443648,0) (cCen.trans (by decide +kernel)))
 go_wp2_with fail
 rw [←HE.out.1,←HE.out.2];clear HE;refine C.out.mono ?_;rintro r u9 ⟨rfl,hb⟩;have BD:=qsd (ai (BD.out.1.trans (hb.mono BD.out.1.size)) ((BD.out.2.below hb).mono hb.size));clear hb C;have BD:=qsd BD.out.1;obtain ⟨W10,hW10⟩:∃ W,W=((u9.alloc (Obj.cells #[.float .f64 4607182418800017408,.float .f64 4611686018427387904,.float .f64 4613937818241073152] 23)).alloc (Obj.cells #[.float .f64 4611686018427387904,.float .f64 4616189618054758400,.float .f64 4619567317775286272] 23)):=⟨_,rfl⟩;obtain ⟨g10,hg10⟩:∃ g,g=u9.heap.size:=⟨_,rfl⟩;have BE:=qsd BD.out;have q0:Below u9.heap.size u9 W10:=by rw [hW10];exact (below_alloc _ _).trans ((below_alloc _ _).mono (by simp))
 have q1:Fs W10.heap.size W10 (some ⟨g10,0,none⟩) [4607182418800017408,4611686018427387904,4613937818241073152]:=by rw [hW10,hg10];exact ((lit14 u9 [4607182418800017408,4611686018427387904,4613937818241073152]).below (below_alloc _ _)).mono (by simp)
 have q2:Fs W10.heap.size W10 (some ⟨g10+1,0,none⟩) [4611686018427387904,4616189618054758400,4619567317775286272]:=by rw [hW10,hg10];exact lit14b (u9.alloc (Obj.cells #[.float .f64 4607182418800017408,.float .f64 4611686018427387904,.float .f64 4613937818241073152] 23)) [4611686018427387904,4616189618054758400,4619567317775286272] (u9.heap.size+1) (by simp)
 have BD:=qsd (ai (BD.out.trans (q0.mono BD.out.size)) (ai q1 q2));have HE:=(qsd (ai hW10 hg10));clear hW10 hg10 q0 q1 q2 BE;have C:Hid (Calls Tryz.prog 24 #[.slice (some ⟨g10,0,none⟩) 3 3,.slice (some ⟨g10+1,0,none⟩) 3 3,.int .i64 1,.int .i64 0] W10 fun r w'=>r=.returned (.tuple #[.float .f64 4612811918334230528,.int .i64 0])∧Below W10.heap.size W10 w'):=hid (Co14 [4607182418800017408,4611686018427387904,4613937818241073152] [4611686018427387904,4616189618054758400,4619567317775286272] _ _ 3 3 3 3 1 0 W10 rfl rfl BD.out.2.1 BD.out.2.2 (w64_of (by decide)) (w64_of (by decide)) (HT.out.belows BD.out.1) (by decide) (by decide) (4612811918334230528,0) (cCo.trans (by decide +kernel)))
 go_wp2_with fail
 rw [←HE.out.1,←HE.out.2];clear HE;refine C.out.mono ?_;rintro r u11 ⟨rfl,hb⟩;have BD:=qsd (ai (BD.out.1.trans (hb.mono BD.out.1.size)) (ai ((BD.out.2.1.below hb).mono hb.size) ((BD.out.2.2.below hb).mono hb.size)));clear hb C;have BD:=qsd BD.out.1;obtain ⟨W12,hW12⟩:∃ W,W=((u11.alloc (Obj.cells #[.float .f64 4607182418800017408,.float .f64 4611686018427387904,.float .f64 4613937818241073152] 23)).alloc (Obj.cells #[.float .f64 4613937818241073152,.float .f64 4611686018427387904,.float .f64 4607182418800017408] 23)):=⟨_,rfl⟩;obtain ⟨g12,hg12⟩:∃ g,g=u11.heap.size:=⟨_,rfl⟩;have BE:=qsd BD.out;have q0:Below u11.heap.size u11 W12:=by rw [hW12];exact (below_alloc _ _).trans ((below_alloc _ _).mono (by simp))
 have q1:Fs W12.heap.size W12 (some ⟨g12,0,none⟩) [4607182418800017408,4611686018427387904,4613937818241073152]:=by rw [hW12,hg12];exact ((lit14 u11 [4607182418800017408,4611686018427387904,4613937818241073152]).below (below_alloc _ _)).mono (by simp)
 have q2:Fs W12.heap.size W12 (some ⟨g12+1,0,none⟩) [4613937818241073152,4611686018427387904,4607182418800017408]:=by rw [hW12,hg12];exact lit14b (u11.alloc (Obj.cells #[.float .f64 4607182418800017408,.float .f64 4611686018427387904,.float .f64 4613937818241073152] 23)) [4613937818241073152,4611686018427387904,4607182418800017408] (u11.heap.size+1) (by simp)
 have BD:=qsd (ai (BD.out.trans (q0.mono BD.out.size)) (ai q1 q2));have HE:=(qsd (ai hW12 hg12));clear hW12 hg12 q0 q1 q2 BE;have C:Hid (Calls Tryz.prog 12 #[.slice (some ⟨g12,0,none⟩) 3 3,.slice (some ⟨g12+1,0,none⟩) 3 3,.int .i64 2] W12 fun r w'=>r=.returned (.tuple #[.float .f64 13830554455654793216,.int .i64 0])∧Below W12.heap.size W12 w'):=hid (Link14 [4607182418800017408,4611686018427387904,4613937818241073152] [4613937818241073152,4611686018427387904,4607182418800017408] _ _ 3 3 3 3 2 W12 rfl rfl BD.out.2.1 BD.out.2.2 (w64_of (by decide)) (w64_of (by decide)) (HT.out.belows BD.out.1) (by decide) (by decide) (13830554455654793216,0) (cLi.trans (by decide +kernel)))
 go_wp2_with fail
 rw [←HE.out.1,←HE.out.2];clear HE;refine C.out.mono ?_;rintro r u13 ⟨rfl,hb⟩;have BD:=qsd (ai (BD.out.1.trans (hb.mono BD.out.1.size)) (ai ((BD.out.2.1.below hb).mono hb.size) ((BD.out.2.2.below hb).mono hb.size)));clear hb C;have BD:=qsd BD.out.1
 go_wp2_with fail
 obtain ⟨oa,hoa⟩:∃ o,o=gV 0 10:=⟨_,rfl⟩;obtain ⟨ob,hob⟩:∃ o,o=gV 0 30:=⟨_,rfl⟩;have C:Hid (Calls Tryz.prog 14 #[.int .i64 10] u13 fun r w'=>DVal 0 w' r oa∧Below u13.heap.size u13 w'):=by rw [hoa];exact rInt14 10 u13 (by decide) (by decide)
 refine C.out.mono ?_;rintro r ua14 ⟨hd,hb⟩;obtain ⟨ja,jc,rfl,hN⟩:=hd.shp14;have BD:=qsd (ai (BD.out.trans (hb.mono BD.out.size)) hN);clear hb hd hN C;have C:Hid (Calls Tryz.prog 14 #[.int .i64 30] ua14 fun r w'=>DVal 0 w' r ob∧Below ua14.heap.size ua14 w'):=by rw [hob];exact rInt14 30 ua14 (by decide) (by decide)
 have HO:=(qsd (ai hoa hob));clear hoa hob
 go_wp2_with fail
 refine C.out.mono ?_;rintro r ub14 ⟨hd,hb⟩;obtain ⟨ka,kc,rfl,hN⟩:=hd.shp14;have BD:=qsd (ai (BD.out.1.trans (hb.mono BD.out.1.size)) (ai (BD.out.2.below hb) hN));clear hb hd hN C
 have C:Hid (Calls Tryz.prog 13 #[.int .i64 4,.agg #[.bool (dN oa),.slice ja (ws (dX oa)).length jc,.int .i64 (dE oa)],.agg #[.bool (dN ob),.slice ka (ws (dX ob)).length kc,.int .i64 (dE ob)],.int .i64 0,.int .i64 0] ub14 fun r w'=>r=.returned (.tuple #[.float .f64 4608308318706860032,.int .i64 0])∧Below ub14.heap.size ub14 w'):=by
  have h1:=BD.out.2.1;have h2:=BD.out.2.2;rw [HO.out.1] at h1;rw [HO.out.2] at h2;rw [HO.out.1,HO.out.2];exact OfLit14 4 10 30 0 0 (by decide) (by decide) h1 h2 (HT.out.belows BD.out.1) (by decide) (4608308318706860032,0) (cOf.trans (by decide +kernel))
 clear HO
 go_wp2_with fail
 refine C.out.mono ?_;rintro r uc14 ⟨rfl,hb⟩;have BD:=qsd (BD.out.1.trans (hb.mono BD.out.1.size));clear hb C;obtain ⟨W15,hW15⟩:∃ W,W=((uc14.alloc (Obj.cells #[.float .f64 4607182418800017408,.float .f64 4607182418800017408] 23)).alloc (Obj.cells #[.float .f64 4607182418800017408,.float .f64 4611686018427387904] 23)):=⟨_,rfl⟩;obtain ⟨g15,hg15⟩:∃ g,g=uc14.heap.size:=⟨_,rfl⟩;have BE:=qsd BD.out;have q0:Below uc14.heap.size uc14 W15:=by rw [hW15];exact (below_alloc _ _).trans ((below_alloc _ _).mono (by simp))
 have q1:Fs W15.heap.size W15 (some ⟨g15,0,none⟩) [4607182418800017408,4607182418800017408]:=by rw [hW15,hg15];exact ((lit14 uc14 [4607182418800017408,4607182418800017408]).below (below_alloc _ _)).mono (by simp)
 have q2:Fs W15.heap.size W15 (some ⟨g15+1,0,none⟩) [4607182418800017408,4611686018427387904]:=by rw [hW15,hg15];exact lit14b (uc14.alloc (Obj.cells #[.float .f64 4607182418800017408,.float .f64 4607182418800017408] 23)) [4607182418800017408,4611686018427387904] (uc14.heap.size+1) (by simp)
 have BD:=qsd (ai (BD.out.trans (q0.mono BD.out.size)) (ai q1 q2));have HE:=(qsd (ai hW15 hg15));clear hW15 hg15 q0 q1 q2 BE;have C:Hid (Calls Tryz.prog 12 #[.slice (some ⟨g15,0,none⟩) 2 2,.slice (some ⟨g15+1,0,none⟩) 2 2,.int .i64 0] W15 fun r w'=>r=.returned (.tuple #[.float .f64 0,.int .i64 190])∧Below W15.heap.size W15 w'):=hid (Link14 [4607182418800017408,4607182418800017408] [4607182418800017408,4611686018427387904] _ _ 2 2 2 2 0 W15 rfl rfl BD.out.2.1 BD.out.2.2 (w64_of (by decide)) (w64_of (by decide)) (HT.out.belows BD.out.1) (by decide) (by decide) (0,190) (cFlat.trans (by decide +kernel)))
 go_wp2_with fail
 rw [←HE.out.1,←HE.out.2];clear HE;refine C.out.mono ?_;rintro r u16 ⟨rfl,hb⟩;have BD:=qsd (ai (BD.out.1.trans (hb.mono BD.out.1.size)) (ai ((BD.out.2.1.below hb).mono hb.size) ((BD.out.2.2.below hb).mono hb.size)));clear hb C;have BD:=qsd BD.out.1;obtain ⟨W17,hW17⟩:∃ W,W=(u16.alloc (Obj.cells #[.float .f64 4617315517961601024] 23)):=⟨_,rfl⟩;obtain ⟨g17,hg17⟩:∃ g,g=u16.heap.size:=⟨_,rfl⟩;have BE:=qsd BD.out;have q0:Below u16.heap.size u16 W17:=by rw [hW17];exact below_alloc _ _
 have q1:Fs W17.heap.size W17 (some ⟨g17,0,none⟩) [4617315517961601024]:=by rw [hW17,hg17];exact lit14 u16 [4617315517961601024]
 have BD:=qsd (ai (BD.out.trans (q0.mono BD.out.size)) q1);have HE:=(qsd (ai hW17 hg17));clear hW17 hg17 q0 q1 BE
 go_wp2_with fail
 rw [←HE.out.1,←HE.out.2];clear HE;refine (plain14 W17).mono ?_;rintro r u18 ⟨rfl,hb⟩;have BD:=qsd (ai (BD.out.1.trans (hb.mono BD.out.1.size)) ((BD.out.2.below hb).mono hb.size));clear hb;have C:Hid (Calls Tryz.prog 10 #[.slice (some ⟨g17,0,none⟩) 1 1,.int .i64 1,.int .i64 0,.agg #[.int .i64 0,.int .i64 0]] u18 fun r w'=>r=.returned (.tuple #[.float .f64 0,.int .i64 3])∧Below u18.heap.size u18 w'):=hid (Var14 [4617315517961601024] _ 1 1 1 0 0 0 u18 rfl BD.out.2 (w64_of (by decide)) (HT.out.belows BD.out.1) (by decide) (0,3) (cVnone.trans (by decide +kernel)))
 go_wp2_with fail
 refine C.out.mono ?_;rintro r u19 ⟨rfl,hb⟩;have BD:=qsd (ai (BD.out.1.trans (hb.mono BD.out.1.size)) ((BD.out.2.below hb).mono hb.size));clear hb C;have BD:=qsd BD.out.1;obtain ⟨W20,hW20⟩:∃ W,W=(u19.alloc (Obj.cells #[.float .f64 4617315517961601024] 23)):=⟨_,rfl⟩;obtain ⟨g20,hg20⟩:∃ g,g=u19.heap.size:=⟨_,rfl⟩;have BE:=qsd BD.out;have q0:Below u19.heap.size u19 W20:=by rw [hW20];exact below_alloc _ _
 have q1:Fs W20.heap.size W20 (some ⟨g20,0,none⟩) [4617315517961601024]:=by rw [hW20,hg20];exact lit14 u19 [4617315517961601024]
 have BD:=qsd (ai (BD.out.trans (q0.mono BD.out.size)) q1);have HE:=(qsd (ai hW20 hg20));clear hW20 hg20 q0 q1 BE
 go_wp2_with fail
 rw [←HE.out.1,←HE.out.2];clear HE;refine (plain14 W20).mono ?_;rintro r u21 ⟨rfl,hb⟩;have BD:=qsd (ai (BD.out.1.trans (hb.mono BD.out.1.size)) ((BD.out.2.below hb).mono hb.size));clear hb;have C:Hid (Calls Tryz.prog 10 #[.slice (some ⟨g20,0,none⟩) 1 1,.int .i64 2,.int .i64 0,.agg #[.int .i64 0,.int .i64 0]] u21 fun r w'=>r=.returned (.tuple #[.float .f64 0,.int .i64 1])∧Below u21.heap.size u21 w'):=hid (Var14 [4617315517961601024] _ 1 1 2 0 0 0 u21 rfl BD.out.2 (w64_of (by decide)) (HT.out.belows BD.out.1) (by decide) (0,1) (cVarg.trans (by decide +kernel)))
 go_wp2_with fail
 refine C.out.mono ?_;rintro r u22 ⟨rfl,hb⟩;have BD:=qsd (ai (BD.out.1.trans (hb.mono BD.out.1.size)) ((BD.out.2.below hb).mono hb.size));clear hb C;have BD:=qsd BD.out.1;have C:=hid (same14 4608308318706860032 4608308318706860032 rfl u22)
 go_wp2_with fail
 refine C.out.mono ?_;rintro r u23 ⟨rfl,hq⟩;rw [hq];clear hq C u23;have C:=hid (same14 4610184818551597739 4610184818551597739 rfl u22)
 go_wp2_with fail
 refine C.out.mono ?_;rintro r u24 ⟨rfl,hq⟩;rw [hq];clear hq C u24;have C:=hid (same14 4608492941290910865 4608492941290910865 rfl u22)
 go_wp2_with fail
 refine C.out.mono ?_;rintro r u25 ⟨rfl,hq⟩;rw [hq];clear hq C u25;have C:=hid (same14 4618441417868443648 4618441417868443648 rfl u22)
 go_wp2_with fail
 refine C.out.mono ?_;rintro r u26 ⟨rfl,hq⟩;rw [hq];clear hq C u26;have C:=hid (same14 4612811918334230528 4612811918334230528 rfl u22)
 go_wp2_with fail
 refine C.out.mono ?_;rintro r u27 ⟨rfl,hq⟩;rw [hq];clear hq C u27;have C:=hid (same14 13830554455654793216 13830554455654793216 rfl u22)
 go_wp2_with fail
 refine C.out.mono ?_;rintro r u28 ⟨rfl,hq⟩;rw [hq];clear hq C u28;have C:=hid (same14 4608308318706860032 4608308318706860032 rfl u22)
 go_wp2_with fail
 refine C.out.mono ?_;rintro r u29 ⟨rfl,hq⟩;rw [hq];clear hq C u29;go_wp2;go_ret;exact ⟨rfl,BD.out⟩
end
section
open Go Go.RowKit J
attribute [local go_sem] B.f64bits B.f64frombits
set_option maxRecDepth 100000 in
theorem walk2_MomentNumbers (w:World) (hT:Tab w):Calls Tryz.prog 3 #[] w fun r w'=>r=.returned (.bool true)∧Below w.heap.size w w':=by
 have HT:=qsd hT;have BD:=qsd (Below.refl w.heap.size w);clear hT;go_enter Tryz.func3,Tryz.ntmps3;have C:=hid (awake14 w HT.out)
 go_wp2_with fail
 refine C.out.mono ?_;rintro r u0 ⟨rfl,hb⟩;have BD:=qsd (BD.out.trans (hb.mono BD.out.size));clear hb C;have C:=hid (rOdd_any u0)
 go_wp2_with fail
 refine C.out.mono ?_;rintro r uo ⟨rfl,hq⟩;rw [hq];clear hq C uo;rw [show oddW=9221120237041090560 from rfl]
 obtain ⟨W1,hW1⟩:∃ W,W=((u0.alloc (Obj.cells #[.int .i64 1,.int .i64 0] 26)).alloc (Obj.cells #[.int .i64 2,.int .i64 0] 26)).alloc (Obj.cells #[.float .f64 4607182418800017408,.float .f64 9221120237041090560,.float .f64 4613937818241073152] 23):=⟨_,rfl⟩;obtain ⟨g1,hg1⟩:∃ g,g=u0.heap.size:=⟨_,rfl⟩;have q0:Below u0.heap.size u0 W1:=by rw [hW1];exact (below_alloc _ _).trans (((below_alloc _ _).trans ((below_alloc _ _).mono (by simp))).mono (by simp))
 have q1:Fs W1.heap.size W1 (some ⟨g1+2,0,none⟩) [4607182418800017408,9221120237041090560,4613937818241073152]:=by rw [hW1,hg1];exact lit14b _ [4607182418800017408,9221120237041090560,4613937818241073152] _ (by simp)
 have x1:Bl (u0.alloc (Obj.cells #[.int .i64 1,.int .i64 0] 26)) u0.heap.size 26 [.int .i64 1,.int .i64 0]:=Bl.new _ _ _;have x2:Bl ((u0.alloc (Obj.cells #[.int .i64 1,.int .i64 0] 26)).alloc (Obj.cells #[.int .i64 2,.int .i64 0] 26)) (u0.heap.size+1) 26 [.int .i64 2,.int .i64 0]:=by have:=Bl.new (u0.alloc (Obj.cells #[.int .i64 1,.int .i64 0] 26)) 26 [.int .i64 2,.int .i64 0];simpa using this
 have p0:W1.cell? ⟨g1,0,none⟩=some (.int .i64 1):=by rw [hW1,hg1];exact cb14 (cb14 (x1.cell 0 _ rfl) (below_alloc _ _)) (below_alloc _ _)
 have p1:W1.cell? ⟨g1,1,none⟩=some (.int .i64 0):=by rw [hW1,hg1];exact cb14 (cb14 (x1.cell 1 _ rfl) (below_alloc _ _)) (below_alloc _ _)
 have p2:W1.cell? ⟨g1+1,0,none⟩=some (.int .i64 2):=by rw [hW1,hg1];exact cb14 (x2.cell 0 _ rfl) (below_alloc _ _)
 have p3:W1.cell? ⟨g1+1,1,none⟩=some (.int .i64 0):=by rw [hW1,hg1];exact cb14 (x2.cell 1 _ rfl) (below_alloc _ _)
 have BP:=(qsd (ai p0 (ai p1 (ai p2 p3))));have BD:=qsd (ai (BD.out.trans (q0.mono BD.out.size)) q1);have HE:=(qsd (ai hW1 hg1));clear hW1 hg1 q0 q1 x1 x2 p0 p1 p2 p3
 go_wp2_with fail
 rw [←HE.out.1,←HE.out.2];clear HE;refine (plain14 W1).mono ?_;rintro r u2 ⟨rfl,hb⟩;have BP:=qsd (ai (cb14 BP.out.1 hb) (ai (cb14 BP.out.2.1 hb) (ai (cb14 BP.out.2.2.1 hb) (cb14 BP.out.2.2.2 hb))));have BD:=qsd (ai (BD.out.1.trans (hb.mono BD.out.1.size)) ((BD.out.2.below hb).mono hb.size));clear hb;have C:Hid (Calls Tryz.prog 10 #[.slice (some ⟨g1+2,0,none⟩) 3 3,.int .i64 0,.int .i64 0,.agg #[.int .i64 0,.int .i64 0]] u2 fun r w'=>r=.returned (.tuple #[.float .f64 9221120237041090560,.int .i64 0])∧Below u2.heap.size u2 w'):=hid (Var14 [4607182418800017408,9221120237041090560,4613937818241073152] _ 3 3 0 0 0 0 u2 rfl BD.out.2 (w64_of (by decide)) (HT.out.belows BD.out.1) (by decide) (9221120237041090560,0) (cVnan.trans (by decide +kernel)))
 go_wp2_with fail
 refine C.out.mono ?_;rintro r u3 ⟨rfl,hb⟩;have BP:=qsd (ai (cb14 BP.out.1 hb) (ai (cb14 BP.out.2.1 hb) (ai (cb14 BP.out.2.2.1 hb) (cb14 BP.out.2.2.2 hb))));have BD:=qsd (ai (BD.out.1.trans (hb.mono BD.out.1.size)) ((BD.out.2.below hb).mono hb.size));clear hb C;have c0:=BP.out.1;have c1:=BP.out.2.1;have C:Hid (Calls Tryz.prog 10 #[.slice (some ⟨g1+2,0,none⟩) 3 3,.int .i64 0,.int .i64 0,.agg #[.int .i64 1,.int .i64 0]] u3 fun r w'=>r=.returned (.tuple #[.float .f64 4607182418800017408,.int .i64 0])∧Below u3.heap.size u3 w'):=hid (Var14 [4607182418800017408,9221120237041090560,4613937818241073152] _ 3 3 0 0 1 0 u3 rfl BD.out.2 (w64_of (by decide)) (HT.out.belows BD.out.1) (by decide) (4607182418800017408,0) (cVn2.trans (by decide +kernel)))
 go_wp2_with fail
 refine C.out.mono ?_;rintro r u4 ⟨rfl,hb⟩;have BP:=qsd (ai (cb14 BP.out.1 hb) (ai (cb14 BP.out.2.1 hb) (ai (cb14 BP.out.2.2.1 hb) (cb14 BP.out.2.2.2 hb))));have BD:=qsd (ai (BD.out.1.trans (hb.mono BD.out.1.size)) ((BD.out.2.below hb).mono hb.size));clear hb C;clear c0 c1;have c0:=BP.out.2.2.1;have c1:=BP.out.2.2.2;have C:Hid (Calls Tryz.prog 10 #[.slice (some ⟨g1+2,0,none⟩) 3 3,.int .i64 0,.int .i64 0,.agg #[.int .i64 2,.int .i64 0]] u4 fun r w'=>r=.returned (.tuple #[.float .f64 0,.int .i64 60])∧Below u4.heap.size u4 w'):=hid (Var14 [4607182418800017408,9221120237041090560,4613937818241073152] _ 3 3 0 0 2 0 u4 rfl BD.out.2 (w64_of (by decide)) (HT.out.belows BD.out.1) (by decide) (0,60) (cVref.trans (by decide +kernel)))
 go_wp2_with fail
 refine C.out.mono ?_;rintro r u5 ⟨rfl,hb⟩;have BP:=qsd (ai (cb14 BP.out.1 hb) (ai (cb14 BP.out.2.1 hb) (ai (cb14 BP.out.2.2.1 hb) (cb14 BP.out.2.2.2 hb))));have BD:=qsd (ai (BD.out.1.trans (hb.mono BD.out.1.size)) ((BD.out.2.below hb).mono hb.size));clear hb C;clear c0 c1 BP;have BD:=qsd BD.out.1;obtain ⟨W6,hW6⟩:∃ W,W=(u5.alloc (Obj.cells #[.float .f64 9221120237041090560] 23)):=⟨_,rfl⟩;obtain ⟨g6,hg6⟩:∃ g,g=u5.heap.size:=⟨_,rfl⟩;have BE:=qsd BD.out;have q0:Below u5.heap.size u5 W6:=by rw [hW6];exact below_alloc _ _
 have q1:Fs W6.heap.size W6 (some ⟨g6,0,none⟩) [9221120237041090560]:=by rw [hW6,hg6];exact lit14 u5 [9221120237041090560]
 have BD:=qsd (ai (BD.out.trans (q0.mono BD.out.size)) q1);have HE:=(qsd (ai hW6 hg6));clear hW6 hg6 q0 q1 BE
 go_wp2_with fail
 rw [←HE.out.1,←HE.out.2];clear HE;refine (plain14 W6).mono ?_;rintro r u7 ⟨rfl,hb⟩;have BD:=qsd (ai (BD.out.1.trans (hb.mono BD.out.1.size)) ((BD.out.2.below hb).mono hb.size));clear hb;have C:Hid (Calls Tryz.prog 10 #[.slice (some ⟨g6,0,none⟩) 1 1,.int .i64 1,.int .i64 0,.agg #[.int .i64 0,.int .i64 0]] u7 fun r w'=>r=.returned (.tuple #[.float .f64 9221120237041090560,.int .i64 0])∧Below u7.heap.size u7 w'):=hid (Var14 [9221120237041090560] _ 1 1 1 0 0 0 u7 rfl BD.out.2 (w64_of (by decide)) (HT.out.belows BD.out.1) (by decide) (9221120237041090560,0) (cVnan1.trans (by decide +kernel)))
 go_wp2_with fail
 refine C.out.mono ?_;rintro r u8 ⟨rfl,hb⟩;have BD:=qsd (ai (BD.out.1.trans (hb.mono BD.out.1.size)) ((BD.out.2.below hb).mono hb.size));clear hb C;have BD:=qsd BD.out.1;obtain ⟨W9,hW9⟩:∃ W,W=(u8.alloc (Obj.cells #[.float .f64 7598952565167317594,.float .f64 16822324602022093402] 23)):=⟨_,rfl⟩;obtain ⟨g9,hg9⟩:∃ g,g=u8.heap.size:=⟨_,rfl⟩;have BE:=qsd BD.out;have q0:Below u8.heap.size u8 W9:=by rw [hW9];exact below_alloc _ _
 have q1:Fs W9.heap.size W9 (some ⟨g9,0,none⟩) [7598952565167317594,16822324602022093402]:=by rw [hW9,hg9];exact lit14 u8 [7598952565167317594,16822324602022093402]
 have BD:=qsd (ai (BD.out.trans (q0.mono BD.out.size)) q1);have HE:=(qsd (ai hW9 hg9));clear hW9 hg9 q0 q1 BE
 go_wp2_with fail
 rw [←HE.out.1,←HE.out.2];clear HE;refine (plain14 W9).mono ?_;rintro r u10 ⟨rfl,hb⟩;have BD:=qsd (ai (BD.out.1.trans (hb.mono BD.out.1.size)) ((BD.out.2.below hb).mono hb.size));clear hb;have C:Hid (Calls Tryz.prog 10 #[.slice (some ⟨g9,0,none⟩) 2 2,.int .i64 0,.int .i64 0,.agg #[.int .i64 0,.int .i64 0]] u10 fun r w'=>r=.returned (.tuple #[.float .f64 9218868437227405312,.int .i64 0])∧Below u10.heap.size u10 w'):=hid (Var14 [7598952565167317594,16822324602022093402] _ 2 2 0 0 0 0 u10 rfl BD.out.2 (w64_of (by decide)) (HT.out.belows BD.out.1) (by decide) (9218868437227405312,0) (cVbig.trans (by decide +kernel)))
 go_wp2_with fail
 refine C.out.mono ?_;rintro r u11 ⟨rfl,hb⟩;have BD:=qsd (ai (BD.out.1.trans (hb.mono BD.out.1.size)) ((BD.out.2.below hb).mono hb.size));clear hb C;have BD:=qsd BD.out.1;obtain ⟨W12,hW12⟩:∃ W,W=(u11.alloc (Obj.cells #[.float .f64 4726483295951388672,.float .f64 4726483296018497536,.float .f64 4726483296085606400] 23)):=⟨_,rfl⟩;obtain ⟨g12,hg12⟩:∃ g,g=u11.heap.size:=⟨_,rfl⟩;have BE:=qsd BD.out;have q0:Below u11.heap.size u11 W12:=by rw [hW12];exact below_alloc _ _
 have q1:Fs W12.heap.size W12 (some ⟨g12,0,none⟩) [4726483295951388672,4726483296018497536,4726483296085606400]:=by rw [hW12,hg12];exact lit14 u11 [4726483295951388672,4726483296018497536,4726483296085606400]
 have BD:=qsd (ai (BD.out.trans (q0.mono BD.out.size)) q1);have HE:=(qsd (ai hW12 hg12));clear hW12 hg12 q0 q1 BE
 go_wp2_with fail
 rw [←HE.out.1,←HE.out.2];clear HE;refine (plain14 W12).mono ?_;rintro r u13 ⟨rfl,hb⟩;have BD:=qsd (ai (BD.out.1.trans (hb.mono BD.out.1.size)) ((BD.out.2.below hb).mono hb.size));clear hb;have C:Hid (Calls Tryz.prog 10 #[.slice (some ⟨g12,0,none⟩) 3 3,.int .i64 0,.int .i64 0,.agg #[.int .i64 0,.int .i64 0]] u13 fun r w'=>r=.returned (.tuple #[.float .f64 4604180019048437077,.int .i64 0])∧Below u13.heap.size u13 w'):=hid (Var14 [4726483295951388672,4726483296018497536,4726483296085606400] _ 3 3 0 0 0 0 u13 rfl BD.out.2 (w64_of (by decide)) (HT.out.belows BD.out.1) (by decide) (4604180019048437077,0) (cVnear.trans (by decide +kernel)))
 go_wp2_with fail
 refine C.out.mono ?_;rintro r u14 ⟨rfl,hb⟩;have BD:=qsd (ai (BD.out.1.trans (hb.mono BD.out.1.size)) ((BD.out.2.below hb).mono hb.size));clear hb C;have BD:=qsd BD.out.1;obtain ⟨W15,hW15⟩:∃ W,W=((u14.alloc (Obj.cells #[.float .f64 4607182418800017408,.float .f64 4611686018427387904,.float .f64 4613937818241073152] 23)).alloc (Obj.cells #[.float .f64 4611686018427387904,.float .f64 4616189618054758400,.float .f64 4619567317775286272] 23)):=⟨_,rfl⟩;obtain ⟨g15,hg15⟩:∃ g,g=u14.heap.size:=⟨_,rfl⟩;have BE:=qsd BD.out;have q0:Below u14.heap.size u14 W15:=by rw [hW15];exact (below_alloc _ _).trans ((below_alloc _ _).mono (by simp))
 have q1:Fs W15.heap.size W15 (some ⟨g15,0,none⟩) [4607182418800017408,4611686018427387904,4613937818241073152]:=by rw [hW15,hg15];exact ((lit14 u14 [4607182418800017408,4611686018427387904,4613937818241073152]).below (below_alloc _ _)).mono (by simp)
 have q2:Fs W15.heap.size W15 (some ⟨g15+1,0,none⟩) [4611686018427387904,4616189618054758400,4619567317775286272]:=by rw [hW15,hg15];exact lit14b (u14.alloc (Obj.cells #[.float .f64 4607182418800017408,.float .f64 4611686018427387904,.float .f64 4613937818241073152] 23)) [4611686018427387904,4616189618054758400,4619567317775286272] (u14.heap.size+1) (by simp)
 have BD:=qsd (ai (BD.out.trans (q0.mono BD.out.size)) (ai q1 q2));have HE:=(qsd (ai hW15 hg15));clear hW15 hg15 q0 q1 q2 BE;have C:Hid (Calls Tryz.prog 12 #[.slice (some ⟨g15,0,none⟩) 3 3,.slice (some ⟨g15+1,0,none⟩) 3 3,.int .i64 0] W15 fun r w'=>r=.returned (.tuple #[.float .f64 4607122964689853860,.int .i64 0])∧Below W15.heap.size W15 w'):=hid (Link14 [4607182418800017408,4611686018427387904,4613937818241073152] [4611686018427387904,4616189618054758400,4619567317775286272] _ _ 3 3 3 3 0 W15 rfl rfl BD.out.2.1 BD.out.2.2 (w64_of (by decide)) (w64_of (by decide)) (HT.out.belows BD.out.1) (by decide) (by decide) (4607122964689853860,0) (cLi2.trans (by decide +kernel)))
 go_wp2_with fail
 rw [←HE.out.1,←HE.out.2];clear HE;refine C.out.mono ?_;rintro r u16 ⟨rfl,hb⟩;have BD:=qsd (ai (BD.out.1.trans (hb.mono BD.out.1.size)) (ai ((BD.out.2.1.below hb).mono hb.size) ((BD.out.2.2.below hb).mono hb.size)));clear hb C;have BD:=qsd BD.out.1
 go_wp2_with fail
 obtain ⟨oa,hoa⟩:∃ o,o=gV 0 10:=⟨_,rfl⟩;obtain ⟨ob,hob⟩:∃ o,o=gV 0 1:=⟨_,rfl⟩;have C:Hid (Calls Tryz.prog 14 #[.int .i64 10] u16 fun r w'=>DVal 0 w' r oa∧Below u16.heap.size u16 w'):=by rw [hoa];exact rInt14 10 u16 (by decide) (by decide)
 refine C.out.mono ?_;rintro r ua17 ⟨hd,hb⟩;obtain ⟨ja,jc,rfl,hN⟩:=hd.shp14;have BD:=qsd (ai (BD.out.trans (hb.mono BD.out.size)) hN);clear hb hd hN C;have C:Hid (Calls Tryz.prog 14 #[.int .i64 1] ua17 fun r w'=>DVal 0 w' r ob∧Below ua17.heap.size ua17 w'):=by rw [hob];exact rInt14 1 ua17 (by decide) (by decide)
 have HO:=(qsd (ai hoa hob));clear hoa hob
 go_wp2_with fail
 refine C.out.mono ?_;rintro r ub17 ⟨hd,hb⟩;obtain ⟨ka,kc,rfl,hN⟩:=hd.shp14;have BD:=qsd (ai (BD.out.1.trans (hb.mono BD.out.1.size)) (ai (BD.out.2.below hb) hN));clear hb hd hN C
 have C:Hid (Calls Tryz.prog 13 #[.int .i64 2,.agg #[.bool (dN oa),.slice ja (ws (dX oa)).length jc,.int .i64 (dE oa)],.agg #[.bool (dN ob),.slice ka (ws (dX ob)).length kc,.int .i64 (dE ob)],.int .i64 0,.int .i64 0] ub17 fun r w'=>r=.returned (.tuple #[.float .f64 13850961391466315776,.int .i64 0])∧Below ub17.heap.size ub17 w'):=by
  have h1:=BD.out.2.1;have h2:=BD.out.2.2;rw [HO.out.1] at h1;rw [HO.out.2] at h2;rw [HO.out.1,HO.out.2];exact OfLit14 2 10 1 0 0 (by decide) (by decide) h1 h2 (HT.out.belows BD.out.1) (by decide) (13850961391466315776,0) (cOf2.trans (by decide +kernel))
 clear HO
 go_wp2_with fail
 refine C.out.mono ?_;rintro r uc17 ⟨rfl,hb⟩;have BD:=qsd (BD.out.1.trans (hb.mono BD.out.1.size));clear hb C;obtain ⟨W18,hW18⟩:∃ W,W=(uc17.alloc (Obj.cells #[.float .f64 4607182418800017408,.float .f64 4611686018427387904,.float .f64 4618441417868443648] 23)):=⟨_,rfl⟩;obtain ⟨g18,hg18⟩:∃ g,g=uc17.heap.size:=⟨_,rfl⟩;have BE:=qsd BD.out;have q0:Below uc17.heap.size uc17 W18:=by rw [hW18];exact below_alloc _ _
 have q1:Fs W18.heap.size W18 (some ⟨g18,0,none⟩) [4607182418800017408,4611686018427387904,4618441417868443648]:=by rw [hW18,hg18];exact lit14 uc17 [4607182418800017408,4611686018427387904,4618441417868443648]
 have BD:=qsd (ai (BD.out.trans (q0.mono BD.out.size)) q1);have HE:=(qsd (ai hW18 hg18));clear hW18 hg18 q0 q1 BE;have C:Hid (Calls Tryz.prog 15 #[.slice (some ⟨g18,0,none⟩) 3 3,.int .i64 1,.int .i64 3] W18 fun r w'=>r=.returned (.tuple #[.float .f64 0,.int .i64 0])∧Below W18.heap.size W18 w'):=hid (Central14 [4607182418800017408,4611686018427387904,4618441417868443648] _ 3 3 1 3 W18 rfl BD.out.2 (w64_of (by decide)) (HT.out.belows BD.out.1) (by decide) (0,0) (cCen1.trans (by decide +kernel)))
 go_wp2_with fail
 rw [←HE.out.1,←HE.out.2];clear HE;refine C.out.mono ?_;rintro r u19 ⟨rfl,hb⟩;have BD:=qsd (ai (BD.out.1.trans (hb.mono BD.out.1.size)) ((BD.out.2.below hb).mono hb.size));clear hb C;have BD:=qsd BD.out.1;have C:=hid (same14 9221120237041090560 9221120237041090560 rfl u19)
 go_wp2_with fail
 refine C.out.mono ?_;rintro r u20 ⟨rfl,hq⟩;rw [hq];clear hq C u20;have C:=hid (same14 4607182418800017408 4607182418800017408 rfl u19)
 go_wp2_with fail
 refine C.out.mono ?_;rintro r u21 ⟨rfl,hq⟩;rw [hq];clear hq C u21;have C:=hid (same14 9221120237041090560 9221120237041090560 rfl u19)
 go_wp2_with fail
 refine C.out.mono ?_;rintro r u22 ⟨rfl,hq⟩;rw [hq];clear hq C u22;have C:=hid (same14 9218868437227405312 9218868437227405312 rfl u19)
 go_wp2_with fail
 refine C.out.mono ?_;rintro r u23 ⟨rfl,hq⟩;rw [hq];clear hq C u23;have C:=hid (same14 4604180019048437077 4604180019048437077 rfl u19)
 go_wp2_with fail
 refine C.out.mono ?_;rintro r u24 ⟨rfl,hq⟩;rw [hq];clear hq C u24;have C:=hid (same14 4607122964689853860 4607122964689853860 rfl u19)
 go_wp2_with fail
 refine C.out.mono ?_;rintro r u25 ⟨rfl,hq⟩;rw [hq];clear hq C u25;have C:=hid (same14 13850961391466315776 13850961391466315776 rfl u19)
 go_wp2_with fail
 refine C.out.mono ?_;rintro r u26 ⟨rfl,hq⟩;rw [hq];clear hq C u26;have C:=hid (same14 0 0 rfl u19)
 go_wp2_with fail
 refine C.out.mono ?_;rintro r u27 ⟨rfl,hq⟩;rw [hq];clear hq C u27;go_wp2;go_ret;exact ⟨rfl,BD.out⟩
end
end Go.Proofs.YtflkmfdlpfimcaaGreatDoor
