import Derived.Test.YteginbngplldaaaGreatDoorMO18x
import Derived.Test.YteginbngplldaaaGreatDoorD32cx
import Derived.Test.YteginbngplldaaaGreatDoorW17x
import Derived.Test.YteginbngplldaaaGreatDoorZ44x
import Derived.Test.YteginbngplldaaaGreatDoorM1x
import Derived.BigQuiet
import Derived.Deep.RegionWith
import Derived.Deep.LoopGhost
import Derived.Deep.RegionHeld3
import Derived.Test.YteginbngplldaaaGreatDoorZ22x
set_option linter.unusedVariables false
set_option linter.unusedSimpArgs false
set_option maxHeartbeats 16000000
set_option maxRecDepth 20000
namespace Go.Proofs.YteginbngplldaaaGreatDoor
namespace J
end J
section
open Go Go.RowKit J
theorem Uv {w:World}{as' ap:Option Addr}{cs cp:Nat}(n s q less mode:Int) (hs:0<=s/\s<=100) (hq:0<=q/\q<=100) (h1:Nt 0 w (.slice as' (ws (dX (gV 0 s))).length cs) (dX (gV 0 s))) (h2:Nt 0 w (.slice ap (ws (dX (gV 0 q))).length cp) (dX (gV 0 q))) (hT:dF w) (hn:-9223372036854775808<=n/\n<=9223372036854775807)
 (z:Nat×Int) (hz:zD n (xE (dZ (gV 0 n) (gV 0 q)) (dZ (gV 0 s) (gV 0 s))) less mode=z) :
 Calls Tryz.prog 13 #[.int .i64 n,.agg #[.bool (dN (gV 0 s)),.slice as' (ws (dX (gV 0 s))).length cs,.int .i64 (dE (gV 0 s))],.agg #[.bool (dN (gV 0 q)),.slice ap (ws (dX (gV 0 q))).length cp,.int .i64 (dE (gV 0 q))],.int .i64 less,.int .i64 mode] w fun r w'=>r=.returned (.tuple #[.float .f64 z.1,.int .i64 z.2])/\Below w.heap.size w w':=by
 have F:∀ x:Int,0<=x/\x<=100->Fm (gV 0 x):=fun x hx=>by
  obtain ⟨k,rfl⟩:=Int.eq_ofNat_of_zero_le hx.1;exact bB (m:=7) (by decide) (by decide) (Bd.nat (by omega))
 have F1:=F s hs;have F2:=F q hq;refine Of14 n (dN (gV 0 s)) (dN (gV 0 q)) (dE (gV 0 s)) (dE (gV 0 q)) less mode (F1.a12 h1) (F2.a12 h2) hT hn ?_ ?_ z ?_
 · have:=F1.mK;omega
 · have:=F2.mK;omega
 · rw [ah,ah,F1.re,F2.re];exact hz
set_option maxRecDepth 100000 in
theorem Uw (w:World) (hT:dF w):Calls Tryz.prog 8 #[] w fun r w'=>r=.returned (.bool true)/\Below w.heap.size w w':=by
 have HT:=ak hT;have BD:=ak (aB w.heap.size w);clear hT;go_enter Tryz.func8,Tryz.ntmps8;obtain ⟨W1,hW1⟩:=af ((w.alloc (Obj.cells #[.float .f64 4607182418800017408,.float .f64 4611686018427387904,.float .f64 4613937818241073152,.float .f64 4616189618054758400] 23)));obtain ⟨g1,hg1⟩:=af (w.heap.size);have BE:=ak BD.o;have q0:Below w.heap.size w W1:=by rw [hW1];exact ae _ _
 have q1:Fs W1.heap.size W1 (some ⟨g1,0,none⟩) [4607182418800017408,4611686018427387904,4613937818241073152,4616189618054758400]:=by rw [hW1,hg1];exact uQ w [4607182418800017408,4611686018427387904,4613937818241073152,4616189618054758400]
 have BD:=aK (BD.o.trans (q0.mono BD.o.size)) q1;have HE:=(aK hW1 hg1);clear hW1 hg1 q0 q1 BE;go_wp2_with fail;rw [<-HE.o.1,<-HE.o.2];clear HE;refine (sj W1).mono ?_;rintro r u2 ⟨rfl,hb⟩;have BD:=aK (BD.o.1.trans (hb.mono BD.o.1.size)) ((BD.o.2.below hb).mono hb.size);clear hb;have C:Hid (Calls Tryz.prog 10 #[.slice (some ⟨g1,0,none⟩) 4 4,.int .i64 0,.int .i64 0,.agg #[.int .i64 0,.int .i64 0]] u2 fun r w'=>r=.returned (.tuple #[.float .f64 4608308318706860032,.int .i64 0])/\Below u2.heap.size u2 w'):=hid (Ei [4607182418800017408,4611686018427387904,4613937818241073152,4616189618054758400] _ 4 4 0 0 0 0 u2 rfl BD.o.2 (fV (by decide)) (HT.o.belows BD.o.1) (by decide) (4608308318706860032,0) (cVa.trans (by decide +kernel)));go_wp2_with fail;refine C.o.mono ?_;rintro r u3 ⟨rfl,hb⟩;have BD:=aK (BD.o.1.trans (hb.mono BD.o.1.size)) ((BD.o.2.below hb).mono hb.size);clear hb C;go_wp2_with fail;refine (sj u3).mono ?_;rintro r u4 ⟨rfl,hb⟩;have BD:=aK (BD.o.1.trans (hb.mono BD.o.1.size)) ((BD.o.2.below hb).mono hb.size);clear hb;have C:Hid (Calls Tryz.prog 10 #[.slice (some ⟨g1,0,none⟩) 4 4,.int .i64 1,.int .i64 0,.agg #[.int .i64 0,.int .i64 0]] u4 fun r w'=>r=.returned (.tuple #[.float .f64 4610184818551597739,.int .i64 0])/\Below u4.heap.size u4 w'):=hid (Ei [4607182418800017408,4611686018427387904,4613937818241073152,4616189618054758400] _ 4 4 1 0 0 0 u4 rfl BD.o.2 (fV (by decide)) (HT.o.belows BD.o.1) (by decide) (4610184818551597739,0) (cVb.trans (by decide +kernel)));go_wp2_with fail;refine C.o.mono ?_;rintro r u5 ⟨rfl,hb⟩;have BD:=aK (BD.o.1.trans (hb.mono BD.o.1.size)) ((BD.o.2.below hb).mono hb.size);clear hb C;go_wp2_with fail;refine (sj u5).mono ?_;rintro r u6 ⟨rfl,hb⟩;have BD:=aK (BD.o.1.trans (hb.mono BD.o.1.size)) ((BD.o.2.below hb).mono hb.size);clear hb;have C:Hid (Calls Tryz.prog 19 #[.slice (some ⟨g1,0,none⟩) 4 4,.int .i64 1,.int .i64 0,.agg #[.int .i64 0,.int .i64 0]] u6 fun r w'=>r=.returned (.tuple #[.float .f64 4608492941290910865,.int .i64 0])/\Below u6.heap.size u6 w'):=hid (Vd [4607182418800017408,4611686018427387904,4613937818241073152,4616189618054758400] _ 4 4 1 0 0 0 u6 rfl BD.o.2 (fV (by decide)) (HT.o.belows BD.o.1) (by decide) (4608492941290910865,0) (cSc.trans (by decide +kernel)));go_wp2_with fail;refine C.o.mono ?_;rintro r u7 ⟨rfl,hb⟩;have BD:=aK (BD.o.1.trans (hb.mono BD.o.1.size)) ((BD.o.2.below hb).mono hb.size);clear hb C;have BD:=ak BD.o.1;obtain ⟨W8,hW8⟩:=af ((u7.alloc (Obj.cells #[.float .f64 4607182418800017408,.float .f64 4611686018427387904,.float .f64 4618441417868443648] 23)));obtain ⟨g8,hg8⟩:=af (u7.heap.size);have BE:=ak BD.o;have q0:Below u7.heap.size u7 W8:=by rw [hW8];exact ae _ _
 have q1:Fs W8.heap.size W8 (some ⟨g8,0,none⟩) [4607182418800017408,4611686018427387904,4618441417868443648]:=by rw [hW8,hg8];exact uQ u7 [4607182418800017408,4611686018427387904,4618441417868443648]
 have BD:=aK (BD.o.trans (q0.mono BD.o.size)) q1;have HE:=(aK hW8 hg8);clear hW8 hg8 q0 q1 BE;have C:Hid (Calls Tryz.prog 15 #[.slice (some ⟨g8,0,none⟩) 3 3,.int .i64 3,.int .i64 0] W8 fun r w'=>r=.returned (.tuple #[.float .f64 4618441417868443648,.int .i64 0])/\Below W8.heap.size W8 w'):=hid (Mc [4607182418800017408,4611686018427387904,4618441417868443648] _ 3 3 3 0 W8 rfl BD.o.2 (fV (by decide)) (HT.o.belows BD.o.1) (by decide) (4618441417868443648,0) (cCen.trans (by decide +kernel)));go_wp2_with fail;rw [<-HE.o.1,<-HE.o.2];clear HE;refine C.o.mono ?_;rintro r u9 ⟨rfl,hb⟩;have BD:=aK (BD.o.1.trans (hb.mono BD.o.1.size)) ((BD.o.2.below hb).mono hb.size);clear hb C;have BD:=ak BD.o.1;obtain ⟨Ux,Qz⟩:=af (((u9.alloc (Obj.cells #[.float .f64 4607182418800017408,.float .f64 4611686018427387904,.float .f64 4613937818241073152] 23)).alloc (Obj.cells #[.float .f64 4611686018427387904,.float .f64 4616189618054758400,.float .f64 4619567317775286272] 23)));obtain ⟨g10,mg⟩:=af (u9.heap.size);have BE:=ak BD.o;have q0:Below u9.heap.size u9 Ux:=by rw [Qz];exact (ae _ _).trans ((ae _ _).mono (by simp))
 have q1:Fs Ux.heap.size Ux (some ⟨g10,0,none⟩) [4607182418800017408,4611686018427387904,4613937818241073152]:=by rw [Qz,mg];exact ((uQ u9 [4607182418800017408,4611686018427387904,4613937818241073152]).below (ae _ _)).mono (by simp)
 have q2:Fs Ux.heap.size Ux (some ⟨g10+1,0,none⟩) [4611686018427387904,4616189618054758400,4619567317775286272]:=by rw [Qz,mg];exact He (u9.alloc (Obj.cells #[.float .f64 4607182418800017408,.float .f64 4611686018427387904,.float .f64 4613937818241073152] 23)) [4611686018427387904,4616189618054758400,4619567317775286272] (u9.heap.size+1) (by simp)
 have BD:=cK (BD.o.trans (q0.mono BD.o.size)) q1 q2;have HE:=(aK Qz mg);clear Qz mg q0 q1 q2 BE;have C:Hid (Calls Tryz.prog 24 #[.slice (some ⟨g10,0,none⟩) 3 3,.slice (some ⟨g10+1,0,none⟩) 3 3,.int .i64 1,.int .i64 0] Ux fun r w'=>r=.returned (.tuple #[.float .f64 4612811918334230528,.int .i64 0])/\Below Ux.heap.size Ux w'):=hid (Co14 [4607182418800017408,4611686018427387904,4613937818241073152] [4611686018427387904,4616189618054758400,4619567317775286272] _ _ 3 3 3 3 1 0 Ux rfl rfl BD.o.2.1 BD.o.r2 (fV (by decide)) (fV (by decide)) (HT.o.belows BD.o.1) (by decide) (by decide) (4612811918334230528,0) (cCo.trans (by decide +kernel)));go_wp2_with fail;rw [<-HE.o.1,<-HE.o.2];clear HE;refine C.o.mono ?_;rintro r Ma ⟨rfl,hb⟩;have BD:=cK (BD.o.1.trans (hb.mono BD.o.1.size)) ((BD.o.2.1.below hb).mono hb.size) ((BD.o.r2.below hb).mono hb.size);clear hb C;have BD:=ak BD.o.1;obtain ⟨Uy,QA⟩:=af (((Ma.alloc (Obj.cells #[.float .f64 4607182418800017408,.float .f64 4611686018427387904,.float .f64 4613937818241073152] 23)).alloc (Obj.cells #[.float .f64 4613937818241073152,.float .f64 4611686018427387904,.float .f64 4607182418800017408] 23)));obtain ⟨g12,nA⟩:=af (Ma.heap.size);have BE:=ak BD.o;have q0:Below Ma.heap.size Ma Uy:=by rw [QA];exact (ae _ _).trans ((ae _ _).mono (by simp))
 have q1:Fs Uy.heap.size Uy (some ⟨g12,0,none⟩) [4607182418800017408,4611686018427387904,4613937818241073152]:=by rw [QA,nA];exact ((uQ Ma [4607182418800017408,4611686018427387904,4613937818241073152]).below (ae _ _)).mono (by simp)
 have q2:Fs Uy.heap.size Uy (some ⟨g12+1,0,none⟩) [4613937818241073152,4611686018427387904,4607182418800017408]:=by rw [QA,nA];exact He (Ma.alloc (Obj.cells #[.float .f64 4607182418800017408,.float .f64 4611686018427387904,.float .f64 4613937818241073152] 23)) [4613937818241073152,4611686018427387904,4607182418800017408] (Ma.heap.size+1) (by simp)
 have BD:=cK (BD.o.trans (q0.mono BD.o.size)) q1 q2;have HE:=(aK QA nA);clear QA nA q0 q1 q2 BE;have C:Hid (Calls Tryz.prog 12 #[.slice (some ⟨g12,0,none⟩) 3 3,.slice (some ⟨g12+1,0,none⟩) 3 3,.int .i64 2] Uy fun r w'=>r=.returned (.tuple #[.float .f64 13830554455654793216,.int .i64 0])/\Below Uy.heap.size Uy w'):=hid (Qv [4607182418800017408,4611686018427387904,4613937818241073152] [4613937818241073152,4611686018427387904,4607182418800017408] _ _ 3 3 3 3 2 Uy rfl rfl BD.o.2.1 BD.o.r2 (fV (by decide)) (fV (by decide)) (HT.o.belows BD.o.1) (by decide) (by decide) (13830554455654793216,0) (cLi.trans (by decide +kernel)));go_wp2_with fail;rw [<-HE.o.1,<-HE.o.2];clear HE;refine C.o.mono ?_;rintro r Qi ⟨rfl,hb⟩;have BD:=cK (BD.o.1.trans (hb.mono BD.o.1.size)) ((BD.o.2.1.below hb).mono hb.size) ((BD.o.r2.below hb).mono hb.size);clear hb C;have BD:=ak BD.o.1;go_wp2_with fail;obtain ⟨oa,hoa⟩:=af (gV 0 10);obtain ⟨ob,XE⟩:=af (gV 0 30);have C:Hid (Calls Tryz.prog 14 #[.int .i64 10] Qi fun r w'=>aQ 0 w' r oa/\Below Qi.heap.size Qi w'):=by rw [hoa];exact xC 10 Qi (by decide) (by decide)
 refine C.o.mono ?_;rintro r Uz ⟨hd,hb⟩;obtain ⟨ja,jc,rfl,hN⟩:=hd.aH;have BD:=aK (BD.o.trans (hb.mono BD.o.size)) hN;clear hb hd hN C;have C:Hid (Calls Tryz.prog 14 #[.int .i64 30] Uz fun r w'=>aQ 0 w' r ob/\Below Uz.heap.size Uz w'):=by rw [XE];exact xC 30 Uz (by decide) (by decide)
 have HO:=(aK hoa XE);clear hoa XE;go_wp2_with fail;refine C.o.mono ?_;rintro r Xp ⟨hd,hb⟩;obtain ⟨ka,kc,rfl,hN⟩:=hd.aH;have BD:=cK (BD.o.1.trans (hb.mono BD.o.1.size)) (BD.o.2.below hb) hN;clear hb hd hN C
 have C:Hid (Calls Tryz.prog 13 #[.int .i64 4,.agg #[.bool (dN oa),.slice ja (ws (dX oa)).length jc,.int .i64 (dE oa)],.agg #[.bool (dN ob),.slice ka (ws (dX ob)).length kc,.int .i64 (dE ob)],.int .i64 0,.int .i64 0] Xp fun r w'=>r=.returned (.tuple #[.float .f64 4608308318706860032,.int .i64 0])/\Below Xp.heap.size Xp w'):=by
  have h1:=BD.o.2.1;have h2:=BD.o.r2;rw [HO.o.1] at h1;rw [HO.o.2] at h2;rw [HO.o.1,HO.o.2];exact Uv 4 10 30 0 0 (by decide) (by decide) h1 h2 (HT.o.belows BD.o.1) (by decide) (4608308318706860032,0) (cOf.trans (by decide +kernel))
 clear HO;go_wp2_with fail;refine C.o.mono ?_;rintro r Hg ⟨rfl,hb⟩;have BD:=ak (BD.o.1.trans (hb.mono BD.o.1.size));clear hb C;obtain ⟨UA,QB⟩:=af (((Hg.alloc (Obj.cells #[.float .f64 4607182418800017408,.float .f64 4607182418800017408] 23)).alloc (Obj.cells #[.float .f64 4607182418800017408,.float .f64 4611686018427387904] 23)));obtain ⟨g15,yB⟩:=af (Hg.heap.size);have BE:=ak BD.o;have q0:Below Hg.heap.size Hg UA:=by rw [QB];exact (ae _ _).trans ((ae _ _).mono (by simp))
 have q1:Fs UA.heap.size UA (some ⟨g15,0,none⟩) [4607182418800017408,4607182418800017408]:=by rw [QB,yB];exact ((uQ Hg [4607182418800017408,4607182418800017408]).below (ae _ _)).mono (by simp)
 have q2:Fs UA.heap.size UA (some ⟨g15+1,0,none⟩) [4607182418800017408,4611686018427387904]:=by rw [QB,yB];exact He (Hg.alloc (Obj.cells #[.float .f64 4607182418800017408,.float .f64 4607182418800017408] 23)) [4607182418800017408,4611686018427387904] (Hg.heap.size+1) (by simp)
 have BD:=cK (BD.o.trans (q0.mono BD.o.size)) q1 q2;have HE:=(aK QB yB);clear QB yB q0 q1 q2 BE;have C:Hid (Calls Tryz.prog 12 #[.slice (some ⟨g15,0,none⟩) 2 2,.slice (some ⟨g15+1,0,none⟩) 2 2,.int .i64 0] UA fun r w'=>r=.returned (.tuple #[.float .f64 0,.int .i64 190])/\Below UA.heap.size UA w'):=hid (Qv [4607182418800017408,4607182418800017408] [4607182418800017408,4611686018427387904] _ _ 2 2 2 2 0 UA rfl rfl BD.o.2.1 BD.o.r2 (fV (by decide)) (fV (by decide)) (HT.o.belows BD.o.1) (by decide) (by decide) (0,190) (ZJ.trans (by decide +kernel)));go_wp2_with fail;rw [<-HE.o.1,<-HE.o.2];clear HE;refine C.o.mono ?_;rintro r u16 ⟨rfl,hb⟩;have BD:=cK (BD.o.1.trans (hb.mono BD.o.1.size)) ((BD.o.2.1.below hb).mono hb.size) ((BD.o.r2.below hb).mono hb.size);clear hb C;have BD:=ak BD.o.1;obtain ⟨W17,UB⟩:=af ((u16.alloc (Obj.cells #[.float .f64 4617315517961601024] 23)));obtain ⟨g17,Eo⟩:=af (u16.heap.size);have BE:=ak BD.o;have q0:Below u16.heap.size u16 W17:=by rw [UB];exact ae _ _
 have q1:Fs W17.heap.size W17 (some ⟨g17,0,none⟩) [4617315517961601024]:=by rw [UB,Eo];exact uQ u16 [4617315517961601024]
 have BD:=aK (BD.o.trans (q0.mono BD.o.size)) q1;have HE:=(aK UB Eo);clear UB Eo q0 q1 BE;go_wp2_with fail;rw [<-HE.o.1,<-HE.o.2];clear HE;refine (sj W17).mono ?_;rintro r QU ⟨rfl,hb⟩;have BD:=aK (BD.o.1.trans (hb.mono BD.o.1.size)) ((BD.o.2.below hb).mono hb.size);clear hb;have C:Hid (Calls Tryz.prog 10 #[.slice (some ⟨g17,0,none⟩) 1 1,.int .i64 1,.int .i64 0,.agg #[.int .i64 0,.int .i64 0]] QU fun r w'=>r=.returned (.tuple #[.float .f64 0,.int .i64 3])/\Below QU.heap.size QU w'):=hid (Ei [4617315517961601024] _ 1 1 1 0 0 0 QU rfl BD.o.2 (fV (by decide)) (HT.o.belows BD.o.1) (by decide) (0,3) (Xo.trans (by decide +kernel)));go_wp2_with fail;refine C.o.mono ?_;rintro r QV ⟨rfl,hb⟩;have BD:=aK (BD.o.1.trans (hb.mono BD.o.1.size)) ((BD.o.2.below hb).mono hb.size);clear hb C;have BD:=ak BD.o.1;obtain ⟨W20,UC⟩:=af ((QV.alloc (Obj.cells #[.float .f64 4617315517961601024] 23)));obtain ⟨g20,BN⟩:=af (QV.heap.size);have BE:=ak BD.o;have q0:Below QV.heap.size QV W20:=by rw [UC];exact ae _ _
 have q1:Fs W20.heap.size W20 (some ⟨g20,0,none⟩) [4617315517961601024]:=by rw [UC,BN];exact uQ QV [4617315517961601024]
 have BD:=aK (BD.o.trans (q0.mono BD.o.size)) q1;have HE:=(aK UC BN);clear UC BN q0 q1 BE;go_wp2_with fail;rw [<-HE.o.1,<-HE.o.2];clear HE;refine (sj W20).mono ?_;rintro r u21 ⟨rfl,hb⟩;have BD:=aK (BD.o.1.trans (hb.mono BD.o.1.size)) ((BD.o.2.below hb).mono hb.size);clear hb;have C:Hid (Calls Tryz.prog 10 #[.slice (some ⟨g20,0,none⟩) 1 1,.int .i64 2,.int .i64 0,.agg #[.int .i64 0,.int .i64 0]] u21 fun r w'=>r=.returned (.tuple #[.float .f64 0,.int .i64 1])/\Below u21.heap.size u21 w'):=hid (Ei [4617315517961601024] _ 1 1 2 0 0 0 u21 rfl BD.o.2 (fV (by decide)) (HT.o.belows BD.o.1) (by decide) (0,1) (ZI.trans (by decide +kernel)));go_wp2_with fail;refine C.o.mono ?_;rintro r u22 ⟨rfl,hb⟩;have BD:=aK (BD.o.1.trans (hb.mono BD.o.1.size)) ((BD.o.2.below hb).mono hb.size);clear hb C;have BD:=ak BD.o.1;have C:=hid (qG 4608308318706860032 4608308318706860032 rfl u22);go_wp2_with fail;refine C.o.mono ?_;rintro r u23 ⟨rfl,hq⟩;rw [hq];clear hq C u23;have C:=hid (qG 4610184818551597739 4610184818551597739 rfl u22);go_wp2_with fail;refine C.o.mono ?_;rintro r u24 ⟨rfl,hq⟩;rw [hq];clear hq C u24;have C:=hid (qG 4608492941290910865 4608492941290910865 rfl u22);go_wp2_with fail;refine C.o.mono ?_;rintro r u25 ⟨rfl,hq⟩;rw [hq];clear hq C u25;have C:=hid (qG 4618441417868443648 4618441417868443648 rfl u22);go_wp2_with fail;refine C.o.mono ?_;rintro r u26 ⟨rfl,hq⟩;rw [hq];clear hq C u26;have C:=hid (qG 4612811918334230528 4612811918334230528 rfl u22);go_wp2_with fail;refine C.o.mono ?_;rintro r u27 ⟨rfl,hq⟩;rw [hq];clear hq C u27;have C:=hid (qG 13830554455654793216 13830554455654793216 rfl u22);go_wp2_with fail;refine C.o.mono ?_;rintro r u28 ⟨rfl,hq⟩;rw [hq];clear hq C u28;have C:=hid (qG 4608308318706860032 4608308318706860032 rfl u22);go_wp2_with fail;refine C.o.mono ?_;rintro r u29 ⟨rfl,hq⟩;rw [hq];clear hq C u29;go_wp2;go_ret;exact ⟨rfl,BD.o⟩
attribute [local go_sem] B.aV B.aD rD
theorem Xq:(FloatKind.f64.format.order 4634696597773484032 4634696597773484032==some .eq)=true:=by decide +kernel
theorem Xr:(FloatKind.f64.format.order 4634766966517661696 4634766966517661696==some .eq)=true:=by decide +kernel
attribute [local go_sem] Xq Xr
theorem Ev (xs:List Nat) (n:Nat) (hn:n=xs.length):xs++(List.replicate (n+2) 0).drop n=xs++[0,0]:=by
 rw [Cb,show n+2-n=2 by omega];rfl
theorem Ew (xs:List Nat) (n:Nat) (hn:n=xs.length):((xs++[0,0]).set n 4634696597773484032).set (n+1) 4634766966517661696=xs++[4634696597773484032,4634766966517661696]:=by
 subst hn;simp
theorem Xt (xs:List Nat) (ao:Option Addr) (n cap B:Nat) (w:World) (hn:n=xs.length) (hm:n<=17592186043904) (hR:Fs B w ao xs) (hB:B<=w.heap.size) :
 Calls Tryz.prog 18 #[.slice ao n cap] w fun r w'=>r=.returned (.slice (some ⟨w.heap.size,0,none⟩) n (n+2))/\iw w' w.heap.size (xs++[4634696597773484032,4634766966517661696])/\Below w.heap.size w w':=by
 have hmk:=uM ((n+2:Nat):Int) (n+2) rfl (by omega);have hmk2:=uM ((n:Int)+2) (n+2) (by omega) (by omega);have XR:Hid (iw (w.alloc (.cells (madeCells #[.float .f64 0] (n+2)) 23)) w.heap.size (List.replicate (n+2) 0)):=iw.made w (n+2);obtain ⟨w2,hcp,hO2,aF⟩:=Ef _ w.heap.size (n+2) (n+2) ao n cap B 3 (List.replicate (n+2) 0) xs XR.o (by simp) hn (hR.below ((aB _ _).alloc hB _)) (by omega);rw [Ev xs n hn] at hO2;have hg1:=hO2.frozen n;have hg2:=hO2.frozen (n+1);have hc1:=hO2.cell n (by simp;omega);have hc2:=hO2.cell (n+1) (by simp;omega);have HX:=(cK hO2 aF hn);clear hO2 aF XR hn hR;go_enter Tryz.func18,Tryz.ntmps18;go_wp2;go_ret;obtain ⟨hO2,aF,hn⟩:=HX.o;refine ⟨rfl,?_,?_⟩
 · have h1:=(hO2.set n 4634696597773484032).set (n+1) 4634766966517661696;rw [Ew xs n hn] at h1;exact h1
 · exact But.below ((aB _ _).alloc (aA _) _) ((aF.set _ _).set _ _) (by simp) (aA _)
theorem qS{P:Prop}(h:P:=by
 go_wp2
 go_quiet (fail)
 go_wp2;go_roundg (gk-1)
 case measure=>omega
 case rel =>
  obtain ⟨hl,hM,aF⟩:=HA.o;refine ⟨k+1,M.set k 4635541022703616000,by omega,by first | rfl | simp,by first | go_num | (congr 1;omega),(HM.o.set k 4635541022703616000).drew,by simp [hl],fun j hj=>?_,((But.drewN aF _).set k _)⟩;rw [getD_set_ne _ _ _ _ (by omega)];exact hM j (by omega)):P:=h
theorem QC (xs:List Nat) (ao:Option Addr) (n cap B g:Nat) (w:World) (hn:n=xs.length) (hm:n<=17592186043904) (hR:Fs B w ao xs) (hB:B<=g) (hO:iw w g (xs++[4634696597773484032,4634766966517661696])) :
 Calls Tryz.prog 20 #[.slice (some ⟨g,0,none⟩) n (n+2),.slice ao n cap] w fun r w'=>r=.returned (.bool true)/\But g w w':=by
 have hgl:=hO.lt;have hc1:=hO.cell n (by simp;omega);have hc2:=hO.cell (n+1) (by simp;omega);have e1:(xs++[4634696597773484032,4634766966517661696]).getD n 0=4634696597773484032:=by subst hn;simp
 have e2:(xs++[4634696597773484032,4634766966517661696]).getD (n+1) 0=4634766966517661696:=by subst hn;simp
 rw [e1] at hc1;rw [e2] at hc2;have HX:=(dK hR hO hn hB hgl);clear hR hO hn hB e1 e2 hgl;go_enter Tryz.func20,Tryz.ntmps20;go_wp2
 go_loopg [6,7] (n+2) (fun gk gv iv wr=>∃ (k:Nat) (M:List Nat),gk+k=n+2/\gv=.bool true/\iv=.int .i64 (k:Nat)/\Hid (iw wr g M) /\
  Aside (M.length=n+2/\(∀ j,k<=j->M.getD j 0=(xs++[4634696597773484032,4634766966517661696]).getD j 0)/\But g w wr))
 case atStart =>
  obtain ⟨hR,hO,hn,hB,hgl⟩:=HX.o;exact ⟨0,xs++[4634696597773484032,4634766966517661696],by omega,rfl,rfl,hO,by simp;omega,fun _ _=>rfl,But.refl _ _⟩
 case round =>
  obtain ⟨k,M,hk,rfl,rfl,HM,HA⟩:=hrel
  by_cases hk2:k=n+2
  · obtain rfl:gk=0:=by omega
    subst hk2;go_wp2;go_ret;exact ⟨rfl,HA.o.r2⟩
  · obtain ⟨hl,hM,aF⟩:=HA.o;have hgc:=HM.o.cell k (by omega);have hgf:=HM.o.frozen k;have hklt:k<n+2:=by omega
    by_cases hkn:k<n
    · obtain ⟨hR,hO,hn,hB,hgl⟩:=HX.o;obtain ⟨b,off,hlt,rfl,hcell⟩:=(hR.but aF (by omega) hB) (by intro e;subst e;simp at hn;omega);have Nw:=hcell k (by omega)
      have e3:M.getD k 0=xs.getD k 0:=by
       rw [hM k (aA _)];simp [gN,zS (show k<xs.length by omega)]
      rw [e3] at hgc;obtain ⟨x,hx1⟩:∃ x,xs.getD k 0=x:=⟨_,rfl⟩;rw [hx1] at hgc Nw;have hd:decide ((n:Int)<=(k:Int))=false:=decide_eq_false (by omega);clear hl hM aF hR hO hn hB hgl hcell e3 hx1;exact qS
    · have hd:decide ((n:Int)<=(k:Int))=true:=decide_eq_true (by omega);clear hl hM aF;exact qS
end
section
open Go Go.RowKit J
theorem xW (x:Nat) (hx:x<18446744073709551616) (fx:fZ x) (w:World) :
 Calls Tryz.prog 66 #[.float .f64 x] w fun r w'=>aQ 0 w' r (gV 1074 (zt x))/\Below w.heap.size w w':=by
 have HO:=hid (fun u:World=>Zf x hx fx u);rw [g_oW] at HO;obtain ⟨o,ho⟩:=af (gV 1074 (zt x));rw [<-ho] at HO |-;have FF:Aside (Fm o):=by rw [ho];exact bB (by decide) (by decide) (Pq hx fx)
 clear ho hx fx;obtain ⟨W,hW⟩:=af (w.alloc (Obj.cells #[.bool false,.slice none 0 0,.int .i64 0] 37));have H0:Aside (Lo W w.heap.size ig/\Below w.heap.size w W):=by rw [hW];exact ⟨Lo.zero _,ae _ _⟩
 have HW:=ak hW;clear hW;go_enter Tryz.func66,Tryz.ntmps66
 go_upto_region 1 with fail
 rw [<-HW.o];clear HW;go_wp2_with fail;refine (HO.o W).mono ?_;rintro r u ⟨⟨v,rfl,hN⟩,hb⟩;obtain ⟨a1,c1,rfl,hN0⟩:=Lo.shape FF.o hN;obtain ⟨U,hU⟩:=af (u.alloc (Obj.cells #[.bool (dN o),.slice a1 (ws (dX o)).length c1,.int .i64 (dE o)] 37));obtain ⟨g3,hg3⟩:=af (u.heap.size)
 have H1:Aside (Lo U g3 o/\Lo U w.heap.size ig/\Below w.heap.size w U):=by
  rw [hU,hg3];exact ⟨Lo.new hN0,(H0.o.1.below hb).below (ae _ _),(H0.o.2.trans (hb.mono H0.o.2.size)).trans ((ae _ _).mono (dC H0.o.2.size hb.size))⟩
 have HU:=(aK hU hg3);clear hU hg3 hN hN0 hb H0 HO
 go_upto_region 2 with fail
 rw [<-HU.o.1,<-HU.o.2];clear HU;obtain ⟨p1,q1,D1,M1⟩:=H1.o.1;obtain ⟨p2,q2,D2,M2⟩:=H1.o.2.1;obtain ⟨x0,x1,x2,bC,bE,bF⟩:=D1.facts;obtain ⟨y0,y1,y2,bU,bZ,cu⟩:=D2.facts;have Bz:=ak M1;clear D1 D2 M1 M2;go_wp2;exact iI Tryz.results66 rfl H1.o.2.1 H1.o.r2 (aA _) Bz.o
theorem Qad{P:Prop}(h:P:=by
 rw [hA];have hm:xs.getD i 0 ∈ xs:=by rw [gN,jV (by omega)];exact qJ _
 exact xW _ (hW _ hm) (hf _ hm) u):P:=h
theorem QD (xs:List Nat) (a:Option Addr) (n c:Nat) (w:World) (hn:n=xs.length) (hF:Fs w.heap.size w a xs) (hW:j4 xs) (hf:∀ x ∈ xs,fZ x) (hl:n<=65536) :
 Calls Tryz.prog 63 #[.slice a n c] w fun r w'=>aQ 0 w' r (gV 1074 (sX xs))/\Below w.heap.size w w':=by
 obtain ⟨A,hA⟩:∃ A:Nat->Option (Bool×Nat×Int),A=fun i=>gV 1074 (fX xs i):=⟨_,rfl⟩;obtain ⟨T,QE⟩:∃ T:Nat->Option (Bool×Nat×Int),T=fun i=>gV 1074 (tS (fX xs) i):=⟨_,rfl⟩;have eT:gV 1074 (sX xs)=T n:=by rw [QE,hn];rfl
 rw [eT];have FA:∀ i,i<n->Fm (A i):=fun i hi=>by rw [hA];exact bB (by decide) (by decide) (ib hW hf i (by omega))
 have FT:∀ i,i<=n->Fm (T i):=fun i hi=>by rw [QE];exact bB (by decide) (by decide) (iF hW hf (by omega) i (by omega))
 have ET:∀ i,i<n->il (T i) (A i)=T (i+1):=fun i hi=>by
  rw [QE,hA];exact xz (by decide) (by decide) (iF hW hf (by omega) i (by omega)) ((ib hW hf i (by omega)).mono (by decide))
 have E0:ig=T 0:=by rw [QE];exact (qB 1074).symm
 have HV:Hid (∀ (i:Nat) (u:World),i<n->Calls Tryz.prog 66 #[.float .f64 (xs.getD i 0)] u fun r w'=>aQ 0 w' r (A i)/\Below u.heap.size u w'):=fun i u hi=>by
  exact Qad
 have HP:Hid (∀ (i:Nat) (u:World) (p q:Option Addr) (cp cq:Nat),i<n->Nt 0 u (.slice p (ws (dX (T i))).length cp) (dX (T i))->Nt 0 u (.slice q (ws (dX (A i))).length cq) (dX (A i))->Calls Tryz.prog 67 #[.agg #[.bool (dN (T i)),.slice p (ws (dX (T i))).length cp,.int .i64 (dE (T i))],.agg #[.bool (dN (A i)),.slice q (ws (dX (A i))).length cq,.int .i64 (dE (A i))]] u fun r w'=>aQ 0 w' r (T (i+1))/\Below u.heap.size u w') :=
  fun i u p q cp cq hi n1 n2=>I6 (FT i (by omega)) (FA i hi) (FT (i+1) (by omega)) n1 n2 (ET i hi)
 have HX:=aK hn hF;obtain ⟨W,iq⟩:=af ((w.alloc (Obj.cells #[.bool false,.slice none 0 0,.int .i64 0] 37)).alloc (Obj.cells #[.bool false,.slice none 0 0,.int .i64 0] 37))
 have H0:Aside (Lo W (w.heap.size+1) (T 0)/\Lo W w.heap.size ig/\Below w.heap.size w W):=by
  subst iq;exact Up
 have ik:=ak iq;clear iq hn hF hW hf hA QE eT FA FT ET E0;go_enter Tryz.func63,Tryz.ntmps63
 go_upto_region 2 with fail
 rw [<-ik.o];clear ik;go_wp2
 go_loopg [4] n (fun gk i wr=>∃ j:Nat,gk+j=n/\i=.int .i64 (j:Nat)/\Aside (Lo wr (w.heap.size+1) (T j)/\Lo wr w.heap.size ig/\Below w.heap.size w wr))
 case atStart=>exact ⟨0,by omega,by simp,H0.o⟩
 case round =>
  obtain ⟨j,hgj,rfl,HA⟩:=hrel
  by_cases hj:j<n
  · have hdr:=(aB wr.heap.size wr).drew;obtain ⟨b,off,rfl,hc⟩:=HX.o.2.at (HA.o.r2.trans (hdr.mono HA.o.r2.size)) j (by rw [<-HX.o.1];exact hj);have ZK:=hid (HV.o j wr.drew hj);obtain ⟨x,hx⟩:=af (xs.getD j 0);rw [<-hx] at hc ZK;obtain ⟨p1,q1,D1,M1⟩:=HA.o.1;have kS:Aside (wr.drew.cell? ⟨w.heap.size+1,0,none⟩=some (.bool (dN (T j)))/\wr.drew.cell? ⟨w.heap.size+1,1,none⟩=some (.slice p1 (ws (dX (T j))).length q1)/\wr.drew.cell? ⟨w.heap.size+1,2,none⟩=some (.int .i64 (dE (T j)))/\wr.drew.cell? ⟨b,off+j,none⟩=some (.float .f64 x)):=⟨(D1.below hdr).facts.1,(D1.below hdr).facts.2.1,(D1.below hdr).facts.2.2.1,hc⟩;have BD:=fF (D1.below hdr) (M1.below hdr) (HA.o.2.1.below hdr) (HA.o.r2.trans (hdr.mono HA.o.r2.size));clear D1 M1 hdr hc hx;go_wp2_with fail;refine dS (fun w'=>w'.cell? ⟨w.heap.size+1,0,none⟩=some (.bool (dN (T j)))/\w'.cell? ⟨w.heap.size+1,1,none⟩=some (.slice p1 (ws (dX (T j))).length q1)/\w'.cell? ⟨w.heap.size+1,2,none⟩=some (.int .i64 (dE (T j)))/\w'.cell? ⟨b,off+j,none⟩=some (.float .f64 x)) 7 (by kernel_rfl) ?_
    refine tk 0 [6] rfl kS.o ?_;try simp only [Act.put,sa,sb,sc]
    refine tk 1 [3,4,5,6] rfl kS.o ?_;try simp only [Act.put,sa,sb,sc]
    refine tk 2 [3,4,5,6] rfl kS.o ?_;try simp only [Act.put,sa,sb,sc]
    refine tk 3 [4,5,6] rfl kS.o ?_;try simp only [Act.put,sa,sb,sc]
    refine tk 4 [5,6] rfl kS.o ?_;try simp only [Act.put,sa,sb,sc]
    have C:=hid (ZK.o);refine aj (i:=5) (by kernel_rfl) rfl (fun K' hK=>?_);go_simp;refine C.o.mono ?_;rintro r u3 ⟨hd,hb⟩;obtain ⟨a3,c3,rfl,dV⟩:=hd.aH;have BD:=dK (BD.o.1.below hb) (BD.o.2.1.below hb) (BD.o.r2.1.below hb) (BD.o.r3.trans (hb.mono BD.o.r3.size)) dV;have kS:=ak (ji hb kS.o);clear hb hd C;dsimp only;refine hK.out _ _ (fun _=>kS.o) ?_;clear hK K'
    try simp only [Act.put,sa,sb,sc]
    have C:=hid (HP.o j u3 p1 a3 q1 c3 hj BD.o.2.1 BD.o.r4);refine aj (i:=6) (by kernel_rfl) rfl (fun K' hK=>?_);go_simp;refine C.o.mono ?_;rintro r u4 ⟨hd,hb⟩;obtain ⟨a4,c4,rfl,iy⟩:=hd.aH;have BD:=dK (BD.o.1.below hb) (BD.o.2.1.below hb) (BD.o.r2.1.below hb) (BD.o.r3.1.trans (hb.mono BD.o.r3.1.size)) iy;have kS:=ak (ji hb kS.o);clear hb hd C;dsimp only;refine hK.out _ _ (fun _=>kS.o) ?_;clear hK K'
    try simp only [Act.put,sa,sb,sc]
    obtain ⟨z0,z1,z2,fu,fw,fA⟩:=BD.o.1.facts;refine aj (i:=7) (by kernel_rfl) rfl (fun K' hK=>?_);go_simp;refine hK.out _ _ (fun h=>absurd h (by decide)) ?_;clear hK K' kS z0 z1 z2 fu fw fA;refine aM (by kernel_rfl) ?_ _;have LB:Lo u4 (w.heap.size+1) (T j):=⟨_,_,BD.o.1,BD.o.2.1⟩;have b3:=BD.o.r3.1;have H3:=cK (LB.set BD.o.r4) (BD.o.r2.1.other LB (by omega) (.bool (dN (T (j+1)))) (.slice a4 (ws (dX (T (j+1)))).length c4) (.int .i64 (dE (T (j+1))))) (dQ b3 b3.size (show w.heap.size<=w.heap.size+1 by omega) (.bool (dN (T (j+1)))) (.slice a4 (ws (dX (T (j+1)))).length c4) (.int .i64 (dE (T (j+1)))));clear LB b3;exact Ks
  · obtain rfl:n=j:=by omega
    have hd:decide ((n:Int)<n)=false:=by simp
    obtain ⟨p1,q1,D1,M1⟩:=HA.o.1;obtain ⟨p2,q2,D2,M2⟩:=HA.o.2.1;obtain ⟨x0,x1,x2,bC,bE,bF⟩:=D1.facts;obtain ⟨y0,y1,y2,bU,bZ,cu⟩:=D2.facts;have Bz:=ak M1;clear D1 D2 M1 M2;go_wp2;exact iI Tryz.results63 rfl HA.o.2.1 HA.o.r2 (aA _) Bz.o
theorem Ex (xs ys:List Nat) (a a2:Option Addr) (n n2 c c2:Nat) (w:World) (hn:n=xs.length) (hn2:n2=ys.length) (he:n=n2) (hF:Fs w.heap.size w a xs) (hG:Fs w.heap.size w a2 ys) (hW:j4 xs) (hf:∀ x ∈ xs,fZ x) (hW2:j4 ys) (hf2:∀ x ∈ ys,fZ x) (hl:n<=65536) :
 Calls Tryz.prog 74 #[.slice a n c,.slice a2 n2 c2] w fun r w'=>aQ 0 w' r (gV 2148 (tS (fun i=>fX xs i*fX ys i) n))/\Below w.heap.size w w':=by
 subst he;obtain ⟨A,hA⟩:∃ A:Nat->Option (Bool×Nat×Int),A=fun i=>gV 1074 (fX xs i):=⟨_,rfl⟩;obtain ⟨B',hB⟩:∃ A:Nat->Option (Bool×Nat×Int),A=fun i=>gV 1074 (fX ys i):=⟨_,rfl⟩;obtain ⟨P,hP⟩:∃ A:Nat->Option (Bool×Nat×Int),A=fun i=>gV 2148 (fX xs i*fX ys i):=⟨_,rfl⟩;obtain ⟨T,QE⟩:∃ T:Nat->Option (Bool×Nat×Int),T=fun i=>gV 2148 (tS (fun i=>fX xs i*fX ys i) i):=⟨_,rfl⟩;have eT:gV 2148 (tS (fun i=>fX xs i*fX ys i) n)=T n:=by rw [QE]
 rw [eT];have bx:∀ i,i<n->Bd 2098 (fX xs i):=fun i hi=>ib hW hf i (by omega);have by':∀ i,i<n->Bd 2098 (fX ys i):=fun i hi=>ib hW2 hf2 i (by omega)
 have bP:=fun k hk=>pg bx by' hl k hk
 have FA:∀ i,i<n->Fm (A i):=fun i hi=>by rw [hA];exact bB (by decide) (by decide) (bx i hi)
 have FB:∀ i,i<n->Fm (B' i):=fun i hi=>by rw [hB];exact bB (by decide) (by decide) (by' i hi)
 have FP:∀ i,i<n->Fm (P i):=fun i hi=>by rw [hP];exact bB (by decide) (by decide) ((bx i hi).mul (by' i hi))
 have FT:∀ i,i<=n->Fm (T i):=fun i hi=>by rw [QE];exact bB (by decide) (by decide) (bP i hi)
 have EP:∀ i,i<n->dZ (A i) (B' i)=P i:=fun i hi=>by rw [hA,hB,hP];exact jZ (by decide) (by decide) (by decide) (by decide) (bx i hi) (by' i hi)
 have ET:∀ i,i<n->il (T i) (P i)=T (i+1):=fun i hi=>by
  rw [QE,hP];exact xz (by decide) (by decide) (bP i (by omega)) (((bx i hi).mul (by' i hi)).mono (by decide))
 have E0:ig=T 0:=by rw [QE];exact (qB 2148).symm
 have HV:Hid (∀ (i:Nat) (u:World),i<n->Calls Tryz.prog 66 #[.float .f64 (xs.getD i 0)] u fun r w'=>aQ 0 w' r (A i)/\Below u.heap.size u w'):=fun i u hi=>by
  exact Qad
 have HV2:Hid (∀ (i:Nat) (u:World),i<n->Calls Tryz.prog 66 #[.float .f64 (ys.getD i 0)] u fun r w'=>aQ 0 w' r (B' i)/\Below u.heap.size u w'):=fun i u hi=>by
  rw [hB];have hm:ys.getD i 0 ∈ ys:=by rw [gN,jV (by omega)];exact qJ _
  exact xW _ (hW2 _ hm) (hf2 _ hm) u
 have HM:Hid (∀ (i:Nat) (u:World) (p q:Option Addr) (cp cq:Nat),i<n->Nt 0 u (.slice p (ws (dX (A i))).length cp) (dX (A i))->Nt 0 u (.slice q (ws (dX (B' i))).length cq) (dX (B' i))->Calls Tryz.prog 64 #[.agg #[.bool (dN (A i)),.slice p (ws (dX (A i))).length cp,.int .i64 (dE (A i))],.agg #[.bool (dN (B' i)),.slice q (ws (dX (B' i))).length cq,.int .i64 (dE (B' i))]] u fun r w'=>aQ 0 w' r (P i)/\Below u.heap.size u w') :=
  fun i u p q cp cq hi n1 n2=>rO (FA i hi) (FB i hi) (FP i hi) n1 n2 (EP i hi)
 have HP:Hid (∀ (i:Nat) (u:World) (p q:Option Addr) (cp cq:Nat),i<n->Nt 0 u (.slice p (ws (dX (T i))).length cp) (dX (T i))->Nt 0 u (.slice q (ws (dX (P i))).length cq) (dX (P i))->Calls Tryz.prog 67 #[.agg #[.bool (dN (T i)),.slice p (ws (dX (T i))).length cp,.int .i64 (dE (T i))],.agg #[.bool (dN (P i)),.slice q (ws (dX (P i))).length cq,.int .i64 (dE (P i))]] u fun r w'=>aQ 0 w' r (T (i+1))/\Below u.heap.size u w') :=
  fun i u p q cp cq hi n1 n2=>I6 (FT i (by omega)) (FP i hi) (FT (i+1) (by omega)) n1 n2 (ET i hi)
 have HX:=fF hn hF hn2 hG;obtain ⟨W,iq⟩:=af ((w.alloc (Obj.cells #[.bool false,.slice none 0 0,.int .i64 0] 37)).alloc (Obj.cells #[.bool false,.slice none 0 0,.int .i64 0] 37))
 have H0:Aside (Lo W (w.heap.size+1) (T 0)/\Lo W w.heap.size ig/\Below w.heap.size w W):=by
  subst iq;exact Up
 have ik:=ak iq;clear iq hn hF hW hf hn2 hG hW2 hf2 hA hB hP QE eT FA FB FP FT EP ET E0 bx by' bP
 go_enter Tryz.func74,Tryz.ntmps74
 go_upto_region 2 with fail
 rw [<-ik.o];clear ik;go_wp2
 go_loopg [6] n (fun gk i wr=>∃ j:Nat,gk+j=n/\i=.int .i64 (j:Nat)/\Aside (Lo wr (w.heap.size+1) (T j)/\Lo wr w.heap.size ig/\Below w.heap.size w wr))
 case atStart=>exact ⟨0,by omega,by simp,H0.o⟩
 case round =>
  obtain ⟨j,hgj,rfl,HA⟩:=hrel
  by_cases hj:j<n
  · have hdr:=(aB wr.heap.size wr).drew;obtain ⟨b,off,rfl,hc⟩:=HX.o.2.1.at (HA.o.r2.trans (hdr.mono HA.o.r2.size)) j (by rw [<-HX.o.1];exact hj);obtain ⟨b2,yg,rfl,hc2⟩:=HX.o.r3.at (HA.o.r2.trans (hdr.mono HA.o.r2.size)) j (by rw [<-HX.o.r2.1];exact hj);have ZK:=hid (fun u=>HV.o j u hj);have ZL:=hid (fun u=>HV2.o j u hj);obtain ⟨x,hx⟩:=af (xs.getD j 0);obtain ⟨y,hy⟩:=af (ys.getD j 0);rw [<-hx] at hc ZK;rw [<-hy] at hc2 ZL;obtain ⟨p1,q1,D1,M1⟩:=HA.o.1;have kS:Aside (wr.drew.cell? ⟨w.heap.size+1,0,none⟩=some (.bool (dN (T j)))/\wr.drew.cell? ⟨w.heap.size+1,1,none⟩=some (.slice p1 (ws (dX (T j))).length q1)/\wr.drew.cell? ⟨w.heap.size+1,2,none⟩=some (.int .i64 (dE (T j)))/\wr.drew.cell? ⟨b,off+j,none⟩=some (.float .f64 x)/\wr.drew.cell? ⟨b2,yg+j,none⟩=some (.float .f64 y)):=⟨(D1.below hdr).facts.1,(D1.below hdr).facts.2.1,(D1.below hdr).facts.2.2.1,hc,hc2⟩;have BD:=fF (D1.below hdr) (M1.below hdr) (HA.o.2.1.below hdr) (HA.o.r2.trans (hdr.mono HA.o.r2.size));clear D1 M1 hdr hc hx hc2 hy;go_wp2_with fail;refine dS (fun w'=>w'.cell? ⟨w.heap.size+1,0,none⟩=some (.bool (dN (T j)))/\w'.cell? ⟨w.heap.size+1,1,none⟩=some (.slice p1 (ws (dX (T j))).length q1)/\w'.cell? ⟨w.heap.size+1,2,none⟩=some (.int .i64 (dE (T j)))/\w'.cell? ⟨b,off+j,none⟩=some (.float .f64 x)/\w'.cell? ⟨b2,yg+j,none⟩=some (.float .f64 y)) 13 (by kernel_rfl) ?_
    refine tk 0 [12] rfl kS.o ?_;try simp only [Act.put,sa,sb,sc]
    refine tk 1 [3,4,5,11,12] rfl kS.o ?_;try simp only [Act.put,sa,sb,sc]
    refine tk 2 [3,4,5,11,12] rfl kS.o ?_;try simp only [Act.put,sa,sb,sc]
    refine tk 3 [4,5,11,12] rfl kS.o ?_;try simp only [Act.put,sa,sb,sc]
    refine tk 4 [5,11,12] rfl kS.o ?_;try simp only [Act.put,sa,sb,sc]
    refine tk 6 [8,9,10,11,12] rfl kS.o ?_;try simp only [Act.put,sa,sb,sc]
    refine tk 7 [8,9,10,11,12] rfl kS.o ?_;try simp only [Act.put,sa,sb,sc]
    refine tk 8 [9,10,11,12] rfl kS.o ?_;try simp only [Act.put,sa,sb,sc]
    refine tk 9 [10,11,12] rfl kS.o ?_;try simp only [Act.put,sa,sb,sc]
    have C:=hid (ZK.o wr.drew);refine aj (i:=5) (by kernel_rfl) rfl (fun K' hK=>?_);go_simp;refine C.o.mono ?_;rintro r u3 ⟨hd,hb⟩;obtain ⟨a3,c3,rfl,dV⟩:=hd.aH;have BD:=dK (BD.o.1.below hb) (BD.o.2.1.below hb) (BD.o.r2.1.below hb) (BD.o.r3.trans (hb.mono BD.o.r3.size)) dV;have kS:=ak (ck hb kS.o fun h=>ck1 hb h);clear hb hd C;dsimp only;refine hK.out _ _ (fun _=>kS.o) ?_;clear hK K'
    try simp only [Act.put,sa,sb,sc]
    have C:=hid (ZL.o u3);refine aj (i:=10) (by kernel_rfl) rfl (fun K' hK=>?_);go_simp;refine C.o.mono ?_;rintro r u4 ⟨hd,hb⟩;obtain ⟨a4,c4,rfl,iy⟩:=hd.aH;have BD:=iM (BD.o.1.below hb) (BD.o.2.1.below hb) (BD.o.r2.1.below hb) (BD.o.r3.1.trans (hb.mono BD.o.r3.1.size)) (BD.o.r4.below hb) iy;have kS:=ak (ck hb kS.o fun h=>ck1 hb h);clear hb hd C;dsimp only;refine hK.out _ _ (fun _=>kS.o) ?_;clear hK K'
    try simp only [Act.put,sa,sb,sc]
    have C:=hid (HM.o j u4 a3 a4 c3 c4 hj BD.o.r4.1 BD.o.r5);refine aj (i:=11) (by kernel_rfl) rfl (fun K' hK=>?_);go_simp;refine C.o.mono ?_;rintro r u5 ⟨hd,hb⟩;obtain ⟨a5,c5,rfl,uS⟩:=hd.aH;have BD:=dK (BD.o.1.below hb) (BD.o.2.1.below hb) (BD.o.r2.1.below hb) (BD.o.r3.1.trans (hb.mono BD.o.r3.1.size)) uS;have kS:=ak (ck hb kS.o fun h=>ck1 hb h);clear hb hd C;dsimp only;refine hK.out _ _ (fun _=>kS.o) ?_;clear hK K'
    try simp only [Act.put,sa,sb,sc]
    have C:=hid (HP.o j u5 p1 a5 q1 c5 hj BD.o.2.1 BD.o.r4);refine aj (i:=12) (by kernel_rfl) rfl (fun K' hK=>?_);go_simp;refine C.o.mono ?_;rintro r u6 ⟨hd,hb⟩;obtain ⟨a6,c6,rfl,Ah⟩:=hd.aH;have BD:=dK (BD.o.1.below hb) (BD.o.2.1.below hb) (BD.o.r2.1.below hb) (BD.o.r3.1.trans (hb.mono BD.o.r3.1.size)) Ah;have kS:=ak (ck hb kS.o fun h=>ck1 hb h);clear hb hd C;dsimp only;refine hK.out _ _ (fun _=>kS.o) ?_;clear hK K'
    try simp only [Act.put,sa,sb,sc]
    obtain ⟨z0,z1,z2,fu,fw,fA⟩:=BD.o.1.facts;refine aj (i:=13) (by kernel_rfl) rfl (fun K' hK=>?_);go_simp;refine hK.out _ _ (fun h=>absurd h (by decide)) ?_;clear hK K' kS z0 z1 z2 fu fw fA;refine aM (by kernel_rfl) ?_ _;have LB:Lo u6 (w.heap.size+1) (T j):=⟨_,_,BD.o.1,BD.o.2.1⟩;have b3:=BD.o.r3.1;have H3:=cK (LB.set BD.o.r4) (BD.o.r2.1.other LB (by omega) (.bool (dN (T (j+1)))) (.slice a6 (ws (dX (T (j+1)))).length c6) (.int .i64 (dE (T (j+1))))) (dQ b3 b3.size (show w.heap.size<=w.heap.size+1 by omega) (.bool (dN (T (j+1)))) (.slice a6 (ws (dX (T (j+1)))).length c6) (.int .i64 (dE (T (j+1)))));clear LB b3;exact Ks
  · obtain rfl:n=j:=by omega
    have hd:decide ((n:Int)<n)=false:=by simp
    obtain ⟨p1,q1,D1,M1⟩:=HA.o.1;obtain ⟨p2,q2,D2,M2⟩:=HA.o.2.1;obtain ⟨x0,x1,x2,bC,bE,bF⟩:=D1.facts;obtain ⟨y0,y1,y2,bU,bZ,cu⟩:=D2.facts;have Bz:=ak M1;clear D1 D2 M1 M2;go_wp2;exact iI Tryz.results74 rfl HA.o.2.1 HA.o.r2 (aA _) Bz.o
theorem zG (xs ys:List Nat) (a a2:Option Addr) (n n2 c c2:Nat) (w:World) (hn:n=xs.length) (hn2:n2=ys.length) (he:n=n2) (hF:Fs w.heap.size w a xs) (hG:Fs w.heap.size w a2 ys) (hW:j4 xs) (hf:∀ x ∈ xs,fZ x) (hW2:j4 ys) (hf2:∀ x ∈ ys,fZ x) (hl:n<=65536) :
 Calls Tryz.prog 59 #[.slice a n c,.slice a2 n2 c2] w fun r w'=>aQ 0 w' r (gV 2148 (cS xs ys))/\Below w.heap.size w w':=by
 have bx:∀ i,i<n->Bd 2098 (fX xs i):=fun i hi=>ib hW hf i (by omega);have by':∀ i,i<n->Bd 2098 (fX ys i):=fun i hi=>ib hW2 hf2 i (by omega)
 have bP:=pg bx by' hl n (aA _)
 have b1:=iF hW hf (by omega) xs.length (aA _);have b2:=iF hW2 hf2 (by omega) ys.length (aA _);have bn:Bd 16 (n:Int):=Bd.nat (by omega);have bnP:Bd 4228 ((n:Int)*tS (fun i=>fX xs i*fX ys i) n):=(bn.mul bP).mono (by decide);have bST:Bd 4228 (sX xs*sX ys):=(b1.mul b2).mono (by decide);obtain ⟨oN,hN⟩:=af (gV 0 (n:Int));obtain ⟨oP,hP⟩:=af (gV 2148 (tS (fun i=>fX xs i*fX ys i) n));obtain ⟨oQ,hQ⟩:=af (gV 2148 ((n:Int)*tS (fun i=>fX xs i*fX ys i) n));obtain ⟨oS,hS⟩:=af (gV 1074 (sX xs));obtain ⟨oT,hT⟩:=af (gV 1074 (sX ys));obtain ⟨oU,hU⟩:=af (gV 2148 (sX xs*sX ys));obtain ⟨oR,hR⟩:=af (gV 2148 (cS xs ys));have eR:oR=gV 2148 ((n:Int)*tS (fun i=>fX xs i*fX ys i) n-sX xs*sX ys):=by rw [hR,hn];rfl
 rw [<-hR];have FN:Fm oN:=by rw [hN];exact bB (by decide) (by decide) bn
 have FP:Fm oP:=by rw [hP];exact bB (by decide) (by decide) bP
 have FQ:Fm oQ:=by rw [hQ];exact bB (by decide) (by decide) bnP
 have FS:Fm oS:=by rw [hS];exact bB (by decide) (by decide) b1
 have FT:Fm oT:=by rw [hT];exact bB (by decide) (by decide) b2
 have FU:Fm oU:=by rw [hU];exact bB (by decide) (by decide) bST
 have FR:Fm oR:=by rw [eR];exact bB (by decide) (by decide) (bnP.sub bST)
 have E1:dZ oN oP=oQ:=by rw [hN,hP,hQ];have:=jZ (u:=0) (v:=2148) (by decide) (by decide) (by decide) (by decide) bn bP;rw [dL] at this;exact this
 have E2:dZ oS oT=oU:=by rw [hS,hT,hU];exact jZ (by decide) (by decide) (by decide) (by decide) b1 b2
 have E3:il oQ (mkS (!dN oU) (dX oU) (dE oU))=oR:=by rw [hQ,hU,eR];exact Pp (by decide) (by decide) bnP bST
 have up:∀ u:World,Below w.heap.size w u->Fs u.heap.size u a xs/\Fs u.heap.size u a2 ys:=fun u hb=>⟨(hF.below hb).mono hb.size,(hG.below hb).mono hb.size⟩;have HI:Hid (∀ u:World,Calls Tryz.prog 14 #[.int .i64 (n:Nat)] u fun r w'=>aQ 0 w' r oN/\Below u.heap.size u w'):=fun u=>by rw [hN];exact xC n u (by omega) (by omega)
 have HPr:Hid (∀ u:World,Below w.heap.size w u->Calls Tryz.prog 74 #[.slice a n c,.slice a2 n2 c2] u fun r w'=>aQ 0 w' r oP/\Below u.heap.size u w'):=fun u hu=>by rw [hP];exact Ex xs ys a a2 n n2 c c2 u hn hn2 he (up u hu).1 (up u hu).2 hW hf hW2 hf2 hl
 have XK:Hid (∀ u:World,Below w.heap.size w u->Calls Tryz.prog 63 #[.slice a n c] u fun r w'=>aQ 0 w' r oS/\Below u.heap.size u w'):=fun u hu=>by rw [hS];exact QD xs a n c u hn (up u hu).1 hW hf hl
 have HS2:Hid (∀ u:World,Below w.heap.size w u->Calls Tryz.prog 63 #[.slice a2 n2 c2] u fun r w'=>aQ 0 w' r oT/\Below u.heap.size u w'):=fun u hu=>by rw [hT];exact QD ys a2 n2 c2 u hn2 (up u hu).2 hW2 hf2 (by omega)
 have FF:=(lZ FN FP FQ FS FT FU FR);have EE:=(cK E1 E2 E3);clear hn hn2 he hF hG hW hf hW2 hf2 hl bx by' bP b1 b2 bn bnP bST hN hP hQ hS hT hU hR eR FN FP FQ FS FT FU FR E1 E2 E3 up
 obtain ⟨W,iq⟩:=af (w.alloc (Obj.cells #[.bool false,.slice none 0 0,.int .i64 0] 37));have H0:Aside (Lo W w.heap.size ig/\Below w.heap.size w W):=by rw [iq];exact ⟨Lo.zero _,ae _ _⟩
 have ik:=ak iq;clear iq;go_enter Tryz.func59,Tryz.ntmps59
 go_upto_region 1 with fail
 rw [<-ik.o];clear ik;go_wp2_with fail;refine (HI.o W).mono ?_;rintro r u ⟨hd,hb⟩;obtain ⟨p1,q1,rfl,hN⟩:=hd.aH;obtain ⟨U,hU⟩:=af (u.alloc (Obj.cells #[.bool (dN oN),.slice p1 (ws (dX oN)).length q1,.int .i64 (dE oN)] 37));obtain ⟨g5,hg5⟩:=af (u.heap.size)
 have H1:Aside (Dk U g5 (dN oN) (.slice p1 (ws (dX oN)).length q1) (dE oN)/\Nt 0 U (.slice p1 (ws (dX oN)).length q1) (dX oN)/\Lo U w.heap.size ig/\Below w.heap.size w U/\w.heap.size<g5):=by
  rw [hU,hg5];exact ⟨Dk.new _ _ _ _,hN.below (ae _ _),(H0.o.1.below hb).below (ae _ _),(H0.o.2.trans (hb.mono H0.o.2.size)).trans ((ae _ _).mono (dC H0.o.2.size hb.size)),(H0.o.1.below hb).lt⟩
 have HU:=(aK hU hg5);clear hU hg5 hN hb hd H0 HI
 go_upto_region 2 with fail
 rw [<-HU.o.1,<-HU.o.2];clear HU;have hdr:=(aB U.heap.size U).drew;have kS:Aside (U.drew.cell? ⟨g5,0,none⟩=some (.bool (dN oN))/\U.drew.cell? ⟨g5,1,none⟩=some (.slice p1 (ws (dX oN)).length q1)/\U.drew.cell? ⟨g5,2,none⟩=some (.int .i64 (dE oN))):=⟨(H1.o.1.below hdr).facts.1,(H1.o.1.below hdr).facts.2.1,(H1.o.1.below hdr).facts.2.2.1⟩;have BD:=(fF (H1.o.r2.1.below hdr) (H1.o.r3.1.trans (hdr.mono H1.o.r3.1.size)) H1.o.r4 (H1.o.2.1.below hdr));have C1:=hid (HPr.o U.drew BD.o.2.1);clear hdr H1
 go_region_held3 (fun w'=>w'.cell? ⟨g5,0,none⟩=some (.bool (dN oN))/\w'.cell? ⟨g5,1,none⟩=some (.slice p1 (ws (dX oN)).length q1)/\w'.cell? ⟨g5,2,none⟩=some (.int .i64 (dE oN))) (first | with_reducible exact kS.o | with_reducible exact kT.o) (first
  | (go_at_call 74
     with_reducible refine C1.o.mono ?_
     rintro r u1 ⟨hd,hb⟩;obtain ⟨a1,c1,rfl,hN⟩:=hd.aH;have BD:=dK (BD.o.1.below hb) (BD.o.2.1.trans (hb.mono BD.o.2.1.size)) BD.o.r2.1 (BD.o.r3.below hb) hN;have kS:=ak (qI hb kS.o);have C2:=hid (rO FF.o.1 FF.o.2.1 FF.o.r2.1 BD.o.r3.1 BD.o.r4 EE.o.1)
     clear hb hd hN C1)
  | (go_at_call 64
     with_reducible refine C2.o.mono ?_
     rintro r u2 ⟨hd,hb⟩;obtain ⟨a2,c2,rfl,hN⟩:=hd.aH;have BD:=fF (BD.o.1.below hb) (BD.o.2.1.trans (hb.mono BD.o.2.1.size)) BD.o.r2.1 hN;have kS:=ak (qI hb kS.o);have C3:=hid (XK.o u2 BD.o.2.1)
     clear hb hd hN C2)
  | (go_at_call 63
     with_reducible refine C3.o.mono ?_
     rintro r u3 ⟨hd,hb⟩;obtain ⟨a3,c3,rfl,hN⟩:=hd.aH;have BD:=dK (BD.o.1.below hb) (BD.o.2.1.trans (hb.mono BD.o.2.1.size)) BD.o.r2.1 (BD.o.r3.below hb) hN;have kS:=ak (qI hb kS.o);have C4:=hid (HS2.o u3 BD.o.2.1)
     clear hb hd hN C3)
  | (go_at_call 63
     with_reducible refine C4.o.mono ?_
     rintro r u4 ⟨hd,hb⟩;obtain ⟨a4,c4,rfl,hN⟩:=hd.aH;have BD:=iM (BD.o.1.below hb) (BD.o.2.1.trans (hb.mono BD.o.2.1.size)) BD.o.r2.1 (BD.o.r3.1.below hb) (BD.o.r4.below hb) hN;have kS:=ak (qI hb kS.o);have C5:=hid (rO FF.o.r3.1 FF.o.r4.1 FF.o.r5.1 BD.o.r4.1 BD.o.r5 EE.o.2.1)
     clear hb hd hN C4)
  | (go_at_call 64
     with_reducible refine C5.o.mono ?_
     rintro r u5 ⟨hd,hb⟩;obtain ⟨a5,c5,rfl,hN⟩:=hd.aH;have BD:=dK (BD.o.1.below hb) (BD.o.2.1.trans (hb.mono BD.o.2.1.size)) BD.o.r2.1 (BD.o.r3.1.below hb) hN;have kS:=ak (qI hb kS.o);have C6:=hid (Tw FF.o.r2.1 FF.o.r5.1 FF.o.r6 BD.o.r3.1 BD.o.r4 EE.o.r2)
     clear hb hd hN C5)
  | (go_at_call 65
     with_reducible refine C6.o.mono ?_
     rintro r u6 ⟨hd,hb⟩;obtain ⟨a6,c6,rfl,hN⟩:=hd.aH;have BD:=fF (BD.o.1.below hb) (BD.o.2.1.trans (hb.mono BD.o.2.1.size)) BD.o.r2.1 hN;have kS:=ak (qI hb kS.o);have kT:=cK (lg (g:=w.heap.size) (x:=.bool (dN oR)) (y:=.slice a6 (ws (dX oR)).length c6) (z:=.int .i64 (dE oR)) kS.o.1 (show g5≠w.heap.size by have:=BD.o.r2.1;omega)) (lg (g:=w.heap.size) (x:=.bool (dN oR)) (y:=.slice a6 (ws (dX oR)).length c6) (z:=.int .i64 (dE oR)) kS.o.2.1 (show g5≠w.heap.size by have:=BD.o.r2.1;omega)) (lg (g:=w.heap.size) (x:=.bool (dN oR)) (y:=.slice a6 (ws (dX oR)).length c6) (z:=.int .i64 (dE oR)) kS.o.r2 (show g5≠w.heap.size by have:=BD.o.r2.1;omega));obtain ⟨zp,zq,DZ,MZ⟩:=BD.o.1;obtain ⟨z0,z1,z2,fu,fw,fA⟩:=DZ.facts;clear DZ MZ
     clear hb hd hN C6))
 go_wp2;exact iI Tryz.results59 rfl BD.o.1 BD.o.2.1 (aA _) BD.o.r3
theorem Dk.bt14 {w w':World}{g g':Nat}{n:Bool}{v:Value}{e:Int}(h:Dk w g n v e) (hb:But g' w w') (hg:g≠g'):w'.cell? ⟨g,0,none⟩=some (.bool n)/\w'.cell? ⟨g,1,none⟩=some v/\w'.cell? ⟨g,2,none⟩=some (.int .i64 e):=by
 have:Dk w' g n v e:=by unfold Dk;rw [hb.block g h.lt hg];exact h
 exact ⟨this.facts.1,this.facts.2.1,this.facts.2.2.1⟩
theorem Vt (oV:Option (Bool×Nat×Int)) (a:Option Addr) (c n:Nat) (less:Int) (w:World) (hn:n<=1099511627776) (h0:0<=less) (h1:less<=1) (hN:Nt 0 w (.slice a (ws (dX oV)).length c) (dX oV)) :
 Calls Tryz.prog 58 #[.agg #[.bool (dN oV),.slice a (ws (dX oV)).length c,.int .i64 (dE oV)],.int .i64 (n:Nat),.int .i64 less] w fun r w'=>(∃ b d,r=.returned (.agg #[.bool (dN oV),.slice a (ws (dX oV)).length c,.int .i64 (dE oV),.bool (dN (gV 0 ((n:Int)*((n:Int)-less)))),.slice b (ws (dX (gV 0 ((n:Int)*((n:Int)-less))))).length d,.int .i64 (dE (gV 0 ((n:Int)*((n:Int)-less))))])/\Nt 0 w' (.slice a (ws (dX oV)).length c) (dX oV)/\Nt 0 w' (.slice b (ws (dX (gV 0 ((n:Int)*((n:Int)-less))))).length d) (dX (gV 0 ((n:Int)*((n:Int)-less)))))/\Below w.heap.size w w':=by
 have b1:Bd 41 (n:Int):=Bd.nat (by omega);have b2:Bd 41 ((n:Int)-less):=by unfold Bd;omega
 obtain ⟨oA,hA⟩:=af (gV 0 (n:Int));obtain ⟨oB,hB⟩:=af (gV 0 ((n:Int)-less));obtain ⟨oD,hD⟩:=af (gV 0 ((n:Int)*((n:Int)-less)));have FA:Fm oA:=by rw [hA];exact bB (by decide) (by decide) b1
 have FB:Fm oB:=by rw [hB];exact bB (by decide) (by decide) b2
 have FD:Fm oD:=by rw [hD];exact bB (by decide) (by decide) (b1.mul b2)
 have E:dZ oA oB=oD:=by rw [hA,hB,hD];exact jZ (by decide) (by decide) (by decide) (by decide) b1 b2
 rw [<-hD];have HI1:Hid (∀ u:World,Calls Tryz.prog 14 #[.int .i64 (n:Nat)] u fun r w'=>aQ 0 w' r oA/\Below u.heap.size u w'):=fun u=>by rw [hA];exact xC n u (by omega) (by omega)
 have HI2:Hid (∀ u:World,Calls Tryz.prog 14 #[.int .i64 ((n:Int)-less)] u fun r w'=>aQ 0 w' r oB/\Below u.heap.size u w'):=fun u=>by rw [hB];exact xC _ u (by omega) (by omega)
 have FF:=(fF FA FB FD E);have hwr:IntKind.i64.wrap ((n:Int)-less)=(n:Int)-less:=by rw [yc];omega
 obtain ⟨W,iq⟩:=af ((w.alloc (Obj.cells #[.bool (dN oV),.slice a (ws (dX oV)).length c,.int .i64 (dE oV)] 37)).alloc (Obj.cells #[.bool false,.slice none 0 0,.int .i64 0,.bool false,.slice none 0 0,.int .i64 0] 73))
 have H0:Aside (Dk W w.heap.size (dN oV) (.slice a (ws (dX oV)).length c) (dE oV)/\Bl W (w.heap.size+1) 73 [.bool false,.slice none 0 0,.int .i64 0,.bool false,.slice none 0 0,.int .i64 0]/\Below w.heap.size w W/\Nt 0 W (.slice a (ws (dX oV)).length c) (dX oV)):=by
  have hbW:Below w.heap.size w W:=by rw [iq];exact (ae _ _).trans ((ae _ _).mono (by simp))
  refine ⟨?_,?_,hbW,hN.below hbW⟩
  · rw [iq];exact (Dk.new _ _ _ _).below (ae _ _)
  · have z:=Bl.new (w.alloc (Obj.cells #[.bool (dN oV),.slice a (ws (dX oV)).length c,.int .i64 (dE oV)] 37)) 73 [.bool false,.slice none 0 0,.int .i64 0,.bool false,.slice none 0 0,.int .i64 0];rw [dw] at z;rw [iq];exact z
 have ik:=ak iq;clear iq hN hA hB hD FA FB FD E b1 b2 hn h0 h1;go_enter Tryz.func58,Tryz.ntmps58
 go_upto_region 1 with fail
 rw [<-ik.o];clear ik;have hdr:=(aB W.heap.size W).drew;have kS:Aside (W.drew.cell? ⟨w.heap.size,0,none⟩=some (.bool (dN oV))/\W.drew.cell? ⟨w.heap.size,1,none⟩=some (.slice a (ws (dX oV)).length c)/\W.drew.cell? ⟨w.heap.size,2,none⟩=some (.int .i64 (dE oV))):=⟨(H0.o.1.below hdr).facts.1,(H0.o.1.below hdr).facts.2.1,(H0.o.1.below hdr).facts.2.2.1⟩;have BD:=(fF (H0.o.2.1.below hdr H0.o.2.1.lt) (H0.o.r2.1.trans (hdr.mono H0.o.r2.1.size)) (H0.o.1.below hdr) (H0.o.r3.below hdr));have C1:=hid (HI1.o W.drew);clear hdr H0
 go_region_held3 (fun w'=>w'.cell? ⟨w.heap.size,0,none⟩=some (.bool (dN oV))/\w'.cell? ⟨w.heap.size,1,none⟩=some (.slice a (ws (dX oV)).length c)/\w'.cell? ⟨w.heap.size,2,none⟩=some (.int .i64 (dE oV))) (first | with_reducible exact kS.o | with_reducible exact kT.o) (first
  | (go_at_call 14
     with_reducible refine C1.o.mono ?_
     rintro r u1 ⟨hd,hb⟩;obtain ⟨a1,c1,rfl,hN⟩:=hd.aH;have BD:=dK (BD.o.1.below hb BD.o.1.lt) (BD.o.2.1.trans (hb.mono BD.o.2.1.size)) (BD.o.r2.1.below hb) (BD.o.r3.below hb) hN;have kS:=ak (qI hb kS.o);have C2:=hid (HI2.o u1)
     clear hb hd hN C1)
  | (go_at_call 14
     with_reducible refine C2.o.mono ?_
     rintro r u2 ⟨hd,hb⟩;obtain ⟨a2,c2,rfl,hN⟩:=hd.aH;have BD:=iM (BD.o.1.below hb BD.o.1.lt) (BD.o.2.1.trans (hb.mono BD.o.2.1.size)) (BD.o.r2.1.below hb) (BD.o.r3.1.below hb) (BD.o.r4.below hb) hN;have kS:=ak (qI hb kS.o);have C3:=hid (rO FF.o.1 FF.o.2.1 FF.o.r2.1 BD.o.r4.1 BD.o.r5 FF.o.r3)
     clear hb hd hN C2)
  | (go_at_call 64
     with_reducible refine C3.o.mono ?_
     rintro r u3 ⟨hd,hb⟩;obtain ⟨a3,c3,rfl,hN⟩:=hd.aH;have BD:=dK (BD.o.1.below hb BD.o.1.lt) (BD.o.2.1.trans (hb.mono BD.o.2.1.size)) (BD.o.r2.1.below hb) (BD.o.r3.1.below hb) hN;have kS:=ak (qI hb kS.o);have HQ:=ak (((((((But.refl (w.heap.size+1) u3).set 0 (.bool (dN oV))).set 1 (.slice a (ws (dX oV)).length c)).set 2 (.int .i64 (dE oV))).set 3 (.bool (dN oD))).set 4 (.slice a3 (ws (dX oD)).length c3)).set 5 (.int .i64 (dE oD)));have kT:=ak (BD.o.r2.1.bt14 HQ.o (by omega));have r0:=BD.o.1.frozen 0;have r1:=BD.o.1.frozen 1;have r2:=BD.o.1.frozen 2;have r3:=BD.o.1.frozen 3;have r4:=BD.o.1.frozen 4;have r5:=BD.o.1.frozen 5;have k0:=BD.o.1.cell 0 _ rfl;have k1:=BD.o.1.cell 1 _ rfl;have k2:=BD.o.1.cell 2 _ rfl;have k3:=BD.o.1.cell 3 _ rfl;have k4:=BD.o.1.cell 4 _ rfl;have k5:=BD.o.1.cell 5 _ rfl
     clear hb hd hN C3))
 go_wp2;have qq:=(((((BD.o.1.set 0 (.bool (dN oV))).set 1 (.slice a (ws (dX oV)).length c)).set 2 (.int .i64 (dE oV))).set 3 (.bool (dN oD))).set 4 (.slice a3 (ws (dX oD)).length c3)).set 5 (.int .i64 (dE oD));have g0:=qq.cell 0 _ rfl;have g1:=qq.cell 1 _ rfl;have g2:=qq.cell 2 _ rfl;have g3:=qq.cell 3 _ rfl;have g4:=qq.cell 4 _ rfl;have g5:=qq.cell 5 _ rfl;have aF:=HQ.o;refine aC (v:=.agg #[.bool (dN oV),.slice a (ws (dX oV)).length c,.int .i64 (dE oV),.bool (dN oD),.slice a3 (ws (dX oD)).length c3,.int .i64 (dE oD)]) (by simp [results,Tryz.results58,go_sem,g0,g1,g2,g3,g4,g5]) rfl ⟨⟨_,_,rfl,?_,?_⟩,?_⟩
 · exact BD.o.r3.1.off aF (BD.o.r3.1.jy (by decide) BD.o.1)
 · exact BD.o.r4.off aF (BD.o.r4.jy (by decide) BD.o.1)
 · exact But.below BD.o.2.1 aF BD.o.2.1.size (by omega)
end
section
open Go Go.RowKit J
open Go.Proofs.YteginbngplldaaaGreatDoor.B (aV aD)
attribute [local go_sem] aV aD
theorem QF (b:Bool) (w:World):Calls Tryz.prog 56 #[.bool b] w fun r w'=>r=.returned (.float .f64 (if b then 9221120237041090560 else 0))/\Below w.heap.size w w':=by
 cases b with
 | true =>
   have C:=hid (Gy w);go_enter Tryz.func56,Tryz.ntmps56;go_wp2_with fail;refine C.o.mono ?_;rintro r v hh;obtain ⟨rfl,hv⟩:=hh;have HB:Aside (Below w.heap.size w v):=by first | exact hv | (rw [hv];exact aB _ _)
   clear hv C;go_wp2;go_ret;exact ⟨rfl,HB.o⟩
 | false =>
   go_enter Tryz.func56,Tryz.ntmps56;go_wp2;go_ret;exact ⟨rfl,aB _ _⟩
theorem xX (xs:List Nat) (a:Option Addr) (n c:Nat) (less mode pa pb:Int) (w:World) (h:(qa mode&&lsB less&&may pa pb)=false) :
 Calls Tryz.prog 55 #[.slice a n c,.int .i64 less,.int .i64 mode,.agg #[.int .i64 pa,.int .i64 pb]] w fun r w'=>r=.returned (.tuple #[.slice none 0 0,.bool false,.int .i64 1])/\Below w.heap.size w w':=by
 obtain ⟨W,iq⟩:=af (w.alloc (Obj.cells #[.int .i64 pa,.int .i64 pb] 26))
 have B0:Aside (Bl W w.heap.size 26 [.int .i64 pa,.int .i64 pb]/\Below w.heap.size w W):=by
  exact zc
 have ik:=ak iq;clear iq;have Xu:=hid (Jf mode W);have Xv:=hid (PV less W);have Xw:=hid (oF pa pb W);obtain ⟨x,hx⟩:∃ x,qa mode=x:=⟨_,rfl⟩;obtain ⟨y,hy⟩:∃ x,lsB less=x:=⟨_,rfl⟩;obtain ⟨z,hz⟩:∃ x,may pa pb=x:=⟨_,rfl⟩;rw [hx] at Xu h;rw [hy] at Xv h;rw [hz] at Xw h;have HH:=ak h;clear hx hy hz h;go_enter Tryz.func55,Tryz.ntmps55
 go_upto_region 1 with fail
 rw [<-ik.o];clear ik;go_wp2_with fail;refine Xu.o.mono ?_;rintro r v ⟨rfl,hv⟩;rw [hv];clear hv v Xu;go_wp2_with fail;refine Xv.o.mono ?_;rintro r v ⟨rfl,hv⟩;rw [hv];clear hv v Xv;have p0:=B0.o.1.cell 0 _ rfl;have p1:=B0.o.1.cell 1 _ rfl;go_wp2_with fail;refine Xw.o.mono ?_;rintro r u ⟨rfl,hb⟩;have B1:=(aK (B0.o.1.below hb B0.o.1.lt) (B0.o.2.trans (hb.mono B0.o.2.size)));clear hb Xw p0 p1
 cases x <;> cases y <;> cases z <;> first
  | exact absurd HH.o (by decide)
  | (go_wp2
     exact aC (v:=.tuple #[.slice none 0 0,.bool false,.int .i64 1]) (by simp [results,Tryz.results55,go_sem]) rfl ⟨rfl,B1.o.2⟩)
def Sf14 (xs:List Nat) (less pa pb:Int) (r:Ending) (w':World):Prop :=
 ((Ps.bO pa pb xs≠0/\r=.returned (.tuple #[.slice none 0 0,.bool false,.int .i64 (Ps.bO pa pb xs)])) \/
  (Ps.bO pa pb xs=0/\GZ pa pb xs=true/\r=.returned (.tuple #[.slice none 0 0,.bool true,.int .i64 0])) \/
  (Ps.bO pa pb xs=0/\GZ pa pb xs=false/\((Ps.fin xs).length:Int)<=less/\r=.returned (.tuple #[.slice none 0 0,.bool false,.int .i64 3])) \/
  (Ps.bO pa pb xs=0/\GZ pa pb xs=false/\¬ ((Ps.fin xs).length:Int)<=less/\(∃ a' c',r=.returned (.tuple #[.slice a' (Ps.fin xs).length c',.bool false,.int .i64 0])/\Fs w'.heap.size w' a' (Ps.fin xs))))
theorem uR (xs:List Nat) (a:Option Addr) (n c:Nat) (less mode pa pb:Int) (w:World) (hn:n=xs.length) (hl:n<=35184372088832) (hF:Fs w.heap.size w a xs) (hW:j4 xs) (hm:qa mode=true) (hs:lsB less=true) (hy:may pa pb=true) :
 Calls Tryz.prog 55 #[.slice a n c,.int .i64 less,.int .i64 mode,.agg #[.int .i64 pa,.int .i64 pb]] w fun r w'=>Sf14 xs less pa pb r w'/\Below w.heap.size w w':=by
 obtain ⟨W,iq⟩:=af (w.alloc (Obj.cells #[.int .i64 pa,.int .i64 pb] 26))
 have B0:Aside (Bl W w.heap.size 26 [.int .i64 pa,.int .i64 pb]/\Below w.heap.size w W):=by
  exact zc
 have ik:=ak iq;clear iq;have Xu:=hid (Jf mode W);have Xv:=hid (PV less W);have Xw:=hid (oF pa pb W);rw [hm] at Xu;rw [hs] at Xv;rw [hy] at Xw;have HX:=dK hn hl hF hW (xQ hs);clear hm hs hy hn hl hF hW;go_enter Tryz.func55,Tryz.ntmps55
 go_upto_region 1 with fail
 rw [<-ik.o];clear ik;go_wp2_with fail;refine Xu.o.mono ?_;rintro r v ⟨rfl,hv⟩;rw [hv];clear hv v Xu;go_wp2_with fail;refine Xv.o.mono ?_;rintro r v ⟨rfl,hv⟩;rw [hv];clear hv v Xv;have p0:=B0.o.1.cell 0 _ rfl;have p1:=B0.o.1.cell 1 _ rfl;go_wp2_with fail;refine Xw.o.mono ?_;rintro r u ⟨rfl,hb⟩;have B1:=(aK (B0.o.1.below hb B0.o.1.lt) (B0.o.2.trans (hb.mono B0.o.2.size)));clear hb Xw p0 p1;have C:=hid (TK xs a n c pa pb u HX.o.1 HX.o.2.1 ((HX.o.r2.1.below B1.o.2).mono B1.o.2.size) HX.o.r3.1);have p0:=B1.o.1.cell 0 _ rfl;have p1:=B1.o.1.cell 1 _ rfl;obtain ⟨es,hes⟩:∃ e,Ps.bO pa pb xs=e:=⟨_,rfl⟩;rw [hes] at C;have nP:=ak hes;clear hes B0;go_wp2_with fail;refine C.o.mono ?_;rintro r v ⟨hr,hb⟩;have B2:=(aK (B1.o.1.below hb B1.o.1.lt) (B1.o.2.trans (hb.mono B1.o.2.size)));clear hb C p0 p1 B1;rcases hr with ⟨he,a',c',rfl⟩|⟨he,a',c',rfl,hF'⟩
 · have h1:(es==0)=false:=by simp [he]
   have BE:Aside (Below w.heap.size w (v.alloc (Obj.cells #[.int .i64 0,.int .i64 0,.int .i64 0,.int .i64 0,.int .i64 0,.int .i64 0] 99))):=B2.o.2.trans ((aG _ _).mono B2.o.2.size);have HE:=ak he;clear he B2;go_wp2;exact aC (v:=.tuple #[.slice none 0 0,.bool false,.int .i64 es]) (by simp [results,Tryz.results55,go_sem]) rfl ⟨.inl ⟨by rw [nP.o];exact HE.o,by rw [nP.o]⟩,BE.o⟩
 · subst he;obtain ⟨s5,hs5⟩:∃ s:Int,(Ps.cn 5 xs:Nat)=s:=⟨_,rfl⟩;obtain ⟨s3,hs3⟩:∃ s:Int,(Ps.cn 3 xs:Nat)=s:=⟨_,rfl⟩;obtain ⟨s4,hs4⟩:∃ s:Int,(Ps.cn 4 xs:Nat)=s:=⟨_,rfl⟩;obtain ⟨s1,hs1⟩:∃ s:Int,(Ps.cn 1 xs:Nat)=s:=⟨_,rfl⟩;obtain ⟨s2,hs2⟩:∃ s:Int,(Ps.cn 2 xs:Nat)=s:=⟨_,rfl⟩;obtain ⟨sl,hsl⟩:∃ s:Int,(xs.length:Nat)=s:=⟨_,rfl⟩;rw [hs5,hs3,hs4,hs1,hs2,hsl];have hsum:=xR xs;have hlen:=(qF nP.o).2;obtain ⟨t,ht⟩:∃ t,s3+s4=t:=⟨_,rfl⟩;have hwr:IntKind.i64.wrap (s3+s4)=t:=by rw [yc];omega
   obtain ⟨b1,hb1⟩:∃ b,decide (0<s5)=b:=⟨_,rfl⟩;obtain ⟨b2,hb2⟩:∃ b,(pa==0)=b:=⟨_,rfl⟩;obtain ⟨b3,hb3⟩:∃ b,decide (0<t)=b:=⟨_,rfl⟩;obtain ⟨b4,hb4⟩:∃ b,(pb==0)=b:=⟨_,rfl⟩
   have HCR:Aside (GZ pa pb xs=((b1&&b2) || (b3&&b4))):=by
    unfold GZ;have e1:decide (0<Ps.cn 5 xs)=b1:=by rw [<-hb1];apply decide_eq_decide.2;omega
    have e3:decide (0<Ps.cn 3 xs+Ps.cn 4 xs)=b3:=by rw [<-hb3];apply decide_eq_decide.2;omega
    have e2:decide (pa=0)=b2:=by rw [<-hb2];rfl
    have e4:decide (pb=0)=b4:=by rw [<-hb4];rfl
    exact show _=_ by rw [e1,e2,e3,e4]
   obtain ⟨fl,hfl⟩:∃ f,Ps.fin xs=f:=⟨_,rfl⟩;rw [hfl] at hF' |-;obtain ⟨m,nQ⟩:∃ m,fl.length=m:=⟨_,rfl⟩;rw [nQ];have Xx:=(aK hfl nQ);have hm6:m<=65536:=by rw [<-nQ,<-hfl];exact kC nP.o
   obtain ⟨U,hU⟩:=af (v.alloc (Obj.cells #[.int .i64 s5,.int .i64 s3,.int .i64 s4,.int .i64 s1,.int .i64 s2,.int .i64 sl] 99));obtain ⟨gs,hgs⟩:=af (v.heap.size)
   have B3:Aside (Bl U gs 99 [.int .i64 s5,.int .i64 s3,.int .i64 s4,.int .i64 s1,.int .i64 s2,.int .i64 sl]/\Bl U w.heap.size 26 [.int .i64 pa,.int .i64 pb]/\Below w.heap.size w U/\Fs U.heap.size U a' fl):=by
    rw [hU,hgs];exact ⟨Bl.new _ 99 [_,_,_,_,_,_],B2.o.1.alloc _,B2.o.2.trans ((aG _ _).mono B2.o.2.size),(hF'.below (aG _ _)).mono (by simp)⟩
   have HU:=(aK hU hgs);obtain ⟨bl,hbl⟩:∃ b,decide ((m:Int)<=less)=b:=⟨_,rfl⟩;have HLE:=ak hbl;clear hU hgs hF' B2 hfl nQ hs5 hs3 hs4 hs1 hs2 hsl hsum hlen ht hm6
   go_upto_region 7 with fail
   rw [<-HU.o.1,<-HU.o.2];clear HU;have q0:=B3.o.1.cell 0 _ rfl;have q1:=B3.o.1.cell 1 _ rfl;have q2:=B3.o.1.cell 2 _ rfl;have p0:=B3.o.2.1.cell 0 _ rfl;have p1:=B3.o.2.1.cell 1 _ rfl
   cases b1 <;> cases b2 <;> cases b3 <;> cases b4 <;> cases bl <;> (
    go_wp2
    first
     | (exact aC (v:=.tuple #[.slice none 0 0,.bool true,.int .i64 0]) (by simp [results,Tryz.results55,go_sem]) rfl ⟨.inr (.inl ⟨nP.o,HCR.o,rfl⟩),B3.o.r2.1⟩)
     | (exact aC (v:=.tuple #[.slice none 0 0,.bool false,.int .i64 3]) (by simp [results,Tryz.results55,go_sem]) rfl ⟨.inr (.inr (.inl ⟨nP.o,HCR.o,by rw [Xx.o.1,Xx.o.2];exact of_decide_eq_true HLE.o,rfl⟩)),B3.o.r2.1⟩)
     | (exact aC (v:=.tuple #[.slice a' m c',.bool false,.int .i64 0]) (by simp [results,Tryz.results55,go_sem]) rfl ⟨.inr (.inr (.inr ⟨nP.o,HCR.o,(show ¬ (((Ps.fin xs).length:Nat):Int)<=less by rw [Xx.o.1,Xx.o.2];exact of_decide_eq_false HLE.o),⟨a',⟨c',⟨by rw [Xx.o.1,Xx.o.2],by rw [Xx.o.1];exact B3.o.r3⟩⟩⟩⟩)),B3.o.r2.1⟩))
end
end Go.Proofs.YteginbngplldaaaGreatDoor
