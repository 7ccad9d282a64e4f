import Derived.Test.YthfkleadcnkglaaGreatDoorX13x
import Derived.Deep.RegionHeld3
import Derived.ProofKit
import Derived.OpenShut
import Derived.ChangeOld
import Derived.ChangeArms
import Derived.SizedLaws
import Derived.Laws.Cover2
set_option linter.unusedVariables false
set_option linter.unusedSimpArgs false
set_option maxHeartbeats 16000000
set_option maxRecDepth 20000
namespace Go.Proofs.YthfkleadcnkglaaGreatDoor
namespace J
end J
section
open Go.RowKit J
theorem W64.rev12 {xs:List Nat}(h:W64 xs):W64 xs.reverse:=fun y hy=>h y (List.mem_reverse.1 hy)
theorem W64.rep12 (n x:Nat) (h:x<18446744073709551616):W64 (List.replicate n x):=fun y hy=>by rw [List.eq_of_mem_replicate hy];exact h
set_option maxRecDepth 100000 in
theorem walk2_DotOrder (a:Option Addr) (n c:Nat) (xs:List Nat) (b:Option Addr) (m d:Nat) (ys:List Nat) (mode pa pb:Int) (w:World) (hT:Tab w) (hC:CameF w a n c xs) (hD:CameF w b m d ys) (hm:n≤17592186043904) (hk:m≤17592186043904) :
 Calls Tryz.prog 6 #[.slice a n c,.slice b m d,.int .i64 mode,.agg #[.int .i64 pa,.int .i64 pb]] w fun r w'=>r=.returned (.bool true)∧Below w.heap.size w w':=by
 obtain ⟨hl1,_,hW1,hF1,_⟩:=hC;obtain ⟨hl2,_,hW2,hF2,_⟩:=hD;have up:∀ u:World,Below w.heap.size w u→Fs u.heap.size u a xs∧Fs u.heap.size u b ys∧Tab u:=fun u hb=>⟨(hF1.below hb).mono hb.size,(hF2.below hb).mono hb.size,hT.belows hb⟩
 obtain ⟨⟨X1,E1⟩,h1⟩:∃ z,dotR xs ys mode pa pb=z:=⟨_,rfl⟩;obtain ⟨⟨X2,E2⟩,h2⟩:∃ z,exR xs mode pa pb=z:=⟨_,rfl⟩;obtain ⟨⟨X3,E3⟩,h3⟩:∃ z,normR xs mode=z:=⟨_,rfl⟩;have HA:=hid (fun (u:World) (hb:Below w.heap.size w u)=>awake12 u (up u hb).2.2)
 have HD1:Hid (∀ u:World,Below w.heap.size w u→Calls Tryz.prog 11 #[.slice a n c,.slice b m d,.int .i64 mode,.agg #[.int .i64 pa,.int .i64 pb]] u fun r w'=>r=.returned (.tuple #[.float .f64 X1,.int .i64 E1])∧Below u.heap.size u w'):=fun u hb=>by
  have:=Dot12 xs ys a b n c m d mode pa pb u hl1 hl2 (up u hb).1 (up u hb).2.1 hW1 hW2 (up u hb).2.2;rw [h1] at this;exact this
 have HBb:=hid (fun (u:World) (hb:Below w.heap.size w u)=>back12 ys b m d u hl2 (up u hb).2.1 hk)
 have HBa:=hid (fun (u:World) (hb:Below w.heap.size w u)=>back12 xs a n c u hl1 (up u hb).1 hm)
 have HD2:Hid (∀ (u:World) (a2 a3:Option Addr) (c2 c3:Nat),Below w.heap.size w u→Fs u.heap.size u a2 ys.reverse→Fs u.heap.size u a3 xs.reverse→Calls Tryz.prog 11 #[.slice a2 m c2,.slice a3 n c3,.int .i64 mode,.agg #[.int .i64 pa,.int .i64 pb]] u fun r w'=>r=.returned (.tuple #[.float .f64 X1,.int .i64 E1])∧Below u.heap.size u w'):=fun u a2 a3 c2 c3 hb g1 g2=>by
  have:=Dot12 ys.reverse xs.reverse a2 a3 m c2 n c3 mode pa pb u (by simp [hl2]) (by simp [hl1]) g1 g2 hW2.rev12 hW1.rev12 (up u hb).2.2
  rw [dot_rev,h1] at this;exact this
 have HL1:=hid (fun (u:World)=>like12 a n c 4607182418800017408 u hm)
 have HL0:=hid (fun (u:World)=>like12 a n c 0 u hm)
 have HD3:Hid (∀ (u:World) (a2:Option Addr) (c2:Nat),Below w.heap.size w u→Fs u.heap.size u a2 (List.replicate n 4607182418800017408)→Calls Tryz.prog 11 #[.slice a n c,.slice a2 n c2,.int .i64 mode,.agg #[.int .i64 pa,.int .i64 pb]] u fun r w'=>r=.returned (.tuple #[.float .f64 X2,.int .i64 E2])∧Below u.heap.size u w'):=fun u a2 c2 hb g1=>by
  rw [hl1] at g1;have:=Dot12 xs (List.replicate xs.length 4607182418800017408) a a2 n c n c2 mode pa pb u hl1 (by simp [hl1]) (up u hb).1 g1 hW1 (W64.rep12 _ _ (by decide)) (up u hb).2.2
  rw [dot_ones,h2] at this;exact this
 have HE:Hid (∀ u:World,Below w.heap.size w u→Calls Tryz.prog 23 #[.slice a n c,.int .i64 mode,.agg #[.int .i64 pa,.int .i64 pb]] u fun r w'=>r=.returned (.tuple #[.float .f64 X2,.int .i64 E2])∧Below u.heap.size u w'):=fun u hb=>by
  have:=Exact12 xs a n c mode pa pb u hl1 (up u hb).1 hW1 (up u hb).2.2;rw [h2] at this;exact this
 have HN:Hid (∀ u:World,Below w.heap.size w u→Calls Tryz.prog 15 #[.slice a n c,.int .i64 mode] u fun r w'=>r=.returned (.tuple #[.float .f64 X3,.int .i64 E3])∧Below u.heap.size u w'):=fun u hb=>by
  have:=Norm12 xs a n c mode u hl1 (up u hb).1 hW1 (up u hb).2.2;rw [h3] at this;exact this
 have HS:Hid (∀ (u:World) (a2:Option Addr) (c2:Nat),Below w.heap.size w u→Fs u.heap.size u a2 (List.replicate n 0)→Calls Tryz.prog 16 #[.slice a2 n c2,.slice a n c,.int .i64 mode] u fun r w'=>r=.returned (.tuple #[.float .f64 X3,.int .i64 E3])∧Below u.heap.size u w'):=fun u a2 c2 hb g1=>by
  rw [hl1] at g1;have:=Dist12 (List.replicate xs.length 0) xs a2 a n c2 n c mode u (by simp [hl1]) hl1 g1 (up u hb).1 (W64.rep12 _ _ (by decide)) hW1 (up u hb).2.2
  rw [norm_dist xs hW1,h3] at this;exact this
 have HM:Hid (∀ (u:World) (a2:Option Addr) (c2:Nat),Below w.heap.size w u→Fs u.heap.size u a2 xs.reverse→Calls Tryz.prog 15 #[.slice a2 n c2,.int .i64 mode] u fun r w'=>r=.returned (.tuple #[.float .f64 X3,.int .i64 E3])∧Below u.heap.size u w'):=fun u a2 c2 hb g1=>by
  have:=Norm12 xs.reverse a2 n c2 mode u (by simp [hl1]) g1 hW1.rev12 (up u hb).2.2
  rw [norm_rev,h3] at this;exact this
 clear hl1 hl2 hW1 hW2 hF1 hF2 up h1 h2 h3 hT hm hk;obtain ⟨W,hW⟩:∃ W,W=w.alloc (Obj.cells #[.int .i64 pa,.int .i64 pb] 24):=⟨_,rfl⟩;have B0:Aside (Below w.heap.size w W∧Bl W w.heap.size 24 [.int .i64 pa,.int .i64 pb]):=by rw [hW];exact ⟨bel_alloc _ _,Bl.new w 24 [_,_]⟩
 go_enter Tryz.func6,Tryz.ntmps6
 go_wp2_with fail
 rw [←hW];clear hW;refine (HA.out _ B0.out.1).mono ?_;rintro r u1 ⟨rfl,hb⟩;have B1:=qsd (ai (B0.out.1.trans (hb.mono B0.out.1.size)) (B0.out.2.below hb B0.out.2.lt));clear hb B0 HA;have p0:=B1.out.2.cell 0 _ rfl;have p1:=B1.out.2.cell 1 _ rfl
 go_wp2_with fail
 refine (HD1.out _ B1.out.1).mono ?_;rintro r u2 ⟨rfl,hb⟩;have B2:=qsd (ai (B1.out.1.trans (hb.mono B1.out.1.size)) (B1.out.2.below hb B1.out.2.lt));clear hb B1 HD1 p0 p1
 go_upto_region 5 with fail
 have hdr:=(Below.refl u2.heap.size u2).drew;have BD:=qsd (ai (B2.out.1.trans (hdr.mono B2.out.1.size)) (B2.out.2.below hdr B2.out.2.lt));clear hdr B2;have kS:=qsd (ai (BD.out.2.cell 0 _ rfl) (BD.out.2.cell 1 _ rfl))
 go_region_held3 (fun w'=>w'.cell? ⟨w.heap.size,0,none⟩=some (.int .i64 pa)∧w'.cell? ⟨w.heap.size,1,none⟩=some (.int .i64 pb)) (with_reducible exact kS.out) (first
  | (go_at_call 11
     with_reducible refine (HD2.out _ a2 a3 c2 c3 BD.out.1 Q2.out.1 Q3.out).mono ?_
     rintro r v ⟨rfl,hb⟩;have BD:=qsd (ai (BD.out.1.trans (hb.mono BD.out.1.size)) (BD.out.2.below hb BD.out.2.lt));have kS:=qsd (ai (BD.out.2.cell 0 _ rfl) (BD.out.2.cell 1 _ rfl));clear hb)
  | (go_at_call 21
     with_reducible refine (HBb.out _ BD.out.1).mono ?_
     rintro r v ⟨a2,c2,rfl,hq,hb⟩;have BD:=qsd (ai (BD.out.1.trans (hb.mono BD.out.1.size)) (BD.out.2.below hb BD.out.2.lt));have Q2:=qsd (ai hq trivial);have kS:=qsd (ai (BD.out.2.cell 0 _ rfl) (BD.out.2.cell 1 _ rfl));clear hb hq)
  | (go_at_call 21
     with_reducible refine (HBa.out _ BD.out.1).mono ?_
     rintro r v ⟨a3,c3,rfl,hq,hb⟩;have BD:=qsd (ai (BD.out.1.trans (hb.mono BD.out.1.size)) (BD.out.2.below hb BD.out.2.lt));have Q2:=qsd (ai ((Q2.out.1.below hb).mono hb.size) trivial);have Q3:=qsd hq;have kS:=qsd (ai (BD.out.2.cell 0 _ rfl) (BD.out.2.cell 1 _ rfl));clear hb hq))
 clear kS Q2 Q3 HD2
 go_upto_region 6 with fail
 have hdr:=(Below.refl v.heap.size v).drew;have BD:=qsd (ai (BD.out.1.trans (hdr.mono BD.out.1.size)) (BD.out.2.below hdr BD.out.2.lt));clear hdr;have kS:=qsd (ai (BD.out.2.cell 0 _ rfl) (BD.out.2.cell 1 _ rfl))
 go_region_held3 (fun w'=>w'.cell? ⟨w.heap.size,0,none⟩=some (.int .i64 pa)∧w'.cell? ⟨w.heap.size,1,none⟩=some (.int .i64 pb)) (with_reducible exact kS.out) (first
  | (go_at_call 11
     with_reducible refine (HD3.out _ a4 c4 BD.out.1 Q4.out).mono ?_
     rintro r v ⟨rfl,hb⟩;have BD:=qsd (ai (BD.out.1.trans (hb.mono BD.out.1.size)) (BD.out.2.below hb BD.out.2.lt));have kS:=qsd (ai (BD.out.2.cell 0 _ rfl) (BD.out.2.cell 1 _ rfl));clear hb)
  | (go_at_call 22
     with_reducible refine (HL1.out _).mono ?_
     rintro r v ⟨a4,c4,rfl,hq,hb⟩;have BD:=qsd (ai (BD.out.1.trans (hb.mono BD.out.1.size)) (BD.out.2.below hb BD.out.2.lt));have Q4:=qsd hq;have kS:=qsd (ai (BD.out.2.cell 0 _ rfl) (BD.out.2.cell 1 _ rfl));clear hb hq))
 clear kS Q4 HD3 HL1;have p0:=BD.out.2.cell 0 _ rfl;have p1:=BD.out.2.cell 1 _ rfl
 go_wp2_with fail
 refine (HE.out _ BD.out.1).mono ?_;rintro r u3 ⟨rfl,hb⟩;have B3:=qsd (BD.out.1.trans (hb.mono BD.out.1.size));clear hb BD p0 p1 HE
 go_wp2_with fail
 refine (HN.out _ B3.out).mono ?_;rintro r u4 ⟨rfl,hb⟩;have B4:=qsd (B3.out.trans (hb.mono B3.out.size));clear hb B3 HN
 go_wp2_with fail
 refine (HL0.out _).mono ?_;rintro r u5 ⟨a5,c5,rfl,hq,hb⟩;have B5:=qsd (ai (B4.out.trans (hb.mono B4.out.size)) hq);clear hb B4 HL0 hq
 go_wp2_with fail
 refine (HS.out _ a5 c5 B5.out.1 B5.out.2).mono ?_;rintro r u6 ⟨rfl,hb⟩;have B6:=qsd (B5.out.1.trans (hb.mono B5.out.1.size));clear hb B5 HS
 go_wp2_with fail
 refine (HBa.out _ B6.out).mono ?_;rintro r u7 ⟨a6,c6,rfl,hq,hb⟩;have B7:=qsd (ai (B6.out.trans (hb.mono B6.out.size)) hq);clear hb B6 HBa HBb hq
 go_wp2_with fail
 refine (HM.out _ a6 c6 B7.out.1 B7.out.2).mono ?_;rintro r u8 ⟨rfl,hb⟩;have B8:=qsd (B7.out.1.trans (hb.mono B7.out.1.size));clear hb B7 HM;have e1:(E1==E1)=true:=by simp
 have e2:(E2==E2)=true:=by simp
 have e3:(E3==E3)=true:=by simp
 go_wp2_with fail
 refine (alike12 X1 _).mono ?_;rintro r u9 ⟨rfl,rfl⟩
 go_wp2_with fail
 refine (alike12 X2 _).mono ?_;rintro r u10 ⟨rfl,rfl⟩
 go_wp2_with fail
 refine (alike12 X3 _).mono ?_;rintro r u11 ⟨rfl,rfl⟩
 go_wp2_with fail
 refine (alike12 X3 _).mono ?_;rintro r u12 ⟨rfl,rfl⟩;go_wp2;go_ret;exact ⟨rfl,B8.out⟩
end
section
open Go.ChangeShapes Go.WideShapes Go.ChangeAt Go.RowKit
theorem ints_of12 {H:Type}{enc:TypeId×Value→H}{W:World}{k:Nat}{c:Value}{x:Option (DataW H×List MemPlace)}{y:DataW H×List MemPlace}(h:DataW.trod enc Tryz.prog W 0 (fun _=>true) true k 3 [c]=x) (hx:x=some y):∃ n:Int,c=.int .i64 n∧y.1=.lit (.int .i64 n)∧-9223372036854775808≤n∧n≤9223372036854775807:=by
 subst hx;obtain ⟨e,e2,rfl,hw⟩:=DataW.trod_int Tryz.underlying3 h
 cases e2
 have hw':-9223372036854775808≤e∧e≤9223372036854775807:=by
  simp [Lit.wf,IntKind.min,IntKind.max,IntKind.signed,IntKind.bits] at hw;omega
 exact ⟨e,rfl,rfl,hw'.1,hw'.2⟩
theorem pol_of12 {H:Type}{enc:TypeId×Value→H}{W:World}{r:Reach}{b0:Nat}{v:Value}{d:DataW H}{p:List MemPlace}(hv:Value.okWide Tryz.prog W r b0 24 v) (h:DataW.Trod enc Tryz.prog W 0 (fun _=>true) true 24 v d p) :
 ∃ a b:Int,v=.agg #[.int .i64 a,.int .i64 b]:=by
 obtain ⟨cs,rfl,hsz⟩:=okWide_struct Tryz.underlying24 hv;obtain ⟨fuel,hf⟩:=h;have hC:Tryz.prog.cellsOf 24=2:=by kernel_rfl
 have c3:Tryz.prog.cellsOf 3=1:=by kernel_rfl
 obtain ⟨xs,k,rfl,hx,hl,hxl,hfs⟩:=DataW.trod_struct Tryz.underlying24 hf;rw [hC] at hsz
 obtain ⟨c0,c1,rfl⟩:∃ c0 c1,cs=#[c0,c1]:=by
  obtain ⟨l⟩:=cs
  match l,hsz with
  | [a,b],_=>exact ⟨a,b,rfl⟩
 have h0:DataW.trod enc Tryz.prog W 0 (fun _=>true) true k 3 (List.take (Tryz.prog.cellsOf 3) (List.drop 0 [c0,c1]))=xs[0]?:=hfs 0 _ rfl
 have h1:DataW.trod enc Tryz.prog W 0 (fun _=>true) true k 3 (List.take (Tryz.prog.cellsOf 3) (List.drop 1 [c0,c1]))=xs[1]?:=hfs 1 _ rfl
 rw [c3] at h0 h1
 match xs,hxl with
 | [x0,x1],_ =>
   obtain ⟨a,rfl,_⟩:=ints_of12 (c:=c0) h0 rfl;obtain ⟨b,rfl,_⟩:=ints_of12 (c:=c1) h1 rfl;exact ⟨a,b,rfl⟩
end
end Go.Proofs.YthfkleadcnkglaaGreatDoor
