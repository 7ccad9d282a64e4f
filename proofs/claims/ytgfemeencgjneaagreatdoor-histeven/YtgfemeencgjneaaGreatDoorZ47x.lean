import Derived.Test.YtgfemeencgjneaaGreatDoorHI9x
import Derived.Test.YtgfemeencgjneaaGreatDoorZ26x
import Derived.Test.YtgfemeencgjneaaGreatDoorZ5x
import Derived.Deep.RegionWith
import Derived.Deep.CutRange
import Derived.Test.YtgfemeencgjneaaGreatDoorHI4x
set_option linter.unusedVariables false
set_option linter.unusedSimpArgs false
set_option maxHeartbeats 16000000
set_option maxRecDepth 20000
namespace Go.Proofs.YtgfemeencgjneaaGreatDoor
namespace J
end J
section
open Go.RowKit
theorem rounded_mode {w:World}{n m:Bool}{a b:Option Addr}{la ca lb cb X Y:Nat}{e f:Int}(dg ls:Int) (En:Nat) (sq:Bool) (mode:Int) (hm:mode<0∨4<mode) :
 Calls Tryz.prog 68 #[.agg #[.int .i64 dg,.int .i64 ls,.int .u64 (En:Nat)],.agg #[.bool n,.slice a la ca,.int .i64 e,.bool m,.slice b lb cb,.int .i64 f],.bool sq,.int .i64 mode] w fun r w'=>r=.returned (.tuple #[.int .u64 0,.bool false,.int .i64 1])∧Below w.heap.size w w':=by
 obtain ⟨W1,hW1⟩:∃ W,W=(w.alloc (.cells #[.int .i64 dg,.int .i64 ls,.int .u64 (En:Nat)] 99)).alloc (.cells #[.bool n,.slice a la ca,.int .i64 e,.bool m,.slice b lb cb,.int .i64 f] 78):=⟨_,rfl⟩;obtain ⟨hB,Z,QR⟩:=two_boxes w dg ls En n _ e m _ f W1 hW1;have S9:=qsd hB;clear hB Z QR;have hd:(mode<0)∨(¬ mode<0∧4<mode):=by omega
 clear hm;go_enter Tryz.func68,Tryz.ntmps68
 go_upto_region 1 with fail
 rw [←hW1];clear hW1
 rcases hd with hd|⟨hd,hd2⟩
 · have d1:=decide_eq_true hd
   clear hd;go_wp2;exact bodyPost_ret (v:=.tuple #[.int .u64 0,.bool false,.int .i64 1]) (by simp [results,Tryz.results68,go_sem]) rfl ⟨rfl,S9.out⟩
 · have d1:=decide_eq_false hd
   have d2:=decide_eq_true hd2;clear hd hd2;go_wp2;exact bodyPost_ret (v:=.tuple #[.int .u64 0,.bool false,.int .i64 1]) (by simp [results,Tryz.results68,go_sem]) rfl ⟨rfl,S9.out⟩
theorem rounded_err {w:World}{n m:Bool}{a b:Option Addr}{la ca lb cb X Y:Nat}{e f:Int}(dg ls:Int) (En:Nat) (sq:Bool) (mode:Int) (hm0:0≤mode) (hm4:mode≤4) (hN:Al w (.slice a la ca) X) (hD:Al w (.slice b lb cb) Y) (be:-9223372036854775808≤e∧e≤9223372036854775807) (bf:-9223372036854775808≤f∧f≤9223372036854775807)
 (o p:Option (Bool×Nat×Int)) (ho:mkS n X e=o) (hp:mkS m Y f=p) (er:Int) (her:errN X n e Y m f=er) (hne:er≠0) :
 Calls Tryz.prog 68 #[.agg #[.int .i64 dg,.int .i64 ls,.int .u64 (En:Nat)],.agg #[.bool n,.slice a la ca,.int .i64 e,.bool m,.slice b lb cb,.int .i64 f],.bool sq,.int .i64 mode] w fun r w'=>r=.returned (.tuple #[.int .u64 0,.bool false,.int .i64 er])∧Below w.heap.size w w':=by
 obtain ⟨W1,hW1⟩:∃ W,W=(w.alloc (.cells #[.int .i64 dg,.int .i64 ls,.int .u64 (En:Nat)] 99)).alloc (.cells #[.bool n,.slice a la ca,.int .i64 e,.bool m,.slice b lb cb,.int .i64 f] 78):=⟨_,rfl⟩;obtain ⟨hB,Z,QR⟩:=two_boxes w dg ls En n _ e m _ f W1 hW1;obtain ⟨L1,hL1⟩:∃ W,W=W1.alloc (.cells #[.bool n,.slice a la ca,.int .i64 e,.bool m,.slice b lb cb,.int .i64 f] 78):=⟨_,rfl⟩;have hB2:Below W1.heap.size W1 L1:=by rw [hL1];exact below_alloc _ _
 have bel:=hB.trans (hB2.mono hB.size);have LQ:Rq L1 W1.heap.size n (.slice a la ca) e m (.slice b lb cb) f:=by rw [hL1];exact Rq.new _ _ _ _ _ _ _
 have HC:=hid (may1 LQ (hN.below bel) (hD.below bel) be bf o p ho hp er her);have LL:Aside ((ws (dX o)).length≤8192∧(ws (dX p)).length≤8192):=qsd ⟨by rw [←ho];exact mkS_len _ _ _,by rw [←hp];exact mkS_len _ _ _⟩
 obtain ⟨x0,x1,x2,x3,x4,x5⟩:=QR.facts;have S0:=(qsd (ai bel (Z.below hB2)));have d1:decide (mode<0)=false:=decide_eq_false (by omega)
 have d2:decide (4<mode)=false:=decide_eq_false (by omega)
 clear hB hB2 bel LQ Z QR hN hD be bf ho hp her hm0 hm4;go_enter Tryz.func68,Tryz.ntmps68
 go_upto_region 1 with fail
 rw [←hW1];clear hW1
 go_wp2_with fail
 rw [←hL1];clear hL1 x0 x1 x2 x3 x4 x5;refine HC.out.mono ?_;rintro r u1 ⟨⟨v,rfl,hR⟩,hb⟩;have S9:=qsd (S0.out.1.trans (hb.mono S0.out.1.size));have hne':(er != 0)=true:=by simpa using hne
 have hne2:(er==0)=false:=by simpa using hne
 clear hb hR HC S0 LL;go_wp2;exact bodyPost_ret (v:=.tuple #[.int .u64 0,.bool false,.int .i64 er]) (by simp [results,Tryz.results68,go_sem]) rfl ⟨rfl,S9.out⟩
theorem rounded_ok {w:World}{n m:Bool}{a b:Option Addr}{la ca lb cb X Y:Nat}{e f:Int}(dg ls:Int) (En:Nat) (sq:Bool) (mode:Int) (hm0:0≤mode) (hm4:mode≤4) (hN:Al w (.slice a la ca) X) (hD:Al w (.slice b lb cb) Y) (be:-9223372036854775808≤e∧e≤9223372036854775807) (bf:-9223372036854775808≤f∧f≤9223372036854775807)
 (o p:Option (Bool×Nat×Int)) (ho:mkS n X e=o) (hp:mkS m Y f=p) (er:Int) (her:errN X n e Y m f=er) (h0:er=0) (hsq:sq=false∨dN o=false) (K:Nat)
 (HNb:Hid (∀ (u:World) (x y:Option Addr) (lx cx ly cy:Nat),Below w.heap.size w u→Al u (.slice x lx cx) (dX o)→Al u (.slice y ly cy) (dX p)→Calls Tryz.prog 96 #[.agg #[.int .i64 dg,.int .i64 ls,.int .u64 (En:Nat)],.agg #[.bool (dN o),.slice x lx cx,.int .i64 (dE o),.bool (dN p),.slice y ly cy,.int .i64 (dE p)],.bool sq,.int .i64 mode] u fun r w'=>r=.returned (.int .u64 (K:Nat))∧Below u.heap.size u w')) :
 Calls Tryz.prog 68 #[.agg #[.int .i64 dg,.int .i64 ls,.int .u64 (En:Nat)],.agg #[.bool n,.slice a la ca,.int .i64 e,.bool m,.slice b lb cb,.int .i64 f],.bool sq,.int .i64 mode] w fun r w'=>r=.returned (.tuple #[.int .u64 (K:Nat),.bool (dN o),.int .i64 0])∧Below w.heap.size w w':=by
 obtain ⟨W1,hW1⟩:∃ W,W=(w.alloc (.cells #[.int .i64 dg,.int .i64 ls,.int .u64 (En:Nat)] 99)).alloc (.cells #[.bool n,.slice a la ca,.int .i64 e,.bool m,.slice b lb cb,.int .i64 f] 78):=⟨_,rfl⟩;obtain ⟨hB,Z,QR⟩:=two_boxes w dg ls En n _ e m _ f W1 hW1;obtain ⟨L1,hL1⟩:∃ W,W=W1.alloc (.cells #[.bool n,.slice a la ca,.int .i64 e,.bool m,.slice b lb cb,.int .i64 f] 78):=⟨_,rfl⟩;have hB2:Below W1.heap.size W1 L1:=by rw [hL1];exact below_alloc _ _
 have bel:=hB.trans (hB2.mono hB.size);have LQ:Rq L1 W1.heap.size n (.slice a la ca) e m (.slice b lb cb) f:=by rw [hL1];exact Rq.new _ _ _ _ _ _ _
 have HC:=hid (may1 LQ (hN.below bel) (hD.below bel) be bf o p ho hp er her);have LL:Aside ((ws (dX o)).length≤8192∧(ws (dX p)).length≤8192):=qsd ⟨by rw [←ho];exact mkS_len _ _ _,by rw [←hp];exact mkS_len _ _ _⟩
 obtain ⟨x0,x1,x2,x3,x4,x5⟩:=QR.facts;have S0:=(qsd (ai bel (Z.below hB2)));have d1:decide (mode<0)=false:=decide_eq_false (by omega)
 have d2:decide (4<mode)=false:=decide_eq_false (by omega)
 clear hB hB2 bel LQ Z QR hN hD be bf ho hp her hm0 hm4;go_enter Tryz.func68,Tryz.ntmps68
 go_upto_region 1 with fail
 rw [←hW1];clear hW1
 go_wp2_with fail
 rw [←hL1];clear hL1 x0 x1 x2 x3 x4 x5;refine HC.out.mono ?_;rintro r u1 ⟨⟨v,rfl,hR⟩,hb⟩;obtain ⟨x,y,hR1,hx,hy⟩:=hR h0;subst h0;obtain ⟨gg,cap,rfl,hcap,hgg,c0,c1,c2,c3,c4,c5⟩:=hR1.ex;obtain ⟨q1,e1,rfl,-⟩:=hx.shape;obtain ⟨q2,e2,rfl,-⟩:=hy.shape;have S1:=(qsd (ai (S0.out.1.trans (hb.mono S0.out.1.size)) (ai (S0.out.2.below hb) (ai (hx.al' (Nat.le_trans LL.out.1 (by decide))) (ai (hy.al' (Nat.le_trans LL.out.2 (by decide))) (ai hR1 hgg))))))
 clear hb hR HC S0 LL hx hy hR1 hgg;obtain ⟨ng,hng⟩:∃ z,dN o=z:=⟨_,rfl⟩;obtain ⟨z0,z1,z2⟩:=S1.out.2.1.facts;have T1:=hid (HNb.out u1 q1 q2 _ e1 _ e2 S1.out.1 S1.out.2.2.1 S1.out.2.2.2.1);have dr:Below u1.heap.size u1 u1.drew:=(Below.refl _ _).drew;have T2:=hid (HNb.out u1.drew q1 q2 _ e1 _ e2 S1.out.1.drew (S1.out.2.2.1.below dr) (S1.out.2.2.2.1.below dr));have CC:=(qsd (ai c0 (ai c1 (ai c2 (ai c3 (ai c4 (ai c5 (ai z0 (ai z1 z2)))))))));rw [hng] at c0 T1 T2 hsq;have NG:=qsd hng;clear dr HNb hng
 rcases hsq with rfl|rfl
 · go_upto_region 8 with fail
   go_region_held3 (fun w'=>w'.cell? ⟨gg,0,none⟩=some (.bool ng)∧w'.cell? ⟨gg,1,none⟩=some (.slice q1 (ws (dX o)).length e1)∧w'.cell? ⟨gg,2,none⟩=some (.int .i64 (dE o))∧w'.cell? ⟨gg,3,none⟩=some (.bool (dN p))∧w'.cell? ⟨gg,4,none⟩=some (.slice q2 (ws (dX p)).length e2)∧w'.cell? ⟨gg,5,none⟩=some (.int .i64 (dE p))∧w'.cell? ⟨w.heap.size,0,none⟩=some (.int .i64 dg)∧w'.cell? ⟨w.heap.size,1,none⟩=some (.int .i64 ls)∧w'.cell? ⟨w.heap.size,2,none⟩=some (.int .u64 (En:Nat))) (go_keep) (first
    | (go_at_call 96
       first | with_reducible refine T1.out.mono ?_ | with_reducible refine T2.out.mono ?_
       rintro r v1 ⟨rfl,hb⟩;have hw:Below u1.heap.size u1 v1:=by first | exact hb | exact ((Below.refl _ u1).drew).trans (hb.mono (Nat.le_refl _))
       have hcg:∀ i,v1.cell? ⟨gg,i,none⟩=u1.cell? ⟨gg,i,none⟩:=fun i=>hw.cell (p:=⟨gg,i,none⟩) S1.out.2.2.2.2.2
       have k0:v1.cell? ⟨gg,0,none⟩=some (.bool ng):=by rw [hcg,CC.out.1,NG.out]
       have k1:=(hcg 1).trans CC.out.2.1;have k2:=(hcg 2).trans CC.out.2.2.1;have k3:=(hcg 3).trans CC.out.2.2.2.1;have k4:=(hcg 4).trans CC.out.2.2.2.2.1;have k5:=(hcg 5).trans CC.out.2.2.2.2.2.1;obtain ⟨j0,j1,j2⟩:=(S1.out.2.1.below hw).facts;have S9:=qsd (S1.out.1.trans (hw.mono S1.out.1.size));clear hb hw hcg)
    | fail)
   all_goals (
    go_wp2;exact bodyPost_ret (v:=.tuple #[.int .u64 (K:Nat),.bool ng,.int .i64 0]) (by simp [results,Tryz.results68,go_sem]) rfl ⟨by rw [NG.out],S9.out⟩)
 · cases sq
   · go_upto_region 8 with fail
     go_region_held3 (fun w'=>w'.cell? ⟨gg,0,none⟩=some (.bool false)∧w'.cell? ⟨gg,1,none⟩=some (.slice q1 (ws (dX o)).length e1)∧w'.cell? ⟨gg,2,none⟩=some (.int .i64 (dE o))∧w'.cell? ⟨gg,3,none⟩=some (.bool (dN p))∧w'.cell? ⟨gg,4,none⟩=some (.slice q2 (ws (dX p)).length e2)∧w'.cell? ⟨gg,5,none⟩=some (.int .i64 (dE p))∧w'.cell? ⟨w.heap.size,0,none⟩=some (.int .i64 dg)∧w'.cell? ⟨w.heap.size,1,none⟩=some (.int .i64 ls)∧w'.cell? ⟨w.heap.size,2,none⟩=some (.int .u64 (En:Nat))) (go_keep) (first
      | (go_at_call 96
         first | with_reducible refine T1.out.mono ?_ | with_reducible refine T2.out.mono ?_
         rintro r v1 ⟨rfl,hb⟩;have hw:Below u1.heap.size u1 v1:=by first | exact hb | exact ((Below.refl _ u1).drew).trans (hb.mono (Nat.le_refl _))
         have hcg:∀ i,v1.cell? ⟨gg,i,none⟩=u1.cell? ⟨gg,i,none⟩:=fun i=>hw.cell (p:=⟨gg,i,none⟩) S1.out.2.2.2.2.2
         have k0:v1.cell? ⟨gg,0,none⟩=some (.bool false):=by rw [hcg,CC.out.1,NG.out]
         have k1:=(hcg 1).trans CC.out.2.1;have k2:=(hcg 2).trans CC.out.2.2.1;have k3:=(hcg 3).trans CC.out.2.2.2.1;have k4:=(hcg 4).trans CC.out.2.2.2.2.1;have k5:=(hcg 5).trans CC.out.2.2.2.2.2.1;obtain ⟨j0,j1,j2⟩:=(S1.out.2.1.below hw).facts;have S9:=qsd (S1.out.1.trans (hw.mono S1.out.1.size));clear hb hw hcg)
      | fail)
     all_goals (
      go_wp2;exact bodyPost_ret (v:=.tuple #[.int .u64 (K:Nat),.bool false,.int .i64 0]) (by simp [results,Tryz.results68,go_sem]) rfl ⟨by rw [NG.out],S9.out⟩)
   · go_upto_region 8 with fail
     go_region_held3 (fun w'=>w'.cell? ⟨gg,0,none⟩=some (.bool false)∧w'.cell? ⟨gg,1,none⟩=some (.slice q1 (ws (dX o)).length e1)∧w'.cell? ⟨gg,2,none⟩=some (.int .i64 (dE o))∧w'.cell? ⟨gg,3,none⟩=some (.bool (dN p))∧w'.cell? ⟨gg,4,none⟩=some (.slice q2 (ws (dX p)).length e2)∧w'.cell? ⟨gg,5,none⟩=some (.int .i64 (dE p))∧w'.cell? ⟨w.heap.size,0,none⟩=some (.int .i64 dg)∧w'.cell? ⟨w.heap.size,1,none⟩=some (.int .i64 ls)∧w'.cell? ⟨w.heap.size,2,none⟩=some (.int .u64 (En:Nat))) (go_keep) (first
      | (go_at_call 96
         first | with_reducible refine T1.out.mono ?_ | with_reducible refine T2.out.mono ?_
         rintro r v1 ⟨rfl,hb⟩;have hw:Below u1.heap.size u1 v1:=by first | exact hb | exact ((Below.refl _ u1).drew).trans (hb.mono (Nat.le_refl _))
         have hcg:∀ i,v1.cell? ⟨gg,i,none⟩=u1.cell? ⟨gg,i,none⟩:=fun i=>hw.cell (p:=⟨gg,i,none⟩) S1.out.2.2.2.2.2
         have k0:v1.cell? ⟨gg,0,none⟩=some (.bool false):=by rw [hcg,CC.out.1,NG.out]
         have k1:=(hcg 1).trans CC.out.2.1;have k2:=(hcg 2).trans CC.out.2.2.1;have k3:=(hcg 3).trans CC.out.2.2.2.1;have k4:=(hcg 4).trans CC.out.2.2.2.2.1;have k5:=(hcg 5).trans CC.out.2.2.2.2.2.1;obtain ⟨j0,j1,j2⟩:=(S1.out.2.1.below hw).facts;have S9:=qsd (S1.out.1.trans (hw.mono S1.out.1.size));clear hb hw hcg)
      | fail)
     all_goals (
      go_wp2;exact bodyPost_ret (v:=.tuple #[.int .u64 (K:Nat),.bool false,.int .i64 0]) (by simp [results,Tryz.results68,go_sem]) rfl ⟨by rw [NG.out],S9.out⟩)
end
section
open Go.RowKit
theorem rQuot11 {w:World}{n m:Bool}{a b:Option Addr}{la ca lb cb:Nat}{e f:Int}(mode:Int) (k:Nat) (ng:Bool) (er:Int) (hk:k<9223372036854775808) (z:Nat) (hz:k+(if ng then 9223372036854775808 else 0)=z)
 (HR:Hid (∀ u:World,Below w.heap.size w u→Calls Tryz.prog 68 #[.agg #[.int .i64 53,.int .i64 (-1074),.int .u64 9218868437227405312],.agg #[.bool n,.slice a la ca,.int .i64 e,.bool m,.slice b lb cb,.int .i64 f],.bool false,.int .i64 mode] u fun r w'=>r=.returned (.tuple #[.int .u64 (k:Nat),.bool ng,.int .i64 er])∧Below u.heap.size u w')) :
 Calls Tryz.prog 34 #[.agg #[.bool n,.slice a la ca,.int .i64 e,.bool m,.slice b lb cb,.int .i64 f],.int .i64 mode] w fun r w'=>r=.returned (.tuple #[.float .f64 z,.int .i64 er])∧Below w.heap.size w w':=by
 obtain ⟨W1,hW1⟩:∃ W,W=w.alloc (.cells #[.bool n,.slice a la ca,.int .i64 e,.bool m,.slice b lb cb,.int .i64 f] 78):=⟨_,rfl⟩;have hB:Below w.heap.size w W1:=by rw [hW1];exact below_alloc _ _
 have QR0:Rq W1 w.heap.size n (.slice a la ca) e m (.slice b lb cb) f:=by rw [hW1];exact Rq.new _ _ _ _ _ _ _
 obtain ⟨x0,x1,x2,x3,x4,x5⟩:=QR0.facts;have S0:=(qsd (ai hB QR0));have HWd:Hid (∀ u:World,Calls Tryz.prog 69 #[.int .u64 (k:Nat),.bool ng,.int .i64 er] u fun r w'=>r=.returned (.tuple #[.float .f64 z,.int .i64 er])∧w'=u):=hid fun u=>by have h:=wide64_any k hk ng er u;rw [hz] at h;exact h
 clear hB QR0 hk hz;go_enter Tryz.func34,Tryz.ntmps34
 go_upto_region 1 with fail
 rw [←hW1];clear hW1;have T1:=hid (of64_any W1);have T2:=hid (of64_any W1.drew)
 go_region_held3 (fun w'=>w'.cell? ⟨w.heap.size,0,none⟩=some (.bool n)∧w'.cell? ⟨w.heap.size,1,none⟩=some (.slice a la ca)∧w'.cell? ⟨w.heap.size,2,none⟩=some (.int .i64 e)∧w'.cell? ⟨w.heap.size,3,none⟩=some (.bool m)∧w'.cell? ⟨w.heap.size,4,none⟩=some (.slice b lb cb)∧w'.cell? ⟨w.heap.size,5,none⟩=some (.int .i64 f)) (go_keep) (first
  | (go_at_call 57
     first | with_reducible refine T1.out.mono ?_ | with_reducible refine T2.out.mono ?_
     rintro r v1 ⟨rfl,hb⟩;have hw:Below W1.heap.size W1 v1:=by first | exact hb | exact ((Below.refl _ W1).drew).trans (hb.mono (Nat.le_refl _))
     obtain ⟨m0,m1,m2,m3,m4,m5⟩:=(S0.out.2.below hw).facts;have T3:=hid (HR.out v1 (S0.out.1.trans (hw.mono S0.out.1.size)));have S4:=(qsd (ai (S0.out.1.trans (hw.mono S0.out.1.size)) (S0.out.2.below hw)));clear hb hw)
  | (go_at_call 68
     with_reducible refine T3.out.mono ?_
     rintro r v2 ⟨rfl,hb⟩;obtain ⟨k0,k1,k2,k3,k4,k5⟩:=(S4.out.2.below hb).facts;have S5:=qsd (S4.out.1.trans (hb.mono S4.out.1.size));clear hb))
 all_goals (
  go_wp2_with fail
  refine (HWd.out _).mono ?_;rintro r v3 ⟨rfl,rfl⟩;go_wp2;exact bodyPost_ret (v:=.tuple #[.float .f64 z,.int .i64 er]) (by simp [results,Tryz.results34,go_sem]) rfl ⟨rfl,S5.out⟩)
end
section
open Go.RowKit
theorem lies_nought {v:Nat→Nat}{top n S:Nat}(G:Grid v top) (hn:n≠0) (hS:0<S):LiesG v top n 0 true 0 0 S :=
 ⟨by have:=G.one;omega,hS,fun _=>by rw [G.zero,Nat.zero_pow (by omega),Nat.zero_mul],(fun h=>by cases h),(fun h=>by cases h),(fun h=>by cases h)⟩
theorem rV_zero (e f:Int) (u n:Nat):rV11 0 e f u n=0:=by unfold rV11;rw [Nat.zero_mul]
theorem rS_pos {Y:Nat}(h:Y≠0) (e f:Int) (u n:Nat):0<rS11 Y e f u n:=by unfold rS11;exact Nat.mul_pos (by omega) (Nat.two_pow_pos _)
theorem errN_zero {X:Nat}{n:Bool}{e:Int}{Y:Nat}{m:Bool}{f:Int}(h:errN X n e Y m f=0):(mkS n X e).isSome=true∧(mkS m Y f).isSome=true∧dX (mkS m Y f)≠0:=by
 unfold errN at h
 split at h
 · cases h
 · split at h
   · rename_i h2
     rw [Bool.and_eq_true] at h2
     split at h
     · cases h
     · rename_i h3;exact ⟨h2.1,h2.2,h3⟩
   · cases h
theorem docQuot {w:World}{n m:Bool}{a b:Option Addr}{la ca lb cb X Y:Nat}{e f:Int}(mode:Int) (hN:Al w (.slice a la ca) X) (hD:Al w (.slice b lb cb) Y) (be:-9223372036854775808≤e∧e≤9223372036854775807) (bf:-9223372036854775808≤f∧f≤9223372036854775807) :
 Calls Tryz.prog 34 #[.agg #[.bool n,.slice a la ca,.int .i64 e,.bool m,.slice b lb cb,.int .i64 f],.int .i64 mode] w fun r w'=>r=.returned (.tuple #[.float .f64 (quoR rndS ⟨n,.slice a la ca,X,e,m,.slice b lb cb,Y,f⟩ mode).1,.int .i64 (quoR rndS ⟨n,.slice a la ca,X,e,m,.slice b lb cb,Y,f⟩ mode).2])∧Below w.heap.size w w':=by
 by_cases hm:mode<0∨4<mode
 · have e1:quoR rndS ⟨n,.slice a la ca,X,e,m,.slice b lb cb,Y,f⟩ mode=(0,1):=by unfold quoR;rw [if_pos hm]
   rw [e1];exact rQuot11 mode 0 false 1 (by omega) 0 rfl (hid fun u hu=>rounded_mode (X:=X) (Y:=Y) _ _ _ _ mode hm)
 · have hm0:0≤mode:=by omega
   have hm4:mode≤4:=by omega
   have el:=errL_one ⟨n,.slice a la ca,X,e,m,.slice b lb cb,Y,f⟩
   by_cases h0:errN X n e Y m f=0
   · obtain ⟨s1,s2,hY⟩:=errN_zero h0
     have F1:=frm_of s1;have F2:=frm_of s2;have ez:errL (oneI ⟨n,.slice a la ca,X,e,m,.slice b lb cb,Y,f⟩) 1=0:=el.trans h0
     obtain ⟨K,t,mm,L,hq⟩:∃ K t mm,LiesG vK 9218868437227405312 1 K t mm (rV11 (dX (mkS n X e)) (dE (mkS n X e)) (dE (mkS m Y f)) 1074 1) (rS11 (dX (mkS m Y f)) (dE (mkS n X e)) (dE (mkS m Y f)) 1074 1)∧rndS (quoZ (dN (mkS n X e)) (dX (mkS n X e)) (dE (mkS n X e)) (dX (mkS m Y f)) (dE (mkS m Y f))) mode=((if t then K else if outS mode K mm (dN (mkS n X e)) then K+1 else K)+(if (dN (mkS n X e)) then 9223372036854775808 else 0),0):=by
      rcases F1.odd with h|⟨h1,h2,h3⟩
      · obtain ⟨K,t,mm,L,hq⟩:=quo64 (dN (mkS n X e)) (dX (mkS n X e)) (dE (mkS n X e)) (dX (mkS m Y f)) (dE (mkS m Y f)) h hY F1.size F2.size
        exact ⟨K,t,mm,L,by have q:=hq mode hm0 hm4;rw [q];rfl⟩
      · refine ⟨0,true,0,?_,?_⟩
        · rw [h1,rV_zero];exact lies_nought grid64 (by omega) (rS_pos hY _ _ _ _)
        · rw [h1,quoZ_nought _ _ _ _ hY F2.size]
          unfold rndS;rw [if_neg (by omega)]
          simp [h2]
     have hfin:=L.fin
     have e1:quoR rndS ⟨n,.slice a la ca,X,e,m,.slice b lb cb,Y,f⟩ mode=((if t then K else if outS mode K mm (dN (mkS n X e)) then K+1 else K)+(if dN (mkS n X e) then 9223372036854775808 else 0),0):=by
      unfold quoR;simp only;rw [if_neg hm,if_pos ez];exact hq
     rw [e1];refine rQuot11 mode _ (dN (mkS n X e)) 0 (by split;omega;split <;> omega) _ rfl (hid fun u hu=>?_)
     refine rounded_ok _ _ _ _ mode hm0 hm4 (hN.below hu) (hD.below hu) be bf _ _ rfl rfl _ h0 rfl (.inl rfl) _ (hid fun x p q lx cx ly cy hx A1 A2=>?_)
     exact nearbyG wd64_is A1 A2 ⟨F1.down,F1.up⟩ ⟨F2.down,F2.up⟩ F2.size (.inl rfl) L false rfl mode hm0 hm4
   · have ez:errL (oneI ⟨n,.slice a la ca,X,e,m,.slice b lb cb,Y,f⟩) 1=errN X n e Y m f:=el
     have e1:quoR rndS ⟨n,.slice a la ca,X,e,m,.slice b lb cb,Y,f⟩ mode=(0,errN X n e Y m f):=by unfold quoR;rw [if_neg hm,if_neg (by rw [ez];exact h0),ez]
     rw [e1];exact rQuot11 mode 0 false _ (by omega) 0 rfl (hid fun u hu=>rounded_err _ _ _ _ mode hm0 hm4 (hN.below hu) (hD.below hu) be bf _ _ rfl rfl _ rfl h0)
end
section
open Go Go.RowKit J
attribute [local go_sem] st_float
theorem Fm.al13 {w:World}{p:Option Addr}{c:Nat}{o:Option (Bool×Nat×Int)}(F:Fm o) (N:Nt 0 w (.slice p (ws (dX o)).length c) (dX o)):Al w (.slice p (ws (dX o)).length c) (dX o):=⟨p,_,c,ws (dX o),rfl,F.a12 N,val_ws _,Nat.le_trans F.len (by decide)⟩
end
section
open Go Go.RowKit J
structure De17 (ol oh:Option (Bool×Nat×Int)) (i p:Nat) (zf:Int→Nat) (ef:Int→Int) (ip iq q1 q2 q dn:Option (Bool×Nat×Int)):Prop where
 fip:Fm ip
 fiq:Fm iq
 f1:Fm q1
 f2:Fm q2
 fq:Fm q
 fd:Fm dn
 a1:(∀ u:World,Calls Tryz.prog 32 #[.int .i64 ((p-i:Nat):Nat)] u fun r w'=>(∃ v,r=.returned (.agg #[.bool (dN ip),v,.int .i64 (dE ip)])∧Nt u.heap.size w' v (dX ip))∧Below u.heap.size u w')
 a2:(∀ u:World,Calls Tryz.prog 32 #[.int .i64 (i:Nat)] u fun r w'=>(∃ v,r=.returned (.agg #[.bool (dN iq),v,.int .i64 (dE iq)])∧Nt u.heap.size w' v (dX iq))∧Below u.heap.size u w')
 a3:(∀ u:World,Calls Tryz.prog 32 #[.int .i64 (p:Nat)] u fun r w'=>(∃ v,r=.returned (.agg #[.bool (dN dn),v,.int .i64 (dE dn)])∧Nt u.heap.size w' v (dX dn))∧Below u.heap.size u w')
 m1:(∀ (u:World) (a b:Option Addr) (c d:Nat),Nt 0 u (.slice a (ws (dX ol)).length c) (dX ol)→Nt 0 u (.slice b (ws (dX ip)).length d) (dX ip)→Calls Tryz.prog 31 #[.agg #[.bool (dN ol),.slice a (ws (dX ol)).length c,.int .i64 (dE ol)],.agg #[.bool (dN ip),.slice b (ws (dX ip)).length d,.int .i64 (dE ip)]] u fun r w'=>(∃ v,r=.returned (.tuple #[.agg #[.bool (dN q1),v,.int .i64 (dE q1)],.int .i64 0])∧Nt u.heap.size w' v (dX q1))∧Below u.heap.size u w')
 m2:(∀ (u:World) (a b:Option Addr) (c d:Nat),Nt 0 u (.slice a (ws (dX oh)).length c) (dX oh)→Nt 0 u (.slice b (ws (dX iq)).length d) (dX iq)→Calls Tryz.prog 31 #[.agg #[.bool (dN oh),.slice a (ws (dX oh)).length c,.int .i64 (dE oh)],.agg #[.bool (dN iq),.slice b (ws (dX iq)).length d,.int .i64 (dE iq)]] u fun r w'=>(∃ v,r=.returned (.tuple #[.agg #[.bool (dN q2),v,.int .i64 (dE q2)],.int .i64 0])∧Nt u.heap.size w' v (dX q2))∧Below u.heap.size u w')
 ad:(∀ (u:World) (a b:Option Addr) (c d:Nat),Nt 0 u (.slice a (ws (dX q1)).length c) (dX q1)→Nt 0 u (.slice b (ws (dX q2)).length d) (dX q2)→Calls Tryz.prog 33 #[.agg #[.bool (dN q1),.slice a (ws (dX q1)).length c,.int .i64 (dE q1)],.agg #[.bool (dN q2),.slice b (ws (dX q2)).length d,.int .i64 (dE q2)]] u fun r w'=>(∃ v,r=.returned (.tuple #[.agg #[.bool (dN q),v,.int .i64 (dE q)],.int .i64 0])∧Nt u.heap.size w' v (dX q))∧Below u.heap.size u w')
 qt:∀ (mode:Int) (u:World) (a b:Option Addr) (c d:Nat),Nt 0 u (.slice a (ws (dX q)).length c) (dX q)→Nt 0 u (.slice b (ws (dX dn)).length d) (dX dn)→Calls Tryz.prog 34 #[.agg #[.bool (dN q),.slice a (ws (dX q)).length c,.int .i64 (dE q),.bool (dN dn),.slice b (ws (dX dn)).length d,.int .i64 (dE dn)],.int .i64 mode] u fun r w'=>r=.returned (.tuple #[.float .f64 (zf mode),.int .i64 (ef mode)])∧Below u.heap.size u w'
noncomputable def edM (lo hi i p:Nat) (mode:Int):Nat:=(qR17 (gV 1074 (lnV17 lo hi i p)) (gV 0 (p:Int)) mode).1
theorem de17 (lo hi i p:Nat) (hl:lo<18446744073709551616) (fl:finW lo) (hh:hi<18446744073709551616) (fh:finW hi) (hr:i≤p) (hd:p≤2147483648) :
 ∃ ef ip iq q1 q2 q dn,De17 (gV 1074 (fvW lo)) (gV 1074 (fvW hi)) i p (edM lo hi i p) ef ip iq q1 q2 q dn:=by
 obtain ⟨z,hz⟩:∃ z,z=2098:=⟨_,rfl⟩;obtain ⟨k,hk⟩:∃ z,z=31:=⟨_,rfl⟩;have b1:=bd_fv17 hl fl z hz;have b2:=bd_fv17 hh fh z hz;have bn:∀ n:Nat,n≤2147483648→Bd k (n:Int):=fun n hn=>by unfold Bd;rw [Int.natAbs_natCast,hk];exact hn
 have Fl:=g_fm (u:=1074) (by omega) (by omega) b1
 have Fh:=g_fm (u:=1074) (by omega) (by omega) b2
 have Fip:=g_fm (u:=0) (by omega) (by omega) (bn (p-i) (by omega))
 have Fiq:=g_fm (u:=0) (by omega) (by omega) (bn i (by omega))
 have e1:=g_mul (u:=1074) (v:=0) (by omega) (by omega) (by omega) (by omega) b1 (bn (p-i) (by omega))
 have e2:=g_mul (u:=1074) (v:=0) (by omega) (by omega) (by omega) (by omega) b2 (bn i (by omega))
 have c1:=b1.mul (bn (p-i) (by omega))
 have c2:=b2.mul (bn i (by omega))
 have F1:=g_fm (u:=1074) (by omega) (by omega) c1
 have F2:=g_fm (u:=1074) (by omega) (by omega) c2
 have ea:=g_add (u:=1074) (by omega) (by omega) c1 c2
 have Fq:=g_fm (u:=1074) (by omega) (by omega) (c1.add c2)
 have Fd:=g_fm (u:=0) (by omega) (by omega) (bn p hd)
 obtain ⟨V,hV⟩:∃ V,V=lnV17 lo hi i p:=⟨_,rfl⟩;have hV':fvW lo*((p-i:Nat):Int)+fvW hi*(i:Int)=V:=hV.symm;rw [hV'] at ea Fq
 refine ⟨fun mode=>(qR17 (gV 1074 V) (gV 0 (p:Int)) mode).2,_,_,_,_,_,_,Fip,Fiq,F1,F2,Fq,Fd,
  fun u=>(rInt_any ((p-i:Nat):Int) u (by omega) (by omega)).mono (fun r w' h=>h),
  fun u=>(rInt_any (i:Nat) u (by omega) (by omega)).mono (fun r w' h=>h),
  fun u=>(rInt_any (p:Nat) u (by omega) (by omega)).mono (fun r w' h=>h),
  fun u a b c d N1 N2=>rmul12 Fl Fip N1 N2 e1 F1,
  fun u a b c d N1 N2=>rmul12 Fh Fiq N1 N2 e2 F2,
  fun u a b c d N1 N2=>radd12 F1 F2 N1 N2 ea Fq,fun mode u a b c d N1 N2=>?_⟩
 have:=docQuot (w:=u) mode (Fq.al13 N1) (Fd.al13 N2) Fq.rng (n:=dN (gV 1074 V)) (m:=dN (gV 0 (p:Int))) (f:=dE (gV 0 (p:Int))) Fd.rng;unfold edM;rw [←hV];exact this
theorem vK_zero17 {K:Nat}(h:vK K=0):K=0:=by
 rcases Nat.eq_zero_or_pos K with e|e
 · exact e
 · have:=vK_lt.2 (show 0<K from e)
   omega
theorem ed_modes {lo hi i p:Nat}(hl:lo<18446744073709551616) (fl:finW lo) (hh:hi<18446744073709551616) (fh:finW hi) (hi1:i≤p) (h1:1≤p) (hp:p≤1024):edW lo hi i p=edM lo hi i p 3∨edW lo hi i p=edM lo hi i p 2:=by
 unfold edW edM
 by_cases hV:lnV17 lo hi i p=0
 · rw [ed_zero h1 hp hV 0 (by omega) (by omega),ed_zero h1 hp hV 3 (by omega) (by omega)]
   exact .inl rfl
 · obtain ⟨K,t,m,h2,h3⟩:=ed_lies hl fl hh fh hi1 h1 hp hV
   rw [h3 0 (by omega) (by omega),h3 3 (by omega) (by omega),h3 2 (by omega) (by omega)]
   obtain ⟨n,hn⟩:∃ n,n=decide (lnV17 lo hi i p<0):=⟨_,rfl⟩;rw [←hn];have e3:rK 3 n K t m=if t then K else if n then K+1 else K:=by unfold rK outS;simp
   have e2:rK 2 n K t m=if t then K else if !n then K+1 else K:=by unfold rK outS;simp
   have e0:rK 0 n K t m=K∨(rK 0 n K t m=K+1∧t=false):=by
    unfold rK
    cases ht:t
    · by_cases q:outS 0 K m n=true
      · exact .inr ⟨by simp [q],rfl⟩
      · exact .inl (by simp [q])
    · exact .inl (by simp)
   simp only;rw [e3,e2]
   rcases e0 with e0|⟨e0,ht⟩
   rotate_left
   · subst ht
     rw [e0]
     cases n
     · exact .inr rfl
     · exact .inl rfl
   · rw [e0]
     cases t
     · cases n
       · exact .inl rfl
       · exact .inr rfl
     · exact .inl rfl
theorem ed_own2 {lo hi i p x:Nat}(hl:lo<18446744073709551616) (fl:finW lo) (hh:hi<18446744073709551616) (fh:finW hi) (hi1:i≤p) (h1:1≤p) (hp:p≤1024) (hx:x<18446744073709551616) (fx:finW x) (he:lnV17 lo hi i p=fvW x*(p:Int)):sP (edW lo hi i p)=sP x:=by
 have hpp:(p:Int)≠0:=by omega
 by_cases hV:fvW x=0
 · rw [ed_none h1 hp (by rw [he,hV,Int.zero_mul])]
   have hv:vK (magW x)=0:=by
    unfold fvW B.sg at hV
    split at hV <;> omega
   have hm:magW x=0:=vK_zero17 hv;have e1:sP x=0:=by unfold sP sK;rw [hm];split <;> rfl
   rw [e1]
   decide
 · have hVV:lnV17 lo hi i p≠0:=by
    rw [he];exact Int.mul_ne_zero hV hpp
   obtain ⟨K,t,m,h2,h3⟩:=ed_lies hl fl hh fh hi1 h1 hp hVV
   have hab:(lnV17 lo hi i p).natAbs=vK (magW x)*p:=by
    rw [he,Int.natAbs_mul,Int.natAbs_natCast]
    congr 1
    unfold fvW B.sg
    split <;> simp
   have hsg:decide (lnV17 lo hi i p<0)=negW x:=by
    rw [he]
    have hq:0<vK (magW x):=by
     rcases Nat.eq_zero_or_pos (vK (magW x)) with e|e
     · exact absurd (by unfold fvW B.sg;rw [e];split <;> rfl) hV
     · exact e
    have hpos:(0:Int)<(p:Int):=by omega
    unfold fvW B.sg
    cases hn:negW x
    · rw [decide_eq_false_iff_not]
      have:(0:Int)≤(vK (magW x):Int)*(p:Int):=Int.mul_nonneg (by omega) (by omega)
      simp only [Bool.false_eq_true,if_false];omega
    · rw [decide_eq_true_eq]
      simp only [if_true];rw [Int.neg_mul];have:(0:Int)<(vK (magW x):Int)*(p:Int):=Int.mul_pos (by omega) hpos
      omega
   unfold edW;rw [h3 0 (by omega) (by omega),hsg,rK_own 0 (negW x) h2 (magW x) fx hab]
   have e9:magW x+(if lnV17 lo hi i p<0 then 9223372036854775808 else 0)=x:=by
    have:(if lnV17 lo hi i p<0 then 9223372036854775808 else 0)=(if negW x=true then 9223372036854775808 else 0):=by
     rw [←hsg];simp
    rw [this];unfold negW magW
    by_cases q:9223372036854775808≤x <;> simp [q] <;> omega
   simp only;rw [e9]
theorem ed_first {lo hi p:Nat}(hl:lo<18446744073709551616) (fl:finW lo) (hh:hi<18446744073709551616) (fh:finW hi) (h1:1≤p) (hp:p≤1024):sP (edW lo hi 0 p)=sP lo :=
 ed_own2 hl fl hh fh (Nat.zero_le _) h1 hp hl fl (by unfold lnV17;simp)
theorem ed_last {lo hi p:Nat}(hl:lo<18446744073709551616) (fl:finW lo) (hh:hi<18446744073709551616) (fh:finW hi) (h1:1≤p) (hp:p≤1024):sP (edW lo hi p p)=sP hi :=
 ed_own2 hl fl hh fh (Nat.le_refl _) h1 hp hh fh (by unfold lnV17;simp)
end
section
open Go Go.RowKit J
attribute [local go_sem] st_float
theorem wf64f13 {a:Nat}(h:(Lit.float .f64 a).wf=true):a<18446744073709551616:=by
 simpa [Lit.wf] using h
theorem hv_nil17 (lo hi:Nat) (z er:Int) (w:World) (hT:Tab w) (he:er≠0)
 (HP:Hid (∀ u,Below w.heap.size w u→Calls Tryz.prog 10 #[.float .f64 lo,.float .f64 hi,.int .i64 z] u fun r w'=>r=.returned (.tuple #[.slice none 0 0,.int .i64 er])∧Below u.heap.size u w')) :
 Calls Tryz.prog 7 #[.float .f64 lo,.float .f64 hi,.int .i64 z] w fun r w'=>r=.returned (.bool true)∧Below w.heap.size w w':=by
 have C:=hid (awake17 w hT);have d0:(er != 0)=true:=by simp [he]
 clear hT;go_enter Tryz.func7,Tryz.ntmps7
 go_wp2_with fail
 refine C.out.mono ?_;rintro r u1 ⟨rfl,hb⟩;have B1:=qsd hb;clear hb C;have C:=hid (HP.out u1 B1.out)
 go_wp2_with fail
 refine C.out.mono ?_;rintro r u2 ⟨rfl,hb⟩;have B2:=qsd (B1.out.trans (hb.mono B1.out.size));clear hb C B1 HP;go_wp2;go_ret;exact ⟨rfl,B2.out⟩
theorem hv_full17 (lo hi p:Nat) (w:World) (hT:Tab w) (hl:lo<18446744073709551616) (fl:finW lo) (hh:hi<18446744073709551616) (fh:finW hi) (h1:1≤p) (h2:p<1024) (hE:Edg (edL lo hi p)) :
 Calls Tryz.prog 7 #[.float .f64 lo,.float .f64 hi,.int .i64 (p:Nat)] w fun r w'=>r=.returned (.bool true)∧Below w.heap.size w w':=by
 have hW:=edL_W64 hl fl hh fh h1 (by omega)
 have C:=hid (awake17 w hT)
 have HP:Hid (∀ u,Below w.heap.size w u→Calls Tryz.prog 10 #[.float .f64 lo,.float .f64 hi,.int .i64 (p:Nat)] u fun r w'=>(∃ gl,r=.returned (.tuple #[.slice (some ⟨gl,0,none⟩) (p+1) (p+1),.int .i64 0])∧OwnF w' gl (edL lo hi p))∧Below u.heap.size u w'):=fun u hu=>(Edges17 lo hi p u (hT.belows hu) hl fl hh fh h1 h2 hW).mono fun r w' h=>⟨by
  rcases h.1 with ⟨_,gl,q1,q2,_⟩|⟨q,_⟩
  · exact ⟨gl,q1,q2⟩
  · exact absurd hE q,h.2⟩
 have hget:∀ i,i≤p→(edL lo hi p).getD i 0=edW lo hi i p:=fun i hi'=>by
  unfold edL;rw [List.getD_eq_getElem?_getD,List.getElem?_map,List.getElem?_range (by omega)]
  rfl
 obtain ⟨ol,hol⟩:∃ o,o=gV 1074 (fvW lo):=⟨_,rfl⟩;obtain ⟨oh,hoh⟩:∃ o,o=gV 1074 (fvW hi):=⟨_,rfl⟩;have Fl:Fm ol:=by rw [hol];exact g_fm (by omega) (by omega) (bd_fv17 hl fl 2098 rfl)
 have Fh:Fm oh:=by rw [hoh];exact g_fm (by omega) (by omega) (bd_fv17 hh fh 2098 rfl)
 have CL:Hid (∀ u,Calls Tryz.prog 30 #[.float .f64 lo] u fun r w'=>(∃ v,r=.returned (.tuple #[.agg #[.bool (dN ol),v,.int .i64 (dE ol)],.int .i64 0])∧Nt u.heap.size w' v (dX ol))∧Below u.heap.size u w'):=fun u=>by rw [hol];exact rof12 lo hl fl u
 have CH:Hid (∀ u,Calls Tryz.prog 30 #[.float .f64 hi] u fun r w'=>(∃ v,r=.returned (.tuple #[.agg #[.bool (dN oh),v,.int .i64 (dE oh)],.int .i64 0])∧Nt u.heap.size w' v (dX oh))∧Below u.heap.size u w'):=fun u=>by rw [hoh];exact rof12 hi hh fh u
 have DB:Aside (∀ i,i≤p→∃ ef ip iq q1 q2 q dn,De17 ol oh i p (edM lo hi i p) ef ip iq q1 q2 q dn):=fun i hi'=>by rw [hol,hoh];exact de17 lo hi i p hl fl hh fh hi' (by omega)
 have HM:Aside (∀ i,i≤p→(edW lo hi i p=edM lo hi i p 3∨edW lo hi i p=edM lo hi i p 2)∧edW lo hi i p<18446744073709551616∧nnW (edW lo hi i p)):=fun i hi'=>by
  refine ⟨ed_modes hl fl hh fh hi' h1 (by omega),ed_W64 hl fl hh fh hi' h1 (by omega),?_⟩
  have:=hE.2.2.1 _ (getD_mem17 (show i<(edL lo hi p).length by rw [edL_len];omega))
  rw [hget i hi'] at this;exact Nat.le_of_lt this
 have HU:Aside (∀ i,i<p→sP (edW lo hi i p)<sP (edW lo hi (i+1) p)):=fun i hi'=>by
  have:=hE.2.2.2 i (by rw [edL_len];omega)
  rw [hget i (by omega),hget (i+1) (by omega)] at this
  exact this
 have f0:(FloatKind.f64.format.order (edW lo hi 0 p) lo != some .eq)=false:=by
  have e:=eq17 (HM.out 0 (by omega)).2.1 hl (HM.out 0 (by omega)).2.2 (Nat.le_of_lt fl)
  rw [decide_eq_true (ed_first hl fl hh fh h1 (by omega))] at e
  simp only [bne,e];rfl
 have f1:(FloatKind.f64.format.order (edW lo hi p p) hi != some .eq)=false:=by
  have e:=eq17 (HM.out p (by omega)).2.1 hh (HM.out p (by omega)).2.2 (Nat.le_of_lt fh)
  rw [decide_eq_true (ed_last hl fl hh fh h1 (by omega))] at e
  simp only [bne,e];rfl
 have d1:decide ((p:Int)<1)=false:=by simp;omega
 obtain ⟨n,hn⟩:∃ n,n=p+1:=⟨_,rfl⟩;rw [←hn] at HP;have wn:IntKind.i64.wrap ((p:Int)+1)=(n:Int):=wrapY (by omega) (by omega)
 have dn0:((n:Int) != (n:Int))=false:=by simp
 have bn0:(0:Int)<(n:Int):=by omega
 have bnp:(p:Int)<(n:Int):=by omega
 have bp0:(0:Int)≤(p:Int):=by omega
 have FF:=(qsd (ai Fl (ai Fh (ai hget hn))));have hOL:=edL_len lo hi p;rw [←hn] at hOL;have HOL:=qsd hOL;clear hT hl fl hh fh hol hoh Fl Fh hW hE hget hn hOL;go_enter Tryz.func7,Tryz.ntmps7
 go_wp2_with fail
 refine C.out.mono ?_;rintro r u1 ⟨rfl,hb⟩;have B1:=qsd hb;clear hb C;have C:=hid (HP.out u1 B1.out)
 go_wp2_with fail
 refine C.out.mono ?_;rintro r u2 ⟨⟨gl,rfl,hO⟩,hb⟩;have B2:Aside (Below w.heap.size w u2∧OwnF u2 gl (edL lo hi p)):=⟨B1.out.trans (hb.mono B1.out.size),hO⟩;have x0:=hO.cell 0 (by rw [HOL.out];have:=FF.out.2.2.2;omega)
 rw [FF.out.2.2.1 0 (by omega)] at x0
 have x1:=hO.cell p (by rw [HOL.out];have:=FF.out.2.2.2;omega)
 rw [FF.out.2.2.1 p (by omega)] at x1
 obtain ⟨y0,hy0⟩:∃ y,y=edW lo hi 0 p:=⟨_,rfl⟩;obtain ⟨y1,hy1⟩:∃ y,y=edW lo hi p p:=⟨_,rfl⟩;rw [←hy0] at x0 f0;rw [←hy1] at x1 f1;clear hb C hO B1 HP hy0 hy1;have C:=hid (CL.out u2)
 go_wp2_with fail
 refine C.out.mono ?_;rintro r v1 ⟨⟨s1,rfl,hN⟩,hb⟩;obtain ⟨al,cl,rfl,hN0⟩:=Lo.shape FF.out.1 hN;obtain ⟨V1,hV1⟩:∃ V,V=v1.alloc (dc17 ol al cl):=⟨_,rfl⟩;obtain ⟨g8,hg8⟩:∃ g,g=v1.heap.size:=⟨_,rfl⟩
 have K1:Aside (Dk V1 g8 (dN ol) (.slice al (ws (dX ol)).length cl) (dE ol)∧Nt 0 V1 (.slice al (ws (dX ol)).length cl) (dX ol)∧Below u2.heap.size u2 V1):=by
  rw [hV1,hg8];exact ⟨Dk.new _ _ _ _,hN0.below (below_alloc _ _),hb.trans ((below_alloc _ _).mono hb.size)⟩
 have HV:=(qsd (ai hV1 hg8));clear CL C hb hN hN0 hV1 hg8 x0 x1 f0 f1
 go_upto_region 8 with fail
 rw [←HV.out.1,←HV.out.2];clear HV;have C:=hid (CH.out V1)
 go_wp2_with fail
 refine C.out.mono ?_;rintro r v2 ⟨⟨s2,rfl,hN⟩,hb⟩;obtain ⟨ah,ch,rfl,hN0⟩:=Lo.shape FF.out.2.1 hN;obtain ⟨U,hU⟩:∃ V,V=v2.alloc (dc17 oh ah ch):=⟨_,rfl⟩;obtain ⟨g10,hg10⟩:∃ g,g=v2.heap.size:=⟨_,rfl⟩
 have K2:Aside (Dk U g8 (dN ol) (.slice al (ws (dX ol)).length cl) (dE ol)∧Nt 0 U (.slice al (ws (dX ol)).length cl) (dX ol)∧Dk U g10 (dN oh) (.slice ah (ws (dX oh)).length ch) (dE oh)∧Nt 0 U (.slice ah (ws (dX oh)).length ch) (dX oh)∧Below w.heap.size w U∧OwnF U gl (edL lo hi p)):=by
  rw [hU,hg10];have b2:=K1.out.2.2.trans (hb.mono K1.out.2.2.size);have al2:=below_alloc v2 (dc17 oh ah ch);have b3:=b2.trans (al2.mono b2.size);exact ⟨(K1.out.1.below hb).below al2,(K1.out.2.1.below hb).below al2,Dk.new _ _ _ _,hN0.below al2,B2.out.1.trans (b3.mono B2.out.1.size),B2.out.2.below b3 B2.out.2.lt⟩
 have HV:=(qsd (ai hU hg10));clear C CH hb hN hN0 hU hg10 K1 B2
 go_upto_region 9 with fail
 rw [←HV.out.1,←HV.out.2];clear HV;go_wp2
 go_loopg [14] (p+1) (fun gk iv wr=>∃ k:Nat,gk+k=p+1∧iv=.int .i64 (k:Nat)∧Aside (Below U.heap.size U wr))
 case atStart=>exact ⟨0,by omega,by first | rfl | simp,Below.refl _ _⟩
 case round =>
  obtain ⟨k,hgk,rfl,HA⟩:=hrel
  by_cases hk:k≤p
  · have hdk:decide ((k:Int)≤(p:Int))=true:=by simp;omega
    obtain ⟨k1,hk1⟩:∃ x,x=k+1:=⟨_,rfl⟩;have wk:IntKind.i64.wrap ((k:Int)+1)=(k1:Int):=wrapY (by omega) (by omega)
    obtain ⟨rem,hrem'⟩:∃ x,x=p-k:=⟨_,rfl⟩;have hrem:IntKind.i64.wrap ((p:Int)-(k:Int))=(rem:Int):=wrapY (by omega) (by omega)
    obtain ⟨ef,ip,iq,q1,q2,q,dn,D⟩:=DB.out k hk;have HA1:Hid (∀ u:World,Below wr.heap.size wr u→Calls Tryz.prog 32 #[.int .i64 (rem:Nat)] u fun r w'=>(∃ v,r=.returned (.agg #[.bool (dN ip),v,.int .i64 (dE ip)])∧Nt u.heap.size w' v (dX ip))∧Below u.heap.size u w'):=by rw [hrem'];exact fun u _=>D.a1 u
    have HA2:=hid (fun (u:World) (_:Below wr.heap.size wr u)=>D.a2 u)
    have HA3:=hid (fun (u:World) (_:Below wr.heap.size wr u)=>D.a3 u)
    have HM1:=hid (fun (u:World) (a b:Option Addr) (c d:Nat) (_:Below wr.heap.size wr u)=>D.m1 u a b c d)
    have HM2:=hid (fun (u:World) (a b:Option Addr) (c d:Nat) (_:Below wr.heap.size wr u)=>D.m2 u a b c d)
    have HADD:=hid D.ad;have HQT:=hid (D.qt 3);have HQU:=hid (D.qt 2);have FG:=(qsd (ai D.fip (ai D.fiq (ai D.f1 (ai D.f2 (ai D.fq D.fd))))));obtain ⟨zd,hzd⟩:∃ z,z=edM lo hi k p 3:=⟨_,rfl⟩;obtain ⟨zu,hzu⟩:∃ z,z=edM lo hi k p 2:=⟨_,rfl⟩;obtain ⟨ed,hed⟩:∃ z,z=ef 3:=⟨_,rfl⟩;obtain ⟨eu,heu⟩:∃ z,z=ef 2:=⟨_,rfl⟩;rw [←hzd,←hed] at HQT;rw [←hzu,←heu] at HQU;obtain ⟨V,hVV⟩:∃ V,V=wr:=⟨_,rfl⟩;have hUwr:=HA.out
    have H1:Aside (Lo V g10 oh∧Below wr.heap.size wr V∧Dk V g8 (dN ol) (.slice al (ws (dX ol)).length cl) (dE ol)∧Nt 0 V (.slice al (ws (dX ol)).length cl) (dX ol)):=by
     rw [hVV];exact ⟨⟨ah,ch,K2.out.2.2.1.below hUwr,K2.out.2.2.2.1.below hUwr⟩,Below.refl _ _,K2.out.1.below hUwr,K2.out.2.1.below hUwr⟩
    have HK:=(qsd (ai hk1 (ai hzd hzu)));have HVV:=qsd hVV;clear hk1 hrem' D hzd hzu hed heu hVV hUwr DB
    go_upto_region 12 with fail
    rw [←HVV.out]
    go_cut [15,16] from 80 to 88 (fun pv ev wx=>∃ g7,pv=.pointer (some ⟨g7,0,none⟩)∧ev=.int .i64 0∧Aside (Lo wx g7 q1∧Lo wx g10 oh∧Below wr.heap.size wr wx∧wr.heap.size≤g7))
    case first =>
     have hdr:=(Below.refl V.heap.size V).drew;have BB:=qsd (ai (H1.out.1.below hdr) (ai (H1.out.2.1.trans (hdr.mono H1.out.2.1.size)) (ai (H1.out.2.2.1.below hdr) (H1.out.2.2.2.below hdr))));clear hdr H1;obtain ⟨p0,p1,p2,f0,f1,f2⟩:=BB.out.2.2.1.facts;have hlt0:g8<V.heap.size:=BB.out.2.2.1.lt;have q0:V.cell? ⟨g8,0,none⟩=some (.bool (dN ol)):=p0;have q1':V.cell? ⟨g8,1,none⟩=some (.slice al (ws (dX ol)).length cl):=p1;have q2':V.cell? ⟨g8,2,none⟩=some (.int .i64 (dE ol)):=p2;have hne0:g8≠V.heap.size:=by omega
     refine calm17 ?_
     go_region_with (first
      | (go_at_call 32
         first
         | (with_reducible refine (HA1.out _ BB.out.2.1).mono ?_
            rintro r v ⟨⟨p,rfl,hN⟩,hb⟩;obtain ⟨a2,c2,rfl,hN0⟩:=Lo.shape FG.out.1 hN;have BB:=qsd (ai (BB.out.1.below hb) (ai (BB.out.2.1.trans (hb.mono BB.out.2.1.size)) (ai (BB.out.2.2.1.below hb) (BB.out.2.2.2.below hb))));have Q2:=qsd hN0;obtain ⟨p0,p1,p2,f0,f1,f2⟩:=BB.out.2.2.1.facts;have hlt:=BB.out.2.2.1.lt;have hne:=Nat.ne_of_lt hlt;clear hb hN hN0)
         | (have G7l:=qsd (ai BB.out.1.lt BB.out.2.1.size)
            have BB:=qsd (ai (BB.out.1.below (below_alloc _ Zd17)) (ai (BB.out.2.1.trans ((below_alloc _ Zd17).mono BB.out.2.1.size)) (ai (BB.out.2.2.1.below (below_alloc _ Zd17)) (BB.out.2.2.2.below (below_alloc _ Zd17)))));refine (HA1.out _ BB.out.2.1).mono ?_;rintro r v ⟨⟨p,rfl,hN⟩,hb⟩;obtain ⟨a2,c2,rfl,hN0⟩:=Lo.shape FG.out.1 hN;have G7:=qsd ((Lo.zero _).below hb);have BB:=qsd (ai (BB.out.1.below hb) (ai (BB.out.2.1.trans (hb.mono BB.out.2.1.size)) (ai (BB.out.2.2.1.below hb) (BB.out.2.2.2.below hb))));have Q2:=qsd hN0;obtain ⟨p0,p1,p2,f0,f1,f2⟩:=BB.out.2.2.1.facts;have hlt:=BB.out.2.2.1.lt;have hne:=Nat.ne_of_lt hlt;clear hb hN hN0))
      | (go_at_call 31
         first
         | (with_reducible refine (HM1.out _ al a2 cl c2 BB.out.2.1 BB.out.2.2.2 Q2.out).mono ?_
            rintro r v ⟨⟨p,rfl,hN⟩,hb⟩;obtain ⟨a3,c3,rfl,hN0⟩:=Lo.shape FG.out.2.2.1 hN
            try (have G7:=qsd (G7.out.below hb);obtain ⟨e1,e2,D7,e3⟩:=G7.out;obtain ⟨y0,y1,y2,z0,z1,z2⟩:=D7.facts;try dsimp only [World.drew] at y0 y1 y2 z0 z1 z2;clear D7 e3)
            have BB:=qsd (ai (BB.out.1.below hb) (ai (BB.out.2.1.trans (hb.mono BB.out.2.1.size)) hN0));clear hb hN hN0 p0 p1 p2 f0 f1 f2)
         | (have G7l:=qsd (ai BB.out.1.lt BB.out.2.1.size)
            have BB:=qsd (ai (BB.out.1.below (below_alloc _ Zd17)) (ai (BB.out.2.1.trans ((below_alloc _ Zd17).mono BB.out.2.1.size)) (ai (BB.out.2.2.1.below (below_alloc _ Zd17)) (BB.out.2.2.2.below (below_alloc _ Zd17)))));have Q2:=qsd (Q2.out.below (below_alloc _ Zd17));refine (HM1.out _ al a2 cl c2 BB.out.2.1 BB.out.2.2.2 Q2.out).mono ?_;rintro r v ⟨⟨p,rfl,hN⟩,hb⟩;obtain ⟨a3,c3,rfl,hN0⟩:=Lo.shape FG.out.2.2.1 hN;have G7:=qsd ((Lo.zero _).below hb);obtain ⟨e1,e2,D7,e3⟩:=G7.out;obtain ⟨y0,y1,y2,z0,z1,z2⟩:=D7.facts
            try dsimp only [World.drew] at y0 y1 y2 z0 z1 z2
            clear D7 e3;have BB:=qsd (ai (BB.out.1.below hb) (ai (BB.out.2.1.trans (hb.mono BB.out.2.1.size)) hN0));clear hb hN hN0 p0 p1 p2 f0 f1 f2)))
     all_goals
      go_wp2_with fail
      go_meet
      case rel=>first
       | exact ⟨_,rfl,rfl,Lo.new BB.out.2.2,BB.out.1.below (below_alloc _ _),BB.out.2.1.trans ((below_alloc _ _).mono BB.out.2.1.size),BB.out.2.1.size⟩
       | exact ⟨_,rfl,rfl,G7.out.set BB.out.2.2,BB.out.1.other G7.out (Nat.ne_of_lt G7l.out.1) _ _ _,st3_bel12 BB.out.2.1 BB.out.2.1.size G7l.out.2 _ _ _,G7l.out.2⟩
    clear H1;obtain ⟨g9,rfl,rfl,HB⟩:=hcut;obtain ⟨V2,hW⟩:∃ W,W=wc:=⟨_,rfl⟩;subst hW;obtain ⟨ah',ch',Dh,Nh⟩:=HB.out.2.1;have H1:Aside (Lo V2 g9 q1∧Below wr.heap.size wr V2∧Dk V2 g10 (dN oh) (.slice ah' (ws (dX oh)).length ch') (dE oh)∧Nt 0 V2 (.slice ah' (ws (dX oh)).length ch') (dX oh)):=⟨HB.out.1,HB.out.2.2.1,Dh,Nh⟩;clear Dh Nh HB HA1 HM1
    go_upto_region 13 with fail
    go_cut [17,18] from 89 to 95 (fun pv ev wx=>∃ g7,pv=.pointer (some ⟨g7,0,none⟩)∧ev=.int .i64 0∧Aside (Lo wx g7 q2∧Lo wx g9 q1∧Below wr.heap.size wr wx∧wr.heap.size≤g7))
    case first =>
     have hdr:=(Below.refl V2.heap.size V2).drew;have BB:=qsd (ai (H1.out.1.below hdr) (ai (H1.out.2.1.trans (hdr.mono H1.out.2.1.size)) (ai (H1.out.2.2.1.below hdr) (H1.out.2.2.2.below hdr))));clear hdr H1;obtain ⟨p0,p1,p2,f0,f1,f2⟩:=BB.out.2.2.1.facts;have hlt0:g10<V2.heap.size:=BB.out.2.2.1.lt;have q0:V2.cell? ⟨g10,0,none⟩=some (.bool (dN oh)):=p0;have q1':V2.cell? ⟨g10,1,none⟩=some (.slice ah' (ws (dX oh)).length ch'):=p1;have q2':V2.cell? ⟨g10,2,none⟩=some (.int .i64 (dE oh)):=p2;have hne0:g10≠V2.heap.size:=by omega
     refine calm17 ?_
     go_region_with (first
      | (go_at_call 32
         first
         | (with_reducible refine (HA2.out _ BB.out.2.1).mono ?_
            rintro r v ⟨⟨p,rfl,hN⟩,hb⟩;obtain ⟨a2,c2,rfl,hN0⟩:=Lo.shape FG.out.2.1 hN;have BB:=qsd (ai (BB.out.1.below hb) (ai (BB.out.2.1.trans (hb.mono BB.out.2.1.size)) (ai (BB.out.2.2.1.below hb) (BB.out.2.2.2.below hb))));have Q2:=qsd hN0;obtain ⟨p0,p1,p2,f0,f1,f2⟩:=BB.out.2.2.1.facts;have hlt:=BB.out.2.2.1.lt;have hne:=Nat.ne_of_lt hlt;clear hb hN hN0)
         | (have G7l:=qsd (ai BB.out.1.lt BB.out.2.1.size)
            have BB:=qsd (ai (BB.out.1.below (below_alloc _ Zd17)) (ai (BB.out.2.1.trans ((below_alloc _ Zd17).mono BB.out.2.1.size)) (ai (BB.out.2.2.1.below (below_alloc _ Zd17)) (BB.out.2.2.2.below (below_alloc _ Zd17)))));refine (HA2.out _ BB.out.2.1).mono ?_;rintro r v ⟨⟨p,rfl,hN⟩,hb⟩;obtain ⟨a2,c2,rfl,hN0⟩:=Lo.shape FG.out.2.1 hN;have G7:=qsd ((Lo.zero _).below hb);have BB:=qsd (ai (BB.out.1.below hb) (ai (BB.out.2.1.trans (hb.mono BB.out.2.1.size)) (ai (BB.out.2.2.1.below hb) (BB.out.2.2.2.below hb))));have Q2:=qsd hN0;obtain ⟨p0,p1,p2,f0,f1,f2⟩:=BB.out.2.2.1.facts;have hlt:=BB.out.2.2.1.lt;have hne:=Nat.ne_of_lt hlt;clear hb hN hN0))
      | (go_at_call 31
         first
         | (with_reducible refine (HM2.out _ ah' a2 ch' c2 BB.out.2.1 BB.out.2.2.2 Q2.out).mono ?_
            rintro r v ⟨⟨p,rfl,hN⟩,hb⟩;obtain ⟨a3,c3,rfl,hN0⟩:=Lo.shape FG.out.2.2.2.1 hN
            try (have G7:=qsd (G7.out.below hb);obtain ⟨e1,e2,D7,e3⟩:=G7.out;obtain ⟨y0,y1,y2,z0,z1,z2⟩:=D7.facts;try dsimp only [World.drew] at y0 y1 y2 z0 z1 z2;clear D7 e3)
            have BB:=qsd (ai (BB.out.1.below hb) (ai (BB.out.2.1.trans (hb.mono BB.out.2.1.size)) hN0));clear hb hN hN0 p0 p1 p2 f0 f1 f2)
         | (have G7l:=qsd (ai BB.out.1.lt BB.out.2.1.size)
            have BB:=qsd (ai (BB.out.1.below (below_alloc _ Zd17)) (ai (BB.out.2.1.trans ((below_alloc _ Zd17).mono BB.out.2.1.size)) (ai (BB.out.2.2.1.below (below_alloc _ Zd17)) (BB.out.2.2.2.below (below_alloc _ Zd17)))));have Q2:=qsd (Q2.out.below (below_alloc _ Zd17));refine (HM2.out _ ah' a2 ch' c2 BB.out.2.1 BB.out.2.2.2 Q2.out).mono ?_;rintro r v ⟨⟨p,rfl,hN⟩,hb⟩;obtain ⟨a3,c3,rfl,hN0⟩:=Lo.shape FG.out.2.2.2.1 hN;have G7:=qsd ((Lo.zero _).below hb);obtain ⟨e1,e2,D7,e3⟩:=G7.out;obtain ⟨y0,y1,y2,z0,z1,z2⟩:=D7.facts
            try dsimp only [World.drew] at y0 y1 y2 z0 z1 z2
            clear D7 e3;have BB:=qsd (ai (BB.out.1.below hb) (ai (BB.out.2.1.trans (hb.mono BB.out.2.1.size)) hN0));clear hb hN hN0 p0 p1 p2 f0 f1 f2)))
     all_goals
      go_wp2_with fail
      go_meet
      case rel=>first
       | exact ⟨_,rfl,rfl,Lo.new BB.out.2.2,BB.out.1.below (below_alloc _ _),BB.out.2.1.trans ((below_alloc _ _).mono BB.out.2.1.size),BB.out.2.1.size⟩
       | exact ⟨_,rfl,rfl,G7.out.set BB.out.2.2,BB.out.1.other G7.out (Nat.ne_of_lt G7l.out.1) _ _ _,st3_bel12 BB.out.2.1 BB.out.2.1.size G7l.out.2 _ _ _,G7l.out.2⟩
    clear H1;obtain ⟨g11,rfl,rfl,HB⟩:=hcut;obtain ⟨W1,hW⟩:∃ W,W=wc:=⟨_,rfl⟩;subst hW;obtain ⟨⟨x11,k11,D11,M11⟩,⟨x9,k9,D9,M9⟩,hb,_⟩:=HB.out;obtain ⟨p0,p1,p2,_,_,_⟩:=D9.facts;obtain ⟨q0,q1',q2',_,_,_⟩:=D11.facts;have C:=hid (HADD.out W1 x9 x11 k9 k11 M9 M11);have K3:=qsd hb;clear D9 M9 D11 M11 hb HB HADD HA2 HM2
    go_wp2_with fail
    refine C.out.mono ?_;rintro r v3 ⟨⟨s3,rfl,hN⟩,hb⟩;obtain ⟨a3,c3,rfl,hN0⟩:=Lo.shape FG.out.2.2.2.2.1 hN;obtain ⟨V3,hV3⟩:∃ V,V=v3.alloc (dc17 q a3 c3):=⟨_,rfl⟩;obtain ⟨g13,hg13⟩:∃ g,g=v3.heap.size:=⟨_,rfl⟩
    have K4:Aside (Dk V3 g13 (dN q) (.slice a3 (ws (dX q)).length c3) (dE q)∧Nt 0 V3 (.slice a3 (ws (dX q)).length c3) (dX q)∧Below wr.heap.size wr V3):=by
     rw [hV3,hg13];have b3:=K3.out.trans (hb.mono K3.out.size);exact ⟨Dk.new _ _ _ _,hN0.below (below_alloc _ _),b3.trans ((below_alloc _ _).mono b3.size)⟩
    have HV:=(qsd (ai hV3 hg13));clear C hb hN hN0 K3 hV3 hg13 p0 p1 p2 q0 q1' q2'
    go_upto_region 15 with fail
    rw [←HV.out.1,←HV.out.2];clear HV
    go_cut [21,22] from 102 to 109 (fun v ev wx=>v=.float .f64 zd∧ev=.int .i64 ed∧Aside (Dk wx g13 (dN q) (.slice a3 (ws (dX q)).length c3) (dE q)∧Nt 0 wx (.slice a3 (ws (dX q)).length c3) (dX q)∧Below wr.heap.size wr wx))
    case first =>
     have hdr:=(Below.refl V3.heap.size V3).drew;have BB:Aside (Dk V3.drew g13 (dN q) (.slice a3 (ws (dX q)).length c3) (dE q)∧Nt 0 V3.drew (.slice a3 (ws (dX q)).length c3) (dX q)∧Below wr.heap.size wr V3.drew):=⟨K4.out.1.below hdr,K4.out.2.1.below hdr,K4.out.2.2.drew⟩;clear hdr K4;obtain ⟨d0,d1',d2',_,_,_⟩:=BB.out.1.facts;refine calm17 ?_
     go_region_with (first
      | (go_at_call 34
         with_reducible refine (HQT.out _ a3 a5 c3 c5 BB.out.2.1 Q5.out).mono ?_
         rintro r v ⟨rfl,hb⟩;have BE:=qsd (ai (BB.out.1.below hb) (ai (BB.out.2.1.below hb) (BB.out.2.2.trans (hb.mono BB.out.2.2.size))));clear hb d0 d1' d2')
      | (go_at_call 32
         with_reducible refine (HA3.out _ BB.out.2.2).mono ?_
         rintro r v ⟨⟨s5,rfl,hN⟩,hb⟩;obtain ⟨a5,c5,rfl,hN0⟩:=Lo.shape FG.out.2.2.2.2.2 hN;have BB:=qsd (ai (BB.out.1.below hb) (ai (BB.out.2.1.below hb) (BB.out.2.2.trans (hb.mono BB.out.2.2.size))));have Q5:=qsd hN0;obtain ⟨d0,d1',d2',_,_,_⟩:=BB.out.1.facts;clear hb hN hN0))
     all_goals
      go_wp2_with fail
      go_meet
      case rel=>exact ⟨rfl,rfl,BE.out⟩
    clear K4;obtain ⟨rfl,rfl,K4⟩:=hcut;obtain ⟨W15,hW⟩:∃ W,W=wc:=⟨_,rfl⟩;subst hW
    go_upto_region 16 with fail
    go_cut [23,24] from 110 to 117 (fun v ev wx=>v=.float .f64 zu∧ev=.int .i64 eu∧Aside (Dk wx g13 (dN q) (.slice a3 (ws (dX q)).length c3) (dE q)∧Nt 0 wx (.slice a3 (ws (dX q)).length c3) (dX q)∧Below wr.heap.size wr wx))
    case first =>
     have hdr:=(Below.refl W15.heap.size W15).drew;have BB:Aside (Dk W15.drew g13 (dN q) (.slice a3 (ws (dX q)).length c3) (dE q)∧Nt 0 W15.drew (.slice a3 (ws (dX q)).length c3) (dX q)∧Below wr.heap.size wr W15.drew):=⟨K4.out.1.below hdr,K4.out.2.1.below hdr,K4.out.2.2.drew⟩;clear hdr K4;obtain ⟨d0,d1',d2',_,_,_⟩:=BB.out.1.facts;refine calm17 ?_
     go_region_with (first
      | (go_at_call 34
         with_reducible refine (HQU.out _ a3 a5 c3 c5 BB.out.2.1 Q5.out).mono ?_
         rintro r v ⟨rfl,hb⟩;have BE:=qsd (ai (BB.out.1.below hb) (ai (BB.out.2.1.below hb) (BB.out.2.2.trans (hb.mono BB.out.2.2.size))));clear hb d0 d1' d2')
      | (go_at_call 32
         with_reducible refine (HA3.out _ BB.out.2.2).mono ?_
         rintro r v ⟨⟨s5,rfl,hN⟩,hb⟩;obtain ⟨a5,c5,rfl,hN0⟩:=Lo.shape FG.out.2.2.2.2.2 hN;have BB:=qsd (ai (BB.out.1.below hb) (ai (BB.out.2.1.below hb) (BB.out.2.2.trans (hb.mono BB.out.2.2.size))));have Q5:=qsd hN0;obtain ⟨d0,d1',d2',_,_,_⟩:=BB.out.1.facts;clear hb hN hN0))
     all_goals
      go_wp2_with fail
      go_meet
      case rel=>exact ⟨rfl,rfl,BE.out⟩
    clear K4;obtain ⟨rfl,rfl,K4⟩:=hcut;obtain ⟨W16,hW⟩:∃ W,W=wc:=⟨_,rfl⟩;subst hW;have hUx:=HA.out.trans (K4.out.2.2.mono HA.out.size);have hO:=K2.out.2.2.2.2.2.below hUx K2.out.2.2.2.2.2.lt;have x1:=hO.cell k (by rw [HOL.out];have:=FF.out.2.2.2;omega)
    rw [FF.out.2.2.1 k hk] at x1;obtain ⟨hm1,hm2,hm3⟩:=HM.out k hk;rw [←HK.out.2.1,←HK.out.2.2] at hm1;have hself:(FloatKind.f64.format.order (edW lo hi k p) (edW lo hi k p) != some .eq)=false:=self17 hm2 hm3;have bk1:(k:Int)<(n:Int):=by have:=FF.out.2.2.2;omega
    have bk0:(0:Int)≤(k:Int):=by omega
    have HN:=qsd hUx;obtain ⟨zk,hzk⟩:∃ z,z=edW lo hi k p:=⟨_,rfl⟩;rw [←hzk] at x1 hm1 hself;have HZK:=(qsd (ai hzk (ai hO (ai hm2 hm3))));clear hUx hO hm2 hm3 K4 HA3 HQT HQU
    by_cases h0:0<k
    case neg =>
     have hd0:decide ((0:Int)<(k:Int))=false:=by simp;omega
     have hd0':¬ 0<k:=h0
     rcases hm1 with e|e
     · subst e
       clear hzk
       go_wp2_with fail
       go_quiet (fail)
       go_wp2
       go_roundg (p+1-k1)
       case measure=>have:=HK.out.1;omega
       case rel=>exact ⟨k1,by have:=HK.out.1;omega,by first | rfl | simp,below_drewN17 HN.out _⟩
     · subst e
       clear hzk;obtain ⟨t,ht⟩:∃ t,t=(FloatKind.f64.format.order zk zd != some .eq):=⟨_,rfl⟩;have ht':=ht.symm;clear ht
       cases t
       · go_wp2_with fail
         go_quiet (fail)
         go_wp2
         go_roundg (p+1-k1)
         case measure=>have:=HK.out.1;omega
         case rel=>exact ⟨k1,by have:=HK.out.1;omega,by first | rfl | simp,below_drewN17 HN.out _⟩
       · go_wp2_with fail
         go_quiet (fail)
         go_wp2
         go_roundg (p+1-k1)
         case measure=>have:=HK.out.1;omega
         case rel=>exact ⟨k1,by have:=HK.out.1;omega,by first | rfl | simp,below_drewN17 HN.out _⟩
    case pos =>
     have hd0:decide ((0:Int)<(k:Int))=true:=by simp;omega
     obtain ⟨k0,hk0⟩:∃ y,k=y+1:=⟨k-1,by omega⟩
     have wk0:IntKind.i64.wrap ((k:Int)-1)=(k0:Int):=wrapY (by omega) (by omega)
     have b0:(k0:Int)<(n:Int):=by omega
     have b00:(0:Int)≤(k0:Int):=by omega
     have x2:=HZK.out.2.1.cell k0 (by rw [HOL.out];have:=FF.out.2.2.2;omega)
     rw [FF.out.2.2.1 k0 (by omega)] at x2
     obtain ⟨_,hm4,hm5⟩:=HM.out k0 (by omega)
     have hlt:=HU.out k0 (by omega)
     rw [←hk0] at hlt;have e1:=lt17 HZK.out.2.2.1 hm4 HZK.out.2.2.2 hm5;have e2:=eq17 HZK.out.2.2.1 hm4 HZK.out.2.2.2 hm5;rw [decide_eq_false (by omega),←HZK.out.1] at e1 e2
     obtain ⟨zj,hzj⟩:∃ z,z=edW lo hi k0 p:=⟨_,rfl⟩;rw [←hzj] at x2 e1 e2;have e3:(FloatKind.f64.format.order zk zj==some .lt || FloatKind.f64.format.order zk zj==some .eq)=false:=by rw [e1,e2];rfl
     clear hzj hm4 hm5 hlt hk0
     rcases hm1 with e|e
     · subst e
       clear hzk
       go_wp2_with fail
       go_quiet (fail)
       go_wp2
       go_roundg (p+1-k1)
       case measure=>have:=HK.out.1;omega
       case rel=>exact ⟨k1,by have:=HK.out.1;omega,by first | rfl | simp,below_drewN17 HN.out _⟩
     · subst e
       clear hzk;obtain ⟨t,ht⟩:∃ t,t=(FloatKind.f64.format.order zk zd != some .eq):=⟨_,rfl⟩;have ht':=ht.symm;clear ht
       cases t
       · go_wp2_with fail
         go_quiet (fail)
         go_wp2
         go_roundg (p+1-k1)
         case measure=>have:=HK.out.1;omega
         case rel=>exact ⟨k1,by have:=HK.out.1;omega,by first | rfl | simp,below_drewN17 HN.out _⟩
       · go_wp2_with fail
         go_quiet (fail)
         go_wp2
         go_roundg (p+1-k1)
         case measure=>have:=HK.out.1;omega
         case rel=>exact ⟨k1,by have:=HK.out.1;omega,by first | rfl | simp,below_drewN17 HN.out _⟩
  · obtain rfl:k=p+1:=by omega
    have hdk:decide (((p+1:Nat):Int)≤(p:Int))=false:=decide_eq_false (by omega)
    have hdk2:¬ p+1≤p:=by omega
    have hdk3:decide ((p:Int)+1≤(p:Int))=false:=decide_eq_false (by omega)
    have HZ:=qsd (K2.out.2.2.2.2.1.trans (HA.out.mono K2.out.2.2.2.2.1.size));clear HA K2 DB;go_wp2;refine bodyPost_ret (v:=.bool true) (by simp [results,Tryz.results7,go_sem]) rfl ?_
    exact ⟨rfl,HZ.out⟩
theorem EdgesHigh17 (lo hi:Nat) (z:Int) (w:World) (hT:Tab w) (hl:lo<18446744073709551616) (fl:finW lo) (hh:hi<18446744073709551616) (fh:¬ finW hi) (h1:1≤z) (h2:z<1024) :
 Calls Tryz.prog 10 #[.float .f64 lo,.float .f64 hi,.int .i64 z] w fun r w'=>r=.returned (.tuple #[.slice none 0 0,.int .i64 30])∧Below w.heap.size w w':=by
 have d1:decide (z<1)=false:=by simp;omega
 have d2:decide ((1024:Int)≤z)=false:=by simp;omega
 have CL:=hid (of12 lo hl fl w hT);have CH:=hid (fun u=>ofNo17 hh fh u)
 have Fx:Fm (oW lo):=by rw [g_oW];exact g_fm (by omega) (by omega) (bd_fv17 hl fl 2098 rfl)
 have HFX:=qsd Fx;obtain ⟨ol,hol⟩:∃ o,o=oW lo:=⟨_,rfl⟩;rw [←hol] at CL HFX;clear hl fl hT hh fh Fx hol;go_enter Tryz.func10,Tryz.ntmps10
 go_wp2_with fail
 refine CL.out.mono ?_;rintro r v1 ⟨⟨s1,rfl,hN⟩,hb⟩;obtain ⟨al,cl,rfl,_⟩:=Lo.shape HFX.out hN;obtain ⟨V1,hV1⟩:∃ V,V=v1.alloc (dc17 ol al cl):=⟨_,rfl⟩;have B1:Aside (Below w.heap.size w V1):=by rw [hV1];exact hb.trans ((below_alloc _ _).mono hb.size)
 have HV:=qsd hV1;clear CL hb hV1 hN
 go_upto_region 6 with fail
 rw [←HV.out];clear HV;have C:=hid (CH.out V1)
 go_wp2_with fail
 refine C.out.mono ?_;rintro r v2 ⟨rfl,hb⟩
 have B2:Aside (Below w.heap.size w (v2.alloc (Obj.cells #[.bool false,.slice none 0 0,.int .i64 0] 70))):=by
  have q:=B1.out.trans (hb.mono B1.out.size);exact q.trans ((below_alloc _ _).mono q.size)
 clear C CH hb B1;go_wp2;refine bodyPost_ret (v:=.tuple #[.slice none 0 0,.int .i64 30]) (by simp [results,Tryz.results10,go_sem]) rfl ?_
 exact ⟨rfl,B2.out⟩
theorem walk2_HistEven (lo hi:Nat) (z:Int) (w:World) (hT:Tab w) (hl:lo<18446744073709551616) (hh:hi<18446744073709551616) :
 Calls Tryz.prog 7 #[.float .f64 lo,.float .f64 hi,.int .i64 z] w fun r w'=>r=.returned (.bool true)∧Below w.heap.size w w':=by
 by_cases hz:z<1∨1024≤z
 · exact hv_nil17 lo hi z 1 w hT (by decide) (fun u _=>(EdgesArg17 lo hi z u hz).mono fun r w' h=>⟨h.1,by rw [h.2];exact Below.refl _ _⟩)
 · by_cases hf:finW lo∧finW hi
   · obtain ⟨p,hp⟩:∃ p:Nat,z=(p:Int):=⟨z.toNat,by omega⟩
     subst hp;have hW:=edL_W64 (p:=p) hl hf.1 hh hf.2 (by omega) (by omega)
     by_cases hE:Edg (edL lo hi p)
     · exact hv_full17 lo hi p w hT hl hf.1 hh hf.2 (by omega) (by omega) hE
     · refine hv_nil17 lo hi p 170 w hT (by decide) (fun u hu=>(Edges17 lo hi p u (hT.belows hu) hl hf.1 hh hf.2 (by omega) (by omega) hW).mono fun r w' h=>⟨?_,h.2⟩)
       rcases h.1 with ⟨q,_⟩|⟨_,q⟩
       · exact absurd q hE
       · exact q
   · refine hv_nil17 lo hi z 30 w hT (by decide) (fun u hu=>?_)
     by_cases fl:finW lo
     · exact EdgesHigh17 lo hi z u (hT.belows hu) hl fl hh (fun q=>hf ⟨fl,q⟩) (by omega) (by omega)
     · exact EdgesLow17 lo hi z u hl fl (by omega) (by omega)
end
end Go.Proofs.YtgfemeencgjneaaGreatDoor
