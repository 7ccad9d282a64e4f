import Derived.Test.YtjldfhecnaiinaaGreatDoorF9x
import Derived.Test.YtjldfhecnaiinaaGreatDoorZ8x
import Derived.Deep.RegionHeld3
import Derived.Test.YtjldfhecnaiinaaGreatDoorD32ex
import Derived.Test.YtjldfhecnaiinaaGreatDoorM1x
import Derived.ProofKit
import Derived.OpenShut
import Derived.ChangeOld
import Derived.ChangeArms
import Derived.SizedLaws
import Derived.Laws.Cover2
import Derived.Deep.CutRange
import Derived.Test.YtjldfhecnaiinaaGreatDoorX1x
import Derived.Test.YtjldfhecnaiinaaGreatDoorD20x
import Derived.Test.YtjldfhecnaiinaaGreatDoorP2x
import Derived.Test.YtjldfhecnaiinaaGreatDoorS7x
import Derived.Deep.RegionWith
import Derived.BigQuiet
set_option linter.unusedVariables false
set_option linter.unusedSimpArgs false
set_option maxHeartbeats 16000000
set_option maxRecDepth 20000
namespace Go.Proofs.YtjldfhecnaiinaaGreatDoor
namespace J
end J
section
open Go.RowKit
theorem rounded_mode {w:World}{n m:Bool}{a b:Option Addr}{la ca lb cb X Y:Nat}{e f:Int}(dg ls:Int) (En:Nat) (sq:Bool) (mode:Int) (hm:mode<0∨4<mode) :
 Calls Tryz.prog 99 #[.agg #[.int .i64 dg,.int .i64 ls,.int .u64 (En:Nat)],.agg #[.bool n,.slice a la ca,.int .i64 e,.bool m,.slice b lb cb,.int .i64 f],.bool sq,.int .i64 mode] w fun r w'=>r=.returned (.tuple #[.int .u64 0,.bool false,.int .i64 1])∧Below w.heap.size w w':=by
 obtain ⟨W1,hW1⟩:∃ W,W=(w.alloc (.cells #[.int .i64 dg,.int .i64 ls,.int .u64 (En:Nat)] 110)).alloc (.cells #[.bool n,.slice a la ca,.int .i64 e,.bool m,.slice b lb cb,.int .i64 f] 71):=⟨_,rfl⟩;obtain ⟨hB,Z,QR⟩:=two_boxes w dg ls En n _ e m _ f W1 hW1;have S9:=qsd hB;clear hB Z QR;have hd:(mode<0)∨(¬ mode<0∧4<mode):=by omega
 clear hm;go_enter Tryz.func99,Tryz.ntmps99
 go_upto_region 1 with fail
 rw [←hW1];clear hW1
 rcases hd with hd|⟨hd,hd2⟩
 · have d1:=decide_eq_true hd
   clear hd;go_wp2;exact bodyPost_ret (v:=.tuple #[.int .u64 0,.bool false,.int .i64 1]) (by simp [results,Tryz.results99,go_sem]) rfl ⟨rfl,S9.out⟩
 · have d1:=decide_eq_false hd
   have d2:=decide_eq_true hd2;clear hd hd2;go_wp2;exact bodyPost_ret (v:=.tuple #[.int .u64 0,.bool false,.int .i64 1]) (by simp [results,Tryz.results99,go_sem]) rfl ⟨rfl,S9.out⟩
theorem rounded_err {w:World}{n m:Bool}{a b:Option Addr}{la ca lb cb X Y:Nat}{e f:Int}(dg ls:Int) (En:Nat) (sq:Bool) (mode:Int) (hm0:0≤mode) (hm4:mode≤4) (hN:Al w (.slice a la ca) X) (hD:Al w (.slice b lb cb) Y) (be:-9223372036854775808≤e∧e≤9223372036854775807) (bf:-9223372036854775808≤f∧f≤9223372036854775807)
 (o p:Option (Bool×Nat×Int)) (ho:mkS n X e=o) (hp:mkS m Y f=p) (er:Int) (her:errN X n e Y m f=er) (hne:er≠0) :
 Calls Tryz.prog 99 #[.agg #[.int .i64 dg,.int .i64 ls,.int .u64 (En:Nat)],.agg #[.bool n,.slice a la ca,.int .i64 e,.bool m,.slice b lb cb,.int .i64 f],.bool sq,.int .i64 mode] w fun r w'=>r=.returned (.tuple #[.int .u64 0,.bool false,.int .i64 er])∧Below w.heap.size w w':=by
 obtain ⟨W1,hW1⟩:∃ W,W=(w.alloc (.cells #[.int .i64 dg,.int .i64 ls,.int .u64 (En:Nat)] 110)).alloc (.cells #[.bool n,.slice a la ca,.int .i64 e,.bool m,.slice b lb cb,.int .i64 f] 71):=⟨_,rfl⟩;obtain ⟨hB,Z,QR⟩:=two_boxes w dg ls En n _ e m _ f W1 hW1;obtain ⟨L1,hL1⟩:∃ W,W=W1.alloc (.cells #[.bool n,.slice a la ca,.int .i64 e,.bool m,.slice b lb cb,.int .i64 f] 71):=⟨_,rfl⟩;have hB2:Below W1.heap.size W1 L1:=by rw [hL1];exact below_alloc _ _
 have bel:=hB.trans (hB2.mono hB.size);have LQ:Rq L1 W1.heap.size n (.slice a la ca) e m (.slice b lb cb) f:=by rw [hL1];exact Rq.new _ _ _ _ _ _ _
 have HC:=hid (may1 LQ (hN.below bel) (hD.below bel) be bf o p ho hp er her);have LL:Aside ((ws (dX o)).length≤8192∧(ws (dX p)).length≤8192):=qsd ⟨by rw [←ho];exact mkS_len _ _ _,by rw [←hp];exact mkS_len _ _ _⟩
 obtain ⟨x0,x1,x2,x3,x4,x5⟩:=QR.facts;have S0:=(qsd (ai bel (Z.below hB2)));have d1:decide (mode<0)=false:=decide_eq_false (by omega)
 have d2:decide (4<mode)=false:=decide_eq_false (by omega)
 clear hB hB2 bel LQ Z QR hN hD be bf ho hp her hm0 hm4;go_enter Tryz.func99,Tryz.ntmps99
 go_upto_region 1 with fail
 rw [←hW1];clear hW1
 go_wp2_with fail
 rw [←hL1];clear hL1 x0 x1 x2 x3 x4 x5;refine HC.out.mono ?_;rintro r u1 ⟨⟨v,rfl,hR⟩,hb⟩;have S9:=qsd (S0.out.1.trans (hb.mono S0.out.1.size));have hne':(er != 0)=true:=by simpa using hne
 have hne2:(er==0)=false:=by simpa using hne
 clear hb hR HC S0 LL;go_wp2;exact bodyPost_ret (v:=.tuple #[.int .u64 0,.bool false,.int .i64 er]) (by simp [results,Tryz.results99,go_sem]) rfl ⟨rfl,S9.out⟩
theorem rounded_ok {w:World}{n m:Bool}{a b:Option Addr}{la ca lb cb X Y:Nat}{e f:Int}(dg ls:Int) (En:Nat) (sq:Bool) (mode:Int) (hm0:0≤mode) (hm4:mode≤4) (hN:Al w (.slice a la ca) X) (hD:Al w (.slice b lb cb) Y) (be:-9223372036854775808≤e∧e≤9223372036854775807) (bf:-9223372036854775808≤f∧f≤9223372036854775807)
 (o p:Option (Bool×Nat×Int)) (ho:mkS n X e=o) (hp:mkS m Y f=p) (er:Int) (her:errN X n e Y m f=er) (h0:er=0) (hsq:sq=false∨dN o=false) (K:Nat)
 (HNb:Hid (∀ (u:World) (x y:Option Addr) (lx cx ly cy:Nat),Below w.heap.size w u→Al u (.slice x lx cx) (dX o)→Al u (.slice y ly cy) (dX p)→Calls Tryz.prog 137 #[.agg #[.int .i64 dg,.int .i64 ls,.int .u64 (En:Nat)],.agg #[.bool (dN o),.slice x lx cx,.int .i64 (dE o),.bool (dN p),.slice y ly cy,.int .i64 (dE p)],.bool sq,.int .i64 mode] u fun r w'=>r=.returned (.int .u64 (K:Nat))∧Below u.heap.size u w')) :
 Calls Tryz.prog 99 #[.agg #[.int .i64 dg,.int .i64 ls,.int .u64 (En:Nat)],.agg #[.bool n,.slice a la ca,.int .i64 e,.bool m,.slice b lb cb,.int .i64 f],.bool sq,.int .i64 mode] w fun r w'=>r=.returned (.tuple #[.int .u64 (K:Nat),.bool (dN o),.int .i64 0])∧Below w.heap.size w w':=by
 obtain ⟨W1,hW1⟩:∃ W,W=(w.alloc (.cells #[.int .i64 dg,.int .i64 ls,.int .u64 (En:Nat)] 110)).alloc (.cells #[.bool n,.slice a la ca,.int .i64 e,.bool m,.slice b lb cb,.int .i64 f] 71):=⟨_,rfl⟩;obtain ⟨hB,Z,QR⟩:=two_boxes w dg ls En n _ e m _ f W1 hW1;obtain ⟨L1,hL1⟩:∃ W,W=W1.alloc (.cells #[.bool n,.slice a la ca,.int .i64 e,.bool m,.slice b lb cb,.int .i64 f] 71):=⟨_,rfl⟩;have hB2:Below W1.heap.size W1 L1:=by rw [hL1];exact below_alloc _ _
 have bel:=hB.trans (hB2.mono hB.size);have LQ:Rq L1 W1.heap.size n (.slice a la ca) e m (.slice b lb cb) f:=by rw [hL1];exact Rq.new _ _ _ _ _ _ _
 have HC:=hid (may1 LQ (hN.below bel) (hD.below bel) be bf o p ho hp er her);have LL:Aside ((ws (dX o)).length≤8192∧(ws (dX p)).length≤8192):=qsd ⟨by rw [←ho];exact mkS_len _ _ _,by rw [←hp];exact mkS_len _ _ _⟩
 obtain ⟨x0,x1,x2,x3,x4,x5⟩:=QR.facts;have S0:=(qsd (ai bel (Z.below hB2)));have d1:decide (mode<0)=false:=decide_eq_false (by omega)
 have d2:decide (4<mode)=false:=decide_eq_false (by omega)
 clear hB hB2 bel LQ Z QR hN hD be bf ho hp her hm0 hm4;go_enter Tryz.func99,Tryz.ntmps99
 go_upto_region 1 with fail
 rw [←hW1];clear hW1
 go_wp2_with fail
 rw [←hL1];clear hL1 x0 x1 x2 x3 x4 x5;refine HC.out.mono ?_;rintro r u1 ⟨⟨v,rfl,hR⟩,hb⟩;obtain ⟨x,y,hR1,hx,hy⟩:=hR h0;subst h0;obtain ⟨gg,cap,rfl,hcap,hgg,c0,c1,c2,c3,c4,c5⟩:=hR1.ex;obtain ⟨q1,e1,rfl,-⟩:=hx.shape;obtain ⟨q2,e2,rfl,-⟩:=hy.shape;have S1:=(qsd (ai (S0.out.1.trans (hb.mono S0.out.1.size)) (ai (S0.out.2.below hb) (ai (hx.al' (Nat.le_trans LL.out.1 (by decide))) (ai (hy.al' (Nat.le_trans LL.out.2 (by decide))) (ai hR1 hgg))))))
 clear hb hR HC S0 LL hx hy hR1 hgg;obtain ⟨ng,hng⟩:∃ z,dN o=z:=⟨_,rfl⟩;obtain ⟨z0,z1,z2⟩:=S1.out.2.1.facts;have T1:=hid (HNb.out u1 q1 q2 _ e1 _ e2 S1.out.1 S1.out.2.2.1 S1.out.2.2.2.1);have dr:Below u1.heap.size u1 u1.drew:=(Below.refl _ _).drew;have T2:=hid (HNb.out u1.drew q1 q2 _ e1 _ e2 S1.out.1.drew (S1.out.2.2.1.below dr) (S1.out.2.2.2.1.below dr));have CC:=(qsd (ai c0 (ai c1 (ai c2 (ai c3 (ai c4 (ai c5 (ai z0 (ai z1 z2)))))))));rw [hng] at c0 T1 T2 hsq;have NG:=qsd hng;clear dr HNb hng
 rcases hsq with rfl|rfl
 · go_upto_region 8 with fail
   go_region_held3 (fun w'=>w'.cell? ⟨gg,0,none⟩=some (.bool ng)∧w'.cell? ⟨gg,1,none⟩=some (.slice q1 (ws (dX o)).length e1)∧w'.cell? ⟨gg,2,none⟩=some (.int .i64 (dE o))∧w'.cell? ⟨gg,3,none⟩=some (.bool (dN p))∧w'.cell? ⟨gg,4,none⟩=some (.slice q2 (ws (dX p)).length e2)∧w'.cell? ⟨gg,5,none⟩=some (.int .i64 (dE p))∧w'.cell? ⟨w.heap.size,0,none⟩=some (.int .i64 dg)∧w'.cell? ⟨w.heap.size,1,none⟩=some (.int .i64 ls)∧w'.cell? ⟨w.heap.size,2,none⟩=some (.int .u64 (En:Nat))) (go_keep) (first
    | (go_at_call 137
       first | with_reducible refine T1.out.mono ?_ | with_reducible refine T2.out.mono ?_
       rintro r v1 ⟨rfl,hb⟩;have hw:Below u1.heap.size u1 v1:=by first | exact hb | exact ((Below.refl _ u1).drew).trans (hb.mono (Nat.le_refl _))
       have hcg:∀ i,v1.cell? ⟨gg,i,none⟩=u1.cell? ⟨gg,i,none⟩:=fun i=>hw.cell (p:=⟨gg,i,none⟩) S1.out.2.2.2.2.2
       have k0:v1.cell? ⟨gg,0,none⟩=some (.bool ng):=by rw [hcg,CC.out.1,NG.out]
       have k1:=(hcg 1).trans CC.out.2.1;have k2:=(hcg 2).trans CC.out.2.2.1;have k3:=(hcg 3).trans CC.out.2.2.2.1;have k4:=(hcg 4).trans CC.out.2.2.2.2.1;have k5:=(hcg 5).trans CC.out.2.2.2.2.2.1;obtain ⟨j0,j1,j2⟩:=(S1.out.2.1.below hw).facts;have S9:=qsd (S1.out.1.trans (hw.mono S1.out.1.size));clear hb hw hcg)
    | fail)
   all_goals (
    go_wp2;exact bodyPost_ret (v:=.tuple #[.int .u64 (K:Nat),.bool ng,.int .i64 0]) (by simp [results,Tryz.results99,go_sem]) rfl ⟨by rw [NG.out],S9.out⟩)
 · cases sq
   · go_upto_region 8 with fail
     go_region_held3 (fun w'=>w'.cell? ⟨gg,0,none⟩=some (.bool false)∧w'.cell? ⟨gg,1,none⟩=some (.slice q1 (ws (dX o)).length e1)∧w'.cell? ⟨gg,2,none⟩=some (.int .i64 (dE o))∧w'.cell? ⟨gg,3,none⟩=some (.bool (dN p))∧w'.cell? ⟨gg,4,none⟩=some (.slice q2 (ws (dX p)).length e2)∧w'.cell? ⟨gg,5,none⟩=some (.int .i64 (dE p))∧w'.cell? ⟨w.heap.size,0,none⟩=some (.int .i64 dg)∧w'.cell? ⟨w.heap.size,1,none⟩=some (.int .i64 ls)∧w'.cell? ⟨w.heap.size,2,none⟩=some (.int .u64 (En:Nat))) (go_keep) (first
      | (go_at_call 137
         first | with_reducible refine T1.out.mono ?_ | with_reducible refine T2.out.mono ?_
         rintro r v1 ⟨rfl,hb⟩;have hw:Below u1.heap.size u1 v1:=by first | exact hb | exact ((Below.refl _ u1).drew).trans (hb.mono (Nat.le_refl _))
         have hcg:∀ i,v1.cell? ⟨gg,i,none⟩=u1.cell? ⟨gg,i,none⟩:=fun i=>hw.cell (p:=⟨gg,i,none⟩) S1.out.2.2.2.2.2
         have k0:v1.cell? ⟨gg,0,none⟩=some (.bool false):=by rw [hcg,CC.out.1,NG.out]
         have k1:=(hcg 1).trans CC.out.2.1;have k2:=(hcg 2).trans CC.out.2.2.1;have k3:=(hcg 3).trans CC.out.2.2.2.1;have k4:=(hcg 4).trans CC.out.2.2.2.2.1;have k5:=(hcg 5).trans CC.out.2.2.2.2.2.1;obtain ⟨j0,j1,j2⟩:=(S1.out.2.1.below hw).facts;have S9:=qsd (S1.out.1.trans (hw.mono S1.out.1.size));clear hb hw hcg)
      | fail)
     all_goals (
      go_wp2;exact bodyPost_ret (v:=.tuple #[.int .u64 (K:Nat),.bool false,.int .i64 0]) (by simp [results,Tryz.results99,go_sem]) rfl ⟨by rw [NG.out],S9.out⟩)
   · go_upto_region 8 with fail
     go_region_held3 (fun w'=>w'.cell? ⟨gg,0,none⟩=some (.bool false)∧w'.cell? ⟨gg,1,none⟩=some (.slice q1 (ws (dX o)).length e1)∧w'.cell? ⟨gg,2,none⟩=some (.int .i64 (dE o))∧w'.cell? ⟨gg,3,none⟩=some (.bool (dN p))∧w'.cell? ⟨gg,4,none⟩=some (.slice q2 (ws (dX p)).length e2)∧w'.cell? ⟨gg,5,none⟩=some (.int .i64 (dE p))∧w'.cell? ⟨w.heap.size,0,none⟩=some (.int .i64 dg)∧w'.cell? ⟨w.heap.size,1,none⟩=some (.int .i64 ls)∧w'.cell? ⟨w.heap.size,2,none⟩=some (.int .u64 (En:Nat))) (go_keep) (first
      | (go_at_call 137
         first | with_reducible refine T1.out.mono ?_ | with_reducible refine T2.out.mono ?_
         rintro r v1 ⟨rfl,hb⟩;have hw:Below u1.heap.size u1 v1:=by first | exact hb | exact ((Below.refl _ u1).drew).trans (hb.mono (Nat.le_refl _))
         have hcg:∀ i,v1.cell? ⟨gg,i,none⟩=u1.cell? ⟨gg,i,none⟩:=fun i=>hw.cell (p:=⟨gg,i,none⟩) S1.out.2.2.2.2.2
         have k0:v1.cell? ⟨gg,0,none⟩=some (.bool false):=by rw [hcg,CC.out.1,NG.out]
         have k1:=(hcg 1).trans CC.out.2.1;have k2:=(hcg 2).trans CC.out.2.2.1;have k3:=(hcg 3).trans CC.out.2.2.2.1;have k4:=(hcg 4).trans CC.out.2.2.2.2.1;have k5:=(hcg 5).trans CC.out.2.2.2.2.2.1;obtain ⟨j0,j1,j2⟩:=(S1.out.2.1.below hw).facts;have S9:=qsd (S1.out.1.trans (hw.mono S1.out.1.size));clear hb hw hcg)
      | fail)
     all_goals (
      go_wp2;exact bodyPost_ret (v:=.tuple #[.int .u64 (K:Nat),.bool false,.int .i64 0]) (by simp [results,Tryz.results99,go_sem]) rfl ⟨by rw [NG.out],S9.out⟩)
end
section
open Go.RowKit
theorem rQuot11 {w:World}{n m:Bool}{a b:Option Addr}{la ca lb cb:Nat}{e f:Int}(mode:Int) (k:Nat) (ng:Bool) (er:Int) (hk:k<9223372036854775808) (z:Nat) (hz:k+(if ng then 9223372036854775808 else 0)=z)
 (HR:Hid (∀ u:World,Below w.heap.size w u→Calls Tryz.prog 99 #[.agg #[.int .i64 53,.int .i64 (-1074),.int .u64 9218868437227405312],.agg #[.bool n,.slice a la ca,.int .i64 e,.bool m,.slice b lb cb,.int .i64 f],.bool false,.int .i64 mode] u fun r w'=>r=.returned (.tuple #[.int .u64 (k:Nat),.bool ng,.int .i64 er])∧Below u.heap.size u w')) :
 Calls Tryz.prog 52 #[.agg #[.bool n,.slice a la ca,.int .i64 e,.bool m,.slice b lb cb,.int .i64 f],.int .i64 mode] w fun r w'=>r=.returned (.tuple #[.float .f64 z,.int .i64 er])∧Below w.heap.size w w':=by
 obtain ⟨W1,hW1⟩:∃ W,W=w.alloc (.cells #[.bool n,.slice a la ca,.int .i64 e,.bool m,.slice b lb cb,.int .i64 f] 71):=⟨_,rfl⟩;have hB:Below w.heap.size w W1:=by rw [hW1];exact below_alloc _ _
 have QR0:Rq W1 w.heap.size n (.slice a la ca) e m (.slice b lb cb) f:=by rw [hW1];exact Rq.new _ _ _ _ _ _ _
 obtain ⟨x0,x1,x2,x3,x4,x5⟩:=QR0.facts;have S0:=(qsd (ai hB QR0));have HWd:Hid (∀ u:World,Calls Tryz.prog 100 #[.int .u64 (k:Nat),.bool ng,.int .i64 er] u fun r w'=>r=.returned (.tuple #[.float .f64 z,.int .i64 er])∧w'=u):=hid fun u=>by have h:=wide64_any k hk ng er u;rw [hz] at h;exact h
 clear hB QR0 hk hz;go_enter Tryz.func52,Tryz.ntmps52
 go_upto_region 1 with fail
 rw [←hW1];clear hW1;have T1:=hid (of64_any W1);have T2:=hid (of64_any W1.drew)
 go_region_held3 (fun w'=>w'.cell? ⟨w.heap.size,0,none⟩=some (.bool n)∧w'.cell? ⟨w.heap.size,1,none⟩=some (.slice a la ca)∧w'.cell? ⟨w.heap.size,2,none⟩=some (.int .i64 e)∧w'.cell? ⟨w.heap.size,3,none⟩=some (.bool m)∧w'.cell? ⟨w.heap.size,4,none⟩=some (.slice b lb cb)∧w'.cell? ⟨w.heap.size,5,none⟩=some (.int .i64 f)) (go_keep) (first
  | (go_at_call 90
     first | with_reducible refine T1.out.mono ?_ | with_reducible refine T2.out.mono ?_
     rintro r v1 ⟨rfl,hb⟩;have hw:Below W1.heap.size W1 v1:=by first | exact hb | exact ((Below.refl _ W1).drew).trans (hb.mono (Nat.le_refl _))
     obtain ⟨m0,m1,m2,m3,m4,m5⟩:=(S0.out.2.below hw).facts;have T3:=hid (HR.out v1 (S0.out.1.trans (hw.mono S0.out.1.size)));have S4:=(qsd (ai (S0.out.1.trans (hw.mono S0.out.1.size)) (S0.out.2.below hw)));clear hb hw)
  | (go_at_call 99
     with_reducible refine T3.out.mono ?_
     rintro r v2 ⟨rfl,hb⟩;obtain ⟨k0,k1,k2,k3,k4,k5⟩:=(S4.out.2.below hb).facts;have S5:=qsd (S4.out.1.trans (hb.mono S4.out.1.size));clear hb))
 all_goals (
  go_wp2_with fail
  refine (HWd.out _).mono ?_;rintro r v3 ⟨rfl,rfl⟩;go_wp2;exact bodyPost_ret (v:=.tuple #[.float .f64 z,.int .i64 er]) (by simp [results,Tryz.results52,go_sem]) rfl ⟨rfl,S5.out⟩)
end
section
open Go.RowKit
theorem lies_nought {v:Nat→Nat}{top n S:Nat}(G:Grid v top) (hn:n≠0) (hS:0<S):LiesG v top n 0 true 0 0 S :=
 ⟨by have:=G.one;omega,hS,fun _=>by rw [G.zero,Nat.zero_pow (by omega),Nat.zero_mul],(fun h=>by cases h),(fun h=>by cases h),(fun h=>by cases h)⟩
theorem rV_zero (e f:Int) (u n:Nat):rV11 0 e f u n=0:=by unfold rV11;rw [Nat.zero_mul]
theorem rS_pos {Y:Nat}(h:Y≠0) (e f:Int) (u n:Nat):0<rS11 Y e f u n:=by unfold rS11;exact Nat.mul_pos (by omega) (Nat.two_pow_pos _)
theorem errN_zero {X:Nat}{n:Bool}{e:Int}{Y:Nat}{m:Bool}{f:Int}(h:errN X n e Y m f=0):(mkS n X e).isSome=true∧(mkS m Y f).isSome=true∧dX (mkS m Y f)≠0:=by
 unfold errN at h
 split at h
 · cases h
 · split at h
   · rename_i h2
     rw [Bool.and_eq_true] at h2
     split at h
     · cases h
     · rename_i h3;exact ⟨h2.1,h2.2,h3⟩
   · cases h
theorem docQuot {w:World}{n m:Bool}{a b:Option Addr}{la ca lb cb X Y:Nat}{e f:Int}(mode:Int) (hN:Al w (.slice a la ca) X) (hD:Al w (.slice b lb cb) Y) (be:-9223372036854775808≤e∧e≤9223372036854775807) (bf:-9223372036854775808≤f∧f≤9223372036854775807) :
 Calls Tryz.prog 52 #[.agg #[.bool n,.slice a la ca,.int .i64 e,.bool m,.slice b lb cb,.int .i64 f],.int .i64 mode] w fun r w'=>r=.returned (.tuple #[.float .f64 (quoR rndS ⟨n,.slice a la ca,X,e,m,.slice b lb cb,Y,f⟩ mode).1,.int .i64 (quoR rndS ⟨n,.slice a la ca,X,e,m,.slice b lb cb,Y,f⟩ mode).2])∧Below w.heap.size w w':=by
 by_cases hm:mode<0∨4<mode
 · have e1:quoR rndS ⟨n,.slice a la ca,X,e,m,.slice b lb cb,Y,f⟩ mode=(0,1):=by unfold quoR;rw [if_pos hm]
   rw [e1];exact rQuot11 mode 0 false 1 (by omega) 0 rfl (hid fun u hu=>rounded_mode (X:=X) (Y:=Y) _ _ _ _ mode hm)
 · have hm0:0≤mode:=by omega
   have hm4:mode≤4:=by omega
   have el:=errL_one ⟨n,.slice a la ca,X,e,m,.slice b lb cb,Y,f⟩
   by_cases h0:errN X n e Y m f=0
   · obtain ⟨s1,s2,hY⟩:=errN_zero h0
     have F1:=frm_of s1;have F2:=frm_of s2;have ez:errL (oneI ⟨n,.slice a la ca,X,e,m,.slice b lb cb,Y,f⟩) 1=0:=el.trans h0
     obtain ⟨K,t,mm,L,hq⟩:∃ K t mm,LiesG vK 9218868437227405312 1 K t mm (rV11 (dX (mkS n X e)) (dE (mkS n X e)) (dE (mkS m Y f)) 1074 1) (rS11 (dX (mkS m Y f)) (dE (mkS n X e)) (dE (mkS m Y f)) 1074 1)∧rndS (quoZ (dN (mkS n X e)) (dX (mkS n X e)) (dE (mkS n X e)) (dX (mkS m Y f)) (dE (mkS m Y f))) mode=((if t then K else if outS mode K mm (dN (mkS n X e)) then K+1 else K)+(if (dN (mkS n X e)) then 9223372036854775808 else 0),0):=by
      rcases F1.odd with h|⟨h1,h2,h3⟩
      · obtain ⟨K,t,mm,L,hq⟩:=quo64 (dN (mkS n X e)) (dX (mkS n X e)) (dE (mkS n X e)) (dX (mkS m Y f)) (dE (mkS m Y f)) h hY F1.size F2.size
        exact ⟨K,t,mm,L,by have q:=hq mode hm0 hm4;rw [q];rfl⟩
      · refine ⟨0,true,0,?_,?_⟩
        · rw [h1,rV_zero];exact lies_nought grid64 (by omega) (rS_pos hY _ _ _ _)
        · rw [h1,quoZ_nought _ _ _ _ hY F2.size]
          unfold rndS;rw [if_neg (by omega)]
          simp [h2]
     have hfin:=L.fin
     have e1:quoR rndS ⟨n,.slice a la ca,X,e,m,.slice b lb cb,Y,f⟩ mode=((if t then K else if outS mode K mm (dN (mkS n X e)) then K+1 else K)+(if dN (mkS n X e) then 9223372036854775808 else 0),0):=by
      unfold quoR;simp only;rw [if_neg hm,if_pos ez];exact hq
     rw [e1];refine rQuot11 mode _ (dN (mkS n X e)) 0 (by split;omega;split <;> omega) _ rfl (hid fun u hu=>?_)
     refine rounded_ok _ _ _ _ mode hm0 hm4 (hN.below hu) (hD.below hu) be bf _ _ rfl rfl _ h0 rfl (.inl rfl) _ (hid fun x p q lx cx ly cy hx A1 A2=>?_)
     exact nearbyG wd64_is A1 A2 ⟨F1.down,F1.up⟩ ⟨F2.down,F2.up⟩ F2.size (.inl rfl) L false rfl mode hm0 hm4
   · have ez:errL (oneI ⟨n,.slice a la ca,X,e,m,.slice b lb cb,Y,f⟩) 1=errN X n e Y m f:=el
     have e1:quoR rndS ⟨n,.slice a la ca,X,e,m,.slice b lb cb,Y,f⟩ mode=(0,errN X n e Y m f):=by unfold quoR;rw [if_neg hm,if_neg (by rw [ez];exact h0),ez]
     rw [e1];exact rQuot11 mode 0 false _ (by omega) 0 rfl (hid fun u hu=>rounded_err _ _ _ _ mode hm0 hm4 (hN.below hu) (hD.below hu) be bf _ _ rfl rfl _ rfl h0)
end
section
open Go.RowKit J
theorem fo_iv (V:Int) (m:Nat) (hm:m≤100000) (hV:V.natAbs<2^m):Iv (fo8 V) (-1074) ((m:Int)-1074):=by
 unfold fo8;refine mkS_iv _ _ _ _ _ (.inr ⟨by omega,?_⟩) (by omega) (by omega) (by omega)
 have:=bl_lt_pow hV;omega
theorem fo_fm (V:Int) (m:Nat) (hm:m≤100000) (hV:V.natAbs<2^m):Fm (fo8 V):=(fo_iv V m hm hV).fm
end
section
open Go.RowKit J
theorem YX (k:Nat) (hk:k=1074):YY=2^k*XX:=by
 rw [Y_eq,X_eq,←Nat.pow_add,show k+EX=EY by rw [hk];decide]
end
section
open Go.ChangeShapes Go.WideShapes Go.ChangeAt Go.RowKit
theorem trodF {H:Type}{enc:TypeId×Value→H}{P:Program}{w:World}{base:Nat}{spare:Nat→Bool}{held:Bool}{fuel:Nat}{t:TypeId}{cs:List Value}{x:DataW H×List MemPlace}{k:FloatKind}(ht:P.underlying t=some (.float k)) (h:DataW.trod enc P w base spare held fuel t cs=some x):∃ n,cs=[.float k n]∧x=(.lit (.float k n),[])∧(Lit.float k n).wf=true:=by
 cases fuel with
 | zero=>simp [DataW.trod] at h
 | succ m =>
   simp only [DataW.trod,ht] at h
   split at h <;> simp_all
structure CameF (w:World) (a:Option Addr) (n c:Nat) (xs:List Nat):Prop where
 len:n=xs.length
 cap:n≤c
 wf:W64 xs
 rd:Fs w.heap.size w a xs
 nil:a=none→c=0
theorem add_noneF (b off i:Nat):(⟨b,off,none⟩:Addr).add i=⟨b,off+i,none⟩:=by unfold Addr.add;split <;> simp_all
def numF {H:Type} (y:DataW H×List MemPlace):Nat:=match y.1 with | .lit (.float _ n)=>n | _=>0
theorem Tryz.cellsF:Tryz.prog.cellsOf 24=1:=by kernel_rfl
theorem Tryz.bytesF:Tryz.prog.bytesOf 24=8:=by kernel_rfl
theorem cameF_of {H:Type}{enc:TypeId×Value→H}{W:World}{a:Option Addr}{n c:Nat}{d:DataW H}{p:List MemPlace}(h:DataW.Trod enc Tryz.prog W 0 (fun _=>true) true 23 (.slice a n c) d p) :
 ∃ xs,CameF W a n c xs∧((d=.nil∧c=0)∨∃ elems spare:List (DataW H),d=.slice elems spare∧elems.length+spare.length=c):=by
 obtain ⟨fuel,hf⟩:=h
 rcases DataW.trod_slice Tryz.underlying23 hf with ⟨hcs,hx⟩|⟨x,l,cp,elems,rest,m,_,hcs,hx,hb,hl,hm,hlen,hel,hsp,hns⟩
 · simp [Value.cells] at hcs
   obtain ⟨rfl,rfl,rfl⟩:=hcs;exact ⟨[],⟨rfl,Nat.le_refl _,(fun x hx=>by cases hx),(fun h=>absurd rfl h),fun _=>rfl⟩,.inl ⟨(Prod.mk.inj hx).1,rfl⟩⟩
 · simp [Value.cells] at hcs
   obtain ⟨rfl,rfl,rfl⟩:=hcs
   have each:∀ i y,i<n→elems[i]?=some y→y=(.lit (.float .f64 (numF y)),[])∧(Lit.float .f64 (numF y)).wf=true∧W.cell? (x.add i)=some (.float .f64 (numF y)):=by
    intro i y hi hy;have hb':=hel i hi;rw [hy,Tryz.cellsF,Nat.mul_one,Option.bind_eq_some_iff] at hb';obtain ⟨cs',hcs,hy'⟩:=hb';obtain ⟨k,rfl,rfl,hw⟩:=trodF Tryz.underlying24 hy';exact ⟨rfl,hw,cell_of_cells?_one hcs⟩
   refine ⟨elems.map numF,⟨by simp [hlen],hl,?_,?_,fun e=>by cases e⟩,.inr ⟨_,_,(Prod.mk.inj hx).1,?_⟩⟩
   · intro y hy
     obtain ⟨z,hz,rfl⟩:=List.mem_map.1 hy;obtain ⟨i,hi⟩:=List.getElem?_of_mem hz;have hil:=(List.getElem?_eq_some_iff.1 hi).1;have:=(each i z (by omega) hi).2.1
     exact of_decide_eq_true this
   · intro hne
     obtain ⟨b,off,spot⟩:=x
     have hn0:0<n:=by
      rcases Nat.eq_zero_or_pos n with h0|h0
      · rw [h0] at hlen;have:=List.eq_nil_of_length_eq_zero hlen;subst this;simp at hne
      · exact h0
     have hc0:=(each 0 (elems[0]'(by omega)) hn0 (List.getElem?_eq_getElem _)).2.2
     have hspot:spot=none:=by simpa [Addr.add] using World.cell?_spot hc0
     subst hspot;refine ⟨b,off,World.block_lt_of_cell? W _ (by simpa [Addr.add] using hc0),rfl,fun i hi=>?_⟩
     rw [List.length_map] at hi;have hadd:=add_noneF b off i;have:=(each i (elems[i]'hi) (by omega) (List.getElem?_eq_getElem _)).2.2
     rw [hadd] at this;rw [this];simp [List.getD_eq_getElem?_getD,hi]
   · have hr:=(hsp rfl).1
     simp only [List.length_map];omega
theorem cameF_reach {H:Type}{ts:List TypeId}{ds:List (DataW H)}(h:(DataW.weightsEach Tryz.prog ts ds).all (·≤reachBytes)=true) {j:Nat}{d:DataW H}{c n:Nat}(ht:ts[j]?=some 23) (hd:ds[j]?=some d) (hn:n≤c)
 (hc:(d=.nil∧c=0)∨∃ elems spare:List (DataW H),d=.slice elems spare∧elems.length+spare.length=c):n≤17592186043904:=by
 rcases hc with ⟨_,rfl⟩|⟨elems,spare,rfl,hl⟩
 · omega
 · have:=sized_slice h ht hd Tryz.underlying23
   rw [Tryz.bytesF,hl] at this;simp only [reachBytes] at this;omega
end
section
open Go.RowKit J
theorem kd_cases {x:Nat}(hx:x<18446744073709551616):(9218868437227405312<magW x∧kd x=5)∨(magW x=9218868437227405312∧negW x=true∧kd x=4)∨(magW x=9218868437227405312∧negW x=false∧kd x=3)∨(magW x<9218868437227405312∧kd x≤2):=by
 have e:magW x=x%9223372036854775808:=rfl;have e2:negW x=decide (9223372036854775808≤x):=rfl;rw [e,e2];unfold kd
 by_cases h1:9218868437227405312<x%9223372036854775808
 · exact .inl ⟨h1,if_pos h1⟩
 · rw [if_neg h1]
   by_cases h2:x%9223372036854775808=9218868437227405312
   · rw [if_pos h2]
     by_cases h3:x/9223372036854775808=1
     · exact .inr (.inl ⟨h2,decide_eq_true (by omega),if_pos h3⟩)
     · exact .inr (.inr (.inl ⟨h2,decide_eq_false (by omega),if_neg h3⟩))
   · rw [if_neg h2]
     refine .inr (.inr (.inr ⟨by omega,?_⟩))
     repeat' split
     all_goals omega
end
section
open Go.RowKit J
attribute [local go_sem] st_float
theorem cls_kd {x:Nat}(hx:x<18446744073709551616):(kd x=5∧clW x=4)∨((kd x=3∨kd x=4)∧clW x=3∧ngW x=negW x)∨((kd x=1∨kd x=2)∧clW x=0∧ngW x=negW x∧finW x∧fvW x=0)∨(kd x=0∧(clW x=1∨clW x=2)∧ngW x=negW x∧finW x):=by
 rcases kd_cases hx with ⟨a1,a2⟩|⟨a1,a2,a3⟩|⟨a1,a2,a3⟩|⟨a1,a2⟩
 · exact .inl ⟨a2,cl_nan a1⟩
 · exact .inr (.inl ⟨.inr a3,(cl_inf a1).1,(cl_inf a1).2⟩)
 · exact .inr (.inl ⟨.inl a3,(cl_inf a1).1,(cl_inf a1).2⟩)
 · have fx:finW x:=a1
   obtain ⟨p1,p2,p3,p4⟩:=fin_parts hx fx
   by_cases h0:magW x=0
   · have hk:kd x=1∨kd x=2:=by
      have e:x%9223372036854775808=0:=h0;unfold kd;rw [if_neg (by omega),if_neg (by omega),if_pos e]
      split
      · exact .inl rfl
      · exact .inr rfl
     rw [h0,vK_zero] at p2
     have hfr:frW x=0:=by
      rcases Nat.mul_eq_zero.1 p2.symm with q|q
      · exact q
      · have:=Nat.two_pow_pos (xpW x+1074).toNat;omega
     refine .inr (.inr (.inl ⟨hk,?_,p1,fx,?_⟩))
     · rcases p4 with q | q
       · exact q.1
       · exact absurd hfr q.2
     · unfold fvW
       rw [h0,vK_zero]
       cases negW x <;> rfl
   · have hk:kd x=0:=by
      have e:¬ x%9223372036854775808=0:=h0;have e2:x%9223372036854775808<9218868437227405312:=a1;unfold kd;rw [if_neg (by omega),if_neg (by omega),if_neg e]
     refine .inr (.inr (.inr ⟨hk,?_,p1,fx⟩))
     rcases p4 with q|q
     · exfalso
       rw [q.2,Nat.zero_mul] at p2;have:=(vK_lt (K:=0) (L:=magW x)).2 (by omega)
       omega
     · exact q.1
theorem oZ_zero {x:Nat}(h:finW x) (h0:fvW x=0):oZ x=o00:=by
 rw [oZ_fin h];unfold oW;rw [h0];exact mkS_zero _ _
end
section
open Go.RowKit J
attribute [local go_sem] st_float
def nz7 (j:Nat):Bool:=((j:Int)==1) || ((j:Int)==2)
def en7 (j:Nat):Bool:=((j:Int)==3) || ((j:Int)==4)
def na7 (x y:Nat):Bool:=((kd x:Int)==5) || ((kd y:Int)==5) || ((nz7 (kd x) || nz7 (kd y))&&(en7 (kd x) || en7 (kd y)))
theorem prod7 {x y:Nat}(hx:x<18446744073709551616) (hy:y<18446744073709551616) :
 (na7 x y=true→pK x y=1∧pT x y=0)∧(na7 x y=false→(en7 (kd x) || en7 (kd y))=true→(magW x≤9218868437227405312∧magW y≤9218868437227405312)∧pK x y=(if (negW x != negW y) then 3 else 2)∧pT x y=0) ∧
 (na7 x y=false→(en7 (kd x) || en7 (kd y))=false→(nz7 (kd x) || nz7 (kd y))=true→(magW x≤9218868437227405312∧magW y≤9218868437227405312)∧pK x y=(if (negW x != negW y) then 4 else 5)∧pT x y=0) ∧
 (na7 x y=false→(en7 (kd x) || en7 (kd y))=false→(nz7 (kd x) || nz7 (kd y))=false→finW x∧finW y∧pK x y=0):=by
 have hng:∀ a b:Bool,(!a==b)=(a != b):=by decide
 have inf:∀ z:Nat,clW z=3→magW z≤9218868437227405312:=fun z h=>by
  rcases Nat.lt_or_ge 9218868437227405312 (magW z) with q|q
  · rw [cl_nan q] at h;omega
  · exact q
 have tz:pK x y≠0→pT x y=0:=fun h=>by unfold pT;unfold pK at h;exact pv7_no h
 unfold na7
 rcases cls_kd hx with ⟨k,c⟩|⟨k,c,n⟩|⟨k,c,n,f,v⟩|⟨k,c,n,f⟩
 · have e:pK x y=1:=by
    unfold pK pk;rw [c,if_pos (.inl (by have:=cl_range y;omega))]
   rw [k];refine ⟨fun _=>⟨e,tz (by omega)⟩,(fun h=>by simp at h),(fun h=>by simp at h),(fun h=>by simp at h)⟩
 · rcases cls_kd hy with ⟨k',c'⟩ | ⟨k',c',n'⟩ | ⟨k',c',n',f',v'⟩ | ⟨k',c',n',f'⟩
   · have e:pK x y=1:=by unfold pK pk;rw [c,c',if_pos (.inl (by omega))]
     rw [k'];refine ⟨fun _=>⟨e,tz (by omega)⟩,(fun h=>by simp at h),(fun h=>by simp at h),(fun h=>by simp at h)⟩
   · have e:pK x y=(if (negW x != negW y) then 3 else 2):=by unfold pK pk;rw [c,c',n,n',hng,if_neg (by omega),if_pos (by omega)]
     have e0:pK x y≠0:=by rw [e];split <;> omega
     refine ⟨fun h=>?_,fun _ _=>⟨⟨inf x c,inf y c'⟩,e,tz e0⟩,fun _ h=>?_,fun _ h=>?_⟩
     · exfalso;rcases k with k | k <;> rcases k' with k' | k' <;> rw [k,k'] at h <;> simp [nz7,en7] at h
     · exfalso;rcases k with k | k <;> rw [k] at h <;> simp [en7] at h
     · exfalso;rcases k with k | k <;> rw [k] at h <;> simp [en7] at h
   · have e:pK x y=1:=by unfold pK pk;rw [c,c',if_pos (.inr (by omega))]
     refine ⟨fun _=>⟨e,tz (by omega)⟩,fun h=>?_,fun h=>?_,fun h=>?_⟩
     all_goals exfalso;rcases k with k | k <;> rcases k' with k' | k' <;> rw [k,k'] at h <;> simp [nz7,en7] at h
   · have e:pK x y=(if (negW x != negW y) then 3 else 2):=by unfold pK pk;rw [c,n,n',hng,if_neg (by omega),if_pos (by omega)]
     have e0:pK x y≠0:=by rw [e];split <;> omega
     have hyf:magW y≤9218868437227405312:=Nat.le_of_lt f';refine ⟨fun h=>?_,fun _ _=>⟨⟨inf x c,hyf⟩,e,tz e0⟩,fun _ h=>?_,fun _ h=>?_⟩
     · exfalso;rcases k with k | k <;> rw [k,k'] at h <;> simp [nz7,en7] at h
     · exfalso;rcases k with k | k <;> rw [k] at h <;> simp [en7] at h
     · exfalso;rcases k with k | k <;> rw [k] at h <;> simp [en7] at h
 · have hxf:magW x≤9218868437227405312:=Nat.le_of_lt f
   rcases cls_kd hy with ⟨k',c'⟩|⟨k',c',n'⟩|⟨k',c',n',f',v'⟩|⟨k',c',n',f'⟩
   · have e:pK x y=1:=by unfold pK pk;rw [c,c',if_pos (.inl (by omega))]
     rw [k'];refine ⟨fun _=>⟨e,tz (by omega)⟩,(fun h=>by simp at h),(fun h=>by simp at h),(fun h=>by simp at h)⟩
   · have e:pK x y=1:=by unfold pK pk;rw [c,c',if_pos (.inr (by omega))]
     refine ⟨fun _=>⟨e,tz (by omega)⟩,fun h=>?_,fun h=>?_,fun h=>?_⟩
     all_goals exfalso;rcases k with k | k <;> rcases k' with k' | k' <;> rw [k,k'] at h <;> simp [nz7,en7] at h
   · have e:pK x y=(if (negW x != negW y) then 4 else 5):=by unfold pK pk;rw [c,c',n,n',hng,if_neg (by omega),if_neg (by omega),if_pos (by omega)]
     have e0:pK x y≠0:=by rw [e];split <;> omega
     have hyf:magW y≤9218868437227405312:=Nat.le_of_lt f';refine ⟨fun h=>?_,fun _ h=>?_,fun _ _ _=>⟨⟨hxf,hyf⟩,e,tz e0⟩,fun _ _ h=>?_⟩
     · exfalso;rcases k with k | k <;> rcases k' with k' | k' <;> rw [k,k'] at h <;> simp [nz7,en7] at h
     · exfalso;rcases k with k | k <;> rcases k' with k' | k' <;> rw [k,k'] at h <;> simp [en7] at h
     · exfalso;rcases k with k | k <;> rw [k] at h <;> simp [nz7] at h
   · have e:pK x y=(if (negW x != negW y) then 4 else 5):=by unfold pK pk;rw [c,n,n',hng,if_neg (by omega),if_neg (by omega),if_pos (by omega)]
     have e0:pK x y≠0:=by rw [e];split <;> omega
     have hyf:magW y≤9218868437227405312:=Nat.le_of_lt f';refine ⟨fun h=>?_,fun _ h=>?_,fun _ _ _=>⟨⟨hxf,hyf⟩,e,tz e0⟩,fun _ _ h=>?_⟩
     · exfalso;rcases k with k | k <;> rw [k,k'] at h <;> simp [nz7,en7] at h
     · exfalso;rcases k with k | k <;> rw [k,k'] at h <;> simp [en7] at h
     · exfalso;rcases k with k | k <;> rw [k] at h <;> simp [nz7] at h
 · have hxf:magW x≤9218868437227405312:=Nat.le_of_lt f
   rcases cls_kd hy with ⟨k',c'⟩|⟨k',c',n'⟩|⟨k',c',n',f',v'⟩|⟨k',c',n',f'⟩
   · have e:pK x y=1:=by unfold pK pk;rw [c',if_pos (.inl (by omega))]
     rw [k'];refine ⟨fun _=>⟨e,tz (by omega)⟩,(fun h=>by simp at h),(fun h=>by simp at h),(fun h=>by simp at h)⟩
   · have e:pK x y=(if (negW x != negW y) then 3 else 2):=by unfold pK pk;rw [c',n,n',hng,if_neg (by omega),if_pos (by omega)]
     have e0:pK x y≠0:=by rw [e];split <;> omega
     refine ⟨fun h=>?_,fun _ _=>⟨⟨hxf,inf y c'⟩,e,tz e0⟩,fun _ h=>?_,fun _ h=>?_⟩
     · exfalso;rcases k' with k' | k' <;> rw [k,k'] at h <;> simp [nz7,en7] at h
     · exfalso;rcases k' with k' | k' <;> rw [k'] at h <;> simp [en7] at h
     · exfalso;rcases k' with k' | k' <;> rw [k'] at h <;> simp [en7] at h
   · have e:pK x y=(if (negW x != negW y) then 4 else 5):=by unfold pK pk;rw [c',n,n',hng,if_neg (by omega),if_neg (by omega),if_pos (by omega)]
     have e0:pK x y≠0:=by rw [e];split <;> omega
     have hyf:magW y≤9218868437227405312:=Nat.le_of_lt f';refine ⟨fun h=>?_,fun _ h=>?_,fun _ _ _=>⟨⟨hxf,hyf⟩,e,tz e0⟩,fun _ _ h=>?_⟩
     · exfalso;rcases k' with k' | k' <;> rw [k,k'] at h <;> simp [nz7,en7] at h
     · exfalso;rcases k' with k' | k' <;> rw [k,k'] at h <;> simp [en7] at h
     · exfalso;rcases k' with k' | k' <;> rw [k'] at h <;> simp [nz7] at h
   · have e:pK x y=0:=by unfold pK pk;rw [if_neg (by omega),if_neg (by omega),if_neg (by omega)]
     refine ⟨fun h=>?_,fun _ h=>?_,fun _ _ h=>?_,fun _ _ _=>⟨f,f',e⟩⟩
     all_goals exfalso;rw [k,k'] at h;simp [nz7,en7] at h
end
section
open Go.RowKit J
attribute [local go_sem] st_float
theorem kd_neg {x:Nat}(hx:x<18446744073709551616):(kd x=4→negW x=true)∧(kd x=3→negW x=false)∧(kd x=1→negW x=true)∧(kd x=2→negW x=false):=by
 have e2:negW x=decide (9223372036854775808≤x):=rfl;rw [e2];unfold kd
 by_cases h1:9218868437227405312<x%9223372036854775808
 · rw [if_pos h1];omega
 · rw [if_neg h1]
   by_cases h2:x%9223372036854775808=9218868437227405312
   · rw [if_pos h2]
     by_cases h3:x/9223372036854775808=1
     · rw [if_pos h3]
       exact ⟨fun _=>decide_eq_true (by omega),(fun h=>by omega),(fun h=>by omega),(fun h=>by omega)⟩
     · rw [if_neg h3]
       exact ⟨(fun h=>by omega),fun _=>decide_eq_false (by omega),(fun h=>by omega),(fun h=>by omega)⟩
   · rw [if_neg h2]
     by_cases h4:x%9223372036854775808=0
     · rw [if_pos h4]
       by_cases h3:x/9223372036854775808=1
       · rw [if_pos h3]
         exact ⟨(fun h=>by omega),(fun h=>by omega),fun _=>decide_eq_true (by omega),(fun h=>by omega)⟩
       · rw [if_neg h3]
         exact ⟨(fun h=>by omega),(fun h=>by omega),(fun h=>by omega),fun _=>decide_eq_false (by omega)⟩
     · rw [if_neg h4];omega
theorem ex_fo {V:Int}(m:Nat) (hm:m≤10000) (hV:V.natAbs<2^m) (k:Nat) (hk:k=1074):exV (V*((2^k:Nat):Int))=fo8 V:=by
 have hb:(V*((2^k:Nat):Int)).natAbs<2^(m+k):=by
  rw [Int.natAbs_mul,Int.natAbs_natCast,Nat.pow_add];exact Nat.mul_lt_mul_of_pos_right hV (Nat.two_pow_pos k)
 have F:=ex_fm _ (m+k) (by omega) hb
 have G:=fo_fm V m (by omega) hV
 refine valO_inj F G ?_;rw [val_ex F,val_fo G,YX k hk,Int.natCast_mul,Int.mul_assoc]
theorem one7 {x:Nat}(hx:x<18446744073709551616):kOf (kd x)=pK x 4607182418800017408∧oZ x=exV (pT x 4607182418800017408)∧kd x≤5:=by
 have h1:(4607182418800017408:Nat)<18446744073709551616:=by decide
 have k1:kd 4607182418800017408=0:=by decide +kernel
 have n1:negW 4607182418800017408=false:=by decide +kernel
 obtain ⟨p1,p2,p3,p4⟩:=prod7 hx h1;obtain ⟨q4,q3,q1,q2⟩:=kd_neg hx;unfold na7 at p1 p2 p3 p4;rw [k1,n1] at *;refine ⟨?_,?_,kd_le12 x⟩
 · rcases cls_kd hx with ⟨k,c⟩ | ⟨k,c,n⟩ | ⟨k,c,n,f,v⟩ | ⟨k,c,n,f⟩
   · rw [(p1 (by rw [k];rfl)).1,k];rfl
   · rcases k with k | k
     · rw [(p2 (by rw [k];rfl) (by rw [k];rfl)).2.1,q3 k,k];rfl
     · rw [(p2 (by rw [k];rfl) (by rw [k];rfl)).2.1,q4 k,k];rfl
   · rcases k with k | k
     · rw [(p3 (by rw [k];rfl) (by rw [k];rfl) (by rw [k];rfl)).2.1,q1 k,k];rfl
     · rw [(p3 (by rw [k];rfl) (by rw [k];rfl) (by rw [k];rfl)).2.1,q2 k,k];rfl
   · rw [(p4 (by rw [k];rfl) (by rw [k];rfl) (by rw [k];rfl)).2.2,k];rfl
 · rcases cls_kd hx with ⟨k,c⟩ | ⟨k,c,n⟩ | ⟨k,c,n,f,v⟩ | ⟨k,c,n,f⟩
   · rw [(p1 (by rw [k];rfl)).2,ex_zero]
     exact oZ_odd (by intro f;rcases (fin_parts hx f).2.2.2 with q | q <;> omega)
   · have e:pT x 4607182418800017408=0:=by
      rcases k with k|k
      · exact (p2 (by rw [k];rfl) (by rw [k];rfl)).2.2
      · exact (p2 (by rw [k];rfl) (by rw [k];rfl)).2.2
     rw [e,ex_zero];exact oZ_odd (by intro f;rcases (fin_parts hx f).2.2.2 with q | q <;> omega)
   · have e:pT x 4607182418800017408=0:=by
      rcases k with k|k
      · exact (p3 (by rw [k];rfl) (by rw [k];rfl) (by rw [k];rfl)).2.2
      · exact (p3 (by rw [k];rfl) (by rw [k];rfl) (by rw [k];rfl)).2.2
     rw [e,ex_zero];exact oZ_zero f v
   · obtain ⟨z,hz⟩:∃ z,z=2098:=⟨_,rfl⟩
     obtain ⟨i,hi⟩:∃ i,i=1074:=⟨_,rfl⟩;have fo:finW 4607182418800017408:=by decide
     rw [(pT_mul hx h1 f fo).1,f1 i hi,Nat.one_mul,ex_fo z (by omega) (top_fv hx f z hz) i hi,oZ_fin f]
     rfl
end
section
open Go.RowKit J
attribute [local go_sem] st_float
theorem Fm.al13 {w:World}{p:Option Addr}{c:Nat}{o:Option (Bool×Nat×Int)}(F:Fm o) (N:Nt 0 w (.slice p (ws (dX o)).length c) (dX o)):Al w (.slice p (ws (dX o)).length c) (dX o):=⟨p,_,c,ws (dX o),rfl,F.a12 N,val_ws _,Nat.le_trans F.len (by decide)⟩
theorem no13 (e:Int) (w:World):Calls Tryz.prog 35 #[.int .i64 e] w fun r w'=>r=.returned (.tuple #[.float .f64 0,.int .i64 e])∧w'=w:=by
 have H:=hid (rOf10z w);go_enter Tryz.func35,Tryz.ntmps35
 go_wp2_with fail
 refine H.out.mono ?_;rintro r v ⟨rfl,hv⟩;rw [hv];clear hv v H;go_wp2;exact bodyPost_ret (v:=.tuple #[.float .f64 0,.int .i64 e]) (by simp [results,Tryz.results35,go_sem]) rfl ⟨rfl,rfl⟩
theorem cls_fin {x:Nat}(hx:x<18446744073709551616):(finW x→clW x≤2)∧(¬ finW x→2<clW x):=by
 constructor
 · intro fx
   rcases (fin_parts hx fx).2.2.2 with q|q <;> omega
 · intro nx
   rcases Nat.lt_trichotomy 9218868437227405312 (magW x) with h|h|h
   · rw [cl_nan h];decide
   · rw [(cl_inf h.symm).1];decide
   · exact absurd h nx
theorem rClass13 {x:Nat}(hx:x<18446744073709551616) (w:World):Calls Tryz.prog 89 #[.float .f64 x] w fun r w'=>r=.returned (.int .i64 (clW x))∧Below w.heap.size w w':=by
 obtain ⟨h1,h2,h3⟩:=bw_parts x hx;have:=B.rClass_any (sW x) (eW x) (fW x) h2 h3 w;rw [←h1] at this;exact this
theorem rFinite13 (xs:List Nat) (a:Option Addr) (n c:Nat) (w:World) (hn:n=xs.length) (hF:Fs w.heap.size w a xs) (hW:W64 xs) (hl:n≤35184372088832) (t:Bool) (ht:t=true↔∀ x ∈ xs,finW x) :
 Calls Tryz.prog 47 #[.slice a n c] w fun r w'=>r=.returned (.bool t)∧Below w.heap.size w w':=by
 have HX:=(qsd (ai hn (ai hF (ai hW ht))));clear hn hF hW ht;go_enter Tryz.func47,Tryz.ntmps47;go_wp2
 go_loopg [3] n (fun gk i wr=>∃ k:Nat,gk+k=n∧i=.int .i64 (k:Nat)∧Aside (Below w.heap.size w wr∧∀ j,j<k→finW (xs.getD j 0)))
 case atStart=>exact ⟨0,by omega,by simp,Below.refl _ _,fun j hj=>absurd hj (by omega)⟩
 case round =>
  obtain ⟨k,hgk,rfl,HA⟩:=hrel
  by_cases hk:k<n
  · obtain ⟨b,off,rfl,hc⟩:=HX.out.2.1.at HA.out.1 k (by rw [←HX.out.1];exact hk)
    obtain ⟨x,hx⟩:∃ x,x=xs.getD k 0:=⟨_,rfl⟩;rw [←hx] at hc;have hx64:x<18446744073709551616:=by rw [hx];exact HX.out.2.2.1.get k
    have C:=hid (rClass13 hx64 wr);obtain ⟨f1,f2⟩:=cls_fin hx64;obtain ⟨cl,hcl⟩:∃ c,clW x=c:=⟨_,rfl⟩;rw [hcl] at C f1 f2;have HF:=(qsd (ai f1 (ai f2 hx)));clear hx hcl f1 f2 hx64;have hkb:k<4611686018427387904:=by omega
    have hd:decide ((k:Int)<n)=true:=by simp;omega
    go_wp2_with fail
    refine C.out.mono ?_;rintro r v ⟨rfl,hb⟩;have HB:=qsd (HA.out.1.trans (hb.mono HA.out.1.size));clear hb C hc
    by_cases hc2:2<cl
    · have d1:decide (2<cl)=true:=decide_eq_true hc2
      have hnf:¬ finW x:=fun h=>by have:=HF.out.1 h;omega
      have HT:Aside (t=false):=by
       cases ht:t with
       | false=>rfl
       | true =>
         exfalso
         have:=HX.out.2.2.2.1 ht (xs.getD k 0) (by rw [List.getD_eq_getElem?_getD,List.getElem?_eq_getElem (show k<xs.length by rw [←HX.out.1];exact hk)];exact List.getElem_mem _)
         rw [←HF.out.2.2] at this;exact hnf this
      clear hnf;go_wp2;go_ret;exact ⟨by rw [HT.out];rfl,HB.out⟩
    · have d1:decide (2<cl)=false:=decide_eq_false hc2
      have hf:Aside (finW x):=by
       by_cases h:finW x
       · exact h
       · exact absurd (HF.out.2.1 h) hc2
      go_wp2
      go_roundg (gk-1)
      case measure=>omega
      case rel =>
       refine ⟨k+1,by omega,by first | rfl | simp,HB.out,fun j hj=>?_⟩
       by_cases e:j=k
       · subst e;rw [←HF.out.2.2];exact hf.out
       · exact HA.out.2 j (by omega)
  · obtain rfl:n=k:=by omega
    have hd:decide ((n:Int)<n)=false:=by simp
    have HT:Aside (t=true):=by
     refine HX.out.2.2.2.2 fun x hx=>?_
     obtain ⟨j,hj,rfl⟩:=List.mem_iff_getElem.1 hx;have:=HA.out.2 j (by rw [HX.out.1];exact hj)
     rw [List.getD_eq_getElem?_getD,List.getElem?_eq_getElem hj] at this
     exact this
    go_wp2;go_ret;exact ⟨by rw [HT.out];rfl,HA.out.1⟩
end
section
open Go.RowKit J
attribute [local go_sem] st_float
def plE (xs:List Nat):Int:=if 65536<xs.length then 2 else if 0<(sS xs).n∨0<(sS xs).u+(sS xs).d then 30 else 0
theorem sf22 (xs:List Nat):(sfE 2 2 xs=0∧plE xs=0)∨(sfE 2 2 xs=2∧plE xs=2)∨((sfE 2 2 xs=60∨sfE 2 2 xs=61)∧plE xs=30):=by
 have hm:may 2 2=true:=by decide
 unfold sfE plE Ps.rf;rw [hm,if_neg (by decide)]
 by_cases hl:65536<xs.length
 · rw [if_pos hl,if_pos hl];exact .inr (.inl ⟨rfl,rfl⟩)
 · rw [if_neg hl,if_neg hl]
   by_cases h1:0<(sS xs).n
   · rw [if_pos ⟨h1,rfl⟩,if_pos (.inl h1)];exact .inr (.inr ⟨.inl rfl,rfl⟩)
   · rw [if_neg (fun h=>h1 h.1)]
     by_cases h2:0<(sS xs).u+(sS xs).d
     · rw [if_pos ⟨h2,rfl⟩,if_pos (.inr h2)];exact .inr (.inr ⟨.inr rfl,rfl⟩)
     · rw [if_neg (fun h=>h2 h.1),if_neg (by omega)];exact .inl ⟨rfl,rfl⟩
theorem close6 {fn:Func}{p q:Tmp}(hfn:fn.results=#[.cell p 51,.tmp q]) {tmps:Array Value}{w:World}{g:Nat}{t1 t2 t3 t4 t5 t6 e:Int}{R:Ending→World→Prop}
 (h1:tmps.getD p undef=.pointer (some ⟨g,0,none⟩)) (h2:tmps.getD q undef=.int .i64 e) (hB:Bl w g 51 [.int .i64 t1,.int .i64 t2,.int .i64 t3,.int .i64 t4,.int .i64 t5,.int .i64 t6])
 (hR:R (.returned (.tuple #[.agg #[.int .i64 t1,.int .i64 t2,.int .i64 t3,.int .i64 t4,.int .i64 t5,.int .i64 t6],.int .i64 e])) w) :
 bodyPost Tryz.prog fn R .ret ⟨tmps,[]⟩ w:=by
 have c0:=hB.cell 0 _ rfl;have c1:=hB.cell 1 _ rfl;have c2:=hB.cell 2 _ rfl;have c3:=hB.cell 3 _ rfl;have c4:=hB.cell 4 _ rfl;have c5:=hB.cell 5 _ rfl;rw [Array.getD_eq_getD_getElem?] at h1 h2;exact bodyPost_ret (v:=.tuple #[.agg #[.int .i64 t1,.int .i64 t2,.int .i64 t3,.int .i64 t4,.int .i64 t5,.int .i64 t6],.int .i64 e]) (by simp [results,hfn,go_sem,Ps.csetm,h1,h2,c0,c1,c2,c3,c4,c5]) rfl hR
theorem plain13 (xs:List Nat) (a:Option Addr) (n c:Nat) (w:World) (hn:n=xs.length) (hF:Fs w.heap.size w a xs) (hW:W64 xs) (hl:n≤35184372088832) :
 Calls Tryz.prog 54 #[.slice a n c] w fun r w'=>((plE xs≠0∧r=.returned (.tuple #[agg0,.int .i64 (plE xs)]))∨(plE xs=0∧r=.returned (.tuple #[(sS xs).agg,.int .i64 0])))∧Below w.heap.size w w':=by
 obtain ⟨W,hWW⟩:∃ W,W=w.alloc (Obj.cells #[.int .i64 0,.int .i64 0,.int .i64 0,.int .i64 0,.int .i64 0,.int .i64 0] 51):=⟨_,rfl⟩
 have B0:Aside (Bl W w.heap.size 51 [.int .i64 0,.int .i64 0,.int .i64 0,.int .i64 0,.int .i64 0,.int .i64 0]∧Below w.heap.size w W):=by
  rw [hWW];exact ⟨Bl.new _ 51 [_,_,_,_,_,_],bel_alloc _ _⟩
 have HS:=hid (Sift13 xs a n c 2 2 W hn hl ((hF.below B0.out.2).mono B0.out.2.size) hW);have hsf:=sf22 xs;obtain ⟨es,hes⟩:∃ e,sfE 2 2 xs=e:=⟨_,rfl⟩;obtain ⟨ep,hep⟩:∃ e,plE xs=e:=⟨_,rfl⟩;obtain ⟨⟨sn,su,sd,sm,sp,sa⟩,hs⟩:∃ s,sS xs=s:=⟨_,rfl⟩;obtain ⟨fl,hfl⟩:∃ f,Ps.fin xs=f:=⟨_,rfl⟩;rw [hs,hes,hfl] at HS;rw [hes,hep] at hsf;rw [hep,hs];simp only [Sp.agg] at HS ⊢;have HSF:=qsd hsf;have HWW:=qsd hWW;clear hn hF hW hl hWW hes hep hs hfl hsf;go_enter Tryz.func54,Tryz.ntmps54
 go_wp2_with fail
 rw [←HWW.out];clear HWW;refine HS.out.mono ?_;rintro r v ⟨hr,hb⟩;have B1:Aside (Bl v w.heap.size 51 [.int .i64 0,.int .i64 0,.int .i64 0,.int .i64 0,.int .i64 0,.int .i64 0]∧Below w.heap.size w v):=⟨B0.out.1.below hb B0.out.1.lt,B0.out.2.trans (hb.mono B0.out.2.size)⟩
 have BU:Aside (∀ (t1 t2 t3 t4 t5 t6:Int) (U:World),U=v.alloc (Obj.cells #[.int .i64 t1,.int .i64 t2,.int .i64 t3,.int .i64 t4,.int .i64 t5,.int .i64 t6] 51) →
  Bl U w.heap.size 51 [.int .i64 0,.int .i64 0,.int .i64 0,.int .i64 0,.int .i64 0,.int .i64 0]∧Bl U v.heap.size 51 [.int .i64 t1,.int .i64 t2,.int .i64 t3,.int .i64 t4,.int .i64 t5,.int .i64 t6]∧Below w.heap.size w U∧w.heap.size<v.heap.size):=by
  intro t1 t2 t3 t4 t5 t6 U hU;rw [hU];exact ⟨B1.out.1.alloc _,Bl.new _ 51 [_,_,_,_,_,_],B1.out.2.trans ((bel_alloc _ _).mono B1.out.2.size),B1.out.1.lt⟩
 clear hb B0 HS
 rcases hr with ⟨he,a',c',rfl⟩|⟨he,a',c',rfl,hF',hlo⟩
 · unfold agg0
   obtain ⟨U,hU⟩:∃ U,U=v.alloc (Obj.cells #[.int .i64 0,.int .i64 0,.int .i64 0,.int .i64 0,.int .i64 0,.int .i64 0] 51):=⟨_,rfl⟩;obtain ⟨u1,u2,u3,u4⟩:=BU.out _ _ _ _ _ _ _ hU;obtain ⟨gs,hgs⟩:∃ g,v.heap.size=g:=⟨_,rfl⟩;rw [hgs] at u2 u4;have B3:=(qsd (ai u1 (ai u2 (ai u3 u4))));have s0:=u2.cell 0 _ rfl;have s1:=u2.cell 1 _ rfl;have s2:=u2.cell 2 _ rfl;have s3:=u2.cell 3 _ rfl;have s4:=u2.cell 4 _ rfl;have s5:=u2.cell 5 _ rfl;have z0:=u1.cell 0 _ rfl;have z1:=u1.cell 1 _ rfl;have z2:=u1.cell 2 _ rfl;have z3:=u1.cell 3 _ rfl;have z4:=u1.cell 4 _ rfl;have z5:=u1.cell 5 _ rfl;have y0:=u1.frozen 0;have y1:=u1.frozen 1;have y2:=u1.frozen 2;have y3:=u1.frozen 3;have y4:=u1.frozen 4;have y5:=u1.frozen 5;have HGS:=qsd hgs;have HU:=qsd hU;clear u1 u2 u3 u4 hU BU hgs
   go_upto_region 2 with fail
   rw [←HU.out,HGS.out];clear HU HGS;obtain ⟨h1,h2⟩|⟨h1,h2⟩|⟨h1|h1,h2⟩:=HSF.out
   · exact absurd h1 he
   all_goals
    subst h1 h2;clear he HSF;go_wp2;refine close6 Tryz.results54 ?_ ?_ ((((((B3.out.1.set 0 _).set 1 _).set 2 _).set 3 _).set 4 _).set 5 _) ⟨by first | exact .inl ⟨by decide,rfl⟩ | rfl,?_⟩
    · rfl
    · rfl
    · exact But.below B3.out.2.2.1 (Ps.But.set6 (But.refl w.heap.size _) _ _ _ _ _ _) B3.out.2.2.1.size (Nat.le_refl _)
 · subst he
   obtain rfl:ep=0:=by rcases HSF.out with ⟨h1,h2⟩|⟨h1,h2⟩|⟨h1|h1,h2⟩ <;> omega
   obtain ⟨U,hU⟩:∃ U,U=v.alloc (Obj.cells #[.int .i64 sn,.int .i64 su,.int .i64 sd,.int .i64 sm,.int .i64 sp,.int .i64 sa] 51):=⟨_,rfl⟩;obtain ⟨u1,u2,u3,u4⟩:=BU.out _ _ _ _ _ _ _ hU;obtain ⟨gs,hgs⟩:∃ g,v.heap.size=g:=⟨_,rfl⟩;rw [hgs] at u2 u4;have B3:=(qsd (ai u1 (ai u2 (ai u3 u4))));have s0:=u2.cell 0 _ rfl;have s1:=u2.cell 1 _ rfl;have s2:=u2.cell 2 _ rfl;have s3:=u2.cell 3 _ rfl;have s4:=u2.cell 4 _ rfl;have s5:=u2.cell 5 _ rfl;have z0:=u1.cell 0 _ rfl;have z1:=u1.cell 1 _ rfl;have z2:=u1.cell 2 _ rfl;have z3:=u1.cell 3 _ rfl;have z4:=u1.cell 4 _ rfl;have z5:=u1.cell 5 _ rfl;have y0:=u1.frozen 0;have y1:=u1.frozen 1;have y2:=u1.frozen 2;have y3:=u1.frozen 3;have y4:=u1.frozen 4;have y5:=u1.frozen 5;have HGS:=qsd hgs;have HU:=qsd hU;clear u1 u2 u3 u4 hU BU hgs hF' hlo
   go_upto_region 2 with fail
   rw [←HU.out,HGS.out];clear HU HGS HSF;go_wp2;refine close6 Tryz.results54 ?_ ?_ ((((((B3.out.1.set 0 _).set 1 _).set 2 _).set 3 _).set 4 _).set 5 _) ⟨by first | exact .inr ⟨rfl,rfl⟩ | rfl,?_⟩
   · rfl
   · rfl
   · exact But.below B3.out.2.2.1 (Ps.But.set6 (But.refl w.heap.size _) _ _ _ _ _ _) B3.out.2.2.1.size (Nat.le_refl _)
end
section
open Go.RowKit J
attribute [local go_sem] st_float
abbrev ClD (f:FuncId):Prop:=∀ (gx ge x:Nat) (e:Int) (w:World),w.cell? ⟨gx,0,none⟩=some (.float .f64 x)→w.cell? ⟨ge,0,none⟩=some (.int .i64 e)→w.frozen? ⟨gx,0,none⟩=false→∀ (u:FrameMode),
 CallsD Tryz.prog f #[.pointer (some ⟨ge,0,none⟩),.pointer (some ⟨gx,0,none⟩)] u w fun r u' w'=>u'=u∧(r=.returned (.tuple #[])∧w'=w.setCell ⟨gx,0,none⟩ (.float .f64 (bsd e x)))
theorem early13 {fn:Func}{f:FuncId}{px pe:Tmp}(hres:fn.results=#[.cell px 24,.cell pe 25]) (HC:ClD f) {tmps:Array Value}{gx ge x X:Nat}{e E:Int}{w v:World}
 (b1:Bl v gx 24 [.float .f64 x]) (b2:Bl v ge 25 [.int .i64 e]) (hb:Below w.heap.size w v) (hgx:w.heap.size≤gx) (hne:ge≠gx) (hX:bsd e x=X) (hE:e=E)
 (hi:(callFunc f #[.pointer (some ⟨ge,0,none⟩),.pointer (some ⟨gx,0,none⟩)]).run Tryz.prog v=.ok (.enter f #[.pointer (some ⟨ge,0,none⟩),.pointer (some ⟨gx,0,none⟩)]) v)
 (h1:tmps.getD px undef=.pointer (some ⟨gx,0,none⟩)) (h2:tmps.getD pe undef=.pointer (some ⟨ge,0,none⟩)) :
 Leaves Tryz.prog fn tmps (fun r w'=>r=.returned (.tuple #[.float .f64 X,.int .i64 E])∧Below w.heap.size w w') [{ target:=.fn (.func f) #[.pointer (some ⟨ge,0,none⟩),.pointer (some ⟨gx,0,none⟩)],args:=#[] }] .returning v:=by
 subst hX hE;refine door13 hres hi (HC gx ge x e v (b1.cell 0 _ rfl) (b2.cell 0 _ rfl) (b1.frozen 0)) h1 h2 (b1.cell 0 _ rfl) (b2.cell 0 _ rfl) hne ?_;have kb:But gx v (v.setCell ⟨gx,0,none⟩ (.float .f64 (bsd e x))):=(But.refl gx _).set 0 _;exact ⟨rfl,But.below hb kb hb.size hgx⟩
theorem finish13 {fn:Func}{f:FuncId}{px pe:Tmp}(hres:fn.results=#[.cell px 24,.cell pe 25]) (HC:ClD f) {tmps:Array Value}{gx ge x0 x X:Nat}{e0 e E:Int}{w v:World}
 (b1:Bl v gx 24 [.float .f64 x0]) (b2:Bl v ge 25 [.int .i64 e0]) (hb:Below w.heap.size w v) (hgx:w.heap.size≤gx) (hge:w.heap.size≤ge) (hne:ge≠gx) (hX:bsd e x=X) (hE:e=E)
 (hi:∀ v:World,(callFunc f #[.pointer (some ⟨ge,0,none⟩),.pointer (some ⟨gx,0,none⟩)]).run Tryz.prog v=.ok (.enter f #[.pointer (some ⟨ge,0,none⟩),.pointer (some ⟨gx,0,none⟩)]) v)
 (h1:tmps.getD px undef=.pointer (some ⟨gx,0,none⟩)) (h2:tmps.getD pe undef=.pointer (some ⟨ge,0,none⟩)) :
 Leaves Tryz.prog fn tmps (fun r w'=>r=.returned (.tuple #[.float .f64 X,.int .i64 E])∧Below w.heap.size w w') [{ target:=.fn (.func f) #[.pointer (some ⟨ge,0,none⟩),.pointer (some ⟨gx,0,none⟩)],args:=#[] }] .returning ((v.setCell ⟨gx,0,none⟩ (.float .f64 x)).setCell ⟨ge,0,none⟩ (.int .i64 e)):=by
 have bt:But gx v (v.setCell ⟨gx,0,none⟩ (.float .f64 x)):=(But.refl _ _).set 0 _;have be:But ge (v.setCell ⟨gx,0,none⟩ (.float .f64 x)) ((v.setCell ⟨gx,0,none⟩ (.float .f64 x)).setCell ⟨ge,0,none⟩ (.int .i64 e)):=(But.refl _ _).set 0 _;have k0:=But.below hb bt hb.size hgx;exact early13 hres HC ((b1.set 0 (.float .f64 x)).but be (fun h=>hne h.symm)) ((b2.but bt hne).set 0 (.int .i64 e)) (But.below k0 be k0.size hge) hgx hne hX hE (hi _) h1 h2
theorem two13 (w:World):Bl ((w.alloc (Obj.cells #[.float .f64 0] 24)).alloc (Obj.cells #[.int .i64 0] 25)) w.heap.size 24 [.float .f64 0]∧Bl ((w.alloc (Obj.cells #[.float .f64 0] 24)).alloc (Obj.cells #[.int .i64 0] 25)) (w.heap.size+1) 25 [.int .i64 0]∧Below w.heap.size w ((w.alloc (Obj.cells #[.float .f64 0] 24)).alloc (Obj.cells #[.int .i64 0] 25)):=by
 have z2:=Bl.new (w.alloc (Obj.cells #[.float .f64 0] 24)) 25 [.int .i64 0];rw [World.size_alloc] at z2;exact ⟨(Bl.new w 24 [_]).below (bel_alloc _ _) (by simp),z2,(bel_alloc _ _).trans ((bel_alloc _ _).mono (by simp))⟩
theorem seterr13 {w v:World}{gx ge x:Nat}{e0:Int}(e:Int) (b1:Bl v gx 24 [.float .f64 x]) (b2:Bl v ge 25 [.int .i64 e0]) (hb:Below w.heap.size w v) (hge:w.heap.size≤ge) (hne:ge≠gx) :
 Bl (v.setCell ⟨ge,0,none⟩ (.int .i64 e)) gx 24 [.float .f64 x]∧Bl (v.setCell ⟨ge,0,none⟩ (.int .i64 e)) ge 25 [.int .i64 e]∧Below w.heap.size w (v.setCell ⟨ge,0,none⟩ (.int .i64 e)):=by
 have be:But ge v (v.setCell ⟨ge,0,none⟩ (.int .i64 e)):=(But.refl _ _).set 0 _;exact ⟨b1.but be (fun h=>hne h.symm),b2.set 0 _,But.below hb be hb.size hge⟩
theorem stored13 {w v:World}{gx ge x:Nat}{e0:Int}{ao:Option Addr}{xs:List Nat}(b1:Bl v gx 24 [.float .f64 x]) (b2:Bl v ge 25 [.int .i64 e0]) (hb:Below w.heap.size w v) (hge:w.heap.size≤ge) (hne:ge≠gx) (hT:Tab w) (hF:Fs v.heap.size v ao xs) (hg:∀ b o p,ao=some ⟨b,o,p⟩→b≠ge) (e t1 t2 t3 t4 t5 t6:Int) (Z:World) (hZ:Z=(v.setCell ⟨ge,0,none⟩ (.int .i64 e)).alloc (Obj.cells #[.int .i64 t1,.int .i64 t2,.int .i64 t3,.int .i64 t4,.int .i64 t5,.int .i64 t6] 51)) :
 Bl Z gx 24 [.float .f64 x]∧Bl Z ge 25 [.int .i64 e]∧Bl Z v.heap.size 51 [.int .i64 t1,.int .i64 t2,.int .i64 t3,.int .i64 t4,.int .i64 t5,.int .i64 t6]∧Below w.heap.size w Z∧Tab Z∧Fs Z.heap.size Z ao xs:=by
 obtain ⟨k1,k2,k3⟩:=seterr13 (w:=w) e b1 b2 hb hge hne;have be:But ge v (v.setCell ⟨ge,0,none⟩ (.int .i64 e)):=(But.refl _ _).set 0 _;have hsz:(v.setCell ⟨ge,0,none⟩ (.int .i64 e)).heap.size=v.heap.size:=by simp
 have z1:=Bl.new (v.setCell ⟨ge,0,none⟩ (.int .i64 e)) 51 [.int .i64 t1,.int .i64 t2,.int .i64 t3,.int .i64 t4,.int .i64 t5,.int .i64 t6];rw [hsz] at z1;rw [hZ];have hbb:=k3.trans ((bel_alloc (v.setCell ⟨ge,0,none⟩ (.int .i64 e)) (Obj.cells #[.int .i64 t1,.int .i64 t2,.int .i64 t3,.int .i64 t4,.int .i64 t5,.int .i64 t6] 51)).mono k3.size);exact ⟨k1.alloc _,k2.alloc _,z1,hbb,hT.belows hbb,((hF.but' be hg).below ((bel_alloc _ _).mono (by simp))).mono (by simp)⟩
noncomputable def plnR (xs:List Nat) (mode:Int):Nat×Int:=if plE xs=0 then (bsd (levR xs (sS xs) mode).2 (levR xs (sS xs) mode).1,(levR xs (sS xs) mode).2) else (0,plE xs)
noncomputable def midR (x y:Nat) (mode:Int):Nat×Int:=if askE mode=0 then plnR [x,y] mode else (0,askE mode)
theorem fs_two (w:World) (x y:Nat):Fs (w.alloc (Obj.cells #[.float .f64 x,.float .f64 y] 24)).heap.size (w.alloc (Obj.cells #[.float .f64 x,.float .f64 y] 24)) (some ⟨w.heap.size,0,none⟩) [x,y]:=by
 intro _;refine ⟨w.heap.size,0,by simp,rfl,fun i hi=>?_⟩
 have hB:=Bl.new w 24 [.float .f64 x,.float .f64 y]
 match i,hi with
 | 0,_=>exact hB.cell 0 _ rfl
 | 1,_=>exact hB.cell 1 _ rfl
theorem Middle13 (x y:Nat) (hx:x<18446744073709551616) (hy:y<18446744073709551616) (mode:Int) (w:World) (hT:Tab w) (z:Nat×Int) (hz:midR x y mode=z) :
 Calls Tryz.prog 17 #[.float .f64 x,.float .f64 y,.int .i64 mode] w fun r w'=>r=.returned (.tuple #[.float .f64 z.1,.int .i64 z.2])∧Below w.heap.size w w':=by
 obtain ⟨X,E⟩:=z;simp only;have hmf:∀ (fn:Fn) (first cap:Array Value) (w:World),(Instr.makeFunc fn first cap).run Tryz.prog w=.ok (.func fn first cap) w:=fun _ _ _ _=>rfl
 have HA:=hid (fun u:World=>asked13 mode u)
 unfold midR at hz;obtain ⟨ea,hea⟩:∃ e,askE mode=e:=⟨_,rfl⟩;rw [hea] at HA hz;obtain ⟨W,hWW⟩:∃ W,W=(w.alloc (Obj.cells #[.float .f64 0] 24)).alloc (Obj.cells #[.int .i64 0] 25):=⟨_,rfl⟩;obtain ⟨gx,hgx⟩:∃ g,g=w.heap.size:=⟨_,rfl⟩;obtain ⟨ge,hge⟩:∃ g,g=w.heap.size+1:=⟨_,rfl⟩;have HG:Aside (gx=w.heap.size∧ge=w.heap.size+1∧w.heap.size≤gx∧w.heap.size≤ge∧ge≠gx):=⟨hgx,hge,by omega,by omega,by omega⟩
 have B0:=two13 w;rw [←hWW,←hge] at B0;have B1:=qsd (seterr13 ea (show Bl W gx 24 [.float .f64 0] by rw [hgx];exact B0.1) B0.2.1 B0.2.2 HG.out.2.2.2.1 HG.out.2.2.2.2)
 have c1:=B0.2.1.cell 0 _ rfl;have f1:=B0.2.1.frozen 0;have HWW:=qsd hWW;have HX:=qsd (ai hx (ai hy hT));clear hx hy hT hWW hea hgx hge B0;go_enter_defers Tryz.func17,Tryz.ntmps17
 go_wp2_with fail
 rw [←HWW.out]
 try rw [show w.heap.size+1=ge by have:=HG.out;omega]
 try rw [show w.heap.size=gx by have:=HG.out;omega]
 clear HWW;refine (HA.out _).mono ?_;rintro r v ⟨rfl,hv⟩;rw [hv];clear hv v
 by_cases h0:ea=0
 · subst h0
   rw [if_pos rfl] at hz;obtain ⟨V,hV⟩:∃ V,V=W.setCell ⟨ge,0,none⟩ (.int .i64 0):=⟨_,rfl⟩;rw [←hV] at B1;have r1:=B1.out.2.1.cell 0 _ rfl;obtain ⟨U,hU⟩:∃ U,U=V.alloc (Obj.cells #[.float .f64 x,.float .f64 y] 24):=⟨_,rfl⟩;obtain ⟨ga,hga⟩:∃ g,V.heap.size=g:=⟨_,rfl⟩
   have B2:Aside (Bl U gx 24 [.float .f64 0]∧Bl U ge 25 [.int .i64 0]∧Below w.heap.size w U∧Fs U.heap.size U (some ⟨ga,0,none⟩) [x,y]∧Tab U∧W64 [x,y]):=by
    have hbU:Below w.heap.size w U:=by rw [hU];exact B1.out.2.2.trans ((bel_alloc _ _).mono B1.out.2.2.size)
    refine ⟨by rw [hU];exact B1.out.1.alloc _,by rw [hU];exact B1.out.2.1.alloc _,hbU,by rw [hU,←hga];exact fs_two V x y,HX.out.2.2.belows hbU,?_⟩
    intro q hq;simp at hq
    rcases hq with rfl|rfl
    · exact HX.out.1
    · exact HX.out.2.1
   have HP:=hid (plain13 [x,y] (some ⟨ga,0,none⟩) 2 2 U rfl B2.out.2.2.2.1 B2.out.2.2.2.2.2 (by decide))
   have HW2:=qsd B2.out.2.2.2.2.2;have HGN:Aside (ga≠ge):=by have:=B1.out.2.1.lt;rw [Aside,←hga];omega
   obtain ⟨ep,hep⟩:∃ e,plE [x,y]=e:=⟨_,rfl⟩;obtain ⟨⟨sn,su,sd,sm,sp,sa⟩,hs⟩:∃ s,sS [x,y]=s:=⟨_,rfl⟩;unfold plnR at hz;rw [hep,hs] at HP hz;simp only [Sp.agg] at HP;have HV:=qsd hV;have HU:=qsd hU;have HGA:=qsd hga;clear hV hU hga hep hs HA
   go_upto_region 3 with fail
   rw [←HV.out];clear HV
   go_upto_region 5 with fail
   rw [←HU.out,HGA.out];clear HU HGA
   go_wp2_with fail
   refine HP.out.mono ?_;rintro r v ⟨hr,hb⟩;have B3:Aside (Bl v gx 24 [.float .f64 0]∧Bl v ge 25 [.int .i64 0]∧Below w.heap.size w v∧Fs v.heap.size v (some ⟨ga,0,none⟩) [x,y]∧ga≠ge):=⟨B2.out.1.below hb B2.out.1.lt,B2.out.2.1.below hb B2.out.2.1.lt,B2.out.2.2.1.trans (hb.mono B2.out.2.2.1.size),(B2.out.2.2.2.1.below hb).mono hb.size,HGN.out⟩;have q1:=B3.out.2.1.cell 0 _ rfl;have q2:=B3.out.2.1.frozen 0;have hlt:=B3.out.2.1.lt;have BU:=qsd (stored13 B3.out.1 B3.out.2.1 B3.out.2.2.1 HG.out.2.2.2.1 HG.out.2.2.2.2 HX.out.2.2 B3.out.2.2.2.1 (fun b o p h=>by cases h;exact B3.out.2.2.2.2))
   clear hb HP B2
   rcases hr with ⟨he,rfl⟩|⟨he,rfl⟩
   · unfold agg0
     rw [if_neg he] at hz;have HXE:=qsd (Prod.mk.inj hz);have h1:(ep==0)=false:=by simp [he]
     obtain ⟨Z,hZ⟩:∃ U,U=(v.setCell ⟨ge,0,none⟩ (.int .i64 ep)).alloc (Obj.cells #[.int .i64 0,.int .i64 0,.int .i64 0,.int .i64 0,.int .i64 0,.int .i64 0] 51):=⟨_,rfl⟩;have B4:=qsd (BU.out _ _ _ _ _ _ _ _ hZ);have r1:=B4.out.2.1.cell 0 _ rfl;have HZ:=qsd hZ;clear hZ BU hz
     go_upto_region 6 with fail
     rw [←HZ.out];clear HZ;go_wp2;refine early13 Tryz.results17 Middle1_d B4.out.1 B4.out.2.1 B4.out.2.2.2.1 HG.out.2.2.1 HG.out.2.2.2.2 ((bsd_zero _).trans HXE.out.1) HXE.out.2 (by simp [go_sem]) ?_ ?_ <;> rfl
   · subst he
     rw [if_pos rfl] at hz;obtain ⟨Z,hZ⟩:∃ U,U=(v.setCell ⟨ge,0,none⟩ (.int .i64 0)).alloc (Obj.cells #[.int .i64 sn,.int .i64 su,.int .i64 sd,.int .i64 sm,.int .i64 sp,.int .i64 sa] 51):=⟨_,rfl⟩;have B4:=qsd (BU.out _ _ _ _ _ _ _ _ hZ);obtain ⟨gs,hgs⟩:∃ g,v.heap.size=g:=⟨_,rfl⟩;rw [hgs] at B4;have r1:=B4.out.2.1.cell 0 _ rfl;have s0:=B4.out.2.2.1.cell 0 _ rfl;have s1:=B4.out.2.2.1.cell 1 _ rfl;have s2:=B4.out.2.2.1.cell 2 _ rfl;have s3:=B4.out.2.2.1.cell 3 _ rfl;have s4:=B4.out.2.2.1.cell 4 _ rfl;have s5:=B4.out.2.2.1.cell 5 _ rfl;obtain ⟨⟨xl,el⟩,hl⟩:∃ z,levR [x,y] ⟨sn,su,sd,sm,sp,sa⟩ mode=z:=⟨_,rfl⟩;rw [hl] at hz;have hz1:(bsd el xl,el)=(X,E):=hz;obtain ⟨hX,hE⟩:=Prod.mk.inj hz1;have HL:=hid (level13 [x,y] (some ⟨ga,0,none⟩) 2 2 sn su sd sm sp sa mode Z rfl B4.out.2.2.2.2.2 HW2.out B4.out.2.2.2.2.1 (by decide) (xl,el) hl)
     simp only at HL;have HXE:=qsd (ai hX hE);have HZ:=qsd hZ;have HGS:=qsd hgs;clear hZ BU hz hz1 hX hE hl hgs
     go_upto_region 6 with fail
     rw [←HZ.out,HGS.out];clear HZ HGS q1 q2 hlt
     go_wp2_with fail
     refine HL.out.mono ?_;rintro r v4 ⟨rfl,hb⟩
     have B6:Aside (Bl v4 gx 24 [.float .f64 0]∧Bl v4 ge 25 [.int .i64 0]∧Below w.heap.size w v4) :=
      ⟨B4.out.1.below hb B4.out.1.lt,B4.out.2.1.below hb B4.out.2.1.lt,B4.out.2.2.2.1.trans (hb.mono B4.out.2.2.2.1.size)⟩
     have t1:=B6.out.1.cell 0 _ rfl;have t2:=B6.out.1.frozen 0;have t3:=B6.out.2.1.cell 0 _ rfl;have t4:=B6.out.2.1.frozen 0;have hne1:ge≠gx:=HG.out.2.2.2.2;have hne2:gx≠ge:=fun h=>HG.out.2.2.2.2 h.symm
     clear hb B4 HL s0 s1 s2 s3 s4 s5;go_wp2;refine finish13 Tryz.results17 Middle1_d B6.out.1 B6.out.2.1 B6.out.2.2 HG.out.2.2.1 HG.out.2.2.2.1 HG.out.2.2.2.2 HXE.out.1 HXE.out.2 (fun _=>by simp [go_sem]) ?_ ?_ <;> rfl
 · rw [if_neg h0] at hz
   have HXE:=qsd (Prod.mk.inj hz);have h1:(ea==0)=false:=by simp [h0]
   clear hz HA;go_wp2;refine early13 Tryz.results17 Middle1_d B1.out.1 B1.out.2.1 B1.out.2.2 HG.out.2.2.1 HG.out.2.2.2.2 ((bsd_zero _).trans HXE.out.1) HXE.out.2 (by simp [go_sem]) ?_ ?_ <;> rfl
end
section
open Go.RowKit J
attribute [local go_sem] st_float
theorem calm13 {P:Program}{c:Code}{K:Act→World→Prop}{Q:Exit→Act→World→Prop}{a:Act}{w:World}(h:c.wp P (Exit.then K (fun _ _ _=>False)) a w):c.wp P (Exit.then K Q) a w :=
 wp_mono h (fun e a w h=>by cases e <;> first | exact h | exact False.elim h)
end
section
open Go.RowKit J
attribute [local go_sem] st_float
def pI13 (xs ys:List Nat):List (Nat×Int):=List.zipWith (fun x y=>(pK x y,pT x y)) xs ys
theorem pI13_take (xs ys:List Nat) (k:Nat) (h1:k<xs.length) (h2:k<ys.length):pI13 (xs.take (k+1)) (ys.take (k+1))=pI13 (xs.take k) (ys.take k)++[(pK (xs.getD k 0) (ys.getD k 0),pT (xs.getD k 0) (ys.getD k 0))]:=by
 unfold pI13;rw [take_snoc10 xs k h1,take_snoc10 ys k h2,List.zipWith_append (by simp;omega)]
 rfl
theorem pI13_len (xs ys:List Nat):(pI13 xs ys).length=min xs.length ys.length:=by unfold pI13;simp
theorem pI13_ip:∀ {xs ys:List Nat},W64 xs→W64 ys→∀ p ∈ pI13 xs ys,Ip p
 | [],_,_,_,p,hp=>by simp [pI13] at hp
 | _::_,[],_,_,p,hp=>by simp [pI13] at hp
 | x::xs,y::ys,h1,h2,p,hp=>by
   unfold pI13 at hp;rw [List.zipWith_cons_cons,List.mem_cons] at hp
   rcases hp with rfl|hp
   · exact ip_prod (h1 x List.mem_cons_self) (h2 y List.mem_cons_self)
   · exact pI13_ip (xs:=xs) (ys:=ys) (fun z hz=>h1 z (List.mem_cons_of_mem _ hz)) (fun z hz=>h2 z (List.mem_cons_of_mem _ hz)) p hp
def wS (xs ys:List Nat):Int:=vI (pI13 xs ys)
theorem wS_bd {xs ys:List Nat}(h1:W64 xs) (h2:W64 ys) (hl:xs.length≤65536):∃ k:Nat,k=4238∧(wS xs ys).natAbs<2^k:=by
 obtain ⟨k,hk,e⟩:=HB13;refine ⟨k,hk,?_⟩;rw [←e];have a1:=vI_bd _ (pI13_ip h1 h2);have a2:=pI13_len xs ys;have a3:(pI13 xs ys).length*QB≤65536*QB:=Nat.mul_le_mul_right _ (by omega)
 have a4:=QB_HB;have a5:=QB_pos;unfold wS;omega
theorem wS_fm {xs ys:List Nat}(h1:W64 xs) (h2:W64 ys) (hl:xs.length≤65536):Fm (exV (wS xs ys)):=by
 obtain ⟨k,hk,h⟩:=wS_bd h1 h2 hl;exact ex_fm _ k (by omega) h
theorem products13 (xs ys:List Nat) (a b:Option Addr) (n c d:Nat) (w:World) (hn:n=xs.length) (hn2:n=ys.length) (hF:Fs w.heap.size w a xs) (hG:Fs w.heap.size w b ys) (hW:W64 xs) (hV:W64 ys) (hT:Tab w) (hl:n≤65536) :
 Calls Tryz.prog 42 #[.slice a n c,.slice b n d] w fun r w'=>∃ v,r=.returned (.agg #[.bool (dN (exV (wS xs ys))),v,.int .i64 (dE (exV (wS xs ys)))])∧Nt w.heap.size w' v (dX (exV (wS xs ys)))∧Below w.heap.size w w':=by
 have HX:=qsd (ai hn (ai hn2 (ai hF (ai hG (ai hW (ai hV (ai hT hl)))))));obtain ⟨o,ho⟩:∃ o,o=exV (wS xs ys):=⟨_,rfl⟩;rw [←ho];have HO:=qsd ho;clear hn hn2 hF hG hW hV hT ho;obtain ⟨W1,hW1⟩:∃ W,W=w.alloc (.cells #[.bool false,.slice none 0 0,.int .i64 0] 41):=⟨_,rfl⟩
 have H1:Aside (Below w.heap.size w W1∧Bl W1 w.heap.size 41 [.bool false,.slice none 0 0,.int .i64 0]∧W1.heap.size=w.heap.size+1):=by
  subst hW1;exact ⟨bel_alloc _ _,Bl.new _ 41 [_,_,_],by simp⟩
 go_enter Tryz.func42,Tryz.ntmps42
 go_wp2_with fail
 rw [←hW1];clear hW1;refine (New7 W1).mono ?_;rintro r w2 ⟨rfl,hA,hb2⟩;obtain ⟨g,hg⟩:∃ g,g=W1.heap.size:=⟨_,rfl⟩;rw [←hg] at hA ⊢
 have P2:Aside (Bl w2 w.heap.size 41 [.bool false,.slice none 0 0,.int .i64 0]∧Below w.heap.size w w2∧w.heap.size<g∧At12 w2 g (pI13 (xs.take 0) (ys.take 0))) :=
  ⟨H1.out.2.1.below hb2 (by have:=H1.out.2.2;omega),H1.out.1.trans (hb2.mono (by have:=H1.out.2.2;omega)),by have:=H1.out.2.2;omega,hA,fun p hp=>by simp [pI13] at hp⟩
 clear hb2 hA hg H1;go_wp2
 go_loopg [11] n (fun gk i wr=>∃ k:Nat,gk+k=n∧i=.int .i64 (k:Nat)∧Aside (At12 wr g (pI13 (xs.take k) (ys.take k))∧Bl wr w.heap.size 41 [.bool false,.slice none 0 0,.int .i64 0]∧Below w.heap.size w wr))
 case atStart=>exact ⟨0,by omega,by simp,P2.out.2.2.2,P2.out.1,P2.out.2.1⟩
 case round =>
  obtain ⟨k,hgk,rfl,HA⟩:=hrel
  by_cases hk:k<n
  · obtain ⟨b1,off1,rfl,hc⟩:=HX.out.2.2.1.at HA.out.2.2 k (by rw [←HX.out.1];exact hk)
    obtain ⟨b2,off2,rfl,hd⟩:=HX.out.2.2.2.1.at HA.out.2.2 k (by rw [←HX.out.2.1];exact hk)
    have C:Hid (Calls Tryz.prog 80 #[.pointer (some ⟨g,0,none⟩),.float .f64 (xs.getD k 0),.float .f64 (ys.getD k 0)] wr fun r w'=>r=.returned (.int .i64 0)∧At12 w' g (pI13 (xs.take (k+1)) (ys.take (k+1)))∧But g wr w'):=by
     rw [pI13_take xs ys k (by rw [←HX.out.1];exact hk) (by rw [←HX.out.2.1];exact hk)]
     exact addP12 g _ _ _ wr HA.out.1 (by rw [pI13_len,List.length_take];have:=HX.out.2.2.2.2.2.2.2;omega) (HX.out.2.2.2.2.1.get k) (HX.out.2.2.2.2.2.1.get k)
    obtain ⟨x,hx⟩:∃ x,x=xs.getD k 0:=⟨_,rfl⟩;obtain ⟨y,hy⟩:∃ y,y=ys.getD k 0:=⟨_,rfl⟩;rw [←hx] at hc C;rw [←hy] at hd C;have hkb:k<4611686018427387904:=by have:=HX.out.2.2.2.2.2.2.2;omega
    clear hx hy
    go_wp2_with fail
    refine (C.out).mono ?_;rintro r w3 ⟨rfl,hA3,hbut⟩;have H3:=qsd (ai hA3 (ai (HA.out.2.1.but hbut (by have:=P2.out.2.2.1;omega)) (But.below HA.out.2.2 hbut HA.out.2.2.size (by have:=P2.out.2.2.1;omega))))
    clear hA3 hbut C hc hd;go_wp2
    go_roundg (gk-1)
    case measure=>omega
    case rel=>exact ⟨k+1,by omega,by first | rfl | simp,H3.out⟩
  · obtain rfl:n=k:=by omega
    have hd:decide ((n:Int)<n)=false:=by simp
    have C:Hid (Calls Tryz.prog 81 #[.pointer (some ⟨g,0,none⟩)] wr fun r w'=>∃ v,r=.returned (.agg #[.bool (dN o),v,.int .i64 (dE o)])∧Nt wr.heap.size w' v (dX o)∧Below wr.heap.size wr w'):=by
     have e1:xs.take n=xs:=by rw [List.take_of_length_le];rw [←HX.out.1];omega
     have e2:ys.take n=ys:=by rw [List.take_of_length_le];rw [←HX.out.2.1];omega
     have hA:=HA.out.1;rw [e1,e2] at hA;rw [HO.out];exact Exact7 g _ _ wr hA.1 (HX.out.2.2.2.2.2.2.1.belows HA.out.2.2)
    have HL:=qsd (HA.out.2.1.lt)
    go_wp2_with fail
    refine (C.out).mono ?_;rintro r w3 ⟨v,rfl,hN,hb3⟩;obtain ⟨a9,c9,rfl,_⟩:=Lo.shape (q:=o) (by rw [HO.out];exact wS_fm HX.out.2.2.2.2.1 HX.out.2.2.2.2.2.1 (by rw [←HX.out.1];exact HX.out.2.2.2.2.2.2.2)) hN
    have B3:=qsd (ai (HA.out.2.1.below hb3 HL.out) (ai (HA.out.2.2.trans (hb3.mono HA.out.2.2.size)) hN));have z0:=B3.out.1.cell 0 _ rfl;have z1:=B3.out.1.cell 1 _ rfl;have z2:=B3.out.1.cell 2 _ rfl;have f0:=B3.out.1.frozen 0;have f1:=B3.out.1.frozen 1;have f2:=B3.out.1.frozen 2;clear hb3 C hN;go_wp2;refine close13 Tryz.results42 ?_ B3.out.1 B3.out.2.1 B3.out.2.2 (HL.out);rfl
def prE (xs ys:List Nat):Int:=if 65536<xs.length∨65536<ys.length then 2 else if xs.length≠ys.length then 4 else if plE xs≠0 then plE xs else if plE ys≠0 then plE ys else if xs=[] then 3 else 0
theorem paired13 (xs ys:List Nat) (a b:Option Addr) (n m c d:Nat) (w:World) (hn:n=xs.length) (hm:m=ys.length) (hF:Fs w.heap.size w a xs) (hG:Fs w.heap.size w b ys) (hW:W64 xs) (hV:W64 ys) (E:Int) (hE:prE xs ys=E) :
 Calls Tryz.prog 41 #[.slice a n c,.slice b m d] w fun r w'=>r=.returned (.int .i64 E)∧Below w.heap.size w w':=by
 unfold prE at hE;rw [←hn,←hm] at hE
 by_cases h1:65536<n
 · rw [if_pos (.inl h1)] at hE
   have d1:decide ((65536:Int)<(n:Nat))=true:=by simp;omega
   subst hE;clear hn hm hF hG hW hV;go_enter Tryz.func41,Tryz.ntmps41;go_wp2;go_ret;exact ⟨rfl,Below.refl _ _⟩
 · have d1:decide ((65536:Int)<(n:Nat))=false:=by simp;omega
   by_cases h2:65536<m
   · rw [if_pos (.inr h2)] at hE
     have d2:decide ((65536:Int)<(m:Nat))=true:=by simp;omega
     subst hE;clear hn hm hF hG hW hV;go_enter Tryz.func41,Tryz.ntmps41;go_wp2;go_ret;exact ⟨rfl,Below.refl _ _⟩
   · have d2:decide ((65536:Int)<(m:Nat))=false:=by simp;omega
     rw [if_neg (by omega)] at hE
     by_cases h3:n=m
     · subst h3
       rw [if_neg (by simp)] at hE
       have HPx:=hid (fun (u:World) (hb:Below w.heap.size w u)=>plain13 xs a n c u hn ((hF.below hb).mono hb.size) hW (by omega))
       have HPy:=hid (fun (u:World) (hb:Below w.heap.size w u)=>plain13 ys b n d u hm ((hG.below hb).mono hb.size) hV (by omega))
       obtain ⟨ex,hex⟩:∃ e,plE xs=e:=⟨_,rfl⟩;obtain ⟨ey,hey⟩:∃ e,plE ys=e:=⟨_,rfl⟩;obtain ⟨⟨x1,x2,x3,x4,x5,x6⟩,hsx⟩:∃ s,sS xs=s:=⟨_,rfl⟩;obtain ⟨⟨y1,y2,y3,y4,y5,y6⟩,hsy⟩:∃ s,sS ys=s:=⟨_,rfl⟩;rw [hex,hsx] at HPx;rw [hey,hsy] at HPy;rw [hex,hey] at hE;simp only [Sp.agg] at HPx HPy;have HE:=qsd hE;have HN:=qsd hn;have hn6:n≤65536:=by omega
       obtain ⟨W,hWW⟩:∃ W,W=w.alloc (Obj.cells #[.slice a n c,.slice b n d] 23):=⟨_,rfl⟩
       have B0:Aside (Bl W w.heap.size 23 [.slice a n c,.slice b n d]∧Below w.heap.size w W):=by
        rw [hWW];exact ⟨Bl.new _ 23 [_,_],bel_alloc _ _⟩
       have HWW:=qsd hWW;clear hn hm hF hG hW hV hex hey hsx hsy hE hWW h1 h2;go_enter Tryz.func41,Tryz.ntmps41;go_wp2;rw [←HWW.out];clear HWW
       go_loopg [28] 2 (fun gk i wr=>∃ k:Nat,gk+k=2∧i=.int .i64 (k:Nat)∧Aside (Bl wr w.heap.size 23 [.slice a n c,.slice b n d]∧Below w.heap.size w wr∧(1≤k→ex=0)∧(2≤k→ey=0)))
       case atStart=>exact ⟨0,by omega,by simp,B0.out.1,B0.out.2,fun h=>absurd h (by decide),fun h=>absurd h (by decide)⟩
       case round =>
        obtain ⟨k,hgk,rfl,HA⟩:=hrel;clear B0;obtain hk|hk|hk:k=0∨k=1∨k=2:=by omega
        · subst hk
          have c0:=HA.out.1.cell 0 _ rfl;have C:=hid (HPx.out wr HA.out.2.1);have HA2:=HA;clear HPy
          go_wp2_with fail
          refine C.out.mono ?_;rintro r v ⟨hr,hb⟩;have B1:Aside (Bl v w.heap.size 23 [.slice a n c,.slice b n d]∧Below w.heap.size w v):=⟨HA.out.1.below hb HA.out.1.lt,HA.out.2.1.trans (hb.mono HA.out.2.1.size)⟩;clear hb C
          rcases hr with ⟨he,rfl⟩|⟨he,rfl⟩
          · unfold agg0
            have q1:(ex==0)=false:=by simp [he]
            have HEE:Aside (ex=E):=by have:=HE.out;rw [if_pos he] at this;exact this
            clear he;go_wp2;go_ret;exact ⟨congrArg (fun z=>Ending.returned (Value.int .i64 z)) HEE.out,B1.out.2.trans ((bel_alloc _ _).mono B1.out.2.size)⟩
          · have H3:Aside (∀ (t1 t2 t3 t4 t5 t6:Int),Bl (v.alloc (Obj.cells #[.int .i64 t1,.int .i64 t2,.int .i64 t3,.int .i64 t4,.int .i64 t5,.int .i64 t6] 51)) w.heap.size 23 [.slice a n c,.slice b n d]∧Below w.heap.size w (v.alloc (Obj.cells #[.int .i64 t1,.int .i64 t2,.int .i64 t3,.int .i64 t4,.int .i64 t5,.int .i64 t6] 51))):=fun _ _ _ _ _ _=>⟨B1.out.1.alloc _,B1.out.2.trans ((bel_alloc _ _).mono B1.out.2.size)⟩
            have HK:Aside (ex=0):=he;clear he;go_wp2
            go_roundg (gk-1)
            case measure=>omega
            case rel=>exact ⟨1,by omega,by first | rfl | simp,(H3.out _ _ _ _ _ _).1,(H3.out _ _ _ _ _ _).2,fun _=>HK.out,fun h=>absurd h (by decide)⟩
        · subst hk
          have c1:=HA.out.1.cell 1 _ rfl;have C:=hid (HPy.out wr HA.out.2.1);have HA2:=HA;clear HPx
          go_wp2_with fail
          refine C.out.mono ?_;rintro r v ⟨hr,hb⟩;have B1:Aside (Bl v w.heap.size 23 [.slice a n c,.slice b n d]∧Below w.heap.size w v):=⟨HA.out.1.below hb HA.out.1.lt,HA.out.2.1.trans (hb.mono HA.out.2.1.size)⟩;clear hb C
          rcases hr with ⟨he,rfl⟩|⟨he,rfl⟩
          · unfold agg0
            have q1:(ey==0)=false:=by simp [he]
            have HEE:Aside (ey=E):=by have:=HE.out;rw [if_neg (by rw [HA.out.2.2.1 (by decide)];decide),if_pos he] at this;exact this
            clear he;go_wp2;go_ret;exact ⟨congrArg (fun z=>Ending.returned (Value.int .i64 z)) HEE.out,B1.out.2.trans ((bel_alloc _ _).mono B1.out.2.size)⟩
          · have H3:Aside (∀ (t1 t2 t3 t4 t5 t6:Int),Bl (v.alloc (Obj.cells #[.int .i64 t1,.int .i64 t2,.int .i64 t3,.int .i64 t4,.int .i64 t5,.int .i64 t6] 51)) w.heap.size 23 [.slice a n c,.slice b n d]∧Below w.heap.size w (v.alloc (Obj.cells #[.int .i64 t1,.int .i64 t2,.int .i64 t3,.int .i64 t4,.int .i64 t5,.int .i64 t6] 51))):=fun _ _ _ _ _ _=>⟨B1.out.1.alloc _,B1.out.2.trans ((bel_alloc _ _).mono B1.out.2.size)⟩
            have HK:Aside (ey=0):=he;clear he;go_wp2
            go_roundg (gk-1)
            case measure=>omega
            case rel=>exact ⟨2,by omega,by first | rfl | simp,(H3.out _ _ _ _ _ _).1,(H3.out _ _ _ _ _ _).2,HA2.out.2.2.1 ∘ (fun _=>by decide),fun _=>HK.out⟩
        · subst hk
          have z1:=HA.out.2.2.1 (by decide)
          have z2:=HA.out.2.2.2 (by decide)
          have hE:=HE.out;rw [if_neg (by simp [z1]),if_neg (by simp [z2])] at hE
          clear HPx HPy z1 z2
          by_cases hn0:n=0
          · have hx0:xs=[]:=List.eq_nil_of_length_eq_zero (by have:=HN.out;omega)
            rw [if_pos hx0] at hE;have d5:((n:Int)==0)=true:=by simp [hn0]
            have HEE:=qsd hE;clear hE HE HN hx0;go_wp2;go_ret;exact ⟨congrArg (fun z=>Ending.returned (Value.int .i64 z)) HEE.out,HA.out.2.1⟩
          · have hx0:xs≠[]:=by rintro rfl;have:=HN.out;simp at this;omega
            rw [if_neg hx0] at hE;have d5:((n:Int)==0)=false:=by simp [hn0]
            have HEE:=qsd hE;clear hE HE HN hx0;go_wp2;go_ret;exact ⟨congrArg (fun z=>Ending.returned (Value.int .i64 z)) HEE.out,HA.out.2.1⟩
     · rw [if_pos h3] at hE
       have d3:((n:Int)==(m:Int))=false:=by simp;omega
       subst hE;clear hn hm hF hG hW hV;go_enter Tryz.func41,Tryz.ntmps41;go_wp2;go_ret;exact ⟨rfl,Below.refl _ _⟩
end
end Go.Proofs.YtjldfhecnaiinaaGreatDoor
