import Derived.Test.YthfkleadcnkglaaGreatDoorD32cx
import Derived.Test.YthfkleadcnkglaaGreatDoorD21x
import Derived.Deep.RegionWith
import Derived.Deep.RegionHeld3
import Derived.Deep.CutRange
import Derived.Test.YthfkleadcnkglaaGreatDoorS5x
import Derived.Test.YthfkleadcnkglaaGreatDoorP2x
import Derived.Test.YthfkleadcnkglaaGreatDoorD5x
set_option linter.unusedVariables false
set_option linter.unusedSimpArgs false
set_option maxHeartbeats 16000000
set_option maxRecDepth 20000
namespace Go.Proofs.YthfkleadcnkglaaGreatDoor
namespace J
end J
section
open Go.RowKit
theorem nearby_core {w:World}{a:Option Addr}{l c:Nat}(dg ls En:Int) (n:Bool) (k:Nat) (e f mode:Int) (A:Nat) (z hv:Int) (lA:(ws A).length≤8192) (hk:k<9223372036854775808) (hm0:0≤mode) (hm4:mode≤4) (hv3:hv=-1∨hv=0∨hv=1)
 (HB:Hid (∀ (u:World),Below w.heap.size w u→Calls Tryz.prog 161 #[.agg #[.int .i64 dg,.int .i64 ls,.int .u64 En],.slice a l c,.int .i64 e] u fun r w'=>r=.returned (.int .u64 (k:Nat))∧Below u.heap.size u w'))
 (HN:Hid (∀ (u:World),Calls Tryz.prog 119 #[.agg #[.int .i64 dg,.int .i64 ls,.int .u64 En],.int .u64 (k:Nat)] u fun r w'=>∃ v,r=.returned (.tuple #[v,.int .i64 f])∧Nt u.heap.size w' v A∧Below u.heap.size u w'))
 (HA:Hid (∀ (u:World) (p:Option Addr) (s:Nat),Below w.heap.size w u→Arg u p (ws A).length s (ws A)→Calls Tryz.prog 76 #[.slice p (ws A).length s,.int .i64 f,.slice a l c,.int .i64 e] u fun r w'=>r=.returned (.int .i64 z)∧Below u.heap.size u w'))
 (HH:Hid (∀ (u:World),Below w.heap.size w u→Calls Tryz.prog 162 #[.agg #[.int .i64 dg,.int .i64 ls,.int .u64 En],.int .u64 (k:Nat),.slice a l c,.int .i64 e] u fun r w'=>r=.returned (.int .i64 hv)∧Below u.heap.size u w')) :
 Calls Tryz.prog 116 #[.agg #[.int .i64 dg,.int .i64 ls,.int .u64 En],.bool n,.slice a l c,.int .i64 e,.int .i64 mode] w fun r w'=>r=.returned (.int .u64 (nbyD mode n k z hv:Nat))∧Below w.heap.size w w':=by
 obtain ⟨W1,hW1⟩:∃ W,W=w.alloc (.cells #[.int .i64 dg,.int .i64 ls,.int .u64 En] 89):=⟨_,rfl⟩;have Z:Zk W1 w.heap.size dg ls En:=by rw [hW1];exact heap_alloc_new _ _
 have hB:Below w.heap.size w W1:=by rw [hW1];exact below_alloc w _
 obtain ⟨p0,p1,p2⟩:=Z.facts;have H1:=hid (HB.out W1 hB);have S0:=(qsd (ai hB Z));clear Z hB;have ek:IntKind.u64.wrap ((k:Int)+1)=(k:Int)+1:=by simp [IntKind.wrap,IntKind.bits,IntKind.signed];omega
 obtain ⟨R,hR⟩:∃ R,nbyD mode n k z hv=R:=⟨_,rfl⟩;rw [hR];go_enter Tryz.func116,Tryz.ntmps116
 go_upto_region 1 with fail
 rw [←hW1];clear hW1
 go_wp2_with fail
 clear p0 p1 p2;refine H1.out.mono ?_;rintro r u1 ⟨rfl,hb⟩;have Z1:=S0.out.2.below hb;obtain ⟨p0,p1,p2⟩:=Z1.facts;have B1:=S0.out.1.trans (hb.mono S0.out.1.size);have S1:=(qsd (ai B1 Z1));have H2:=hid (HN.out u1);clear hb Z1 B1 S0 H1
 go_wp2_with fail
 clear p0 p1 p2;refine H2.out.mono ?_;rintro r u2 ⟨v,rfl,hN,hb⟩;obtain ⟨a2,c2,rfl,hA2⟩:=hN.arg (by omega)
 have Z2:=S1.out.2.below hb;have B2:=S1.out.1.trans (hb.mono S1.out.1.size);have H3:=hid (HA.out u2 a2 c2 B2 hA2);have S2:=(qsd (ai B2 Z2));clear hb hN hA2 Z2 B2 S1 H2
 go_wp2_with fail
 refine H3.out.mono ?_;rintro r u3 ⟨rfl,hb⟩;have Z3:=S2.out.2.below hb;have B3:=S2.out.1.trans (hb.mono S2.out.1.size);have S3:=(qsd (ai B3 Z3));obtain ⟨p0,p1,p2⟩:=Z3.facts;have H4:=hid (HH.out u3 B3);clear hb Z3 B3 S2 H3
 by_cases hz:z=0
 · subst hz
   obtain rfl:k=R:=by rw [←hR];unfold nbyD;rw [if_pos rfl]
   clear hR
   go_wp2_with fail
   go_ret;exact ⟨rfl,S3.out.1⟩
 · have hz':(z==0)=false:=by simpa using hz
   have hR2:(if outS mode k hv n then k+1 else k)=R:=by rw [←hR];unfold nbyD;rw [if_neg hz]
   clear hR hz
   go_wp2_with fail
   clear p0 p1 p2;refine H4.out.mono ?_;rintro r u4 ⟨rfl,hb⟩;have B4:=qsd (S3.out.1.trans (hb.mono S3.out.1.size));clear hb S3 H4 hz';have hc:mode=0∨mode=1∨mode=2∨mode=3∨mode=4:=by omega
   clear hm0 hm4
   rcases hc with rfl|rfl|rfl|rfl|rfl
   · rcases hv3 with rfl | rfl | rfl
     · have:=qsd hR2
       clear hR2;go_wp2;go_ret;exact ⟨by rw [←this.out];simp [outS],B4.out⟩
     · by_cases hp:k%2=1
       · have hp':(k:Int)%2=1:=by omega
         have:=qsd hR2;clear hR2;go_wp2;go_ret;exact ⟨by rw [←this.out];simp [outS,hp],B4.out⟩
       · have hp':(k:Int)%2=0:=by omega
         have:=qsd hR2;clear hR2;go_wp2;go_ret;exact ⟨by rw [←this.out];simp [outS,hp],B4.out⟩
     · have:=qsd hR2
       clear hR2;go_wp2;go_ret;exact ⟨by rw [←this.out];simp [outS],B4.out⟩
   · have:=qsd hR2
     clear hR2;go_wp2;go_ret;exact ⟨by rw [←this.out];simp [outS],B4.out⟩
   · cases n
     all_goals (
      have:=qsd hR2;clear hR2;go_wp2;go_ret;exact ⟨by rw [←this.out];simp [outS],B4.out⟩)
   · cases n
     all_goals (
      have:=qsd hR2;clear hR2;go_wp2;go_ret;exact ⟨by rw [←this.out];simp [outS],B4.out⟩)
   · rcases hv3 with rfl | rfl | rfl
     all_goals (
      have:=qsd hR2;clear hR2;go_wp2;go_ret;exact ⟨by rw [←this.out];simp [outS],B4.out⟩)
end
section
open Go.RowKit
attribute [local go_sem] B.f64frombits
theorem rRound_lo {w:World}{a:Option Addr}{l c:Nat}(n:Bool) (e mode:Int) (hm:mode<0) :
 Calls Tryz.prog 62 #[.agg #[.bool n,.slice a l c,.int .i64 e],.int .i64 mode] w fun r w'=>r=.returned (.tuple #[.float .f64 0,.int .i64 1])∧Below w.heap.size w w':=by
 obtain ⟨W1,hW1⟩:∃ W,W=w.alloc (.cells #[.bool n,.slice a l c,.int .i64 e] 47):=⟨_,rfl⟩;have D0:Dk W1 w.heap.size n (.slice a l c) e:=by rw [hW1];exact Dk.new _ _ _ _
 have hB:Below w.heap.size w W1:=by rw [hW1];exact below_alloc w _
 have S0:=qsd hB;clear D0 hB;go_enter Tryz.func62,Tryz.ntmps62
 go_upto_region 1 with fail
 rw [←hW1];clear hW1;go_wp2
 go_ret2
 exact ⟨rfl,S0.out⟩
theorem rRound_hi {w:World}{a:Option Addr}{l c:Nat}(n:Bool) (e mode:Int) (hm0:decide (mode<0)=false) (hm:4<mode) :
 Calls Tryz.prog 62 #[.agg #[.bool n,.slice a l c,.int .i64 e],.int .i64 mode] w fun r w'=>r=.returned (.tuple #[.float .f64 0,.int .i64 1])∧Below w.heap.size w w':=by
 obtain ⟨W1,hW1⟩:∃ W,W=w.alloc (.cells #[.bool n,.slice a l c,.int .i64 e] 47):=⟨_,rfl⟩;have D0:Dk W1 w.heap.size n (.slice a l c) e:=by rw [hW1];exact Dk.new _ _ _ _
 have hB:Below w.heap.size w W1:=by rw [hW1];exact below_alloc w _
 have S0:=qsd hB;clear D0 hB;go_enter Tryz.func62,Tryz.ntmps62
 go_upto_region 1 with fail
 rw [←hW1];clear hW1;go_wp2
 go_ret2
 exact ⟨rfl,S0.out⟩
theorem rRound_no {w:World}{a:Option Addr}{l c:Nat}(n:Bool) (e mode:Int) (nD:Bool) (eD:Int) (XD:Nat) (hm0:0≤mode) (hm4:mode≤4) (lX:(ws XD).length≤8192)
 (HM:Hid (∀ (u:World),Below w.heap.size w u→Calls Tryz.prog 68 #[.agg #[.bool n,.slice a l c,.int .i64 e]] u fun r w'=>(∃ v,r=.returned (.tuple #[.agg #[.bool nD,v,.int .i64 eD],.bool false])∧Nt u.heap.size w' v XD)∧Below u.heap.size u w')) :
 Calls Tryz.prog 62 #[.agg #[.bool n,.slice a l c,.int .i64 e],.int .i64 mode] w fun r w'=>r=.returned (.tuple #[.float .f64 0,.int .i64 2])∧Below w.heap.size w w':=by
 obtain ⟨W1,hW1⟩:∃ W,W=w.alloc (.cells #[.bool n,.slice a l c,.int .i64 e] 47):=⟨_,rfl⟩;have D0:Dk W1 w.heap.size n (.slice a l c) e:=by rw [hW1];exact Dk.new _ _ _ _
 have hB:Below w.heap.size w W1:=by rw [hW1];exact below_alloc w _
 obtain ⟨p0,p1,p2,pf0,pf1,pf2⟩:=D0.facts;have H1:=hid (HM.out W1 hB);have S0:=qsd hB;have hm1:decide (mode<0)=false:=decide_eq_false (by omega)
 have hm2:decide (4<mode)=false:=decide_eq_false (by omega)
 clear D0 hB;go_enter Tryz.func62,Tryz.ntmps62
 go_upto_region 1 with fail
 rw [←hW1];clear hW1
 go_wp2_with fail
 clear p0 p1 p2 pf0 pf1 pf2;refine H1.out.mono ?_;rintro r u1 ⟨⟨v,rfl,hN⟩,hb⟩;obtain ⟨a1,c1,rfl,_⟩:=hN.arg (by omega)
 obtain ⟨U1,hU1⟩:∃ U,U=u1.alloc (.cells #[.bool nD,.slice a1 (ws XD).length c1,.int .i64 eD] 47):=⟨_,rfl⟩;have hA:Below u1.heap.size u1 U1:=by rw [hU1];exact below_alloc _ _
 have DX:Dk U1 u1.heap.size nD (.slice a1 (ws XD).length c1) eD:=by rw [hU1];exact Dk.new _ _ _ _
 have B1:=S0.out.trans (hb.mono S0.out.size);have BU:=B1.trans (hA.mono B1.size);have NX:=hN.below hA;have S1:=(qsd (ai BU (ai DX NX)));clear hb hN hA DX B1 BU NX S0 H1
 go_upto_region 4 with fail
 rw [←hU1];clear hU1;go_wp2
 go_ret2
 exact ⟨rfl,S1.out.1⟩
theorem rRound_p {w:World}{a:Option Addr}{l c:Nat}(n:Bool) (e mode:Int) (eD:Int) (XD R:Nat) (kk k2:Int) (hm0:0≤mode) (hm4:mode≤4) (lX:(ws XD).length≤8192) (hk0:0≤kk) (hR:kk.toNat=R)
 (HM:Hid (∀ (u:World),Below w.heap.size w u→Calls Tryz.prog 68 #[.agg #[.bool n,.slice a l c,.int .i64 e]] u fun r w'=>(∃ v,r=.returned (.tuple #[.agg #[.bool false,v,.int .i64 eD],.bool true])∧Nt u.heap.size w' v XD)∧Below u.heap.size u w'))
 (HO:Hid (∀ (u:World),Calls Tryz.prog 66 #[] u fun r w'=>r=.returned (.agg #[.int .i64 53,.int .i64 (-1074),.int .u64 9218868437227405312])∧Below u.heap.size u w'))
 (HB:Hid (∀ (u:World) (p:Option Addr) (s:Nat),Arg u p (ws XD).length s (ws XD)→Calls Tryz.prog 116 #[.agg #[.int .i64 53,.int .i64 (-1074),.int .u64 9218868437227405312],.bool false,.slice p (ws XD).length s,.int .i64 eD,.int .i64 mode] u fun r w'=>r=.returned (.int .u64 kk)∧Below u.heap.size u w')) :
 Calls Tryz.prog 62 #[.agg #[.bool n,.slice a l c,.int .i64 e],.int .i64 mode] w fun r w'=>r=.returned (.tuple #[.float .f64 R,.int .i64 0])∧Below w.heap.size w w':=by
 obtain ⟨W1,hW1⟩:∃ W,W=w.alloc (.cells #[.bool n,.slice a l c,.int .i64 e] 47):=⟨_,rfl⟩;have D0:Dk W1 w.heap.size n (.slice a l c) e:=by rw [hW1];exact Dk.new _ _ _ _
 have hB:Below w.heap.size w W1:=by rw [hW1];exact below_alloc w _
 obtain ⟨p0,p1,p2,pf0,pf1,pf2⟩:=D0.facts;have H1:=hid (HM.out W1 hB);have S0:=qsd hB;have hm1:decide (mode<0)=false:=decide_eq_false (by omega)
 have hm2:decide (4<mode)=false:=decide_eq_false (by omega)
 clear D0 hB;go_enter Tryz.func62,Tryz.ntmps62
 go_upto_region 1 with fail
 rw [←hW1];clear hW1
 go_wp2_with fail
 clear p0 p1 p2 pf0 pf1 pf2;refine H1.out.mono ?_;rintro r u1 ⟨⟨v,rfl,hN⟩,hb⟩;obtain ⟨a1,c1,rfl,_⟩:=hN.arg (by omega)
 obtain ⟨U1,hU1⟩:∃ U,U=u1.alloc (.cells #[.bool false,.slice a1 (ws XD).length c1,.int .i64 eD] 47):=⟨_,rfl⟩;have hA:Below u1.heap.size u1 U1:=by rw [hU1];exact below_alloc _ _
 have DX:Dk U1 u1.heap.size false (.slice a1 (ws XD).length c1) eD:=by rw [hU1];exact Dk.new _ _ _ _
 have B1:=S0.out.trans (hb.mono S0.out.size);have BU:=B1.trans (hA.mono B1.size);have NX:=hN.below hA;have S1:=(qsd (ai BU (ai DX NX)));clear hb hN hA DX B1 BU NX S0 H1
 go_upto_region 4 with fail
 rw [←hU1];clear hU1;obtain ⟨p0,p1,p2,pf0,pf1,pf2⟩:=S1.out.2.1.facts
 go_upto_region 6 with fail
 go_cut [8] from 22 to 30 (fun kv wx=>kv=.int .u64 kk∧Aside (Below w.heap.size w wx∧Dk wx u1.heap.size false (.slice a1 (ws XD).length c1) eD))
 case first =>
  have O1:=hid (HO.out U1);have O2:=hid (HO.out U1.drew)
  go_region_held3 (fun w'=>w'.cell? ⟨u1.heap.size,0,none⟩=some (.bool false)∧w'.cell? ⟨u1.heap.size,1,none⟩=some (.slice a1 (ws XD).length c1)∧w'.cell? ⟨u1.heap.size,2,none⟩=some (.int .i64 eD)) (go_keep) (first
   | (go_at_call 66
      first | with_reducible refine O1.out.mono ?_ | with_reducible refine O2.out.mono ?_
      rintro r u3 ⟨rfl,hb⟩;have hb3:Below U1.heap.size U1 u3:=by first | exact hb | exact ((Below.refl _ U1).drew).trans (hb.mono (Nat.le_refl _))
      have KD:=S1.out.2.1.below hb3;have KN:=S1.out.2.2.below hb3;have KB:=S1.out.1.trans (hb3.mono S1.out.1.size);have HB3:=hid (HB.out u3 a1 c1 (KN.arg' (by omega)).2)
      obtain ⟨q0,q1,q2,qf0,qf1,qf2⟩:=KD.facts;have S9:=(qsd (ai KB KD));clear hb hb3 KD KN KB)
   | (go_at_call 116
      with_reducible refine HB3.out.mono ?_
      rintro r u4 ⟨rfl,hb⟩;have LD:=S9.out.2.below hb;obtain ⟨t0,t1,t2,tf0,tf1,tf2⟩:=LD.facts;have LB:=S9.out.1.trans (hb.mono S9.out.1.size);have S10:=(qsd (ai LB LD));clear hb LD LB))
  all_goals (
   go_wp2
   go_meet
   case rel=>exact ⟨rfl,S10⟩)
 case rest =>
  obtain ⟨rfl,S2⟩:=hcut;clear p0 p1 p2 pf0 pf1 pf2;obtain ⟨p0,p1,p2,pf0,pf1,pf2⟩:=S2.out.2.facts;go_wp2
  go_ret2
  exact ⟨rfl,S2.out.1⟩
theorem rRound_n {w:World}{a:Option Addr}{l c:Nat}(n:Bool) (e mode:Int) (eD:Int) (XD R:Nat) (kk k2:Int) (hm0:0≤mode) (hm4:mode≤4) (lX:(ws XD).length≤8192) (hk0:0≤kk) (e1:IntKind.u64.wrap (kk+9223372036854775808)=k2) (hR:k2.toNat=R)
 (HM:Hid (∀ (u:World),Below w.heap.size w u→Calls Tryz.prog 68 #[.agg #[.bool n,.slice a l c,.int .i64 e]] u fun r w'=>(∃ v,r=.returned (.tuple #[.agg #[.bool true,v,.int .i64 eD],.bool true])∧Nt u.heap.size w' v XD)∧Below u.heap.size u w'))
 (HO:Hid (∀ (u:World),Calls Tryz.prog 66 #[] u fun r w'=>r=.returned (.agg #[.int .i64 53,.int .i64 (-1074),.int .u64 9218868437227405312])∧Below u.heap.size u w'))
 (HB:Hid (∀ (u:World) (p:Option Addr) (s:Nat),Arg u p (ws XD).length s (ws XD)→Calls Tryz.prog 116 #[.agg #[.int .i64 53,.int .i64 (-1074),.int .u64 9218868437227405312],.bool true,.slice p (ws XD).length s,.int .i64 eD,.int .i64 mode] u fun r w'=>r=.returned (.int .u64 kk)∧Below u.heap.size u w')) :
 Calls Tryz.prog 62 #[.agg #[.bool n,.slice a l c,.int .i64 e],.int .i64 mode] w fun r w'=>r=.returned (.tuple #[.float .f64 R,.int .i64 0])∧Below w.heap.size w w':=by
 obtain ⟨W1,hW1⟩:∃ W,W=w.alloc (.cells #[.bool n,.slice a l c,.int .i64 e] 47):=⟨_,rfl⟩;have D0:Dk W1 w.heap.size n (.slice a l c) e:=by rw [hW1];exact Dk.new _ _ _ _
 have hB:Below w.heap.size w W1:=by rw [hW1];exact below_alloc w _
 obtain ⟨p0,p1,p2,pf0,pf1,pf2⟩:=D0.facts;have H1:=hid (HM.out W1 hB);have S0:=qsd hB;have hm1:decide (mode<0)=false:=decide_eq_false (by omega)
 have hm2:decide (4<mode)=false:=decide_eq_false (by omega)
 clear D0 hB;go_enter Tryz.func62,Tryz.ntmps62
 go_upto_region 1 with fail
 rw [←hW1];clear hW1
 go_wp2_with fail
 clear p0 p1 p2 pf0 pf1 pf2;refine H1.out.mono ?_;rintro r u1 ⟨⟨v,rfl,hN⟩,hb⟩;obtain ⟨a1,c1,rfl,_⟩:=hN.arg (by omega)
 obtain ⟨U1,hU1⟩:∃ U,U=u1.alloc (.cells #[.bool true,.slice a1 (ws XD).length c1,.int .i64 eD] 47):=⟨_,rfl⟩;have hA:Below u1.heap.size u1 U1:=by rw [hU1];exact below_alloc _ _
 have DX:Dk U1 u1.heap.size true (.slice a1 (ws XD).length c1) eD:=by rw [hU1];exact Dk.new _ _ _ _
 have B1:=S0.out.trans (hb.mono S0.out.size);have BU:=B1.trans (hA.mono B1.size);have NX:=hN.below hA;have S1:=(qsd (ai BU (ai DX NX)));clear hb hN hA DX B1 BU NX S0 H1
 go_upto_region 4 with fail
 rw [←hU1];clear hU1;obtain ⟨p0,p1,p2,pf0,pf1,pf2⟩:=S1.out.2.1.facts
 go_upto_region 6 with fail
 go_cut [8] from 22 to 30 (fun kv wx=>kv=.int .u64 kk∧Aside (Below w.heap.size w wx∧Dk wx u1.heap.size true (.slice a1 (ws XD).length c1) eD))
 case first =>
  have O1:=hid (HO.out U1);have O2:=hid (HO.out U1.drew)
  go_region_held3 (fun w'=>w'.cell? ⟨u1.heap.size,0,none⟩=some (.bool true)∧w'.cell? ⟨u1.heap.size,1,none⟩=some (.slice a1 (ws XD).length c1)∧w'.cell? ⟨u1.heap.size,2,none⟩=some (.int .i64 eD)) (go_keep) (first
   | (go_at_call 66
      first | with_reducible refine O1.out.mono ?_ | with_reducible refine O2.out.mono ?_
      rintro r u3 ⟨rfl,hb⟩;have hb3:Below U1.heap.size U1 u3:=by first | exact hb | exact ((Below.refl _ U1).drew).trans (hb.mono (Nat.le_refl _))
      have KD:=S1.out.2.1.below hb3;have KN:=S1.out.2.2.below hb3;have KB:=S1.out.1.trans (hb3.mono S1.out.1.size);have HB3:=hid (HB.out u3 a1 c1 (KN.arg' (by omega)).2)
      obtain ⟨q0,q1,q2,qf0,qf1,qf2⟩:=KD.facts;have S9:=(qsd (ai KB KD));clear hb hb3 KD KN KB)
   | (go_at_call 116
      with_reducible refine HB3.out.mono ?_
      rintro r u4 ⟨rfl,hb⟩;have LD:=S9.out.2.below hb;obtain ⟨t0,t1,t2,tf0,tf1,tf2⟩:=LD.facts;have LB:=S9.out.1.trans (hb.mono S9.out.1.size);have S10:=(qsd (ai LB LD));clear hb LD LB))
  all_goals (
   go_wp2
   go_meet
   case rel=>exact ⟨rfl,S10⟩)
 case rest =>
  obtain ⟨rfl,S2⟩:=hcut;clear p0 p1 p2 pf0 pf1 pf2;obtain ⟨p0,p1,p2,pf0,pf1,pf2⟩:=S2.out.2.facts;go_wp2
  go_ret2
  exact ⟨rfl,S2.out.1⟩
end
section
open Go.RowKit
theorem moved_raw {w:World}{a:Option Addr}{l c:Nat}{xs:List Nat}{X:Nat}(k:Nat) (h1:Arg w a l c xs) (hX:val xs=X) (hl:l≤2000000) (hk:k≤64000000) :
 Calls Tryz.prog 71 #[.slice a l c,.int .i64 (k:Nat)] w fun r w'=>∃ v,r=.returned v∧Nt w.heap.size w' v (X*2^k)∧Below w.heap.size w w':=by
 obtain ⟨q,hq⟩:∃ q,q=k/32:=⟨_,rfl⟩;obtain ⟨s,hs⟩:∃ s,s=k%32:=⟨_,rfl⟩;have e1:(k:Int)/32=(q:Int):=by omega
 have e2:(k:Int)%32=(s:Int):=by omega
 have hqb:q≤2000000:=by omega
 have hs32:s<32:=by omega
 obtain ⟨W1,hW1⟩:∃ W,W=w.alloc (.cells (madeCells #[.int .u32 0] q) 133):=⟨_,rfl⟩;have hO1:Own W1 w.heap.size (List.replicate q 0):=by rw [hW1];exact Own.made w q
 have hB1:Below w.heap.size w W1:=by rw [hW1];exact (Below.refl _ _).alloc (Nat.le_refl _) _
 have hmk:=make_words (q:Int) q rfl (by omega) w
 rw [←hW1] at hmk;have hR:=own_row_made hO1 (by simp;omega)
 simp only [List.length_replicate] at hR;have A1:=h1.below hB1;obtain ⟨v',w2,hap,hown,hgrow⟩:=append_words W1 w.heap.size _ q (List.replicate q 0) xs a l c W1.heap.size 45 hR A1.len A1.rd A1.nil (by omega) hB1.size
 have hB2:Below w.heap.size w w2:=hB1.grown hgrow hB1.size (fun k hk=>by simp [Value.ownBlock] at hk;omega)
 obtain ⟨a2,c2,rfl,hc2,hl2,hnil2,hRd2⟩:=Rw.words hown;have AO:Arg w2 a2 (q+l) c2 (List.replicate q 0++xs):=⟨hl2,hc2,by omega,(Wf.zeros q).append h1.wf,hRd2,hnil2⟩
 have hval:val (List.replicate q 0++xs)=X*pw q:=by
  rw [val_append,val_zeros,hX,List.length_replicate,Nat.zero_add,Nat.mul_comm]
 have hpw:pw q*2^s=2^k:=by
  have:pw q=2^(32*q):=by unfold pw;rw [Nat.pow_mul]
  rw [this,←Nat.pow_add]
  congr 1
  omega
 have hps:=pow_small s hs32;obtain ⟨p,hp⟩:∃ p,p=2^s:=⟨_,rfl⟩
 have e3:(2:Int)^s=(p:Int):=by
  have h5:((2^s:Nat):Int)=(2:Int)^s:=by simp
  rw [←h5,←hp]
 have hpl:p<4294967296:=by omega
 have T1:=hid (rTimes_arg (V:=X*2^k) (AO.below (below_alloc w2 _)) (lit_arg w2 p (by omega)) (by omega) (by rw [hval];simp only [val];rw [←hpw,hp,Nat.mul_assoc];simp))
 have HAP:=hid hap;have hs2:=hB2.size;have S1:=qsd hB2;clear hap hown hgrow hB2 hl2 hnil2 hRd2 AO hval hpw A1 hR hO1 hB1 h1 hW1 hq hs hps hp hX;go_enter Tryz.func71,Tryz.ntmps71
 go_wp2_with (at_builtin;refine wpList_append_run2 rfl (.tmp 39) (.tmp 40) 45 rfl _ _ rfl rfl _ _ HAP.out ?_)
 refine T1.out.mono ?_;rintro r u3 ⟨v3,rfl,hN3,hb3⟩;have S2:=(qsd (ai hN3 hb3));clear hN3 hb3;go_wp2;go_ret;obtain ⟨hN3,hb3⟩:=S2.out;exact ⟨v3,rfl,hN3.mono (by simp;omega),S1.out.trans (((below_alloc w2 _).trans (hb3.mono (by simp))).mono hs2)⟩
theorem ag_zero1 {w:World}{a b:Option Addr}{n c m d:Nat}(e f:Int) (x y:Nat) (bx:x≤1125899906842624) (by':y≤1125899906842624) (hx:x=0) (z:Int)
 (H1:Hid (Calls Tryz.prog 124 #[.slice a n c] w fun r w'=>r=.returned (.int .i64 (x:Nat))∧w'=w))
 (H2:Hid (Calls Tryz.prog 124 #[.slice b m d] w fun r w'=>r=.returned (.int .i64 (y:Nat))∧w'=w))
 (HC:Hid (Calls Tryz.prog 73 #[.slice a n c,.slice b m d] w fun r w'=>r=.returned (.int .i64 z)∧Below w.heap.size w w')):Calls Tryz.prog 76 #[.slice a n c,.int .i64 e,.slice b m d,.int .i64 f] w fun r w'=>r=.returned (.int .i64 z)∧Below w.heap.size w w':=by
 have ex:IntKind.u64.wrap (x:Int)=(x:Int):=by rw [IntKind.wrap_u64];omega
 have ey:IntKind.u64.wrap (y:Int)=(y:Int):=by rw [IntKind.wrap_u64];omega
 subst hx;go_enter Tryz.func76,Tryz.ntmps76
 go_wp2_with fail
 refine H1.out.mono ?_;rintro r ww ⟨rfl,hw⟩;rw [hw];clear hw ww
 go_wp2_with fail
 refine H2.out.mono ?_;rintro r ww ⟨rfl,hw⟩;rw [hw];clear hw ww
 go_wp2_with fail
 refine HC.out.mono ?_;rintro r u1 ⟨rfl,hb⟩;have S1:=qsd hb;clear hb;go_wp2;go_ret;exact ⟨rfl,S1.out⟩
theorem ag_zero2 {w:World}{a b:Option Addr}{n c m d:Nat}(e f:Int) (x y:Nat) (bx:x≤1125899906842624) (by':y≤1125899906842624) (hx:((x:Int)==0)=false) (hy:y=0) (z:Int)
 (H1:Hid (Calls Tryz.prog 124 #[.slice a n c] w fun r w'=>r=.returned (.int .i64 (x:Nat))∧w'=w))
 (H2:Hid (Calls Tryz.prog 124 #[.slice b m d] w fun r w'=>r=.returned (.int .i64 (y:Nat))∧w'=w))
 (HC:Hid (Calls Tryz.prog 73 #[.slice a n c,.slice b m d] w fun r w'=>r=.returned (.int .i64 z)∧Below w.heap.size w w')):Calls Tryz.prog 76 #[.slice a n c,.int .i64 e,.slice b m d,.int .i64 f] w fun r w'=>r=.returned (.int .i64 z)∧Below w.heap.size w w':=by
 have ex:IntKind.u64.wrap (x:Int)=(x:Int):=by rw [IntKind.wrap_u64];omega
 have ey:IntKind.u64.wrap (y:Int)=(y:Int):=by rw [IntKind.wrap_u64];omega
 subst hy;go_enter Tryz.func76,Tryz.ntmps76
 go_wp2_with fail
 refine H1.out.mono ?_;rintro r ww ⟨rfl,hw⟩;rw [hw];clear hw ww
 go_wp2_with fail
 refine H2.out.mono ?_;rintro r ww ⟨rfl,hw⟩;rw [hw];clear hw ww
 go_wp2_with fail
 refine HC.out.mono ?_;rintro r u1 ⟨rfl,hb⟩;have S1:=qsd hb;clear hb;go_wp2;go_ret;exact ⟨rfl,S1.out⟩
theorem ag_turn {w:World}{a b:Option Addr}{n c m d:Nat}(e f:Int) (x y:Nat) (bx:x≤1125899906842624) (by':y≤1125899906842624) (hx:((x:Int)==0)=false) (hy:((y:Int)==0)=false) (hlt:e<f) (z:Int) (hz0:-1≤z) (hz1:z≤1)
 (H1:Hid (Calls Tryz.prog 124 #[.slice a n c] w fun r w'=>r=.returned (.int .i64 (x:Nat))∧w'=w))
 (H2:Hid (Calls Tryz.prog 124 #[.slice b m d] w fun r w'=>r=.returned (.int .i64 (y:Nat))∧w'=w))
 (HR:Hid (Calls Tryz.prog 76 #[.slice b m d,.int .i64 f,.slice a n c,.int .i64 e] w fun r w'=>r=.returned (.int .i64 z)∧Below w.heap.size w w')):Calls Tryz.prog 76 #[.slice a n c,.int .i64 e,.slice b m d,.int .i64 f] w fun r w'=>r=.returned (.int .i64 (-z))∧Below w.heap.size w w':=by
 have ex:IntKind.u64.wrap (x:Int)=(x:Int):=by rw [IntKind.wrap_u64];omega
 have ey:IntKind.u64.wrap (y:Int)=(y:Int):=by rw [IntKind.wrap_u64];omega
 go_enter Tryz.func76,Tryz.ntmps76
 go_wp2_with fail
 refine H1.out.mono ?_;rintro r ww ⟨rfl,hw⟩;rw [hw];clear hw ww
 go_wp2_with fail
 refine H2.out.mono ?_;rintro r ww ⟨rfl,hw⟩;rw [hw];clear hw ww
 go_wp2_with fail
 refine HR.out.mono ?_;rintro r u1 ⟨rfl,hb⟩;have S1:=qsd hb;clear hb;go_wp2;go_ret;exact ⟨rfl,S1.out⟩
theorem ag_far {w:World}{a b:Option Addr}{n c m d:Nat}(e f:Int) (x y:Nat) (bx:x≤1125899906842624) (by':y≤1125899906842624) (hx:((x:Int)==0)=false) (hy:((y:Int)==0)=false) (hge:decide (e<f)=false) (dd:Nat) (hap:IntKind.u64.wrap (IntKind.u64.wrap e-IntKind.u64.wrap f)=(dd:Int)) (hd:1099511627776<dd)
 (H1:Hid (Calls Tryz.prog 124 #[.slice a n c] w fun r w'=>r=.returned (.int .i64 (x:Nat))∧w'=w))
 (H2:Hid (Calls Tryz.prog 124 #[.slice b m d] w fun r w'=>r=.returned (.int .i64 (y:Nat))∧w'=w)):Calls Tryz.prog 76 #[.slice a n c,.int .i64 e,.slice b m d,.int .i64 f] w fun r w'=>r=.returned (.int .i64 1)∧Below w.heap.size w w':=by
 have hd2:(1099511627776:Int)<(dd:Int):=by omega
 have ex:IntKind.u64.wrap (x:Int)=(x:Int):=by rw [IntKind.wrap_u64];omega
 have ey:IntKind.u64.wrap (y:Int)=(y:Int):=by rw [IntKind.wrap_u64];omega
 go_enter Tryz.func76,Tryz.ntmps76
 go_wp2_with fail
 refine H1.out.mono ?_;rintro r ww ⟨rfl,hw⟩;rw [hw];clear hw ww
 go_wp2_with fail
 refine H2.out.mono ?_;rintro r ww ⟨rfl,hw⟩;rw [hw];clear hw ww;go_wp2;go_ret;exact ⟨rfl,Below.refl _ _⟩
theorem ag_more {w:World}{a b:Option Addr}{n c m d:Nat}(e f:Int) (x y:Nat) (bx:x≤1125899906842624) (by':y≤1125899906842624) (hx:((x:Int)==0)=false) (hy:((y:Int)==0)=false) (hge:decide (e<f)=false) (dd:Nat) (hap:IntKind.u64.wrap (IntKind.u64.wrap e-IntKind.u64.wrap f)=(dd:Int)) (hd:dd≤1099511627776) (h1:y<x+dd)
 (H1:Hid (Calls Tryz.prog 124 #[.slice a n c] w fun r w'=>r=.returned (.int .i64 (x:Nat))∧w'=w))
 (H2:Hid (Calls Tryz.prog 124 #[.slice b m d] w fun r w'=>r=.returned (.int .i64 (y:Nat))∧w'=w)):Calls Tryz.prog 76 #[.slice a n c,.int .i64 e,.slice b m d,.int .i64 f] w fun r w'=>r=.returned (.int .i64 1)∧Below w.heap.size w w':=by
 have hd2:decide ((1099511627776:Int)<(dd:Int))=false:=decide_eq_false (by omega)
 have hd3:decide (1099511627776<dd)=false:=decide_eq_false (by omega)
 have es:IntKind.u64.wrap ((x:Int)+(dd:Int))=(x:Int)+(dd:Int):=by rw [IntKind.wrap_u64];omega
 have h2:(y:Int)<(x:Int)+(dd:Int):=by omega
 have ex:IntKind.u64.wrap (x:Int)=(x:Int):=by rw [IntKind.wrap_u64];omega
 have ey:IntKind.u64.wrap (y:Int)=(y:Int):=by rw [IntKind.wrap_u64];omega
 go_enter Tryz.func76,Tryz.ntmps76
 go_wp2_with fail
 refine H1.out.mono ?_;rintro r ww ⟨rfl,hw⟩;rw [hw];clear hw ww
 go_wp2_with fail
 refine H2.out.mono ?_;rintro r ww ⟨rfl,hw⟩;rw [hw];clear hw ww;go_wp2;go_ret;exact ⟨rfl,Below.refl _ _⟩
theorem ag_less {w:World}{a b:Option Addr}{n c m d:Nat}(e f:Int) (x y:Nat) (bx:x≤1125899906842624) (by':y≤1125899906842624) (hx:((x:Int)==0)=false) (hy:((y:Int)==0)=false) (hge:decide (e<f)=false) (dd:Nat) (hap:IntKind.u64.wrap (IntKind.u64.wrap e-IntKind.u64.wrap f)=(dd:Int)) (hd:dd≤1099511627776) (h1:x+dd<y)
 (H1:Hid (Calls Tryz.prog 124 #[.slice a n c] w fun r w'=>r=.returned (.int .i64 (x:Nat))∧w'=w))
 (H2:Hid (Calls Tryz.prog 124 #[.slice b m d] w fun r w'=>r=.returned (.int .i64 (y:Nat))∧w'=w)):Calls Tryz.prog 76 #[.slice a n c,.int .i64 e,.slice b m d,.int .i64 f] w fun r w'=>r=.returned (.int .i64 (-1))∧Below w.heap.size w w':=by
 have hd2:decide ((1099511627776:Int)<(dd:Int))=false:=decide_eq_false (by omega)
 have hd3:decide (1099511627776<dd)=false:=decide_eq_false (by omega)
 have es:IntKind.u64.wrap ((x:Int)+(dd:Int))=(x:Int)+(dd:Int):=by rw [IntKind.wrap_u64];omega
 have h2:(x:Int)+(dd:Int)<(y:Int):=by omega
 have h3:decide ((y:Int)<(x:Int)+(dd:Int))=false:=decide_eq_false (by omega)
 have h4:decide (y<x+dd)=false:=decide_eq_false (by omega)
 have ex:IntKind.u64.wrap (x:Int)=(x:Int):=by rw [IntKind.wrap_u64];omega
 have ey:IntKind.u64.wrap (y:Int)=(y:Int):=by rw [IntKind.wrap_u64];omega
 go_enter Tryz.func76,Tryz.ntmps76
 go_wp2_with fail
 refine H1.out.mono ?_;rintro r ww ⟨rfl,hw⟩;rw [hw];clear hw ww
 go_wp2_with fail
 refine H2.out.mono ?_;rintro r ww ⟨rfl,hw⟩;rw [hw];clear hw ww;go_wp2;go_ret;exact ⟨rfl,Below.refl _ _⟩
theorem ag_even {w:World}{a b:Option Addr}{n c m d:Nat}(e f:Int) (x y:Nat) (bx:x≤1125899906842624) (by':y≤1125899906842624) (hx:((x:Int)==0)=false) (hy:((y:Int)==0)=false) (hge:decide (e<f)=false) (dd:Nat) (hap:IntKind.u64.wrap (IntKind.u64.wrap e-IntKind.u64.wrap f)=(dd:Int)) (hd:dd≤64000000) (h1:x+dd=y) (P:Nat) (lP:(ws P).length≤35184372088832) (z:Int)
 (H1:Hid (Calls Tryz.prog 124 #[.slice a n c] w fun r w'=>r=.returned (.int .i64 (x:Nat))∧w'=w))
 (H2:Hid (Calls Tryz.prog 124 #[.slice b m d] w fun r w'=>r=.returned (.int .i64 (y:Nat))∧w'=w))
 (HM:Hid (Calls Tryz.prog 71 #[.slice a n c,.int .i64 (dd:Nat)] w fun r w'=>∃ v,r=.returned v∧Nt w.heap.size w' v P∧Below w.heap.size w w'))
 (HC:Hid (∀ u p q,Below w.heap.size w u→Arg u p (ws P).length q (ws P)→Calls Tryz.prog 73 #[.slice p (ws P).length q,.slice b m d] u fun r w'=>r=.returned (.int .i64 z)∧Below u.heap.size u w')):Calls Tryz.prog 76 #[.slice a n c,.int .i64 e,.slice b m d,.int .i64 f] w fun r w'=>r=.returned (.int .i64 z)∧Below w.heap.size w w':=by
 have hd2:decide ((1099511627776:Int)<(dd:Int))=false:=decide_eq_false (by omega)
 have hd3:decide (1099511627776<dd)=false:=decide_eq_false (by omega)
 have es:IntKind.u64.wrap ((x:Int)+(dd:Int))=(x:Int)+(dd:Int):=by rw [IntKind.wrap_u64];omega
 have h2:decide ((x:Int)+(dd:Int)<(y:Int))=false:=decide_eq_false (by omega)
 have h3:decide ((y:Int)<(x:Int)+(dd:Int))=false:=decide_eq_false (by omega)
 have h4:decide (y<x+dd)=false:=decide_eq_false (by omega)
 have h5:decide (x+dd<y)=false:=decide_eq_false (by omega)
 have ed:IntKind.i64.wrap (dd:Int)=(dd:Int):=by rw [IntKind.wrap_i64];omega
 clear h1;have ex:IntKind.u64.wrap (x:Int)=(x:Int):=by rw [IntKind.wrap_u64];omega
 have ey:IntKind.u64.wrap (y:Int)=(y:Int):=by rw [IntKind.wrap_u64];omega
 go_enter Tryz.func76,Tryz.ntmps76
 go_wp2_with fail
 refine H1.out.mono ?_;rintro r ww ⟨rfl,hw⟩;rw [hw];clear hw ww
 go_wp2_with fail
 refine H2.out.mono ?_;rintro r ww ⟨rfl,hw⟩;rw [hw];clear hw ww
 go_wp2_with fail
 refine HM.out.mono ?_;rintro r u1 ⟨v,rfl,hN,hb⟩;obtain ⟨a1,c1,rfl,A1⟩:=hN.arg lP;have HC1:=hid (HC.out u1 a1 c1 hb A1);have hs1:=hb.size;have S1:=qsd hb;clear hN hb A1
 go_wp2_with fail
 refine HC1.out.mono ?_;rintro r u2 ⟨rfl,hb⟩;have S2:=qsd (S1.out.trans (hb.mono hs1));clear hb;go_wp2;go_ret;exact ⟨rfl,S2.out⟩
def agV (X:Nat) (e:Int) (Y:Nat) (f:Int):Int:=if X=0∨Y=0 then cmpI X Y else cmpP X e Y f
theorem against_ge {w:World}{a b:Option Addr}{n c m d:Nat}{xs ys:List Nat}(h1:Arg w a n c xs) (h2:Arg w b m d ys) (hn:n≤2000000) (hm:m≤2000000) (e f:Int) (he0:-9223372036854775808≤e) (he1:e≤9223372036854775807) (hf0:-9223372036854775808≤f) (hf1:f≤9223372036854775807) (h:f≤e) (hX:val xs≠0) (hY:val ys≠0) :
 Calls Tryz.prog 76 #[.slice a n c,.int .i64 e,.slice b m d,.int .i64 f] w fun r w'=>r=.returned (.int .i64 (cmpP (val xs) e (val ys) f))∧Below w.heap.size w w':=by
 have b1:=h1.big;have b2:=h2.big;have L1:=hid (rLen_any xs a n c w.heap.size w h1.len (by omega) h1.wf h1.rd)
 have L2:=hid (rLen_any ys b m d w.heap.size w h2.len (by omega) h2.wf h2.rd)
 have x0:(((bl (val xs):Nat):Int)==0)=false:=by have:=bl_pos _ hX;simp;omega
 have y0:(((bl (val ys):Nat):Int)==0)=false:=by have:=bl_pos _ hY;simp;omega
 have hap:=u64_apart e f he0 he1 hf0 hf1 h;have hge:decide (e<f)=false:=decide_eq_false (by omega)
 have c1:=bl_arg h1
 have c2:bl (val ys)≤64000000:=by
  have:=val_lt ys h2.wf;rw [←h2.len] at this;have:=bl_pw _ _ this;omega
 unfold cmpP;rw [if_neg (by omega)]
 obtain ⟨dd,hdd⟩:∃ dd,(e-f).toNat=dd:=⟨_,rfl⟩;rw [hdd] at hap ⊢;have hb:=bl_up (val xs) dd hX
 by_cases k1:1099511627776<dd
 · have:cmpI (val xs*2^dd) (val ys)=1:=by
    rw [cmpI_bl (by omega),hb];unfold cmpI;rw [if_neg (by omega),if_pos (by omega)]
   rw [this];exact ag_far e f _ _ c1 (by omega) x0 y0 hge dd hap k1 L1 L2
 · by_cases k2:bl (val ys)<bl (val xs)+dd
   · have:cmpI (val xs*2^dd) (val ys)=1:=by
      rw [cmpI_bl (by omega),hb];unfold cmpI;rw [if_neg (by omega),if_pos (by omega)]
     rw [this];exact ag_more e f _ _ c1 (by omega) x0 y0 hge dd hap (by omega) k2 L1 L2
   · by_cases k3:bl (val xs)+dd<bl (val ys)
     · have:cmpI (val xs*2^dd) (val ys)=-1:=by
        rw [cmpI_bl (by omega),hb];unfold cmpI;rw [if_pos (by omega)]
       rw [this];exact ag_less e f _ _ c1 (by omega) x0 y0 hge dd hap (by omega) k3 L1 L2
     · have lP:(ws (val xs*2^dd)).length≤35184372088832:=by rw [ws_len_bl,hb];omega
       obtain ⟨P,hP⟩:∃ P,val xs*2^dd=P:=⟨_,rfl⟩;have HM:=hid (moved_raw (X:=val xs) dd h1 rfl hn (by omega))
       rw [hP] at HM lP ⊢;exact ag_even e f _ _ c1 (by omega) x0 y0 hge dd hap (by omega) (by omega) P lP _ L1 L2 HM (hid fun u p q hu hA=>rCmp_arg hA (h2.below hu) _ (by rw [val_ws]))
theorem against_any {w:World}{a b:Option Addr}{n c m d:Nat}{xs ys:List Nat}(h1:Arg w a n c xs) (h2:Arg w b m d ys) (hn:n≤2000000) (hm:m≤2000000) (e f:Int) (he0:-9223372036854775808≤e) (he1:e≤9223372036854775807) (hf0:-9223372036854775808≤f) (hf1:f≤9223372036854775807) :
 Calls Tryz.prog 76 #[.slice a n c,.int .i64 e,.slice b m d,.int .i64 f] w fun r w'=>r=.returned (.int .i64 (agV (val xs) e (val ys) f))∧Below w.heap.size w w':=by
 have b1:=h1.big;have b2:=h2.big;have L1:=hid (rLen_any xs a n c w.heap.size w h1.len (by omega) h1.wf h1.rd)
 have L2:=hid (rLen_any ys b m d w.heap.size w h2.len (by omega) h2.wf h2.rd)
 have c1:=bl_arg h1;have c2:=bl_arg h2;unfold agV
 by_cases hX:val xs=0
 · rw [if_pos (.inl hX)]
   exact ag_zero1 e f _ _ c1 c2 (by rw [hX,bl_zero]) _ L1 L2 (hid (rCmp_arg h1 h2 _ rfl))
 · have x0:(((bl (val xs):Nat):Int)==0)=false:=by have:=bl_pos _ hX;simp;omega
   by_cases hY:val ys=0
   · rw [if_pos (.inr hY)]
     exact ag_zero2 e f _ _ c1 c2 x0 (by rw [hY,bl_zero]) _ L1 L2 (hid (rCmp_arg h1 h2 _ rfl))
   · have y0:(((bl (val ys):Nat):Int)==0)=false:=by have:=bl_pos _ hY;simp;omega
     rw [if_neg (fun h=>h.elim hX hY)]
     by_cases h:e<f
     · have hr:=cmpP_range (val ys) f (val xs) e
       have:=ag_turn e f _ _ c1 c2 x0 y0 h (cmpP (val ys) f (val xs) e) (by omega) (by omega) L1 L2 (hid (against_ge h2 h1 hm hn f e hf0 hf1 he0 he1 (by omega) hY hX))
       rw [cmpP_neg] at this;exact this
     · exact against_ge h1 h2 hn hm e f he0 he1 hf0 hf1 (by omega) hX hY
end
section
open Go.RowKit
theorem agV_z (X:Nat) (e:Int) (Y:Nat) (f B:Int) (h1:B≤e) (h2:B≤f):agV X e Y f=cmpZ ((X*2^(e-B).toNat:Nat):Int) ((Y*2^(f-B).toNat:Nat):Int):=by
 rw [cmpZ_nat];unfold agV
 by_cases h:X=0∨Y=0
 · rw [if_pos h]
   have p1:=pos_iff X (e-B).toNat;have p2:=pos_iff Y (f-B).toNat;generalize X*2^(e-B).toNat=P at p1 ⊢;generalize Y*2^(f-B).toNat=Q at p2 ⊢
   have q1:X=0∧P=0∨X≠0∧P≠0:=by
    by_cases h:X=0
    · exact .inl ⟨h,p1.2 h⟩
    · exact .inr ⟨h,fun k=>h (p1.1 k)⟩
   have q2:Y=0∧Q=0∨Y≠0∧Q≠0:=by
    by_cases h:Y=0
    · exact .inl ⟨h,p2.2 h⟩
    · exact .inr ⟨h,fun k=>h (p2.1 k)⟩
   clear p1 p2;unfold cmpI
   rcases h with h|h
   · rcases q1 with ⟨a,b⟩ | ⟨a,b⟩
     · rcases q2 with ⟨c,d⟩ | ⟨c,d⟩
       · rw [a,b,c,d]
       · rw [a,b,if_pos (by omega),if_pos (by omega)]
     · exact absurd h a
   · rcases q2 with ⟨c,d⟩ | ⟨c,d⟩
     · rcases q1 with ⟨a,b⟩ | ⟨a,b⟩
       · rw [a,b,c,d]
       · rw [c,d,if_neg (by omega),if_pos (by omega),if_neg (by omega),if_pos (by omega)]
     · exact absurd h c
 · rw [if_neg h]
   exact cmpP_base X e Y f B h1 h2
theorem num64_vK (k:Nat) (B:Int) (hB:B≤-1074):(num64 k).1*2^((num64 k).2-B).toNat=vK k*2^(-1074-B).toNat∧(num64 k).1<9007199254740992∧B≤(num64 k).2∧((num64 k).1=0↔k=0):=by
 unfold num64
 by_cases h:k/4503599627370496=0
 · rw [if_pos h]
   refine ⟨?_,by simp only;omega,by simp only;omega,by simp only;omega⟩
   simp only;have:=vK_word 0 k (.inl rfl) (by omega)
   rw [Nat.zero_mul,Nat.zero_add,Nat.pow_zero,Nat.mul_one] at this;rw [this,show k%4503599627370496=k by omega]
 · rw [if_neg h]
   obtain ⟨q,hq⟩:∃ q,k/4503599627370496=q:=⟨_,rfl⟩;obtain ⟨f,hf⟩:∃ f,k%4503599627370496=f:=⟨_,rfl⟩;rw [hq,hf];refine ⟨?_,by simp only;omega,by simp only;omega,by simp only;omega⟩
   simp only;have:=vK_word (q-1) (4503599627370496+f) (.inr (by omega)) (by omega)
   rw [show (q-1)*4503599627370496+(4503599627370496+f)=k by omega] at this
   rw [this,Nat.mul_assoc,←Nat.pow_add,show (-1074+(q:Int)-1-B).toNat=q-1+(-1074-B).toNat by omega]
theorem num64_len (k:Nat):(ws (num64 k).1).length≤8192:=len8 (by have:=bl_le53 _ (num64_vK k (-1074) (Int.le_refl _)).2.1;omega)
theorem num64_step (k:Nat):(num64 k).2≤(num64 (k+1)).2∧(num64 (k+1)).2≤(num64 k).2+1∧-1074≤(num64 k).2:=by
 unfold num64
 by_cases h:k/4503599627370496=0
 · rw [if_pos h]
   by_cases h':(k+1)/4503599627370496=0
   · rw [if_pos h'];simp only;omega
   · rw [if_neg h'];simp only;omega
 · rw [if_neg h,if_neg (by omega)]
   simp only;omega
end
section
open Go.RowKit
theorem cmpZ_range (x y:Int):cmpZ x y=-1∨cmpZ x y=0∨cmpZ x y=1:=by
 unfold cmpZ
 split
 · exact .inl rfl
 · split
   · exact .inr (.inr rfl)
   · exact .inr (.inl rfl)
theorem cmpZ_eq {x y:Int}:cmpZ x y=0↔x=y:=by
 unfold cmpZ
 split
 · omega
 · split
   · omega
   · omega
theorem cmpZ_pos {x y:Int}:0<cmpZ x y↔y<x:=by
 unfold cmpZ
 split
 · omega
 · split
   · omega
   · omega
def endK (X:Nat) (e:Int):Nat:=if X=0 then 0 else flK X e
def endZ (X:Nat) (e:Int) (k:Nat):Int:=agV (num64 k).1 (num64 k).2 X e
def endH (X:Nat) (e:Int) (k:Nat):Int:=agV (X*2) e ((num64 k).1+(num64 (k+1)).1*2^((num64 (k+1)).2-(num64 k).2).toNat) (num64 k).2
theorem endZ_z (X:Nat) (e:Int) (he:-1048576≤e) (k:Nat):endZ X e k=cmpZ ((vK k*2^(-1074 - -1048576:Int).toNat:Nat):Int) ((X*2^(e - -1048576).toNat:Nat):Int):=by
 have h:=num64_vK k (-1048576) (by omega)
 unfold endZ;rw [agV_z _ _ _ _ (-1048576) h.2.2.1 he,h.1]
theorem endH_z (X:Nat) (e:Int) (he:-1048576≤e) (k:Nat):endH X e k=cmpZ ((2*(X*2^(e - -1048576).toNat):Nat):Int) ((vK k*2^(-1074 - -1048576:Int).toNat+vK (k+1)*2^(-1074 - -1048576:Int).toNat:Nat):Int):=by
 have h:=num64_vK k (-1048576) (by omega)
 have h1:=num64_vK (k+1) (-1048576) (by omega)
 have hs:=num64_step k;unfold endH;rw [agV_z _ _ _ _ (-1048576) he h.2.2.1,←h.1,←h1.1,Nat.add_mul,Nat.mul_assoc (num64 (k+1)).1,←Nat.pow_add,show ((num64 (k+1)).2-(num64 k).2).toNat+((num64 k).2 - -1048576).toNat=((num64 (k+1)).2 - -1048576).toNat by omega,Nat.mul_comm X 2,Nat.mul_assoc 2]
theorem end_uniq {n:Bool}{X:Nat}{e:Int}(F:Frm n X e) (k:Nat) (hk:k<9218868437227405312) (h1:k=0∨endZ X e k≤0) (h2:k+1=9218868437227405312∨0<endZ X e (k+1)):k=endK X e:=by
 have a1:vK k*2^(-1074 - -1048576:Int).toNat≤X*2^(e - -1048576).toNat:=by
  rcases h1 with rfl|h1
  · rw [show vK 0=0 from B.val_zero _,Nat.zero_mul];exact Nat.zero_le _
  · rw [endZ_z X e F.down,cmpZ_le] at h1
    exact Int.ofNat_le.1 h1
 unfold endK
 by_cases hX:X=0
 · rw [if_pos hX]
   rw [hX,Nat.zero_mul] at a1
   by_cases h0:k=0
   · exact h0
   · have:=vS_lt (K:=0) (L:=k) (Nat.two_pow_pos (-1074 - -1048576:Int).toNat) (by omega)
     omega
 · rw [if_neg hX]
   have L:=lies X e (frm_odd F hX) F.down F.up (-1048576) F.down (by omega)
   refine (L.doc k hk a1 ?_).1
   rcases h2 with h2|h2
   · exact .inl h2
   · rw [endZ_z X e F.down,cmpZ_pos] at h2
     exact .inr (Int.ofNat_lt.1 h2)
theorem endK_lt {n:Bool}{X:Nat}{e:Int}(F:Frm n X e):endK X e<9218868437227405312:=by
 unfold endK
 split
 · omega
 · rename_i hX
   exact (lies X e (frm_odd F hX) F.down F.up (-1048576) F.down (by omega)).fin
theorem end_rW (mode:Int) {n:Bool}{X:Nat}{e:Int}(F:Frm n X e):nbyD mode n (endK X e) (endZ X e (endK X e)) (endH X e (endK X e))=rW mode n X e:=by
 unfold nbyD rW;rw [endZ_z X e F.down,endH_z X e F.down]
 by_cases hX:X=0
 · rw [if_pos hX]
   have hk:endK X e=0:=by unfold endK;rw [if_pos hX]
   rw [hk,if_pos];rw [cmpZ_eq,hX,show vK 0=0 from B.val_zero _,Nat.zero_mul,Nat.zero_mul]
 · rw [if_neg hX]
   have L:=lies X e (frm_odd F hX) F.down F.up (-1048576) F.down (by omega)
   have hk:endK X e=flK X e:=by unfold endK;rw [if_neg hX]
   rw [hk,rndK_eq]
   have hd:=L.doc (flK X e) L.fin L.ge (by
    cases ht:(plc 53 (-1074) 1024 X e).2.2.1 with
    | true =>
      have:=L.one ht
      right
      rw [this];exact vS_lt L.pos (by omega)
    | false =>
      rcases L.high ht with h|h
      · exact .inr h
      · exact .inl (by omega))
   unfold rK
   cases ht:(plc 53 (-1074) 1024 X e).2.2.1 with
   | true =>
     have:=L.one ht;rw [if_pos (cmpZ_eq.2 (by rw [this])),if_pos rfl]
   | false =>
     have h1:=L.low ht;have h2:=hd.2.2 ht;rw [if_neg (fun q=>by have:=Int.ofNat.inj (cmpZ_eq.1 q);omega),←h2]
     rfl
theorem nearby64 {u:World}{p:Option Addr}{s:Nat}{n:Bool}{X:Nat}{e:Int}(A:Arg u p (ws X).length s (ws X)) (F:Frm n X e) (mode:Int) (hm0:0≤mode) (hm4:mode≤4) :
 Calls Tryz.prog 116 #[.agg #[.int .i64 53,.int .i64 (-1074),.int .u64 9218868437227405312],.bool n,.slice p (ws X).length s,.int .i64 e,.int .i64 mode] u fun r w'=>r=.returned (.int .u64 (rW mode n X e:Nat))∧Below u.heap.size u w':=by
 have hd:=F.down;have hu:=F.up;have lX:=frm_len F;have hsz:=F.size;have hK:=endK_lt F;rw [←end_rW mode F];obtain ⟨K,hKK⟩:∃ K,endK X e=K:=⟨_,rfl⟩;rw [hKK] at hK ⊢;have b0:=num64_vK K (-1074) (Int.le_refl _);have b1:=num64_vK (K+1) (-1074) (Int.le_refl _);have st:=num64_step K;have fr:(num64 K).2≤1000:=by unfold num64;split <;> simp only <;> omega
 have t2:(ws (X*2)).length≤8193:=by
  rw [ws_len_bl];have h:=bl_le (X:=X*2) (k:=bl X+1) (by have:=bl_lt X;rw [Nat.pow_succ];omega)
  omega
 have hMV:(num64 (K+1)).1*2^((num64 (K+1)).2-(num64 K).2).toNat<2^54:=by
  have hp:2^((num64 (K+1)).2-(num64 K).2).toNat≤2:=by
   have:((num64 (K+1)).2-(num64 K).2).toNat≤1:=by omega
   exact Nat.le_trans (Nat.pow_le_pow_right (by omega) this) (by omega)
  have:=Nat.mul_le_mul_left (num64 (K+1)).1 hp;have:=b1.2.1;omega
 have lM:=len8 (X:=(num64 (K+1)).1*2^((num64 (K+1)).2-(num64 K).2).toNat) (by have:=bl_le hMV;omega)
 have lS:=len8 (X:=(num64 K).1+(num64 (K+1)).1*2^((num64 (K+1)).2-(num64 K).2).toNat) (by have:=bl_le (X:=(num64 K).1+(num64 (K+1)).1*2^((num64 (K+1)).2-(num64 K).2).toNat) (k:=55) (by have:=b0.2.1;omega);omega)
 have hv3:endH X e K=-1∨endH X e K=0∨endH X e K=1:=by rw [endH_z X e hd];exact cmpZ_range _ _
 have HAg:∀ (k:Nat) (v:World) (q:Option Addr) (t:Nat),k<9218868437227405312→Below u.heap.size u v→Arg v q (ws (num64 k).1).length t (ws (num64 k).1)→Calls Tryz.prog 76 #[.slice q (ws (num64 k).1).length t,.int .i64 (num64 k).2,.slice p (ws X).length s,.int .i64 e] v fun r w'=>r=.returned (.int .i64 (endZ X e k))∧Below v.heap.size v w':=fun k v q t hk hb hA=>by
  have hl:=num64_len k;have hr:-1074≤(num64 k).2∧(num64 k).2≤1000:=by unfold num64;split <;> simp only <;> omega
  have:=against_any hA (A.below hb) (by omega) (by omega) (num64 k).2 e (by omega) (by omega) (by omega) (by omega)
  rw [val_ws,val_ws] at this;exact this
 refine nearby_core 53 (-1074) 9218868437227405312 n K e (num64 K).2 mode (num64 K).1 _ _ (num64_len K) (by omega) hm0 hm4 hv3 ?_ (hid fun v=>rNumber64 K (by omega) v) (hid fun v q t hb hA=>HAg K v q t hK hb hA) ?_
 · refine hid fun v hb=>?_
   refine (below_core 53 (-1074) 9218868437227405312 e (by omega) (by omega) num64 (endZ X e) num64_len (hid fun k v hk=>rNumber64 k (by omega) v) (hid fun k v' q t hk hb' hA=>HAg k v' q t hk (hb.trans (hb'.mono hb.size)) hA)).mono ?_
   rintro r w' ⟨⟨k,rfl,hk,h1,h2⟩,hb2⟩;rw [end_uniq F k hk h1 h2,hKK];exact ⟨rfl,hb2⟩
 · refine hid fun v hb=>?_
   refine half_core 53 (-1074) 9218868437227405312 (K:Int) ((K+1:Nat):Int) e (num64 K).2 (num64 (K+1)).2 ((num64 (K+1)).2-(num64 K).2) (num64 K).1 (num64 (K+1)).1 ((num64 (K+1)).1*2^((num64 (K+1)).2-(num64 K).2).toNat) ((num64 K).1+(num64 (K+1)).1*2^((num64 (K+1)).2-(num64 K).2).toNat) (X*2) (endH X e K) (num64_len K) (num64_len _) lM lS (by omega) ?_ (decide_eq_false (by omega)) ?_ (hid fun v=>rNumber64 K (by omega) v) (hid fun v=>rNumber64 (K+1) (by omega) v) ?_ ?_ ?_ ?_
   · simp [IntKind.wrap,IntKind.bits,IntKind.signed];omega
   · simp [IntKind.wrap,IntKind.bits,IntKind.signed];omega
   · refine hid fun v' q t lo hN=>?_
     have:=moved_any hN ((num64 (K+1)).2-(num64 K).2) (by omega) (by omega) (fun h=>by have:=b1.2.2.2.1 h;omega) (by have:=num64_len (K+1);omega)
     rw [if_neg (by omega)] at this
     exact this
   · exact hid fun v' q t q2 t2 h1 h2=>rPlus_arg h1 h2 (by have:=num64_len K;omega) (by omega) (by rw [val_ws,val_ws])
   · exact hid fun v' q hb' hA=>rTimes_arg (A.below (hb.trans (hb'.mono hb.size))) hA (by omega) (by rw [val_ws];rfl)
   · refine hid fun v' q t q2 t3 h1 h2=>?_
     have:=against_any h1 h2 (by omega) (by omega) e (num64 K).2 (by omega) (by omega) (by omega) (by omega)
     rw [val_ws,val_ws] at this;exact this
end
section
open Go.RowKit
theorem rRound_any {w:World}{a:Option Addr}{l c:Nat}{xs:List Nat}(h1:Arg w a l c xs) (hl:l≤2000000) (n:Bool) (e mode:Int) (he0:-9223372036854775808≤e) (he1:e≤9223372036854775807) :
 Calls Tryz.prog 62 #[.agg #[.bool n,.slice a l c,.int .i64 e],.int .i64 mode] w fun r w'=>r=.returned (.tuple #[.float .f64 (rndS (mkS n (val xs) e) mode).1,.int .i64 (rndS (mkS n (val xs) e) mode).2])∧Below w.heap.size w w':=by
 have HM:=hid fun u (hu:Below w.heap.size w u)=>rMade_any (h1.below hu) hl n e he0 he1
 by_cases hm0:mode<0
 · have hr:rndS (mkS n (val xs) e) mode=(0,1):=by unfold rndS;rw [if_pos (.inl hm0)]
   rw [hr];exact rRound_lo n e mode hm0
 · by_cases hm4:4<mode
   · have hr:rndS (mkS n (val xs) e) mode=(0,1):=by unfold rndS;rw [if_pos (.inr hm4)]
     rw [hr];exact rRound_hi n e mode (decide_eq_false hm0) hm4
   · have lX:=mkS_len n (val xs) e
     cases ho:mkS n (val xs) e with
     | none =>
       rw [ho] at HM lX;have hr:rndS none mode=(0,2):=by unfold rndS;rw [if_neg (by omega)]
       rw [hr];exact rRound_no n e mode (dN none) (dE none) (dX none) (by omega) (by omega) lX HM
     | some x =>
       obtain ⟨nD,XD,eD⟩:=x;have F:=mkS_frm ho;rw [ho] at HM lX;rw [rndS_form mode nD XD eD (by omega) (by omega)]
       have hle:=rW_le mode nD XD eD F;have HB:=hid fun (u:World) (p:Option Addr) (s:Nat) (hA:Arg u p (ws XD).length s (ws XD))=>nearby64 hA F mode (by omega) (by omega)
       cases nD with
       | false =>
         refine rRound_p n e mode eD XD _ _ 0 (by omega) (by omega) lX (by omega) ?_ HM (hid fun u=>of64_any u) HB
         unfold wd64 rS
         split <;> simp
       | true =>
         have hX:XD≠0:=fun h=>by rcases F.odd with k | ⟨_,k,_⟩;omega;cases k
         refine rRound_n n e mode eD XD _ _ ((rW mode true XD eD:Nat)+9223372036854775808) (by omega) (by omega) lX (by omega) ?_ ?_ HM (hid fun u=>of64_any u) HB
         · simp [IntKind.wrap,IntKind.bits,IntKind.signed];omega
         · unfold wd64 rS
           rw [if_neg hX,if_pos rfl];omega
end
section
open Go.RowKit J
theorem sg1_sg (s:Bool) (v:Nat):sg1 s*(v:Int)=B.sg s v:=by unfold sg1 B.sg;cases s <;> simp
theorem top_v (K:Nat) (hK:K<9218868437227405312) (a:Nat) (ha:a=2045):vK K<9007199254740992*2^a:=by
 have h:=vK_word a 9007199254740992 (.inr (by omega)) (by omega)
 have h2:a*4503599627370496+9007199254740992=9218868437227405312:=by rw [ha]
 rw [←h,h2];exact vK_lt.2 hK
theorem of_fo (s:Bool) (K:Nat) (hK:K<9218868437227405312):∃ n X e,ofK s K=some (n,X,e)∧Fo (some (n,X,e)) (B.sg s (vK K)*(UU:Int)) (-1074) 1024∧(X=0↔K=0):=by
 obtain ⟨n,X,e,h1,F,h2,h3,h4⟩:=ofK_val s K hK;refine ⟨n,X,e,h1,⟨n,X,e,rfl,F,?_,?_⟩,h3⟩
 · obtain ⟨a,ha⟩:∃ a:Nat,(-1074 - -2097152:Int).toNat=a:=⟨_,rfl⟩
   have h5:=h4 (-2097152) (by omega)
   rw [ha] at h5;rw [h5,US a (by omega),Int.natCast_mul,Int.natCast_mul,←Int.mul_assoc,←Int.mul_assoc,sg1_sg]
 · by_cases hX:X=0
   · exact .inl hX
   · right
     have ho:=frm_odd F hX;have hd:=F.down
     -- in units of the form's own place
     have h5:=h4 (min e (-1074)) (by omega)
     unfold zv at h5;simp only at h5;rw [h2 hX] at h5
     have h6:X*2^(e-min e (-1074)).toNat=vK K*2^(-1074-min e (-1074)).toNat:=by
      unfold sg1 at h5
      cases s
      · simp only [Bool.false_eq_true,if_false,Int.one_mul] at h5;exact_mod_cast h5
      · simp only [if_true] at h5;have:=Int.eq_of_mul_eq_mul_left (by decide) h5;exact_mod_cast this
     have he:-1074≤e:=by
      apply Int.le_of_not_gt;intro hlt
      rw [show (e-min e (-1074)).toNat=0 by omega,Nat.pow_zero,Nat.mul_one] at h6
      obtain ⟨q,hq⟩:∃ q,(-1074-min e (-1074)).toNat=q+1:=⟨(-1074-min e (-1074)).toNat-1,by omega⟩
      rw [hq,Nat.pow_succ,←Nat.mul_assoc] at h6;omega
     refine ⟨he,?_⟩;rw [show (-1074-min e (-1074)).toNat=0 by omega,Nat.pow_zero,Nat.mul_one] at h6
     obtain ⟨q,hq⟩:∃ q,(e-min e (-1074)).toNat=q:=⟨_,rfl⟩;rw [hq] at h6;obtain ⟨c,hc⟩:∃ c:Nat,c=2045:=⟨_,rfl⟩;have h7:=top_v K hK c hc;have h8:=bl_ge X hX;have h9:=bl_pos X hX;obtain ⟨b,hb⟩:∃ b,bl X=b+1:=⟨bl X-1,by omega⟩
     rw [hb,Nat.add_sub_cancel] at h8;have h10:2^b*2^q<9007199254740992*2^c:=Nat.lt_of_le_of_lt (Nat.mul_le_mul_right _ h8) (by rw [h6];exact h7)
     rw [←Nat.pow_add,show (9007199254740992:Nat)=2^53 from rfl,←Nat.pow_add] at h10
     have h11:=(Nat.pow_lt_pow_iff_right (by decide:1<2)).1 h10
     omega
theorem read_nanW (x:Nat) (h:9218868437227405312<magW x):∃ s t,Ieee.double.read x=.nan s t:=⟨_,_,B.read_nan Ieee.double x (by rw [B.dInf,B.dSign];exact h) hBin⟩
theorem read_infW (x:Nat) (hx:x<18446744073709551616) (h:magW x=9218868437227405312):Ieee.double.read x=.infinity (negW x):=by
 have e:=wd_of x hx;rw [h,wd_word,←B.dInf] at e;rw [e,B.read_inf Ieee.double _ hInf hBin,←e]
theorem read_finW (x:Nat) (hx:x<18446744073709551616) (h:magW x<9218868437227405312):∃ m k,Ieee.double.read x=.number (negW x) m (Ieee.double.leastPlace+(k:Nat))∧m*2^k=vK (magW x):=by
 have e:=wd_of x hx;rw [wd_word] at e;obtain ⟨m,k,h1,h2⟩:=B.read_word Ieee.double (negW x) (magW x) (by rw [B.dInf];exact h) hInf
 rw [←e] at h1;exact ⟨m,k,h1,h2⟩
end
section
open Go.RowKit J
theorem turn_lt (y:Nat) (hy:y<18446744073709551616):turnW y<18446744073709551616:=by unfold turnW;split <;> omega
end
section
open Go.RowKit J
theorem absSg (s:Bool) (v:Nat):(B.sg s v).natAbs=v:=by unfold B.sg;cases s <;> simp
end
section
open Go.RowKit J
abbrev Wd (x:Nat):Prop:=x<18446744073709551616
end
section
open Go.RowKit J
abbrev finW (x:Nat):Prop:=magW x<9218868437227405312
def fvW (x:Nat):Int:=B.sg (negW x) (vK (magW x))
theorem sg_abs (s:Bool) (v:Nat):(B.sg s v).natAbs=v:=absSg s v
end
section
open Go.RowKit J
theorem fin_parts {x:Nat}(hx:x<18446744073709551616) (fx:finW x):ngW x=negW x∧vK (magW x)=frW x*2^(xpW x+1074).toNat∧-1074≤xpW x∧((clW x=0∧frW x=0)∨((clW x=1∨clW x=2)∧frW x≠0)):=by
 have hm:magW x=eW x*4503599627370496+fW x:=by unfold magW eW fW;omega
 have he:eW x<2047:=by have h:magW x<9218868437227405312:=fx;omega
 have hf:fW x<4503599627370496:=Nat.mod_lt _ (by decide)
 refine ⟨by unfold ngW B.ng;rw [if_neg (by omega)];rfl,?_⟩
 by_cases h0:eW x=0
 · have hfr:frW x=fW x:=by unfold frW B.fr;rw [if_neg (by omega),if_pos h0];simp
   have hxp:xpW x=-1074:=by unfold xpW B.xp;rw [if_neg (by omega),if_pos h0]
   have hv:vK (magW x)=fW x:=by
    have:=vK_word 0 (fW x) (.inl rfl) (by omega)
    rw [hm,h0];simpa using this
   refine ⟨by rw [hv,hfr,hxp];simp,by omega,?_⟩
   by_cases hz:fW x=0
   · exact .inl ⟨by unfold clW B.cls;rw [if_neg (by omega),if_pos h0,if_pos hz],by omega⟩
   · exact .inr ⟨.inl (by unfold clW B.cls;rw [if_neg (by omega),if_pos h0,if_neg hz]),by omega⟩
 · have hfr:frW x=fW x+4503599627370496:=by unfold frW B.fr;rw [if_neg (by omega),if_neg h0];omega
   have hxp:xpW x=(eW x:Int)-1075:=by unfold xpW B.xp;rw [if_neg (by omega),if_neg h0]
   have hv:vK (magW x)=(fW x+4503599627370496)*2^(eW x-1):=by
    have:=vK_word (eW x-1) (fW x+4503599627370496) (.inr (by omega)) (by omega)
    rw [←this,hm,show eW x*4503599627370496+fW x=(eW x-1)*4503599627370496+(fW x+4503599627370496) by omega]
   refine ⟨by rw [hv,hfr,hxp,show ((eW x:Int)-1075+1074).toNat=eW x-1 by omega],by omega,.inr ⟨.inr (by unfold clW B.cls;rw [if_neg (by omega),if_neg h0]),by omega⟩⟩
theorem sg_prod (a b:Bool) (f g i j:Nat):sgn7 (!(a==b)) (f*g*2^(i+j))=B.sg a (f*2^i)*B.sg b (g*2^j):=by
 have e:f*g*2^(i+j)=(f*2^i)*(g*2^j):=by
  rw [Nat.pow_add,Nat.mul_mul_mul_comm]
 rw [e];generalize f*2^i=P;generalize g*2^j=Q;unfold sgn7 B.sg
 cases a <;> cases b <;> simp [Int.neg_mul,Int.mul_neg]
theorem pT_mul {x y:Nat}(hx:x<18446744073709551616) (hy:y<18446744073709551616) (fx:finW x) (fy:finW y):pT x y=fvW x*fvW y∧(pK x y=0∨pK x y=4∨pK x y=5):=by
 obtain ⟨n1,v1,x1,c1⟩:=fin_parts hx fx;obtain ⟨n2,v2,x2,c2⟩:=fin_parts hy fy;unfold pT pK fvW;rw [n1,n2,v1,v2]
 by_cases hz:clW x=0∨clW y=0
 · have hmin:min (clW x) (clW y)=0:=by omega
   have hmax:max (clW x) (clW y)≤2:=by omega
   have hpk:pk (max (clW x) (clW y)) (min (clW x) (clW y)) (!negW x==negW y)=4∨pk (max (clW x) (clW y)) (min (clW x) (clW y)) (!negW x==negW y)=5:=by
    unfold pk;rw [hmin,if_neg (by omega),if_neg (by omega),if_pos rfl]
    split
    · exact .inl rfl
    · exact .inr rfl
   refine ⟨?_,.inr hpk⟩;rw [pv7_no (by omega)]
   rcases c1 with ⟨_,f1⟩|⟨k1,_⟩
   · rw [f1];simp [B.sg]
   · rcases c2 with ⟨_,f2⟩ | ⟨k2,_⟩
     · rw [f2];simp [B.sg]
     · omega
 · have hpk:pk (max (clW x) (clW y)) (min (clW x) (clW y)) (!negW x==negW y)=0:=by
    unfold pk;rw [if_neg (by omega),if_neg (by omega),if_neg (by omega)]
   refine ⟨?_,.inl hpk⟩;rw [pv7_yes hpk,show (xpW x+xpW y+2148).toNat=(xpW x+1074).toNat+(xpW y+1074).toNat by omega]
   have e:(!negW x==negW y)=!(negW x==negW y):=by cases negW x <;> cases negW y <;> rfl
   rw [e];exact sg_prod _ _ _ _ _ _
theorem cl_nan {x:Nat}(h:9218868437227405312<magW x):clW x=4:=by
 have hm:magW x=eW x*4503599627370496+fW x:=by unfold magW eW fW;omega
 have hf:fW x<4503599627370496:=Nat.mod_lt _ (by decide)
 have he:eW x<2048:=by have:magW x<9223372036854775808:=Nat.mod_lt _ (by decide);omega
 unfold clW B.cls;rw [if_pos (by omega),if_neg (by omega)]
theorem cl_inf {x:Nat}(h:magW x=9218868437227405312):clW x=3∧ngW x=negW x:=by
 have hm:magW x=eW x*4503599627370496+fW x:=by unfold magW eW fW;omega
 have hf:fW x<4503599627370496:=Nat.mod_lt _ (by decide)
 unfold clW B.cls ngW B.ng;rw [if_pos (by omega),if_pos (by omega),if_neg (by omega)]
 exact ⟨rfl,rfl⟩
theorem cl_range (x:Nat):0≤clW x∧clW x≤4:=by unfold clW B.cls;(repeat' split) <;> omega
theorem pT_odd {x y:Nat}(h:¬ (finW x∧finW y)):pT x y=0∧(pK x y=1∨pK x y=2∨pK x y=3):=by
 have h3:3≤max (clW x) (clW y):=by
  have aux:∀ z:Nat,¬ finW z→3≤clW z:=fun z hz=>by
   rcases Nat.lt_or_ge 9218868437227405312 (magW z) with q|q
   · rw [cl_nan q];omega
   · have:magW z=9218868437227405312:=by
      have:¬ magW z<9218868437227405312:=hz;omega
     rw [(cl_inf this).1];omega
  by_cases hx:finW x
  · have:=aux y (fun hy=>h ⟨hx,hy⟩);omega
  · have:=aux x hx;omega
 have h4:=cl_range x;have h5:=cl_range y
 have hpk:pK x y=1∨pK x y=2∨pK x y=3:=by
  unfold pK pk
  split
  · exact .inl rfl
  · rw [if_pos (by omega)]
    split
    · exact .inr (.inr rfl)
    · exact .inr (.inl rfl)
 refine ⟨?_,hpk⟩;unfold pT
 exact pv7_no (by have:pK x y≠0:=by omega
                  exact this)
theorem pK_self_inf {x:Nat}(h:magW x=9218868437227405312):pK x x=2:=by
 unfold pK pk;rw [(cl_inf h).1,if_neg (by omega),if_pos (by omega),if_neg (by cases ngW x <;> simp)]
end
section
open Go.RowKit J
theorem xor_up (z:Nat) (hz:z<2^63):z ^^^ 2^63=2^63+z:=by
 apply Nat.eq_of_testBit_eq
 intro i;rw [Nat.testBit_xor,Nat.testBit_two_pow]
 rcases Nat.lt_trichotomy i 63 with h|h|h
 · rw [Nat.testBit_two_pow_add_gt h]
   simp [show ¬ 63=i by omega]
 · subst h
   rw [Nat.testBit_two_pow_add_eq,Nat.testBit_lt_two_pow hz];simp
 · have h1:z<2^i:=Nat.lt_of_lt_of_le hz (Nat.pow_le_pow_right (by decide) (by omega))
   have h2:2^63+z<2^i:=Nat.lt_of_lt_of_le (show 2^63+z<2^64 by omega) (Nat.pow_le_pow_right (by decide) (by omega))
   rw [Nat.testBit_lt_two_pow h1,Nat.testBit_lt_two_pow h2];simp [show ¬ 63=i by omega]
theorem neg_turn (y:Nat) (hy:y<18446744073709551616):Op.negFloat .f64 y=turnW y:=by
 show y ^^^ 2^63=turnW y
 unfold turnW
 by_cases h:9223372036854775808≤y
 · rw [if_pos h]
   obtain ⟨z,hz⟩:∃ z,z=y-9223372036854775808:=⟨_,rfl⟩;have e:y=z ^^^ 2^63:=by rw [xor_up z (by omega)];omega
   rw [←hz,e,Nat.xor_assoc,Nat.xor_self,Nat.xor_zero]
 · rw [if_neg h,xor_up y (by omega)];omega
theorem sub_self_fin (x:Nat) (hx:x<18446744073709551616) (fx:finW x):floatBits .sub .f64 x x=some 0:=by
 obtain ⟨m,k,hr,_⟩:=read_finW x hx fx
 show ((Ieee.double.read x).sum (Ieee.double.read x).opposite).map Ieee.double.write=some 0
 rw [hr];generalize Ieee.double.leastPlace+(k:Int)=p
 have ht:Ieee.signed (negW x) m (p-min p p).toNat+Ieee.signed (!negW x) m (p-min p p).toNat=0:=by
  unfold Ieee.signed
  cases negW x <;> simp <;> omega
 simp only [Ieee.Datum.opposite,Ieee.Datum.sum,ht,if_true,Option.map_some];have hs:(negW x&&!negW x)=false:=by cases negW x <;> rfl
 rw [hs];rfl
theorem sub_nan (x y:Nat) (h:9218868437227405312<magW x∨9218868437227405312<magW y):floatBits .sub .f64 x y=none:=by
 show ((Ieee.double.read x).sum (Ieee.double.read y).opposite).map Ieee.double.write=none
 rcases h with h|h
 · obtain ⟨s,t,hr⟩:=read_nanW x h
   rw [hr];rfl
 · obtain ⟨s,t,hr⟩:=read_nanW y h
   rw [hr]
   cases Ieee.double.read x <;> rfl
theorem write_inf12 (s:Bool):Ieee.double.write (.infinity s)=wd64 s 9218868437227405312:=by cases s <;> decide +kernel
theorem sub_inf_inf (x y:Nat) (hx:x<18446744073709551616) (hy:y<18446744073709551616) (h1:magW x=9218868437227405312) (h2:magW y=9218868437227405312):floatBits .sub .f64 x y=if negW x=negW y then none else some (wd64 (negW x) 9218868437227405312):=by
 show ((Ieee.double.read x).sum (Ieee.double.read y).opposite).map Ieee.double.write=_
 rw [read_infW x hx h1,read_infW y hy h2];simp only [Ieee.Datum.opposite,Ieee.Datum.sum]
 cases negW x <;> cases negW y <;> simp [write_inf12]
theorem sub_inf_fin (x y:Nat) (hx:x<18446744073709551616) (hy:y<18446744073709551616) (h1:magW x=9218868437227405312) (h2:finW y):floatBits .sub .f64 x y=some (wd64 (negW x) 9218868437227405312):=by
 show ((Ieee.double.read x).sum (Ieee.double.read y).opposite).map Ieee.double.write=_
 obtain ⟨m,k,hr,_⟩:=read_finW y hy h2;rw [read_infW x hx h1,hr];simp only [Ieee.Datum.opposite,Ieee.Datum.sum,Option.map_some,write_inf12]
theorem sub_fin_inf (x y:Nat) (hx:x<18446744073709551616) (hy:y<18446744073709551616) (h1:finW x) (h2:magW y=9218868437227405312):floatBits .sub .f64 x y=some (wd64 (!negW y) 9218868437227405312):=by
 show ((Ieee.double.read x).sum (Ieee.double.read y).opposite).map Ieee.double.write=_
 obtain ⟨m,k,hr,_⟩:=read_finW x hx h1;rw [read_infW y hy h2,hr];simp only [Ieee.Datum.opposite,Ieee.Datum.sum,Option.map_some,write_inf12]
def k12 (x y:Nat):Nat:=if 9218868437227405312<magW x∨9218868437227405312<magW y∨(magW x=9218868437227405312∧magW y=9218868437227405312∧negW x=negW y) then 1 else 2
theorem wd_inf (s:Bool):magW (wd64 s 9218868437227405312)=9218868437227405312∧wd64 s 9218868437227405312<18446744073709551616:=by cases s <;> decide
theorem sub_odd (x y:Nat) (hx:x<18446744073709551616) (hy:y<18446744073709551616) (h:¬ (finW x∧finW y)) :
 (floatBits .sub .f64 x y=none∧k12 x y=1)∨∃ z,floatBits .sub .f64 x y=some z∧magW z=9218868437227405312∧z<18446744073709551616∧k12 x y=2:=by
 unfold k12
 by_cases n1:9218868437227405312<magW x
 · exact .inl ⟨sub_nan x y (.inl n1),if_pos (.inl n1)⟩
 · by_cases n2:9218868437227405312<magW y
   · exact .inl ⟨sub_nan x y (.inr n2),if_pos (.inr (.inl n2))⟩
   · by_cases f1:finW x
     · have f2:¬ finW y:=fun f2=>h ⟨f1,f2⟩
       have i2:magW y=9218868437227405312:=by have:¬ magW y<9218868437227405312:=f2;omega
       have g1:magW x<9218868437227405312:=f1;exact .inr ⟨_,sub_fin_inf x y hx hy f1 i2,(wd_inf _).1,(wd_inf _).2,if_neg (by omega)⟩
     · have i1:magW x=9218868437227405312:=by have:¬ magW x<9218868437227405312:=f1;omega
       by_cases f2:finW y
       · have g2:magW y<9218868437227405312:=f2
         exact .inr ⟨_,sub_inf_fin x y hx hy i1 f2,(wd_inf _).1,(wd_inf _).2,if_neg (by omega)⟩
       · have i2:magW y=9218868437227405312:=by have:¬ magW y<9218868437227405312:=f2;omega
         have e:=sub_inf_inf x y hx hy i1 i2
         by_cases hs:negW x=negW y
         · rw [if_pos hs] at e
           exact .inl ⟨e,if_pos (.inr (.inr ⟨i1,i2,hs⟩))⟩
         · rw [if_neg hs] at e
           exact .inr ⟨_,e,(wd_inf _).1,(wd_inf _).2,if_neg (by rintro (q | q | ⟨_,_,q⟩);exact n1 q;exact n2 q;exact hs q)⟩
theorem order_nan (z:Nat) (h:9218868437227405312<magW z):(FloatKind.f64.format.order z 0==some .eq)=false:=by
 obtain ⟨s,t,hr⟩:=read_nanW z h
 show ((Ieee.double.read z).order (Ieee.double.read 0)==some .eq)=false
 rw [hr];rfl
theorem pK_nans {x y:Nat}(h:9218868437227405312<magW x) (h2:9218868437227405312<magW y):pK x y=1:=by
 unfold pK pk;rw [cl_nan h,cl_nan h2,if_pos (by omega)]
end
section
open Go.RowKit J
theorem put12 (g h:Nat) (I:List (Nat×Int)) (x y:Nat) (w:World) (hA:At12 w g I) (hl:I.length<1000000) (hx:x<18446744073709551616) (hy:y<18446744073709551616) (hc:w.cell? ⟨h,0,none⟩=some (.pointer (some ⟨g,0,none⟩))) :
 Calls Tryz.prog 84 #[.float .f64 x,.float .f64 y,.pointer (some ⟨h,0,none⟩)] w fun r w'=>r=.returned (.tuple #[])∧At12 w' g (I++[(pK x y,pT x y)])∧But g w w':=by
 have HP:=hid (addP12 g I x y w hA hl hx hy);clear hA hl hx hy;go_enter Tryz.func84,Tryz.ntmps84
 go_wp2_with fail
 refine HP.out.mono ?_;rintro r u ⟨rfl,h1,h2⟩;have H:=qsd (ai h1 h2);clear h1 h2 HP hc;go_wp2
 go_end0
 exact ⟨rfl,H.out⟩
theorem sum12D (n p q:Nat) (J:Nat→List (Nat×Int)) (w:World) (hJ:J 0=[]) (hn:n≤65536)
 (HH:Hid (∀ (g h k:Nat) (u:World),w.heap.size≤g→w.heap.size≤h→k<n→At12 u g (J k)→u.cell? ⟨h,0,none⟩=some (.pointer (some ⟨g,0,none⟩))→Below w.heap.size w u →
  Calls Tryz.prog 38 #[.int .i64 (k:Nat),.func (.func 84) #[] #[.pointer (some ⟨h,0,none⟩)],.pointer (some ⟨p,0,none⟩),.pointer (some ⟨q,0,none⟩)] u fun r u'=>r=.returned (.tuple #[])∧At12 u' g (J (k+1))∧But g u u')) :
 Calls Tryz.prog 37 #[.int .i64 (n:Nat),.func (.func 38) #[] #[.pointer (some ⟨p,0,none⟩),.pointer (some ⟨q,0,none⟩)]] w fun r w'=>∃ g,r=.returned (.pointer (some ⟨g,0,none⟩))∧At12 w' g (J n)∧Below w.heap.size w w':=by
 have HJ:=qsd (ai hJ hn);clear hJ;go_enter Tryz.func37,Tryz.ntmps37
 go_wp2_with fail
 refine (New7 w).mono ?_;rintro r w1 ⟨rfl,hA,hb1⟩;obtain ⟨g,hg⟩:∃ g,g=w.heap.size:=⟨_,rfl⟩;rw [←hg] at hA ⊢;obtain ⟨h,hh⟩:∃ h,h=w1.heap.size:=⟨_,rfl⟩;obtain ⟨W,hW⟩:∃ W,W=w1.alloc (Obj.cells #[.pointer (some ⟨g,0,none⟩)] 57):=⟨_,rfl⟩
 have H0:Aside (At12 W g (J 0)∧W.cell? ⟨h,0,none⟩=some (.pointer (some ⟨g,0,none⟩))∧Below w.heap.size w W∧W.heap.size=h+1):=by
  rw [hW,HJ.out.1,hh];refine ⟨⟨hA.bel (bel_alloc _ _),fun p hp=>by cases hp⟩,?_,hb1.trans ((bel_alloc _ _).mono hb1.size),by simp⟩
  unfold World.cell?;simp only [heap_alloc_new];rfl
 have HG:Aside (w.heap.size≤g∧w.heap.size≤h∧g<h):=by rw [hg,hh];exact ⟨Nat.le_refl _,hb1.size,by have:=hA.lt;omega⟩
 have HW:=qsd hW;clear hA hb1 hg hW;go_wp2
 try rw [←hh]
 try rw [←HW.out]
 clear HW hh
 go_loopg [11] n (fun gk i wr=>∃ k:Nat,gk+k=n∧i=.int .i64 (k:Nat)∧Aside (At12 wr g (J k)∧wr.cell? ⟨h,0,none⟩=some (.pointer (some ⟨g,0,none⟩))∧Below w.heap.size w wr∧h<wr.heap.size))
 case atStart=>exact ⟨0,by omega,by simp,H0.out.1,H0.out.2.1,H0.out.2.2.1,by have:=H0.out.2.2.2;omega⟩
 case round =>
  clear H0;obtain ⟨k,hgk,rfl,HA⟩:=hrel
  by_cases hk:k<n
  · have C:=hid (HH.out g h k wr HG.out.1 HG.out.2.1 hk HA.out.1 HA.out.2.1 HA.out.2.2.1)
    have hkb:k<4611686018427387904:=by omega
    go_wp2_with fail
    refine C.out.mono ?_;rintro r u ⟨rfl,h1,hbut⟩
    have H3:Aside (At12 u g (J (k+1))∧u.cell? ⟨h,0,none⟩=some (.pointer (some ⟨g,0,none⟩))∧Below w.heap.size w u∧h<u.heap.size) :=
     ⟨h1,(World.cell?_of_block (a:=⟨h,0,none⟩) (hbut.block h HA.out.2.2.2 (by have:=HG.out.2.2;omega))).trans HA.out.2.1,But.below HA.out.2.2.1 hbut HA.out.2.2.1.size HG.out.1,Nat.lt_of_lt_of_le HA.out.2.2.2 hbut.size⟩
    clear h1 hbut C HA;go_wp2
    go_roundg (gk-1)
    case measure=>omega
    case rel=>exact ⟨k+1,by omega,by first | rfl | simp,H3.out⟩
  · obtain rfl:n=k:=by omega
    have hd:decide ((n:Int)<n)=false:=by simp
    have hc:=HA.out.2.1;clear HH;go_wp2;go_ret;exact ⟨g,rfl,HA.out.1,HA.out.2.2.1⟩
theorem sum12N (n p:Nat) (J:Nat→List (Nat×Int)) (w:World) (hJ:J 0=[]) (hn:n≤65536)
 (HH:Hid (∀ (g h k:Nat) (u:World),w.heap.size≤g→w.heap.size≤h→k<n→At12 u g (J k)→u.cell? ⟨h,0,none⟩=some (.pointer (some ⟨g,0,none⟩))→Below w.heap.size w u →
  Calls Tryz.prog 46 #[.int .i64 (k:Nat),.func (.func 84) #[] #[.pointer (some ⟨h,0,none⟩)],.pointer (some ⟨p,0,none⟩)] u fun r u'=>r=.returned (.tuple #[])∧At12 u' g (J (k+1))∧But g u u')) :
 Calls Tryz.prog 37 #[.int .i64 (n:Nat),.func (.func 46) #[] #[.pointer (some ⟨p,0,none⟩)]] w fun r w'=>∃ g,r=.returned (.pointer (some ⟨g,0,none⟩))∧At12 w' g (J n)∧Below w.heap.size w w':=by
 have HJ:=qsd (ai hJ hn);clear hJ;go_enter Tryz.func37,Tryz.ntmps37
 go_wp2_with fail
 refine (New7 w).mono ?_;rintro r w1 ⟨rfl,hA,hb1⟩;obtain ⟨g,hg⟩:∃ g,g=w.heap.size:=⟨_,rfl⟩;rw [←hg] at hA ⊢;obtain ⟨h,hh⟩:∃ h,h=w1.heap.size:=⟨_,rfl⟩;obtain ⟨W,hW⟩:∃ W,W=w1.alloc (Obj.cells #[.pointer (some ⟨g,0,none⟩)] 57):=⟨_,rfl⟩
 have H0:Aside (At12 W g (J 0)∧W.cell? ⟨h,0,none⟩=some (.pointer (some ⟨g,0,none⟩))∧Below w.heap.size w W∧W.heap.size=h+1):=by
  rw [hW,HJ.out.1,hh];refine ⟨⟨hA.bel (bel_alloc _ _),fun p hp=>by cases hp⟩,?_,hb1.trans ((bel_alloc _ _).mono hb1.size),by simp⟩
  unfold World.cell?;simp only [heap_alloc_new];rfl
 have HG:Aside (w.heap.size≤g∧w.heap.size≤h∧g<h):=by rw [hg,hh];exact ⟨Nat.le_refl _,hb1.size,by have:=hA.lt;omega⟩
 have HW:=qsd hW;clear hA hb1 hg hW;go_wp2
 try rw [←hh]
 try rw [←HW.out]
 clear HW hh
 go_loopg [11] n (fun gk i wr=>∃ k:Nat,gk+k=n∧i=.int .i64 (k:Nat)∧Aside (At12 wr g (J k)∧wr.cell? ⟨h,0,none⟩=some (.pointer (some ⟨g,0,none⟩))∧Below w.heap.size w wr∧h<wr.heap.size))
 case atStart=>exact ⟨0,by omega,by simp,H0.out.1,H0.out.2.1,H0.out.2.2.1,by have:=H0.out.2.2.2;omega⟩
 case round =>
  clear H0;obtain ⟨k,hgk,rfl,HA⟩:=hrel
  by_cases hk:k<n
  · have C:=hid (HH.out g h k wr HG.out.1 HG.out.2.1 hk HA.out.1 HA.out.2.1 HA.out.2.2.1)
    have hkb:k<4611686018427387904:=by omega
    go_wp2_with fail
    refine C.out.mono ?_;rintro r u ⟨rfl,h1,hbut⟩
    have H3:Aside (At12 u g (J (k+1))∧u.cell? ⟨h,0,none⟩=some (.pointer (some ⟨g,0,none⟩))∧Below w.heap.size w u∧h<u.heap.size) :=
     ⟨h1,(World.cell?_of_block (a:=⟨h,0,none⟩) (hbut.block h HA.out.2.2.2 (by have:=HG.out.2.2;omega))).trans HA.out.2.1,But.below HA.out.2.2.1 hbut HA.out.2.2.1.size HG.out.1,Nat.lt_of_lt_of_le HA.out.2.2.2 hbut.size⟩
    clear h1 hbut C HA;go_wp2
    go_roundg (gk-1)
    case measure=>omega
    case rel=>exact ⟨k+1,by omega,by first | rfl | simp,H3.out⟩
  · obtain rfl:n=k:=by omega
    have hd:decide ((n:Int)<n)=false:=by simp
    have hc:=HA.out.2.1;clear HH;go_wp2;go_ret;exact ⟨g,rfl,HA.out.1,HA.out.2.2.1⟩
theorem sum12A (n p q:Nat) (J:Nat→List (Nat×Int)) (w:World) (hJ:J 0=[]) (hn:n≤65536)
 (HH:Hid (∀ (g h k:Nat) (u:World),w.heap.size≤g→w.heap.size≤h→k<n→At12 u g (J k)→u.cell? ⟨h,0,none⟩=some (.pointer (some ⟨g,0,none⟩))→Below w.heap.size w u →
  Calls Tryz.prog 48 #[.int .i64 (k:Nat),.func (.func 84) #[] #[.pointer (some ⟨h,0,none⟩)],.pointer (some ⟨p,0,none⟩),.pointer (some ⟨q,0,none⟩)] u fun r u'=>r=.returned (.tuple #[])∧At12 u' g (J (k+1))∧But g u u')) :
 Calls Tryz.prog 37 #[.int .i64 (n:Nat),.func (.func 48) #[] #[.pointer (some ⟨p,0,none⟩),.pointer (some ⟨q,0,none⟩)]] w fun r w'=>∃ g,r=.returned (.pointer (some ⟨g,0,none⟩))∧At12 w' g (J n)∧Below w.heap.size w w':=by
 have HJ:=qsd (ai hJ hn);clear hJ;go_enter Tryz.func37,Tryz.ntmps37
 go_wp2_with fail
 refine (New7 w).mono ?_;rintro r w1 ⟨rfl,hA,hb1⟩;obtain ⟨g,hg⟩:∃ g,g=w.heap.size:=⟨_,rfl⟩;rw [←hg] at hA ⊢;obtain ⟨h,hh⟩:∃ h,h=w1.heap.size:=⟨_,rfl⟩;obtain ⟨W,hW⟩:∃ W,W=w1.alloc (Obj.cells #[.pointer (some ⟨g,0,none⟩)] 57):=⟨_,rfl⟩
 have H0:Aside (At12 W g (J 0)∧W.cell? ⟨h,0,none⟩=some (.pointer (some ⟨g,0,none⟩))∧Below w.heap.size w W∧W.heap.size=h+1):=by
  rw [hW,HJ.out.1,hh];refine ⟨⟨hA.bel (bel_alloc _ _),fun p hp=>by cases hp⟩,?_,hb1.trans ((bel_alloc _ _).mono hb1.size),by simp⟩
  unfold World.cell?;simp only [heap_alloc_new];rfl
 have HG:Aside (w.heap.size≤g∧w.heap.size≤h∧g<h):=by rw [hg,hh];exact ⟨Nat.le_refl _,hb1.size,by have:=hA.lt;omega⟩
 have HW:=qsd hW;clear hA hb1 hg hW;go_wp2
 try rw [←hh]
 try rw [←HW.out]
 clear HW hh
 go_loopg [11] n (fun gk i wr=>∃ k:Nat,gk+k=n∧i=.int .i64 (k:Nat)∧Aside (At12 wr g (J k)∧wr.cell? ⟨h,0,none⟩=some (.pointer (some ⟨g,0,none⟩))∧Below w.heap.size w wr∧h<wr.heap.size))
 case atStart=>exact ⟨0,by omega,by simp,H0.out.1,H0.out.2.1,H0.out.2.2.1,by have:=H0.out.2.2.2;omega⟩
 case round =>
  clear H0;obtain ⟨k,hgk,rfl,HA⟩:=hrel
  by_cases hk:k<n
  · have C:=hid (HH.out g h k wr HG.out.1 HG.out.2.1 hk HA.out.1 HA.out.2.1 HA.out.2.2.1)
    have hkb:k<4611686018427387904:=by omega
    go_wp2_with fail
    refine C.out.mono ?_;rintro r u ⟨rfl,h1,hbut⟩
    have H3:Aside (At12 u g (J (k+1))∧u.cell? ⟨h,0,none⟩=some (.pointer (some ⟨g,0,none⟩))∧Below w.heap.size w u∧h<u.heap.size) :=
     ⟨h1,(World.cell?_of_block (a:=⟨h,0,none⟩) (hbut.block h HA.out.2.2.2 (by have:=HG.out.2.2;omega))).trans HA.out.2.1,But.below HA.out.2.2.1 hbut HA.out.2.2.1.size HG.out.1,Nat.lt_of_lt_of_le HA.out.2.2.2 hbut.size⟩
    clear h1 hbut C HA;go_wp2
    go_roundg (gk-1)
    case measure=>omega
    case rel=>exact ⟨k+1,by omega,by first | rfl | simp,H3.out⟩
  · obtain rfl:n=k:=by omega
    have hd:decide ((n:Int)<n)=false:=by simp
    have hc:=HA.out.2.1;clear HH;go_wp2;go_ret;exact ⟨g,rfl,HA.out.1,HA.out.2.2.1⟩
end
section
open Go.RowKit J
theorem neg12 {P:Program}(w:World) (t:TypeId) (y:Nat) (hy:y<18446744073709551616):(Go.Op.unary .neg (.float .f64 y)).run P w=.ok (.float .f64 (turnW y)) w:=by
 rw [←neg_turn y hy];rfl
theorem hand12D (p q g h k n m c1 c2 b1 o1 b2 o2:Nat) (I:List (Nat×Int)) (x y:Nat) (u:World) (hA:At12 u g I) (hl:I.length<1000000) (hx:x<18446744073709551616) (hy:y<18446744073709551616) (hc:u.cell? ⟨h,0,none⟩=some (.pointer (some ⟨g,0,none⟩)))
 (hp:u.cell? ⟨p,0,none⟩=some (.slice (some ⟨b1,o1,none⟩) n c1)) (hq:u.cell? ⟨q,0,none⟩=some (.slice (some ⟨b2,o2,none⟩) m c2)) (h1:u.cell? ⟨b1,o1+k,none⟩=some (.float .f64 x)) (h2:u.cell? ⟨b2,o2+k,none⟩=some (.float .f64 y)) (hk1:k<n) (hk2:k<m) (hn:n≤65536) :
 (p<g∧q<g∧b1<g∧b2<g) →
 Calls Tryz.prog 38 #[.int .i64 (k:Nat),.func (.func 84) #[] #[.pointer (some ⟨h,0,none⟩)],.pointer (some ⟨p,0,none⟩),.pointer (some ⟨q,0,none⟩)] u fun r u'=>r=.returned (.tuple #[])∧At12 u' g (I++[(pK x y,pT x y)])∧But g u u':=by
 rintro ⟨l1,l2,l3,l4⟩;have hgl:=hA.lt;have HP:=hid (put12 g h I x y u.drew (hA.bel ((Below.refl _ _).drew)) hl hx hy hc);have kS:Aside (u.drew.cell? ⟨p,0,none⟩=some (.slice (some ⟨b1,o1,none⟩) n c1)∧u.drew.cell? ⟨q,0,none⟩=some (.slice (some ⟨b2,o2,none⟩) m c2)∧u.drew.cell? ⟨b1,o1+k,none⟩=some (.float .f64 x)∧u.drew.cell? ⟨b2,o2+k,none⟩=some (.float .f64 y)):=⟨hp,hq,h1,h2⟩;have HL:=qsd (ai l1 (ai l2 (ai l3 (ai l4 hgl))));have hkb:k<4611686018427387904:=by omega
 clear hA hl hx hy hc hp hq h1 h2 hn l1 l2 l3 l4 hgl;go_enter Tryz.func38,Tryz.ntmps38
 go_upto_region 0 with fail
 go_region_held3 (fun w'=>w'.cell? ⟨p,0,none⟩=some (.slice (some ⟨b1,o1,none⟩) n c1)∧w'.cell? ⟨q,0,none⟩=some (.slice (some ⟨b2,o2,none⟩) m c2)∧w'.cell? ⟨b1,o1+k,none⟩=some (.float .f64 x)∧w'.cell? ⟨b2,o2+k,none⟩=some (.float .f64 y)) (with_reducible exact kS.out) (first
  | (go_at_call 84
     with_reducible refine HP.out.mono ?_
     rintro r v ⟨rfl,hA,hbut⟩;have H:=qsd (ai hA hbut);have kS:=qsd (ai ((World.cell?_of_block (a:=⟨p,0,none⟩) (hbut.block p (show p<u.heap.size by have:=HL.out;omega) (by have:=HL.out;omega))).trans kS.out.1) (ai ((World.cell?_of_block (a:=⟨q,0,none⟩) (hbut.block q (show q<u.heap.size by have:=HL.out;omega) (by have:=HL.out;omega))).trans kS.out.2.1) (ai ((World.cell?_of_block (a:=⟨b1,o1+k,none⟩) (hbut.block b1 (show b1<u.heap.size by have:=HL.out;omega) (by have:=HL.out;omega))).trans kS.out.2.2.1) ((World.cell?_of_block (a:=⟨b2,o2+k,none⟩) (hbut.block b2 (show b2<u.heap.size by have:=HL.out;omega) (by have:=HL.out;omega))).trans kS.out.2.2.2))))
     clear hA hbut))
 all_goals (
  clear kS HP;go_wp2
  go_end0
  exact ⟨rfl,H.out.1,(But.refl g u).drew.trans H.out.2⟩)
theorem hand12N (p g h k n c1 b1 o1:Nat) (I:List (Nat×Int)) (x:Nat) (u:World) (hA:At12 u g I) (hl:I.length<1000000) (hx:x<18446744073709551616) (hc:u.cell? ⟨h,0,none⟩=some (.pointer (some ⟨g,0,none⟩)))
 (hp:u.cell? ⟨p,0,none⟩=some (.slice (some ⟨b1,o1,none⟩) n c1)) (h1:u.cell? ⟨b1,o1+k,none⟩=some (.float .f64 x)) (hk1:k<n) (hn:n≤65536) :
 (p<g∧b1<g) →
 Calls Tryz.prog 46 #[.int .i64 (k:Nat),.func (.func 84) #[] #[.pointer (some ⟨h,0,none⟩)],.pointer (some ⟨p,0,none⟩)] u fun r u'=>r=.returned (.tuple #[])∧At12 u' g (I++[(pK x x,pT x x)])∧But g u u':=by
 rintro ⟨l1,l3⟩;have hgl:=hA.lt;have HP:=hid (put12 g h I x x u.drew (hA.bel ((Below.refl _ _).drew)) hl hx hx hc);have kS:Aside (u.drew.cell? ⟨p,0,none⟩=some (.slice (some ⟨b1,o1,none⟩) n c1)∧u.drew.cell? ⟨b1,o1+k,none⟩=some (.float .f64 x)):=⟨hp,h1⟩;have HL:=qsd (ai l1 (ai l3 hgl));have hkb:k<4611686018427387904:=by omega
 clear hA hl hx hc hp h1 hn l1 l3 hgl;go_enter Tryz.func46,Tryz.ntmps46
 go_upto_region 0 with fail
 go_region_held3 (fun w'=>w'.cell? ⟨p,0,none⟩=some (.slice (some ⟨b1,o1,none⟩) n c1)∧w'.cell? ⟨b1,o1+k,none⟩=some (.float .f64 x)) (with_reducible exact kS.out) (first
  | (go_at_call 84
     with_reducible refine HP.out.mono ?_
     rintro r v ⟨rfl,hA,hbut⟩;have H:=qsd (ai hA hbut);have kS:=qsd (ai ((World.cell?_of_block (a:=⟨p,0,none⟩) (hbut.block p (show p<u.heap.size by have:=HL.out;omega) (by have:=HL.out;omega))).trans kS.out.1) ((World.cell?_of_block (a:=⟨b1,o1+k,none⟩) (hbut.block b1 (show b1<u.heap.size by have:=HL.out;omega) (by have:=HL.out;omega))).trans kS.out.2))
     clear hA hbut))
 all_goals (
  clear kS HP;go_wp2
  go_end0
  exact ⟨rfl,H.out.1,(But.refl g u).drew.trans H.out.2⟩)
end
end Go.Proofs.YthfkleadcnkglaaGreatDoor
