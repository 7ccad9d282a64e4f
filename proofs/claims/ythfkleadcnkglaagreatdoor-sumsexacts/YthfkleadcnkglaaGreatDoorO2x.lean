import Derived.Test.YthfkleadcnkglaaGreatDoorD9x
import Derived.BigQuiet
import Derived.Deep.Cut
import Derived.Test.YthfkleadcnkglaaGreatDoorBW0x
import Derived.Test.YthfkleadcnkglaaGreatDoorD24x
import Derived.Deep.RegionWith
import Derived.Deep.RegionHeld3
import Derived.Deep.CutRange
import Derived.Test.YthfkleadcnkglaaGreatDoorD32bx
import Derived.Test.YthfkleadcnkglaaGreatDoorS11x
set_option linter.unusedVariables false
set_option linter.unusedSimpArgs false
set_option maxHeartbeats 16000000
set_option maxRecDepth 20000
namespace Go.Proofs.YthfkleadcnkglaaGreatDoor
namespace J
end J
section
open Go.RowKit
def Zk (w:World) (g:Nat) (dg ls En:Int):Prop:=w.heap[g]?=some (.cells #[.int .i64 dg,.int .i64 ls,.int .u64 En] 89 (0,0))
theorem Zk.lt {w:World}{g:Nat}{dg ls En:Int}(h:Zk w g dg ls En):g<w.heap.size:=(Array.getElem?_eq_some_iff.1 h).1
theorem Zk.below {w w':World}{g:Nat}{dg ls En:Int}(h:Zk w g dg ls En) (hb:Below w.heap.size w w'):Zk w' g dg ls En:=by
 unfold Zk;rw [hb.block g h.lt];exact h
theorem Zk.facts {w:World}{g:Nat}{dg ls En:Int}(h:Zk w g dg ls En):w.cell? ⟨g,0,none⟩=some (.int .i64 dg)∧w.cell? ⟨g,1,none⟩=some (.int .i64 ls)∧w.cell? ⟨g,2,none⟩=some (.int .u64 En):=by
 unfold Zk at h;simp [World.cell?,h]
structure Half (w:World) (dg ls:Int) (En:Nat) (ag:Nat→Int) (f t:Nat) (u:World):Prop where
 bel:Below w.heap.size w u
 sz:Zk u w.heap.size dg ls En
 ft:f<t
 tE:t≤En
 lo:f=0∨ag f≤0
 hi:t=En∨0<ag t
theorem below_core {w:World}{a:Option Addr}{l c:Nat}(dg ls:Int) (En:Nat) (e:Int) (hE:0<En) (hE2:En<9223372036854775808) (num:Nat→Nat×Int) (ag:Nat→Int) (lnum:∀ k,(ws (num k).1).length≤8192)
 (HN:Hid (∀ (k:Nat) (u:World),k<En→Calls Tryz.prog 119 #[.agg #[.int .i64 dg,.int .i64 ls,.int .u64 (En:Nat)],.int .u64 (k:Nat)] u fun r w'=>∃ v,r=.returned (.tuple #[v,.int .i64 (num k).2])∧Nt u.heap.size w' v (num k).1∧Below u.heap.size u w'))
 (HA:Hid (∀ (k:Nat) (u:World) (p:Option Addr) (s:Nat),k<En→Below w.heap.size w u→Arg u p (ws (num k).1).length s (ws (num k).1)→Calls Tryz.prog 76 #[.slice p (ws (num k).1).length s,.int .i64 (num k).2,.slice a l c,.int .i64 e] u fun r w'=>r=.returned (.int .i64 (ag k))∧Below u.heap.size u w')) :
 Calls Tryz.prog 161 #[.agg #[.int .i64 dg,.int .i64 ls,.int .u64 (En:Nat)],.slice a l c,.int .i64 e] w fun r w' =>
  (∃ k:Nat,r=.returned (.int .u64 (k:Nat))∧k<En∧(k=0∨ag k≤0)∧(k+1=En∨0<ag (k+1)))∧Below w.heap.size w w':=by
 obtain ⟨W1,hW1⟩:∃ W,W=w.alloc (.cells #[.int .i64 dg,.int .i64 ls,.int .u64 (En:Nat)] 89):=⟨_,rfl⟩;have Z:Zk W1 w.heap.size dg ls En:=by rw [hW1];exact heap_alloc_new _ _
 have hB:Below w.heap.size w W1:=by rw [hW1];exact below_alloc w _
 obtain ⟨p0,p1,p2⟩:=Z.facts;have S0:Aside (Half w dg ls En ag 0 En W1):=qsd ⟨hB,Z,hE,Nat.le_refl _,.inl rfl,.inl rfl⟩;clear Z hB;have hw:∀ n:Int,0≤n→n<18446744073709551616→IntKind.u64.wrap n=n:=fun n h1 h2=>by simp [IntKind.wrap,IntKind.bits,IntKind.signed];omega
 have HW:=qsd hw;clear hw;go_enter Tryz.func161,Tryz.ntmps161
 go_upto_region 2 with fail
 rw [←hW1];clear hW1
 go_wp2_with fail
 clear p0 p1 p2
 go_loopg [7,8] En (fun gk fv tv wr=>∃ f t:Nat,gk+f=t∧fv=.int .u64 (f:Nat)∧tv=.int .u64 (t:Nat)∧f<t∧t≤En∧Aside (Half w dg ls En ag f t wr))
 case atStart=>exact ⟨0,En,by omega,rfl,rfl,hE,Nat.le_refl _,S0⟩
 case round =>
  obtain ⟨f,t,hgk,rfl,rfl,hft,htE,S1⟩:=hrel;have e1:=HW.out ((t:Int)-(f:Int)) (by omega) (by omega)
  by_cases hone:1<(t:Int)-(f:Int)
  · obtain ⟨m,hm⟩:∃ m,(f+t)/2=m:=⟨_,rfl⟩
    have e2:=HW.out ((f:Int)+(t:Int)) (by omega) (by omega)
    have e3:((f:Int)+(t:Int))/2=(m:Nat):=by omega
    have e4:IntKind.u64.wrap ((m:Nat):Int)=(m:Nat):=HW.out _ (by omega) (by omega)
    have hmE:m<En:=by omega
    obtain ⟨p0,p1,p2⟩:=S1.out.sz.facts;obtain ⟨X,hX⟩:∃ X,(num m).1=X:=⟨_,rfl⟩;obtain ⟨y,hy⟩:∃ y,(num m).2=y:=⟨_,rfl⟩;have H1:=hid (HN.out m wr hmE);have H2:=hid fun u p s=>HA.out m u p s hmE
    have lX:=lnum m;rw [hX,hy] at H1 H2;rw [hX] at lX
    go_wp2_with fail
    clear p0 p1 p2;refine H1.out.mono ?_;rintro r u1 ⟨v,rfl,hN,hb⟩;obtain ⟨b1,c1,rfl,hArg⟩:=hN.arg (by omega)
    have S2:=qsd (⟨S1.out.bel.trans (hb.mono S1.out.bel.size),S1.out.sz.below hb,S1.out.ft,S1.out.tE,S1.out.lo,S1.out.hi⟩:Half w dg ls En ag f t u1);have H3:=hid (H2.out u1 b1 c1 S2.out.bel hArg);clear hb hN hArg S1 H1 H2
    go_wp2_with fail
    refine H3.out.mono ?_;rintro r u2 ⟨rfl,hb⟩;have S3:=qsd (⟨S2.out.bel.trans (hb.mono S2.out.bel.size),S2.out.sz.below hb,S2.out.ft,S2.out.tE,S2.out.lo,S2.out.hi⟩:Half w dg ls En ag f t u2);clear hb H3 S2
    by_cases hag:ag m≤0
    · go_wp2_with fail
      go_roundg (t-m)
      case measure=>omega
      case rel=>exact ⟨m,t,by omega,rfl,rfl,by omega,htE,qsd ⟨S3.out.bel,S3.out.sz,by omega,htE,.inr hag,S3.out.hi⟩⟩
    · have hag':decide (ag m≤0)=false:=decide_eq_false hag
      go_wp2_with fail
      go_roundg (m-f)
      case measure=>omega
      case rel=>exact ⟨f,m,by omega,rfl,rfl,by omega,by omega,qsd ⟨S3.out.bel,S3.out.sz,by omega,by omega,S3.out.lo,.inr (by omega)⟩⟩
  · have hone':decide (1<(t:Int)-(f:Int))=false:=decide_eq_false hone
    obtain rfl:t=f+1:=by omega
    have e5:((f+1:Nat):Int)-(f:Int)=1:=by omega
    go_wp2_with fail
    go_ret;exact ⟨⟨f,rfl,by omega,S1.out.lo,S1.out.hi⟩,S1.out.bel⟩
end
section
open Go.RowKit
theorem half_core {w:World}{a:Option Addr}{l c:Nat}(dg ls En k k1 e f g q:Int) (A Bv MV SM TW:Nat) (hv:Int) (lA:(ws A).length≤8192) (lB:(ws Bv).length≤8192) (lM:(ws MV).length≤8192) (lS:(ws SM).length≤8192) (lT:(ws TW).length≤35184372088832)
 (ek:IntKind.u64.wrap (k+1)=k1) (hgf:decide (g<f)=false) (eq:IntKind.i64.wrap (g-f)=q)
 (HN:Hid (∀ (u:World),Calls Tryz.prog 119 #[.agg #[.int .i64 dg,.int .i64 ls,.int .u64 En],.int .u64 k] u fun r w'=>∃ v,r=.returned (.tuple #[v,.int .i64 f])∧Nt u.heap.size w' v A∧Below u.heap.size u w'))
 (HN1:Hid (∀ (u:World),Calls Tryz.prog 119 #[.agg #[.int .i64 dg,.int .i64 ls,.int .u64 En],.int .u64 k1] u fun r w'=>∃ v,r=.returned (.tuple #[v,.int .i64 g])∧Nt u.heap.size w' v Bv∧Below u.heap.size u w'))
 (HM:Hid (∀ (u:World) (p:Option Addr) (s lo:Nat),Nt lo u (.slice p (ws Bv).length s) Bv→Calls Tryz.prog 71 #[.slice p (ws Bv).length s,.int .i64 q] u fun r w'=>∃ v,r=.returned v∧Nt u.heap.size w' v MV∧Below u.heap.size u w'))
 (HP:Hid (∀ (u:World) (p:Option Addr) (s:Nat) (p2:Option Addr) (s2:Nat),Arg u p (ws A).length s (ws A)→Arg u p2 (ws MV).length s2 (ws MV)→Calls Tryz.prog 72 #[.slice p (ws A).length s,.slice p2 (ws MV).length s2] u fun r w'=>∃ v,r=.returned v∧Nt u.heap.size w' v SM∧Below u.heap.size u w'))
 (HT:Hid (∀ (u:World) (p:Option Addr),Below w.heap.size w u→Arg u p 1 1 [2]→Calls Tryz.prog 70 #[.slice a l c,.slice p 1 1] u fun r w'=>∃ v,r=.returned v∧Nt u.heap.size w' v TW∧Below u.heap.size u w'))
 (HA:Hid (∀ (u:World) (p:Option Addr) (s:Nat) (p2:Option Addr) (s2:Nat),Arg u p (ws TW).length s (ws TW)→Arg u p2 (ws SM).length s2 (ws SM)→Calls Tryz.prog 76 #[.slice p (ws TW).length s,.int .i64 e,.slice p2 (ws SM).length s2,.int .i64 f] u fun r w'=>r=.returned (.int .i64 hv)∧Below u.heap.size u w')) :
 Calls Tryz.prog 162 #[.agg #[.int .i64 dg,.int .i64 ls,.int .u64 En],.int .u64 k,.slice a l c,.int .i64 e] w fun r w'=>r=.returned (.int .i64 hv)∧Below w.heap.size w w':=by
 obtain ⟨W1,hW1⟩:∃ W,W=w.alloc (.cells #[.int .i64 dg,.int .i64 ls,.int .u64 En] 89):=⟨_,rfl⟩;have Z:Zk W1 w.heap.size dg ls En:=by rw [hW1];exact heap_alloc_new _ _
 have hB:Below w.heap.size w W1:=by rw [hW1];exact below_alloc w _
 obtain ⟨p0,p1,p2⟩:=Z.facts;have S0:=(qsd (ai hB Z));clear Z hB;have H1:=hid (HN.out W1);go_enter Tryz.func162,Tryz.ntmps162
 go_upto_region 1 with fail
 rw [←hW1];clear hW1
 go_wp2_with fail
 clear p0 p1 p2;refine H1.out.mono ?_;rintro r u1 ⟨v,rfl,hN,hb⟩;obtain ⟨a1,c1,rfl,_⟩:=hN.arg (by omega)
 have Z1:=S0.out.2.below hb;obtain ⟨p0,p1,p2⟩:=Z1.facts;have B1:=S0.out.1.trans (hb.mono S0.out.1.size);have S1:=(qsd (ai B1 (ai Z1 hN)));have H2:=hid (HN1.out u1);clear hb hN Z1 B1 S0 H1
 go_wp2_with fail
 clear p0 p1 p2;refine H2.out.mono ?_;rintro r u2 ⟨v,rfl,hN,hb⟩;obtain ⟨a2,c2,rfl,_⟩:=hN.arg (by omega)
 have B2:=S1.out.1.trans (hb.mono S1.out.1.size);have N1:=S1.out.2.2.below hb;have H3:=hid (HM.out u2 a2 c2 _ hN);have S2:=(qsd (ai B2 N1));clear hb hN B2 N1 S1 H2
 go_wp2_with fail
 refine H3.out.mono ?_;rintro r u3 ⟨v,rfl,hN,hb⟩;obtain ⟨a3,c3,rfl,hA3⟩:=hN.arg (by omega)
 have B3:=S2.out.1.trans (hb.mono S2.out.1.size);have N3:=S2.out.2.below hb;have H4:=hid (HP.out u3 a1 c1 a3 c3 (N3.arg' (by omega)).2 hA3)
 have S3:=qsd B3;clear hb hN hA3 B3 N3 S2 H3
 go_wp2_with fail
 refine H4.out.mono ?_;rintro r u4 ⟨v,rfl,hN,hb⟩;obtain ⟨a4,c4,rfl,_⟩:=hN.arg (by omega)
 have B4:=S3.out.trans (hb.mono S3.out.size);obtain ⟨U,hU⟩:∃ U,U=u4.alloc (.cells #[.int .u32 2] 133):=⟨_,rfl⟩;have hA:Below u4.heap.size u4 U:=by rw [hU];exact below_alloc _ _
 have B5:=B4.trans (hA.mono B4.size);have AL:Arg U (some ⟨u4.heap.size,0,none⟩) 1 1 [2]:=by rw [hU];exact lit_arg u4 2 (by omega)
 have H5:=hid (HT.out U (some ⟨u4.heap.size,0,none⟩) B5 AL);have N5:=hN.below hA;have S5:=(qsd (ai B5 N5));clear hb hN B4 hA B5 AL N5 S3 H4
 go_wp2_with fail
 rw [←hU];clear hU;refine H5.out.mono ?_;rintro r u6 ⟨v,rfl,hN,hb⟩;obtain ⟨a6,c6,rfl,hA6⟩:=hN.arg (by omega)
 have B6:=S5.out.1.trans (hb.mono S5.out.1.size);have N6:=S5.out.2.below hb;have H6:=hid (HA.out u6 a6 c6 a4 c4 hA6 (N6.arg' (by omega)).2)
 have S6:=qsd B6;clear hb hN hA6 B6 N6 S5 H5
 go_wp2_with fail
 refine H6.out.mono ?_;rintro r u7 ⟨rfl,hb⟩;have B7:=qsd (S6.out.trans (hb.mono S6.out.size));clear hb H6 S6;go_wp2;go_ret;exact ⟨rfl,B7.out⟩
def nbyD (mode:Int) (n:Bool) (k:Nat) (z hv:Int):Nat:=if z=0 then k else if outS mode k hv n then k+1 else k
end
section
open Go.RowKit
theorem nearby_core {w:World}{a:Option Addr}{l c:Nat}(dg ls En:Int) (n:Bool) (k:Nat) (e f mode:Int) (A:Nat) (z hv:Int) (lA:(ws A).length≤8192) (hk:k<9223372036854775808) (hm0:0≤mode) (hm4:mode≤4) (hv3:hv=-1∨hv=0∨hv=1)
 (HB:Hid (∀ (u:World),Below w.heap.size w u→Calls Tryz.prog 161 #[.agg #[.int .i64 dg,.int .i64 ls,.int .u64 En],.slice a l c,.int .i64 e] u fun r w'=>r=.returned (.int .u64 (k:Nat))∧Below u.heap.size u w'))
 (HN:Hid (∀ (u:World),Calls Tryz.prog 119 #[.agg #[.int .i64 dg,.int .i64 ls,.int .u64 En],.int .u64 (k:Nat)] u fun r w'=>∃ v,r=.returned (.tuple #[v,.int .i64 f])∧Nt u.heap.size w' v A∧Below u.heap.size u w'))
 (HA:Hid (∀ (u:World) (p:Option Addr) (s:Nat),Below w.heap.size w u→Arg u p (ws A).length s (ws A)→Calls Tryz.prog 76 #[.slice p (ws A).length s,.int .i64 f,.slice a l c,.int .i64 e] u fun r w'=>r=.returned (.int .i64 z)∧Below u.heap.size u w'))
 (HH:Hid (∀ (u:World),Below w.heap.size w u→Calls Tryz.prog 162 #[.agg #[.int .i64 dg,.int .i64 ls,.int .u64 En],.int .u64 (k:Nat),.slice a l c,.int .i64 e] u fun r w'=>r=.returned (.int .i64 hv)∧Below u.heap.size u w')) :
 Calls Tryz.prog 116 #[.agg #[.int .i64 dg,.int .i64 ls,.int .u64 En],.bool n,.slice a l c,.int .i64 e,.int .i64 mode] w fun r w'=>r=.returned (.int .u64 (nbyD mode n k z hv:Nat))∧Below w.heap.size w w':=by
 obtain ⟨W1,hW1⟩:∃ W,W=w.alloc (.cells #[.int .i64 dg,.int .i64 ls,.int .u64 En] 89):=⟨_,rfl⟩;have Z:Zk W1 w.heap.size dg ls En:=by rw [hW1];exact heap_alloc_new _ _
 have hB:Below w.heap.size w W1:=by rw [hW1];exact below_alloc w _
 obtain ⟨p0,p1,p2⟩:=Z.facts;have H1:=hid (HB.out W1 hB);have S0:=(qsd (ai hB Z));clear Z hB;have ek:IntKind.u64.wrap ((k:Int)+1)=(k:Int)+1:=by simp [IntKind.wrap,IntKind.bits,IntKind.signed];omega
 obtain ⟨R,hR⟩:∃ R,nbyD mode n k z hv=R:=⟨_,rfl⟩;rw [hR];go_enter Tryz.func116,Tryz.ntmps116
 go_upto_region 1 with fail
 rw [←hW1];clear hW1
 go_wp2_with fail
 clear p0 p1 p2;refine H1.out.mono ?_;rintro r u1 ⟨rfl,hb⟩;have Z1:=S0.out.2.below hb;obtain ⟨p0,p1,p2⟩:=Z1.facts;have B1:=S0.out.1.trans (hb.mono S0.out.1.size);have S1:=(qsd (ai B1 Z1));have H2:=hid (HN.out u1);clear hb Z1 B1 S0 H1
 go_wp2_with fail
 clear p0 p1 p2;refine H2.out.mono ?_;rintro r u2 ⟨v,rfl,hN,hb⟩;obtain ⟨a2,c2,rfl,hA2⟩:=hN.arg (by omega)
 have Z2:=S1.out.2.below hb;have B2:=S1.out.1.trans (hb.mono S1.out.1.size);have H3:=hid (HA.out u2 a2 c2 B2 hA2);have S2:=(qsd (ai B2 Z2));clear hb hN hA2 Z2 B2 S1 H2
 go_wp2_with fail
 refine H3.out.mono ?_;rintro r u3 ⟨rfl,hb⟩;have Z3:=S2.out.2.below hb;have B3:=S2.out.1.trans (hb.mono S2.out.1.size);have S3:=(qsd (ai B3 Z3));obtain ⟨p0,p1,p2⟩:=Z3.facts;have H4:=hid (HH.out u3 B3);clear hb Z3 B3 S2 H3
 by_cases hz:z=0
 · subst hz
   obtain rfl:k=R:=by rw [←hR];unfold nbyD;rw [if_pos rfl]
   clear hR
   go_wp2_with fail
   go_ret;exact ⟨rfl,S3.out.1⟩
 · have hz':(z==0)=false:=by simpa using hz
   have hR2:(if outS mode k hv n then k+1 else k)=R:=by rw [←hR];unfold nbyD;rw [if_neg hz]
   clear hR hz
   go_wp2_with fail
   clear p0 p1 p2;refine H4.out.mono ?_;rintro r u4 ⟨rfl,hb⟩;have B4:=qsd (S3.out.1.trans (hb.mono S3.out.1.size));clear hb S3 H4 hz';have hc:mode=0∨mode=1∨mode=2∨mode=3∨mode=4:=by omega
   clear hm0 hm4
   rcases hc with rfl|rfl|rfl|rfl|rfl
   · rcases hv3 with rfl | rfl | rfl
     · have:=qsd hR2
       clear hR2;go_wp2;go_ret;exact ⟨by rw [←this.out];simp [outS],B4.out⟩
     · by_cases hp:k%2=1
       · have hp':(k:Int)%2=1:=by omega
         have:=qsd hR2;clear hR2;go_wp2;go_ret;exact ⟨by rw [←this.out];simp [outS,hp],B4.out⟩
       · have hp':(k:Int)%2=0:=by omega
         have:=qsd hR2;clear hR2;go_wp2;go_ret;exact ⟨by rw [←this.out];simp [outS,hp],B4.out⟩
     · have:=qsd hR2
       clear hR2;go_wp2;go_ret;exact ⟨by rw [←this.out];simp [outS],B4.out⟩
   · have:=qsd hR2
     clear hR2;go_wp2;go_ret;exact ⟨by rw [←this.out];simp [outS],B4.out⟩
   · cases n
     all_goals (
      have:=qsd hR2;clear hR2;go_wp2;go_ret;exact ⟨by rw [←this.out];simp [outS],B4.out⟩)
   · cases n
     all_goals (
      have:=qsd hR2;clear hR2;go_wp2;go_ret;exact ⟨by rw [←this.out];simp [outS],B4.out⟩)
   · rcases hv3 with rfl | rfl | rfl
     all_goals (
      have:=qsd hR2;clear hR2;go_wp2;go_ret;exact ⟨by rw [←this.out];simp [outS],B4.out⟩)
end
section
open Go.RowKit
attribute [local go_sem] B.f64frombits
theorem rRound_lo {w:World}{a:Option Addr}{l c:Nat}(n:Bool) (e mode:Int) (hm:mode<0) :
 Calls Tryz.prog 62 #[.agg #[.bool n,.slice a l c,.int .i64 e],.int .i64 mode] w fun r w'=>r=.returned (.tuple #[.float .f64 0,.int .i64 1])∧Below w.heap.size w w':=by
 obtain ⟨W1,hW1⟩:∃ W,W=w.alloc (.cells #[.bool n,.slice a l c,.int .i64 e] 47):=⟨_,rfl⟩;have D0:Dk W1 w.heap.size n (.slice a l c) e:=by rw [hW1];exact Dk.new _ _ _ _
 have hB:Below w.heap.size w W1:=by rw [hW1];exact below_alloc w _
 have S0:=qsd hB;clear D0 hB;go_enter Tryz.func62,Tryz.ntmps62
 go_upto_region 1 with fail
 rw [←hW1];clear hW1;go_wp2
 go_ret2
 exact ⟨rfl,S0.out⟩
theorem rRound_hi {w:World}{a:Option Addr}{l c:Nat}(n:Bool) (e mode:Int) (hm0:decide (mode<0)=false) (hm:4<mode) :
 Calls Tryz.prog 62 #[.agg #[.bool n,.slice a l c,.int .i64 e],.int .i64 mode] w fun r w'=>r=.returned (.tuple #[.float .f64 0,.int .i64 1])∧Below w.heap.size w w':=by
 obtain ⟨W1,hW1⟩:∃ W,W=w.alloc (.cells #[.bool n,.slice a l c,.int .i64 e] 47):=⟨_,rfl⟩;have D0:Dk W1 w.heap.size n (.slice a l c) e:=by rw [hW1];exact Dk.new _ _ _ _
 have hB:Below w.heap.size w W1:=by rw [hW1];exact below_alloc w _
 have S0:=qsd hB;clear D0 hB;go_enter Tryz.func62,Tryz.ntmps62
 go_upto_region 1 with fail
 rw [←hW1];clear hW1;go_wp2
 go_ret2
 exact ⟨rfl,S0.out⟩
theorem rRound_no {w:World}{a:Option Addr}{l c:Nat}(n:Bool) (e mode:Int) (nD:Bool) (eD:Int) (XD:Nat) (hm0:0≤mode) (hm4:mode≤4) (lX:(ws XD).length≤8192)
 (HM:Hid (∀ (u:World),Below w.heap.size w u→Calls Tryz.prog 68 #[.agg #[.bool n,.slice a l c,.int .i64 e]] u fun r w'=>(∃ v,r=.returned (.tuple #[.agg #[.bool nD,v,.int .i64 eD],.bool false])∧Nt u.heap.size w' v XD)∧Below u.heap.size u w')) :
 Calls Tryz.prog 62 #[.agg #[.bool n,.slice a l c,.int .i64 e],.int .i64 mode] w fun r w'=>r=.returned (.tuple #[.float .f64 0,.int .i64 2])∧Below w.heap.size w w':=by
 obtain ⟨W1,hW1⟩:∃ W,W=w.alloc (.cells #[.bool n,.slice a l c,.int .i64 e] 47):=⟨_,rfl⟩;have D0:Dk W1 w.heap.size n (.slice a l c) e:=by rw [hW1];exact Dk.new _ _ _ _
 have hB:Below w.heap.size w W1:=by rw [hW1];exact below_alloc w _
 obtain ⟨p0,p1,p2,pf0,pf1,pf2⟩:=D0.facts;have H1:=hid (HM.out W1 hB);have S0:=qsd hB;have hm1:decide (mode<0)=false:=decide_eq_false (by omega)
 have hm2:decide (4<mode)=false:=decide_eq_false (by omega)
 clear D0 hB;go_enter Tryz.func62,Tryz.ntmps62
 go_upto_region 1 with fail
 rw [←hW1];clear hW1
 go_wp2_with fail
 clear p0 p1 p2 pf0 pf1 pf2;refine H1.out.mono ?_;rintro r u1 ⟨⟨v,rfl,hN⟩,hb⟩;obtain ⟨a1,c1,rfl,_⟩:=hN.arg (by omega)
 obtain ⟨U1,hU1⟩:∃ U,U=u1.alloc (.cells #[.bool nD,.slice a1 (ws XD).length c1,.int .i64 eD] 47):=⟨_,rfl⟩;have hA:Below u1.heap.size u1 U1:=by rw [hU1];exact below_alloc _ _
 have DX:Dk U1 u1.heap.size nD (.slice a1 (ws XD).length c1) eD:=by rw [hU1];exact Dk.new _ _ _ _
 have B1:=S0.out.trans (hb.mono S0.out.size);have BU:=B1.trans (hA.mono B1.size);have NX:=hN.below hA;have S1:=(qsd (ai BU (ai DX NX)));clear hb hN hA DX B1 BU NX S0 H1
 go_upto_region 4 with fail
 rw [←hU1];clear hU1;go_wp2
 go_ret2
 exact ⟨rfl,S1.out.1⟩
theorem rRound_p {w:World}{a:Option Addr}{l c:Nat}(n:Bool) (e mode:Int) (eD:Int) (XD R:Nat) (kk k2:Int) (hm0:0≤mode) (hm4:mode≤4) (lX:(ws XD).length≤8192) (hk0:0≤kk) (hR:kk.toNat=R)
 (HM:Hid (∀ (u:World),Below w.heap.size w u→Calls Tryz.prog 68 #[.agg #[.bool n,.slice a l c,.int .i64 e]] u fun r w'=>(∃ v,r=.returned (.tuple #[.agg #[.bool false,v,.int .i64 eD],.bool true])∧Nt u.heap.size w' v XD)∧Below u.heap.size u w'))
 (HO:Hid (∀ (u:World),Calls Tryz.prog 66 #[] u fun r w'=>r=.returned (.agg #[.int .i64 53,.int .i64 (-1074),.int .u64 9218868437227405312])∧Below u.heap.size u w'))
 (HB:Hid (∀ (u:World) (p:Option Addr) (s:Nat),Arg u p (ws XD).length s (ws XD)→Calls Tryz.prog 116 #[.agg #[.int .i64 53,.int .i64 (-1074),.int .u64 9218868437227405312],.bool false,.slice p (ws XD).length s,.int .i64 eD,.int .i64 mode] u fun r w'=>r=.returned (.int .u64 kk)∧Below u.heap.size u w')) :
 Calls Tryz.prog 62 #[.agg #[.bool n,.slice a l c,.int .i64 e],.int .i64 mode] w fun r w'=>r=.returned (.tuple #[.float .f64 R,.int .i64 0])∧Below w.heap.size w w':=by
 obtain ⟨W1,hW1⟩:∃ W,W=w.alloc (.cells #[.bool n,.slice a l c,.int .i64 e] 47):=⟨_,rfl⟩;have D0:Dk W1 w.heap.size n (.slice a l c) e:=by rw [hW1];exact Dk.new _ _ _ _
 have hB:Below w.heap.size w W1:=by rw [hW1];exact below_alloc w _
 obtain ⟨p0,p1,p2,pf0,pf1,pf2⟩:=D0.facts;have H1:=hid (HM.out W1 hB);have S0:=qsd hB;have hm1:decide (mode<0)=false:=decide_eq_false (by omega)
 have hm2:decide (4<mode)=false:=decide_eq_false (by omega)
 clear D0 hB;go_enter Tryz.func62,Tryz.ntmps62
 go_upto_region 1 with fail
 rw [←hW1];clear hW1
 go_wp2_with fail
 clear p0 p1 p2 pf0 pf1 pf2;refine H1.out.mono ?_;rintro r u1 ⟨⟨v,rfl,hN⟩,hb⟩;obtain ⟨a1,c1,rfl,_⟩:=hN.arg (by omega)
 obtain ⟨U1,hU1⟩:∃ U,U=u1.alloc (.cells #[.bool false,.slice a1 (ws XD).length c1,.int .i64 eD] 47):=⟨_,rfl⟩;have hA:Below u1.heap.size u1 U1:=by rw [hU1];exact below_alloc _ _
 have DX:Dk U1 u1.heap.size false (.slice a1 (ws XD).length c1) eD:=by rw [hU1];exact Dk.new _ _ _ _
 have B1:=S0.out.trans (hb.mono S0.out.size);have BU:=B1.trans (hA.mono B1.size);have NX:=hN.below hA;have S1:=(qsd (ai BU (ai DX NX)));clear hb hN hA DX B1 BU NX S0 H1
 go_upto_region 4 with fail
 rw [←hU1];clear hU1;obtain ⟨p0,p1,p2,pf0,pf1,pf2⟩:=S1.out.2.1.facts
 go_upto_region 6 with fail
 go_cut [8] from 22 to 30 (fun kv wx=>kv=.int .u64 kk∧Aside (Below w.heap.size w wx∧Dk wx u1.heap.size false (.slice a1 (ws XD).length c1) eD))
 case first =>
  have O1:=hid (HO.out U1);have O2:=hid (HO.out U1.drew)
  go_region_held3 (fun w'=>w'.cell? ⟨u1.heap.size,0,none⟩=some (.bool false)∧w'.cell? ⟨u1.heap.size,1,none⟩=some (.slice a1 (ws XD).length c1)∧w'.cell? ⟨u1.heap.size,2,none⟩=some (.int .i64 eD)) (go_keep) (first
   | (go_at_call 66
      first | with_reducible refine O1.out.mono ?_ | with_reducible refine O2.out.mono ?_
      rintro r u3 ⟨rfl,hb⟩;have hb3:Below U1.heap.size U1 u3:=by first | exact hb | exact ((Below.refl _ U1).drew).trans (hb.mono (Nat.le_refl _))
      have KD:=S1.out.2.1.below hb3;have KN:=S1.out.2.2.below hb3;have KB:=S1.out.1.trans (hb3.mono S1.out.1.size);have HB3:=hid (HB.out u3 a1 c1 (KN.arg' (by omega)).2)
      obtain ⟨q0,q1,q2,qf0,qf1,qf2⟩:=KD.facts;have S9:=(qsd (ai KB KD));clear hb hb3 KD KN KB)
   | (go_at_call 116
      with_reducible refine HB3.out.mono ?_
      rintro r u4 ⟨rfl,hb⟩;have LD:=S9.out.2.below hb;obtain ⟨t0,t1,t2,tf0,tf1,tf2⟩:=LD.facts;have LB:=S9.out.1.trans (hb.mono S9.out.1.size);have S10:=(qsd (ai LB LD));clear hb LD LB))
  all_goals (
   go_wp2
   go_meet
   case rel=>exact ⟨rfl,S10⟩)
 case rest =>
  obtain ⟨rfl,S2⟩:=hcut;clear p0 p1 p2 pf0 pf1 pf2;obtain ⟨p0,p1,p2,pf0,pf1,pf2⟩:=S2.out.2.facts;go_wp2
  go_ret2
  exact ⟨rfl,S2.out.1⟩
theorem rRound_n {w:World}{a:Option Addr}{l c:Nat}(n:Bool) (e mode:Int) (eD:Int) (XD R:Nat) (kk k2:Int) (hm0:0≤mode) (hm4:mode≤4) (lX:(ws XD).length≤8192) (hk0:0≤kk) (e1:IntKind.u64.wrap (kk+9223372036854775808)=k2) (hR:k2.toNat=R)
 (HM:Hid (∀ (u:World),Below w.heap.size w u→Calls Tryz.prog 68 #[.agg #[.bool n,.slice a l c,.int .i64 e]] u fun r w'=>(∃ v,r=.returned (.tuple #[.agg #[.bool true,v,.int .i64 eD],.bool true])∧Nt u.heap.size w' v XD)∧Below u.heap.size u w'))
 (HO:Hid (∀ (u:World),Calls Tryz.prog 66 #[] u fun r w'=>r=.returned (.agg #[.int .i64 53,.int .i64 (-1074),.int .u64 9218868437227405312])∧Below u.heap.size u w'))
 (HB:Hid (∀ (u:World) (p:Option Addr) (s:Nat),Arg u p (ws XD).length s (ws XD)→Calls Tryz.prog 116 #[.agg #[.int .i64 53,.int .i64 (-1074),.int .u64 9218868437227405312],.bool true,.slice p (ws XD).length s,.int .i64 eD,.int .i64 mode] u fun r w'=>r=.returned (.int .u64 kk)∧Below u.heap.size u w')) :
 Calls Tryz.prog 62 #[.agg #[.bool n,.slice a l c,.int .i64 e],.int .i64 mode] w fun r w'=>r=.returned (.tuple #[.float .f64 R,.int .i64 0])∧Below w.heap.size w w':=by
 obtain ⟨W1,hW1⟩:∃ W,W=w.alloc (.cells #[.bool n,.slice a l c,.int .i64 e] 47):=⟨_,rfl⟩;have D0:Dk W1 w.heap.size n (.slice a l c) e:=by rw [hW1];exact Dk.new _ _ _ _
 have hB:Below w.heap.size w W1:=by rw [hW1];exact below_alloc w _
 obtain ⟨p0,p1,p2,pf0,pf1,pf2⟩:=D0.facts;have H1:=hid (HM.out W1 hB);have S0:=qsd hB;have hm1:decide (mode<0)=false:=decide_eq_false (by omega)
 have hm2:decide (4<mode)=false:=decide_eq_false (by omega)
 clear D0 hB;go_enter Tryz.func62,Tryz.ntmps62
 go_upto_region 1 with fail
 rw [←hW1];clear hW1
 go_wp2_with fail
 clear p0 p1 p2 pf0 pf1 pf2;refine H1.out.mono ?_;rintro r u1 ⟨⟨v,rfl,hN⟩,hb⟩;obtain ⟨a1,c1,rfl,_⟩:=hN.arg (by omega)
 obtain ⟨U1,hU1⟩:∃ U,U=u1.alloc (.cells #[.bool true,.slice a1 (ws XD).length c1,.int .i64 eD] 47):=⟨_,rfl⟩;have hA:Below u1.heap.size u1 U1:=by rw [hU1];exact below_alloc _ _
 have DX:Dk U1 u1.heap.size true (.slice a1 (ws XD).length c1) eD:=by rw [hU1];exact Dk.new _ _ _ _
 have B1:=S0.out.trans (hb.mono S0.out.size);have BU:=B1.trans (hA.mono B1.size);have NX:=hN.below hA;have S1:=(qsd (ai BU (ai DX NX)));clear hb hN hA DX B1 BU NX S0 H1
 go_upto_region 4 with fail
 rw [←hU1];clear hU1;obtain ⟨p0,p1,p2,pf0,pf1,pf2⟩:=S1.out.2.1.facts
 go_upto_region 6 with fail
 go_cut [8] from 22 to 30 (fun kv wx=>kv=.int .u64 kk∧Aside (Below w.heap.size w wx∧Dk wx u1.heap.size true (.slice a1 (ws XD).length c1) eD))
 case first =>
  have O1:=hid (HO.out U1);have O2:=hid (HO.out U1.drew)
  go_region_held3 (fun w'=>w'.cell? ⟨u1.heap.size,0,none⟩=some (.bool true)∧w'.cell? ⟨u1.heap.size,1,none⟩=some (.slice a1 (ws XD).length c1)∧w'.cell? ⟨u1.heap.size,2,none⟩=some (.int .i64 eD)) (go_keep) (first
   | (go_at_call 66
      first | with_reducible refine O1.out.mono ?_ | with_reducible refine O2.out.mono ?_
      rintro r u3 ⟨rfl,hb⟩;have hb3:Below U1.heap.size U1 u3:=by first | exact hb | exact ((Below.refl _ U1).drew).trans (hb.mono (Nat.le_refl _))
      have KD:=S1.out.2.1.below hb3;have KN:=S1.out.2.2.below hb3;have KB:=S1.out.1.trans (hb3.mono S1.out.1.size);have HB3:=hid (HB.out u3 a1 c1 (KN.arg' (by omega)).2)
      obtain ⟨q0,q1,q2,qf0,qf1,qf2⟩:=KD.facts;have S9:=(qsd (ai KB KD));clear hb hb3 KD KN KB)
   | (go_at_call 116
      with_reducible refine HB3.out.mono ?_
      rintro r u4 ⟨rfl,hb⟩;have LD:=S9.out.2.below hb;obtain ⟨t0,t1,t2,tf0,tf1,tf2⟩:=LD.facts;have LB:=S9.out.1.trans (hb.mono S9.out.1.size);have S10:=(qsd (ai LB LD));clear hb LD LB))
  all_goals (
   go_wp2
   go_meet
   case rel=>exact ⟨rfl,S10⟩)
 case rest =>
  obtain ⟨rfl,S2⟩:=hcut;clear p0 p1 p2 pf0 pf1 pf2;obtain ⟨p0,p1,p2,pf0,pf1,pf2⟩:=S2.out.2.facts;go_wp2
  go_ret2
  exact ⟨rfl,S2.out.1⟩
end
section
open Go.RowKit
theorem moved_raw {w:World}{a:Option Addr}{l c:Nat}{xs:List Nat}{X:Nat}(k:Nat) (h1:Arg w a l c xs) (hX:val xs=X) (hl:l≤2000000) (hk:k≤64000000) :
 Calls Tryz.prog 71 #[.slice a l c,.int .i64 (k:Nat)] w fun r w'=>∃ v,r=.returned v∧Nt w.heap.size w' v (X*2^k)∧Below w.heap.size w w':=by
 obtain ⟨q,hq⟩:∃ q,q=k/32:=⟨_,rfl⟩;obtain ⟨s,hs⟩:∃ s,s=k%32:=⟨_,rfl⟩;have e1:(k:Int)/32=(q:Int):=by omega
 have e2:(k:Int)%32=(s:Int):=by omega
 have hqb:q≤2000000:=by omega
 have hs32:s<32:=by omega
 obtain ⟨W1,hW1⟩:∃ W,W=w.alloc (.cells (madeCells #[.int .u32 0] q) 133):=⟨_,rfl⟩;have hO1:Own W1 w.heap.size (List.replicate q 0):=by rw [hW1];exact Own.made w q
 have hB1:Below w.heap.size w W1:=by rw [hW1];exact (Below.refl _ _).alloc (Nat.le_refl _) _
 have hmk:=make_words (q:Int) q rfl (by omega) w
 rw [←hW1] at hmk;have hR:=own_row_made hO1 (by simp;omega)
 simp only [List.length_replicate] at hR;have A1:=h1.below hB1;obtain ⟨v',w2,hap,hown,hgrow⟩:=append_words W1 w.heap.size _ q (List.replicate q 0) xs a l c W1.heap.size 45 hR A1.len A1.rd A1.nil (by omega) hB1.size
 have hB2:Below w.heap.size w w2:=hB1.grown hgrow hB1.size (fun k hk=>by simp [Value.ownBlock] at hk;omega)
 obtain ⟨a2,c2,rfl,hc2,hl2,hnil2,hRd2⟩:=Rw.words hown;have AO:Arg w2 a2 (q+l) c2 (List.replicate q 0++xs):=⟨hl2,hc2,by omega,(Wf.zeros q).append h1.wf,hRd2,hnil2⟩
 have hval:val (List.replicate q 0++xs)=X*pw q:=by
  rw [val_append,val_zeros,hX,List.length_replicate,Nat.zero_add,Nat.mul_comm]
 have hpw:pw q*2^s=2^k:=by
  have:pw q=2^(32*q):=by unfold pw;rw [Nat.pow_mul]
  rw [this,←Nat.pow_add]
  congr 1
  omega
 have hps:=pow_small s hs32;obtain ⟨p,hp⟩:∃ p,p=2^s:=⟨_,rfl⟩
 have e3:(2:Int)^s=(p:Int):=by
  have h5:((2^s:Nat):Int)=(2:Int)^s:=by simp
  rw [←h5,←hp]
 have hpl:p<4294967296:=by omega
 have T1:=hid (rTimes_arg (V:=X*2^k) (AO.below (below_alloc w2 _)) (lit_arg w2 p (by omega)) (by omega) (by rw [hval];simp only [val];rw [←hpw,hp,Nat.mul_assoc];simp))
 have HAP:=hid hap;have hs2:=hB2.size;have S1:=qsd hB2;clear hap hown hgrow hB2 hl2 hnil2 hRd2 AO hval hpw A1 hR hO1 hB1 h1 hW1 hq hs hps hp hX;go_enter Tryz.func71,Tryz.ntmps71
 go_wp2_with (at_builtin;refine wpList_append_run2 rfl (.tmp 39) (.tmp 40) 45 rfl _ _ rfl rfl _ _ HAP.out ?_)
 refine T1.out.mono ?_;rintro r u3 ⟨v3,rfl,hN3,hb3⟩;have S2:=(qsd (ai hN3 hb3));clear hN3 hb3;go_wp2;go_ret;obtain ⟨hN3,hb3⟩:=S2.out;exact ⟨v3,rfl,hN3.mono (by simp;omega),S1.out.trans (((below_alloc w2 _).trans (hb3.mono (by simp))).mono hs2)⟩
theorem ag_zero1 {w:World}{a b:Option Addr}{n c m d:Nat}(e f:Int) (x y:Nat) (bx:x≤1125899906842624) (by':y≤1125899906842624) (hx:x=0) (z:Int)
 (H1:Hid (Calls Tryz.prog 124 #[.slice a n c] w fun r w'=>r=.returned (.int .i64 (x:Nat))∧w'=w))
 (H2:Hid (Calls Tryz.prog 124 #[.slice b m d] w fun r w'=>r=.returned (.int .i64 (y:Nat))∧w'=w))
 (HC:Hid (Calls Tryz.prog 73 #[.slice a n c,.slice b m d] w fun r w'=>r=.returned (.int .i64 z)∧Below w.heap.size w w')):Calls Tryz.prog 76 #[.slice a n c,.int .i64 e,.slice b m d,.int .i64 f] w fun r w'=>r=.returned (.int .i64 z)∧Below w.heap.size w w':=by
 have ex:IntKind.u64.wrap (x:Int)=(x:Int):=by rw [IntKind.wrap_u64];omega
 have ey:IntKind.u64.wrap (y:Int)=(y:Int):=by rw [IntKind.wrap_u64];omega
 subst hx;go_enter Tryz.func76,Tryz.ntmps76
 go_wp2_with fail
 refine H1.out.mono ?_;rintro r ww ⟨rfl,hw⟩;rw [hw];clear hw ww
 go_wp2_with fail
 refine H2.out.mono ?_;rintro r ww ⟨rfl,hw⟩;rw [hw];clear hw ww
 go_wp2_with fail
 refine HC.out.mono ?_;rintro r u1 ⟨rfl,hb⟩;have S1:=qsd hb;clear hb;go_wp2;go_ret;exact ⟨rfl,S1.out⟩
theorem ag_zero2 {w:World}{a b:Option Addr}{n c m d:Nat}(e f:Int) (x y:Nat) (bx:x≤1125899906842624) (by':y≤1125899906842624) (hx:((x:Int)==0)=false) (hy:y=0) (z:Int)
 (H1:Hid (Calls Tryz.prog 124 #[.slice a n c] w fun r w'=>r=.returned (.int .i64 (x:Nat))∧w'=w))
 (H2:Hid (Calls Tryz.prog 124 #[.slice b m d] w fun r w'=>r=.returned (.int .i64 (y:Nat))∧w'=w))
 (HC:Hid (Calls Tryz.prog 73 #[.slice a n c,.slice b m d] w fun r w'=>r=.returned (.int .i64 z)∧Below w.heap.size w w')):Calls Tryz.prog 76 #[.slice a n c,.int .i64 e,.slice b m d,.int .i64 f] w fun r w'=>r=.returned (.int .i64 z)∧Below w.heap.size w w':=by
 have ex:IntKind.u64.wrap (x:Int)=(x:Int):=by rw [IntKind.wrap_u64];omega
 have ey:IntKind.u64.wrap (y:Int)=(y:Int):=by rw [IntKind.wrap_u64];omega
 subst hy;go_enter Tryz.func76,Tryz.ntmps76
 go_wp2_with fail
 refine H1.out.mono ?_;rintro r ww ⟨rfl,hw⟩;rw [hw];clear hw ww
 go_wp2_with fail
 refine H2.out.mono ?_;rintro r ww ⟨rfl,hw⟩;rw [hw];clear hw ww
 go_wp2_with fail
 refine HC.out.mono ?_;rintro r u1 ⟨rfl,hb⟩;have S1:=qsd hb;clear hb;go_wp2;go_ret;exact ⟨rfl,S1.out⟩
theorem ag_turn {w:World}{a b:Option Addr}{n c m d:Nat}(e f:Int) (x y:Nat) (bx:x≤1125899906842624) (by':y≤1125899906842624) (hx:((x:Int)==0)=false) (hy:((y:Int)==0)=false) (hlt:e<f) (z:Int) (hz0:-1≤z) (hz1:z≤1)
 (H1:Hid (Calls Tryz.prog 124 #[.slice a n c] w fun r w'=>r=.returned (.int .i64 (x:Nat))∧w'=w))
 (H2:Hid (Calls Tryz.prog 124 #[.slice b m d] w fun r w'=>r=.returned (.int .i64 (y:Nat))∧w'=w))
 (HR:Hid (Calls Tryz.prog 76 #[.slice b m d,.int .i64 f,.slice a n c,.int .i64 e] w fun r w'=>r=.returned (.int .i64 z)∧Below w.heap.size w w')):Calls Tryz.prog 76 #[.slice a n c,.int .i64 e,.slice b m d,.int .i64 f] w fun r w'=>r=.returned (.int .i64 (-z))∧Below w.heap.size w w':=by
 have ex:IntKind.u64.wrap (x:Int)=(x:Int):=by rw [IntKind.wrap_u64];omega
 have ey:IntKind.u64.wrap (y:Int)=(y:Int):=by rw [IntKind.wrap_u64];omega
 go_enter Tryz.func76,Tryz.ntmps76
 go_wp2_with fail
 refine H1.out.mono ?_;rintro r ww ⟨rfl,hw⟩;rw [hw];clear hw ww
 go_wp2_with fail
 refine H2.out.mono ?_;rintro r ww ⟨rfl,hw⟩;rw [hw];clear hw ww
 go_wp2_with fail
 refine HR.out.mono ?_;rintro r u1 ⟨rfl,hb⟩;have S1:=qsd hb;clear hb;go_wp2;go_ret;exact ⟨rfl,S1.out⟩
theorem ag_far {w:World}{a b:Option Addr}{n c m d:Nat}(e f:Int) (x y:Nat) (bx:x≤1125899906842624) (by':y≤1125899906842624) (hx:((x:Int)==0)=false) (hy:((y:Int)==0)=false) (hge:decide (e<f)=false) (dd:Nat) (hap:IntKind.u64.wrap (IntKind.u64.wrap e-IntKind.u64.wrap f)=(dd:Int)) (hd:1099511627776<dd)
 (H1:Hid (Calls Tryz.prog 124 #[.slice a n c] w fun r w'=>r=.returned (.int .i64 (x:Nat))∧w'=w))
 (H2:Hid (Calls Tryz.prog 124 #[.slice b m d] w fun r w'=>r=.returned (.int .i64 (y:Nat))∧w'=w)):Calls Tryz.prog 76 #[.slice a n c,.int .i64 e,.slice b m d,.int .i64 f] w fun r w'=>r=.returned (.int .i64 1)∧Below w.heap.size w w':=by
 have hd2:(1099511627776:Int)<(dd:Int):=by omega
 have ex:IntKind.u64.wrap (x:Int)=(x:Int):=by rw [IntKind.wrap_u64];omega
 have ey:IntKind.u64.wrap (y:Int)=(y:Int):=by rw [IntKind.wrap_u64];omega
 go_enter Tryz.func76,Tryz.ntmps76
 go_wp2_with fail
 refine H1.out.mono ?_;rintro r ww ⟨rfl,hw⟩;rw [hw];clear hw ww
 go_wp2_with fail
 refine H2.out.mono ?_;rintro r ww ⟨rfl,hw⟩;rw [hw];clear hw ww;go_wp2;go_ret;exact ⟨rfl,Below.refl _ _⟩
theorem ag_more {w:World}{a b:Option Addr}{n c m d:Nat}(e f:Int) (x y:Nat) (bx:x≤1125899906842624) (by':y≤1125899906842624) (hx:((x:Int)==0)=false) (hy:((y:Int)==0)=false) (hge:decide (e<f)=false) (dd:Nat) (hap:IntKind.u64.wrap (IntKind.u64.wrap e-IntKind.u64.wrap f)=(dd:Int)) (hd:dd≤1099511627776) (h1:y<x+dd)
 (H1:Hid (Calls Tryz.prog 124 #[.slice a n c] w fun r w'=>r=.returned (.int .i64 (x:Nat))∧w'=w))
 (H2:Hid (Calls Tryz.prog 124 #[.slice b m d] w fun r w'=>r=.returned (.int .i64 (y:Nat))∧w'=w)):Calls Tryz.prog 76 #[.slice a n c,.int .i64 e,.slice b m d,.int .i64 f] w fun r w'=>r=.returned (.int .i64 1)∧Below w.heap.size w w':=by
 have hd2:decide ((1099511627776:Int)<(dd:Int))=false:=decide_eq_false (by omega)
 have hd3:decide (1099511627776<dd)=false:=decide_eq_false (by omega)
 have es:IntKind.u64.wrap ((x:Int)+(dd:Int))=(x:Int)+(dd:Int):=by rw [IntKind.wrap_u64];omega
 have h2:(y:Int)<(x:Int)+(dd:Int):=by omega
 have ex:IntKind.u64.wrap (x:Int)=(x:Int):=by rw [IntKind.wrap_u64];omega
 have ey:IntKind.u64.wrap (y:Int)=(y:Int):=by rw [IntKind.wrap_u64];omega
 go_enter Tryz.func76,Tryz.ntmps76
 go_wp2_with fail
 refine H1.out.mono ?_;rintro r ww ⟨rfl,hw⟩;rw [hw];clear hw ww
 go_wp2_with fail
 refine H2.out.mono ?_;rintro r ww ⟨rfl,hw⟩;rw [hw];clear hw ww;go_wp2;go_ret;exact ⟨rfl,Below.refl _ _⟩
theorem ag_less {w:World}{a b:Option Addr}{n c m d:Nat}(e f:Int) (x y:Nat) (bx:x≤1125899906842624) (by':y≤1125899906842624) (hx:((x:Int)==0)=false) (hy:((y:Int)==0)=false) (hge:decide (e<f)=false) (dd:Nat) (hap:IntKind.u64.wrap (IntKind.u64.wrap e-IntKind.u64.wrap f)=(dd:Int)) (hd:dd≤1099511627776) (h1:x+dd<y)
 (H1:Hid (Calls Tryz.prog 124 #[.slice a n c] w fun r w'=>r=.returned (.int .i64 (x:Nat))∧w'=w))
 (H2:Hid (Calls Tryz.prog 124 #[.slice b m d] w fun r w'=>r=.returned (.int .i64 (y:Nat))∧w'=w)):Calls Tryz.prog 76 #[.slice a n c,.int .i64 e,.slice b m d,.int .i64 f] w fun r w'=>r=.returned (.int .i64 (-1))∧Below w.heap.size w w':=by
 have hd2:decide ((1099511627776:Int)<(dd:Int))=false:=decide_eq_false (by omega)
 have hd3:decide (1099511627776<dd)=false:=decide_eq_false (by omega)
 have es:IntKind.u64.wrap ((x:Int)+(dd:Int))=(x:Int)+(dd:Int):=by rw [IntKind.wrap_u64];omega
 have h2:(x:Int)+(dd:Int)<(y:Int):=by omega
 have h3:decide ((y:Int)<(x:Int)+(dd:Int))=false:=decide_eq_false (by omega)
 have h4:decide (y<x+dd)=false:=decide_eq_false (by omega)
 have ex:IntKind.u64.wrap (x:Int)=(x:Int):=by rw [IntKind.wrap_u64];omega
 have ey:IntKind.u64.wrap (y:Int)=(y:Int):=by rw [IntKind.wrap_u64];omega
 go_enter Tryz.func76,Tryz.ntmps76
 go_wp2_with fail
 refine H1.out.mono ?_;rintro r ww ⟨rfl,hw⟩;rw [hw];clear hw ww
 go_wp2_with fail
 refine H2.out.mono ?_;rintro r ww ⟨rfl,hw⟩;rw [hw];clear hw ww;go_wp2;go_ret;exact ⟨rfl,Below.refl _ _⟩
theorem ag_even {w:World}{a b:Option Addr}{n c m d:Nat}(e f:Int) (x y:Nat) (bx:x≤1125899906842624) (by':y≤1125899906842624) (hx:((x:Int)==0)=false) (hy:((y:Int)==0)=false) (hge:decide (e<f)=false) (dd:Nat) (hap:IntKind.u64.wrap (IntKind.u64.wrap e-IntKind.u64.wrap f)=(dd:Int)) (hd:dd≤64000000) (h1:x+dd=y) (P:Nat) (lP:(ws P).length≤35184372088832) (z:Int)
 (H1:Hid (Calls Tryz.prog 124 #[.slice a n c] w fun r w'=>r=.returned (.int .i64 (x:Nat))∧w'=w))
 (H2:Hid (Calls Tryz.prog 124 #[.slice b m d] w fun r w'=>r=.returned (.int .i64 (y:Nat))∧w'=w))
 (HM:Hid (Calls Tryz.prog 71 #[.slice a n c,.int .i64 (dd:Nat)] w fun r w'=>∃ v,r=.returned v∧Nt w.heap.size w' v P∧Below w.heap.size w w'))
 (HC:Hid (∀ u p q,Below w.heap.size w u→Arg u p (ws P).length q (ws P)→Calls Tryz.prog 73 #[.slice p (ws P).length q,.slice b m d] u fun r w'=>r=.returned (.int .i64 z)∧Below u.heap.size u w')):Calls Tryz.prog 76 #[.slice a n c,.int .i64 e,.slice b m d,.int .i64 f] w fun r w'=>r=.returned (.int .i64 z)∧Below w.heap.size w w':=by
 have hd2:decide ((1099511627776:Int)<(dd:Int))=false:=decide_eq_false (by omega)
 have hd3:decide (1099511627776<dd)=false:=decide_eq_false (by omega)
 have es:IntKind.u64.wrap ((x:Int)+(dd:Int))=(x:Int)+(dd:Int):=by rw [IntKind.wrap_u64];omega
 have h2:decide ((x:Int)+(dd:Int)<(y:Int))=false:=decide_eq_false (by omega)
 have h3:decide ((y:Int)<(x:Int)+(dd:Int))=false:=decide_eq_false (by omega)
 have h4:decide (y<x+dd)=false:=decide_eq_false (by omega)
 have h5:decide (x+dd<y)=false:=decide_eq_false (by omega)
 have ed:IntKind.i64.wrap (dd:Int)=(dd:Int):=by rw [IntKind.wrap_i64];omega
 clear h1;have ex:IntKind.u64.wrap (x:Int)=(x:Int):=by rw [IntKind.wrap_u64];omega
 have ey:IntKind.u64.wrap (y:Int)=(y:Int):=by rw [IntKind.wrap_u64];omega
 go_enter Tryz.func76,Tryz.ntmps76
 go_wp2_with fail
 refine H1.out.mono ?_;rintro r ww ⟨rfl,hw⟩;rw [hw];clear hw ww
 go_wp2_with fail
 refine H2.out.mono ?_;rintro r ww ⟨rfl,hw⟩;rw [hw];clear hw ww
 go_wp2_with fail
 refine HM.out.mono ?_;rintro r u1 ⟨v,rfl,hN,hb⟩;obtain ⟨a1,c1,rfl,A1⟩:=hN.arg lP;have HC1:=hid (HC.out u1 a1 c1 hb A1);have hs1:=hb.size;have S1:=qsd hb;clear hN hb A1
 go_wp2_with fail
 refine HC1.out.mono ?_;rintro r u2 ⟨rfl,hb⟩;have S2:=qsd (S1.out.trans (hb.mono hs1));clear hb;go_wp2;go_ret;exact ⟨rfl,S2.out⟩
def agV (X:Nat) (e:Int) (Y:Nat) (f:Int):Int:=if X=0∨Y=0 then cmpI X Y else cmpP X e Y f
theorem against_ge {w:World}{a b:Option Addr}{n c m d:Nat}{xs ys:List Nat}(h1:Arg w a n c xs) (h2:Arg w b m d ys) (hn:n≤2000000) (hm:m≤2000000) (e f:Int) (he0:-9223372036854775808≤e) (he1:e≤9223372036854775807) (hf0:-9223372036854775808≤f) (hf1:f≤9223372036854775807) (h:f≤e) (hX:val xs≠0) (hY:val ys≠0) :
 Calls Tryz.prog 76 #[.slice a n c,.int .i64 e,.slice b m d,.int .i64 f] w fun r w'=>r=.returned (.int .i64 (cmpP (val xs) e (val ys) f))∧Below w.heap.size w w':=by
 have b1:=h1.big;have b2:=h2.big;have L1:=hid (rLen_any xs a n c w.heap.size w h1.len (by omega) h1.wf h1.rd)
 have L2:=hid (rLen_any ys b m d w.heap.size w h2.len (by omega) h2.wf h2.rd)
 have x0:(((bl (val xs):Nat):Int)==0)=false:=by have:=bl_pos _ hX;simp;omega
 have y0:(((bl (val ys):Nat):Int)==0)=false:=by have:=bl_pos _ hY;simp;omega
 have hap:=u64_apart e f he0 he1 hf0 hf1 h;have hge:decide (e<f)=false:=decide_eq_false (by omega)
 have c1:=bl_arg h1
 have c2:bl (val ys)≤64000000:=by
  have:=val_lt ys h2.wf;rw [←h2.len] at this;have:=bl_pw _ _ this;omega
 unfold cmpP;rw [if_neg (by omega)]
 obtain ⟨dd,hdd⟩:∃ dd,(e-f).toNat=dd:=⟨_,rfl⟩;rw [hdd] at hap ⊢;have hb:=bl_up (val xs) dd hX
 by_cases k1:1099511627776<dd
 · have:cmpI (val xs*2^dd) (val ys)=1:=by
    rw [cmpI_bl (by omega),hb];unfold cmpI;rw [if_neg (by omega),if_pos (by omega)]
   rw [this];exact ag_far e f _ _ c1 (by omega) x0 y0 hge dd hap k1 L1 L2
 · by_cases k2:bl (val ys)<bl (val xs)+dd
   · have:cmpI (val xs*2^dd) (val ys)=1:=by
      rw [cmpI_bl (by omega),hb];unfold cmpI;rw [if_neg (by omega),if_pos (by omega)]
     rw [this];exact ag_more e f _ _ c1 (by omega) x0 y0 hge dd hap (by omega) k2 L1 L2
   · by_cases k3:bl (val xs)+dd<bl (val ys)
     · have:cmpI (val xs*2^dd) (val ys)=-1:=by
        rw [cmpI_bl (by omega),hb];unfold cmpI;rw [if_pos (by omega)]
       rw [this];exact ag_less e f _ _ c1 (by omega) x0 y0 hge dd hap (by omega) k3 L1 L2
     · have lP:(ws (val xs*2^dd)).length≤35184372088832:=by rw [ws_len_bl,hb];omega
       obtain ⟨P,hP⟩:∃ P,val xs*2^dd=P:=⟨_,rfl⟩;have HM:=hid (moved_raw (X:=val xs) dd h1 rfl hn (by omega))
       rw [hP] at HM lP ⊢;exact ag_even e f _ _ c1 (by omega) x0 y0 hge dd hap (by omega) (by omega) P lP _ L1 L2 HM (hid fun u p q hu hA=>rCmp_arg hA (h2.below hu) _ (by rw [val_ws]))
theorem against_any {w:World}{a b:Option Addr}{n c m d:Nat}{xs ys:List Nat}(h1:Arg w a n c xs) (h2:Arg w b m d ys) (hn:n≤2000000) (hm:m≤2000000) (e f:Int) (he0:-9223372036854775808≤e) (he1:e≤9223372036854775807) (hf0:-9223372036854775808≤f) (hf1:f≤9223372036854775807) :
 Calls Tryz.prog 76 #[.slice a n c,.int .i64 e,.slice b m d,.int .i64 f] w fun r w'=>r=.returned (.int .i64 (agV (val xs) e (val ys) f))∧Below w.heap.size w w':=by
 have b1:=h1.big;have b2:=h2.big;have L1:=hid (rLen_any xs a n c w.heap.size w h1.len (by omega) h1.wf h1.rd)
 have L2:=hid (rLen_any ys b m d w.heap.size w h2.len (by omega) h2.wf h2.rd)
 have c1:=bl_arg h1;have c2:=bl_arg h2;unfold agV
 by_cases hX:val xs=0
 · rw [if_pos (.inl hX)]
   exact ag_zero1 e f _ _ c1 c2 (by rw [hX,bl_zero]) _ L1 L2 (hid (rCmp_arg h1 h2 _ rfl))
 · have x0:(((bl (val xs):Nat):Int)==0)=false:=by have:=bl_pos _ hX;simp;omega
   by_cases hY:val ys=0
   · rw [if_pos (.inr hY)]
     exact ag_zero2 e f _ _ c1 c2 x0 (by rw [hY,bl_zero]) _ L1 L2 (hid (rCmp_arg h1 h2 _ rfl))
   · have y0:(((bl (val ys):Nat):Int)==0)=false:=by have:=bl_pos _ hY;simp;omega
     rw [if_neg (fun h=>h.elim hX hY)]
     by_cases h:e<f
     · have hr:=cmpP_range (val ys) f (val xs) e
       have:=ag_turn e f _ _ c1 c2 x0 y0 h (cmpP (val ys) f (val xs) e) (by omega) (by omega) L1 L2 (hid (against_ge h2 h1 hm hn f e hf0 hf1 he0 he1 (by omega) hY hX))
       rw [cmpP_neg] at this;exact this
     · exact against_ge h1 h2 hn hm e f he0 he1 hf0 hf1 (by omega) hX hY
end
section
open Go.RowKit
theorem agV_z (X:Nat) (e:Int) (Y:Nat) (f B:Int) (h1:B≤e) (h2:B≤f):agV X e Y f=cmpZ ((X*2^(e-B).toNat:Nat):Int) ((Y*2^(f-B).toNat:Nat):Int):=by
 rw [cmpZ_nat];unfold agV
 by_cases h:X=0∨Y=0
 · rw [if_pos h]
   have p1:=pos_iff X (e-B).toNat;have p2:=pos_iff Y (f-B).toNat;generalize X*2^(e-B).toNat=P at p1 ⊢;generalize Y*2^(f-B).toNat=Q at p2 ⊢
   have q1:X=0∧P=0∨X≠0∧P≠0:=by
    by_cases h:X=0
    · exact .inl ⟨h,p1.2 h⟩
    · exact .inr ⟨h,fun k=>h (p1.1 k)⟩
   have q2:Y=0∧Q=0∨Y≠0∧Q≠0:=by
    by_cases h:Y=0
    · exact .inl ⟨h,p2.2 h⟩
    · exact .inr ⟨h,fun k=>h (p2.1 k)⟩
   clear p1 p2;unfold cmpI
   rcases h with h|h
   · rcases q1 with ⟨a,b⟩ | ⟨a,b⟩
     · rcases q2 with ⟨c,d⟩ | ⟨c,d⟩
       · rw [a,b,c,d]
       · rw [a,b,if_pos (by omega),if_pos (by omega)]
     · exact absurd h a
   · rcases q2 with ⟨c,d⟩ | ⟨c,d⟩
     · rcases q1 with ⟨a,b⟩ | ⟨a,b⟩
       · rw [a,b,c,d]
       · rw [c,d,if_neg (by omega),if_pos (by omega),if_neg (by omega),if_pos (by omega)]
     · exact absurd h c
 · rw [if_neg h]
   exact cmpP_base X e Y f B h1 h2
theorem num64_vK (k:Nat) (B:Int) (hB:B≤-1074):(num64 k).1*2^((num64 k).2-B).toNat=vK k*2^(-1074-B).toNat∧(num64 k).1<9007199254740992∧B≤(num64 k).2∧((num64 k).1=0↔k=0):=by
 unfold num64
 by_cases h:k/4503599627370496=0
 · rw [if_pos h]
   refine ⟨?_,by simp only;omega,by simp only;omega,by simp only;omega⟩
   simp only;have:=vK_word 0 k (.inl rfl) (by omega)
   rw [Nat.zero_mul,Nat.zero_add,Nat.pow_zero,Nat.mul_one] at this;rw [this,show k%4503599627370496=k by omega]
 · rw [if_neg h]
   obtain ⟨q,hq⟩:∃ q,k/4503599627370496=q:=⟨_,rfl⟩;obtain ⟨f,hf⟩:∃ f,k%4503599627370496=f:=⟨_,rfl⟩;rw [hq,hf];refine ⟨?_,by simp only;omega,by simp only;omega,by simp only;omega⟩
   simp only;have:=vK_word (q-1) (4503599627370496+f) (.inr (by omega)) (by omega)
   rw [show (q-1)*4503599627370496+(4503599627370496+f)=k by omega] at this
   rw [this,Nat.mul_assoc,←Nat.pow_add,show (-1074+(q:Int)-1-B).toNat=q-1+(-1074-B).toNat by omega]
theorem num64_len (k:Nat):(ws (num64 k).1).length≤8192:=len8 (by have:=bl_le53 _ (num64_vK k (-1074) (Int.le_refl _)).2.1;omega)
theorem num64_step (k:Nat):(num64 k).2≤(num64 (k+1)).2∧(num64 (k+1)).2≤(num64 k).2+1∧-1074≤(num64 k).2:=by
 unfold num64
 by_cases h:k/4503599627370496=0
 · rw [if_pos h]
   by_cases h':(k+1)/4503599627370496=0
   · rw [if_pos h'];simp only;omega
   · rw [if_neg h'];simp only;omega
 · rw [if_neg h,if_neg (by omega)]
   simp only;omega
end
section
open Go.RowKit
theorem cmpZ_range (x y:Int):cmpZ x y=-1∨cmpZ x y=0∨cmpZ x y=1:=by
 unfold cmpZ
 split
 · exact .inl rfl
 · split
   · exact .inr (.inr rfl)
   · exact .inr (.inl rfl)
theorem cmpZ_eq {x y:Int}:cmpZ x y=0↔x=y:=by
 unfold cmpZ
 split
 · omega
 · split
   · omega
   · omega
theorem cmpZ_pos {x y:Int}:0<cmpZ x y↔y<x:=by
 unfold cmpZ
 split
 · omega
 · split
   · omega
   · omega
def endK (X:Nat) (e:Int):Nat:=if X=0 then 0 else flK X e
def endZ (X:Nat) (e:Int) (k:Nat):Int:=agV (num64 k).1 (num64 k).2 X e
def endH (X:Nat) (e:Int) (k:Nat):Int:=agV (X*2) e ((num64 k).1+(num64 (k+1)).1*2^((num64 (k+1)).2-(num64 k).2).toNat) (num64 k).2
theorem endZ_z (X:Nat) (e:Int) (he:-1048576≤e) (k:Nat):endZ X e k=cmpZ ((vK k*2^(-1074 - -1048576:Int).toNat:Nat):Int) ((X*2^(e - -1048576).toNat:Nat):Int):=by
 have h:=num64_vK k (-1048576) (by omega)
 unfold endZ;rw [agV_z _ _ _ _ (-1048576) h.2.2.1 he,h.1]
theorem endH_z (X:Nat) (e:Int) (he:-1048576≤e) (k:Nat):endH X e k=cmpZ ((2*(X*2^(e - -1048576).toNat):Nat):Int) ((vK k*2^(-1074 - -1048576:Int).toNat+vK (k+1)*2^(-1074 - -1048576:Int).toNat:Nat):Int):=by
 have h:=num64_vK k (-1048576) (by omega)
 have h1:=num64_vK (k+1) (-1048576) (by omega)
 have hs:=num64_step k;unfold endH;rw [agV_z _ _ _ _ (-1048576) he h.2.2.1,←h.1,←h1.1,Nat.add_mul,Nat.mul_assoc (num64 (k+1)).1,←Nat.pow_add,show ((num64 (k+1)).2-(num64 k).2).toNat+((num64 k).2 - -1048576).toNat=((num64 (k+1)).2 - -1048576).toNat by omega,Nat.mul_comm X 2,Nat.mul_assoc 2]
theorem end_uniq {n:Bool}{X:Nat}{e:Int}(F:Frm n X e) (k:Nat) (hk:k<9218868437227405312) (h1:k=0∨endZ X e k≤0) (h2:k+1=9218868437227405312∨0<endZ X e (k+1)):k=endK X e:=by
 have a1:vK k*2^(-1074 - -1048576:Int).toNat≤X*2^(e - -1048576).toNat:=by
  rcases h1 with rfl|h1
  · rw [show vK 0=0 from B.val_zero _,Nat.zero_mul];exact Nat.zero_le _
  · rw [endZ_z X e F.down,cmpZ_le] at h1
    exact Int.ofNat_le.1 h1
 unfold endK
 by_cases hX:X=0
 · rw [if_pos hX]
   rw [hX,Nat.zero_mul] at a1
   by_cases h0:k=0
   · exact h0
   · have:=vS_lt (K:=0) (L:=k) (Nat.two_pow_pos (-1074 - -1048576:Int).toNat) (by omega)
     omega
 · rw [if_neg hX]
   have L:=lies X e (frm_odd F hX) F.down F.up (-1048576) F.down (by omega)
   refine (L.doc k hk a1 ?_).1
   rcases h2 with h2|h2
   · exact .inl h2
   · rw [endZ_z X e F.down,cmpZ_pos] at h2
     exact .inr (Int.ofNat_lt.1 h2)
theorem endK_lt {n:Bool}{X:Nat}{e:Int}(F:Frm n X e):endK X e<9218868437227405312:=by
 unfold endK
 split
 · omega
 · rename_i hX
   exact (lies X e (frm_odd F hX) F.down F.up (-1048576) F.down (by omega)).fin
theorem end_rW (mode:Int) {n:Bool}{X:Nat}{e:Int}(F:Frm n X e):nbyD mode n (endK X e) (endZ X e (endK X e)) (endH X e (endK X e))=rW mode n X e:=by
 unfold nbyD rW;rw [endZ_z X e F.down,endH_z X e F.down]
 by_cases hX:X=0
 · rw [if_pos hX]
   have hk:endK X e=0:=by unfold endK;rw [if_pos hX]
   rw [hk,if_pos];rw [cmpZ_eq,hX,show vK 0=0 from B.val_zero _,Nat.zero_mul,Nat.zero_mul]
 · rw [if_neg hX]
   have L:=lies X e (frm_odd F hX) F.down F.up (-1048576) F.down (by omega)
   have hk:endK X e=flK X e:=by unfold endK;rw [if_neg hX]
   rw [hk,rndK_eq]
   have hd:=L.doc (flK X e) L.fin L.ge (by
    cases ht:(plc 53 (-1074) 1024 X e).2.2.1 with
    | true =>
      have:=L.one ht
      right
      rw [this];exact vS_lt L.pos (by omega)
    | false =>
      rcases L.high ht with h|h
      · exact .inr h
      · exact .inl (by omega))
   unfold rK
   cases ht:(plc 53 (-1074) 1024 X e).2.2.1 with
   | true =>
     have:=L.one ht;rw [if_pos (cmpZ_eq.2 (by rw [this])),if_pos rfl]
   | false =>
     have h1:=L.low ht;have h2:=hd.2.2 ht;rw [if_neg (fun q=>by have:=Int.ofNat.inj (cmpZ_eq.1 q);omega),←h2]
     rfl
theorem nearby64 {u:World}{p:Option Addr}{s:Nat}{n:Bool}{X:Nat}{e:Int}(A:Arg u p (ws X).length s (ws X)) (F:Frm n X e) (mode:Int) (hm0:0≤mode) (hm4:mode≤4) :
 Calls Tryz.prog 116 #[.agg #[.int .i64 53,.int .i64 (-1074),.int .u64 9218868437227405312],.bool n,.slice p (ws X).length s,.int .i64 e,.int .i64 mode] u fun r w'=>r=.returned (.int .u64 (rW mode n X e:Nat))∧Below u.heap.size u w':=by
 have hd:=F.down;have hu:=F.up;have lX:=frm_len F;have hsz:=F.size;have hK:=endK_lt F;rw [←end_rW mode F];obtain ⟨K,hKK⟩:∃ K,endK X e=K:=⟨_,rfl⟩;rw [hKK] at hK ⊢;have b0:=num64_vK K (-1074) (Int.le_refl _);have b1:=num64_vK (K+1) (-1074) (Int.le_refl _);have st:=num64_step K;have fr:(num64 K).2≤1000:=by unfold num64;split <;> simp only <;> omega
 have t2:(ws (X*2)).length≤8193:=by
  rw [ws_len_bl];have h:=bl_le (X:=X*2) (k:=bl X+1) (by have:=bl_lt X;rw [Nat.pow_succ];omega)
  omega
 have hMV:(num64 (K+1)).1*2^((num64 (K+1)).2-(num64 K).2).toNat<2^54:=by
  have hp:2^((num64 (K+1)).2-(num64 K).2).toNat≤2:=by
   have:((num64 (K+1)).2-(num64 K).2).toNat≤1:=by omega
   exact Nat.le_trans (Nat.pow_le_pow_right (by omega) this) (by omega)
  have:=Nat.mul_le_mul_left (num64 (K+1)).1 hp;have:=b1.2.1;omega
 have lM:=len8 (X:=(num64 (K+1)).1*2^((num64 (K+1)).2-(num64 K).2).toNat) (by have:=bl_le hMV;omega)
 have lS:=len8 (X:=(num64 K).1+(num64 (K+1)).1*2^((num64 (K+1)).2-(num64 K).2).toNat) (by have:=bl_le (X:=(num64 K).1+(num64 (K+1)).1*2^((num64 (K+1)).2-(num64 K).2).toNat) (k:=55) (by have:=b0.2.1;omega);omega)
 have hv3:endH X e K=-1∨endH X e K=0∨endH X e K=1:=by rw [endH_z X e hd];exact cmpZ_range _ _
 have HAg:∀ (k:Nat) (v:World) (q:Option Addr) (t:Nat),k<9218868437227405312→Below u.heap.size u v→Arg v q (ws (num64 k).1).length t (ws (num64 k).1)→Calls Tryz.prog 76 #[.slice q (ws (num64 k).1).length t,.int .i64 (num64 k).2,.slice p (ws X).length s,.int .i64 e] v fun r w'=>r=.returned (.int .i64 (endZ X e k))∧Below v.heap.size v w':=fun k v q t hk hb hA=>by
  have hl:=num64_len k;have hr:-1074≤(num64 k).2∧(num64 k).2≤1000:=by unfold num64;split <;> simp only <;> omega
  have:=against_any hA (A.below hb) (by omega) (by omega) (num64 k).2 e (by omega) (by omega) (by omega) (by omega)
  rw [val_ws,val_ws] at this;exact this
 refine nearby_core 53 (-1074) 9218868437227405312 n K e (num64 K).2 mode (num64 K).1 _ _ (num64_len K) (by omega) hm0 hm4 hv3 ?_ (hid fun v=>rNumber64 K (by omega) v) (hid fun v q t hb hA=>HAg K v q t hK hb hA) ?_
 · refine hid fun v hb=>?_
   refine (below_core 53 (-1074) 9218868437227405312 e (by omega) (by omega) num64 (endZ X e) num64_len (hid fun k v hk=>rNumber64 k (by omega) v) (hid fun k v' q t hk hb' hA=>HAg k v' q t hk (hb.trans (hb'.mono hb.size)) hA)).mono ?_
   rintro r w' ⟨⟨k,rfl,hk,h1,h2⟩,hb2⟩;rw [end_uniq F k hk h1 h2,hKK];exact ⟨rfl,hb2⟩
 · refine hid fun v hb=>?_
   refine half_core 53 (-1074) 9218868437227405312 (K:Int) ((K+1:Nat):Int) e (num64 K).2 (num64 (K+1)).2 ((num64 (K+1)).2-(num64 K).2) (num64 K).1 (num64 (K+1)).1 ((num64 (K+1)).1*2^((num64 (K+1)).2-(num64 K).2).toNat) ((num64 K).1+(num64 (K+1)).1*2^((num64 (K+1)).2-(num64 K).2).toNat) (X*2) (endH X e K) (num64_len K) (num64_len _) lM lS (by omega) ?_ (decide_eq_false (by omega)) ?_ (hid fun v=>rNumber64 K (by omega) v) (hid fun v=>rNumber64 (K+1) (by omega) v) ?_ ?_ ?_ ?_
   · simp [IntKind.wrap,IntKind.bits,IntKind.signed];omega
   · simp [IntKind.wrap,IntKind.bits,IntKind.signed];omega
   · refine hid fun v' q t lo hN=>?_
     have:=moved_any hN ((num64 (K+1)).2-(num64 K).2) (by omega) (by omega) (fun h=>by have:=b1.2.2.2.1 h;omega) (by have:=num64_len (K+1);omega)
     rw [if_neg (by omega)] at this
     exact this
   · exact hid fun v' q t q2 t2 h1 h2=>rPlus_arg h1 h2 (by have:=num64_len K;omega) (by omega) (by rw [val_ws,val_ws])
   · exact hid fun v' q hb' hA=>rTimes_arg (A.below (hb.trans (hb'.mono hb.size))) hA (by omega) (by rw [val_ws];rfl)
   · refine hid fun v' q t q2 t3 h1 h2=>?_
     have:=against_any h1 h2 (by omega) (by omega) e (num64 K).2 (by omega) (by omega) (by omega) (by omega)
     rw [val_ws,val_ws] at this;exact this
end
section
open Go.RowKit
theorem rRound_any {w:World}{a:Option Addr}{l c:Nat}{xs:List Nat}(h1:Arg w a l c xs) (hl:l≤2000000) (n:Bool) (e mode:Int) (he0:-9223372036854775808≤e) (he1:e≤9223372036854775807) :
 Calls Tryz.prog 62 #[.agg #[.bool n,.slice a l c,.int .i64 e],.int .i64 mode] w fun r w'=>r=.returned (.tuple #[.float .f64 (rndS (mkS n (val xs) e) mode).1,.int .i64 (rndS (mkS n (val xs) e) mode).2])∧Below w.heap.size w w':=by
 have HM:=hid fun u (hu:Below w.heap.size w u)=>rMade_any (h1.below hu) hl n e he0 he1
 by_cases hm0:mode<0
 · have hr:rndS (mkS n (val xs) e) mode=(0,1):=by unfold rndS;rw [if_pos (.inl hm0)]
   rw [hr];exact rRound_lo n e mode hm0
 · by_cases hm4:4<mode
   · have hr:rndS (mkS n (val xs) e) mode=(0,1):=by unfold rndS;rw [if_pos (.inr hm4)]
     rw [hr];exact rRound_hi n e mode (decide_eq_false hm0) hm4
   · have lX:=mkS_len n (val xs) e
     cases ho:mkS n (val xs) e with
     | none =>
       rw [ho] at HM lX;have hr:rndS none mode=(0,2):=by unfold rndS;rw [if_neg (by omega)]
       rw [hr];exact rRound_no n e mode (dN none) (dE none) (dX none) (by omega) (by omega) lX HM
     | some x =>
       obtain ⟨nD,XD,eD⟩:=x;have F:=mkS_frm ho;rw [ho] at HM lX;rw [rndS_form mode nD XD eD (by omega) (by omega)]
       have hle:=rW_le mode nD XD eD F;have HB:=hid fun (u:World) (p:Option Addr) (s:Nat) (hA:Arg u p (ws XD).length s (ws XD))=>nearby64 hA F mode (by omega) (by omega)
       cases nD with
       | false =>
         refine rRound_p n e mode eD XD _ _ 0 (by omega) (by omega) lX (by omega) ?_ HM (hid fun u=>of64_any u) HB
         unfold wd64 rS
         split <;> simp
       | true =>
         have hX:XD≠0:=fun h=>by rcases F.odd with k | ⟨_,k,_⟩;omega;cases k
         refine rRound_n n e mode eD XD _ _ ((rW mode true XD eD:Nat)+9223372036854775808) (by omega) (by omega) lX (by omega) ?_ ?_ HM (hid fun u=>of64_any u) HB
         · simp [IntKind.wrap,IntKind.bits,IntKind.signed];omega
         · unfold wd64 rS
           rw [if_neg hX,if_pos rfl];omega
end
section
open Go.RowKit J
theorem sg1_sg (s:Bool) (v:Nat):sg1 s*(v:Int)=B.sg s v:=by unfold sg1 B.sg;cases s <;> simp
theorem top_v (K:Nat) (hK:K<9218868437227405312) (a:Nat) (ha:a=2045):vK K<9007199254740992*2^a:=by
 have h:=vK_word a 9007199254740992 (.inr (by omega)) (by omega)
 have h2:a*4503599627370496+9007199254740992=9218868437227405312:=by rw [ha]
 rw [←h,h2];exact vK_lt.2 hK
theorem of_fo (s:Bool) (K:Nat) (hK:K<9218868437227405312):∃ n X e,ofK s K=some (n,X,e)∧Fo (some (n,X,e)) (B.sg s (vK K)*(UU:Int)) (-1074) 1024∧(X=0↔K=0):=by
 obtain ⟨n,X,e,h1,F,h2,h3,h4⟩:=ofK_val s K hK;refine ⟨n,X,e,h1,⟨n,X,e,rfl,F,?_,?_⟩,h3⟩
 · obtain ⟨a,ha⟩:∃ a:Nat,(-1074 - -2097152:Int).toNat=a:=⟨_,rfl⟩
   have h5:=h4 (-2097152) (by omega)
   rw [ha] at h5;rw [h5,US a (by omega),Int.natCast_mul,Int.natCast_mul,←Int.mul_assoc,←Int.mul_assoc,sg1_sg]
 · by_cases hX:X=0
   · exact .inl hX
   · right
     have ho:=frm_odd F hX;have hd:=F.down
     -- in units of the form's own place
     have h5:=h4 (min e (-1074)) (by omega)
     unfold zv at h5;simp only at h5;rw [h2 hX] at h5
     have h6:X*2^(e-min e (-1074)).toNat=vK K*2^(-1074-min e (-1074)).toNat:=by
      unfold sg1 at h5
      cases s
      · simp only [Bool.false_eq_true,if_false,Int.one_mul] at h5;exact_mod_cast h5
      · simp only [if_true] at h5;have:=Int.eq_of_mul_eq_mul_left (by decide) h5;exact_mod_cast this
     have he:-1074≤e:=by
      apply Int.le_of_not_gt;intro hlt
      rw [show (e-min e (-1074)).toNat=0 by omega,Nat.pow_zero,Nat.mul_one] at h6
      obtain ⟨q,hq⟩:∃ q,(-1074-min e (-1074)).toNat=q+1:=⟨(-1074-min e (-1074)).toNat-1,by omega⟩
      rw [hq,Nat.pow_succ,←Nat.mul_assoc] at h6;omega
     refine ⟨he,?_⟩;rw [show (-1074-min e (-1074)).toNat=0 by omega,Nat.pow_zero,Nat.mul_one] at h6
     obtain ⟨q,hq⟩:∃ q,(e-min e (-1074)).toNat=q:=⟨_,rfl⟩;rw [hq] at h6;obtain ⟨c,hc⟩:∃ c:Nat,c=2045:=⟨_,rfl⟩;have h7:=top_v K hK c hc;have h8:=bl_ge X hX;have h9:=bl_pos X hX;obtain ⟨b,hb⟩:∃ b,bl X=b+1:=⟨bl X-1,by omega⟩
     rw [hb,Nat.add_sub_cancel] at h8;have h10:2^b*2^q<9007199254740992*2^c:=Nat.lt_of_le_of_lt (Nat.mul_le_mul_right _ h8) (by rw [h6];exact h7)
     rw [←Nat.pow_add,show (9007199254740992:Nat)=2^53 from rfl,←Nat.pow_add] at h10
     have h11:=(Nat.pow_lt_pow_iff_right (by decide:1<2)).1 h10
     omega
theorem kinds (x:Nat) (hx:x<18446744073709551616):(nanW x=true∧(magW x==9218868437227405312)=false∧(magW x==0)=false∧9218868437227405312<magW x)∨(nanW x=false∧(magW x==9218868437227405312)=true∧(magW x==0)=false∧magW x=9218868437227405312)∨(nanW x=false∧(magW x==9218868437227405312)=false∧magW x<9218868437227405312):=by
 have e:nanW x=decide (9218868437227405312<magW x):=rfl
 rcases Nat.lt_trichotomy (magW x) 9218868437227405312 with h|h|h
 · refine .inr (.inr ⟨?_,?_,h⟩)
   · rw [e];simp;omega
   · simp;omega
 · refine .inr (.inl ⟨?_,?_,?_,h⟩)
   · rw [e];simp;omega
   · simp;omega
   · simp;omega
 · refine .inl ⟨?_,?_,?_,h⟩
   · rw [e];simp;omega
   · simp;omega
   · simp;omega
theorem read_nanW (x:Nat) (h:9218868437227405312<magW x):∃ s t,Ieee.double.read x=.nan s t:=⟨_,_,B.read_nan Ieee.double x (by rw [B.dInf,B.dSign];exact h) hBin⟩
theorem read_infW (x:Nat) (hx:x<18446744073709551616) (h:magW x=9218868437227405312):Ieee.double.read x=.infinity (negW x):=by
 have e:=wd_of x hx;rw [h,wd_word,←B.dInf] at e;rw [e,B.read_inf Ieee.double _ hInf hBin,←e]
theorem read_finW (x:Nat) (hx:x<18446744073709551616) (h:magW x<9218868437227405312):∃ m k,Ieee.double.read x=.number (negW x) m (Ieee.double.leastPlace+(k:Nat))∧m*2^k=vK (magW x):=by
 have e:=wd_of x hx;rw [wd_word] at e;obtain ⟨m,k,h1,h2⟩:=B.read_word Ieee.double (negW x) (magW x) (by rw [B.dInf];exact h) hInf
 rw [←e] at h1;exact ⟨m,k,h1,h2⟩
end
section
open Go.RowKit J
theorem arW_add (x y:Nat):arW .add x y=(((Ieee.double.read x).sum (Ieee.double.read y)).map Ieee.double.write).getD oddW:=rfl
theorem arW_sub (x y:Nat):arW .sub x y=(((Ieee.double.read x).sum (Ieee.double.read y).opposite).map Ieee.double.write).getD oddW:=rfl
theorem turn_wd (s:Bool) (K:Nat) (h:K<9223372036854775808):turnW (wd64 s K)=wd64 (!s) K:=by
 unfold turnW wd64
 cases s <;> simp <;> omega
theorem turn_lt (y:Nat) (hy:y<18446744073709551616):turnW y<18446744073709551616:=by unfold turnW;split <;> omega
theorem readOpp (f:Ieee.Format) (hs:f.infRung<f.signWeight) (t:Bool) (u:Nat) (hu:u<f.infRung):(f.read (f.word t u)).opposite=f.read (f.word (!t) u):=by
 have key:∀ b:Bool,(f.word b u/f.signWeight%2==1)=b∧f.word b u%f.signWeight=u:=by
  intro b;unfold Ieee.Format.word
  cases b
  · simp only [Bool.false_eq_true,if_false]
    rw [Nat.div_eq_of_lt (by omega)];exact ⟨rfl,Nat.mod_eq_of_lt (by omega)⟩
  · simp only [if_true]
    rw [Nat.add_div_left _ (by omega),Nat.div_eq_of_lt (by omega),Nat.add_mod_left];exact ⟨rfl,Nat.mod_eq_of_lt (by omega)⟩
 unfold Ieee.Format.read;simp only [(key t).1,(key t).2,(key (!t)).1,(key (!t)).2]
 by_cases h:u<f.binade
 · rw [if_pos h,if_pos h];rfl
 · rw [if_neg h,if_neg h,if_pos hu,if_pos hu];rfl
theorem sub_turn (x y:Nat) (hy:y<18446744073709551616):arW .sub x y=arW .add x (turnW y):=by
 rw [arW_sub,arW_add];have ey:=wd_of y hy;have hm:magW y<9223372036854775808:=Nat.mod_lt _ (by decide)
 have et:turnW y=wd64 (!negW y) (magW y):=by rw [←turn_wd _ _ hm,←ey]
 obtain ⟨m1,m2,m3⟩:=magW_wd (!negW y) (magW y) hm
 rcases kinds y hy with ⟨b1,b2,b3,b4⟩|⟨b1,b2,b3,b4⟩|⟨b1,b2,b4⟩
 · obtain ⟨s,t,hr⟩:=read_nanW y b4
   obtain ⟨s2,t2,hr2⟩:=read_nanW (turnW y) (by rw [et,m1];exact b4)
   rw [hr,hr2]
   cases Ieee.double.read x <;> rfl
 · have hr:=read_infW y hy b4
   have hr2:=read_infW (turnW y) (turn_lt y hy) (by rw [et,m1];exact b4)
   rw [hr,hr2,et,m2];rfl
 · have hr:=readOpp Ieee.double hInf (negW y) (magW y) (by rw [B.dInf];exact b4)
   rw [←wd_word,←ey,←wd_word,←et] at hr;rw [hr]
end
section
open Go.RowKit J
theorem absSg (s:Bool) (v:Nat):(B.sg s v).natAbs=v:=by unfold B.sg;cases s <;> simp
end
section
open Go.RowKit J
abbrev Wd (x:Nat):Prop:=x<18446744073709551616
end
section
open Go.RowKit J
abbrev finW (x:Nat):Prop:=magW x<9218868437227405312
def fvW (x:Nat):Int:=B.sg (negW x) (vK (magW x))
theorem sg_abs (s:Bool) (v:Nat):(B.sg s v).natAbs=v:=absSg s v
end
section
open Go.RowKit J
theorem fin_parts {x:Nat}(hx:x<18446744073709551616) (fx:finW x):ngW x=negW x∧vK (magW x)=frW x*2^(xpW x+1074).toNat∧-1074≤xpW x∧((clW x=0∧frW x=0)∨((clW x=1∨clW x=2)∧frW x≠0)):=by
 have hm:magW x=eW x*4503599627370496+fW x:=by unfold magW eW fW;omega
 have he:eW x<2047:=by have h:magW x<9218868437227405312:=fx;omega
 have hf:fW x<4503599627370496:=Nat.mod_lt _ (by decide)
 refine ⟨by unfold ngW B.ng;rw [if_neg (by omega)];rfl,?_⟩
 by_cases h0:eW x=0
 · have hfr:frW x=fW x:=by unfold frW B.fr;rw [if_neg (by omega),if_pos h0];simp
   have hxp:xpW x=-1074:=by unfold xpW B.xp;rw [if_neg (by omega),if_pos h0]
   have hv:vK (magW x)=fW x:=by
    have:=vK_word 0 (fW x) (.inl rfl) (by omega)
    rw [hm,h0];simpa using this
   refine ⟨by rw [hv,hfr,hxp];simp,by omega,?_⟩
   by_cases hz:fW x=0
   · exact .inl ⟨by unfold clW B.cls;rw [if_neg (by omega),if_pos h0,if_pos hz],by omega⟩
   · exact .inr ⟨.inl (by unfold clW B.cls;rw [if_neg (by omega),if_pos h0,if_neg hz]),by omega⟩
 · have hfr:frW x=fW x+4503599627370496:=by unfold frW B.fr;rw [if_neg (by omega),if_neg h0];omega
   have hxp:xpW x=(eW x:Int)-1075:=by unfold xpW B.xp;rw [if_neg (by omega),if_neg h0]
   have hv:vK (magW x)=(fW x+4503599627370496)*2^(eW x-1):=by
    have:=vK_word (eW x-1) (fW x+4503599627370496) (.inr (by omega)) (by omega)
    rw [←this,hm,show eW x*4503599627370496+fW x=(eW x-1)*4503599627370496+(fW x+4503599627370496) by omega]
   refine ⟨by rw [hv,hfr,hxp,show ((eW x:Int)-1075+1074).toNat=eW x-1 by omega],by omega,.inr ⟨.inr (by unfold clW B.cls;rw [if_neg (by omega),if_neg h0]),by omega⟩⟩
theorem sg_prod (a b:Bool) (f g i j:Nat):sgn7 (!(a==b)) (f*g*2^(i+j))=B.sg a (f*2^i)*B.sg b (g*2^j):=by
 have e:f*g*2^(i+j)=(f*2^i)*(g*2^j):=by
  rw [Nat.pow_add,Nat.mul_mul_mul_comm]
 rw [e];generalize f*2^i=P;generalize g*2^j=Q;unfold sgn7 B.sg
 cases a <;> cases b <;> simp [Int.neg_mul,Int.mul_neg]
theorem pT_mul {x y:Nat}(hx:x<18446744073709551616) (hy:y<18446744073709551616) (fx:finW x) (fy:finW y):pT x y=fvW x*fvW y∧(pK x y=0∨pK x y=4∨pK x y=5):=by
 obtain ⟨n1,v1,x1,c1⟩:=fin_parts hx fx;obtain ⟨n2,v2,x2,c2⟩:=fin_parts hy fy;unfold pT pK fvW;rw [n1,n2,v1,v2]
 by_cases hz:clW x=0∨clW y=0
 · have hmin:min (clW x) (clW y)=0:=by omega
   have hmax:max (clW x) (clW y)≤2:=by omega
   have hpk:pk (max (clW x) (clW y)) (min (clW x) (clW y)) (!negW x==negW y)=4∨pk (max (clW x) (clW y)) (min (clW x) (clW y)) (!negW x==negW y)=5:=by
    unfold pk;rw [hmin,if_neg (by omega),if_neg (by omega),if_pos rfl]
    split
    · exact .inl rfl
    · exact .inr rfl
   refine ⟨?_,.inr hpk⟩;rw [pv7_no (by omega)]
   rcases c1 with ⟨_,f1⟩|⟨k1,_⟩
   · rw [f1];simp [B.sg]
   · rcases c2 with ⟨_,f2⟩ | ⟨k2,_⟩
     · rw [f2];simp [B.sg]
     · omega
 · have hpk:pk (max (clW x) (clW y)) (min (clW x) (clW y)) (!negW x==negW y)=0:=by
    unfold pk;rw [if_neg (by omega),if_neg (by omega),if_neg (by omega)]
   refine ⟨?_,.inl hpk⟩;rw [pv7_yes hpk,show (xpW x+xpW y+2148).toNat=(xpW x+1074).toNat+(xpW y+1074).toNat by omega]
   have e:(!negW x==negW y)=!(negW x==negW y):=by cases negW x <;> cases negW y <;> rfl
   rw [e];exact sg_prod _ _ _ _ _ _
theorem cl_nan {x:Nat}(h:9218868437227405312<magW x):clW x=4:=by
 have hm:magW x=eW x*4503599627370496+fW x:=by unfold magW eW fW;omega
 have hf:fW x<4503599627370496:=Nat.mod_lt _ (by decide)
 have he:eW x<2048:=by have:magW x<9223372036854775808:=Nat.mod_lt _ (by decide);omega
 unfold clW B.cls;rw [if_pos (by omega),if_neg (by omega)]
theorem cl_inf {x:Nat}(h:magW x=9218868437227405312):clW x=3∧ngW x=negW x:=by
 have hm:magW x=eW x*4503599627370496+fW x:=by unfold magW eW fW;omega
 have hf:fW x<4503599627370496:=Nat.mod_lt _ (by decide)
 unfold clW B.cls ngW B.ng;rw [if_pos (by omega),if_pos (by omega),if_neg (by omega)]
 exact ⟨rfl,rfl⟩
theorem cl_range (x:Nat):0≤clW x∧clW x≤4:=by unfold clW B.cls;(repeat' split) <;> omega
end
section
open Go.RowKit
theorem ahead10 (g:Nat) (V:Int) (s:Sp) (mode a b:Int) (w:World) (hA:Acc7 w g V s) (hs:s.ok) (hm0:0≤mode) (hm1:mode≤4) (hab:may a b=true) (ha:¬ (0<s.n∧a=2)) (hb:¬ (0<s.u+s.d∧b=2)) :
 Calls Tryz.prog 86 #[.pointer (some ⟨g,0,none⟩),.int .i64 mode,.agg #[.int .i64 a,.int .i64 b]] w fun r w'=>r=.returned (.tuple #[.float .f64 (ahd V s mode a b).1,.bool (ahd V s mode a b).2.1,.int .i64 (ahd V s mode a b).2.2])∧Below w.heap.size w w':=by
 obtain ⟨⟨X,tl,er⟩,hX⟩:∃ X,X=ahd V s mode a b:=⟨_,rfl⟩;rw [←hX];simp only;obtain ⟨L,a1,a2,a3,a4,a5,a6⟩:=hA;have hz:=zero_words L V a1 a2 a3 a4 a5;obtain ⟨n,u,d,m,p,l⟩:=s;have HM:=hid (fun u:World=>May_any a b u)
 rw [hab] at HM;have HV:=hid (fun w:World=>Verdict_any n u d m p l a b w)
 have HN:=hid (fun w:World=>Nought_any n u d m p l mode w)
 obtain ⟨⟨vx,vt⟩,hvd⟩:∃ v,v=vd (snd n u d m p l&&may a b) n u d a b:=⟨_,rfl⟩;obtain ⟨nx,hnt⟩:∃ v,v=nt (snd n u d m p l) n u d m p l mode:=⟨_,rfl⟩;rw [←hvd] at HV;rw [←hnt] at HN;simp only at HV;simp only [ahd] at hX;rw [←hvd,←hnt] at hX;simp only at hX;have HX:=qsd hX;have HA:=qsd (ai a1 (ai a6 hz));have hlt:=a6.lt;have hne:g≠w.heap.size:=Nat.ne_of_lt hlt;have hne1:g≠w.heap.size+1:=by omega
 have c0:=a6.cell a1 0 _ rfl;have c1:=a6.cell a1 1 _ rfl;have c2:=a6.cell a1 2 _ rfl;have c3:=a6.cell a1 3 _ rfl;have c4:=a6.cell a1 4 _ rfl;have c5:=a6.cell a1 5 _ rfl;obtain ⟨h0,h1,h2,h3,h4,h5⟩:=hs;have ha1:¬ (0<n∧a=2):=ha;have hb1:¬ (0<u+d∧b=2):=hb;have b0:decide (mode<0)=false:=by simp;omega
 have b1:decide (4<mode)=false:=by simp;omega
 clear a1 a2 a3 a4 a5 a6 hX hvd hnt hab ha hb hz;go_enter Tryz.func86,Tryz.ntmps86
 go_wp2_with fail
 refine (HM.out _).mono ?_;rintro r w1 ⟨rfl,hb1⟩;have hz1:w.heap.size+1<w1.heap.size:=by have:=hb1.size;simp at this;omega
 have B1:=qsd hb1
 have P1:Aside (Bl w1 w.heap.size 24 [.int .i64 a,.int .i64 b]∧Bl w1 (w.heap.size+1) 42 [.int .i64 n,.int .i64 u,.int .i64 d,.int .i64 m,.int .i64 p,.int .i64 l]∧Below w.heap.size w w1∧Ac w1 g L ⟨n,u,d,m,p,l⟩):=by
  have e0:=(bel_alloc w (Obj.cells #[.int .i64 a,.int .i64 b] 24)).trans ((bel_alloc (w.alloc (Obj.cells #[.int .i64 a,.int .i64 b] 24)) (Obj.cells #[.int .i64 n,.int .i64 u,.int .i64 d,.int .i64 m,.int .i64 p,.int .i64 l] 42)).mono (by simp))
  have e1:=e0.trans (hb1.mono e0.size);exact ⟨(((Bl.new w 24 [_,_]).alloc _).below hb1 (by simp;omega)),((Bl.new' (w.alloc _) 42 _ [_,_,_,_,_,_] (by simp)).below hb1 (by simp)),e1,HA.out.2.1.below e1 HA.out.2.1.lt⟩
 clear hb1 c0 c1 c2 c3 c4 c5;have q0:=P1.out.1.cell 0 _ rfl;have q1:=P1.out.1.cell 1 _ rfl;have s0:=P1.out.2.1.cell 0 _ rfl;have s1:=P1.out.2.1.cell 1 _ rfl;have s2:=P1.out.2.1.cell 2 _ rfl;have s3:=P1.out.2.1.cell 3 _ rfl;have s4:=P1.out.2.1.cell 4 _ rfl;have s5:=P1.out.2.1.cell 5 _ rfl
 have hca:(0<n∧(a==2)=false)∨n≤0:=by
  by_cases h:0<n
  · exact .inl ⟨h,by simp;intro e;exact ha1 ⟨h,e⟩⟩
  · exact .inr (by omega)
 have hcb:(0<u+d∧(b==2)=false)∨u+d≤0:=by
  by_cases h:0<u+d
  · exact .inl ⟨h,by simp;intro e;exact hb1 ⟨h,e⟩⟩
  · exact .inr (by omega)
 clear ha1 hb1
 rcases hca with ⟨hn,ha'⟩|hn <;> rcases hcb with ⟨hu,hb'⟩|hu
 all_goals (
  go_wp2_with fail
  refine (HV.out _).mono ?_;rintro r w2 ⟨rfl,hb2⟩
  have P2:Aside (Bl w2 (w.heap.size+1) 42 [.int .i64 n,.int .i64 u,.int .i64 d,.int .i64 m,.int .i64 p,.int .i64 l]∧Below w.heap.size w w2∧Ac w2 g L ⟨n,u,d,m,p,l⟩) :=
   ⟨P1.out.2.1.below hb2 P1.out.2.1.lt,P1.out.2.2.1.trans (hb2.mono P1.out.2.2.1.size),P1.out.2.2.2.below hb2 P1.out.2.2.2.lt⟩
  clear hb2 q0 q1 s0 s1 s2 s3 s4 s5 hn hu
  cases vt
  · have s0:=P2.out.1.cell 0 _ rfl
    have s1:=P2.out.1.cell 1 _ rfl;have s2:=P2.out.1.cell 2 _ rfl;have s3:=P2.out.1.cell 3 _ rfl;have s4:=P2.out.1.cell 4 _ rfl;have s5:=P2.out.1.cell 5 _ rfl
    go_wp2_with (first | (with_reducible refine wpList_load_mid (P:=Tryz.prog) rfl 135 (.tmp 57) rfl g 0 rfl (L.map U) _ P2.out.2.2.range Tryz.desc_words rfl (by simp [Tryz.size_words,HA.out.1]) ?_))
    rw [Tryz.nought_words,eq_words L _ w2 HA.out.1 (by simp),HA.out.2.2]
    generalize (List.replicate 133 0).map U=zz
    by_cases hV:V=0
    · rw [decide_eq_true hV]
      simp only [Result.andThen_ok,Oper.upon];have HX2:=qsd (show (X,tl,er)=(nx,true,0) by rw [HX.out,if_neg (by decide),if_pos hV])
      clear hV
      go_wp2_with fail
      refine (HN.out _).mono ?_;rintro r w3 ⟨rfl,hb3⟩;have B3:=qsd hb3;clear hb3;go_wp2;refine bodyPost_ret (v:=.tuple #[.float .f64 nx,.bool true,.int .i64 0]) (by simp [results,Tryz.results86,go_sem]) rfl ?_
      have e:=HX2.out
      cases e
      exact ⟨rfl,P2.out.2.1.trans (B3.out.mono P2.out.2.1.size)⟩
    · rw [decide_eq_false hV]
      simp only [Result.andThen_ok,Oper.upon];have HX2:=qsd (show (X,tl,er)=(0,false,0) by rw [HX.out,if_neg (by decide),if_neg hV])
      clear hV;go_wp2;refine bodyPost_ret (v:=.tuple #[.float .f64 0,.bool false,.int .i64 0]) (by simp [results,Tryz.results86,go_sem]) rfl ?_
      have e:=HX2.out
      cases e
      exact ⟨rfl,P2.out.2.1⟩
  · go_wp2
    refine bodyPost_ret (v:=.tuple #[.float .f64 vx,.bool true,.int .i64 0]) (by simp [results,Tryz.results86,go_sem]) rfl ?_
    have e:=HX.out;rw [if_pos trivial] at e
    cases e
    exact ⟨rfl,P2.out.2.1⟩)
theorem ahead10_nan (g:Nat) (V:Int) (s:Sp) (mode a b:Int) (w:World) (hA:Acc7 w g V s) (hs:s.ok) (hm0:0≤mode) (hm1:mode≤4) (hab:may a b=true) (hx:0<s.n∧a=2) :
 Calls Tryz.prog 86 #[.pointer (some ⟨g,0,none⟩),.int .i64 mode,.agg #[.int .i64 a,.int .i64 b]] w fun r w'=>r=.returned (.tuple #[.float .f64 0,.bool false,.int .i64 60])∧Below w.heap.size w w':=by
 obtain ⟨L,a1,a2,a3,a4,a5,a6⟩:=hA;obtain ⟨n,u,d,m,p,l⟩:=s;have HM:=hid (fun u:World=>May_any a b u)
 rw [hab] at HM;have HA:=qsd (ai a1 a6);have hlt:=a6.lt;have hne:g≠w.heap.size:=Nat.ne_of_lt hlt;have hne1:g≠w.heap.size+1:=by omega
 have c0:=a6.cell a1 0 _ rfl;have c1:=a6.cell a1 1 _ rfl;have c2:=a6.cell a1 2 _ rfl;have c3:=a6.cell a1 3 _ rfl;have c4:=a6.cell a1 4 _ rfl;have c5:=a6.cell a1 5 _ rfl;obtain ⟨h0,h1,h2,h3,h4,h5⟩:=hs;have b0:decide (mode<0)=false:=by simp;omega
 have b1:decide (4<mode)=false:=by simp;omega
 have hn:0<n:=hx.1;have ha2:(a==2)=true:=by simpa using hx.2
 clear hx;clear a1 a2 a3 a4 a5 a6 hab;go_enter Tryz.func86,Tryz.ntmps86
 go_wp2_with fail
 refine (HM.out _).mono ?_;rintro r w1 ⟨rfl,hb1⟩
 have P1:Aside (Bl w1 w.heap.size 24 [.int .i64 a,.int .i64 b]∧Bl w1 (w.heap.size+1) 42 [.int .i64 n,.int .i64 u,.int .i64 d,.int .i64 m,.int .i64 p,.int .i64 l]∧Below w.heap.size w w1):=by
  have e0:=(bel_alloc w (Obj.cells #[.int .i64 a,.int .i64 b] 24)).trans ((bel_alloc (w.alloc (Obj.cells #[.int .i64 a,.int .i64 b] 24)) (Obj.cells #[.int .i64 n,.int .i64 u,.int .i64 d,.int .i64 m,.int .i64 p,.int .i64 l] 42)).mono (by simp))
  have e1:=e0.trans (hb1.mono e0.size);exact ⟨(((Bl.new w 24 [_,_]).alloc _).below hb1 (by simp;omega)),((Bl.new' (w.alloc _) 42 _ [_,_,_,_,_,_] (by simp)).below hb1 (by simp)),e1⟩
 clear hb1 c0 c1 c2 c3 c4 c5;have q0:=P1.out.1.cell 0 _ rfl;have q1:=P1.out.1.cell 1 _ rfl;have s0:=P1.out.2.1.cell 0 _ rfl;have s1:=P1.out.2.1.cell 1 _ rfl;have s2:=P1.out.2.1.cell 2 _ rfl;have s3:=P1.out.2.1.cell 3 _ rfl;have s4:=P1.out.2.1.cell 4 _ rfl;have s5:=P1.out.2.1.cell 5 _ rfl
 all_goals
  go_wp2;refine bodyPost_ret (v:=.tuple #[.float .f64 0,.bool false,.int .i64 60]) (by simp [results,Tryz.results86,go_sem]) rfl ?_
  exact ⟨rfl,P1.out.2.2⟩
theorem ahead10_inf (g:Nat) (V:Int) (s:Sp) (mode a b:Int) (w:World) (hA:Acc7 w g V s) (hs:s.ok) (hm0:0≤mode) (hm1:mode≤4) (hab:may a b=true) (hn:¬ (0<s.n∧a=2)) (hx:0<s.u+s.d∧b=2) :
 Calls Tryz.prog 86 #[.pointer (some ⟨g,0,none⟩),.int .i64 mode,.agg #[.int .i64 a,.int .i64 b]] w fun r w'=>r=.returned (.tuple #[.float .f64 0,.bool false,.int .i64 61])∧Below w.heap.size w w':=by
 obtain ⟨L,a1,a2,a3,a4,a5,a6⟩:=hA;obtain ⟨n,u,d,m,p,l⟩:=s;have HM:=hid (fun u:World=>May_any a b u)
 rw [hab] at HM;have HA:=qsd (ai a1 a6);have hlt:=a6.lt;have hne:g≠w.heap.size:=Nat.ne_of_lt hlt;have hne1:g≠w.heap.size+1:=by omega
 have c0:=a6.cell a1 0 _ rfl;have c1:=a6.cell a1 1 _ rfl;have c2:=a6.cell a1 2 _ rfl;have c3:=a6.cell a1 3 _ rfl;have c4:=a6.cell a1 4 _ rfl;have c5:=a6.cell a1 5 _ rfl;obtain ⟨h0,h1,h2,h3,h4,h5⟩:=hs;have b0:decide (mode<0)=false:=by simp;omega
 have b1:decide (4<mode)=false:=by simp;omega
 have hu:0<u+d:=hx.1;have hb2:(b==2)=true:=by simpa using hx.2
 have hca:(0<n∧(a==2)=false)∨n≤0:=by
  by_cases h:0<n
  · exact .inl ⟨h,by simp;intro e;exact hn ⟨h,e⟩⟩
  · exact .inr (by omega)
 clear hx hn;clear a1 a2 a3 a4 a5 a6 hab;go_enter Tryz.func86,Tryz.ntmps86
 go_wp2_with fail
 refine (HM.out _).mono ?_;rintro r w1 ⟨rfl,hb1⟩
 have P1:Aside (Bl w1 w.heap.size 24 [.int .i64 a,.int .i64 b]∧Bl w1 (w.heap.size+1) 42 [.int .i64 n,.int .i64 u,.int .i64 d,.int .i64 m,.int .i64 p,.int .i64 l]∧Below w.heap.size w w1):=by
  have e0:=(bel_alloc w (Obj.cells #[.int .i64 a,.int .i64 b] 24)).trans ((bel_alloc (w.alloc (Obj.cells #[.int .i64 a,.int .i64 b] 24)) (Obj.cells #[.int .i64 n,.int .i64 u,.int .i64 d,.int .i64 m,.int .i64 p,.int .i64 l] 42)).mono (by simp))
  have e1:=e0.trans (hb1.mono e0.size);exact ⟨(((Bl.new w 24 [_,_]).alloc _).below hb1 (by simp;omega)),((Bl.new' (w.alloc _) 42 _ [_,_,_,_,_,_] (by simp)).below hb1 (by simp)),e1⟩
 clear hb1 c0 c1 c2 c3 c4 c5;have q0:=P1.out.1.cell 0 _ rfl;have q1:=P1.out.1.cell 1 _ rfl;have s0:=P1.out.2.1.cell 0 _ rfl;have s1:=P1.out.2.1.cell 1 _ rfl;have s2:=P1.out.2.1.cell 2 _ rfl;have s3:=P1.out.2.1.cell 3 _ rfl;have s4:=P1.out.2.1.cell 4 _ rfl;have s5:=P1.out.2.1.cell 5 _ rfl
 rcases hca with ⟨hn,ha2⟩|hn
 all_goals
  go_wp2;refine bodyPost_ret (v:=.tuple #[.float .f64 0,.bool false,.int .i64 61]) (by simp [results,Tryz.results86,go_sem]) rfl ?_
  exact ⟨rfl,P1.out.2.2⟩
end
end Go.Proofs.YthfkleadcnkglaaGreatDoor
