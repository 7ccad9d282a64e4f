import Derived.Test.YtblkpkgebigojaaGreatDoorD39x
import Derived.Test.YtblkpkgebigojaaGreatDoorS9x
import Derived.Deep.RegionHeld3
import Derived.Test.YtblkpkgebigojaaGreatDoorU1x
import Derived.Deep.Cut
import Derived.Test.YtblkpkgebigojaaGreatDoorD32cx
import Derived.Deep.OwnRows
import Derived.Deep.LoopGhost
import Derived.Test.YtblkpkgebigojaaGreatDoorD19x
import Derived.Test.YtblkpkgebigojaaGreatDoorD15x
import Derived.Test.YtblkpkgebigojaaGreatDoorS7x
import Derived.Laws.FloatArith
import Derived.Deep.CutRange
import Derived.Test.YtblkpkgebigojaaGreatDoorW45x
import Derived.Test.YtblkpkgebigojaaGreatDoorD8x
set_option linter.unusedVariables false
set_option linter.unusedSimpArgs false
set_option maxHeartbeats 16000000
set_option maxRecDepth 20000
namespace Go.Proofs.YtblkpkgebigojaaGreatDoor
section
open Go.RowKit
theorem Qa {X:Nat}(h:bl X≤262144):¬ LG X:=fun k=>by have:=(Js X).1 k;omega
theorem Zmk {X Y V:Nat}(h1:¬ LG X) (h2:¬ LG Y) (h3:¬ LG V) (e:X*Y=V):mulS X Y=(V,0):=by subst e;unfold mulS;rw [if_neg (by simp [h1,h2]),if_neg h3]
theorem Qf {X:Nat}(h:bl X≤262144):(ws X).length≤8192:=by have:=Qa h;unfold LG at this;omega
theorem Z2 {X k:Nat}(h:X<2^k):bl X≤k:=by
 by_cases h0:X=0
 · subst h0;rw [Zu];omega
 · have:=(Nat.pow_lt_pow_iff_right (a:=2) (by decide)).1 (Nat.lt_of_le_of_lt (Qi X h0) h)
   have:=Zv X h0;omega
theorem Jp {X Y:Nat}(h:X≤Y) (k:bl Y≤262144):bl X≤262144:=by
 have:=Z2 (Nat.lt_of_le_of_lt h (Qo Y));omega
theorem Zg5 (x y:Nat):decide (cmpI x y<0)=decide (x<y):=by
 unfold cmpI
 by_cases h:x<y
 · simp [h]
 · by_cases h2:y<x <;> simp [h,h2]
theorem Zot (x y:Nat):decide (cmpI x y=0)=decide (x=y):=by
 unfold cmpI
 by_cases h:x<y
 · have:x≠y:=by omega
   simp [h,this]
 · by_cases h2:y<x
   · have:x≠y:=by omega
     simp [h,h2,this]
   · have:x=y:=by omega
     simp [this]
theorem Zml {w:World}{a b:Option Addr}{ca cb:Nat}(n m:Bool) (X Y:Nat) (e f:Int) (size:Nat)
 (AX:Arg w a (ws X).length ca (ws X)) (AY:Arg w b (ws Y).length cb (ws Y)) (hX:X=0∨X%2=1) (hY:Y≠0)
 (he0:-1048576≤e) (he1:e≤1048576) (hf0:-1048576≤f) (hf1:f≤1048576) (hs0:1≤size) (hs:size≤1000) (bX:bl X≤262144) (bY:bl Y≤262144) :
 Calls Tryz.prog 164 #[.agg #[.bool n,.slice a (ws X).length ca,.int .i64 e,.bool m,.slice b (ws Y).length cb,.int .i64 f],.int .i64 (size:Nat)] w fun r w'=>(∃ v,r=.returned (.agg #[v,.int .i64 (e-f-byS X Y size-cutS Y size),.bool (atS X Y size)])∧Nt w.heap.size w' v (whoS X Y size))∧Below w.heap.size w w':=by
 have D:=Yh X Y size hX hY hs0 hs bX bY;have hYp:=Zv Y hY;have cutb:cutS Y size≤1000∧cutS Y size<bl Y:=by unfold cutS;omega
 have bH:bl (higS Y size)≤262144:=by have:=D.blh;omega
 have hHc:bl (higS Y size)+size≤262144∨cutS Y size=0:=by have:=D.blh;unfold cutS at *;omega
 have hbyb:-262144≤byS X Y size∧byS X Y size≤264000:=by unfold byS;omega
 have bLev:bl (levS X Y size)≤262144:=by
  have:=Z2 D.lev;have h2:bl (higS Y size)+size≤262144:=by have:=D.blh;unfold cutS at this;omega
  omega
 have bW0:bl (Y5 X Y size)≤262144:=by have:=Z2 D.w0;omega
 have bLf:bl (lefS X Y size)≤262144:=Jp (Nat.le_of_lt D.lef) bH;have e1:shiftS Y (-((cutS Y size:Nat):Int))=(higS Y size,0):=Zdo (Qa bY) rfl
 have e2:shiftS X (byS X Y size)=(levS X Y size,0):=by
  by_cases hb:byS X Y size<0
  · have:=Zdo (X:=X) (k:=(-byS X Y size).toNat) (V:=levS X Y size) (Qa bX) (by unfold levS;rw [if_pos hb])
    rw [show -(((-byS X Y size).toNat:Nat):Int)=byS X Y size by omega] at this
    exact this
  · have:=Jt (X:=X) (k:=(byS X Y size).toNat) (V:=levS X Y size) (Qa bX) (by
     by_cases h0:X=0
     · exact .inl h0
     · right
       have h2:bl (higS Y size)+size≤262144:=by have:=D.blh;unfold cutS at this;omega
       unfold byS at *;omega) (by unfold levS;rw [if_neg hb])
    rw [show (((byS X Y size).toNat:Nat):Int)=byS X Y size by omega] at this
    exact this
 have e3:divS (levS X Y size) (higS Y size)=(Y5 X Y size,lefS X Y size,0):=Zp0 (Qa bLev) (Qa bH) D.hig rfl rfl
 -- what cmpLow is asked
 have hYHb:higS Y size*2^cutS Y size≤Y:=D.low';have bBk:bl (higS Y size*2^cutS Y size)≤262144:=Jp hYHb bY;have bLo:bl (lowS Y size)≤262144:=Jp (Nat.sub_le _ _) bY
 have bTk:bl (takS X Y size)≤262144:=by
  have h1:takS X Y size<2^(size+1+cutS Y size):=by
   unfold takS;rw [Nat.pow_add];exact Nat.mul_lt_mul'' D.w0 D.lowlt
  have:=Z2 h1;omega
 have bHs:bl (hasS X Y size)≤262144:=by
  refine Jp (Y:=Y) (Nat.le_trans ?_ hYHb) bY;exact Nat.mul_le_mul_right _ (Nat.le_of_lt D.lef)
 have c1:shiftS (higS Y size) ((cutS Y size:Nat):Int)=(higS Y size*2^cutS Y size,0):=Jt (Qa bH) (.inr (by have:=D.blh;omega)) rfl
 have c2:subS Y (higS Y size*2^cutS Y size)=(lowS Y size,0):=Zb9 (Qa bY) (Qa bBk) (by unfold lowS;omega)
 have c3:mulS (Y5 X Y size) (lowS Y size)=(takS X Y size,0):=Zmk (Qa bW0) (Qa bLo) (Qa bTk) rfl
 have c4:shiftS (lefS X Y size) ((cutS Y size:Nat):Int)=(hasS X Y size,0):=Jt (Qa bLf) (by
  by_cases h0:lefS X Y size=0
  · exact .inl h0
  · right
    have hlt:lefS X Y size≤higS Y size:=Nat.le_of_lt D.lef;have:=Z2 (Nat.lt_of_le_of_lt hlt (Qo (higS Y size)));have:=D.blh
    omega) rfl
 have HC:Hid (∀ (u:World) (p q r s:Option Addr) (cp cq cr cs:Nat),Arg u p (ws (Y5 X Y size)).length cp (ws (Y5 X Y size))→Arg u q (ws (lefS X Y size)).length cq (ws (lefS X Y size))→Arg u r (ws Y).length cr (ws Y)→Arg u s (ws (higS Y size)).length cs (ws (higS Y size))→Calls Tryz.prog 208 #[.slice p (ws (Y5 X Y size)).length cp,.slice q (ws (lefS X Y size)).length cq,.slice r (ws Y).length cr,.slice s (ws (higS Y size)).length cs,.int .i64 ((cutS Y size:Nat):Int)] u fun r w'=>r=.returned (.int .i64 (cmpI (hasS X Y size) (takS X Y size)))∧Below u.heap.size u w') :=
  fun u p q r s cp cq cr cs A1 A2 A3 A4=>Zhm _ _ _ _ (cutS Y size) _ _ _ _ _ A1 A2 A3 A4 (by omega) c1 c2 c3 c4 rfl (Qf bBk) (Qf bLo) (Qf bTk) (Qf bHs)
 have htt:(decide (cmpI (hasS X Y size) (takS X Y size)=0)&&decide (0≤byS X Y size))=atS X Y size:=by rw [Zot];rfl
 have hcut:max ((bl Y:Int)+(size:Int)-262144) 0=((cutS Y size:Nat):Int):=by unfold cutS;omega
 by_cases hlt:hasS X Y size<takS X Y size
 · have hz:decide (cmpI (hasS X Y size) (takS X Y size)<0)=true:=by rw [Zg5];exact decide_eq_true hlt
   have e4:subS (Y5 X Y size) 1=(whoS X Y size,0):=by
    refine Zb9 (Qa bW0) (Qa (by decide)) ?_
    have:=D.less hlt;unfold whoS;rw [if_pos hlt];omega
   exact Zfk n m X Y e f size (bl X) (bl Y) (bl (higS Y size)) (cutS Y size) (higS Y size) (levS X Y size) (Y5 X Y size) (lefS X Y size) (whoS X Y size) _ (byS X Y size) _ _ _ _ (atS X Y size) AX AY he0 he1 hf0 hf1 hs rfl rfl rfl bX bY bH rfl hcut (by omega) e1 rfl e2 e3 HC hz e4 rfl rfl rfl htt (Qf bH) (Qf bLev) (Qf bW0) (Qf bLf) (Qf (Jp (Y:=Y5 X Y size) (by unfold whoS;rw [if_pos hlt];omega) bW0))
 · have hz:decide (cmpI (hasS X Y size) (takS X Y size)<0)=false:=by rw [Zg5];exact decide_eq_false hlt
   have eW:whoS X Y size=Y5 X Y size:=by unfold whoS;rw [if_neg hlt]
   rw [eW];exact Zfj n m X Y e f size (bl X) (bl Y) (bl (higS Y size)) (cutS Y size) (higS Y size) (levS X Y size) (Y5 X Y size) (lefS X Y size) 0 _ (byS X Y size) _ _ _ _ (atS X Y size) AX AY he0 he1 hf0 hf1 hs rfl rfl rfl bX bY bH rfl hcut (by omega) e1 rfl e2 e3 HC hz rfl rfl rfl htt (Qf bH) (Qf bLev) (Qf bW0) (Qf bLf)
theorem Zcu (W:World) (g:Nat) (n:Bool) (v:Value) (e k:Int) (tmps:Array Value) (ht:tmps[4]?.getD undef=.pointer (some ⟨g,0,none⟩)) (hk:tmps[5]?.getD undef=.int .i64 k) (D:Tk W g 62 (.bool n) v (.int .i64 e)) :
 (results Tryz.f163 tmps).run Tryz.prog W=.ok (.tuple #[.agg #[.bool n,v,.int .i64 e],.int .i64 k]) W:=by
 obtain ⟨x0,x1,x2,_,_,_⟩:=D.facts;simp [results,Tryz.results163,ht,hk,go_sem,x0,x1,x2]
theorem Zd6 (w:World) (v:Value) (x:Int) (t:Bool) (W:World) (hW:W=(w.alloc (.cells #[v,.int .i64 x,.bool t] 192)).alloc (.cells #[.bool false,.slice none 0 0,.int .i64 0] 62)) :
 Below w.heap.size w W∧W.heap.size=w.heap.size+2∧Tk W w.heap.size 192 v (.int .i64 x) (.bool t)∧Tk W (w.heap.size+1) 62 (.bool false) (.slice none 0 0) (.int .i64 0):=by
 rw [hW];refine ⟨(Za w _).alloc (by simp) _,by simp,(Tk.new _ _ _ _ _).alloc _,?_⟩
 have:=Tk.new (w.alloc (.cells #[v,.int .i64 x,.bool t] 192)) 62 (.bool false) (.slice none 0 0) (.int .i64 0);simpa using this
theorem Zio {w:World}{a:Option Addr}{ca:Nat}(n:Bool) (W M2 M3:Nat) (x y E:Int) (dn:Bool) (V:Nat) (de er:Int) (AW:Arg w a (ws W).length ca (ws W)) (hx0:-10000000≤x) (hx1:x≤10000000)
 (e1:shiftS W 1=(M2,0)) (hy:x-1=y) (hE:min (max y (-4096)) 4096=E) (l2:(ws M2).length≤8192) (lV:(ws V).length≤8192)
 (HM:Hid (∀ (u:World) (p:Option Addr) (q:Nat),Below w.heap.size w u→Arg u p (ws M2).length q (ws M2)→Calls Tryz.prog 86 #[.bool n,.slice p (ws M2).length q,.int .i64 E] u fun r w'=>(∃ v,r=.returned (.tuple #[.agg #[.bool dn,v,.int .i64 de],.int .i64 er])∧Nt u.heap.size w' v V)∧Below u.heap.size u w')) :
 Calls Tryz.prog 163 #[.bool n,.agg #[.slice a (ws W).length ca,.int .i64 x,.bool true]] w fun r w'=>(∃ v,r=.returned (.tuple #[.agg #[.bool dn,v,.int .i64 de],.int .i64 er])∧Nt w.heap.size w' v V)∧Below w.heap.size w w':=by
 obtain ⟨W1,hW1⟩:∃ U,U=(w.alloc (.cells #[.slice a (ws W).length ca,.int .i64 x,.bool true] 192)).alloc (.cells #[.bool false,.slice none 0 0,.int .i64 0] 62):=⟨_,rfl⟩;obtain ⟨hB,hz1,SK,DK⟩:=Zd6 w _ x true W1 hW1;have e1':shiftS (val (ws W)) 1=(M2,0):=by rw [Zc];exact e1
 have E1:=qsd e1';have hs2:w.heap.size+2≤W1.heap.size:=by omega
 have l1s:(ws 1).length≤8192:=by rw [Ze9];simp
 have hbel:=hB;have S0:=(qsd (ai hbel (ai (AW.below hB) (ai SK DK))));clear hbel;clear e1 e1' AW hB SK DK hz1;go_enter Tryz.func163,Tryz.ntmps163;obtain ⟨x0,x1,x2,_,_,_⟩:=S0.out.2.2.1.facts;obtain ⟨bel,AW,SK,DK⟩:=S0.out;have HC:=hid (Z5 1 AW E1.out (by omega) (by omega))
 clear bel AW SK DK
 go_upto_region 1 with fail
 rw [←hW1];clear hW1
 go_wp2_with fail
 clear x0 x1 x2;refine HC.out.mono ?_;rintro r u1 ⟨v,rfl,hN,hb⟩;obtain ⟨a1,c1,rfl,_⟩:=hN.arg (by omega)
 clear HC;obtain ⟨bel,AW,SK,DK⟩:=S0.out;have hbn:=bel.trans (hb.mono bel.size);have S1:=qsd (ai hbn (ai (AW.below hb) (ai (SK.below hb) (ai (DK.below hb) (hN.mono bel.size)))));clear bel AW SK DK;clear hb hbn S0;clear hN;obtain ⟨x0,x1,x2,_,_,_⟩:=S1.out.2.2.1.facts;obtain ⟨bel,AW,SK,DK,N2⟩:=S1.out;have HC:=hid (HM.out u1 _ _ bel (N2.arg' (by omega)).2)
 clear bel AW SK DK N2
 go_wp2_with fail
 clear x0 x1 x2;refine HC.out.mono ?_;rintro r u2 ⟨⟨v,rfl,hN⟩,hb⟩;obtain ⟨a7,c7,rfl,_⟩:=hN.arg (by omega)
 clear HC;obtain ⟨bel,AW,SK,DK,N2⟩:=S1.out;have hbn:=bel.trans (hb.mono bel.size);have S2:=qsd (ai hbn (ai (AW.below hb) (ai (SK.below hb) (ai (DK.below hb) (ai (N2.below hb) (hN.mono bel.size))))));clear bel AW SK DK N2;clear hb hbn S1;clear hN;obtain ⟨bel,AW,SK,DK,N2,NV⟩:=S2.out;have hlast:=qsd (ai bel (ai NV DK));obtain ⟨s0,s1,s2,sf0,sf1,sf2⟩:=DK.facts;clear bel AW SK DK N2 NV;clear S2 HM;go_wp2;obtain ⟨bel,NZ,DK⟩:=hlast.out;have hsz:=bel.size;exact bodyPost_ret (Zcu _ (w.heap.size+1) dn (.slice a7 (ws V).length c7) de er _ rfl rfl (DK.set _ _ _)) rfl ⟨⟨_,rfl,NZ.st3k DK (by decide) _ _ _⟩,Yf bel hsz (by omega) _ _ _⟩
theorem Zmm {w:World}{a:Option Addr}{ca:Nat}(n:Bool) (W M2 M3:Nat) (x y E:Int) (dn:Bool) (V:Nat) (de er:Int) (AW:Arg w a (ws W).length ca (ws W)) (hx0:-10000000≤x) (hx1:x≤10000000)
 (e1:shiftS W 1=(M2,0)) (e2:addS M2 1=(M3,0)) (hy:x-1=y) (hE:min (max y (-4096)) 4096=E) (l2:(ws M2).length≤8192) (l3:(ws M3).length≤8192) (lV:(ws V).length≤8192)
 (HM:Hid (∀ (u:World) (p:Option Addr) (q:Nat),Below w.heap.size w u→Arg u p (ws M3).length q (ws M3)→Calls Tryz.prog 86 #[.bool n,.slice p (ws M3).length q,.int .i64 E] u fun r w'=>(∃ v,r=.returned (.tuple #[.agg #[.bool dn,v,.int .i64 de],.int .i64 er])∧Nt u.heap.size w' v V)∧Below u.heap.size u w')) :
 Calls Tryz.prog 163 #[.bool n,.agg #[.slice a (ws W).length ca,.int .i64 x,.bool false]] w fun r w'=>(∃ v,r=.returned (.tuple #[.agg #[.bool dn,v,.int .i64 de],.int .i64 er])∧Nt w.heap.size w' v V)∧Below w.heap.size w w':=by
 obtain ⟨W1,hW1⟩:∃ U,U=(w.alloc (.cells #[.slice a (ws W).length ca,.int .i64 x,.bool false] 192)).alloc (.cells #[.bool false,.slice none 0 0,.int .i64 0] 62):=⟨_,rfl⟩;obtain ⟨hB,hz1,SK,DK⟩:=Zd6 w _ x false W1 hW1;have e1':shiftS (val (ws W)) 1=(M2,0):=by rw [Zc];exact e1
 have e2':addS (val (ws M2)) (val (ws 1))=(M3,0):=by rw [Zc,Zc];exact e2
 have E2:=qsd e2';clear e2 e2';have E1:=qsd e1';have hs2:w.heap.size+2≤W1.heap.size:=by omega
 have l1s:(ws 1).length≤8192:=by rw [Ze9];simp
 have hbel:=hB;have S0:=(qsd (ai hbel (ai (AW.below hB) (ai SK DK))));clear hbel;clear e1 e1' AW hB SK DK hz1;go_enter Tryz.func163,Tryz.ntmps163;obtain ⟨x0,x1,x2,_,_,_⟩:=S0.out.2.2.1.facts;obtain ⟨bel,AW,SK,DK⟩:=S0.out;have HC:=hid (Z5 1 AW E1.out (by omega) (by omega))
 clear bel AW SK DK
 go_upto_region 1 with fail
 rw [←hW1];clear hW1
 go_wp2_with fail
 clear x0 x1 x2;refine HC.out.mono ?_;rintro r u1 ⟨v,rfl,hN,hb⟩;obtain ⟨a1,c1,rfl,_⟩:=hN.arg (by omega)
 clear HC;obtain ⟨bel,AW,SK,DK⟩:=S0.out;have hbn:=bel.trans (hb.mono bel.size);have S1:=qsd (ai hbn (ai (AW.below hb) (ai (SK.below hb) (ai (DK.below hb) (hN.mono bel.size)))));clear bel AW SK DK;clear hb hbn S0;clear hN;obtain ⟨x0,x1,x2,_,_,_⟩:=S1.out.2.2.1.facts;obtain ⟨bel,AW,SK,DK,N2⟩:=S1.out;have HC:=hid (Jd 1 u1 (by omega))
 clear bel AW SK DK N2
 go_wp2_with fail
 clear x0 x1 x2;refine HC.out.mono ?_;rintro r u2 ⟨v,rfl,hN,hb⟩;obtain ⟨a5,c5,rfl,_⟩:=hN.arg (by omega)
 clear HC;obtain ⟨bel,AW,SK,DK,N2⟩:=S1.out;have hbn:=bel.trans (hb.mono bel.size);have S2:=qsd (ai hbn (ai (AW.below hb) (ai (SK.below hb) (ai (DK.below hb) (ai (N2.below hb) (hN.mono bel.size))))));clear bel AW SK DK N2;clear hb hbn S1;clear hN;obtain ⟨bel,AW,SK,DK,N2,NO⟩:=S2.out;have HC:=hid (Zb6 (N2.arg' (by omega)).2 (NO.arg' (by omega)).2 E2.out)
 clear bel AW SK DK N2 NO
 go_wp2_with fail
 refine HC.out.mono ?_;rintro r u3 ⟨v,rfl,hN,hb⟩;obtain ⟨a6,c6,rfl,_⟩:=hN.arg (by omega)
 clear HC;obtain ⟨bel,AW,SK,DK,N2,NO⟩:=S2.out;have hbn:=bel.trans (hb.mono bel.size);have S3:=qsd (ai hbn (ai (AW.below hb) (ai (SK.below hb) (ai (DK.below hb) (ai (N2.below hb) (ai (NO.below hb) (hN.mono bel.size)))))));clear bel AW SK DK N2 NO;clear hb hbn S2;clear hN;obtain ⟨x0,x1,x2,_,_,_⟩:=S3.out.2.2.1.facts;obtain ⟨bel,AW,SK,DK,N2,NO,N3⟩:=S3.out;have HC:=hid (HM.out u3 _ _ bel (N3.arg' (by omega)).2)
 clear bel AW SK DK N2 NO N3
 go_wp2_with fail
 clear x0 x1 x2;refine HC.out.mono ?_;rintro r u4 ⟨⟨v,rfl,hN⟩,hb⟩;obtain ⟨a7,c7,rfl,_⟩:=hN.arg (by omega)
 clear HC;obtain ⟨bel,AW,SK,DK,N2,NO,N3⟩:=S3.out;have hbn:=bel.trans (hb.mono bel.size);have S4:=qsd (ai hbn (ai (AW.below hb) (ai (SK.below hb) (ai (DK.below hb) (ai (N2.below hb) (ai (NO.below hb) (ai (N3.below hb) (hN.mono bel.size))))))));clear bel AW SK DK N2 NO N3;clear hb hbn S3;clear hN;obtain ⟨bel,AW,SK,DK,N2,NO,N3,NV⟩:=S4.out;have hlast:=qsd (ai bel (ai NV DK));obtain ⟨s0,s1,s2,sf0,sf1,sf2⟩:=DK.facts;clear bel AW SK DK N2 NO N3 NV;clear S4 HM;go_wp2;obtain ⟨bel,NZ,DK⟩:=hlast.out;have hsz:=bel.size;exact bodyPost_ret (Zcu _ (w.heap.size+1) dn (.slice a7 (ws V).length c7) de er _ rfl rfl (DK.set _ _ _)) rfl ⟨⟨_,rfl,NZ.st3k DK (by decide) _ _ _⟩,Yf bel hsz (by omega) _ _ _⟩
theorem Zip {w:World}{a:Option Addr}{ca:Nat}(n:Bool) (W:Nat) (x:Int) (t:Bool) (AW:Arg w a (ws W).length ca (ws W)) (hT:Tab w) (hx0:-10000000≤x) (hx1:x≤10000000) (hW:bl W≤1000) :
 Calls Tryz.prog 163 #[.bool n,.agg #[.slice a (ws W).length ca,.int .i64 x,.bool t]] w fun r w'=>DAns w.heap.size w' r (mkS n (2*W+(if t then 0 else 1)) (clampE x))∧Below w.heap.size w w':=by
 have hLW:¬ LG W:=fun k=>by have:=(Js W).1 k;omega
 have e1:shiftS W 1=(2*W,0):=by
  have:=Jt (X:=W) (k:=1) (V:=2*W) hLW (.inr (by omega)) (by omega)
  simpa using this
 have b2:∀ d,d≤1→bl (2*W+d)≤1001:=by
  intro d hd;have h1:=Qo W;have h2:2*W+d<2^(bl W+1):=by rw [Nat.pow_succ];omega
  by_cases h0:2*W+d=0
  · rw [h0,Zu];omega
  · have:=(Nat.pow_lt_pow_iff_right (a:=2) (by decide)).1 (Nat.lt_of_le_of_lt (Qi _ h0) h2)
    have:=Zv _ h0;omega
 have l8:∀ d,d≤1→(ws (2*W+d)).length≤8192∧¬ LG (2*W+d):=by
  intro d hd;have hb:=b2 d hd;have hn:¬ LG (2*W+d):=fun k=>by have:=(Js (2*W+d)).1 k;omega
  exact ⟨by unfold LG at hn;omega,hn⟩
 have cl0:-4096≤clampE x∧clampE x≤4096:=by unfold clampE;omega
 unfold DAns;have hl:=Ze n (2*W+(if t then 0 else 1)) (clampE x)
 cases t with
 | true =>
   simp only [if_true,Nat.add_zero] at hl ⊢;refine Zio n W (2*W) 0 x _ _ _ _ _ _ AW hx0 hx1 e1 rfl rfl (l8 0 (by omega)).1 hl ?_
   intro u p q hu hA;have:=Z6 hA (hT.belows hu) n (clampE x) (by omega) (by omega)
   rw [Zc] at this;exact this
 | false =>
   simp only [Bool.false_eq_true,if_false] at hl ⊢;refine Zmm n W (2*W) (2*W+1) x _ _ _ _ _ _ AW hx0 hx1 e1 (Zb8 (l8 1 (by omega)).2 rfl) rfl rfl (l8 0 (by omega)).1 (l8 1 (by omega)).1 hl ?_
   intro u p q hu hA;have:=Z6 hA (hT.belows hu) n (clampE x) (by omega) (by omega)
   rw [Zc] at this;exact this
theorem Ziq (w:World) (n:Bool) (v:Value) (e:Int) (m:Bool) (u:Value) (f:Int) (W:World) (hW:W=(w.alloc (.cells #[.bool n,v,.int .i64 e,.bool m,u,.int .i64 f] 98)).alloc (.cells #[.bool false,.slice none 0 0,.int .i64 0] 62)) :
 Below w.heap.size w W∧W.heap.size=w.heap.size+2∧Rq W w.heap.size n v e m u f∧Tk W (w.heap.size+1) 62 (.bool false) (.slice none 0 0) (.int .i64 0):=by
 rw [hW];refine ⟨(Za w _).alloc (by simp) _,by simp,(Rq.new _ _ _ _ _ _ _).alloc _,?_⟩
 have:=Tk.new (w.alloc (.cells #[.bool n,v,.int .i64 e,.bool m,u,.int .i64 f] 98)) 62 (.bool false) (.slice none 0 0) (.int .i64 0);simpa using this
theorem Zan (W:World) (g:Nat) (n:Bool) (v:Value) (e k:Int) (tmps:Array Value) (ht:tmps[2]?.getD undef=.pointer (some ⟨g,0,none⟩)) (hk:tmps[3]?.getD undef=.int .i64 k) (D:Tk W g 62 (.bool n) v (.int .i64 e)) :
 (results Tryz.f114 tmps).run Tryz.prog W=.ok (.tuple #[.agg #[.bool n,v,.int .i64 e],.int .i64 k]) W:=by
 obtain ⟨x0,x1,x2,_,_,_⟩:=D.facts;simp [results,Tryz.results114,ht,hk,go_sem,x0,x1,x2]
theorem Zdh {w:World}{a b:Option Addr}{la ca lb cb:Nat}(n m:Bool) (e f:Int) (WH:Nat) (x:Int) (tt:Bool) (dn:Bool) (V:Nat) (de er:Int) (lW:(ws WH).length≤8192) (lV:(ws V).length≤8192)
 (HD:Hid (∀ u,Below w.heap.size w u→Calls Tryz.prog 164 #[.agg #[.bool n,.slice a la ca,.int .i64 e,.bool m,.slice b lb cb,.int .i64 f],.int .i64 64] u fun r w'=>(∃ v,r=.returned (.agg #[v,.int .i64 x,.bool tt])∧Nt u.heap.size w' v WH)∧Below u.heap.size u w'))
 (HI:Hid (∀ (u:World) (p:Option Addr) (q:Nat),Below w.heap.size w u→Arg u p (ws WH).length q (ws WH)→Calls Tryz.prog 163 #[.bool n,.agg #[.slice p (ws WH).length q,.int .i64 x,.bool tt]] u fun r w'=>(∃ v,r=.returned (.tuple #[.agg #[.bool dn,v,.int .i64 de],.int .i64 er])∧Nt u.heap.size w' v V)∧Below u.heap.size u w')) :
 Calls Tryz.prog 114 #[.agg #[.bool n,.slice a la ca,.int .i64 e,.bool m,.slice b lb cb,.int .i64 f]] w fun r w'=>(∃ v,r=.returned (.tuple #[.agg #[.bool dn,v,.int .i64 de],.int .i64 er])∧Nt w.heap.size w' v V)∧Below w.heap.size w w':=by
 obtain ⟨W1,hW1⟩:∃ U,U=(w.alloc (.cells #[.bool n,.slice a la ca,.int .i64 e,.bool m,.slice b lb cb,.int .i64 f] 98)).alloc (.cells #[.bool false,.slice none 0 0,.int .i64 0] 62):=⟨_,rfl⟩;obtain ⟨hB,hz1,RQ,DK⟩:=Ziq w n _ e m _ f W1 hW1;have T1:=hid (HD.out W1 hB);have T2:=hid (HD.out W1.drew hB.drew);obtain ⟨x0,x1,x2,x3,x4,x5⟩:=RQ.facts;obtain ⟨s0,s1,s2,sf0,sf1,sf2⟩:=DK.facts;have hs1:w.heap.size+2≤W1.heap.size:=by omega
 have SB:=(qsd (ai hB (ai RQ DK)));clear hB hz1 RQ DK HD;go_enter Tryz.func114,Tryz.ntmps114
 go_wp2_with fail
 rw [←hW1];clear hW1;have ne1:w.heap.size≠w.heap.size+1:=by omega
 have ne2:w.heap.size+1≠w.heap.size:=by omega
 go_region_held3 (fun w'=>w'.cell? ⟨w.heap.size,0,none⟩=some (.bool n)∧w'.cell? ⟨w.heap.size,1,none⟩=some (.slice a la ca)∧w'.cell? ⟨w.heap.size,2,none⟩=some (.int .i64 e)∧w'.cell? ⟨w.heap.size,3,none⟩=some (.bool m)∧w'.cell? ⟨w.heap.size,4,none⟩=some (.slice b lb cb)∧w'.cell? ⟨w.heap.size,5,none⟩=some (.int .i64 f)) (go_keep) (first
  | (go_at_call 164
     first | with_reducible refine T1.out.mono ?_ | with_reducible refine T2.out.mono ?_
     rintro r u1 ⟨⟨v,rfl,hN⟩,hb⟩;obtain ⟨a1,c1,rfl,_⟩:=hN.arg (by omega)
     have hb1:Below W1.heap.size W1 u1:=by first | exact hb | exact ((Below.refl _ W1).drew).trans (hb.mono (Nat.le_refl _))
     have BW:Below w.heap.size w u1:=SB.out.1.trans (hb1.mono (by omega))
     have HI1:=hid (HI.out u1 _ _ BW (hN.arg' (by omega)).2)
     obtain ⟨p0,p1,p2,pf0,pf1,pf2⟩:=(SB.out.2.2.below hb1).facts;obtain ⟨q0,q1,q2,q3,q4,q5⟩:=(SB.out.2.1.below hb1).facts;have S1:=(qsd (ai BW (ai (SB.out.2.1.below hb1) (SB.out.2.2.below hb1))));clear hb hb1 BW hN)
  | (go_at_call 163
     with_reducible refine HI1.out.mono ?_
     rintro r u2 ⟨⟨v,rfl,hN⟩,hb⟩;obtain ⟨a4,c4,rfl,_⟩:=hN.arg (by omega)
     have LD:=S1.out.2.2.below hb;obtain ⟨t0,t1,t2,tf0,tf1,tf2⟩:=LD.facts;obtain ⟨i0,i1,i2,i3,i4,i5⟩:=(S1.out.2.1.below hb).facts;have FV:=qsd (ai (S1.out.1.trans (hb.mono S1.out.1.size)) (ai (hN.mono S1.out.1.size) LD));clear hN hb LD))
 all_goals (
  go_wp2;obtain ⟨bel,NZ,DK⟩:=FV.out;have hsz:=bel.size
  first
  | exact bodyPost_ret (Zan _ (w.heap.size+1) dn (.slice a4 (ws V).length c4) de er _ rfl rfl (DK.set _ _ _)) rfl ⟨⟨_,rfl,NZ.st3k DK (by decide) _ _ _⟩,Yf bel hsz (by omega) _ _ _⟩
  | exact bodyPost_ret (Zan _ (w.heap.size+1) dn (.slice a4 (ws V).length c4) de er _ rfl rfl (DK.set _ _ _)) rfl ⟨⟨_,rfl,NZ.st3k DK (by decide) _ _ _⟩,(Yf bel hsz (by omega) _ _ _).drew⟩)
theorem Zer {w:World}{a b:Option Addr}{ca cb:Nat}(n m:Bool) (X Y:Nat) (e f:Int)
 (AX:Arg w a (ws X).length ca (ws X)) (AY:Arg w b (ws Y).length cb (ws Y)) (hT:Tab w) (hX:X=0∨X%2=1) (hY:Y≠0)
 (he0:-1048576≤e) (he1:e≤1048576) (hf0:-1048576≤f) (hf1:f≤1048576) (bX:bl X≤262144) (bY:bl Y≤262144) :
 Calls Tryz.prog 114 #[.agg #[.bool n,.slice a (ws X).length ca,.int .i64 e,.bool m,.slice b (ws Y).length cb,.int .i64 f]] w fun r w' =>
  DAns w.heap.size w' r (mkS n (2*whoS X Y 64+(if atS X Y 64 then 0 else 1)) (clampE (e-f-byS X Y 64-cutS Y 64)))∧Below w.heap.size w w':=by
 have D:=Yh X Y 64 hX hY (by omega) (by omega) bX bY
 have bW:bl (whoS X Y 64)≤65:=Z2 D.most;have hc:cutS Y 64≤64:=by unfold cutS;omega
 have hb:-262144≤byS X Y 64∧byS X Y 64≤264000:=by have:=D.blh;unfold byS;omega
 unfold DAns;refine Zdh n m e f (whoS X Y 64) (e-f-byS X Y 64-cutS Y 64) (atS X Y 64) _ _ _ _ (Qf (by omega)) (Ze _ _ _) ?_ ?_
 · intro u hu
   exact Zml n m X Y e f 64 (AX.below hu) (AY.below hu) hX hY he0 he1 hf0 hf1 (by omega) (by omega) bX bY
 · intro u p q hu hA
   exact Zip n (whoS X Y 64) _ (atS X Y 64) hA (hT.belows hu) (by omega) (by omega) (by omega)
theorem Zc5 (W:World) (g:Nat) (n:Bool) (v:Value) (e:Int) (m:Bool) (u:Value) (f k:Int) (tmps:Array Value) (ht:tmps[2]?.getD undef=.pointer (some ⟨g,0,none⟩)) (hk:tmps[3]?.getD undef=.int .i64 k) (D:Rq W g n v e m u f) :
 (results Tryz.f206 tmps).run Tryz.prog W=.ok (.tuple #[.agg #[.bool n,v,.int .i64 e,.bool m,u,.int .i64 f],.int .i64 k]) W:=by
 obtain ⟨x0,x1,x2,x3,x4,x5⟩:=D.facts;simp [results,Tryz.results206,ht,hk,go_sem,x0,x1,x2,x3,x4,x5]
theorem Zah (w:World) (n:Bool) (v:Value) (e:Int) (m:Bool) (u:Value) (f:Int) (W:World) (hW:W=(w.alloc (.cells #[.bool n,v,.int .i64 e,.bool m,u,.int .i64 f] 98)).alloc (.cells #[.bool false,.slice none 0 0,.int .i64 0,.bool false,.slice none 0 0,.int .i64 0] 98)) :
 Below w.heap.size w W∧W.heap.size=w.heap.size+2∧Rq W w.heap.size n v e m u f∧Rq W (w.heap.size+1) false (.slice none 0 0) 0 false (.slice none 0 0) 0:=by
 rw [hW];refine ⟨(Za w _).alloc (by simp) _,by simp,(Rq.new _ _ _ _ _ _ _).alloc _,?_⟩
 have:=Rq.new (w.alloc (.cells #[.bool n,v,.int .i64 e,.bool m,u,.int .i64 f] 98)) false (.slice none 0 0) 0 false (.slice none 0 0) 0;simpa using this
theorem Zr2 {w:World}{a b:Option Addr}{la ca lb cb:Nat}(n m:Bool) (e f:Int) (n1 m1:Bool) (X Y:Nat) (e1 f1:Int) (lX:(ws X).length≤8192) (lY:(ws Y).length≤8192)
 (H1:Hid (∀ u,Below w.heap.size w u→Calls Tryz.prog 86 #[.bool n,.slice a la ca,.int .i64 e] u fun r w'=>(∃ v,r=.returned (.tuple #[.agg #[.bool n1,v,.int .i64 e1],.int .i64 0])∧Nt u.heap.size w' v X)∧Below u.heap.size u w'))
 (H2:Hid (∀ u,Below w.heap.size w u→Calls Tryz.prog 86 #[.bool m,.slice b lb cb,.int .i64 f] u fun r w'=>(∃ v,r=.returned (.tuple #[.agg #[.bool m1,v,.int .i64 f1],.int .i64 0])∧Nt u.heap.size w' v Y)∧Below u.heap.size u w')) :
 Calls Tryz.prog 206 #[.agg #[.bool n,.slice a la ca,.int .i64 e,.bool m,.slice b lb cb,.int .i64 f]] w fun r w'=>(∃ v u,r=.returned (.tuple #[.agg #[.bool n1,v,.int .i64 e1,.bool m1,u,.int .i64 f1],.int .i64 0])∧Nt w.heap.size w' v X∧Nt w.heap.size w' u Y∧Ap v u)∧Below w.heap.size w w':=by
 obtain ⟨W1,hW1⟩:∃ U,U=(w.alloc (.cells #[.bool n,.slice a la ca,.int .i64 e,.bool m,.slice b lb cb,.int .i64 f] 98)).alloc (.cells #[.bool false,.slice none 0 0,.int .i64 0,.bool false,.slice none 0 0,.int .i64 0] 98):=⟨_,rfl⟩;obtain ⟨hB,hz1,RQ,RR⟩:=Zah w n _ e m _ f W1 hW1;have hs2:w.heap.size+2≤W1.heap.size:=by omega
 have hbel:=hB;have S0:=(qsd (ai hbel (ai RQ RR)));clear hbel;clear hB RQ RR hz1;go_enter Tryz.func206,Tryz.ntmps206;obtain ⟨x0,x1,x2,x3,x4,x5⟩:=S0.out.2.1.facts;obtain ⟨bel,RQ,RR⟩:=S0.out;have HC:=hid (H1.out W1 bel);clear bel RQ RR
 go_upto_region 1 with fail
 rw [←hW1];clear hW1
 go_wp2_with fail
 clear x0 x1 x2 x3 x4 x5;refine HC.out.mono ?_;rintro r u1 ⟨⟨v,rfl,hN⟩,hb⟩;obtain ⟨a1,c1,rfl,_⟩:=hN.arg (by omega)
 clear HC;obtain ⟨bel,RQ,RR⟩:=S0.out;have hbn:=bel.trans (hb.mono bel.size);have S1:=qsd (ai hbn (ai (RQ.below hb) (ai (RR.below hb) (hN.mono bel.size))));clear bel RQ RR;clear hb hbn S0;clear hN;obtain ⟨U1,hU1⟩:∃ U,U=u1.alloc (.cells #[.bool n1,.slice a1 (ws X).length c1,.int .i64 e1] 62):=⟨_,rfl⟩;obtain ⟨bel,RQ,RR,NX⟩:=S1.out;have hbA:Below u1.heap.size u1 U1:=by rw [hU1];exact Za _ _
 have TN:Tk U1 u1.heap.size 62 (.bool n1) (.slice a1 (ws X).length c1) (.int .i64 e1):=by rw [hU1];exact Tk.new _ _ _ _ _
 have hbn:=bel.trans (hbA.mono bel.size);have hgu:w.heap.size+2≤u1.heap.size:=by have:=RR.lt;omega
 have S2:=qsd (ai hbn (ai (RQ.below hbA) (ai (RR.below hbA) (ai (NX.below hbA) TN))));obtain ⟨x0,x1,x2,x3,x4,x5⟩:=(RQ.below hbA).facts;clear bel RQ RR NX;clear hbA hbn TN S1 H1;obtain ⟨bel,RQ,RR,NX,TN⟩:=S2.out;have HC:=hid (H2.out U1 bel);clear bel RQ RR NX TN
 go_upto_region 4 with fail
 rw [←hU1];clear hU1
 go_wp2_with fail
 clear x0 x1 x2 x3 x4 x5;refine HC.out.mono ?_;rintro r u3 ⟨⟨v,rfl,hN⟩,hb⟩;obtain ⟨a2,c2,rfl,_⟩:=hN.arg (by omega)
 clear HC;obtain ⟨bel,RQ,RR,NX,TN⟩:=S2.out;have hbn:=bel.trans (hb.mono bel.size);have S3:=qsd (ai hbn (ai (RQ.below hb) (ai (RR.below hb) (ai (NX.below hb) (ai (TN.below hb) (ai (hN.mono bel.size) (NX.ap hN)))))));clear bel RQ RR NX TN;clear hb hbn S2;clear hN;obtain ⟨U3,hU3⟩:∃ U,U=u3.alloc (.cells #[.bool m1,.slice a2 (ws Y).length c2,.int .i64 f1] 62):=⟨_,rfl⟩;obtain ⟨bel,RQ,RR,NX,TN,NY,AP⟩:=S3.out;have hbA:Below u3.heap.size u3 U3:=by rw [hU3];exact Za _ _
 have TD:Tk U3 u3.heap.size 62 (.bool m1) (.slice a2 (ws Y).length c2) (.int .i64 f1):=by rw [hU3];exact Tk.new _ _ _ _ _
 have hbn:=bel.trans (hbA.mono bel.size);have SZ:=qsd (ai hbn (ai (RR.below hbA) (ai (NX.below hbA) (ai (NY.below hbA) AP))));obtain ⟨x0,x1,x2,_,_,_⟩:=(TN.below hbA).facts;obtain ⟨y0,y1,y2,_,_,_⟩:=TD.facts;obtain ⟨r0,r1,r2,r3,r4,r5⟩:=(RR.below hbA).facts;obtain ⟨rf0,rf1,rf2,rf3,rf4,rf5⟩:=(RR.below hbA).frz;clear bel RQ RR NX TN NY AP;clear hbA hbn TD S3 H2
 go_upto_region 5 with fail
 rw [←hU3];clear hU3;go_wp2;obtain ⟨bel,RR,NX,NY,AP⟩:=SZ.out;have hbl:=bel.size;refine bodyPost_ret (Zc5 _ (w.heap.size+1) n1 (.slice a1 (ws X).length c1) e1 m1 (.slice a2 (ws Y).length c2) f1 0 _ rfl rfl (RR.set _ _ _ _ _ _)) rfl ⟨⟨_,_,rfl,NX.st6k RR _ _ _ _ _ _,NY.st6k RR _ _ _ _ _ _,AP⟩,Za6 bel hbl (by omega) _ _ _ _ _ _⟩
theorem Zmn {w:World}{a b:Option Addr}{la ca lb cb:Nat}(n m:Bool) (e f:Int) (n1 m1:Bool) (X Y:Nat) (e1 f1:Int) (lX:(ws X).length≤8192) (lY:(ws Y).length≤8192)
 (H1:Hid (∀ u,Below w.heap.size w u→Calls Tryz.prog 86 #[.bool n,.slice a la ca,.int .i64 e] u fun r w'=>(∃ v,r=.returned (.tuple #[.agg #[.bool n1,v,.int .i64 e1],.int .i64 2])∧Nt u.heap.size w' v X)∧Below u.heap.size u w'))
  :
 Calls Tryz.prog 206 #[.agg #[.bool n,.slice a la ca,.int .i64 e,.bool m,.slice b lb cb,.int .i64 f]] w fun r w'=>(∃ v u,r=.returned (.tuple #[.agg #[.bool false,v,.int .i64 0,.bool false,u,.int .i64 0],.int .i64 2])∧v=.slice none 0 0∧u=.slice none 0 0)∧Below w.heap.size w w':=by
 obtain ⟨W1,hW1⟩:∃ U,U=(w.alloc (.cells #[.bool n,.slice a la ca,.int .i64 e,.bool m,.slice b lb cb,.int .i64 f] 98)).alloc (.cells #[.bool false,.slice none 0 0,.int .i64 0,.bool false,.slice none 0 0,.int .i64 0] 98):=⟨_,rfl⟩;obtain ⟨hB,hz1,RQ,RR⟩:=Zah w n _ e m _ f W1 hW1;have hs2:w.heap.size+2≤W1.heap.size:=by omega
 have hbel:=hB;have S0:=(qsd (ai hbel (ai RQ RR)));clear hbel;clear hB RQ RR hz1;go_enter Tryz.func206,Tryz.ntmps206;obtain ⟨x0,x1,x2,x3,x4,x5⟩:=S0.out.2.1.facts;obtain ⟨bel,RQ,RR⟩:=S0.out;have HC:=hid (H1.out W1 bel);clear bel RQ RR
 go_upto_region 1 with fail
 rw [←hW1];clear hW1
 go_wp2_with fail
 clear x0 x1 x2 x3 x4 x5;refine HC.out.mono ?_;rintro r u1 ⟨⟨v,rfl,hN⟩,hb⟩;obtain ⟨a1,c1,rfl,_⟩:=hN.arg (by omega)
 clear HC;obtain ⟨bel,RQ,RR⟩:=S0.out;have hbn:=bel.trans (hb.mono bel.size);have S1:=qsd (ai hbn (ai (RQ.below hb) (RR.below hb)));clear bel RQ RR;clear hb hbn S0;clear hN;obtain ⟨U1,hU1⟩:∃ U,U=u1.alloc (.cells #[.bool n1,.slice a1 (ws X).length c1,.int .i64 e1] 62):=⟨_,rfl⟩;obtain ⟨bel,RQ,RR⟩:=S1.out;have hbA:Below u1.heap.size u1 U1:=by rw [hU1];exact Za _ _
 have hlast:=qsd (ai (bel.trans (hbA.mono bel.size)) (RR.below hbA));obtain ⟨r0,r1,r2,r3,r4,r5⟩:=(RR.below hbA).facts;obtain ⟨rf0,rf1,rf2,rf3,rf4,rf5⟩:=(RR.below hbA).frz;clear bel RQ RR;clear S1 H1 hbA
 go_upto_region 2 with fail
 rw [←hU1];clear hU1;go_wp2;obtain ⟨bel,RR⟩:=hlast.out;exact bodyPost_ret (Zc5 _ (w.heap.size+1) false (.slice none 0 0) 0 false (.slice none 0 0) 0 2 _ rfl rfl (RR.set _ _ _ _ _ _)) rfl ⟨⟨_,_,rfl,rfl,rfl⟩,Za6 bel bel.size (by omega) _ _ _ _ _ _⟩
theorem Zmo {w:World}{a b:Option Addr}{la ca lb cb:Nat}(n m:Bool) (e f:Int) (n1 m1:Bool) (X Y:Nat) (e1 f1:Int) (lX:(ws X).length≤8192) (lY:(ws Y).length≤8192)
 (H1:Hid (∀ u,Below w.heap.size w u→Calls Tryz.prog 86 #[.bool n,.slice a la ca,.int .i64 e] u fun r w'=>(∃ v,r=.returned (.tuple #[.agg #[.bool n1,v,.int .i64 e1],.int .i64 0])∧Nt u.heap.size w' v X)∧Below u.heap.size u w'))
 (H2:Hid (∀ u,Below w.heap.size w u→Calls Tryz.prog 86 #[.bool m,.slice b lb cb,.int .i64 f] u fun r w'=>(∃ v,r=.returned (.tuple #[.agg #[.bool m1,v,.int .i64 f1],.int .i64 2])∧Nt u.heap.size w' v Y)∧Below u.heap.size u w')) :
 Calls Tryz.prog 206 #[.agg #[.bool n,.slice a la ca,.int .i64 e,.bool m,.slice b lb cb,.int .i64 f]] w fun r w'=>(∃ v u,r=.returned (.tuple #[.agg #[.bool false,v,.int .i64 0,.bool false,u,.int .i64 0],.int .i64 2])∧v=.slice none 0 0∧u=.slice none 0 0)∧Below w.heap.size w w':=by
 obtain ⟨W1,hW1⟩:∃ U,U=(w.alloc (.cells #[.bool n,.slice a la ca,.int .i64 e,.bool m,.slice b lb cb,.int .i64 f] 98)).alloc (.cells #[.bool false,.slice none 0 0,.int .i64 0,.bool false,.slice none 0 0,.int .i64 0] 98):=⟨_,rfl⟩;obtain ⟨hB,hz1,RQ,RR⟩:=Zah w n _ e m _ f W1 hW1;have hs2:w.heap.size+2≤W1.heap.size:=by omega
 have hbel:=hB;have S0:=(qsd (ai hbel (ai RQ RR)));clear hbel;clear hB RQ RR hz1;go_enter Tryz.func206,Tryz.ntmps206;obtain ⟨x0,x1,x2,x3,x4,x5⟩:=S0.out.2.1.facts;obtain ⟨bel,RQ,RR⟩:=S0.out;have HC:=hid (H1.out W1 bel);clear bel RQ RR
 go_upto_region 1 with fail
 rw [←hW1];clear hW1
 go_wp2_with fail
 clear x0 x1 x2 x3 x4 x5;refine HC.out.mono ?_;rintro r u1 ⟨⟨v,rfl,hN⟩,hb⟩;obtain ⟨a1,c1,rfl,_⟩:=hN.arg (by omega)
 clear HC;obtain ⟨bel,RQ,RR⟩:=S0.out;have hbn:=bel.trans (hb.mono bel.size);have S1:=qsd (ai hbn (ai (RQ.below hb) (ai (RR.below hb) (hN.mono bel.size))));clear bel RQ RR;clear hb hbn S0;clear hN;obtain ⟨U1,hU1⟩:∃ U,U=u1.alloc (.cells #[.bool n1,.slice a1 (ws X).length c1,.int .i64 e1] 62):=⟨_,rfl⟩;obtain ⟨bel,RQ,RR,NX⟩:=S1.out;have hbA:Below u1.heap.size u1 U1:=by rw [hU1];exact Za _ _
 have TN:Tk U1 u1.heap.size 62 (.bool n1) (.slice a1 (ws X).length c1) (.int .i64 e1):=by rw [hU1];exact Tk.new _ _ _ _ _
 have hbn:=bel.trans (hbA.mono bel.size);have hgu:w.heap.size+2≤u1.heap.size:=by have:=RR.lt;omega
 have S2:=qsd (ai hbn (ai (RQ.below hbA) (ai (RR.below hbA) (ai (NX.below hbA) TN))));obtain ⟨x0,x1,x2,x3,x4,x5⟩:=(RQ.below hbA).facts;clear bel RQ RR NX;clear hbA hbn TN S1 H1;obtain ⟨bel,RQ,RR,NX,TN⟩:=S2.out;have HC:=hid (H2.out U1 bel);clear bel RQ RR NX TN
 go_upto_region 4 with fail
 rw [←hU1];clear hU1
 go_wp2_with fail
 clear x0 x1 x2 x3 x4 x5;refine HC.out.mono ?_;rintro r u3 ⟨⟨v,rfl,hN⟩,hb⟩;obtain ⟨a2,c2,rfl,_⟩:=hN.arg (by omega)
 clear HC;obtain ⟨bel,RQ,RR,NX,TN⟩:=S2.out;have hbn:=bel.trans (hb.mono bel.size);have S3:=qsd (ai hbn (ai (RQ.below hb) (ai (RR.below hb) (ai (NX.below hb) (TN.below hb)))));clear bel RQ RR NX TN;clear hb hbn S2;clear hN;obtain ⟨U3,hU3⟩:∃ U,U=u3.alloc (.cells #[.bool m1,.slice a2 (ws Y).length c2,.int .i64 f1] 62):=⟨_,rfl⟩;obtain ⟨bel,RQ,RR,NX,TN⟩:=S3.out;have hbA:Below u3.heap.size u3 U3:=by rw [hU3];exact Za _ _
 have hlast:=qsd (ai (bel.trans (hbA.mono bel.size)) (RR.below hbA));obtain ⟨r0,r1,r2,r3,r4,r5⟩:=(RR.below hbA).facts;obtain ⟨rf0,rf1,rf2,rf3,rf4,rf5⟩:=(RR.below hbA).frz;clear bel RQ RR NX TN;clear S3 H2 hbA
 go_upto_region 5 with fail
 rw [←hU3];clear hU3;go_wp2;obtain ⟨bel,RR⟩:=hlast.out;exact bodyPost_ret (Zc5 _ (w.heap.size+1) false (.slice none 0 0) 0 false (.slice none 0 0) 0 2 _ rfl rfl (RR.set _ _ _ _ _ _)) rfl ⟨⟨_,_,rfl,rfl,rfl⟩,Za6 bel bel.size (by omega) _ _ _ _ _ _⟩
theorem infoR:(Tryz.prog.info? 98).map (fun i=>(i.zero,i.size,i.bytes))=some (some (.agg #[.bool false,.slice none 0 0,.int .i64 0,.bool false,.slice none 0 0,.int .i64 0]),6,80):=by kernel_rfl
theorem Zes (w:World) :
 (Instr.makeSlice 187 (.int .i64 1) (.int .i64 1)).run Tryz.prog w=.ok (.slice (some ⟨w.heap.size,0,none⟩) 1 1) (w.alloc (.cells #[.bool false,.slice none 0 0,.int .i64 0,.bool false,.slice none 0 0,.int .i64 0] 98)):=by
 have h:=infoR;have e:IntKind.i64.wrap 1=1:=by decide
 cases hq:Tryz.prog.info? 98 with
 | none=>rw [hq] at h;simp at h
 | some i =>
   rw [hq] at h;simp at h;simp [Instr.makeSlice,go_sem,Tryz.underlying187,hq,h,typeInfo,e]
structure Ri where
 n:Bool
 v:Value
 X:Nat
 e:Int
 m:Bool
 u:Value
 Y:Nat
 f:Int
def Av (w:World) (v:Value) (X:Nat):Prop:=∃ a l c xs,v=.slice a l c∧Arg w a l c xs∧val xs=X
theorem Av.below {w w':World}{v:Value}{X:Nat}(h:Av w v X) (hb:Below w.heap.size w w'):Av w' v X:=by
 obtain ⟨a,l,c,xs,rfl,hA,hv⟩:=h;exact ⟨a,l,c,xs,rfl,hA.below hb,hv⟩
theorem Nt.av {lo:Nat}{w:World}{v:Value}{X:Nat}(h:Nt lo w v X) (hs:(ws X).length≤35184372088832):Av w v X:=by
 obtain ⟨a,c,rfl,hA⟩:=h.arg hs;exact ⟨a,_,c,_,rfl,hA,Zc X⟩
def Row6 (w:World) (g k:Nat) (I:Nat→Ri):Prop:=∃ cur:Array Value,w.heap[g]?=some (.cells cur 98 (0,0))∧∀ i,i<k→cur[i*6]?=some (.bool (I i).n)∧cur[i*6+1]?=some (I i).v∧cur[i*6+2]?=some (.int .i64 (I i).e)∧cur[i*6+3]?=some (.bool (I i).m)∧cur[i*6+4]?=some (I i).u∧cur[i*6+5]?=some (.int .i64 (I i).f)
theorem Row6.lt {w:World}{g k:Nat}{I:Nat→Ri}(h:Row6 w g k I):g<w.heap.size:=by obtain ⟨c,h,_⟩:=h;exact (Array.getElem?_eq_some_iff.1 h).1
theorem Row6.below {w w':World}{g k:Nat}{I:Nat→Ri}(h:Row6 w g k I) (hb:Below w.heap.size w w'):Row6 w' g k I:=by
 have hl:=h.lt;obtain ⟨c,h,r⟩:=h;exact ⟨c,by rw [hb.block g hl];exact h,r⟩
theorem Row6.facts {w:World}{g k:Nat}{I:Nat→Ri}(h:Row6 w g k I) (i:Nat) (hi:i<k) :
 w.cell? ⟨g,i*6,none⟩=some (.bool (I i).n)∧w.cell? ⟨g,i*6+1,none⟩=some (I i).v∧w.cell? ⟨g,i*6+2,none⟩=some (.int .i64 (I i).e)∧w.cell? ⟨g,i*6+3,none⟩=some (.bool (I i).m)∧w.cell? ⟨g,i*6+4,none⟩=some (I i).u∧w.cell? ⟨g,i*6+5,none⟩=some (.int .i64 (I i).f):=by
 obtain ⟨c,h,r⟩:=h;obtain ⟨r0,r1,r2,r3,r4,r5⟩:=r i hi;simp [World.cell?,h,r0,r1,r2,r3,r4,r5]
def errL (I:Nat→Ri) (k:Nat):Int :=
 if (List.range k).any (fun i=>decide (sgn (I i).m (I i).Y<0)) then 1
 else if (List.range k).any (fun i=>!((mkS (I i).n (I i).X (I i).e).isSome&&(mkS (I i).m (I i).Y (I i).f).isSome)) then 2
 else if (List.range k).any (fun i=>decide (dX (mkS (I i).m (I i).Y (I i).f)=0)) then 21 else 0
theorem Ziz {k i:Nat}{p:Nat→Bool}(hi:i<k) (h:p i=true):(List.range k).any p=true:=List.any_eq_true.2 ⟨i,List.mem_range.2 hi,h⟩
theorem Zbk {k:Nat}{p:Nat→Bool}(h:∀ i,i<k→p i=false):(List.range k).any p=false:=by
 rw [List.any_eq_false];intro i hi;rw [h i (List.mem_range.1 hi)];simp
structure RIn (w:World) (g k:Nat) (I:Nat→Ri):Prop where
 row:Row6 w g k I
 one:∀ i,i<k→Av w (I i).v (I i).X∧Av w (I i).u (I i).Y
 rng:∀ i,i<k→-9223372036854775808≤(I i).e∧(I i).e≤9223372036854775807∧-9223372036854775808≤(I i).f∧(I i).f≤9223372036854775807
 tab:Tab w
theorem RIn.below {w w':World}{g k:Nat}{I:Nat→Ri}(h:RIn w g k I) (hb:Below w.heap.size w w'):RIn w' g k I :=
 ⟨h.row.below hb,fun i hi=>⟨(h.one i hi).1.below hb,(h.one i hi).2.below hb⟩,h.rng,h.tab.belows hb⟩
def frmI (I:Nat→Ri) (V:Nat→Value×Value) (i:Nat):Ri :=
 ⟨dN (mkS (I i).n (I i).X (I i).e),(V i).1,dX (mkS (I i).n (I i).X (I i).e),dE (mkS (I i).n (I i).X (I i).e),dN (mkS (I i).m (I i).Y (I i).f),(V i).2,dX (mkS (I i).m (I i).Y (I i).f),dE (mkS (I i).m (I i).Y (I i).f)⟩
structure ROut (lo:Nat) (w:World) (g k:Nat) (I:Nat→Ri) (V:Nat→Value×Value):Prop where
 row:Row6 w g k (frmI I V)
 own:lo≤g
 nts:∀ i,i<k→Nt lo w (V i).1 (dX (mkS (I i).n (I i).X (I i).e))∧Nt lo w (V i).2 (dX (mkS (I i).m (I i).Y (I i).f))
theorem ROut.below {lo:Nat}{w w':World}{g k:Nat}{I:Nat→Ri}{V:Nat→Value×Value}(h:ROut lo w g k I V) (hb:Below w.heap.size w w'):ROut lo w' g k I V :=
 ⟨h.row.below hb,h.own,fun i hi=>⟨(h.nts i hi).1.below hb,(h.nts i hi).2.below hb⟩⟩
abbrev st6o (w:World) (g o:Nat) (a b c d e f:Value):World:=(((((w.setCell ⟨g,o,none⟩ a).setCell ⟨g,o+1,none⟩ b).setCell ⟨g,o+2,none⟩ c).setCell ⟨g,o+3,none⟩ d).setCell ⟨g,o+4,none⟩ e).setCell ⟨g,o+5,none⟩ f
theorem Jq (g o:Nat) (w:World) (a b c d e f:Value):But g w (st6o w g o a b c d e f):=((((((But.refl g w).set _ _).set _ _).set _ _).set _ _).set _ _).set _ _
theorem setc {w:World}{g T:Nat}{cur:Array Value}{fz:Nat×Nat}(h:w.heap[g]?=some (.cells cur T fz)) (o:Nat) (v:Value):(w.setCell ⟨g,o,none⟩ v).heap[g]?=some (.cells (cur.setIfInBounds o v) T fz):=by
 simp [World.setCell,Array.getElem?_modify,h]
theorem Zir {w:World}{g T:Nat}{cur:Array Value}{fz:Nat×Nat}(h:w.heap[g]?=some (.cells cur T fz)) (o:Nat) (a b c d e f:Value) (ho:o+5<cur.size) :
 ∃ cur',(st6o w g o a b c d e f).heap[g]?=some (.cells cur' T fz)∧cur'.size=cur.size∧(cur'[o]?=some a∧cur'[o+1]?=some b∧cur'[o+2]?=some c∧cur'[o+3]?=some d∧cur'[o+4]?=some e∧cur'[o+5]?=some f)∧∀ j,(j<o∨o+5<j)→cur'[j]?=cur[j]?:=by
 refine ⟨_,setc (setc (setc (setc (setc (setc h o a) (o+1) b) (o+2) c) (o+3) d) (o+4) e) (o+5) f,by simp,?_,?_⟩
 · simp [Array.getElem?_setIfInBounds]
   omega
 · intro j hj
   have n0:o≠j:=by omega
   have n1:o+1≠j:=by omega
   have n2:o+2≠j:=by omega
   have n3:o+3≠j:=by omega
   have n4:o+4≠j:=by omega
   have n5:o+5≠j:=by omega
   simp [Array.getElem?_setIfInBounds,n0,n1,n2,n3,n4,n5]
structure RPart (lo:Nat) (w:World) (g k i:Nat) (I:Nat→Ri) (V:Nat→Value×Value):Prop where
 row:∃ cur:Array Value,w.heap[g]?=some (.cells cur 98 (0,0))∧cur.size=6*k∧∀ j,j<i→cur[j*6]?=some (.bool (frmI I V j).n)∧cur[j*6+1]?=some (frmI I V j).v∧cur[j*6+2]?=some (.int .i64 (frmI I V j).e)∧cur[j*6+3]?=some (.bool (frmI I V j).m)∧cur[j*6+4]?=some (frmI I V j).u∧cur[j*6+5]?=some (.int .i64 (frmI I V j).f)
 own:lo≤g
 nts:∀ j,j<i→Nt lo w (V j).1 (dX (mkS (I j).n (I j).X (I j).e))∧Nt lo w (V j).2 (dX (mkS (I j).m (I j).Y (I j).f))
theorem RPart.lt {lo:Nat}{w:World}{g k i:Nat}{I:Nat→Ri}{V:Nat→Value×Value}(h:RPart lo w g k i I V):g<w.heap.size:=by obtain ⟨c,h,_⟩:=h.row;exact (Array.getElem?_eq_some_iff.1 h).1
theorem RPart.below {lo:Nat}{w w':World}{g k i:Nat}{I:Nat→Ri}{V:Nat→Value×Value}(h:RPart lo w g k i I V) (hb:Below w.heap.size w w'):RPart lo w' g k i I V:=by
 have hl:=h.lt;obtain ⟨⟨c,h1,r⟩,h2,h3⟩:=h;exact ⟨⟨c,by rw [hb.block g hl];exact h1,r⟩,h2,fun j hj=>⟨(h3 j hj).1.below hb,(h3 j hj).2.below hb⟩⟩
theorem RPart.room {lo:Nat}{w:World}{g k i:Nat}{I:Nat→Ri}{V:Nat→Value×Value}(h:RPart lo w g k i I V) (j:Nat) (hj:j<6*k):(∃ v,w.cell? ⟨g,j,none⟩=some v)∧w.frozen? ⟨g,j,none⟩=false:=by
 obtain ⟨⟨c,h1,hs,r⟩,h2,h3⟩:=h;refine ⟨⟨c[j]'(by omega),?_⟩,?_⟩
 · simp [World.cell?,h1]
 · simp [World.frozen?,h1]
theorem RPart.out {lo:Nat}{w:World}{g k:Nat}{I:Nat→Ri}{V:Nat→Value×Value}(h:RPart lo w g k k I V):ROut lo w g k I V:=by
 obtain ⟨⟨c,h1,hs,r⟩,h2,h3⟩:=h;exact ⟨⟨c,h1,r⟩,h2,h3⟩
theorem RPart.step {lo:Nat}{w:World}{g k i:Nat}{I:Nat→Ri}{V:Nat→Value×Value}(h:RPart lo w g k i I V) (hi:i<k) (v u:Value)
 (hv:Nt lo w v (dX (mkS (I i).n (I i).X (I i).e))) (hu:Nt lo w u (dX (mkS (I i).m (I i).Y (I i).f))) :
 ∃ V',RPart lo (st6o w g (i*6) (.bool (dN (mkS (I i).n (I i).X (I i).e))) v (.int .i64 (dE (mkS (I i).n (I i).X (I i).e))) (.bool (dN (mkS (I i).m (I i).Y (I i).f))) u (.int .i64 (dE (mkS (I i).m (I i).Y (I i).f)))) g k (i+1) I V':=by
 obtain ⟨⟨c,h1,hs,r⟩,h2,h3⟩:=h;obtain ⟨c',k1,k2,k3,k4⟩:=Zir h1 (i*6) (.bool (dN (mkS (I i).n (I i).X (I i).e))) v (.int .i64 (dE (mkS (I i).n (I i).X (I i).e))) (.bool (dN (mkS (I i).m (I i).Y (I i).f))) u (.int .i64 (dE (mkS (I i).m (I i).Y (I i).f))) (by omega)
 refine ⟨fun j=>if j=i then (v,u) else V j,⟨c',k1,by omega,fun j hj=>?_⟩,h2,fun j hj=>?_⟩
 · by_cases e:j=i
   · subst e
     simp only [frmI,if_true];exact k3
   · have:=r j (by omega)
     rw [k4 _ (by omega),k4 _ (by omega),k4 _ (by omega),k4 _ (by omega),k4 _ (by omega),k4 _ (by omega)]
     simp only [frmI,if_neg e] at this ⊢;exact this
 · by_cases e:j=i
   · subst e
     simp only [if_true];exact ⟨hv.off (Jq _ _ _ _ _ _ _ _ _) (hv.notin (by decide) h1),hu.off (Jq _ _ _ _ _ _ _ _ _) (hu.notin (by decide) h1)⟩
   · simp only [if_neg e]
     obtain ⟨q1,q2⟩:=h3 j (by omega)
     exact ⟨q1.off (Jq _ _ _ _ _ _ _ _ _) (q1.notin (by decide) h1),q2.off (Jq _ _ _ _ _ _ _ _ _) (q2.notin (by decide) h1)⟩
theorem sgnD {w:World}{n:Bool}{v:Value}{X:Nat}{e:Int}(h:Av w v X):Calls Tryz.prog 58 #[.agg #[.bool n,v,.int .i64 e]] w fun r w'=>r=.returned (.int .i64 (sgn n X))∧Below w.heap.size w w':=by
 obtain ⟨a,l,c,xs,rfl,hA,rfl⟩:=h;exact Zdk hA n e
theorem formD {w:World}{r:Ri}(h1:Av w r.v r.X) (h2:Av w r.u r.Y) (hT:Tab w) (b0:-9223372036854775808≤r.e) (b1:r.e≤9223372036854775807) (b2:-9223372036854775808≤r.f) (b3:r.f≤9223372036854775807) :
 Calls Tryz.prog 206 #[.agg #[.bool r.n,r.v,.int .i64 r.e,.bool r.m,r.u,.int .i64 r.f]] w fun q w' =>
  (((mkS r.n r.X r.e).isSome&&(mkS r.m r.Y r.f).isSome)=true→∃ v u,q=.returned (.tuple #[.agg #[.bool (dN (mkS r.n r.X r.e)),v,.int .i64 (dE (mkS r.n r.X r.e)),.bool (dN (mkS r.m r.Y r.f)),u,.int .i64 (dE (mkS r.m r.Y r.f))],.int .i64 0])∧Nt w.heap.size w' v (dX (mkS r.n r.X r.e))∧Nt w.heap.size w' u (dX (mkS r.m r.Y r.f))∧Ap v u) ∧
  (((mkS r.n r.X r.e).isSome&&(mkS r.m r.Y r.f).isSome)=false→q=.returned (.tuple #[.agg #[.bool false,.slice none 0 0,.int .i64 0,.bool false,.slice none 0 0,.int .i64 0],.int .i64 2]))∧Below w.heap.size w w':=by
 obtain ⟨n,v,X,e,m,u,Y,f⟩:=r;simp only at *;obtain ⟨a,l,c,xs,rfl,hA,rfl⟩:=h1;obtain ⟨b,k,d,ys,rfl,hB,rfl⟩:=h2;have l1:=Ze n (val xs) e;have l2:=Ze m (val ys) f;have H1:∀ u,Below w.heap.size w u→Calls Tryz.prog 86 #[.bool n,.slice a l c,.int .i64 e] u fun r w'=>DAns u.heap.size w' r (mkS n (val xs) e)∧Below u.heap.size u w':=fun u hu=>Z6 (hA.below hu) (hT.belows hu) n e b0 b1
 have H2:∀ u,Below w.heap.size w u→Calls Tryz.prog 86 #[.bool m,.slice b k d,.int .i64 f] u fun r w'=>DAns u.heap.size w' r (mkS m (val ys) f)∧Below u.heap.size u w':=fun u hu=>Z6 (hB.below hu) (hT.belows hu) m f b2 b3
 simp only [DAns] at H1 H2;generalize mkS n (val xs) e=o at *;generalize mkS m (val ys) f=p at *
 cases ho:o.isSome with
 | false =>
   have he:erS o=2:=by unfold erS;rw [ho];rfl
   rw [he] at H1;refine (Zmn n m e f (dN o) false (dX o) 0 (dE o) 0 l1 (by rw [ws0];omega) H1).mono ?_
   rintro r w' ⟨⟨v,u,h,rfl,rfl⟩,hb⟩;exact ⟨fun hh=>(by cases hh),fun _=>h,hb⟩
 | true =>
   have he:erS o=0:=by unfold erS;rw [ho];rfl
   rw [he] at H1
   cases hp:p.isSome with
   | false =>
     have he:erS p=2:=by unfold erS;rw [hp];rfl
     rw [he] at H2;refine (Zmo n m e f (dN o) (dN p) (dX o) (dX p) (dE o) (dE p) l1 l2 H1 H2).mono ?_;rintro r w' ⟨⟨v,u,h,rfl,rfl⟩,hb⟩;exact ⟨fun hh=>(by cases hh),fun _=>h,hb⟩
   | true =>
     have he:erS p=0:=by unfold erS;rw [hp];rfl
     rw [he] at H2;refine (Zr2 n m e f (dN o) (dN p) (dX o) (dX p) (dE o) (dE p) l1 l2 H1 H2).mono ?_;rintro r w' ⟨⟨v,u,h,hN,hM,hap⟩,hb⟩;exact ⟨fun _=>⟨v,u,h,hN,hM,hap⟩,fun hh=>(by cases hh),hb⟩
theorem Ztx (w:World) (g:Nat) (I:Nat→Ri) (h:RIn w g 1 I) :
 Calls Tryz.prog 162 #[.slice (some ⟨g,0,none⟩) 1 1] w fun r w' =>
  ((errL I 1≠0∧r=.returned (.tuple #[.slice none 0 0,.int .i64 (errL I 1)])) ∨
   (errL I 1=0∧∃ g' V,r=.returned (.tuple #[.slice (some ⟨g',0,none⟩) 1 1,.int .i64 0])∧ROut w.heap.size w' g' 1 I V))∧Below w.heap.size w w':=by
 have MK:=Zes;have hH:=qsd h;clear h;go_enter Tryz.func162,Tryz.ntmps162
 go_wp2_with fail
 go_loopg [15] 1 (fun gk iv wr=>∃ i:Nat,gk+i=1∧iv=.int .i64 (i:Nat)∧Aside (Below w.heap.size w wr∧∀ j,j<i→decide (sgn (I j).m (I j).Y<0)=false))
 case atStart=>exact ⟨0,by omega,rfl,Below.refl _ _,fun j hj=>by omega⟩
 case round =>
  obtain ⟨i,hgi,rfl,HR⟩:=hrel
  by_cases hi:i<1
  · have hin:=hH.out.below HR.out.1
    obtain ⟨g0,g1,g2,g3,g4,g5⟩:=hin.row.facts i hi;obtain ⟨A1,A2⟩:=hin.one i hi;obtain ⟨n,v,X,e,m,u,Y,f,hI⟩:∃ n v X e m u Y f,I i=⟨n,v,X,e,m,u,Y,f⟩:=⟨_,_,_,_,_,_,_,_,rfl⟩;rw [hI] at g0 g1 g2 g3 g4 g5 A1 A2;simp only at g0 g1 g2 g3 g4 g5 A1 A2;obtain ⟨a1,l1,c1,xs,rfl,-,-⟩:=id A1;obtain ⟨a2,l2,c2,ys,rfl,-,-⟩:=id A2;obtain ⟨U,hU⟩:∃ U,U=wr.alloc (.cells #[.bool n,.slice a1 l1 c1,.int .i64 e,.bool m,.slice a2 l2 c2,.int .i64 f] 98):=⟨_,rfl⟩;have hbU:Below wr.heap.size wr U:=by rw [hU];exact Za _ _
    have RQ:Rq U wr.heap.size n (.slice a1 l1 c1) e m (.slice a2 l2 c2) f:=by rw [hU];exact Rq.new _ _ _ _ _ _ _
    obtain ⟨x0,x1,x2,x3,x4,x5⟩:=RQ.facts;have HC:=hid (sgnD (n:=m) (e:=f) (A2.below hbU));obtain ⟨s,hs⟩:∃ s,sgn m Y=s:=⟨_,rfl⟩;rw [hs] at HC;have SI:=(qsd (ai (HR.out.1.trans (hbU.mono HR.out.1.size)) (ai HR.out.2 (ai hI (ai hs hi)))));clear hbU RQ A1 A2 hin HR hI hs;have hli:(i:Int)<1:=by omega
    have hl0:(0:Int)≤(i:Int):=by omega
    go_upto_region 4 with fail
    rw [←hU];clear hU g0 g1 g2 g3 g4 g5
    go_wp2_with fail
    clear x0 x1 x2 x3 x4 x5;refine HC.out.mono ?_;rintro r u1 ⟨rfl,hb⟩;have S2:=qsd (SI.out.1.trans (hb.mono SI.out.1.size));clear hb HC
    by_cases hneg:s<0
    · have hn:=decide_eq_true hneg
      go_wp2_with fail
      go_ret2
      obtain ⟨_,hbef,hI,hs,hi⟩:=SI.out
      have hE:errL I 1=1:=by
       unfold errL;rw [if_pos (Ziz hi (by rw [hI];simp only;rw [hs];exact decide_eq_true hneg))]
      rw [hE];exact ⟨.inl ⟨by decide,rfl⟩,S2.out⟩
    · have hn:decide (s<0)=false:=decide_eq_false (by omega)
      go_wp2_with fail
      go_roundg (1-(i+1))
      case measure=>omega
      case rel =>
       obtain ⟨_,hbef,hI,hs,hi⟩:=SI.out;refine ⟨i+1,by omega,by go_num,S2.out,fun j hj=>?_⟩
       by_cases hji:j=i
       · subst hji;rw [hI];simp only;rw [hs];exact decide_eq_false (by omega)
       · exact hbef j (by omega)
  · obtain rfl:i=1:=by omega
    obtain ⟨M,hM⟩:∃ M,M=wr.alloc (.cells #[.bool false,.slice none 0 0,.int .i64 0,.bool false,.slice none 0 0,.int .i64 0] 98):=⟨_,rfl⟩;have hbM:Below wr.heap.size wr M:=by rw [hM];exact Za _ _
    have hpM:RPart w.heap.size M wr.heap.size 1 0 I (fun _=>(.slice none 0 0,.slice none 0 0)):=by
     rw [hM];exact ⟨⟨_,heap_alloc_new _ _,rfl,fun j hj=>by omega⟩,HR.out.1.size,fun j hj=>by omega⟩
    have S1:=(qsd (ai HR.out.2 (ai hpM (HR.out.1.trans (hbM.mono HR.out.1.size)))));obtain ⟨gO,hgO⟩:∃ gO,gO=wr.heap.size:=⟨_,rfl⟩;clear HR hbM hpM hi hgi
    go_upto_region 9 with fail
    rw [←hM];rw [←hgO] at S1 ⊢;clear hM hgO
    go_loopg [29] 1 (fun gk iv wr=>∃ i:Nat,gk+i=1∧iv=.int .i64 (i:Nat)∧Aside (Below w.heap.size w wr∧(∀ j,j<i→((mkS (I j).n (I j).X (I j).e).isSome&&(mkS (I j).m (I j).Y (I j).f).isSome)=true)∧∃ V,RPart w.heap.size wr gO 1 i I V))
    case atStart=>exact ⟨0,by omega,rfl,S1.out.2.2,fun j hj=>by omega,_,S1.out.2.1⟩
    case round =>
     obtain ⟨i,hgi,rfl,HR⟩:=hrel;have SS:=qsd S1.out.1;clear S1
     by_cases hi:i<1
     · obtain ⟨bel,hbef,V,hP⟩:=HR.out
       have hin:=hH.out.below bel;obtain ⟨g0,g1,g2,g3,g4,g5⟩:=hin.row.facts i hi;obtain ⟨A1,A2⟩:=hin.one i hi;obtain ⟨b0,b1,b2,b3⟩:=hin.rng i hi;have hFD:=fun (u:World) (hb:Below wr.heap.size wr u)=>formD (r:=I i) (A1.below hb) (A2.below hb) ((hin.below hb).tab) b0 b1 b2 b3
       obtain ⟨n,v,X,e,m,u,Y,f,hI⟩:∃ n v X e m u Y f,I i=⟨n,v,X,e,m,u,Y,f⟩:=⟨_,_,_,_,_,_,_,_,rfl⟩;rw [hI] at g0 g1 g2 g3 g4 g5 A1 A2 hFD;simp only at g0 g1 g2 g3 g4 g5 A1 A2 hFD;obtain ⟨a1,l1,c1,xs,rfl,-,-⟩:=id A1;obtain ⟨a2,l2,c2,ys,rfl,-,-⟩:=id A2;obtain ⟨U,hU⟩:∃ U,U=wr.alloc (.cells #[.bool n,.slice a1 l1 c1,.int .i64 e,.bool m,.slice a2 l2 c2,.int .i64 f] 98):=⟨_,rfl⟩;have hbU:Below wr.heap.size wr U:=by rw [hU];exact Za _ _
       have RQ:Rq U wr.heap.size n (.slice a1 l1 c1) e m (.slice a2 l2 c2) f:=by rw [hU];exact Rq.new _ _ _ _ _ _ _
       obtain ⟨x0,x1,x2,x3,x4,x5⟩:=RQ.facts;have HC:=hid (hFD U hbU);have lo1:=Ze n X e;have lo2:=Ze m Y f;obtain ⟨o,ho⟩:∃ o,mkS n X e=o:=⟨_,rfl⟩;obtain ⟨p,hp⟩:∃ p,mkS m Y f=p:=⟨_,rfl⟩;rw [ho,hp] at HC;rw [ho] at lo1;rw [hp] at lo2;have SI:=(qsd (ai (bel.trans (hbU.mono bel.size)) (ai hbef (ai hI (ai ho (ai hp (ai hi (hP.below hbU))))))));clear hbU RQ A1 A2 hin HR hI ho hp bel hbef hP hFD b0 b1 b2 b3;have hli:(i:Int)<1:=by omega
       have hl0:(0:Int)≤(i:Int):=by omega
       go_upto_region 11 with fail
       rw [←hU];clear hU g0 g1 g2 g3 g4 g5
       go_wp2_with fail
       clear x0 x1 x2 x3 x4 x5;refine HC.out.mono ?_;rintro r u1 ⟨h1,h2,hb⟩;clear HC
       cases hok:(o.isSome&&p.isSome) with
       | false =>
         obtain rfl:=h2 hok;have S2:=qsd (SI.out.1.trans (hb.mono SI.out.1.size));clear h1 h2 hb
         go_wp2_with fail
         go_ret2
         obtain ⟨_,hbef,hI,ho,hp,hi,_⟩:=SI.out
         have hE:errL I 1=2:=by
          unfold errL;rw [Zbk (p:=fun i=>decide (sgn (I i).m (I i).Y<0)) SS.out,if_neg Bool.false_ne_true,if_pos (Ziz hi (by rw [hI];simp only;rw [ho,hp,hok];rfl))]
         rw [hE];exact ⟨.inl ⟨by decide,rfl⟩,S2.out.alloc S2.out.size _⟩
       | true =>
         obtain ⟨v1,v2,rfl,hN,hM2,-⟩:=h1 hok;obtain ⟨p1,q1,rfl,_⟩:=hN.arg (by omega)
         obtain ⟨p2,q2,rfl,_⟩:=hM2.arg (by omega)
         obtain ⟨U2,hU2⟩:∃ U,U=u1.alloc (.cells #[.bool (dN o),.slice p1 (ws (dX o)).length q1,.int .i64 (dE o),.bool (dN p),.slice p2 (ws (dX p)).length q2,.int .i64 (dE p)] 98):=⟨_,rfl⟩;have hbU:Below u1.heap.size u1 U2:=by rw [hU2];exact Za _ _
         have RQ:Rq U2 u1.heap.size (dN o) (.slice p1 (ws (dX o)).length q1) (dE o) (dN p) (.slice p2 (ws (dX p)).length q2) (dE p):=by rw [hU2];exact Rq.new _ _ _ _ _ _ _
         obtain ⟨x0,x1,x2,x3,x4,x5⟩:=RQ.facts;have hP2:=(SI.out.2.2.2.2.2.2.below hb).below hbU;have hb2:=(SI.out.1.trans (hb.mono SI.out.1.size)).trans (hbU.mono (Nat.le_trans SI.out.1.size hb.size));obtain ⟨⟨y0,r0⟩,f0⟩:=hP2.room (i*6) (by omega)
         obtain ⟨⟨y1,r1⟩,f1⟩:=hP2.room (i*6+1) (by omega)
         obtain ⟨⟨y2,r2⟩,f2⟩:=hP2.room (i*6+2) (by omega)
         obtain ⟨⟨y3,r3⟩,f3⟩:=hP2.room (i*6+3) (by omega)
         obtain ⟨⟨y4,r4⟩,f4⟩:=hP2.room (i*6+4) (by omega)
         obtain ⟨⟨y5,r5⟩,f5⟩:=hP2.room (i*6+5) (by omega)
         obtain ⟨W',hW'⟩:∃ W',W'=st6o U2 gO (i*6) (.bool (dN o)) (.slice p1 (ws (dX o)).length q1) (.int .i64 (dE o)) (.bool (dN p)) (.slice p2 (ws (dX p)).length q2) (.int .i64 (dE p)):=⟨_,rfl⟩
         have S3:Aside (Below w.heap.size w W'∧(∀ j,j<i+1→((mkS (I j).n (I j).X (I j).e).isSome&&(mkS (I j).m (I j).Y (I j).f).isSome)=true)∧∃ V,RPart w.heap.size W' gO 1 (i+1) I V):=by
          obtain ⟨_,hbef,hI,ho,hp,hi,_⟩:=SI.out;refine ⟨?_,?_,?_⟩
          · rw [hW'];exact But.below hb2 (Jq _ _ _ _ _ _ _ _ _) hb2.size hP2.own
          · intro j hj
            by_cases e:j=i
            · subst e;rw [hI];simp only;rw [ho,hp,hok]
            · exact hbef j (by omega)
          · have hsz:=SI.out.1.size
            have:=hP2.step hi (.slice p1 (ws (dX o)).length q1) (.slice p2 (ws (dX p)).length q2) (by rw [hI];simp only;rw [ho];exact (hN.below hbU).mono hsz) (by rw [hI];simp only;rw [hp];exact (hM2.below hbU).mono hsz)
            rw [hI] at this;simp only at this;rw [ho,hp,←hW'] at this;exact this
         have neq:u1.heap.size≠gO:=by have:=(SI.out.2.2.2.2.2.2.below hb).lt;omega
         clear h1 h2 hb hN hM2 hbU RQ hP2 hb2 SI
         go_upto_region 12 with fail
         rw [←hU2];clear hU2
         go_wp2_with fail
         unfold st6o at hW'
         go_roundg (1-(i+1))
         case measure=>omega
         case rel =>
          refine ⟨i+1,by omega,by go_num,?_⟩
          first | rw [←hW'] | (rw [hW'] at S3)
          exact S3
     · obtain rfl:i=1:=by omega
       obtain ⟨bel,hbef,V,hP⟩:=HR.out;have hO:=hP.out;have S2:=(qsd (ai bel (ai hbef hO)));have hi0:wr=wr:=rfl;clear HR bel hbef hP hO hi hgi
       go_upto_region 17 with fail
       go_loopg [49] 1 (fun gk iv wr=>∃ i:Nat,gk+i=1∧iv=.int .i64 (i:Nat)∧Aside (Below w.heap.size w wr∧(∀ j,j<i→decide (dX (mkS (I j).m (I j).Y (I j).f)=0)=false)∧ROut w.heap.size wr gO 1 I V))
       case atStart=>exact ⟨0,by omega,rfl,S2.out.1,fun j hj=>by omega,S2.out.2.2⟩
       case round =>
        obtain ⟨i,hgi,rfl,HR⟩:=hrel;have SS2:=qsd S2.out.2.1;clear S2
        by_cases hi:i<1
        · obtain ⟨bel,hbef,hO⟩:=HR.out
          obtain ⟨g0,g1,g2,g3,g4,g5⟩:=hO.row.facts i hi;obtain ⟨A1,A2⟩:=hO.nts i hi;have lo1:=Ze (I i).n (I i).X (I i).e;have lo2:=Ze (I i).m (I i).Y (I i).f;unfold frmI at g0 g1 g2 g3 g4 g5;simp only at g0 g1 g2 g3 g4 g5;obtain ⟨o,ho⟩:∃ o,mkS (I i).n (I i).X (I i).e=o:=⟨_,rfl⟩;obtain ⟨p,hp⟩:∃ p,mkS (I i).m (I i).Y (I i).f=p:=⟨_,rfl⟩;rw [ho] at g0 g2 A1 lo1;rw [hp] at g3 g5 A2 lo2;obtain ⟨v1,hv1⟩:∃ v1,(V i).1=v1:=⟨_,rfl⟩;obtain ⟨v2,hv2⟩:∃ v2,(V i).2=v2:=⟨_,rfl⟩;rw [hv1] at g1 A1;rw [hv2] at g4 A2;obtain ⟨p1,q1,rfl,_⟩:=A1.arg (by omega)
          obtain ⟨p2,q2,rfl,_⟩:=A2.arg (by omega)
          obtain ⟨U,hU⟩:∃ U,U=wr.alloc (.cells #[.bool (dN o),.slice p1 (ws (dX o)).length q1,.int .i64 (dE o),.bool (dN p),.slice p2 (ws (dX p)).length q2,.int .i64 (dE p)] 98):=⟨_,rfl⟩;have hbU:Below wr.heap.size wr U:=by rw [hU];exact Za _ _
          have RQ:Rq U wr.heap.size (dN o) (.slice p1 (ws (dX o)).length q1) (dE o) (dN p) (.slice p2 (ws (dX p)).length q2) (dE p):=by rw [hU];exact Rq.new _ _ _ _ _ _ _
          obtain ⟨x0,x1,x2,x3,x4,x5⟩:=RQ.facts;have HC:=hid (sgnD (n:=dN p) (e:=dE p) ((A2.below hbU).av (by omega)))
          obtain ⟨s,hs⟩:∃ s,sgn (dN p) (dX p)=s:=⟨_,rfl⟩;rw [hs] at HC;have SI:=(qsd (ai (bel.trans (hbU.mono bel.size)) (ai hbef (ai hp (ai hs (ai hi (hO.below hbU)))))));clear hbU RQ A1 A2 HR ho hp hv1 hv2 hs bel hbef hO;have hli:(i:Int)<1:=by omega
          have hl0:(0:Int)≤(i:Int):=by omega
          go_upto_region 19 with fail
          rw [←hU];clear hU g0 g1 g2 g3 g4 g5
          go_wp2_with fail
          clear x0 x1 x2 x3 x4 x5;refine HC.out.mono ?_;rintro r u1 ⟨rfl,hb⟩;have S2:=(qsd (ai (SI.out.1.trans (hb.mono SI.out.1.size)) (SI.out.2.2.2.2.2.below hb)));clear hb HC
          by_cases hz:s=0
          · have hn:(s==0)=true:=by simp [hz]
            have hsz:=SI;clear SI
            go_wp2_with fail
            go_ret2
            obtain ⟨_,hbef,hp,hs,hi,_⟩:=hsz.out
            have hE:errL I 1=21:=by
             unfold errL;rw [Zbk (p:=fun i=>decide (sgn (I i).m (I i).Y<0)) SS.out,if_neg Bool.false_ne_true,Zbk (p:=fun i=>!((mkS (I i).n (I i).X (I i).e).isSome&&(mkS (I i).m (I i).Y (I i).f).isSome)) (fun j hj=>by rw [SS2.out j hj];rfl),if_neg Bool.false_ne_true,if_pos (Ziz hi (by simp only [hp];exact decide_eq_true (Zdl.1 (hs.trans hz))))]
            rw [hE];exact ⟨.inl ⟨by decide,rfl⟩,S2.out.1⟩
          · have hn:(s==0)=false:=by simp [hz]
            go_wp2_with fail
            go_roundg (1-(i+1))
            case measure=>omega
            case rel =>
             obtain ⟨_,hbef,hp,hs,hi,_⟩:=SI.out;refine ⟨i+1,by omega,by go_num,S2.out.1,fun j hj=>?_,S2.out.2⟩
             by_cases hji:j=i
             · subst hji;rw [hp];exact decide_eq_false (fun h0=>hz (hs.symm.trans (Zdl.2 h0)))
             · exact hbef j (by omega)
        · obtain rfl:i=1:=by omega
          have S3:=HR;clear HR hi hgi
          go_wp2_with fail
          go_ret2
          have hE:errL I 1=0:=by
           unfold errL;rw [Zbk (p:=fun i=>decide (sgn (I i).m (I i).Y<0)) SS.out,if_neg Bool.false_ne_true,Zbk (p:=fun i=>!((mkS (I i).n (I i).X (I i).e).isSome&&(mkS (I i).m (I i).Y (I i).f).isSome)) (fun j hj=>by rw [SS2.out j hj];rfl),if_neg Bool.false_ne_true,Zbk (p:=fun i=>decide (dX (mkS (I i).m (I i).Y (I i).f)=0)) S3.out.2.1,if_neg Bool.false_ne_true]
          exact ⟨.inr ⟨hE,gO,V,rfl,S3.out.2.2⟩,S3.out.1⟩
theorem Zsh {I:Nat→Ri}{k:Nat}(h:errL I k=0) (i:Nat) (hi:i<k):¬ sgn (I i).m (I i).Y<0∧(mkS (I i).n (I i).X (I i).e).isSome=true∧(mkS (I i).m (I i).Y (I i).f).isSome=true∧dX (mkS (I i).m (I i).Y (I i).f)≠0:=by
 unfold errL at h
 split at h
 · omega
 · rename_i h1
   split at h
   · omega
   · rename_i h2
     split at h
     · omega
     · rename_i h3
       simp only [Bool.not_eq_true,List.any_eq_false,List.mem_range] at h1 h2 h3;have k1:=h1 i hi;have k2:=h2 i hi;have k3:=h3 i hi;simp at k1 k2 k3;exact ⟨by omega,k2.1,k2.2,k3⟩
theorem reform {n:Bool}{X:Nat}{e:Int}{o:Option (Bool×Nat×Int)}(h:mkS n X e=o) (hs:o.isSome=true):mkS (dN o) (dX o) (dE o)=o:=by
 cases o with
 | none=>cases hs
 | some d =>
   obtain ⟨n1,X1,e1⟩:=d;exact (Zo h).self
theorem Zr3 {n:Bool}{X:Nat}{e:Int}{o:Option (Bool×Nat×Int)}(h:mkS n X e=o):-1048576≤dE o∧dE o≤1048576:=by
 cases o with
 | none=>exact ⟨by decide,by decide⟩
 | some d =>
   obtain ⟨n1,X1,e1⟩:=d;have:=Zo h;exact ⟨this.down,this.up⟩
structure Rv (w:World) (r:Ri):Prop where
 num:Av w r.v r.X
 den:Av w r.u r.Y
 be:-9223372036854775808≤r.e∧r.e≤9223372036854775807
 bf:-9223372036854775808≤r.f∧r.f≤9223372036854775807
theorem Rv.below {w w':World}{r:Ri}(h:Rv w r) (hb:Below w.heap.size w w'):Rv w' r:=⟨h.num.below hb,h.den.below hb,h.be,h.bf⟩
theorem Zvb (W:World) (r:Ri) (hr:Rv W r) (hT:Tab W) (R:World) (hR:R=W.alloc (.cells #[.bool r.n,r.v,.int .i64 r.e,.bool r.m,r.u,.int .i64 r.f] 98)):RIn R W.heap.size 1 (fun _=>r):=by
 have hb:Below W.heap.size W R:=by rw [hR];exact Za _ _
 refine ⟨⟨_,by rw [hR];exact heap_alloc_new _ _,?_⟩,fun i hi=>⟨hr.num.below hb,hr.den.below hb⟩,fun i hi=>⟨hr.be.1,hr.be.2,hr.bf.1,hr.bf.2⟩,hT.belows hb⟩
 intro i hi;obtain rfl:i=0:=by omega
 simp
theorem Zd7 (w:World) (n:Bool) (v:Value) (e:Int) (m:Bool) (u:Value) (f:Int) (W:World) (hW:W=w.alloc (.cells #[.bool n,v,.int .i64 e,.bool m,u,.int .i64 f] 98)) :
 Below w.heap.size w W∧W.heap.size=w.heap.size+1∧Rq W w.heap.size n v e m u f:=by
 rw [hW];exact ⟨Za w _,by simp,Rq.new _ _ _ _ _ _ _⟩
theorem Zab {w:World}{n m:Bool}{a b:Option Addr}{la ca lb cb:Nat}{X Y:Nat}{e f:Int}(mode:Int) (hr:Rv w ⟨n,.slice a la ca,X,e,m,.slice b lb cb,Y,f⟩) (hT:Tab w)
 (o1 o2 z:Option (Bool×Nat×Int)) (ew:Int) (rw':Nat×Int) (ho1:mkS n X e=o1) (ho2:mkS m Y f=o2) (lz:(ws (dX z)).length≤8192) (hew:ew≠0→rw'.1=0∧rw'.2=ew)
 (ANS:Nat×Int) (hANS:ANS=if mode<0∨4<mode then (0,1) else if errL (fun _=>(⟨n,.slice a la ca,X,e,m,.slice b lb cb,Y,f⟩:Ri)) 1=0 then rw' else (0,errL (fun _=>(⟨n,.slice a la ca,X,e,m,.slice b lb cb,Y,f⟩:Ri)) 1))
 (HW:Hid (∀ (u:World) (p q:Value),Below w.heap.size w u→Nt w.heap.size u p (dX o1)→Nt w.heap.size u q (dX o2)→errL (fun _=>(⟨n,.slice a la ca,X,e,m,.slice b lb cb,Y,f⟩:Ri)) 1=0→Calls Tryz.prog 114 #[.agg #[.bool (dN o1),p,.int .i64 (dE o1),.bool (dN o2),q,.int .i64 (dE o2)]] u fun r w'=>(∃ v,r=.returned (.tuple #[.agg #[.bool (dN z),v,.int .i64 (dE z)],.int .i64 ew])∧Nt u.heap.size w' v (dX z))∧Below u.heap.size u w'))
 (HR:Hid (∀ (u:World) (p:Option Addr) (q:Nat),ew=0→¬ (mode<0∨4<mode)→errL (fun _=>(⟨n,.slice a la ca,X,e,m,.slice b lb cb,Y,f⟩:Ri)) 1=0→Below w.heap.size w u→Arg u p (ws (dX z)).length q (ws (dX z))→Calls Tryz.prog 70 #[.agg #[.bool (dN z),.slice p (ws (dX z)).length q,.int .i64 (dE z)],.int .i64 mode] u fun r w'=>r=.returned (.tuple #[.float .f64 rw'.1,.int .i64 rw'.2])∧Below u.heap.size u w')) :
 Calls Tryz.prog 113 #[.agg #[.bool n,.slice a la ca,.int .i64 e,.bool m,.slice b lb cb,.int .i64 f],.int .i64 mode,.func (.func 114) #[] #[],.func (.func 70) #[] #[]] w fun r w'=>r=.returned (.tuple #[.float .f64 ANS.1,.int .i64 ANS.2])∧Below w.heap.size w w':=by
 obtain ⟨W1,hW1⟩:∃ W,W=w.alloc (.cells #[.bool n,.slice a la ca,.int .i64 e,.bool m,.slice b lb cb,.int .i64 f] 98):=⟨_,rfl⟩;obtain ⟨hB,hz1,Q1⟩:=Zd7 w n _ e m _ f W1 hW1
 by_cases hm:mode<0∨4<mode
 · rw [if_pos hm] at hANS
   subst hANS;have S0:=qsd hB;clear hB hz1 Q1 HW HR hr hT
   by_cases hm0:mode<0
   · have d1:=decide_eq_true hm0
     go_enter Tryz.func113,Tryz.ntmps113
     go_upto_region 1 with fail
     rw [←hW1];clear hW1;go_wp2
     go_ret2
     exact ⟨rfl,S0.out⟩
   · have d1:=decide_eq_false hm0
     have hm4:4<mode:=by omega
     have d2:=decide_eq_true hm4;clear hm;go_enter Tryz.func113,Tryz.ntmps113
     go_upto_region 1 with fail
     rw [←hW1];clear hW1;go_wp2
     go_ret2
     exact ⟨rfl,S0.out⟩
 · rw [if_neg hm] at hANS
   obtain ⟨R,hR⟩:∃ R,R=W1.alloc (.cells #[.bool n,.slice a la ca,.int .i64 e,.bool m,.slice b lb cb,.int .i64 f] 98):=⟨_,rfl⟩;have hin:=Zvb W1 _ (hr.below hB) (hT.belows hB) R hR;have hbR:Below W1.heap.size W1 R:=by rw [hR];exact Za _ _
   have HF:=hid (Ztx R W1.heap.size _ hin);obtain ⟨I,hI⟩:∃ I:Nat→Ri,(fun _=>(⟨n,.slice a la ca,X,e,m,.slice b lb cb,Y,f⟩:Ri))=I:=⟨_,rfl⟩
   rw [hI] at HF hANS HW HR;obtain ⟨x0,x1,x2,x3,x4,x5⟩:=Q1.facts;have HAn:=qsd hANS;have S0:=(qsd (ai (hB.trans (hbR.mono hB.size)) (ai hI (ai ho1 ho2))));have d1:decide (mode<0)=false:=decide_eq_false (fun h=>hm (.inl h))
   have d2:decide (4<mode)=false:=decide_eq_false (fun h=>hm (.inr h))
   have HM:=qsd hm;obtain ⟨g12,hg12⟩:∃ g,W1.heap.size=g:=⟨_,rfl⟩;rw [hg12] at HF;clear hB hz1 Q1 hin hbR hr hT hANS hI ho1 ho2 hm;go_enter Tryz.func113,Tryz.ntmps113
   go_upto_region 1 with fail
   rw [←hW1];clear hW1
   go_wp2_with fail
   rw [←hR];clear hR hg12 x0 x1 x2 x3 x4 x5;refine HF.out.mono ?_;rintro r u1 ⟨hor,hb⟩;clear HF;obtain ⟨bel,hI,ho1,ho2⟩:=S0.out;have S1:=qsd (bel.trans (hb.mono bel.size))
   rcases hor with ⟨hne,rfl⟩|⟨h0,g',V,rfl,hO⟩
   · have HA2:=HAn.out
     rw [if_neg hne] at HA2;obtain ⟨er,her⟩:∃ er,errL I 1=er:=⟨_,rfl⟩;rw [her] at hne HA2 ⊢;have HA3:=qsd HA2;have hnb:(er==0)=false:=by simp [hne]
     clear HAn HA2 her hne bel hb hI ho1 ho2 S0 HW HR;go_wp2
     go_ret2
     rw [HA3.out];exact ⟨rfl,S1.out⟩
   · have HA2:=HAn.out
     rw [if_pos h0] at HA2;obtain ⟨q0,q1,q2,q3,q4,q5⟩:=hO.row.facts 0 (by omega)
     obtain ⟨N1,N2⟩:=hO.nts 0 (by omega)
     simp only [Nat.zero_mul,Nat.zero_add] at q0 q1 q2 q3 q4 q5;unfold frmI at q0 q1 q2 q3 q4 q5;have e0:I 0=⟨n,.slice a la ca,X,e,m,.slice b lb cb,Y,f⟩:=by rw [←hI]
     rw [e0] at N1 N2;simp only [e0] at q0 q1 q2 q3 q4 q5 N1 N2;have m1:=Ze n X e;have m2:=Ze m Y f;rw [ho1] at q0 q2 N1 m1;rw [ho2] at q3 q5 N2 m2;obtain ⟨v1,hv1⟩:∃ v1,(V 0).1=v1:=⟨_,rfl⟩;obtain ⟨v2,hv2⟩:∃ v1,(V 0).2=v1:=⟨_,rfl⟩;rw [hv1] at q1 N1;rw [hv2] at q4 N2;obtain ⟨a1,c1,rfl,_⟩:=N1.arg (by omega)
     obtain ⟨a2,c2,rfl,_⟩:=N2.arg (by omega)
     have HC:=hid (HW.out u1 _ _ (bel.trans (hb.mono bel.size)) (N1.mono (by have:=bel.size;omega)) (N2.mono (by have:=bel.size;omega)) h0)
     have S2:=(qsd (ai h0 HA2));clear HAn HA2 bel hb hI ho1 ho2 S0 hO N1 N2 HW h0 hv1 hv2 e0
     go_wp2_with fail
     clear q0 q1 q2 q3 q4 q5;refine HC.out.mono ?_;rintro r u2 ⟨⟨v,rfl,NZ⟩,hb⟩;obtain ⟨az,cz,rfl,_⟩:=NZ.arg (by omega)
     clear HC;obtain ⟨U3,hU3⟩:∃ U,U=u2.alloc (.cells #[.bool (dN z),.slice az (ws (dX z)).length cz,.int .i64 (dE z)] 62):=⟨_,rfl⟩;have hbA:Below u2.heap.size u2 U3:=by rw [hU3];exact Za _ _
     have bb:=S1.out.trans (hb.mono S1.out.size);have bc:=bb.trans (hbA.mono bb.size)
     by_cases hew0:ew=0
     · have TZ:Tk U3 u2.heap.size 62 (.bool (dN z)) (.slice az (ws (dX z)).length cz) (.int .i64 (dE z)):=by rw [hU3];exact Tk.new _ _ _ _ _
       have HD:=hid (HR.out U3 az cz hew0 HM.out S2.out.1 bc ((NZ.below hbA).arg' (by omega)).2)
       obtain ⟨x0,x1,x2,_,_,_⟩:=TZ.facts;have S3:=(qsd (ai bc S2.out.2));clear bb bc hb hbA NZ TZ S1 S2 HR HM hew;subst hew0
       go_upto_region 7 with fail
       rw [←hU3];clear hU3
       go_wp2_with fail
       refine HD.out.mono ?_;rintro r u3 ⟨rfl,hb⟩;have S4:=qsd (S3.out.1.trans (hb.mono S3.out.1.size));clear hb HD x0 x1 x2;go_wp2
       go_ret2
       rw [S3.out.2];exact ⟨rfl,S4.out⟩
     · have hnb:(ew==0)=false:=by simp [hew0]
       have hA:ANS=(0,ew):=by
        rw [S2.out.2];have:=hew hew0;rw [←this.1,←this.2]
       have S3:=(qsd (ai bc hA));clear bb bc hb hbA NZ S1 S2 HR HM hew hA hew0
       go_upto_region 7 with fail
       rw [←hU3];clear hU3;go_wp2
       go_ret2
       rw [S3.out.2];exact ⟨rfl,S3.out.1⟩
theorem Zou {w:World}{a b:Option Addr}{la ca lb cb:Nat}(n m:Bool) (e f mode:Int) (ANS:Nat×Int)
 (HR:Hid (∀ u:World,Below w.heap.size w u→Calls Tryz.prog 113 #[.agg #[.bool n,.slice a la ca,.int .i64 e,.bool m,.slice b lb cb,.int .i64 f],.int .i64 mode,.func (.func 114) #[] #[],.func (.func 70) #[] #[]] u fun r w'=>r=.returned (.tuple #[.float .f64 ANS.1,.int .i64 ANS.2])∧Below u.heap.size u w')) :
 Calls Tryz.prog 77 #[.agg #[.bool n,.slice a la ca,.int .i64 e,.bool m,.slice b lb cb,.int .i64 f],.int .i64 mode] w fun r w'=>r=.returned (.tuple #[.float .f64 ANS.1,.int .i64 ANS.2])∧Below w.heap.size w w':=by
 obtain ⟨W1,hW1⟩:∃ W,W=w.alloc (.cells #[.bool n,.slice a la ca,.int .i64 e,.bool m,.slice b lb cb,.int .i64 f] 98):=⟨_,rfl⟩;obtain ⟨hB,hz1,Q1⟩:=Zd7 w n _ e m _ f W1 hW1;have HC:=hid (HR.out W1 hB);obtain ⟨x0,x1,x2,x3,x4,x5⟩:=Q1.facts;have S0:=qsd hB;clear hB hz1 Q1 HR;go_enter Tryz.func77,Tryz.ntmps77
 go_upto_region 1 with fail
 rw [←hW1];clear hW1
 go_wp2_with fail
 refine HC.out.mono ?_;rintro r u1 ⟨rfl,hb⟩;have S1:=qsd (S0.out.trans (hb.mono S0.out.size));clear hb HC x0 x1 x2 x3 x4 x5;go_wp2
 go_ret2
 exact ⟨rfl,S1.out⟩
theorem Zd8 (n:Bool) (M:Nat) (E:Int) (hM:M≠0) (hb:bl M≤1001) (h0:-4096≤E) (h1:E≤4096):mkS n M E=some (n,M/2^lo M,E+lo M)∧(M/2^lo M)%2=1∧M=M/2^lo M*2^lo M∧lo M≤1001:=by
 obtain ⟨q,h2,h3,h4⟩:=Qh M hM;refine ⟨?_,by omega,by rw [h3,Nat.mul_comm];exact h2,by omega⟩
 unfold mkS;rw [if_neg hM,if_neg (by omega)]
def quoZ (n:Bool) (X:Nat) (e:Int) (Y:Nat) (f:Int):Option (Bool×Nat×Int):=mkS n (2*whoS X Y 64+(if atS X Y 64 then 0 else 1)) (clampE (e-f-byS X Y 64-cutS Y 64))
theorem J6 (x:Int):-4096≤clampE x∧clampE x≤4096:=by unfold clampE;omega
theorem Zpb {W d k:Nat}(h:W<2^k) (hd:d≤1):bl (2*W+d)≤k+1:=Z2 (by rw [Nat.pow_succ];omega)
theorem Zaj:Grid vK 9218868437227405312:=by
 refine ⟨by decide,?_,fun {k l} h=>Zr7.2 h,fun k hk=>?_⟩
 · have:=Qq 0 0 (.inl rfl) (by omega)
   simpa using this
 · by_cases h:k<4503599627370496
   · refine ⟨k,0,?_,?_,by omega,by omega⟩
     · have:=Qq 0 k (.inl rfl) (by omega);rw [Nat.zero_mul,Nat.zero_add] at this;exact this
     · have:=Qq 0 (k+1) (.inl rfl) (by omega);rw [Nat.zero_mul,Nat.zero_add] at this;exact this
   · obtain ⟨q,hq⟩:∃ q,k/4503599627370496=q:=⟨_,rfl⟩
     obtain ⟨g,hg⟩:∃ g,k%4503599627370496=g:=⟨_,rfl⟩;refine ⟨4503599627370496+g,q-1,?_,?_,by omega,by omega⟩
     · have:=Qq (q-1) (4503599627370496+g) (.inr (by omega)) (by omega)
       rw [show (q-1)*4503599627370496+(4503599627370496+g)=k by omega] at this
       exact this
     · have:=Qq (q-1) (4503599627370496+g+1) (.inr (by omega)) (by omega)
       rw [show (q-1)*4503599627370496+(4503599627370496+g+1)=k+1 by omega] at this
       exact this
theorem Zr4 {K:Nat}{t:Bool}{m:Int}{V S':Nat}(h:Lies K t m V S'):LiesG vK 9218868437227405312 1 K t m V S':=by
 refine ⟨h.fin,h.pos,fun ht=>?_,fun ht=>?_,fun ht hl=>?_,fun ht=>?_⟩
 · rw [Nat.pow_one];exact h.one ht
 · rw [Nat.pow_one];exact h.low ht
 · rw [Nat.pow_one] at hl
   have:=h.mids ht hl;rw [Nat.pow_one,Nat.pow_one,Nat.add_mul];exact this
 · rw [Nat.pow_one]
   rcases h.high ht with q|⟨q,r⟩
   · exact .inl q
   · exact .inr ⟨by omega,r⟩
theorem Zr5 (n:Bool) (M:Nat) (E:Int) (hM:M≠0) (hb:bl M≤1001) (h0:-4096≤E) (h1:E≤4096) :
 ∃ K t m,LiesG vK 9218868437227405312 1 K t m (M*2^(E+(1074:Nat)).toNat) (2^(-(E+(1074:Nat))).toNat)∧∀ mode:Int,0≤mode→mode≤4→rndS (mkS n M E) mode=(rK mode n K t m+(if n then 9223372036854775808 else 0),0):=by
 obtain ⟨e1,e2,e3,e4⟩:=Zd8 n M E hM hb h0 h1;obtain ⟨M',hM'⟩:∃ M',M/2^lo M=M':=⟨_,rfl⟩;obtain ⟨l,hl⟩:∃ l,lo M=l:=⟨_,rfl⟩;rw [hM',hl] at e1 e3;rw [hM'] at e2;rw [hl] at e4;have hL:=lies M' (E+l) e2 (by omega) (by omega) (min E (-1074)) (by omega) (by omega)
 refine ⟨flK M' (E+l),(plc 53 (-1074) 1024 M' (E+l)).2.2.1,(plc 53 (-1074) 1024 M' (E+l)).2.2.2,?_,?_⟩
 · have:=Zr4 hL
   rw [e3]
   have w1:M'*2^(E+(l:Int)-min E (-1074)).toNat=M'*2^l*2^(E+(1074:Nat)).toNat:=by
    rw [Nat.mul_assoc,←Nat.pow_add];congr 2;omega
   have w2:(-1074-min E (-1074)).toNat=(-(E+(1074:Nat))).toNat:=by omega
   rw [w1,w2] at this;exact this
 · intro mode hm0 hm4
   rw [e1];unfold rndS;rw [if_neg (by omega)]
   simp only;rw [if_neg (by omega),Zps]
theorem Zsi (n:Bool) (X:Nat) (e:Int) (Y:Nat) (f:Int) (hX:X%2=1) (hY:Y≠0) (bX:bl X≤262144) (bY:bl Y≤262144) :
 ∃ K t m,LiesG vK 9218868437227405312 1 K t m (Yn X e f 1074 1) (Yo Y e f 1074 1)∧∀ mode:Int,0≤mode→mode≤4→rndS (quoZ n X e Y f) mode=(rK mode n K t m+(if n then 9223372036854775808 else 0),0):=by
 have D:=Yh X Y 64 (.inr hX) hY (by omega) (by omega) bX bY
 have hX0:X≠0:=by omega
 have hW1:=D.least hX0;have hW2:=D.most;have c63:(2:Nat)^(64-1)=9223372036854775808:=by decide
 have sp:=Znc X Y e f 1074 hY D;have hd:(if atS X Y 64 then 0 else 1)≤1:=by split <;> omega
 obtain ⟨K,t,m,hL,hR⟩:=Zr5 n (2*whoS X Y 64+(if atS X Y 64 then 0 else 1)) (clampE (e-f-byS X Y 64-cutS Y 64)) (by omega) (by have:=Zpb hW2 hd;omega) (J6 _).1 (J6 _).2
 refine ⟨K,t,m,hL.of_alike Zaj (by omega) sp.pos ?_,hR⟩
 exact Zfi 1 (whoS X Y 64) _ _ _ 1074 _ (by omega) (by omega) (Nat.lt_trans hW2 (by decide)) hd (by omega) (by omega) sp
theorem Zd9 (n:Bool) (X:Nat) (e:Int) (Y:Nat) (f:Int) (hX:X=0∨X%2=1) (hY:Y≠0) (bX:bl X≤262144) (bY:bl Y≤262144):(quoZ n X e Y f).isSome=true:=by
 have D:=Yh X Y 64 hX hY (by omega) (by omega) bX bY
 have hW2:=D.most;have hd:(if atS X Y 64 then 0 else 1)≤1:=by split <;> omega
 have hb:=Zpb hW2 hd;unfold quoZ
 by_cases hM:2*whoS X Y 64+(if atS X Y 64 then 0 else 1)=0
 · rw [hM,Z4];rfl
 · rw [(Zd8 n _ _ hM (by omega) (J6 _).1 (J6 _).2).1];rfl
theorem Zis (Y size:Nat) (hY:Y≠0) (hs0:1≤size) (hs:size≤1000) (bY:bl Y≤262144):whoS 0 Y size=0∧atS 0 Y size=true:=by
 have D:=Yh 0 Y size (.inl rfl) hY hs0 hs (by rw [Zu];omega) bY
 have hby:0≤byS 0 Y size:=by unfold byS;rw [Zu];omega
 have hlev:levS 0 Y size=0:=by unfold levS;split <;> simp
 have h1:Y5 0 Y size=0:=by unfold Y5;rw [hlev,Nat.zero_div]
 have h2:lefS 0 Y size=0:=by unfold lefS;rw [hlev,Nat.zero_mod]
 have h3:hasS 0 Y size=0:=by unfold hasS;rw [h2,Nat.zero_mul]
 have h4:takS 0 Y size=0:=by unfold takS;rw [h1,Nat.zero_mul]
 refine ⟨?_,?_⟩
 · unfold whoS;rw [h3,h4,if_neg (by omega),h1]
 · unfold atS;rw [h3,h4];simp [hby]
theorem Zbw (n:Bool) (e:Int) (Y:Nat) (f:Int) (hY:Y≠0) (bY:bl Y≤262144):quoZ n 0 e Y f=some (false,0,0):=by
 obtain ⟨h1,h2⟩:=Zis Y 64 hY (by omega) (by omega) bY
 unfold quoZ;rw [h1,h2];exact Z4 _ _
def oneI (r:Ri):Nat→Ri:=fun _=>r
noncomputable def quoR (rnd:Option (Bool×Nat×Int)→Int→Nat×Int) (r:Ri) (mode:Int):Nat×Int :=
 if mode<0∨4<mode then (0,1) else if errL (oneI r) 1=0 then rnd (quoZ (dN (mkS r.n r.X r.e)) (dX (mkS r.n r.X r.e)) (dE (mkS r.n r.X r.e)) (dX (mkS r.m r.Y r.f)) (dE (mkS r.m r.Y r.f))) mode else (0,errL (oneI r) 1)
theorem Zbl {n:Bool}{X:Nat}{e:Int}(h:(mkS n X e).isSome=true):Frm (dN (mkS n X e)) (dX (mkS n X e)) (dE (mkS n X e)):=by
 cases ho:mkS n X e with
 | none=>rw [ho] at h;cases h
 | some d =>
   obtain ⟨n1,X1,e1⟩:=d;exact Zo ho
theorem Frm.par {n:Bool}{X:Nat}{e:Int}(h:Frm n X e):X=0∨X%2=1:=by rcases h.odd with q | q;exact .inr q;exact .inl q.1
theorem Zit (n:Bool) (X:Nat) (e:Int) (Y:Nat) (f:Int) (hs:(quoZ n X e Y f).isSome=true):mkS (dN (quoZ n X e Y f)) (dX (quoZ n X e Y f)) (dE (quoZ n X e Y f))=quoZ n X e Y f:=reform (o:=quoZ n X e Y f) rfl hs
theorem Zty {w:World}{n m:Bool}{a b:Option Addr}{la ca lb cb:Nat}{X Y:Nat}{e f:Int}(mode:Int) (hr:Rv w ⟨n,.slice a la ca,X,e,m,.slice b lb cb,Y,f⟩) (hT:Tab w) :
 Calls Tryz.prog 77 #[.agg #[.bool n,.slice a la ca,.int .i64 e,.bool m,.slice b lb cb,.int .i64 f],.int .i64 mode] w fun r w' =>
  r=.returned (.tuple #[.float .f64 (quoR rndS ⟨n,.slice a la ca,X,e,m,.slice b lb cb,Y,f⟩ mode).1,.int .i64 (quoR rndS ⟨n,.slice a la ca,X,e,m,.slice b lb cb,Y,f⟩ mode).2])∧Below w.heap.size w w':=by
 refine Zou n m e f mode (quoR rndS ⟨n,.slice a la ca,X,e,m,.slice b lb cb,Y,f⟩ mode) ?_;intro u hu;have hrT:=hr.below hu;have hTu:=hT.belows hu;refine Zab mode hrT hTu (mkS n X e) (mkS m Y f) (quoZ (dN (mkS n X e)) (dX (mkS n X e)) (dE (mkS n X e)) (dX (mkS m Y f)) (dE (mkS m Y f))) 0 (rndS (quoZ (dN (mkS n X e)) (dX (mkS n X e)) (dE (mkS n X e)) (dX (mkS m Y f)) (dE (mkS m Y f))) mode) rfl rfl (Ze _ _ _) (fun h=>absurd rfl h) _ rfl ?_ ?_
 · intro v p q hv N1 N2 h0
   obtain ⟨k1,k2,k3,k4⟩:=Zsh h0 0 (by omega)
   simp only at k1 k2 k3 k4;have F1:=Zbl k2;have F2:=Zbl k3;obtain ⟨a1,c1,rfl,A1⟩:=N1.arg (by have:=Z0 F1;omega)
   obtain ⟨a2,c2,rfl,A2⟩:=N2.arg (by have:=Z0 F2;omega)
   have hq:=Zer (dN (mkS n X e)) (dN (mkS m Y f)) (dX (mkS n X e)) (dX (mkS m Y f)) (dE (mkS n X e)) (dE (mkS m Y f)) A1 A2 (hTu.belows hv) F1.par k4 F1.down F1.up F2.down F2.up F1.size F2.size;have hs:=Zd9 (dN (mkS n X e)) (dX (mkS n X e)) (dE (mkS n X e)) (dX (mkS m Y f)) (dE (mkS m Y f)) F1.par k4 F1.size F2.size;have he:erS (quoZ (dN (mkS n X e)) (dX (mkS n X e)) (dE (mkS n X e)) (dX (mkS m Y f)) (dE (mkS m Y f)))=0:=by unfold erS;rw [hs];rfl
   unfold DAns at hq;rw [show mkS (dN (mkS n X e)) (2*whoS (dX (mkS n X e)) (dX (mkS m Y f)) 64+(if atS (dX (mkS n X e)) (dX (mkS m Y f)) 64 then 0 else 1)) (clampE (dE (mkS n X e)-dE (mkS m Y f)-byS (dX (mkS n X e)) (dX (mkS m Y f)) 64-cutS (dX (mkS m Y f)) 64))=quoZ (dN (mkS n X e)) (dX (mkS n X e)) (dE (mkS n X e)) (dX (mkS m Y f)) (dE (mkS m Y f)) from rfl,he] at hq
   exact hq
 · intro v p q _ hm h0 hv hA
   obtain ⟨k1,k2,k3,k4⟩:=Zsh h0 0 (by omega)
   simp only at k1 k2 k3 k4;have F1:=Zbl k2;have F2:=Zbl k3;have hs:=Zd9 (dN (mkS n X e)) (dX (mkS n X e)) (dE (mkS n X e)) (dX (mkS m Y f)) (dE (mkS m Y f)) F1.par k4 F1.size F2.size;have rg:=Zr3 (o:=quoZ (dN (mkS n X e)) (dX (mkS n X e)) (dE (mkS n X e)) (dX (mkS m Y f)) (dE (mkS m Y f))) rfl;have hR:=Zkp hA (hTu.belows hv) (dN (quoZ (dN (mkS n X e)) (dX (mkS n X e)) (dE (mkS n X e)) (dX (mkS m Y f)) (dE (mkS m Y f)))) (dE (quoZ (dN (mkS n X e)) (dX (mkS n X e)) (dE (mkS n X e)) (dX (mkS m Y f)) (dE (mkS m Y f)))) mode (by omega) (by omega)
   rw [Zc,Zit _ _ _ _ _ hs] at hR;exact hR
def negO (o:Option (Bool×Nat×Int)):Option (Bool×Nat×Int):=match o with
 | none=>none
 | some (n,X,e)=>mkS (!n) X e
theorem Zov (n:Bool) (X:Nat) (e:Int):negO (mkS n X e)=mkS (!n) X e:=by
 by_cases h0:X=0
 · subst h0;rw [Z4,Z4];rfl
 · cases ho:mkS n X e with
   | none =>
     unfold mkS at ho ⊢;rw [if_neg h0] at ho ⊢
     split at ho
     · rename_i h;rw [if_pos h];rfl
     · cases ho
   | some d =>
     unfold mkS at ho ⊢;rw [if_neg h0] at ho ⊢
     split at ho
     · cases ho
     · rename_i h
       cases ho
       rw [if_neg h]
       show mkS (!n) (X/2^lo X) (e+lo X)=_
       have hF:Frm n (X/2^lo X) (e+lo X):=Zo (n:=n) (X:=X) (e:=e) (by unfold mkS;rw [if_neg h0,if_neg h])
       have hF2:Frm (!n) (X/2^lo X) (e+lo X):=⟨by
        rcases hF.odd with q|⟨q,_,_⟩
        · exact .inl q
        · exfalso
          obtain ⟨k,h2,h3,h4⟩:=Qh X h0
          omega,hF.size,hF.up,hF.down⟩
       exact hF2.self
theorem Zga {o:Option (Bool×Nat×Int)}(hs:o.isSome=true):mkS (!(dN o)) (dX o) (dE o)=negO o:=by
 cases o with
 | none=>cases hs
 | some d=>rfl
def errN (X:Nat) (n:Bool) (e:Int) (Y:Nat) (m:Bool) (f:Int):Int:=if sgn m Y<0 then 1 else if (mkS n X e).isSome&&(mkS m Y f).isSome then (if dX (mkS m Y f)=0 then 21 else 0) else 2
theorem Zc6 (r:Ri):errL (oneI r) 1=errN r.X r.n r.e r.Y r.m r.f:=by
 unfold errL errN oneI;simp only [show List.range 1=[0] from rfl,List.any_cons,List.any_nil,Bool.or_false,decide_eq_true_eq]
 cases (mkS r.n r.X r.e).isSome <;> cases (mkS r.m r.Y r.f).isSome <;> simp
end
end Go.Proofs.YtblkpkgebigojaaGreatDoor
