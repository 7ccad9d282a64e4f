import Derived.Test.YthfkleadcnkglaaGreatDoorX6x
import Derived.Test.YthfkleadcnkglaaGreatDoorP2x
import Derived.Deep.RegionHeld3
import Derived.Deep.CutRange
import Derived.Deep.Cut
import Derived.Test.YthfkleadcnkglaaGreatDoorD30x
set_option linter.unusedVariables false
set_option linter.unusedSimpArgs false
set_option maxHeartbeats 16000000
set_option maxRecDepth 20000
namespace Go.Proofs.YthfkleadcnkglaaGreatDoor
section
open Go.RowKit
theorem notLG11 {X:Nat}(h:bl X≤262144):¬ LG X:=fun k=>by have:=(LG_bl X).1 k;omega
theorem mulS_ok11 {X Y V:Nat}(h1:¬ LG X) (h2:¬ LG Y) (h3:¬ LG V) (e:X*Y=V):mulS X Y=(V,0):=by subst e;unfold mulS;rw [if_neg (by simp [h1,h2]),if_neg h3]
theorem len_bl8 {X:Nat}(h:bl X≤262144):(ws X).length≤8192:=by have:=notLG11 h;unfold LG at this;omega
theorem bl_lt_pow {X k:Nat}(h:X<2^k):bl X≤k:=by
 by_cases h0:X=0
 · subst h0;rw [bl_zero];omega
 · have:=(Nat.pow_lt_pow_iff_right (a:=2) (by decide)).1 (Nat.lt_of_le_of_lt (bl_ge X h0) h)
   have:=bl_pos X h0;omega
theorem bl_le_of {X Y:Nat}(h:X≤Y) (k:bl Y≤262144):bl X≤262144:=by
 have:=bl_lt_pow (Nat.lt_of_le_of_lt h (bl_lt Y));omega
theorem cmpI_lt0 (x y:Nat):decide (cmpI x y<0)=decide (x<y):=by
 unfold cmpI
 by_cases h:x<y
 · simp [h]
 · by_cases h2:y<x <;> simp [h,h2]
theorem cmpI_eq0 (x y:Nat):decide (cmpI x y=0)=decide (x=y):=by
 unfold cmpI
 by_cases h:x<y
 · have:x≠y:=by omega
   simp [h,this]
 · by_cases h2:y<x
   · have:x≠y:=by omega
     simp [h,h2,this]
   · have:x=y:=by omega
     simp [this]
theorem divided11 {w:World}{a b:Option Addr}{ca cb:Nat}(n m:Bool) (X Y:Nat) (e f:Int) (size:Nat)
 (AX:Arg w a (ws X).length ca (ws X)) (AY:Arg w b (ws Y).length cb (ws Y)) (hX:X=0∨X%2=1) (hY:Y≠0)
 (he0:-1048576≤e) (he1:e≤1048576) (hf0:-1048576≤f) (hf1:f≤1048576) (hs0:1≤size) (hs:size≤1000) (bX:bl X≤262144) (bY:bl Y≤262144) :
 Calls Tryz.prog 178 #[.agg #[.bool n,.slice a (ws X).length ca,.int .i64 e,.bool m,.slice b (ws Y).length cb,.int .i64 f],.int .i64 (size:Nat)] w fun r w'=>(∃ v,r=.returned (.agg #[v,.int .i64 (e-f-byS X Y size-cutS Y size),.bool (atS X Y size)])∧Nt w.heap.size w' v (whoS X Y size))∧Below w.heap.size w w':=by
 have D:=divS_facts X Y size hX hY hs0 hs bX bY;have hYp:=bl_pos Y hY;have cutb:cutS Y size≤1000∧cutS Y size<bl Y:=by unfold cutS;omega
 have bH:bl (higS Y size)≤262144:=by have:=D.blh;omega
 have hHc:bl (higS Y size)+size≤262144∨cutS Y size=0:=by have:=D.blh;unfold cutS at *;omega
 have hbyb:-262144≤byS X Y size∧byS X Y size≤264000:=by unfold byS;omega
 have bLev:bl (levS X Y size)≤262144:=by
  have:=bl_lt_pow D.lev;have h2:bl (higS Y size)+size≤262144:=by have:=D.blh;unfold cutS at this;omega
  omega
 have bW0:bl (who0 X Y size)≤262144:=by have:=bl_lt_pow D.w0;omega
 have bLf:bl (lefS X Y size)≤262144:=bl_le_of (Nat.le_of_lt D.lef) bH;have e1:shiftS Y (-((cutS Y size:Nat):Int))=(higS Y size,0):=shiftS_dn (notLG11 bY) rfl
 have e2:shiftS X (byS X Y size)=(levS X Y size,0):=by
  by_cases hb:byS X Y size<0
  · have:=shiftS_dn (X:=X) (k:=(-byS X Y size).toNat) (V:=levS X Y size) (notLG11 bX) (by unfold levS;rw [if_pos hb])
    rw [show -(((-byS X Y size).toNat:Nat):Int)=byS X Y size by omega] at this
    exact this
  · have:=shiftS_up (X:=X) (k:=(byS X Y size).toNat) (V:=levS X Y size) (notLG11 bX) (by
     by_cases h0:X=0
     · exact .inl h0
     · right
       have h2:bl (higS Y size)+size≤262144:=by have:=D.blh;unfold cutS at this;omega
       unfold byS at *;omega) (by unfold levS;rw [if_neg hb])
    rw [show (((byS X Y size).toNat:Nat):Int)=byS X Y size by omega] at this
    exact this
 have e3:divS (levS X Y size) (higS Y size)=(who0 X Y size,lefS X Y size,0):=divS_ok (notLG11 bLev) (notLG11 bH) D.hig rfl rfl
 -- what cmpLow is asked
 have hYHb:higS Y size*2^cutS Y size≤Y:=D.low';have bBk:bl (higS Y size*2^cutS Y size)≤262144:=bl_le_of hYHb bY;have bLo:bl (lowS Y size)≤262144:=bl_le_of (Nat.sub_le _ _) bY
 have bTk:bl (takS X Y size)≤262144:=by
  have h1:takS X Y size<2^(size+1+cutS Y size):=by
   unfold takS;rw [Nat.pow_add];exact Nat.mul_lt_mul'' D.w0 D.lowlt
  have:=bl_lt_pow h1;omega
 have bHs:bl (hasS X Y size)≤262144:=by
  refine bl_le_of (Y:=Y) (Nat.le_trans ?_ hYHb) bY;exact Nat.mul_le_mul_right _ (Nat.le_of_lt D.lef)
 have c1:shiftS (higS Y size) ((cutS Y size:Nat):Int)=(higS Y size*2^cutS Y size,0):=shiftS_up (notLG11 bH) (.inr (by have:=D.blh;omega)) rfl
 have c2:subS Y (higS Y size*2^cutS Y size)=(lowS Y size,0):=subS_ok (notLG11 bY) (notLG11 bBk) (by unfold lowS;omega)
 have c3:mulS (who0 X Y size) (lowS Y size)=(takS X Y size,0):=mulS_ok11 (notLG11 bW0) (notLG11 bLo) (notLG11 bTk) rfl
 have c4:shiftS (lefS X Y size) ((cutS Y size:Nat):Int)=(hasS X Y size,0):=shiftS_up (notLG11 bLf) (by
  by_cases h0:lefS X Y size=0
  · exact .inl h0
  · right
    have hlt:lefS X Y size≤higS Y size:=Nat.le_of_lt D.lef;have:=bl_lt_pow (Nat.lt_of_le_of_lt hlt (bl_lt (higS Y size)));have:=D.blh
    omega) rfl
 have HC:Hid (∀ (u:World) (p q r s:Option Addr) (cp cq cr cs:Nat),Arg u p (ws (who0 X Y size)).length cp (ws (who0 X Y size))→Arg u q (ws (lefS X Y size)).length cq (ws (lefS X Y size))→Arg u r (ws Y).length cr (ws Y)→Arg u s (ws (higS Y size)).length cs (ws (higS Y size))→Calls Tryz.prog 205 #[.slice p (ws (who0 X Y size)).length cp,.slice q (ws (lefS X Y size)).length cq,.slice r (ws Y).length cr,.slice s (ws (higS Y size)).length cs,.int .i64 ((cutS Y size:Nat):Int)] u fun r w'=>r=.returned (.int .i64 (cmpI (hasS X Y size) (takS X Y size)))∧Below u.heap.size u w') :=
  fun u p q r s cp cq cr cs A1 A2 A3 A4=>cmpLow_any _ _ _ _ (cutS Y size) _ _ _ _ _ A1 A2 A3 A4 (by omega) c1 c2 c3 c4 rfl (len_bl8 bBk) (len_bl8 bLo) (len_bl8 bTk) (len_bl8 bHs)
 have htt:(decide (cmpI (hasS X Y size) (takS X Y size)=0)&&decide (0≤byS X Y size))=atS X Y size:=by rw [cmpI_eq0];rfl
 have hcut:max ((bl Y:Int)+(size:Int)-262144) 0=((cutS Y size:Nat):Int):=by unfold cutS;omega
 by_cases hlt:hasS X Y size<takS X Y size
 · have hz:decide (cmpI (hasS X Y size) (takS X Y size)<0)=true:=by rw [cmpI_lt0];exact decide_eq_true hlt
   have e4:subS (who0 X Y size) 1=(whoS X Y size,0):=by
    refine subS_ok (notLG11 bW0) (notLG11 (by decide)) ?_
    have:=D.less hlt;unfold whoS;rw [if_pos hlt];omega
   exact divided_neg n m X Y e f size (bl X) (bl Y) (bl (higS Y size)) (cutS Y size) (higS Y size) (levS X Y size) (who0 X Y size) (lefS X Y size) (whoS X Y size) _ (byS X Y size) _ _ _ _ (atS X Y size) AX AY he0 he1 hf0 hf1 hs rfl rfl rfl bX bY bH rfl hcut (by omega) e1 rfl e2 e3 HC hz e4 rfl rfl rfl htt (len_bl8 bH) (len_bl8 bLev) (len_bl8 bW0) (len_bl8 bLf) (len_bl8 (bl_le_of (Y:=who0 X Y size) (by unfold whoS;rw [if_pos hlt];omega) bW0))
 · have hz:decide (cmpI (hasS X Y size) (takS X Y size)<0)=false:=by rw [cmpI_lt0];exact decide_eq_false hlt
   have eW:whoS X Y size=who0 X Y size:=by unfold whoS;rw [if_neg hlt]
   rw [eW];exact divided_pos n m X Y e f size (bl X) (bl Y) (bl (higS Y size)) (cutS Y size) (higS Y size) (levS X Y size) (who0 X Y size) (lefS X Y size) 0 _ (byS X Y size) _ _ _ _ (atS X Y size) AX AY he0 he1 hf0 hf1 hs rfl rfl rfl bX bY bH rfl hcut (by omega) e1 rfl e2 e3 HC hz rfl rfl rfl htt (len_bl8 bH) (len_bl8 bLev) (len_bl8 bW0) (len_bl8 bLf)
end
section
open Go.RowKit
theorem inside_res (W:World) (g:Nat) (n:Bool) (v:Value) (e k:Int) (tmps:Array Value) (ht:tmps[4]?.getD undef=.pointer (some ⟨g,0,none⟩)) (hk:tmps[5]?.getD undef=.int .i64 k) (D:Tk W g 47 (.bool n) v (.int .i64 e)) :
 (results Tryz.f181 tmps).run Tryz.prog W=.ok (.tuple #[.agg #[.bool n,v,.int .i64 e],.int .i64 k]) W:=by
 obtain ⟨x0,x1,x2,_,_,_⟩:=D.facts;simp [results,Tryz.results181,ht,hk,go_sem,x0,x1,x2]
theorem ins_begin (w:World) (v:Value) (x:Int) (t:Bool) (W:World) (hW:W=(w.alloc (.cells #[v,.int .i64 x,.bool t] 195)).alloc (.cells #[.bool false,.slice none 0 0,.int .i64 0] 47)) :
 Below w.heap.size w W∧W.heap.size=w.heap.size+2∧Tk W w.heap.size 195 v (.int .i64 x) (.bool t)∧Tk W (w.heap.size+1) 47 (.bool false) (.slice none 0 0) (.int .i64 0):=by
 rw [hW];refine ⟨(below_alloc w _).alloc (by simp) _,by simp,(Tk.new _ _ _ _ _).alloc _,?_⟩
 have:=Tk.new (w.alloc (.cells #[v,.int .i64 x,.bool t] 195)) 47 (.bool false) (.slice none 0 0) (.int .i64 0);simpa using this
theorem inside_yes {w:World}{a:Option Addr}{ca:Nat}(n:Bool) (W M2 M3:Nat) (x y E:Int) (dn:Bool) (V:Nat) (de er:Int) (AW:Arg w a (ws W).length ca (ws W)) (hx0:-10000000≤x) (hx1:x≤10000000)
 (e1:shiftS W 1=(M2,0)) (hy:x-1=y) (hE:min (max y (-4096)) 4096=E) (l2:(ws M2).length≤8192) (lV:(ws V).length≤8192)
 (HM:Hid (∀ (u:World) (p:Option Addr) (q:Nat),Below w.heap.size w u→Arg u p (ws M2).length q (ws M2)→Calls Tryz.prog 108 #[.bool n,.slice p (ws M2).length q,.int .i64 E] u fun r w'=>(∃ v,r=.returned (.tuple #[.agg #[.bool dn,v,.int .i64 de],.int .i64 er])∧Nt u.heap.size w' v V)∧Below u.heap.size u w')) :
 Calls Tryz.prog 181 #[.bool n,.agg #[.slice a (ws W).length ca,.int .i64 x,.bool true]] w fun r w'=>(∃ v,r=.returned (.tuple #[.agg #[.bool dn,v,.int .i64 de],.int .i64 er])∧Nt w.heap.size w' v V)∧Below w.heap.size w w':=by
 obtain ⟨W1,hW1⟩:∃ U,U=(w.alloc (.cells #[.slice a (ws W).length ca,.int .i64 x,.bool true] 195)).alloc (.cells #[.bool false,.slice none 0 0,.int .i64 0] 47):=⟨_,rfl⟩;obtain ⟨hB,hz1,SK,DK⟩:=ins_begin w _ x true W1 hW1;have e1':shiftS (val (ws W)) 1=(M2,0):=by rw [val_ws];exact e1
 have E1:=qsd e1';have hs2:w.heap.size+2≤W1.heap.size:=by omega
 have l1s:(ws 1).length≤8192:=by rw [ws_one];simp
 have hbel:=hB;have S0:=(qsd (ai hbel (ai (AW.below hB) (ai SK DK))));clear hbel;clear e1 e1' AW hB SK DK hz1;go_enter Tryz.func181,Tryz.ntmps181;obtain ⟨x0,x1,x2,_,_,_⟩:=S0.out.2.2.1.facts;obtain ⟨bel,AW,SK,DK⟩:=S0.out;have HC:=hid (Shift_arg 1 AW E1.out (by omega) (by omega))
 clear bel AW SK DK
 go_upto_region 1 with fail
 rw [←hW1];clear hW1
 go_wp2_with fail
 clear x0 x1 x2;refine HC.out.mono ?_;rintro r u1 ⟨v,rfl,hN,hb⟩;obtain ⟨a1,c1,rfl,_⟩:=hN.arg (by omega)
 clear HC;obtain ⟨bel,AW,SK,DK⟩:=S0.out;have hbn:=bel.trans (hb.mono bel.size);have S1:=qsd (ai hbn (ai (AW.below hb) (ai (SK.below hb) (ai (DK.below hb) (hN.mono bel.size)))));clear bel AW SK DK;clear hb hbn S0;clear hN;obtain ⟨x0,x1,x2,_,_,_⟩:=S1.out.2.2.1.facts;obtain ⟨bel,AW,SK,DK,N2⟩:=S1.out;have HC:=hid (HM.out u1 _ _ bel (N2.arg' (by omega)).2)
 clear bel AW SK DK N2
 go_wp2_with fail
 clear x0 x1 x2;refine HC.out.mono ?_;rintro r u2 ⟨⟨v,rfl,hN⟩,hb⟩;obtain ⟨a7,c7,rfl,_⟩:=hN.arg (by omega)
 clear HC;obtain ⟨bel,AW,SK,DK,N2⟩:=S1.out;have hbn:=bel.trans (hb.mono bel.size);have S2:=qsd (ai hbn (ai (AW.below hb) (ai (SK.below hb) (ai (DK.below hb) (ai (N2.below hb) (hN.mono bel.size))))));clear bel AW SK DK N2;clear hb hbn S1;clear hN;obtain ⟨bel,AW,SK,DK,N2,NV⟩:=S2.out;have hlast:=qsd (ai bel (ai NV DK));obtain ⟨s0,s1,s2,sf0,sf1,sf2⟩:=DK.facts;clear bel AW SK DK N2 NV;clear S2 HM;go_wp2;obtain ⟨bel,NZ,DK⟩:=hlast.out;have hsz:=bel.size;exact bodyPost_ret (inside_res _ (w.heap.size+1) dn (.slice a7 (ws V).length c7) de er _ rfl rfl (DK.set _ _ _)) rfl ⟨⟨_,rfl,NZ.st3k DK (by decide) _ _ _⟩,below_st3 bel hsz (by omega) _ _ _⟩
theorem inside_no {w:World}{a:Option Addr}{ca:Nat}(n:Bool) (W M2 M3:Nat) (x y E:Int) (dn:Bool) (V:Nat) (de er:Int) (AW:Arg w a (ws W).length ca (ws W)) (hx0:-10000000≤x) (hx1:x≤10000000)
 (e1:shiftS W 1=(M2,0)) (e2:addS M2 1=(M3,0)) (hy:x-1=y) (hE:min (max y (-4096)) 4096=E) (l2:(ws M2).length≤8192) (l3:(ws M3).length≤8192) (lV:(ws V).length≤8192)
 (HM:Hid (∀ (u:World) (p:Option Addr) (q:Nat),Below w.heap.size w u→Arg u p (ws M3).length q (ws M3)→Calls Tryz.prog 108 #[.bool n,.slice p (ws M3).length q,.int .i64 E] u fun r w'=>(∃ v,r=.returned (.tuple #[.agg #[.bool dn,v,.int .i64 de],.int .i64 er])∧Nt u.heap.size w' v V)∧Below u.heap.size u w')) :
 Calls Tryz.prog 181 #[.bool n,.agg #[.slice a (ws W).length ca,.int .i64 x,.bool false]] w fun r w'=>(∃ v,r=.returned (.tuple #[.agg #[.bool dn,v,.int .i64 de],.int .i64 er])∧Nt w.heap.size w' v V)∧Below w.heap.size w w':=by
 obtain ⟨W1,hW1⟩:∃ U,U=(w.alloc (.cells #[.slice a (ws W).length ca,.int .i64 x,.bool false] 195)).alloc (.cells #[.bool false,.slice none 0 0,.int .i64 0] 47):=⟨_,rfl⟩;obtain ⟨hB,hz1,SK,DK⟩:=ins_begin w _ x false W1 hW1;have e1':shiftS (val (ws W)) 1=(M2,0):=by rw [val_ws];exact e1
 have e2':addS (val (ws M2)) (val (ws 1))=(M3,0):=by rw [val_ws,val_ws];exact e2
 have E2:=qsd e2';clear e2 e2';have E1:=qsd e1';have hs2:w.heap.size+2≤W1.heap.size:=by omega
 have l1s:(ws 1).length≤8192:=by rw [ws_one];simp
 have hbel:=hB;have S0:=(qsd (ai hbel (ai (AW.below hB) (ai SK DK))));clear hbel;clear e1 e1' AW hB SK DK hz1;go_enter Tryz.func181,Tryz.ntmps181;obtain ⟨x0,x1,x2,_,_,_⟩:=S0.out.2.2.1.facts;obtain ⟨bel,AW,SK,DK⟩:=S0.out;have HC:=hid (Shift_arg 1 AW E1.out (by omega) (by omega))
 clear bel AW SK DK
 go_upto_region 1 with fail
 rw [←hW1];clear hW1
 go_wp2_with fail
 clear x0 x1 x2;refine HC.out.mono ?_;rintro r u1 ⟨v,rfl,hN,hb⟩;obtain ⟨a1,c1,rfl,_⟩:=hN.arg (by omega)
 clear HC;obtain ⟨bel,AW,SK,DK⟩:=S0.out;have hbn:=bel.trans (hb.mono bel.size);have S1:=qsd (ai hbn (ai (AW.below hb) (ai (SK.below hb) (ai (DK.below hb) (hN.mono bel.size)))));clear bel AW SK DK;clear hb hbn S0;clear hN;obtain ⟨x0,x1,x2,_,_,_⟩:=S1.out.2.2.1.facts;obtain ⟨bel,AW,SK,DK,N2⟩:=S1.out;have HC:=hid (of_any 1 u1 (by omega))
 clear bel AW SK DK N2
 go_wp2_with fail
 clear x0 x1 x2;refine HC.out.mono ?_;rintro r u2 ⟨v,rfl,hN,hb⟩;obtain ⟨a5,c5,rfl,_⟩:=hN.arg (by omega)
 clear HC;obtain ⟨bel,AW,SK,DK,N2⟩:=S1.out;have hbn:=bel.trans (hb.mono bel.size);have S2:=qsd (ai hbn (ai (AW.below hb) (ai (SK.below hb) (ai (DK.below hb) (ai (N2.below hb) (hN.mono bel.size))))));clear bel AW SK DK N2;clear hb hbn S1;clear hN;obtain ⟨bel,AW,SK,DK,N2,NO⟩:=S2.out;have HC:=hid (Add_arg (N2.arg' (by omega)).2 (NO.arg' (by omega)).2 E2.out)
 clear bel AW SK DK N2 NO
 go_wp2_with fail
 refine HC.out.mono ?_;rintro r u3 ⟨v,rfl,hN,hb⟩;obtain ⟨a6,c6,rfl,_⟩:=hN.arg (by omega)
 clear HC;obtain ⟨bel,AW,SK,DK,N2,NO⟩:=S2.out;have hbn:=bel.trans (hb.mono bel.size);have S3:=qsd (ai hbn (ai (AW.below hb) (ai (SK.below hb) (ai (DK.below hb) (ai (N2.below hb) (ai (NO.below hb) (hN.mono bel.size)))))));clear bel AW SK DK N2 NO;clear hb hbn S2;clear hN;obtain ⟨x0,x1,x2,_,_,_⟩:=S3.out.2.2.1.facts;obtain ⟨bel,AW,SK,DK,N2,NO,N3⟩:=S3.out;have HC:=hid (HM.out u3 _ _ bel (N3.arg' (by omega)).2)
 clear bel AW SK DK N2 NO N3
 go_wp2_with fail
 clear x0 x1 x2;refine HC.out.mono ?_;rintro r u4 ⟨⟨v,rfl,hN⟩,hb⟩;obtain ⟨a7,c7,rfl,_⟩:=hN.arg (by omega)
 clear HC;obtain ⟨bel,AW,SK,DK,N2,NO,N3⟩:=S3.out;have hbn:=bel.trans (hb.mono bel.size);have S4:=qsd (ai hbn (ai (AW.below hb) (ai (SK.below hb) (ai (DK.below hb) (ai (N2.below hb) (ai (NO.below hb) (ai (N3.below hb) (hN.mono bel.size))))))));clear bel AW SK DK N2 NO N3;clear hb hbn S3;clear hN;obtain ⟨bel,AW,SK,DK,N2,NO,N3,NV⟩:=S4.out;have hlast:=qsd (ai bel (ai NV DK));obtain ⟨s0,s1,s2,sf0,sf1,sf2⟩:=DK.facts;clear bel AW SK DK N2 NO N3 NV;clear S4 HM;go_wp2;obtain ⟨bel,NZ,DK⟩:=hlast.out;have hsz:=bel.size;exact bodyPost_ret (inside_res _ (w.heap.size+1) dn (.slice a7 (ws V).length c7) de er _ rfl rfl (DK.set _ _ _)) rfl ⟨⟨_,rfl,NZ.st3k DK (by decide) _ _ _⟩,below_st3 bel hsz (by omega) _ _ _⟩
theorem inside_any {w:World}{a:Option Addr}{ca:Nat}(n:Bool) (W:Nat) (x:Int) (t:Bool) (AW:Arg w a (ws W).length ca (ws W)) (hT:Tab w) (hx0:-10000000≤x) (hx1:x≤10000000) (hW:bl W≤1000) :
 Calls Tryz.prog 181 #[.bool n,.agg #[.slice a (ws W).length ca,.int .i64 x,.bool t]] w fun r w'=>DAns w.heap.size w' r (mkS n (2*W+(if t then 0 else 1)) (clampE x))∧Below w.heap.size w w':=by
 have hLW:¬ LG W:=fun k=>by have:=(LG_bl W).1 k;omega
 have e1:shiftS W 1=(2*W,0):=by
  have:=shiftS_up (X:=W) (k:=1) (V:=2*W) hLW (.inr (by omega)) (by omega)
  simpa using this
 have b2:∀ d,d≤1→bl (2*W+d)≤1001:=by
  intro d hd;have h1:=bl_lt W;have h2:2*W+d<2^(bl W+1):=by rw [Nat.pow_succ];omega
  by_cases h0:2*W+d=0
  · rw [h0,bl_zero];omega
  · have:=(Nat.pow_lt_pow_iff_right (a:=2) (by decide)).1 (Nat.lt_of_le_of_lt (bl_ge _ h0) h2)
    have:=bl_pos _ h0;omega
 have l8:∀ d,d≤1→(ws (2*W+d)).length≤8192∧¬ LG (2*W+d):=by
  intro d hd;have hb:=b2 d hd;have hn:¬ LG (2*W+d):=fun k=>by have:=(LG_bl (2*W+d)).1 k;omega
  exact ⟨by unfold LG at hn;omega,hn⟩
 have cl0:-4096≤clampE x∧clampE x≤4096:=by unfold clampE;omega
 unfold DAns;have hl:=mkS_len n (2*W+(if t then 0 else 1)) (clampE x)
 cases t with
 | true =>
   simp only [if_true,Nat.add_zero] at hl ⊢;refine inside_yes n W (2*W) 0 x _ _ _ _ _ _ AW hx0 hx1 e1 rfl rfl (l8 0 (by omega)).1 hl ?_
   intro u p q hu hA;have:=Make_any hA (hT.belows hu) n (clampE x) (by omega) (by omega)
   rw [val_ws] at this;exact this
 | false =>
   simp only [Bool.false_eq_true,if_false] at hl ⊢;refine inside_no n W (2*W) (2*W+1) x _ _ _ _ _ _ AW hx0 hx1 e1 (addS_ok (l8 1 (by omega)).2 rfl) rfl rfl (l8 0 (by omega)).1 (l8 1 (by omega)).1 hl ?_
   intro u p q hu hA;have:=Make_any hA (hT.belows hu) n (clampE x) (by omega) (by omega)
   rw [val_ws] at this;exact this
end
section
open Go.RowKit
theorem quot_begin (w:World) (n:Bool) (v:Value) (e:Int) (m:Bool) (u:Value) (f:Int) (W:World) (hW:W=(w.alloc (.cells #[.bool n,v,.int .i64 e,.bool m,u,.int .i64 f] 119)).alloc (.cells #[.bool false,.slice none 0 0,.int .i64 0] 47)) :
 Below w.heap.size w W∧W.heap.size=w.heap.size+2∧Rq W w.heap.size n v e m u f∧Tk W (w.heap.size+1) 47 (.bool false) (.slice none 0 0) (.int .i64 0):=by
 rw [hW];refine ⟨(below_alloc w _).alloc (by simp) _,by simp,(Rq.new _ _ _ _ _ _ _).alloc _,?_⟩
 have:=Tk.new (w.alloc (.cells #[.bool n,v,.int .i64 e,.bool m,u,.int .i64 f] 119)) 47 (.bool false) (.slice none 0 0) (.int .i64 0);simpa using this
end
section
open Go.RowKit
theorem halved_res (W:World) (g:Nat) (v:Value) (x:Int) (t:Bool) (tmps:Array Value) (ht:tmps[2]?.getD undef=.pointer (some ⟨g,0,none⟩)) (D:Tk W g 195 v (.int .i64 x) (.bool t)) :
 (results Tryz.f179 tmps).run Tryz.prog W=.ok (.agg #[v,.int .i64 x,.bool t]) W:=by
 obtain ⟨x0,x1,x2,_,_,_⟩:=D.facts;simp [results,Tryz.results179,ht,go_sem,x0,x1,x2]
theorem hv_begin (w:World) (v:Value) (x:Int) (t:Bool) (W:World) (hW:W=(w.alloc (.cells #[v,.int .i64 x,.bool t] 195)).alloc (.cells #[.slice none 0 0,.int .i64 0,.bool false] 195)) :
 Below w.heap.size w W∧W.heap.size=w.heap.size+2∧Tk W w.heap.size 195 v (.int .i64 x) (.bool t)∧Tk W (w.heap.size+1) 195 (.slice none 0 0) (.int .i64 0) (.bool false):=by
 rw [hW];refine ⟨(below_alloc w _).alloc (by simp) _,by simp,(Tk.new _ _ _ _ _).alloc _,?_⟩
 have:=Tk.new (w.alloc (.cells #[v,.int .i64 x,.bool t] 195)) 195 (.slice none 0 0) (.int .i64 0) (.bool false);simpa using this
theorem halved_yes {w:World}{a:Option Addr}{ca:Nat}(W H:Nat) (x y:Int) (AW:Arg w a (ws W).length ca (ws W)) (hx0:-10000000≤x) (hx1:x≤10000000) (e1:shiftS W (-1)=(H,0)) (hy:x+1=y) (l2:(ws H).length≤8192) (b:Bool) (hb0:decide (W/2^0%2=1)=b) :
 Calls Tryz.prog 179 #[.agg #[.slice a (ws W).length ca,.int .i64 x,.bool true]] w fun r w'=>(∃ v,r=.returned (.agg #[v,.int .i64 y,.bool (!b)])∧Nt w.heap.size w' v H)∧Below w.heap.size w w':=by
 obtain ⟨W1,hW1⟩:∃ U,U=(w.alloc (.cells #[.slice a (ws W).length ca,.int .i64 x,.bool true] 195)).alloc (.cells #[.slice none 0 0,.int .i64 0,.bool false] 195):=⟨_,rfl⟩;obtain ⟨hB,hz1,SK,RK⟩:=hv_begin w _ x true W1 hW1;have e1':shiftS (val (ws W)) (-1)=(H,0):=by rw [val_ws];exact e1
 have HC:=hid (Shift_arg (-1) (AW.below hB) e1' (by omega) (by omega))
 obtain ⟨x0,x1,x2,_,_,_⟩:=SK.facts;have hs2:w.heap.size+2≤W1.heap.size:=by omega
 have S0:=(qsd (ai hB (ai SK (ai RK (AW.below hB)))));clear hB SK RK AW hz1 e1 e1';go_enter Tryz.func179,Tryz.ntmps179
 go_upto_region 1 with fail
 rw [←hW1];clear hW1
 go_wp2_with fail
 clear x0 x1 x2;refine HC.out.mono ?_;rintro r u1 ⟨v,rfl,hN,hb⟩;obtain ⟨a1,c1,rfl,_⟩:=hN.arg (by omega)
 clear HC;obtain ⟨bel,SK,RK,AW⟩:=S0.out;obtain ⟨x0,x1,x2,_,_,_⟩:=(SK.below hb).facts;obtain ⟨s0,s1,s2,sf0,sf1,sf2⟩:=(RK.below hb).facts;have S1:=(qsd (ai (bel.trans (hb.mono bel.size)) (ai (RK.below hb) (hN.mono bel.size))))
 have HB1:∀ w',w'=u1∨w'=u1.drew→Calls Tryz.prog 192 #[.slice a (ws W).length ca,.int .i64 0] w' fun r w''=>r=.returned (.bool b)∧w''=w':=by
  intro w' hw;have:=bit_any (ws W) a (ws W).length ca w'.heap.size 0 w' rfl (AW.below hb).wf (by rcases hw with rfl | rfl;exact (AW.below hb).rd;exact (AW.below hb).rd) (by omega)
  rw [val_ws,hb0] at this;exact this
 have HB:=hid HB1;clear HB1 hb0;have hwy:IntKind.i64.wrap y=y:=by simp [IntKind.wrap,IntKind.bits,IntKind.signed];omega
 have ne1:w.heap.size≠w.heap.size+1:=by omega
 have ne2:w.heap.size+1≠w.heap.size:=by omega
 clear bel SK RK AW hN S0 hb
 go_wp2_with fail
 go_region_held3 (fun w'=>w'.cell? ⟨w.heap.size,0,none⟩=some (.slice a (ws W).length ca)∧w'.cell? ⟨w.heap.size,1,none⟩=some (.int .i64 x)∧w'.cell? ⟨w.heap.size,2,none⟩=some (.bool true)) (go_keep) (first
  | (go_at_call 192
     with_reducible refine (HB.out _ (by first | exact .inl rfl | exact .inr rfl)).mono ?_
     rintro r u2 ⟨rfl,rfl⟩))
 all_goals (
  go_wp2;obtain ⟨bel,RK,NZ⟩:=S1.out;have hsz:=bel.size
  first
  | exact bodyPost_ret (halved_res _ (w.heap.size+1) (.slice a1 (ws H).length c1) y _ _ rfl (RK.set _ _ _)) rfl ⟨⟨_,rfl,NZ.st3k RK (by decide) _ _ _⟩,below_st3 bel hsz (by omega) _ _ _⟩
  | exact bodyPost_ret (halved_res _ (w.heap.size+1) (.slice a1 (ws H).length c1) y _ _ rfl (RK.set _ _ _)) rfl ⟨⟨_,rfl,NZ.st3k RK (by decide) _ _ _⟩,(below_st3 bel hsz (by omega) _ _ _).drew⟩)
theorem halved_no {w:World}{a:Option Addr}{ca:Nat}(W H:Nat) (x y:Int) (AW:Arg w a (ws W).length ca (ws W)) (hx0:-10000000≤x) (hx1:x≤10000000) (e1:shiftS W (-1)=(H,0)) (hy:x+1=y) (l2:(ws H).length≤8192) :
 Calls Tryz.prog 179 #[.agg #[.slice a (ws W).length ca,.int .i64 x,.bool false]] w fun r w'=>(∃ v,r=.returned (.agg #[v,.int .i64 y,.bool false])∧Nt w.heap.size w' v H)∧Below w.heap.size w w':=by
 obtain ⟨W1,hW1⟩:∃ U,U=(w.alloc (.cells #[.slice a (ws W).length ca,.int .i64 x,.bool false] 195)).alloc (.cells #[.slice none 0 0,.int .i64 0,.bool false] 195):=⟨_,rfl⟩;obtain ⟨hB,hz1,SK,RK⟩:=hv_begin w _ x false W1 hW1;have e1':shiftS (val (ws W)) (-1)=(H,0):=by rw [val_ws];exact e1
 have HC:=hid (Shift_arg (-1) (AW.below hB) e1' (by omega) (by omega))
 obtain ⟨x0,x1,x2,_,_,_⟩:=SK.facts;have hs2:w.heap.size+2≤W1.heap.size:=by omega
 have S0:=(qsd (ai hB (ai SK (ai RK (AW.below hB)))));clear hB SK RK AW hz1 e1 e1';go_enter Tryz.func179,Tryz.ntmps179
 go_upto_region 1 with fail
 rw [←hW1];clear hW1
 go_wp2_with fail
 clear x0 x1 x2;refine HC.out.mono ?_;rintro r u1 ⟨v,rfl,hN,hb⟩;obtain ⟨a1,c1,rfl,_⟩:=hN.arg (by omega)
 clear HC;obtain ⟨bel,SK,RK,AW⟩:=S0.out;obtain ⟨x0,x1,x2,_,_,_⟩:=(SK.below hb).facts;obtain ⟨s0,s1,s2,sf0,sf1,sf2⟩:=(RK.below hb).facts;have S1:=(qsd (ai (bel.trans (hb.mono bel.size)) (ai (RK.below hb) (hN.mono bel.size))));have hwy:IntKind.i64.wrap y=y:=by simp [IntKind.wrap,IntKind.bits,IntKind.signed];omega
 have ne1:w.heap.size≠w.heap.size+1:=by omega
 have ne2:w.heap.size+1≠w.heap.size:=by omega
 clear bel SK RK AW hN S0 hb
 go_wp2_with fail
 go_region
 all_goals (
  go_wp2;obtain ⟨bel,RK,NZ⟩:=S1.out;have hsz:=bel.size
  first
  | exact bodyPost_ret (halved_res _ (w.heap.size+1) (.slice a1 (ws H).length c1) y _ _ rfl (RK.set _ _ _)) rfl ⟨⟨_,rfl,NZ.st3k RK (by decide) _ _ _⟩,below_st3 bel hsz (by omega) _ _ _⟩
  | exact bodyPost_ret (halved_res _ (w.heap.size+1) (.slice a1 (ws H).length c1) y _ _ rfl (RK.set _ _ _)) rfl ⟨⟨_,rfl,NZ.st3k RK (by decide) _ _ _⟩,(below_st3 bel hsz (by omega) _ _ _).drew⟩)
end
section
open Go.RowKit
theorem sqrt_res (W:World) (g:Nat) (n:Bool) (v:Value) (e k:Int) (tmps:Array Value) (ht:tmps[2]?.getD undef=.pointer (some ⟨g,0,none⟩)) (hk:tmps[3]?.getD undef=.int .i64 k) (D:Tk W g 47 (.bool n) v (.int .i64 e)) :
 (results Tryz.f143 tmps).run Tryz.prog W=.ok (.tuple #[.agg #[.bool n,v,.int .i64 e],.int .i64 k]) W:=by
 obtain ⟨x0,x1,x2,_,_,_⟩:=D.facts;simp [results,Tryz.results143,ht,hk,go_sem,x0,x1,x2]
theorem sqrt_neg {w:World}{a b:Option Addr}{la ca lb cb:Nat}(m:Bool) (e f:Int) :
 Calls Tryz.prog 143 #[.agg #[.bool true,.slice a la ca,.int .i64 e,.bool m,.slice b lb cb,.int .i64 f]] w fun r w'=>r=.returned (.tuple #[.agg #[.bool false,.slice none 0 0,.int .i64 0],.int .i64 110])∧Below w.heap.size w w':=by
 obtain ⟨W1,hW1⟩:∃ U,U=(w.alloc (.cells #[.bool true,.slice a la ca,.int .i64 e,.bool m,.slice b lb cb,.int .i64 f] 119)).alloc (.cells #[.bool false,.slice none 0 0,.int .i64 0] 47):=⟨_,rfl⟩;obtain ⟨hB,hz1,RQ,DK⟩:=quot_begin w true _ e m _ f W1 hW1;obtain ⟨x0,x1,x2,x3,x4,x5⟩:=RQ.facts;obtain ⟨s0,s1,s2,sf0,sf1,sf2⟩:=DK.facts;have SB:=(qsd (ai hB DK));clear hB hz1 RQ DK;go_enter Tryz.func143,Tryz.ntmps143
 go_upto_region 1 with fail
 rw [←hW1];clear hW1;go_wp2;obtain ⟨bel,DK⟩:=SB.out;exact bodyPost_ret (sqrt_res _ (w.heap.size+1) false (.slice none 0 0) 0 110 _ rfl rfl (DK.set _ _ _)) rfl ⟨rfl,below_st3 bel bel.size (by omega) _ _ _⟩
theorem sqrt_even_at {w:World}{a b:Option Addr}{la ca lb cb:Nat}(m:Bool) (e f:Int) (WH H R L lL:Nat) (x y h:Int) (tt bL:Bool) (dn:Bool) (V:Nat) (de er:Int) (lW:(ws WH).length≤8192) (lH:(ws H).length≤8192) (lR:(ws R).length≤8192) (lLL:(ws L).length≤8192) (lV:(ws V).length≤8192)
 (hx0:-10000000≤x) (hx1:x≤10000000) (hpar:(x.tmod 2==0)=true) (hh:x.tdiv 2=h) (hh0:-10000000≤h) (hh1:h≤10000000)
 (HD:Hid (∀ u,Below w.heap.size w u→Calls Tryz.prog 178 #[.agg #[.bool false,.slice a la ca,.int .i64 e,.bool m,.slice b lb cb,.int .i64 f],.int .i64 129] u fun r w'=>(∃ v,r=.returned (.agg #[v,.int .i64 x,.bool true])∧Nt u.heap.size w' v WH)∧Below u.heap.size u w'))
 (HR:Hid (∀ (u:World) (p:Option Addr) (q:Nat),Arg u p (ws WH).length q (ws WH)→Calls Tryz.prog 180 #[.slice p (ws WH).length q] u fun r w'=>∃ v v',r=.returned (.tuple #[v,v'])∧Nt u.heap.size w' v R∧Nt u.heap.size w' v' L∧Below u.heap.size u w'))
 (HL:Hid (∀ (u:World) (p:Option Addr) (q:Nat),Arg u p (ws L).length q (ws L)→Calls Tryz.prog 147 #[.slice p (ws L).length q] u fun r w'=>r=.returned (.int .i64 (lL:Nat))∧Below u.heap.size u w')) (hlL:((lL:Int)==0)=bL) (hlL2:(lL==0)=bL)
 (HI:Hid (∀ (u:World) (p:Option Addr) (q:Nat),Below w.heap.size w u→Arg u p (ws R).length q (ws R)→Calls Tryz.prog 181 #[.bool false,.agg #[.slice p (ws R).length q,.int .i64 h,.bool bL]] u fun r w'=>(∃ v,r=.returned (.tuple #[.agg #[.bool dn,v,.int .i64 de],.int .i64 er])∧Nt u.heap.size w' v V)∧Below u.heap.size u w')) :
 Calls Tryz.prog 143 #[.agg #[.bool false,.slice a la ca,.int .i64 e,.bool m,.slice b lb cb,.int .i64 f]] w fun r w'=>(∃ v,r=.returned (.tuple #[.agg #[.bool dn,v,.int .i64 de],.int .i64 er])∧Nt w.heap.size w' v V)∧Below w.heap.size w w':=by
 obtain ⟨W1,hW1⟩:∃ U,U=(w.alloc (.cells #[.bool false,.slice a la ca,.int .i64 e,.bool m,.slice b lb cb,.int .i64 f] 119)).alloc (.cells #[.bool false,.slice none 0 0,.int .i64 0] 47):=⟨_,rfl⟩;obtain ⟨hB,hz1,RQ,DK⟩:=quot_begin w false _ e m _ f W1 hW1;have T1:=hid (HD.out W1 hB);obtain ⟨x0,x1,x2,x3,x4,x5⟩:=RQ.facts;have hs1:w.heap.size+2≤W1.heap.size:=by omega
 have SB:=(qsd (ai hB DK));clear hB hz1 RQ DK HD;go_enter Tryz.func143,Tryz.ntmps143
 go_upto_region 1 with fail
 rw [←hW1];clear hW1
 go_wp2_with fail
 clear x0 x1 x2 x3 x4 x5;refine T1.out.mono ?_;rintro r u1 ⟨⟨v,rfl,hN⟩,hb⟩;obtain ⟨a1,c1,rfl,_⟩:=hN.arg (by omega)
 clear T1;obtain ⟨U1,hU1⟩:∃ U,U=u1.alloc (.cells #[.slice a1 (ws WH).length c1,.int .i64 x,.bool true] 195):=⟨_,rfl⟩;have hbA:Below u1.heap.size u1 U1:=by rw [hU1];exact below_alloc _ _
 have SK:Tk U1 u1.heap.size 195 (.slice a1 (ws WH).length c1) (.int .i64 x) (.bool true):=by rw [hU1];exact Tk.new _ _ _ _ _
 obtain ⟨bel,DK⟩:=SB.out;have bb:=bel.trans (hb.mono bel.size);obtain ⟨gS,hgS⟩:∃ g,u1.heap.size=g:=⟨_,rfl⟩;have hgS2:w.heap.size+2≤gS:=by have:=DK.lt;have:=hb.size;omega
 rw [hgS] at SK;have S1:=(qsd (ai (bb.trans (hbA.mono bb.size)) (ai ((DK.below hb).below hbA) (ai ((hN.below hbA).mono bel.size) SK))));obtain ⟨x0,x1,x2,xf0,xf1,xf2⟩:=SK.facts;clear bel DK bb hb hbA hN SK SB
 go_upto_region 4 with fail
 rw [←hU1];clear hU1 hgS;have HC:=hid (HR.out U1 a1 c1 (S1.out.2.2.1.arg' (by omega)).2)
 go_wp2_with fail
 clear x0 x1 x2 xf0 xf1 xf2;refine HC.out.mono ?_;rintro r u3 ⟨v,v',rfl,hN,hM,hb⟩;obtain ⟨a3,c3,rfl,_⟩:=hN.arg (by omega)
 obtain ⟨a4,c4,rfl,_⟩:=hM.arg (by omega)
 clear HC HR;obtain ⟨bel,DK,NW,SK⟩:=S1.out;have bb:=bel.trans (hb.mono bel.size);have SK2:=SK.below hb;have DK2:=DK.below hb;obtain ⟨x0,x1,x2,xf0,xf1,xf2⟩:=SK2.facts;obtain ⟨s0,s1,s2,sf0,sf1,sf2⟩:=DK2.facts;have hwh:IntKind.i64.wrap h=h:=by simp [IntKind.wrap,IntKind.bits,IntKind.signed];omega
 have S3:=(qsd (ai bb (ai DK2 (ai (hN.mono bel.size) (ai (hM.mono bel.size) SK2)))));have ne1:gS≠w.heap.size+1:=by omega
 have ne2:w.heap.size+1≠gS:=by omega
 have L1:=hid (HL.out u3 a4 c4 (S3.out.2.2.2.1.arg' (by omega)).2)
 have L2:=hid (HL.out u3.drew a4 c4 ((S3.out.2.2.2.1.below ((Below.refl _ u3).drew)).arg' (by omega)).2)
 clear bel DK NW SK bb hb hN hM SK2 DK2 S1
 go_wp2_with fail
 go_region_held3 (fun w'=>w'.cell? ⟨gS,0,none⟩=some (.slice a1 (ws WH).length c1)∧w'.cell? ⟨gS,1,none⟩=some (.int .i64 x)∧w'.cell? ⟨gS,2,none⟩=some (.bool true)) (go_keep) (first
  | (go_at_call 147
     first | with_reducible refine L1.out.mono ?_ | with_reducible refine L2.out.mono ?_
     rintro r u4 ⟨rfl,hb⟩;have hb1:Below u3.heap.size u3 u4:=by first | exact hb | exact ((Below.refl _ u3).drew).trans (hb.mono (Nat.le_refl _))
     obtain ⟨bel,DK,NR,NL,SK⟩:=S3.out;have bb:=bel.trans (hb1.mono bel.size);have I1:=hid (HI.out u4 a3 c3 bb ((NR.below hb1).arg' (by omega)).2)
     have S4:=(qsd (ai bb (ai (DK.below hb1) (SK.below hb1))));obtain ⟨p0,p1,p2,pf0,pf1,pf2⟩:=(SK.below hb1).facts;obtain ⟨q0,q1,q2,qf0,qf1,qf2⟩:=(DK.below hb1).facts;clear hb hb1 bb bel DK NR NL SK)
  | (go_at_call 181
     with_reducible refine I1.out.mono ?_
     rintro r u5 ⟨⟨v,rfl,hN⟩,hb⟩;obtain ⟨a7,c7,rfl,_⟩:=hN.arg (by omega)
     obtain ⟨bel,DK,SK⟩:=S4.out;obtain ⟨i0,i1,i2,if0,if1,if2⟩:=(SK.below hb).facts;obtain ⟨t0,t1,t2,tf0,tf1,tf2⟩:=(DK.below hb).facts;have FV:=(qsd (ai (bel.trans (hb.mono bel.size)) (ai (hN.mono bel.size) (DK.below hb))));clear hN hb bel DK SK))
 all_goals (
  go_wp2;obtain ⟨bel,NZ,DK⟩:=FV.out;have hsz:=bel.size
  first
  | exact bodyPost_ret (sqrt_res _ (w.heap.size+1) dn (.slice a7 (ws V).length c7) de er _ rfl rfl (DK.set _ _ _)) rfl ⟨⟨_,rfl,NZ.st3k DK (by decide) _ _ _⟩,below_st3 bel hsz (by omega) _ _ _⟩
  | exact bodyPost_ret (sqrt_res _ (w.heap.size+1) dn (.slice a7 (ws V).length c7) de er _ rfl rfl (DK.set _ _ _)) rfl ⟨⟨_,rfl,NZ.st3k DK (by decide) _ _ _⟩,(below_st3 bel hsz (by omega) _ _ _).drew⟩)
theorem sqrt_even_in {w:World}{a b:Option Addr}{la ca lb cb:Nat}(m:Bool) (e f:Int) (WH H R L lL:Nat) (x y h:Int) (tt bL:Bool) (dn:Bool) (V:Nat) (de er:Int) (lW:(ws WH).length≤8192) (lH:(ws H).length≤8192) (lR:(ws R).length≤8192) (lLL:(ws L).length≤8192) (lV:(ws V).length≤8192)
 (hx0:-10000000≤x) (hx1:x≤10000000) (hpar:(x.tmod 2==0)=true) (hh:x.tdiv 2=h) (hh0:-10000000≤h) (hh1:h≤10000000)
 (HD:Hid (∀ u,Below w.heap.size w u→Calls Tryz.prog 178 #[.agg #[.bool false,.slice a la ca,.int .i64 e,.bool m,.slice b lb cb,.int .i64 f],.int .i64 129] u fun r w'=>(∃ v,r=.returned (.agg #[v,.int .i64 x,.bool false])∧Nt u.heap.size w' v WH)∧Below u.heap.size u w'))
 (HR:Hid (∀ (u:World) (p:Option Addr) (q:Nat),Arg u p (ws WH).length q (ws WH)→Calls Tryz.prog 180 #[.slice p (ws WH).length q] u fun r w'=>∃ v v',r=.returned (.tuple #[v,v'])∧Nt u.heap.size w' v R∧Nt u.heap.size w' v' L∧Below u.heap.size u w'))
 (HI:Hid (∀ (u:World) (p:Option Addr) (q:Nat),Below w.heap.size w u→Arg u p (ws R).length q (ws R)→Calls Tryz.prog 181 #[.bool false,.agg #[.slice p (ws R).length q,.int .i64 h,.bool false]] u fun r w'=>(∃ v,r=.returned (.tuple #[.agg #[.bool dn,v,.int .i64 de],.int .i64 er])∧Nt u.heap.size w' v V)∧Below u.heap.size u w')) :
 Calls Tryz.prog 143 #[.agg #[.bool false,.slice a la ca,.int .i64 e,.bool m,.slice b lb cb,.int .i64 f]] w fun r w'=>(∃ v,r=.returned (.tuple #[.agg #[.bool dn,v,.int .i64 de],.int .i64 er])∧Nt w.heap.size w' v V)∧Below w.heap.size w w':=by
 obtain ⟨W1,hW1⟩:∃ U,U=(w.alloc (.cells #[.bool false,.slice a la ca,.int .i64 e,.bool m,.slice b lb cb,.int .i64 f] 119)).alloc (.cells #[.bool false,.slice none 0 0,.int .i64 0] 47):=⟨_,rfl⟩;obtain ⟨hB,hz1,RQ,DK⟩:=quot_begin w false _ e m _ f W1 hW1;have T1:=hid (HD.out W1 hB);obtain ⟨x0,x1,x2,x3,x4,x5⟩:=RQ.facts;have hs1:w.heap.size+2≤W1.heap.size:=by omega
 have SB:=(qsd (ai hB DK));clear hB hz1 RQ DK HD;go_enter Tryz.func143,Tryz.ntmps143
 go_upto_region 1 with fail
 rw [←hW1];clear hW1
 go_wp2_with fail
 clear x0 x1 x2 x3 x4 x5;refine T1.out.mono ?_;rintro r u1 ⟨⟨v,rfl,hN⟩,hb⟩;obtain ⟨a1,c1,rfl,_⟩:=hN.arg (by omega)
 clear T1;obtain ⟨U1,hU1⟩:∃ U,U=u1.alloc (.cells #[.slice a1 (ws WH).length c1,.int .i64 x,.bool false] 195):=⟨_,rfl⟩;have hbA:Below u1.heap.size u1 U1:=by rw [hU1];exact below_alloc _ _
 have SK:Tk U1 u1.heap.size 195 (.slice a1 (ws WH).length c1) (.int .i64 x) (.bool false):=by rw [hU1];exact Tk.new _ _ _ _ _
 obtain ⟨bel,DK⟩:=SB.out;have bb:=bel.trans (hb.mono bel.size);obtain ⟨gS,hgS⟩:∃ g,u1.heap.size=g:=⟨_,rfl⟩;have hgS2:w.heap.size+2≤gS:=by have:=DK.lt;have:=hb.size;omega
 rw [hgS] at SK;have S1:=(qsd (ai (bb.trans (hbA.mono bb.size)) (ai ((DK.below hb).below hbA) (ai ((hN.below hbA).mono bel.size) SK))));obtain ⟨x0,x1,x2,xf0,xf1,xf2⟩:=SK.facts;clear bel DK bb hb hbA hN SK SB
 go_upto_region 4 with fail
 rw [←hU1];clear hU1 hgS;have HC:=hid (HR.out U1 a1 c1 (S1.out.2.2.1.arg' (by omega)).2)
 go_wp2_with fail
 clear x0 x1 x2 xf0 xf1 xf2;refine HC.out.mono ?_;rintro r u3 ⟨v,v',rfl,hN,hM,hb⟩;obtain ⟨a3,c3,rfl,_⟩:=hN.arg (by omega)
 obtain ⟨a4,c4,rfl,_⟩:=hM.arg (by omega)
 clear HC HR;obtain ⟨bel,DK,NW,SK⟩:=S1.out;have bb:=bel.trans (hb.mono bel.size);have SK2:=SK.below hb;have DK2:=DK.below hb;obtain ⟨x0,x1,x2,xf0,xf1,xf2⟩:=SK2.facts;obtain ⟨s0,s1,s2,sf0,sf1,sf2⟩:=DK2.facts;have hwh:IntKind.i64.wrap h=h:=by simp [IntKind.wrap,IntKind.bits,IntKind.signed];omega
 have S3:=(qsd (ai bb (ai DK2 (ai (hN.mono bel.size) (ai (hM.mono bel.size) SK2)))));have ne1:gS≠w.heap.size+1:=by omega
 have ne2:w.heap.size+1≠gS:=by omega
 have I1:=hid (HI.out u3 a3 c3 S3.out.1 (S3.out.2.2.1.arg' (by omega)).2)
 have I2:=hid (HI.out u3.drew a3 c3 S3.out.1.drew ((S3.out.2.2.1.below ((Below.refl _ u3).drew)).arg' (by omega)).2)
 clear bel DK NW SK bb hb hN hM SK2 DK2 S1
 go_wp2_with fail
 first | (go_region_with (first
  | (go_at_call 181
     first | with_reducible refine I1.out.mono ?_ | with_reducible refine I2.out.mono ?_
     rintro r u5 ⟨⟨v,rfl,hN⟩,hb⟩;have hb1:Below u3.heap.size u3 u5:=by first | exact hb | exact ((Below.refl _ u3).drew).trans (hb.mono (Nat.le_refl _))
     obtain ⟨a7,c7,rfl,_⟩:=hN.arg (by omega)
     obtain ⟨bel,DK,NR,NL,SK⟩:=S3.out;obtain ⟨i0,i1,i2,if0,if1,if2⟩:=(SK.below hb1).facts;obtain ⟨t0,t1,t2,tf0,tf1,tf2⟩:=(DK.below hb1).facts;have hN':Nt w.heap.size u5 (.slice a7 (ws V).length c7) V:=hN.mono bel.size;have FV:=(qsd (ai (bel.trans (hb1.mono bel.size)) (ai hN' (DK.below hb1))));clear hN hN' hb hb1 bel DK SK NR NL))) | fail
 all_goals (
  go_wp2;obtain ⟨bel,NZ,DK⟩:=FV.out;have hsz:=bel.size
  first
  | exact bodyPost_ret (sqrt_res _ (w.heap.size+1) dn (.slice a7 (ws V).length c7) de er _ rfl rfl (DK.set _ _ _)) rfl ⟨⟨_,rfl,NZ.st3k DK (by decide) _ _ _⟩,below_st3 bel hsz (by omega) _ _ _⟩
  | exact bodyPost_ret (sqrt_res _ (w.heap.size+1) dn (.slice a7 (ws V).length c7) de er _ rfl rfl (DK.set _ _ _)) rfl ⟨⟨_,rfl,NZ.st3k DK (by decide) _ _ _⟩,(below_st3 bel hsz (by omega) _ _ _).drew⟩)
theorem sqrt_odd_at {w:World}{a b:Option Addr}{la ca lb cb:Nat}(m:Bool) (e f:Int) (WH H R L lL:Nat) (x y h:Int) (tt bL:Bool) (dn:Bool) (V:Nat) (de er:Int) (lW:(ws WH).length≤8192) (lH:(ws H).length≤8192) (lR:(ws R).length≤8192) (lLL:(ws L).length≤8192) (lV:(ws V).length≤8192)
 (hx0:-10000000≤y) (hx1:y≤10000000) (hpar:(x.tmod 2==0)=false) (hh:y.tdiv 2=h) (hh0:-10000000≤h) (hh1:h≤10000000)
 (HD:Hid (∀ u,Below w.heap.size w u→Calls Tryz.prog 178 #[.agg #[.bool false,.slice a la ca,.int .i64 e,.bool m,.slice b lb cb,.int .i64 f],.int .i64 129] u fun r w'=>(∃ v,r=.returned (.agg #[v,.int .i64 x,.bool tt])∧Nt u.heap.size w' v WH)∧Below u.heap.size u w'))
 (HH:Hid (∀ (u:World) (p:Option Addr) (q:Nat),Arg u p (ws WH).length q (ws WH)→Calls Tryz.prog 179 #[.agg #[.slice p (ws WH).length q,.int .i64 x,.bool tt]] u fun r w'=>(∃ v,r=.returned (.agg #[v,.int .i64 y,.bool true])∧Nt u.heap.size w' v H)∧Below u.heap.size u w'))
 (HR:Hid (∀ (u:World) (p:Option Addr) (q:Nat),Arg u p (ws H).length q (ws H)→Calls Tryz.prog 180 #[.slice p (ws H).length q] u fun r w'=>∃ v v',r=.returned (.tuple #[v,v'])∧Nt u.heap.size w' v R∧Nt u.heap.size w' v' L∧Below u.heap.size u w'))
 (HL:Hid (∀ (u:World) (p:Option Addr) (q:Nat),Arg u p (ws L).length q (ws L)→Calls Tryz.prog 147 #[.slice p (ws L).length q] u fun r w'=>r=.returned (.int .i64 (lL:Nat))∧Below u.heap.size u w')) (hlL:((lL:Int)==0)=bL) (hlL2:(lL==0)=bL)
 (HI:Hid (∀ (u:World) (p:Option Addr) (q:Nat),Below w.heap.size w u→Arg u p (ws R).length q (ws R)→Calls Tryz.prog 181 #[.bool false,.agg #[.slice p (ws R).length q,.int .i64 h,.bool bL]] u fun r w'=>(∃ v,r=.returned (.tuple #[.agg #[.bool dn,v,.int .i64 de],.int .i64 er])∧Nt u.heap.size w' v V)∧Below u.heap.size u w')) :
 Calls Tryz.prog 143 #[.agg #[.bool false,.slice a la ca,.int .i64 e,.bool m,.slice b lb cb,.int .i64 f]] w fun r w'=>(∃ v,r=.returned (.tuple #[.agg #[.bool dn,v,.int .i64 de],.int .i64 er])∧Nt w.heap.size w' v V)∧Below w.heap.size w w':=by
 obtain ⟨W1,hW1⟩:∃ U,U=(w.alloc (.cells #[.bool false,.slice a la ca,.int .i64 e,.bool m,.slice b lb cb,.int .i64 f] 119)).alloc (.cells #[.bool false,.slice none 0 0,.int .i64 0] 47):=⟨_,rfl⟩;obtain ⟨hB,hz1,RQ,DK⟩:=quot_begin w false _ e m _ f W1 hW1;have T1:=hid (HD.out W1 hB);obtain ⟨x0,x1,x2,x3,x4,x5⟩:=RQ.facts;have hs1:w.heap.size+2≤W1.heap.size:=by omega
 have SB:=(qsd (ai hB DK));clear hB hz1 RQ DK HD;go_enter Tryz.func143,Tryz.ntmps143
 go_upto_region 1 with fail
 rw [←hW1];clear hW1
 go_wp2_with fail
 clear x0 x1 x2 x3 x4 x5;refine T1.out.mono ?_;rintro r u1 ⟨⟨v,rfl,hN⟩,hb⟩;obtain ⟨a1,c1,rfl,_⟩:=hN.arg (by omega)
 clear T1;obtain ⟨U1,hU1⟩:∃ U,U=u1.alloc (.cells #[.slice a1 (ws WH).length c1,.int .i64 x,.bool tt] 195):=⟨_,rfl⟩;have hbA:Below u1.heap.size u1 U1:=by rw [hU1];exact below_alloc _ _
 have SK:Tk U1 u1.heap.size 195 (.slice a1 (ws WH).length c1) (.int .i64 x) (.bool tt):=by rw [hU1];exact Tk.new _ _ _ _ _
 obtain ⟨bel,DK⟩:=SB.out;have bb:=bel.trans (hb.mono bel.size);obtain ⟨gS,hgS⟩:∃ g,u1.heap.size=g:=⟨_,rfl⟩;have hgS2:w.heap.size+2≤gS:=by have:=DK.lt;have:=hb.size;omega
 rw [hgS] at SK;have S1:=(qsd (ai (bb.trans (hbA.mono bb.size)) (ai ((DK.below hb).below hbA) (ai ((hN.below hbA).mono bel.size) SK))));obtain ⟨x0,x1,x2,xf0,xf1,xf2⟩:=SK.facts;clear bel DK bb hb hbA hN SK SB
 go_upto_region 4 with fail
 rw [←hU1];clear hU1 hgS;have HC:=hid (HH.out U1 a1 c1 (S1.out.2.2.1.arg' (by omega)).2)
 go_wp2_with fail
 clear x0 x1 x2;refine HC.out.mono ?_;rintro r u2 ⟨⟨v,rfl,hN⟩,hb⟩;obtain ⟨a2,c2,rfl,_⟩:=hN.arg (by omega)
 clear HC HH;obtain ⟨bel,DK,NW,SK⟩:=S1.out;have SK2:=SK.below hb;obtain ⟨x0,x1,x2,yf0,yf1,yf2⟩:=SK2.facts;obtain ⟨U2,hU2⟩:∃ U,U=st3 u2 gS (.slice a2 (ws H).length c2) (.int .i64 y) (.bool true):=⟨_,rfl⟩;have bb:=bel.trans (hb.mono bel.size)
 have S2:Aside (Below w.heap.size w U2∧Tk U2 (w.heap.size+1) 47 (.bool false) (.slice none 0 0) (.int .i64 0)∧Nt w.heap.size U2 (.slice a2 (ws H).length c2) H∧Tk U2 gS 195 (.slice a2 (ws H).length c2) (.int .i64 y) (.bool true)):=by
  rw [hU2];exact ⟨below_st3 bb bb.size (by omega) _ _ _,(DK.below hb).but (set3_but _ _ _ _ _) (by omega),(hN.mono bel.size).st3k SK2 (by decide) _ _ _,SK2.set _ _ _⟩
 clear bel DK NW SK SK2 bb hb hN S1;unfold st3 at hU2;have HU2:=qsd hU2;clear hU2
 go_upto_region 6 with fail
 rw [←HU2.out];clear HU2 x0 x1 x2 xf0 xf1 xf2 yf0 yf1 yf2;obtain ⟨x0,x1,x2,xf0,xf1,xf2⟩:=S2.out.2.2.2.facts;have HC:=hid (HR.out U2 a2 c2 (S2.out.2.2.1.arg' (by omega)).2)
 go_wp2_with fail
 clear x0 x1 x2 xf0 xf1 xf2;refine HC.out.mono ?_;rintro r u3 ⟨v,v',rfl,hN,hM,hb⟩;obtain ⟨a3,c3,rfl,_⟩:=hN.arg (by omega)
 obtain ⟨a4,c4,rfl,_⟩:=hM.arg (by omega)
 clear HC HR;obtain ⟨bel,DK,NW,SK⟩:=S2.out;have bb:=bel.trans (hb.mono bel.size);have SK2:=SK.below hb;have DK2:=DK.below hb;obtain ⟨x0,x1,x2,xf0,xf1,xf2⟩:=SK2.facts;obtain ⟨s0,s1,s2,sf0,sf1,sf2⟩:=DK2.facts;have hwh:IntKind.i64.wrap h=h:=by simp [IntKind.wrap,IntKind.bits,IntKind.signed];omega
 have S3:=(qsd (ai bb (ai DK2 (ai (hN.mono bel.size) (ai (hM.mono bel.size) SK2)))));have ne1:gS≠w.heap.size+1:=by omega
 have ne2:w.heap.size+1≠gS:=by omega
 have L1:=hid (HL.out u3 a4 c4 (S3.out.2.2.2.1.arg' (by omega)).2)
 have L2:=hid (HL.out u3.drew a4 c4 ((S3.out.2.2.2.1.below ((Below.refl _ u3).drew)).arg' (by omega)).2)
 clear bel DK NW SK bb hb hN hM SK2 DK2 S2
 go_wp2_with fail
 go_region_held3 (fun w'=>w'.cell? ⟨gS,0,none⟩=some (.slice a2 (ws H).length c2)∧w'.cell? ⟨gS,1,none⟩=some (.int .i64 y)∧w'.cell? ⟨gS,2,none⟩=some (.bool true)) (go_keep) (first
  | (go_at_call 147
     first | with_reducible refine L1.out.mono ?_ | with_reducible refine L2.out.mono ?_
     rintro r u4 ⟨rfl,hb⟩;have hb1:Below u3.heap.size u3 u4:=by first | exact hb | exact ((Below.refl _ u3).drew).trans (hb.mono (Nat.le_refl _))
     obtain ⟨bel,DK,NR,NL,SK⟩:=S3.out;have bb:=bel.trans (hb1.mono bel.size);have I1:=hid (HI.out u4 a3 c3 bb ((NR.below hb1).arg' (by omega)).2)
     have S4:=(qsd (ai bb (ai (DK.below hb1) (SK.below hb1))));obtain ⟨p0,p1,p2,pf0,pf1,pf2⟩:=(SK.below hb1).facts;obtain ⟨q0,q1,q2,qf0,qf1,qf2⟩:=(DK.below hb1).facts;clear hb hb1 bb bel DK NR NL SK)
  | (go_at_call 181
     with_reducible refine I1.out.mono ?_
     rintro r u5 ⟨⟨v,rfl,hN⟩,hb⟩;obtain ⟨a7,c7,rfl,_⟩:=hN.arg (by omega)
     obtain ⟨bel,DK,SK⟩:=S4.out;obtain ⟨i0,i1,i2,if0,if1,if2⟩:=(SK.below hb).facts;obtain ⟨t0,t1,t2,tf0,tf1,tf2⟩:=(DK.below hb).facts;have FV:=(qsd (ai (bel.trans (hb.mono bel.size)) (ai (hN.mono bel.size) (DK.below hb))));clear hN hb bel DK SK))
 all_goals (
  go_wp2;obtain ⟨bel,NZ,DK⟩:=FV.out;have hsz:=bel.size
  first
  | exact bodyPost_ret (sqrt_res _ (w.heap.size+1) dn (.slice a7 (ws V).length c7) de er _ rfl rfl (DK.set _ _ _)) rfl ⟨⟨_,rfl,NZ.st3k DK (by decide) _ _ _⟩,below_st3 bel hsz (by omega) _ _ _⟩
  | exact bodyPost_ret (sqrt_res _ (w.heap.size+1) dn (.slice a7 (ws V).length c7) de er _ rfl rfl (DK.set _ _ _)) rfl ⟨⟨_,rfl,NZ.st3k DK (by decide) _ _ _⟩,(below_st3 bel hsz (by omega) _ _ _).drew⟩)
theorem sqrt_odd_in {w:World}{a b:Option Addr}{la ca lb cb:Nat}(m:Bool) (e f:Int) (WH H R L lL:Nat) (x y h:Int) (tt bL:Bool) (dn:Bool) (V:Nat) (de er:Int) (lW:(ws WH).length≤8192) (lH:(ws H).length≤8192) (lR:(ws R).length≤8192) (lLL:(ws L).length≤8192) (lV:(ws V).length≤8192)
 (hx0:-10000000≤y) (hx1:y≤10000000) (hpar:(x.tmod 2==0)=false) (hh:y.tdiv 2=h) (hh0:-10000000≤h) (hh1:h≤10000000)
 (HD:Hid (∀ u,Below w.heap.size w u→Calls Tryz.prog 178 #[.agg #[.bool false,.slice a la ca,.int .i64 e,.bool m,.slice b lb cb,.int .i64 f],.int .i64 129] u fun r w'=>(∃ v,r=.returned (.agg #[v,.int .i64 x,.bool tt])∧Nt u.heap.size w' v WH)∧Below u.heap.size u w'))
 (HH:Hid (∀ (u:World) (p:Option Addr) (q:Nat),Arg u p (ws WH).length q (ws WH)→Calls Tryz.prog 179 #[.agg #[.slice p (ws WH).length q,.int .i64 x,.bool tt]] u fun r w'=>(∃ v,r=.returned (.agg #[v,.int .i64 y,.bool false])∧Nt u.heap.size w' v H)∧Below u.heap.size u w'))
 (HR:Hid (∀ (u:World) (p:Option Addr) (q:Nat),Arg u p (ws H).length q (ws H)→Calls Tryz.prog 180 #[.slice p (ws H).length q] u fun r w'=>∃ v v',r=.returned (.tuple #[v,v'])∧Nt u.heap.size w' v R∧Nt u.heap.size w' v' L∧Below u.heap.size u w'))
 (HI:Hid (∀ (u:World) (p:Option Addr) (q:Nat),Below w.heap.size w u→Arg u p (ws R).length q (ws R)→Calls Tryz.prog 181 #[.bool false,.agg #[.slice p (ws R).length q,.int .i64 h,.bool false]] u fun r w'=>(∃ v,r=.returned (.tuple #[.agg #[.bool dn,v,.int .i64 de],.int .i64 er])∧Nt u.heap.size w' v V)∧Below u.heap.size u w')) :
 Calls Tryz.prog 143 #[.agg #[.bool false,.slice a la ca,.int .i64 e,.bool m,.slice b lb cb,.int .i64 f]] w fun r w'=>(∃ v,r=.returned (.tuple #[.agg #[.bool dn,v,.int .i64 de],.int .i64 er])∧Nt w.heap.size w' v V)∧Below w.heap.size w w':=by
 obtain ⟨W1,hW1⟩:∃ U,U=(w.alloc (.cells #[.bool false,.slice a la ca,.int .i64 e,.bool m,.slice b lb cb,.int .i64 f] 119)).alloc (.cells #[.bool false,.slice none 0 0,.int .i64 0] 47):=⟨_,rfl⟩;obtain ⟨hB,hz1,RQ,DK⟩:=quot_begin w false _ e m _ f W1 hW1;have T1:=hid (HD.out W1 hB);obtain ⟨x0,x1,x2,x3,x4,x5⟩:=RQ.facts;have hs1:w.heap.size+2≤W1.heap.size:=by omega
 have SB:=(qsd (ai hB DK));clear hB hz1 RQ DK HD;go_enter Tryz.func143,Tryz.ntmps143
 go_upto_region 1 with fail
 rw [←hW1];clear hW1
 go_wp2_with fail
 clear x0 x1 x2 x3 x4 x5;refine T1.out.mono ?_;rintro r u1 ⟨⟨v,rfl,hN⟩,hb⟩;obtain ⟨a1,c1,rfl,_⟩:=hN.arg (by omega)
 clear T1;obtain ⟨U1,hU1⟩:∃ U,U=u1.alloc (.cells #[.slice a1 (ws WH).length c1,.int .i64 x,.bool tt] 195):=⟨_,rfl⟩;have hbA:Below u1.heap.size u1 U1:=by rw [hU1];exact below_alloc _ _
 have SK:Tk U1 u1.heap.size 195 (.slice a1 (ws WH).length c1) (.int .i64 x) (.bool tt):=by rw [hU1];exact Tk.new _ _ _ _ _
 obtain ⟨bel,DK⟩:=SB.out;have bb:=bel.trans (hb.mono bel.size);obtain ⟨gS,hgS⟩:∃ g,u1.heap.size=g:=⟨_,rfl⟩;have hgS2:w.heap.size+2≤gS:=by have:=DK.lt;have:=hb.size;omega
 rw [hgS] at SK;have S1:=(qsd (ai (bb.trans (hbA.mono bb.size)) (ai ((DK.below hb).below hbA) (ai ((hN.below hbA).mono bel.size) SK))));obtain ⟨x0,x1,x2,xf0,xf1,xf2⟩:=SK.facts;clear bel DK bb hb hbA hN SK SB
 go_upto_region 4 with fail
 rw [←hU1];clear hU1 hgS;have HC:=hid (HH.out U1 a1 c1 (S1.out.2.2.1.arg' (by omega)).2)
 go_wp2_with fail
 clear x0 x1 x2;refine HC.out.mono ?_;rintro r u2 ⟨⟨v,rfl,hN⟩,hb⟩;obtain ⟨a2,c2,rfl,_⟩:=hN.arg (by omega)
 clear HC HH;obtain ⟨bel,DK,NW,SK⟩:=S1.out;have SK2:=SK.below hb;obtain ⟨x0,x1,x2,yf0,yf1,yf2⟩:=SK2.facts;obtain ⟨U2,hU2⟩:∃ U,U=st3 u2 gS (.slice a2 (ws H).length c2) (.int .i64 y) (.bool false):=⟨_,rfl⟩;have bb:=bel.trans (hb.mono bel.size)
 have S2:Aside (Below w.heap.size w U2∧Tk U2 (w.heap.size+1) 47 (.bool false) (.slice none 0 0) (.int .i64 0)∧Nt w.heap.size U2 (.slice a2 (ws H).length c2) H∧Tk U2 gS 195 (.slice a2 (ws H).length c2) (.int .i64 y) (.bool false)):=by
  rw [hU2];exact ⟨below_st3 bb bb.size (by omega) _ _ _,(DK.below hb).but (set3_but _ _ _ _ _) (by omega),(hN.mono bel.size).st3k SK2 (by decide) _ _ _,SK2.set _ _ _⟩
 clear bel DK NW SK SK2 bb hb hN S1;unfold st3 at hU2;have HU2:=qsd hU2;clear hU2
 go_upto_region 6 with fail
 rw [←HU2.out];clear HU2 x0 x1 x2 xf0 xf1 xf2 yf0 yf1 yf2;obtain ⟨x0,x1,x2,xf0,xf1,xf2⟩:=S2.out.2.2.2.facts;have HC:=hid (HR.out U2 a2 c2 (S2.out.2.2.1.arg' (by omega)).2)
 go_wp2_with fail
 clear x0 x1 x2 xf0 xf1 xf2;refine HC.out.mono ?_;rintro r u3 ⟨v,v',rfl,hN,hM,hb⟩;obtain ⟨a3,c3,rfl,_⟩:=hN.arg (by omega)
 obtain ⟨a4,c4,rfl,_⟩:=hM.arg (by omega)
 clear HC HR;obtain ⟨bel,DK,NW,SK⟩:=S2.out;have bb:=bel.trans (hb.mono bel.size);have SK2:=SK.below hb;have DK2:=DK.below hb;obtain ⟨x0,x1,x2,xf0,xf1,xf2⟩:=SK2.facts;obtain ⟨s0,s1,s2,sf0,sf1,sf2⟩:=DK2.facts;have hwh:IntKind.i64.wrap h=h:=by simp [IntKind.wrap,IntKind.bits,IntKind.signed];omega
 have S3:=(qsd (ai bb (ai DK2 (ai (hN.mono bel.size) (ai (hM.mono bel.size) SK2)))));have ne1:gS≠w.heap.size+1:=by omega
 have ne2:w.heap.size+1≠gS:=by omega
 have I1:=hid (HI.out u3 a3 c3 S3.out.1 (S3.out.2.2.1.arg' (by omega)).2)
 have I2:=hid (HI.out u3.drew a3 c3 S3.out.1.drew ((S3.out.2.2.1.below ((Below.refl _ u3).drew)).arg' (by omega)).2)
 clear bel DK NW SK bb hb hN hM SK2 DK2 S2
 go_wp2_with fail
 first | (go_region_with (first
  | (go_at_call 181
     first | with_reducible refine I1.out.mono ?_ | with_reducible refine I2.out.mono ?_
     rintro r u5 ⟨⟨v,rfl,hN⟩,hb⟩;have hb1:Below u3.heap.size u3 u5:=by first | exact hb | exact ((Below.refl _ u3).drew).trans (hb.mono (Nat.le_refl _))
     obtain ⟨a7,c7,rfl,_⟩:=hN.arg (by omega)
     obtain ⟨bel,DK,NR,NL,SK⟩:=S3.out;obtain ⟨i0,i1,i2,if0,if1,if2⟩:=(SK.below hb1).facts;obtain ⟨t0,t1,t2,tf0,tf1,tf2⟩:=(DK.below hb1).facts;have hN':Nt w.heap.size u5 (.slice a7 (ws V).length c7) V:=hN.mono bel.size;have FV:=(qsd (ai (bel.trans (hb1.mono bel.size)) (ai hN' (DK.below hb1))));clear hN hN' hb hb1 bel DK SK NR NL))) | fail
 all_goals (
  go_wp2;obtain ⟨bel,NZ,DK⟩:=FV.out;have hsz:=bel.size
  first
  | exact bodyPost_ret (sqrt_res _ (w.heap.size+1) dn (.slice a7 (ws V).length c7) de er _ rfl rfl (DK.set _ _ _)) rfl ⟨⟨_,rfl,NZ.st3k DK (by decide) _ _ _⟩,below_st3 bel hsz (by omega) _ _ _⟩
  | exact bodyPost_ret (sqrt_res _ (w.heap.size+1) dn (.slice a7 (ws V).length c7) de er _ rfl rfl (DK.set _ _ _)) rfl ⟨⟨_,rfl,NZ.st3k DK (by decide) _ _ _⟩,(below_st3 bel hsz (by omega) _ _ _).drew⟩)
end
section
open Go.RowKit
theorem form_res (W:World) (g:Nat) (n:Bool) (v:Value) (e:Int) (m:Bool) (u:Value) (f k:Int) (tmps:Array Value) (ht:tmps[2]?.getD undef=.pointer (some ⟨g,0,none⟩)) (hk:tmps[3]?.getD undef=.int .i64 k) (D:Rq W g n v e m u f) :
 (results Tryz.f203 tmps).run Tryz.prog W=.ok (.tuple #[.agg #[.bool n,v,.int .i64 e,.bool m,u,.int .i64 f],.int .i64 k]) W:=by
 obtain ⟨x0,x1,x2,x3,x4,x5⟩:=D.facts;simp [results,Tryz.results203,ht,hk,go_sem,x0,x1,x2,x3,x4,x5]
theorem form_begin (w:World) (n:Bool) (v:Value) (e:Int) (m:Bool) (u:Value) (f:Int) (W:World) (hW:W=(w.alloc (.cells #[.bool n,v,.int .i64 e,.bool m,u,.int .i64 f] 119)).alloc (.cells #[.bool false,.slice none 0 0,.int .i64 0,.bool false,.slice none 0 0,.int .i64 0] 119)) :
 Below w.heap.size w W∧W.heap.size=w.heap.size+2∧Rq W w.heap.size n v e m u f∧Rq W (w.heap.size+1) false (.slice none 0 0) 0 false (.slice none 0 0) 0:=by
 rw [hW];refine ⟨(below_alloc w _).alloc (by simp) _,by simp,(Rq.new _ _ _ _ _ _ _).alloc _,?_⟩
 have:=Rq.new (w.alloc (.cells #[.bool n,v,.int .i64 e,.bool m,u,.int .i64 f] 119)) false (.slice none 0 0) 0 false (.slice none 0 0) 0;simpa using this
theorem form_ok {w:World}{a b:Option Addr}{la ca lb cb:Nat}(n m:Bool) (e f:Int) (n1 m1:Bool) (X Y:Nat) (e1 f1:Int) (lX:(ws X).length≤8192) (lY:(ws Y).length≤8192)
 (H1:Hid (∀ u,Below w.heap.size w u→Calls Tryz.prog 108 #[.bool n,.slice a la ca,.int .i64 e] u fun r w'=>(∃ v,r=.returned (.tuple #[.agg #[.bool n1,v,.int .i64 e1],.int .i64 0])∧Nt u.heap.size w' v X)∧Below u.heap.size u w'))
 (H2:Hid (∀ u,Below w.heap.size w u→Calls Tryz.prog 108 #[.bool m,.slice b lb cb,.int .i64 f] u fun r w'=>(∃ v,r=.returned (.tuple #[.agg #[.bool m1,v,.int .i64 f1],.int .i64 0])∧Nt u.heap.size w' v Y)∧Below u.heap.size u w')) :
 Calls Tryz.prog 203 #[.agg #[.bool n,.slice a la ca,.int .i64 e,.bool m,.slice b lb cb,.int .i64 f]] w fun r w'=>(∃ v u,r=.returned (.tuple #[.agg #[.bool n1,v,.int .i64 e1,.bool m1,u,.int .i64 f1],.int .i64 0])∧Nt w.heap.size w' v X∧Nt w.heap.size w' u Y∧Ap v u)∧Below w.heap.size w w':=by
 obtain ⟨W1,hW1⟩:∃ U,U=(w.alloc (.cells #[.bool n,.slice a la ca,.int .i64 e,.bool m,.slice b lb cb,.int .i64 f] 119)).alloc (.cells #[.bool false,.slice none 0 0,.int .i64 0,.bool false,.slice none 0 0,.int .i64 0] 119):=⟨_,rfl⟩;obtain ⟨hB,hz1,RQ,RR⟩:=form_begin w n _ e m _ f W1 hW1;have hs2:w.heap.size+2≤W1.heap.size:=by omega
 have hbel:=hB;have S0:=(qsd (ai hbel (ai RQ RR)));clear hbel;clear hB RQ RR hz1;go_enter Tryz.func203,Tryz.ntmps203;obtain ⟨x0,x1,x2,x3,x4,x5⟩:=S0.out.2.1.facts;obtain ⟨bel,RQ,RR⟩:=S0.out;have HC:=hid (H1.out W1 bel);clear bel RQ RR
 go_upto_region 1 with fail
 rw [←hW1];clear hW1
 go_wp2_with fail
 clear x0 x1 x2 x3 x4 x5;refine HC.out.mono ?_;rintro r u1 ⟨⟨v,rfl,hN⟩,hb⟩;obtain ⟨a1,c1,rfl,_⟩:=hN.arg (by omega)
 clear HC;obtain ⟨bel,RQ,RR⟩:=S0.out;have hbn:=bel.trans (hb.mono bel.size);have S1:=qsd (ai hbn (ai (RQ.below hb) (ai (RR.below hb) (hN.mono bel.size))));clear bel RQ RR;clear hb hbn S0;clear hN;obtain ⟨U1,hU1⟩:∃ U,U=u1.alloc (.cells #[.bool n1,.slice a1 (ws X).length c1,.int .i64 e1] 47):=⟨_,rfl⟩;obtain ⟨bel,RQ,RR,NX⟩:=S1.out;have hbA:Below u1.heap.size u1 U1:=by rw [hU1];exact below_alloc _ _
 have TN:Tk U1 u1.heap.size 47 (.bool n1) (.slice a1 (ws X).length c1) (.int .i64 e1):=by rw [hU1];exact Tk.new _ _ _ _ _
 have hbn:=bel.trans (hbA.mono bel.size);have hgu:w.heap.size+2≤u1.heap.size:=by have:=RR.lt;omega
 have S2:=qsd (ai hbn (ai (RQ.below hbA) (ai (RR.below hbA) (ai (NX.below hbA) TN))));obtain ⟨x0,x1,x2,x3,x4,x5⟩:=(RQ.below hbA).facts;clear bel RQ RR NX;clear hbA hbn TN S1 H1;obtain ⟨bel,RQ,RR,NX,TN⟩:=S2.out;have HC:=hid (H2.out U1 bel);clear bel RQ RR NX TN
 go_upto_region 4 with fail
 rw [←hU1];clear hU1
 go_wp2_with fail
 clear x0 x1 x2 x3 x4 x5;refine HC.out.mono ?_;rintro r u3 ⟨⟨v,rfl,hN⟩,hb⟩;obtain ⟨a2,c2,rfl,_⟩:=hN.arg (by omega)
 clear HC;obtain ⟨bel,RQ,RR,NX,TN⟩:=S2.out;have hbn:=bel.trans (hb.mono bel.size);have S3:=qsd (ai hbn (ai (RQ.below hb) (ai (RR.below hb) (ai (NX.below hb) (ai (TN.below hb) (ai (hN.mono bel.size) (NX.ap hN)))))));clear bel RQ RR NX TN;clear hb hbn S2;clear hN;obtain ⟨U3,hU3⟩:∃ U,U=u3.alloc (.cells #[.bool m1,.slice a2 (ws Y).length c2,.int .i64 f1] 47):=⟨_,rfl⟩;obtain ⟨bel,RQ,RR,NX,TN,NY,AP⟩:=S3.out;have hbA:Below u3.heap.size u3 U3:=by rw [hU3];exact below_alloc _ _
 have TD:Tk U3 u3.heap.size 47 (.bool m1) (.slice a2 (ws Y).length c2) (.int .i64 f1):=by rw [hU3];exact Tk.new _ _ _ _ _
 have hbn:=bel.trans (hbA.mono bel.size);have SZ:=qsd (ai hbn (ai (RR.below hbA) (ai (NX.below hbA) (ai (NY.below hbA) AP))));obtain ⟨x0,x1,x2,_,_,_⟩:=(TN.below hbA).facts;obtain ⟨y0,y1,y2,_,_,_⟩:=TD.facts;obtain ⟨r0,r1,r2,r3,r4,r5⟩:=(RR.below hbA).facts;obtain ⟨rf0,rf1,rf2,rf3,rf4,rf5⟩:=(RR.below hbA).frz;clear bel RQ RR NX TN NY AP;clear hbA hbn TD S3 H2
 go_upto_region 5 with fail
 rw [←hU3];clear hU3;go_wp2;obtain ⟨bel,RR,NX,NY,AP⟩:=SZ.out;have hbl:=bel.size;refine bodyPost_ret (form_res _ (w.heap.size+1) n1 (.slice a1 (ws X).length c1) e1 m1 (.slice a2 (ws Y).length c2) f1 0 _ rfl rfl (RR.set _ _ _ _ _ _)) rfl ⟨⟨_,_,rfl,NX.st6k RR _ _ _ _ _ _,NY.st6k RR _ _ _ _ _ _,AP⟩,below_st6 bel hbl (by omega) _ _ _ _ _ _⟩
theorem form_bad1 {w:World}{a b:Option Addr}{la ca lb cb:Nat}(n m:Bool) (e f:Int) (n1 m1:Bool) (X Y:Nat) (e1 f1:Int) (lX:(ws X).length≤8192) (lY:(ws Y).length≤8192)
 (H1:Hid (∀ u,Below w.heap.size w u→Calls Tryz.prog 108 #[.bool n,.slice a la ca,.int .i64 e] u fun r w'=>(∃ v,r=.returned (.tuple #[.agg #[.bool n1,v,.int .i64 e1],.int .i64 2])∧Nt u.heap.size w' v X)∧Below u.heap.size u w'))
  :
 Calls Tryz.prog 203 #[.agg #[.bool n,.slice a la ca,.int .i64 e,.bool m,.slice b lb cb,.int .i64 f]] w fun r w'=>(∃ v u,r=.returned (.tuple #[.agg #[.bool false,v,.int .i64 0,.bool false,u,.int .i64 0],.int .i64 2])∧v=.slice none 0 0∧u=.slice none 0 0)∧Below w.heap.size w w':=by
 obtain ⟨W1,hW1⟩:∃ U,U=(w.alloc (.cells #[.bool n,.slice a la ca,.int .i64 e,.bool m,.slice b lb cb,.int .i64 f] 119)).alloc (.cells #[.bool false,.slice none 0 0,.int .i64 0,.bool false,.slice none 0 0,.int .i64 0] 119):=⟨_,rfl⟩;obtain ⟨hB,hz1,RQ,RR⟩:=form_begin w n _ e m _ f W1 hW1;have hs2:w.heap.size+2≤W1.heap.size:=by omega
 have hbel:=hB;have S0:=(qsd (ai hbel (ai RQ RR)));clear hbel;clear hB RQ RR hz1;go_enter Tryz.func203,Tryz.ntmps203;obtain ⟨x0,x1,x2,x3,x4,x5⟩:=S0.out.2.1.facts;obtain ⟨bel,RQ,RR⟩:=S0.out;have HC:=hid (H1.out W1 bel);clear bel RQ RR
 go_upto_region 1 with fail
 rw [←hW1];clear hW1
 go_wp2_with fail
 clear x0 x1 x2 x3 x4 x5;refine HC.out.mono ?_;rintro r u1 ⟨⟨v,rfl,hN⟩,hb⟩;obtain ⟨a1,c1,rfl,_⟩:=hN.arg (by omega)
 clear HC;obtain ⟨bel,RQ,RR⟩:=S0.out;have hbn:=bel.trans (hb.mono bel.size);have S1:=qsd (ai hbn (ai (RQ.below hb) (RR.below hb)));clear bel RQ RR;clear hb hbn S0;clear hN;obtain ⟨U1,hU1⟩:∃ U,U=u1.alloc (.cells #[.bool n1,.slice a1 (ws X).length c1,.int .i64 e1] 47):=⟨_,rfl⟩;obtain ⟨bel,RQ,RR⟩:=S1.out;have hbA:Below u1.heap.size u1 U1:=by rw [hU1];exact below_alloc _ _
 have hlast:=qsd (ai (bel.trans (hbA.mono bel.size)) (RR.below hbA));obtain ⟨r0,r1,r2,r3,r4,r5⟩:=(RR.below hbA).facts;obtain ⟨rf0,rf1,rf2,rf3,rf4,rf5⟩:=(RR.below hbA).frz;clear bel RQ RR;clear S1 H1 hbA
 go_upto_region 2 with fail
 rw [←hU1];clear hU1;go_wp2;obtain ⟨bel,RR⟩:=hlast.out;exact bodyPost_ret (form_res _ (w.heap.size+1) false (.slice none 0 0) 0 false (.slice none 0 0) 0 2 _ rfl rfl (RR.set _ _ _ _ _ _)) rfl ⟨⟨_,_,rfl,rfl,rfl⟩,below_st6 bel bel.size (by omega) _ _ _ _ _ _⟩
theorem form_bad2 {w:World}{a b:Option Addr}{la ca lb cb:Nat}(n m:Bool) (e f:Int) (n1 m1:Bool) (X Y:Nat) (e1 f1:Int) (lX:(ws X).length≤8192) (lY:(ws Y).length≤8192)
 (H1:Hid (∀ u,Below w.heap.size w u→Calls Tryz.prog 108 #[.bool n,.slice a la ca,.int .i64 e] u fun r w'=>(∃ v,r=.returned (.tuple #[.agg #[.bool n1,v,.int .i64 e1],.int .i64 0])∧Nt u.heap.size w' v X)∧Below u.heap.size u w'))
 (H2:Hid (∀ u,Below w.heap.size w u→Calls Tryz.prog 108 #[.bool m,.slice b lb cb,.int .i64 f] u fun r w'=>(∃ v,r=.returned (.tuple #[.agg #[.bool m1,v,.int .i64 f1],.int .i64 2])∧Nt u.heap.size w' v Y)∧Below u.heap.size u w')) :
 Calls Tryz.prog 203 #[.agg #[.bool n,.slice a la ca,.int .i64 e,.bool m,.slice b lb cb,.int .i64 f]] w fun r w'=>(∃ v u,r=.returned (.tuple #[.agg #[.bool false,v,.int .i64 0,.bool false,u,.int .i64 0],.int .i64 2])∧v=.slice none 0 0∧u=.slice none 0 0)∧Below w.heap.size w w':=by
 obtain ⟨W1,hW1⟩:∃ U,U=(w.alloc (.cells #[.bool n,.slice a la ca,.int .i64 e,.bool m,.slice b lb cb,.int .i64 f] 119)).alloc (.cells #[.bool false,.slice none 0 0,.int .i64 0,.bool false,.slice none 0 0,.int .i64 0] 119):=⟨_,rfl⟩;obtain ⟨hB,hz1,RQ,RR⟩:=form_begin w n _ e m _ f W1 hW1;have hs2:w.heap.size+2≤W1.heap.size:=by omega
 have hbel:=hB;have S0:=(qsd (ai hbel (ai RQ RR)));clear hbel;clear hB RQ RR hz1;go_enter Tryz.func203,Tryz.ntmps203;obtain ⟨x0,x1,x2,x3,x4,x5⟩:=S0.out.2.1.facts;obtain ⟨bel,RQ,RR⟩:=S0.out;have HC:=hid (H1.out W1 bel);clear bel RQ RR
 go_upto_region 1 with fail
 rw [←hW1];clear hW1
 go_wp2_with fail
 clear x0 x1 x2 x3 x4 x5;refine HC.out.mono ?_;rintro r u1 ⟨⟨v,rfl,hN⟩,hb⟩;obtain ⟨a1,c1,rfl,_⟩:=hN.arg (by omega)
 clear HC;obtain ⟨bel,RQ,RR⟩:=S0.out;have hbn:=bel.trans (hb.mono bel.size);have S1:=qsd (ai hbn (ai (RQ.below hb) (ai (RR.below hb) (hN.mono bel.size))));clear bel RQ RR;clear hb hbn S0;clear hN;obtain ⟨U1,hU1⟩:∃ U,U=u1.alloc (.cells #[.bool n1,.slice a1 (ws X).length c1,.int .i64 e1] 47):=⟨_,rfl⟩;obtain ⟨bel,RQ,RR,NX⟩:=S1.out;have hbA:Below u1.heap.size u1 U1:=by rw [hU1];exact below_alloc _ _
 have TN:Tk U1 u1.heap.size 47 (.bool n1) (.slice a1 (ws X).length c1) (.int .i64 e1):=by rw [hU1];exact Tk.new _ _ _ _ _
 have hbn:=bel.trans (hbA.mono bel.size);have hgu:w.heap.size+2≤u1.heap.size:=by have:=RR.lt;omega
 have S2:=qsd (ai hbn (ai (RQ.below hbA) (ai (RR.below hbA) (ai (NX.below hbA) TN))));obtain ⟨x0,x1,x2,x3,x4,x5⟩:=(RQ.below hbA).facts;clear bel RQ RR NX;clear hbA hbn TN S1 H1;obtain ⟨bel,RQ,RR,NX,TN⟩:=S2.out;have HC:=hid (H2.out U1 bel);clear bel RQ RR NX TN
 go_upto_region 4 with fail
 rw [←hU1];clear hU1
 go_wp2_with fail
 clear x0 x1 x2 x3 x4 x5;refine HC.out.mono ?_;rintro r u3 ⟨⟨v,rfl,hN⟩,hb⟩;obtain ⟨a2,c2,rfl,_⟩:=hN.arg (by omega)
 clear HC;obtain ⟨bel,RQ,RR,NX,TN⟩:=S2.out;have hbn:=bel.trans (hb.mono bel.size);have S3:=qsd (ai hbn (ai (RQ.below hb) (ai (RR.below hb) (ai (NX.below hb) (TN.below hb)))));clear bel RQ RR NX TN;clear hb hbn S2;clear hN;obtain ⟨U3,hU3⟩:∃ U,U=u3.alloc (.cells #[.bool m1,.slice a2 (ws Y).length c2,.int .i64 f1] 47):=⟨_,rfl⟩;obtain ⟨bel,RQ,RR,NX,TN⟩:=S3.out;have hbA:Below u3.heap.size u3 U3:=by rw [hU3];exact below_alloc _ _
 have hlast:=qsd (ai (bel.trans (hbA.mono bel.size)) (RR.below hbA));obtain ⟨r0,r1,r2,r3,r4,r5⟩:=(RR.below hbA).facts;obtain ⟨rf0,rf1,rf2,rf3,rf4,rf5⟩:=(RR.below hbA).frz;clear bel RQ RR NX TN;clear S3 H2 hbA
 go_upto_region 5 with fail
 rw [←hU3];clear hU3;go_wp2;obtain ⟨bel,RR⟩:=hlast.out;exact bodyPost_ret (form_res _ (w.heap.size+1) false (.slice none 0 0) 0 false (.slice none 0 0) 0 2 _ rfl rfl (RR.set _ _ _ _ _ _)) rfl ⟨⟨_,_,rfl,rfl,rfl⟩,below_st6 bel bel.size (by omega) _ _ _ _ _ _⟩
end
end Go.Proofs.YthfkleadcnkglaaGreatDoor
