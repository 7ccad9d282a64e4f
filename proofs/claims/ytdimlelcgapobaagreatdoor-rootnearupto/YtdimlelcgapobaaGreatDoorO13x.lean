import Derived.Test.YtdimlelcgapobaaGreatDoorZ10x
import Derived.Test.YtdimlelcgapobaaGreatDoorD23x
import Derived.Deep.Cut
import Derived.Test.YtdimlelcgapobaaGreatDoorD1x
import Derived.Test.YtdimlelcgapobaaGreatDoorZ8x
import Derived.Laws.FloatArith
set_option linter.unusedVariables false
set_option linter.unusedSimpArgs false
set_option maxHeartbeats 16000000
set_option maxRecDepth 20000
namespace Go.Proofs.YtdimlelcgapobaaGreatDoor
namespace S
open Go.RowKit
theorem placed_far64 {w:World}{a:Option Addr}{l c:Nat}(n:Bool) (X:Nat) (e:Int) (b:Nat) (he0:-1048576≤e) (he1:e≤1048576) (hb:b≤262144) (hfar:128<e+(b:Int))
 (HL:Hid (∀ u,Below w.heap.size w u→Calls Tryz.prog 82 #[.slice a l c] u fun r w'=>r=.returned (.int .i64 (b:Nat))∧w'=u)) :
 Calls Tryz.prog 114 #[.agg #[.bool n,.slice a l c,.int .i64 e],.agg #[.int .i64 24,.int .i64 (-149),.int .i64 128]] w fun r w'=>r=.returned (.agg #[.int .u64 16777215,.int .i64 104,.bool false,.int .i64 1])∧Below w.heap.size w w':=by
 obtain ⟨W1,hW1⟩:∃ W,W=((w.alloc (.cells #[.bool n,.slice a l c,.int .i64 e] 27)).alloc (.cells #[.int .i64 24,.int .i64 (-149),.int .i64 128] 106)).alloc (.cells #[.int .u64 0,.int .i64 0,.bool false,.int .i64 0] 133):=⟨_,rfl⟩;obtain ⟨hB,hz1,DD,DW,DP⟩:=placed_begin w n (.slice a l c) e 24 (-149) 128 W1 hW1;have H1:=hid (HL.out W1 hB);obtain ⟨x0,x1,x2,xf0,xf1,xf2⟩:=DD.facts;obtain ⟨y0,y1,y2⟩:=DW.facts;obtain ⟨p0,p1,p2,p3,pf0,pf1,pf2,pf3⟩:=DP.facts;have F0:=sd (show Fin w.heap.size (w.heap.size+3) w W1 (.slice none 0 0) 0 from ⟨Nt.nil _ _,hB,by omega⟩)
 have SB:=(sd (ai hB (ai hz1 DP)));clear hB hz1 DD DW DP HL;go_enter Tryz.func114,Tryz.ntmps114
 go_wp2_with fail
 rw [←hW1];clear hW1;refine H1.out.mono ?_;rintro r ww ⟨rfl,hw⟩;rw [hw];clear hw ww H1;go_wp2
 go_region
 all_goals (
  go_wp2;refine bodyPost_ret (placed_res _ (w.heap.size+1+1) 16777215 104 false 1 _ rfl (by repeat (with_reducible first | exact SB.out.2.2 | refine Pk.drew ?_ | refine Pk.set (f:=0) (e:=0) (t:=false) (m:=0) ?_ _ _ _ _))) rfl ⟨rfl,?_⟩
  refine Fin.bel (m:=w.heap.size+3) (v:=.slice none 0 0) (X:=0) ?_
  repeat (with_reducible first | exact F0.out | refine Fin.drew ?_ | refine Fin.alloc ?_ _ | refine Fin.set ?_ _ _ _ (by omega) (by omega)))
theorem placed_64one {w:World}{a:Option Addr}{l c:Nat}(n:Bool) (e ex off:Int) (b F:Nat) (he0:-1048576≤e) (he1:e≤1048576) (hb:b≤262144) (hF:F<18446744073709551616) (lF:(ws F).length≤100) (hnf:e+(b:Int)≤128)
 (hmx:max (e+(b:Int)-24) (-149)=ex) (eof:ex-e=off) (hex0:-2000≤ex) (hex1:ex≤2000) (hof0:-2000000≤off) (hof1:off≤2000000) (tt:Bool) (htt:decide (off≤0)=tt) (ho:(off==1)=true)
 (HL:Hid (∀ u,Below w.heap.size w u→Calls Tryz.prog 82 #[.slice a l c] u fun r w'=>r=.returned (.int .i64 (b:Nat))∧w'=u))
 (HS:Hid (∀ u,Below w.heap.size w u→Calls Tryz.prog 89 #[.slice a l c,.int .i64 (-off)] u fun r w'=>∃ v,r=.returned (.tuple #[v,.int .i64 0])∧Nt u.heap.size w' v F∧Below u.heap.size u w'))
 (HM:Hid (∀ (u:World) (p:Option Addr) (q:Nat),Arg u p (ws F).length q (ws F)→Calls Tryz.prog 152 #[.slice p (ws F).length q] u fun r w'=>r=.returned (.tuple #[.int .u64 (F:Nat),.int .i64 0])∧w'=u)) :
 Calls Tryz.prog 114 #[.agg #[.bool n,.slice a l c,.int .i64 e],.agg #[.int .i64 24,.int .i64 (-149),.int .i64 128]] w fun r w'=>r=.returned (.agg #[.int .u64 (F:Nat),.int .i64 ex,.bool tt,.int .i64 0])∧Below w.heap.size w w':=by
 obtain ⟨W1,hW1⟩:∃ W,W=((w.alloc (.cells #[.bool n,.slice a l c,.int .i64 e] 27)).alloc (.cells #[.int .i64 24,.int .i64 (-149),.int .i64 128] 106)).alloc (.cells #[.int .u64 0,.int .i64 0,.bool false,.int .i64 0] 133):=⟨_,rfl⟩;obtain ⟨hB,hz1,DD,DW,DP⟩:=placed_begin w n (.slice a l c) e 24 (-149) 128 W1 hW1;have H1:=hid (HL.out W1 hB);have H2:=hid (HS.out W1 hB);obtain ⟨x0,x1,x2,xf0,xf1,xf2⟩:=DD.facts;obtain ⟨y0,y1,y2⟩:=DW.facts;have SB:=(sd (ai hB (ai hz1 (ai DD DP))));clear hB hz1 DD DW DP HL HS;go_enter Tryz.func114,Tryz.ntmps114
 go_wp2_with fail
 rw [←hW1];clear hW1;refine H1.out.mono ?_;rintro r ww ⟨rfl,hw⟩;rw [hw];clear hw ww H1
 go_wp2_with fail
 try simp only [hmx,eof]
 refine H2.out.mono ?_;rintro r u1 ⟨v,rfl,hN,hbb⟩;obtain ⟨a1,c1,rfl,A1⟩:=hN.arg (by omega)
 obtain ⟨hB,hz1,DD,DP⟩:=SB.out;have H3:=hid (HM.out u1 a1 c1 A1);obtain ⟨z0,z1,z2,zf0,zf1,zf2⟩:=(DD.below hbb).facts;have DP1:=DP.below hbb;obtain ⟨p0,p1,p2,p3,pf0,pf1,pf2,pf3⟩:=DP1.facts;have F0:=sd (show Fin w.heap.size (w.heap.size+3) w u1 (.slice none 0 0) 0 from ⟨Nt.nil _ _,hB.trans (hbb.mono (by omega)),by have:=hbb.size;omega⟩)
 have hz:w.heap.size+1+1<u1.heap.size:=by have:=hbb.size;omega
 have hz':w.heap.size<u1.heap.size:=by omega
 have SP:=sd DP1;clear hN hbb A1 hB hz1 DD DP DP1 H2 HM SB
 go_wp2_with fail
 try simp only [hmx,eof]
 refine H3.out.mono ?_;rintro r ww ⟨rfl,hw⟩;rw [hw];clear hw ww H3;go_wp2;refine bodyPost_ret (placed_res _ (w.heap.size+1+1) (F:Nat) ex tt 0 _ rfl (by repeat (with_reducible first | exact SP.out | refine Pk.alloc ?_ _ | refine Pk.drew ?_ | refine Pk.set (f:=0) (e:=0) (t:=false) (m:=0) ?_ _ _ _ _))) rfl ⟨rfl,?_⟩
 refine Fin.bel (m:=w.heap.size+3) (v:=.slice none 0 0) (X:=0) ?_
 repeat (with_reducible first | exact F0.out | refine Fin.drew ?_ | refine Fin.alloc ?_ _ | refine Fin.set ?_ _ _ _ (by omega) (by omega))
theorem placed_64bt {w:World}{a:Option Addr}{l c:Nat}(n:Bool) (e ex off:Int) (b F:Nat) (he0:-1048576≤e) (he1:e≤1048576) (hb:b≤262144) (hF:F<18446744073709551616) (lF:(ws F).length≤100) (hnf:e+(b:Int)≤128)
 (hmx:max (e+(b:Int)-24) (-149)=ex) (eof:ex-e=off) (hex0:-2000≤ex) (hex1:ex≤2000) (hof0:-2000000≤off) (hof1:off≤2000000) (tt:Bool) (htt:decide (off≤0)=tt) (ho:(off==1)=false)
 (HL:Hid (∀ u,Below w.heap.size w u→Calls Tryz.prog 82 #[.slice a l c] u fun r w'=>r=.returned (.int .i64 (b:Nat))∧w'=u))
 (HS:Hid (∀ u,Below w.heap.size w u→Calls Tryz.prog 89 #[.slice a l c,.int .i64 (-off)] u fun r w'=>∃ v,r=.returned (.tuple #[v,.int .i64 0])∧Nt u.heap.size w' v F∧Below u.heap.size u w'))
 (HM:Hid (∀ (u:World) (p:Option Addr) (q:Nat),Arg u p (ws F).length q (ws F)→Calls Tryz.prog 152 #[.slice p (ws F).length q] u fun r w'=>r=.returned (.tuple #[.int .u64 (F:Nat),.int .i64 0])∧w'=u))
 (HB:Hid (∀ u,Below w.heap.size w u→Calls Tryz.prog 118 #[.slice a l c,.int .i64 (off-1)] u fun r w'=>r=.returned (.bool true)∧w'=u)) :
 Calls Tryz.prog 114 #[.agg #[.bool n,.slice a l c,.int .i64 e],.agg #[.int .i64 24,.int .i64 (-149),.int .i64 128]] w fun r w'=>r=.returned (.agg #[.int .u64 (F:Nat),.int .i64 ex,.bool tt,.int .i64 1])∧Below w.heap.size w w':=by
 obtain ⟨W1,hW1⟩:∃ W,W=((w.alloc (.cells #[.bool n,.slice a l c,.int .i64 e] 27)).alloc (.cells #[.int .i64 24,.int .i64 (-149),.int .i64 128] 106)).alloc (.cells #[.int .u64 0,.int .i64 0,.bool false,.int .i64 0] 133):=⟨_,rfl⟩;obtain ⟨hB,hz1,DD,DW,DP⟩:=placed_begin w n (.slice a l c) e 24 (-149) 128 W1 hW1;have H1:=hid (HL.out W1 hB);have H2:=hid (HS.out W1 hB);obtain ⟨x0,x1,x2,xf0,xf1,xf2⟩:=DD.facts;obtain ⟨y0,y1,y2⟩:=DW.facts;have SB:=(sd (ai hB (ai hz1 (ai DD DP))));clear hB hz1 DD DW DP HL HS;go_enter Tryz.func114,Tryz.ntmps114
 go_wp2_with fail
 rw [←hW1];clear hW1;refine H1.out.mono ?_;rintro r ww ⟨rfl,hw⟩;rw [hw];clear hw ww H1
 go_wp2_with fail
 try simp only [hmx,eof]
 refine H2.out.mono ?_;rintro r u1 ⟨v,rfl,hN,hbb⟩;obtain ⟨a1,c1,rfl,A1⟩:=hN.arg (by omega)
 obtain ⟨hB,hz1,DD,DP⟩:=SB.out;have H3:=hid (HM.out u1 a1 c1 A1);obtain ⟨z0,z1,z2,zf0,zf1,zf2⟩:=(DD.below hbb).facts;have DP1:=DP.below hbb;obtain ⟨p0,p1,p2,p3,pf0,pf1,pf2,pf3⟩:=DP1.facts;have F0:=sd (show Fin w.heap.size (w.heap.size+3) w u1 (.slice none 0 0) 0 from ⟨Nt.nil _ _,hB.trans (hbb.mono (by omega)),by have:=hbb.size;omega⟩)
 have hz:w.heap.size+1+1<u1.heap.size:=by have:=hbb.size;omega
 have hz':w.heap.size<u1.heap.size:=by omega
 have SP:=sd DP1;clear hN hbb A1 hB hz1 DD DP DP1 H2 HM SB
 go_wp2_with fail
 try simp only [hmx,eof]
 refine H3.out.mono ?_;rintro r ww ⟨rfl,hw⟩;rw [hw];clear hw ww H3;have H4:=hid (HB.out (u1.alloc (.cells #[.int .u64 (F:Nat),.int .i64 ex,.bool tt,.int .i64 (-1)] 133)) (F0.out.bel.alloc F0.out.size _));clear HB
 go_wp2_with fail
 try simp only [hmx,eof,htt]
 refine H4.out.mono ?_;rintro r ww ⟨rfl,hw⟩;rw [hw];clear hw ww H4;go_wp2;refine bodyPost_ret (placed_res _ (w.heap.size+1+1) (F:Nat) ex tt 1 _ rfl (by repeat (with_reducible first | exact SP.out | refine Pk.alloc ?_ _ | refine Pk.drew ?_ | refine Pk.set (f:=0) (e:=0) (t:=false) (m:=0) ?_ _ _ _ _))) rfl ⟨rfl,?_⟩
 refine Fin.bel (m:=w.heap.size+3) (v:=.slice none 0 0) (X:=0) ?_
 repeat (with_reducible first | exact F0.out | refine Fin.drew ?_ | refine Fin.alloc ?_ _ | refine Fin.set ?_ _ _ _ (by omega) (by omega))
theorem placed_64bf {w:World}{a:Option Addr}{l c:Nat}(n:Bool) (e ex off:Int) (b F:Nat) (he0:-1048576≤e) (he1:e≤1048576) (hb:b≤262144) (hF:F<18446744073709551616) (lF:(ws F).length≤100) (hnf:e+(b:Int)≤128)
 (hmx:max (e+(b:Int)-24) (-149)=ex) (eof:ex-e=off) (hex0:-2000≤ex) (hex1:ex≤2000) (hof0:-2000000≤off) (hof1:off≤2000000) (tt:Bool) (htt:decide (off≤0)=tt) (ho:(off==1)=false)
 (HL:Hid (∀ u,Below w.heap.size w u→Calls Tryz.prog 82 #[.slice a l c] u fun r w'=>r=.returned (.int .i64 (b:Nat))∧w'=u))
 (HS:Hid (∀ u,Below w.heap.size w u→Calls Tryz.prog 89 #[.slice a l c,.int .i64 (-off)] u fun r w'=>∃ v,r=.returned (.tuple #[v,.int .i64 0])∧Nt u.heap.size w' v F∧Below u.heap.size u w'))
 (HM:Hid (∀ (u:World) (p:Option Addr) (q:Nat),Arg u p (ws F).length q (ws F)→Calls Tryz.prog 152 #[.slice p (ws F).length q] u fun r w'=>r=.returned (.tuple #[.int .u64 (F:Nat),.int .i64 0])∧w'=u))
 (HB:Hid (∀ u,Below w.heap.size w u→Calls Tryz.prog 118 #[.slice a l c,.int .i64 (off-1)] u fun r w'=>r=.returned (.bool false)∧w'=u)) :
 Calls Tryz.prog 114 #[.agg #[.bool n,.slice a l c,.int .i64 e],.agg #[.int .i64 24,.int .i64 (-149),.int .i64 128]] w fun r w'=>r=.returned (.agg #[.int .u64 (F:Nat),.int .i64 ex,.bool tt,.int .i64 (-1)])∧Below w.heap.size w w':=by
 obtain ⟨W1,hW1⟩:∃ W,W=((w.alloc (.cells #[.bool n,.slice a l c,.int .i64 e] 27)).alloc (.cells #[.int .i64 24,.int .i64 (-149),.int .i64 128] 106)).alloc (.cells #[.int .u64 0,.int .i64 0,.bool false,.int .i64 0] 133):=⟨_,rfl⟩;obtain ⟨hB,hz1,DD,DW,DP⟩:=placed_begin w n (.slice a l c) e 24 (-149) 128 W1 hW1;have H1:=hid (HL.out W1 hB);have H2:=hid (HS.out W1 hB);obtain ⟨x0,x1,x2,xf0,xf1,xf2⟩:=DD.facts;obtain ⟨y0,y1,y2⟩:=DW.facts;have SB:=(sd (ai hB (ai hz1 (ai DD DP))));clear hB hz1 DD DW DP HL HS;go_enter Tryz.func114,Tryz.ntmps114
 go_wp2_with fail
 rw [←hW1];clear hW1;refine H1.out.mono ?_;rintro r ww ⟨rfl,hw⟩;rw [hw];clear hw ww H1
 go_wp2_with fail
 try simp only [hmx,eof]
 refine H2.out.mono ?_;rintro r u1 ⟨v,rfl,hN,hbb⟩;obtain ⟨a1,c1,rfl,A1⟩:=hN.arg (by omega)
 obtain ⟨hB,hz1,DD,DP⟩:=SB.out;have H3:=hid (HM.out u1 a1 c1 A1);obtain ⟨z0,z1,z2,zf0,zf1,zf2⟩:=(DD.below hbb).facts;have DP1:=DP.below hbb;obtain ⟨p0,p1,p2,p3,pf0,pf1,pf2,pf3⟩:=DP1.facts;have F0:=sd (show Fin w.heap.size (w.heap.size+3) w u1 (.slice none 0 0) 0 from ⟨Nt.nil _ _,hB.trans (hbb.mono (by omega)),by have:=hbb.size;omega⟩)
 have hz:w.heap.size+1+1<u1.heap.size:=by have:=hbb.size;omega
 have hz':w.heap.size<u1.heap.size:=by omega
 have SP:=sd DP1;clear hN hbb A1 hB hz1 DD DP DP1 H2 HM SB
 go_wp2_with fail
 try simp only [hmx,eof]
 refine H3.out.mono ?_;rintro r ww ⟨rfl,hw⟩;rw [hw];clear hw ww H3;have H4:=hid (HB.out (u1.alloc (.cells #[.int .u64 (F:Nat),.int .i64 ex,.bool tt,.int .i64 (-1)] 133)) (F0.out.bel.alloc F0.out.size _));clear HB
 go_wp2_with fail
 try simp only [hmx,eof,htt]
 refine H4.out.mono ?_;rintro r ww ⟨rfl,hw⟩;rw [hw];clear hw ww H4;go_wp2;refine bodyPost_ret (placed_res _ (w.heap.size+1+1) (F:Nat) ex tt (-1) _ rfl (by repeat (with_reducible first | exact SP.out | refine Pk.alloc ?_ _ | refine Pk.drew ?_ | refine Pk.set (f:=0) (e:=0) (t:=false) (m:=0) ?_ _ _ _ _))) rfl ⟨rfl,?_⟩
 refine Fin.bel (m:=w.heap.size+3) (v:=.slice none 0 0) (X:=0) ?_
 repeat (with_reducible first | exact F0.out | refine Fin.drew ?_ | refine Fin.alloc ?_ _ | refine Fin.set ?_ _ _ _ (by omega) (by omega))
theorem placed_any {w:World}{a:Option Addr}{l c:Nat}{X:Nat}(hA:Arg w a l c (ws X)) (n:Bool) (e:Int) (he0:-1048576≤e) (he1:e≤1048576) (hX:X≠0) (hl:bl X≤262144) :
 Calls Tryz.prog 114 #[.agg #[.bool n,.slice a l c,.int .i64 e],.agg #[.int .i64 24,.int .i64 (-149),.int .i64 128]] w fun r w' =>
  r=.returned (.agg #[.int .u64 ((plc 24 (-149) 128 X e).1:Nat),.int .i64 (plc 24 (-149) 128 X e).2.1,.bool (plc 24 (-149) 128 X e).2.2.1,.int .i64 (plc 24 (-149) 128 X e).2.2.2])∧Below w.heap.size w w':=by
 have pf:=plc_facts X e hX he0 he1
 have HL:Hid (∀ u,Below w.heap.size w u→Calls Tryz.prog 82 #[.slice a l c] u fun r w'=>r=.returned (.int .i64 (bl X:Nat))∧w'=u):=by
  intro u hu;have A:=hA.below hu;have:=len_any (ws X) a l c u.heap.size u A.len A.cap (by have:=A.big;omega) A.wf A.rd
  rw [val_ws] at this;exact this
 have hb:=bl_pos X hX
 by_cases hf:128<e+(bl X:Int)
 · have hp:plc 24 (-149) 128 X e=(16777215,104,false,1):=by unfold plc;rw [if_pos hf];rfl
   rw [hp];exact placed_far64 n X e (bl X) he0 he1 hl hf HL
 · obtain ⟨ex,hex⟩:∃ ex,max (e+(bl X:Int)-24) (-149)=ex:=⟨_,rfl⟩
   obtain ⟨off,hof⟩:∃ off,ex-e=off:=⟨_,rfl⟩;have hexb:-2000≤ex∧ex≤2000:=by omega
   have hp:plc 24 (-149) 128 X e=if off≤0 then (X*2^(-off).toNat,ex,true,-1) else (X/2^off.toNat,ex,false,if off=1 then 0 else if X/2^(off-1).toNat%2=1 then 1 else -1):=by
    unfold plc;rw [if_neg hf];simp only;rw [show ((24:Nat):Int)=24 from rfl,hex,hof]
   obtain ⟨F,hFe⟩:∃ F,(plc 24 (-149) 128 X e).1=F:=⟨_,rfl⟩;have hF:F≤16777215:=by rw [←hFe];exact pf.1
   have lF:(ws F).length≤100:=by have:=ws_len_bl F;have:=B.bl_le53' F (by omega);omega
   have hsh:shiftS X (-off)=(F,0):=by
    rw [←hFe,hp]
    by_cases ho:off≤0
    · rw [if_pos ho,shift_up X (-off) (by omega) hX hl,if_neg (by omega)]
    · obtain ⟨k,hk⟩:∃ k:Nat,off=(k:Int):=⟨off.toNat,by omega⟩
      rw [if_neg ho,hk,shift_down X k hX hl (by omega),Int.toNat_natCast]
   have HS:Hid (∀ u,Below w.heap.size w u→Calls Tryz.prog 89 #[.slice a l c,.int .i64 (-off)] u fun r w'=>∃ v,r=.returned (.tuple #[v,.int .i64 0])∧Nt u.heap.size w' v F∧Below u.heap.size u w'):=by
    intro u hu;have A:=hA.below hu;exact Shift_arg (-off) A (by rw [val_ws];exact hsh) (by omega) (by omega)
   have HM:Hid (∀ (u:World) (p:Option Addr) (q:Nat),Arg u p (ws F).length q (ws F)→Calls Tryz.prog 152 #[.slice p (ws F).length q] u fun r w'=>r=.returned (.tuple #[.int .u64 (F:Nat),.int .i64 0])∧w'=u):=fun u p q hA=>small_ws (by omega) hA
   have HB:∀ t:Bool,(if off-1<0 then false else decide (X/2^(off-1).toNat%2=1))=t→Hid (∀ u,Below w.heap.size w u→Calls Tryz.prog 118 #[.slice a l c,.int .i64 (off-1)] u fun r w'=>r=.returned (.bool t)∧w'=u):=by
    intro t ht u hu;have A:=hA.below hu
    by_cases h0:off-1<0
    · rw [if_pos h0] at ht;subst ht;exact bit_neg a l c (off-1) u h0
    · rw [if_neg h0] at ht
      obtain ⟨k,hk⟩:∃ k:Nat,off-1=(k:Int):=⟨(off-1).toNat,by omega⟩
      have:=bit_any (ws X) a l c u.heap.size k u A.len A.wf A.rd (by omega)
      rw [val_ws] at this;rw [hk] at ht ⊢;rw [Int.toNat_natCast] at ht;rw [ht] at this;exact this
   rw [hFe]
   by_cases h1:off=1
   · have:=placed_64one n e ex off (bl X) F he0 he1 hl (by omega) lF (by omega) hex hof hexb.1 hexb.2 (by omega) (by omega) false (decide_eq_false (by omega)) (by simp [h1]) HL HS HM
     rw [hp,if_neg (by omega)]
     simp only [h1,if_true];exact this
   · have h1':(off==1)=false:=by simp [h1]
     by_cases ho:off≤0
     · have:=placed_64bf n e ex off (bl X) F he0 he1 hl (by omega) lF (by omega) hex hof hexb.1 hexb.2 (by omega) (by omega) true (decide_eq_true ho) h1' HL HS HM (HB false (by rw [if_pos (by omega)]))
       rw [hp,if_pos ho];exact this
     · rw [hp,if_neg ho]
       simp only [if_neg h1]
       by_cases hbt:X/2^(off-1).toNat%2=1
       · have:=placed_64bt n e ex off (bl X) F he0 he1 hl (by omega) lF (by omega) hex hof hexb.1 hexb.2 (by omega) (by omega) false (decide_eq_false ho) h1' HL HS HM (HB true (by rw [if_neg (by omega)];exact decide_eq_true hbt))
         rw [if_pos hbt];exact this
       · have:=placed_64bf n e ex off (bl X) F he0 he1 hl (by omega) lF (by omega) hex hof hexb.1 hexb.2 (by omega) (by omega) false (decide_eq_false ho) h1' HL HS HM (HB false (by rw [if_neg (by omega)];exact decide_eq_false hbt))
         rw [if_neg hbt];exact this
theorem round_mode (n:Bool) (a:Option Addr) (l c:Nat) (e mode:Int) (w:World) (hm:mode<0∨4<mode) :
 Calls Tryz.prog 79 #[.agg #[.bool n,.slice a l c,.int .i64 e],.int .i64 mode,.agg #[.int .i64 24,.int .i64 (-149),.int .i64 128]] w fun r w'=>r=.returned (.tuple #[.float .f64 0,.int .i64 1])∧Below w.heap.size w w':=by
 have HB:=sd (show Below w.heap.size w ((w.alloc (.cells #[.bool n,.slice a l c,.int .i64 e] 27)).alloc (.cells #[.int .i64 24,.int .i64 (-149),.int .i64 128] 106)) from (below_alloc w _).alloc (by simp) _)
 rcases hm with h|h
 · go_enter Tryz.func79,Tryz.ntmps79
   go_wp2
   go_ret2
   exact ⟨rfl,HB.out⟩
 · have h':decide (mode<0)=false:=decide_eq_false (by omega)
   go_enter Tryz.func79,Tryz.ntmps79;go_wp2
   go_ret2
   exact ⟨rfl,HB.out⟩
theorem round_err {w:World}{a:Option Addr}{l c:Nat}(n:Bool) (e mode:Int) (n1:Bool) (X:Nat) (e1 er:Int) (lX:(ws X).length≤8192) (hm0:0≤mode) (hm4:mode≤4) (her:(er != 0)=true)
 (HF:Hid (∀ u,Below w.heap.size w u→Calls Tryz.prog 94 #[.agg #[.bool n,.slice a l c,.int .i64 e]] u fun r w'=>(∃ v,r=.returned (.tuple #[.agg #[.bool n1,v,.int .i64 e1],.int .i64 er])∧Nt u.heap.size w' v X)∧Below u.heap.size u w')) :
 Calls Tryz.prog 79 #[.agg #[.bool n,.slice a l c,.int .i64 e],.int .i64 mode,.agg #[.int .i64 24,.int .i64 (-149),.int .i64 128]] w fun r w'=>r=.returned (.tuple #[.float .f64 0,.int .i64 er])∧Below w.heap.size w w':=by
 obtain ⟨W1,hW1⟩:∃ W,W=(w.alloc (.cells #[.bool n,.slice a l c,.int .i64 e] 27)).alloc (.cells #[.int .i64 24,.int .i64 (-149),.int .i64 128] 106):=⟨_,rfl⟩;obtain ⟨hB,hz1,DD,DW⟩:=round_begin w n (.slice a l c) e 24 (-149) 128 W1 hW1;have H1:=hid (HF.out W1 hB);have SB:=(sd (ai hB (ai hz1 DW)));clear hB hz1 DD DW HF;go_enter Tryz.func79,Tryz.ntmps79
 go_wp2_with fail
 rw [←hW1];clear hW1;refine H1.out.mono ?_;rintro r u1 ⟨⟨v,rfl,hN⟩,hb⟩;obtain ⟨a1,c1,rfl,_⟩:=hN.arg (by omega)
 obtain ⟨hB,hz1,DW⟩:=SB.out;have SF:=sd (hB.trans (hb.mono (by omega)))
 have hz:w.heap.size≤u1.heap.size:=by have:=hb.size;omega
 clear hN hb H1 hB hz1 DW SB;go_wp2
 go_ret2
 exact ⟨rfl,SF.out.alloc hz _⟩
theorem round_none {w:World}{a:Option Addr}{l c:Nat}(n:Bool) (e mode:Int) (n1:Bool) (X:Nat) (e1:Int) (lX:(ws X).length=0) (hm0:0≤mode) (hm4:mode≤4)
 (HF:Hid (∀ u,Below w.heap.size w u→Calls Tryz.prog 94 #[.agg #[.bool n,.slice a l c,.int .i64 e]] u fun r w'=>(∃ v,r=.returned (.tuple #[.agg #[.bool n1,v,.int .i64 e1],.int .i64 0])∧Nt u.heap.size w' v X)∧Below u.heap.size u w')) :
 Calls Tryz.prog 79 #[.agg #[.bool n,.slice a l c,.int .i64 e],.int .i64 mode,.agg #[.int .i64 24,.int .i64 (-149),.int .i64 128]] w fun r w'=>r=.returned (.tuple #[.float .f64 0,.int .i64 0])∧Below w.heap.size w w':=by
 obtain ⟨W1,hW1⟩:∃ W,W=(w.alloc (.cells #[.bool n,.slice a l c,.int .i64 e] 27)).alloc (.cells #[.int .i64 24,.int .i64 (-149),.int .i64 128] 106):=⟨_,rfl⟩;obtain ⟨hB,hz1,DD,DW⟩:=round_begin w n (.slice a l c) e 24 (-149) 128 W1 hW1;have H1:=hid (HF.out W1 hB);have SB:=(sd (ai hB (ai hz1 DW)));clear hB hz1 DD DW HF;go_enter Tryz.func79,Tryz.ntmps79
 go_wp2_with fail
 rw [←hW1];clear hW1;refine H1.out.mono ?_;rintro r u1 ⟨⟨v,rfl,hN⟩,hb⟩;obtain ⟨a1,c1,rfl,_⟩:=hN.arg (by omega)
 obtain ⟨hB,hz1,DW⟩:=SB.out;have SF:=sd (hB.trans (hb.mono (by omega)))
 have hz:w.heap.size≤u1.heap.size:=by have:=hb.size;omega
 clear hN hb H1 hB hz1 DW SB;rw [lX];go_wp2
 go_ret2
 exact ⟨rfl,SF.out.alloc hz _⟩
theorem round_tf {w:World}{a:Option Addr}{l c:Nat}(n:Bool) (e mode:Int) (X:Nat) (e1:Int) (lX:(ws X).length≤8192) (hX:((((ws X).length:Nat):Int)==0)=false) (hm0:0≤mode) (hm4:mode≤4)
 (F cw K K2:Nat) (ex mid:Int) (hF:F≤16777215) (ecv:floatOfInt .f64 (F:Int)=cw)
 (HF:Hid (∀ u,Below w.heap.size w u→Calls Tryz.prog 94 #[.agg #[.bool n,.slice a l c,.int .i64 e]] u fun r w'=>(∃ v,r=.returned (.tuple #[.agg #[.bool false,v,.int .i64 e1],.int .i64 0])∧Nt u.heap.size w' v X)∧Below u.heap.size u w'))
 (HP:Hid (∀ (u:World) (p:Option Addr) (q:Nat),Arg u p (ws X).length q (ws X)→Calls Tryz.prog 114 #[.agg #[.bool false,.slice p (ws X).length q,.int .i64 e1],.agg #[.int .i64 24,.int .i64 (-149),.int .i64 128]] u fun r w'=>r=.returned (.agg #[.int .u64 (F:Nat),.int .i64 ex,.bool true,.int .i64 mid])∧Below u.heap.size u w'))
 (HD:Hid (∀ u,Calls Tryz.prog 116 #[.float .f64 cw,.int .i64 ex] u fun r w'=>r=.returned (.float .f64 K)∧w'=u)) :
 Calls Tryz.prog 79 #[.agg #[.bool n,.slice a l c,.int .i64 e],.int .i64 mode,.agg #[.int .i64 24,.int .i64 (-149),.int .i64 128]] w fun r w'=>r=.returned (.tuple #[.float .f64 K,.int .i64 0])∧Below w.heap.size w w':=by
 obtain ⟨W1,hW1⟩:∃ W,W=(w.alloc (.cells #[.bool n,.slice a l c,.int .i64 e] 27)).alloc (.cells #[.int .i64 24,.int .i64 (-149),.int .i64 128] 106):=⟨_,rfl⟩;obtain ⟨hB,hz1,DD,DW⟩:=round_begin w n (.slice a l c) e 24 (-149) 128 W1 hW1;have H1:=hid (HF.out W1 hB);have SB:=(sd (ai hB (ai hz1 DW)));clear hB hz1 DD DW HF;go_enter Tryz.func79,Tryz.ntmps79
 go_wp2_with fail
 rw [←hW1];clear hW1;refine H1.out.mono ?_;rintro r u1 ⟨⟨v,rfl,hN⟩,hb⟩;obtain ⟨a1,c1,rfl,_⟩:=hN.arg (by omega)
 obtain ⟨hB,hz1,DW⟩:=SB.out;obtain ⟨W2,hW2⟩:∃ W,W=u1.alloc (.cells #[.bool false,.slice a1 (ws X).length c1,.int .i64 e1] 27):=⟨_,rfl⟩;have hbW:Below u1.heap.size u1 W2:=by rw [hW2];exact below_alloc u1 _
 have D2:Dk W2 u1.heap.size false (.slice a1 (ws X).length c1) e1:=by rw [hW2];exact Dk.new u1 _ _ _
 have V2:Wk W2 (w.heap.size+1) 24 (-149) 128:=(DW.below hb).below hbW;have hB2:Below w.heap.size w W2:=(hB.trans (hb.mono (by omega))).trans (hbW.mono (by have:=hb.size;omega))
 have H2:=hid (HP.out W2 a1 c1 ((hN.below hbW).arg' (by omega)).2)
 obtain ⟨x0,x1,x2,xf0,xf1,xf2⟩:=D2.facts;obtain ⟨y0,y1,y2⟩:=V2.facts;obtain ⟨t0,t1,t2⟩:=(DW.below hb).facts;have hzu:w.heap.size+1<u1.heap.size:=by have:=hb.size;omega
 have hzz:w.heap.size≤u1.heap.size:=by have:=hb.size;omega
 have hz4:u1.heap.size<W2.heap.size:=D2.lt;have S2:=(sd (ai hB2 D2));clear hN hb H1 hB hz1 DW SB hbW D2 V2 hB2 HP
 go_wp2_with fail
 rw [←hW2];clear hW2;refine H2.out.mono ?_;rintro r u2 ⟨rfl,hb⟩;obtain ⟨W3,hW3⟩:∃ W,W=u2.alloc (.cells #[.int .u64 (F:Nat),.int .i64 ex,.bool true,.int .i64 mid] 133):=⟨_,rfl⟩;have hbW:Below u2.heap.size u2 W3:=by rw [hW3];exact below_alloc u2 _
 have P3:Pk W3 u2.heap.size (F:Nat) ex true mid:=by rw [hW3];exact heap_alloc_new _ _
 have D3:=(S2.out.2.below hb).below hbW;have hB3:Below w.heap.size w W3:=(S2.out.1.trans (hb.mono (by omega))).trans (hbW.mono (by have:=hb.size;omega))
 have hz6:u1.heap.size<u2.heap.size:=by have:=hb.size;omega
 obtain ⟨q0,q1,q2,q3,qf0,qf1,qf2,qf3⟩:=P3.facts;obtain ⟨d0,d1,d2,df0,df1,df2⟩:=D3.facts;have hz5:w.heap.size≤u2.heap.size:=by omega
 have hz7:u2.heap.size<W3.heap.size:=P3.lt;have S3:=(sd (ai hB3 (ai P3 D3)));clear hb hbW P3 D3 hB3 S2 H2 x0 x1 x2 xf0 xf1 xf2 y0 y1 y2
 go_upto_region 7 with fail
 rw [←hW3];clear hW3
 go_wp2_with fail
 try simp only [ecv]
 refine (Calls.mono (HD.out _)) ?_;rintro r ww ⟨rfl,hw⟩;rw [hw];clear hw ww HD;go_wp2
 go_ret2
 exact ⟨rfl,S3.out.1⟩
theorem round_tt {w:World}{a:Option Addr}{l c:Nat}(n:Bool) (e mode:Int) (X:Nat) (e1:Int) (lX:(ws X).length≤8192) (hX:((((ws X).length:Nat):Int)==0)=false) (hm0:0≤mode) (hm4:mode≤4)
 (F cw K K2:Nat) (ex mid:Int) (hF:F≤16777215) (ecv:floatOfInt .f64 (F:Int)=cw)
 (HF:Hid (∀ u,Below w.heap.size w u→Calls Tryz.prog 94 #[.agg #[.bool n,.slice a l c,.int .i64 e]] u fun r w'=>(∃ v,r=.returned (.tuple #[.agg #[.bool true,v,.int .i64 e1],.int .i64 0])∧Nt u.heap.size w' v X)∧Below u.heap.size u w'))
 (HP:Hid (∀ (u:World) (p:Option Addr) (q:Nat),Arg u p (ws X).length q (ws X)→Calls Tryz.prog 114 #[.agg #[.bool true,.slice p (ws X).length q,.int .i64 e1],.agg #[.int .i64 24,.int .i64 (-149),.int .i64 128]] u fun r w'=>r=.returned (.agg #[.int .u64 (F:Nat),.int .i64 ex,.bool true,.int .i64 mid])∧Below u.heap.size u w'))
 (HD:Hid (∀ u,Calls Tryz.prog 116 #[.float .f64 cw,.int .i64 ex] u fun r w'=>r=.returned (.float .f64 K)∧w'=u))
 (HC:Hid (∀ u,Calls Tryz.prog 117 #[.float .f64 K,.float .f64 13830554455654793216] u fun r w'=>r=.returned (.float .f64 K2)∧w'=u)) :
 Calls Tryz.prog 79 #[.agg #[.bool n,.slice a l c,.int .i64 e],.int .i64 mode,.agg #[.int .i64 24,.int .i64 (-149),.int .i64 128]] w fun r w'=>r=.returned (.tuple #[.float .f64 K2,.int .i64 0])∧Below w.heap.size w w':=by
 obtain ⟨W1,hW1⟩:∃ W,W=(w.alloc (.cells #[.bool n,.slice a l c,.int .i64 e] 27)).alloc (.cells #[.int .i64 24,.int .i64 (-149),.int .i64 128] 106):=⟨_,rfl⟩;obtain ⟨hB,hz1,DD,DW⟩:=round_begin w n (.slice a l c) e 24 (-149) 128 W1 hW1;have H1:=hid (HF.out W1 hB);have SB:=(sd (ai hB (ai hz1 DW)));clear hB hz1 DD DW HF;go_enter Tryz.func79,Tryz.ntmps79
 go_wp2_with fail
 rw [←hW1];clear hW1;refine H1.out.mono ?_;rintro r u1 ⟨⟨v,rfl,hN⟩,hb⟩;obtain ⟨a1,c1,rfl,_⟩:=hN.arg (by omega)
 obtain ⟨hB,hz1,DW⟩:=SB.out;obtain ⟨W2,hW2⟩:∃ W,W=u1.alloc (.cells #[.bool true,.slice a1 (ws X).length c1,.int .i64 e1] 27):=⟨_,rfl⟩;have hbW:Below u1.heap.size u1 W2:=by rw [hW2];exact below_alloc u1 _
 have D2:Dk W2 u1.heap.size true (.slice a1 (ws X).length c1) e1:=by rw [hW2];exact Dk.new u1 _ _ _
 have V2:Wk W2 (w.heap.size+1) 24 (-149) 128:=(DW.below hb).below hbW;have hB2:Below w.heap.size w W2:=(hB.trans (hb.mono (by omega))).trans (hbW.mono (by have:=hb.size;omega))
 have H2:=hid (HP.out W2 a1 c1 ((hN.below hbW).arg' (by omega)).2)
 obtain ⟨x0,x1,x2,xf0,xf1,xf2⟩:=D2.facts;obtain ⟨y0,y1,y2⟩:=V2.facts;obtain ⟨t0,t1,t2⟩:=(DW.below hb).facts;have hzu:w.heap.size+1<u1.heap.size:=by have:=hb.size;omega
 have hzz:w.heap.size≤u1.heap.size:=by have:=hb.size;omega
 have hz4:u1.heap.size<W2.heap.size:=D2.lt;have S2:=(sd (ai hB2 D2));clear hN hb H1 hB hz1 DW SB hbW D2 V2 hB2 HP
 go_wp2_with fail
 rw [←hW2];clear hW2;refine H2.out.mono ?_;rintro r u2 ⟨rfl,hb⟩;obtain ⟨W3,hW3⟩:∃ W,W=u2.alloc (.cells #[.int .u64 (F:Nat),.int .i64 ex,.bool true,.int .i64 mid] 133):=⟨_,rfl⟩;have hbW:Below u2.heap.size u2 W3:=by rw [hW3];exact below_alloc u2 _
 have P3:Pk W3 u2.heap.size (F:Nat) ex true mid:=by rw [hW3];exact heap_alloc_new _ _
 have D3:=(S2.out.2.below hb).below hbW;have hB3:Below w.heap.size w W3:=(S2.out.1.trans (hb.mono (by omega))).trans (hbW.mono (by have:=hb.size;omega))
 have hz6:u1.heap.size<u2.heap.size:=by have:=hb.size;omega
 obtain ⟨q0,q1,q2,q3,qf0,qf1,qf2,qf3⟩:=P3.facts;obtain ⟨d0,d1,d2,df0,df1,df2⟩:=D3.facts;have hz5:w.heap.size≤u2.heap.size:=by omega
 have hz7:u2.heap.size<W3.heap.size:=P3.lt;have S3:=(sd (ai hB3 (ai P3 D3)));clear hb hbW P3 D3 hB3 S2 H2 x0 x1 x2 xf0 xf1 xf2 y0 y1 y2
 go_upto_region 7 with fail
 rw [←hW3];clear hW3
 go_wp2_with fail
 try simp only [ecv]
 refine (Calls.mono (HD.out _)) ?_;rintro r ww ⟨rfl,hw⟩;rw [hw];clear hw ww HD
 go_wp2_with fail
 refine (Calls.mono (HC.out _)) ?_;rintro r ww ⟨rfl,hw⟩;rw [hw];clear hw ww HC;go_wp2
 go_ret2
 exact ⟨rfl,S3.out.1⟩
theorem round_fff {w:World}{a:Option Addr}{l c:Nat}(n:Bool) (e mode:Int) (X:Nat) (e1:Int) (lX:(ws X).length≤8192) (hX:((((ws X).length:Nat):Int)==0)=false) (hm0:0≤mode) (hm4:mode≤4)
 (F cw K K2:Nat) (ex mid:Int) (hF:F≤16777215) (ecv:floatOfInt .f64 (F:Int)=cw)
 (HF:Hid (∀ u,Below w.heap.size w u→Calls Tryz.prog 94 #[.agg #[.bool n,.slice a l c,.int .i64 e]] u fun r w'=>(∃ v,r=.returned (.tuple #[.agg #[.bool false,v,.int .i64 e1],.int .i64 0])∧Nt u.heap.size w' v X)∧Below u.heap.size u w'))
 (HP:Hid (∀ (u:World) (p:Option Addr) (q:Nat),Arg u p (ws X).length q (ws X)→Calls Tryz.prog 114 #[.agg #[.bool false,.slice p (ws X).length q,.int .i64 e1],.agg #[.int .i64 24,.int .i64 (-149),.int .i64 128]] u fun r w'=>r=.returned (.agg #[.int .u64 (F:Nat),.int .i64 ex,.bool false,.int .i64 mid])∧Below u.heap.size u w'))
 (HG:Hid (∀ u,Calls Tryz.prog 115 #[.agg #[.int .u64 (F:Nat),.int .i64 ex,.bool false,.int .i64 mid],.int .i64 mode,.bool false] u fun r w'=>r=.returned (.bool false)∧Below u.heap.size u w'))
 (HD:Hid (∀ u,Calls Tryz.prog 116 #[.float .f64 cw,.int .i64 ex] u fun r w'=>r=.returned (.float .f64 K)∧w'=u)) :
 Calls Tryz.prog 79 #[.agg #[.bool n,.slice a l c,.int .i64 e],.int .i64 mode,.agg #[.int .i64 24,.int .i64 (-149),.int .i64 128]] w fun r w'=>r=.returned (.tuple #[.float .f64 K,.int .i64 0])∧Below w.heap.size w w':=by
 obtain ⟨W1,hW1⟩:∃ W,W=(w.alloc (.cells #[.bool n,.slice a l c,.int .i64 e] 27)).alloc (.cells #[.int .i64 24,.int .i64 (-149),.int .i64 128] 106):=⟨_,rfl⟩;obtain ⟨hB,hz1,DD,DW⟩:=round_begin w n (.slice a l c) e 24 (-149) 128 W1 hW1;have H1:=hid (HF.out W1 hB);have SB:=(sd (ai hB (ai hz1 DW)));clear hB hz1 DD DW HF;go_enter Tryz.func79,Tryz.ntmps79
 go_wp2_with fail
 rw [←hW1];clear hW1;refine H1.out.mono ?_;rintro r u1 ⟨⟨v,rfl,hN⟩,hb⟩;obtain ⟨a1,c1,rfl,_⟩:=hN.arg (by omega)
 obtain ⟨hB,hz1,DW⟩:=SB.out;obtain ⟨W2,hW2⟩:∃ W,W=u1.alloc (.cells #[.bool false,.slice a1 (ws X).length c1,.int .i64 e1] 27):=⟨_,rfl⟩;have hbW:Below u1.heap.size u1 W2:=by rw [hW2];exact below_alloc u1 _
 have D2:Dk W2 u1.heap.size false (.slice a1 (ws X).length c1) e1:=by rw [hW2];exact Dk.new u1 _ _ _
 have V2:Wk W2 (w.heap.size+1) 24 (-149) 128:=(DW.below hb).below hbW;have hB2:Below w.heap.size w W2:=(hB.trans (hb.mono (by omega))).trans (hbW.mono (by have:=hb.size;omega))
 have H2:=hid (HP.out W2 a1 c1 ((hN.below hbW).arg' (by omega)).2)
 obtain ⟨x0,x1,x2,xf0,xf1,xf2⟩:=D2.facts;obtain ⟨y0,y1,y2⟩:=V2.facts;obtain ⟨t0,t1,t2⟩:=(DW.below hb).facts;have hzu:w.heap.size+1<u1.heap.size:=by have:=hb.size;omega
 have hzz:w.heap.size≤u1.heap.size:=by have:=hb.size;omega
 have hz4:u1.heap.size<W2.heap.size:=D2.lt;have S2:=(sd (ai hB2 D2));clear hN hb H1 hB hz1 DW SB hbW D2 V2 hB2 HP
 go_wp2_with fail
 rw [←hW2];clear hW2;refine H2.out.mono ?_;rintro r u2 ⟨rfl,hb⟩;obtain ⟨W3,hW3⟩:∃ W,W=u2.alloc (.cells #[.int .u64 (F:Nat),.int .i64 ex,.bool false,.int .i64 mid] 133):=⟨_,rfl⟩;have hbW:Below u2.heap.size u2 W3:=by rw [hW3];exact below_alloc u2 _
 have P3:Pk W3 u2.heap.size (F:Nat) ex false mid:=by rw [hW3];exact heap_alloc_new _ _
 have D3:=(S2.out.2.below hb).below hbW;have hB3:Below w.heap.size w W3:=(S2.out.1.trans (hb.mono (by omega))).trans (hbW.mono (by have:=hb.size;omega))
 have hz6:u1.heap.size<u2.heap.size:=by have:=hb.size;omega
 obtain ⟨q0,q1,q2,q3,qf0,qf1,qf2,qf3⟩:=P3.facts;obtain ⟨d0,d1,d2,df0,df1,df2⟩:=D3.facts;have hz5:w.heap.size≤u2.heap.size:=by omega
 have hz7:u2.heap.size<W3.heap.size:=P3.lt;have S3:=(sd (ai hB3 (ai P3 D3)));clear hb hbW P3 D3 hB3 S2 H2 x0 x1 x2 xf0 xf1 xf2 y0 y1 y2
 go_upto_region 7 with fail
 rw [←hW3];clear hW3
 go_wp2_with fail
 refine (Calls.mono (HG.out _)) ?_;rintro r u3 ⟨rfl,hb⟩;have P4:=S3.out.2.1.below hb;have D4:=S3.out.2.2.below hb;have hB4:Below w.heap.size w u3:=S3.out.1.trans (hb.mono (by omega))
 have hz8:w.heap.size≤u3.heap.size:=by have:=hb.size;omega
 obtain ⟨r0,r1,r2,r3,rf0,rf1,rf2,rf3⟩:=P4.facts;obtain ⟨s0,s1,s2,sf0,sf1,sf2⟩:=D4.facts;have S4:=sd hB4;clear hb P4 D4 hB4 S3 HG q0 q1 q2 q3 qf0 qf1 qf2 qf3 d0 d1 d2 df0 df1 df2
 go_wp2_with fail
 try simp only [ecv]
 refine (Calls.mono (HD.out _)) ?_;rintro r ww ⟨rfl,hw⟩;rw [hw];clear hw ww HD;go_wp2
 go_ret2
 exact ⟨rfl,S4.out⟩
theorem round_fft {w:World}{a:Option Addr}{l c:Nat}(n:Bool) (e mode:Int) (X:Nat) (e1:Int) (lX:(ws X).length≤8192) (hX:((((ws X).length:Nat):Int)==0)=false) (hm0:0≤mode) (hm4:mode≤4)
 (F cw K K2:Nat) (ex mid:Int) (hF:F≤16777215) (ecv:floatOfInt .f64 (F:Int)=cw)
 (HF:Hid (∀ u,Below w.heap.size w u→Calls Tryz.prog 94 #[.agg #[.bool n,.slice a l c,.int .i64 e]] u fun r w'=>(∃ v,r=.returned (.tuple #[.agg #[.bool true,v,.int .i64 e1],.int .i64 0])∧Nt u.heap.size w' v X)∧Below u.heap.size u w'))
 (HP:Hid (∀ (u:World) (p:Option Addr) (q:Nat),Arg u p (ws X).length q (ws X)→Calls Tryz.prog 114 #[.agg #[.bool true,.slice p (ws X).length q,.int .i64 e1],.agg #[.int .i64 24,.int .i64 (-149),.int .i64 128]] u fun r w'=>r=.returned (.agg #[.int .u64 (F:Nat),.int .i64 ex,.bool false,.int .i64 mid])∧Below u.heap.size u w'))
 (HG:Hid (∀ u,Calls Tryz.prog 115 #[.agg #[.int .u64 (F:Nat),.int .i64 ex,.bool false,.int .i64 mid],.int .i64 mode,.bool true] u fun r w'=>r=.returned (.bool false)∧Below u.heap.size u w'))
 (HD:Hid (∀ u,Calls Tryz.prog 116 #[.float .f64 cw,.int .i64 ex] u fun r w'=>r=.returned (.float .f64 K)∧w'=u))
 (HC:Hid (∀ u,Calls Tryz.prog 117 #[.float .f64 K,.float .f64 13830554455654793216] u fun r w'=>r=.returned (.float .f64 K2)∧w'=u)) :
 Calls Tryz.prog 79 #[.agg #[.bool n,.slice a l c,.int .i64 e],.int .i64 mode,.agg #[.int .i64 24,.int .i64 (-149),.int .i64 128]] w fun r w'=>r=.returned (.tuple #[.float .f64 K2,.int .i64 0])∧Below w.heap.size w w':=by
 obtain ⟨W1,hW1⟩:∃ W,W=(w.alloc (.cells #[.bool n,.slice a l c,.int .i64 e] 27)).alloc (.cells #[.int .i64 24,.int .i64 (-149),.int .i64 128] 106):=⟨_,rfl⟩;obtain ⟨hB,hz1,DD,DW⟩:=round_begin w n (.slice a l c) e 24 (-149) 128 W1 hW1;have H1:=hid (HF.out W1 hB);have SB:=(sd (ai hB (ai hz1 DW)));clear hB hz1 DD DW HF;go_enter Tryz.func79,Tryz.ntmps79
 go_wp2_with fail
 rw [←hW1];clear hW1;refine H1.out.mono ?_;rintro r u1 ⟨⟨v,rfl,hN⟩,hb⟩;obtain ⟨a1,c1,rfl,_⟩:=hN.arg (by omega)
 obtain ⟨hB,hz1,DW⟩:=SB.out;obtain ⟨W2,hW2⟩:∃ W,W=u1.alloc (.cells #[.bool true,.slice a1 (ws X).length c1,.int .i64 e1] 27):=⟨_,rfl⟩;have hbW:Below u1.heap.size u1 W2:=by rw [hW2];exact below_alloc u1 _
 have D2:Dk W2 u1.heap.size true (.slice a1 (ws X).length c1) e1:=by rw [hW2];exact Dk.new u1 _ _ _
 have V2:Wk W2 (w.heap.size+1) 24 (-149) 128:=(DW.below hb).below hbW;have hB2:Below w.heap.size w W2:=(hB.trans (hb.mono (by omega))).trans (hbW.mono (by have:=hb.size;omega))
 have H2:=hid (HP.out W2 a1 c1 ((hN.below hbW).arg' (by omega)).2)
 obtain ⟨x0,x1,x2,xf0,xf1,xf2⟩:=D2.facts;obtain ⟨y0,y1,y2⟩:=V2.facts;obtain ⟨t0,t1,t2⟩:=(DW.below hb).facts;have hzu:w.heap.size+1<u1.heap.size:=by have:=hb.size;omega
 have hzz:w.heap.size≤u1.heap.size:=by have:=hb.size;omega
 have hz4:u1.heap.size<W2.heap.size:=D2.lt;have S2:=(sd (ai hB2 D2));clear hN hb H1 hB hz1 DW SB hbW D2 V2 hB2 HP
 go_wp2_with fail
 rw [←hW2];clear hW2;refine H2.out.mono ?_;rintro r u2 ⟨rfl,hb⟩;obtain ⟨W3,hW3⟩:∃ W,W=u2.alloc (.cells #[.int .u64 (F:Nat),.int .i64 ex,.bool false,.int .i64 mid] 133):=⟨_,rfl⟩;have hbW:Below u2.heap.size u2 W3:=by rw [hW3];exact below_alloc u2 _
 have P3:Pk W3 u2.heap.size (F:Nat) ex false mid:=by rw [hW3];exact heap_alloc_new _ _
 have D3:=(S2.out.2.below hb).below hbW;have hB3:Below w.heap.size w W3:=(S2.out.1.trans (hb.mono (by omega))).trans (hbW.mono (by have:=hb.size;omega))
 have hz6:u1.heap.size<u2.heap.size:=by have:=hb.size;omega
 obtain ⟨q0,q1,q2,q3,qf0,qf1,qf2,qf3⟩:=P3.facts;obtain ⟨d0,d1,d2,df0,df1,df2⟩:=D3.facts;have hz5:w.heap.size≤u2.heap.size:=by omega
 have hz7:u2.heap.size<W3.heap.size:=P3.lt;have S3:=(sd (ai hB3 (ai P3 D3)));clear hb hbW P3 D3 hB3 S2 H2 x0 x1 x2 xf0 xf1 xf2 y0 y1 y2
 go_upto_region 7 with fail
 rw [←hW3];clear hW3
 go_wp2_with fail
 refine (Calls.mono (HG.out _)) ?_;rintro r u3 ⟨rfl,hb⟩;have P4:=S3.out.2.1.below hb;have D4:=S3.out.2.2.below hb;have hB4:Below w.heap.size w u3:=S3.out.1.trans (hb.mono (by omega))
 have hz8:w.heap.size≤u3.heap.size:=by have:=hb.size;omega
 obtain ⟨r0,r1,r2,r3,rf0,rf1,rf2,rf3⟩:=P4.facts;obtain ⟨s0,s1,s2,sf0,sf1,sf2⟩:=D4.facts;have S4:=sd hB4;clear hb P4 D4 hB4 S3 HG q0 q1 q2 q3 qf0 qf1 qf2 qf3 d0 d1 d2 df0 df1 df2
 go_wp2_with fail
 try simp only [ecv]
 refine (Calls.mono (HD.out _)) ?_;rintro r ww ⟨rfl,hw⟩;rw [hw];clear hw ww HD
 go_wp2_with fail
 refine (Calls.mono (HC.out _)) ?_;rintro r ww ⟨rfl,hw⟩;rw [hw];clear hw ww HC;go_wp2
 go_ret2
 exact ⟨rfl,S4.out⟩
theorem round_ftf {w:World}{a:Option Addr}{l c:Nat}(n:Bool) (e mode:Int) (X:Nat) (e1:Int) (lX:(ws X).length≤8192) (hX:((((ws X).length:Nat):Int)==0)=false) (hm0:0≤mode) (hm4:mode≤4)
 (F cw K K2:Nat) (ex mid:Int) (hF:F≤16777215) (ecv:floatOfInt .f64 ((F:Int)+1)=cw)
 (HF:Hid (∀ u,Below w.heap.size w u→Calls Tryz.prog 94 #[.agg #[.bool n,.slice a l c,.int .i64 e]] u fun r w'=>(∃ v,r=.returned (.tuple #[.agg #[.bool false,v,.int .i64 e1],.int .i64 0])∧Nt u.heap.size w' v X)∧Below u.heap.size u w'))
 (HP:Hid (∀ (u:World) (p:Option Addr) (q:Nat),Arg u p (ws X).length q (ws X)→Calls Tryz.prog 114 #[.agg #[.bool false,.slice p (ws X).length q,.int .i64 e1],.agg #[.int .i64 24,.int .i64 (-149),.int .i64 128]] u fun r w'=>r=.returned (.agg #[.int .u64 (F:Nat),.int .i64 ex,.bool false,.int .i64 mid])∧Below u.heap.size u w'))
 (HG:Hid (∀ u,Calls Tryz.prog 115 #[.agg #[.int .u64 (F:Nat),.int .i64 ex,.bool false,.int .i64 mid],.int .i64 mode,.bool false] u fun r w'=>r=.returned (.bool true)∧Below u.heap.size u w'))
 (HD:Hid (∀ u,Calls Tryz.prog 116 #[.float .f64 cw,.int .i64 ex] u fun r w'=>r=.returned (.float .f64 K)∧w'=u)) :
 Calls Tryz.prog 79 #[.agg #[.bool n,.slice a l c,.int .i64 e],.int .i64 mode,.agg #[.int .i64 24,.int .i64 (-149),.int .i64 128]] w fun r w'=>r=.returned (.tuple #[.float .f64 K,.int .i64 0])∧Below w.heap.size w w':=by
 obtain ⟨W1,hW1⟩:∃ W,W=(w.alloc (.cells #[.bool n,.slice a l c,.int .i64 e] 27)).alloc (.cells #[.int .i64 24,.int .i64 (-149),.int .i64 128] 106):=⟨_,rfl⟩;obtain ⟨hB,hz1,DD,DW⟩:=round_begin w n (.slice a l c) e 24 (-149) 128 W1 hW1;have H1:=hid (HF.out W1 hB);have SB:=(sd (ai hB (ai hz1 DW)));clear hB hz1 DD DW HF;go_enter Tryz.func79,Tryz.ntmps79
 go_wp2_with fail
 rw [←hW1];clear hW1;refine H1.out.mono ?_;rintro r u1 ⟨⟨v,rfl,hN⟩,hb⟩;obtain ⟨a1,c1,rfl,_⟩:=hN.arg (by omega)
 obtain ⟨hB,hz1,DW⟩:=SB.out;obtain ⟨W2,hW2⟩:∃ W,W=u1.alloc (.cells #[.bool false,.slice a1 (ws X).length c1,.int .i64 e1] 27):=⟨_,rfl⟩;have hbW:Below u1.heap.size u1 W2:=by rw [hW2];exact below_alloc u1 _
 have D2:Dk W2 u1.heap.size false (.slice a1 (ws X).length c1) e1:=by rw [hW2];exact Dk.new u1 _ _ _
 have V2:Wk W2 (w.heap.size+1) 24 (-149) 128:=(DW.below hb).below hbW;have hB2:Below w.heap.size w W2:=(hB.trans (hb.mono (by omega))).trans (hbW.mono (by have:=hb.size;omega))
 have H2:=hid (HP.out W2 a1 c1 ((hN.below hbW).arg' (by omega)).2)
 obtain ⟨x0,x1,x2,xf0,xf1,xf2⟩:=D2.facts;obtain ⟨y0,y1,y2⟩:=V2.facts;obtain ⟨t0,t1,t2⟩:=(DW.below hb).facts;have hzu:w.heap.size+1<u1.heap.size:=by have:=hb.size;omega
 have hzz:w.heap.size≤u1.heap.size:=by have:=hb.size;omega
 have hz4:u1.heap.size<W2.heap.size:=D2.lt;have S2:=(sd (ai hB2 D2));clear hN hb H1 hB hz1 DW SB hbW D2 V2 hB2 HP
 go_wp2_with fail
 rw [←hW2];clear hW2;refine H2.out.mono ?_;rintro r u2 ⟨rfl,hb⟩;obtain ⟨W3,hW3⟩:∃ W,W=u2.alloc (.cells #[.int .u64 (F:Nat),.int .i64 ex,.bool false,.int .i64 mid] 133):=⟨_,rfl⟩;have hbW:Below u2.heap.size u2 W3:=by rw [hW3];exact below_alloc u2 _
 have P3:Pk W3 u2.heap.size (F:Nat) ex false mid:=by rw [hW3];exact heap_alloc_new _ _
 have D3:=(S2.out.2.below hb).below hbW;have hB3:Below w.heap.size w W3:=(S2.out.1.trans (hb.mono (by omega))).trans (hbW.mono (by have:=hb.size;omega))
 have hz6:u1.heap.size<u2.heap.size:=by have:=hb.size;omega
 obtain ⟨q0,q1,q2,q3,qf0,qf1,qf2,qf3⟩:=P3.facts;obtain ⟨d0,d1,d2,df0,df1,df2⟩:=D3.facts;have hz5:w.heap.size≤u2.heap.size:=by omega
 have hz7:u2.heap.size<W3.heap.size:=P3.lt;have S3:=(sd (ai hB3 (ai P3 D3)));clear hb hbW P3 D3 hB3 S2 H2 x0 x1 x2 xf0 xf1 xf2 y0 y1 y2
 go_upto_region 7 with fail
 rw [←hW3];clear hW3
 go_wp2_with fail
 refine (Calls.mono (HG.out _)) ?_;rintro r u3 ⟨rfl,hb⟩;have P4:=S3.out.2.1.below hb;have D4:=S3.out.2.2.below hb;have hB4:Below w.heap.size w u3:=S3.out.1.trans (hb.mono (by omega))
 have hz8:w.heap.size≤u3.heap.size:=by have:=hb.size;omega
 obtain ⟨r0,r1,r2,r3,rf0,rf1,rf2,rf3⟩:=P4.facts;obtain ⟨s0,s1,s2,sf0,sf1,sf2⟩:=D4.facts;have S4:=sd hB4;clear hb P4 D4 hB4 S3 HG q0 q1 q2 q3 qf0 qf1 qf2 qf3 d0 d1 d2 df0 df1 df2
 go_wp2_with fail
 try simp only [ecv]
 refine (Calls.mono (HD.out _)) ?_;rintro r ww ⟨rfl,hw⟩;rw [hw];clear hw ww HD;go_wp2
 go_ret2
 exact ⟨rfl,Below.setC S4.out _ _ _ hz5 hz8⟩
theorem round_ftt {w:World}{a:Option Addr}{l c:Nat}(n:Bool) (e mode:Int) (X:Nat) (e1:Int) (lX:(ws X).length≤8192) (hX:((((ws X).length:Nat):Int)==0)=false) (hm0:0≤mode) (hm4:mode≤4)
 (F cw K K2:Nat) (ex mid:Int) (hF:F≤16777215) (ecv:floatOfInt .f64 ((F:Int)+1)=cw)
 (HF:Hid (∀ u,Below w.heap.size w u→Calls Tryz.prog 94 #[.agg #[.bool n,.slice a l c,.int .i64 e]] u fun r w'=>(∃ v,r=.returned (.tuple #[.agg #[.bool true,v,.int .i64 e1],.int .i64 0])∧Nt u.heap.size w' v X)∧Below u.heap.size u w'))
 (HP:Hid (∀ (u:World) (p:Option Addr) (q:Nat),Arg u p (ws X).length q (ws X)→Calls Tryz.prog 114 #[.agg #[.bool true,.slice p (ws X).length q,.int .i64 e1],.agg #[.int .i64 24,.int .i64 (-149),.int .i64 128]] u fun r w'=>r=.returned (.agg #[.int .u64 (F:Nat),.int .i64 ex,.bool false,.int .i64 mid])∧Below u.heap.size u w'))
 (HG:Hid (∀ u,Calls Tryz.prog 115 #[.agg #[.int .u64 (F:Nat),.int .i64 ex,.bool false,.int .i64 mid],.int .i64 mode,.bool true] u fun r w'=>r=.returned (.bool true)∧Below u.heap.size u w'))
 (HD:Hid (∀ u,Calls Tryz.prog 116 #[.float .f64 cw,.int .i64 ex] u fun r w'=>r=.returned (.float .f64 K)∧w'=u))
 (HC:Hid (∀ u,Calls Tryz.prog 117 #[.float .f64 K,.float .f64 13830554455654793216] u fun r w'=>r=.returned (.float .f64 K2)∧w'=u)) :
 Calls Tryz.prog 79 #[.agg #[.bool n,.slice a l c,.int .i64 e],.int .i64 mode,.agg #[.int .i64 24,.int .i64 (-149),.int .i64 128]] w fun r w'=>r=.returned (.tuple #[.float .f64 K2,.int .i64 0])∧Below w.heap.size w w':=by
 obtain ⟨W1,hW1⟩:∃ W,W=(w.alloc (.cells #[.bool n,.slice a l c,.int .i64 e] 27)).alloc (.cells #[.int .i64 24,.int .i64 (-149),.int .i64 128] 106):=⟨_,rfl⟩;obtain ⟨hB,hz1,DD,DW⟩:=round_begin w n (.slice a l c) e 24 (-149) 128 W1 hW1;have H1:=hid (HF.out W1 hB);have SB:=(sd (ai hB (ai hz1 DW)));clear hB hz1 DD DW HF;go_enter Tryz.func79,Tryz.ntmps79
 go_wp2_with fail
 rw [←hW1];clear hW1;refine H1.out.mono ?_;rintro r u1 ⟨⟨v,rfl,hN⟩,hb⟩;obtain ⟨a1,c1,rfl,_⟩:=hN.arg (by omega)
 obtain ⟨hB,hz1,DW⟩:=SB.out;obtain ⟨W2,hW2⟩:∃ W,W=u1.alloc (.cells #[.bool true,.slice a1 (ws X).length c1,.int .i64 e1] 27):=⟨_,rfl⟩;have hbW:Below u1.heap.size u1 W2:=by rw [hW2];exact below_alloc u1 _
 have D2:Dk W2 u1.heap.size true (.slice a1 (ws X).length c1) e1:=by rw [hW2];exact Dk.new u1 _ _ _
 have V2:Wk W2 (w.heap.size+1) 24 (-149) 128:=(DW.below hb).below hbW;have hB2:Below w.heap.size w W2:=(hB.trans (hb.mono (by omega))).trans (hbW.mono (by have:=hb.size;omega))
 have H2:=hid (HP.out W2 a1 c1 ((hN.below hbW).arg' (by omega)).2)
 obtain ⟨x0,x1,x2,xf0,xf1,xf2⟩:=D2.facts;obtain ⟨y0,y1,y2⟩:=V2.facts;obtain ⟨t0,t1,t2⟩:=(DW.below hb).facts;have hzu:w.heap.size+1<u1.heap.size:=by have:=hb.size;omega
 have hzz:w.heap.size≤u1.heap.size:=by have:=hb.size;omega
 have hz4:u1.heap.size<W2.heap.size:=D2.lt;have S2:=(sd (ai hB2 D2));clear hN hb H1 hB hz1 DW SB hbW D2 V2 hB2 HP
 go_wp2_with fail
 rw [←hW2];clear hW2;refine H2.out.mono ?_;rintro r u2 ⟨rfl,hb⟩;obtain ⟨W3,hW3⟩:∃ W,W=u2.alloc (.cells #[.int .u64 (F:Nat),.int .i64 ex,.bool false,.int .i64 mid] 133):=⟨_,rfl⟩;have hbW:Below u2.heap.size u2 W3:=by rw [hW3];exact below_alloc u2 _
 have P3:Pk W3 u2.heap.size (F:Nat) ex false mid:=by rw [hW3];exact heap_alloc_new _ _
 have D3:=(S2.out.2.below hb).below hbW;have hB3:Below w.heap.size w W3:=(S2.out.1.trans (hb.mono (by omega))).trans (hbW.mono (by have:=hb.size;omega))
 have hz6:u1.heap.size<u2.heap.size:=by have:=hb.size;omega
 obtain ⟨q0,q1,q2,q3,qf0,qf1,qf2,qf3⟩:=P3.facts;obtain ⟨d0,d1,d2,df0,df1,df2⟩:=D3.facts;have hz5:w.heap.size≤u2.heap.size:=by omega
 have hz7:u2.heap.size<W3.heap.size:=P3.lt;have S3:=(sd (ai hB3 (ai P3 D3)));clear hb hbW P3 D3 hB3 S2 H2 x0 x1 x2 xf0 xf1 xf2 y0 y1 y2
 go_upto_region 7 with fail
 rw [←hW3];clear hW3
 go_wp2_with fail
 refine (Calls.mono (HG.out _)) ?_;rintro r u3 ⟨rfl,hb⟩;have P4:=S3.out.2.1.below hb;have D4:=S3.out.2.2.below hb;have hB4:Below w.heap.size w u3:=S3.out.1.trans (hb.mono (by omega))
 have hz8:w.heap.size≤u3.heap.size:=by have:=hb.size;omega
 obtain ⟨r0,r1,r2,r3,rf0,rf1,rf2,rf3⟩:=P4.facts;obtain ⟨s0,s1,s2,sf0,sf1,sf2⟩:=D4.facts;have S4:=sd hB4;clear hb P4 D4 hB4 S3 HG q0 q1 q2 q3 qf0 qf1 qf2 qf3 d0 d1 d2 df0 df1 df2
 go_wp2_with fail
 try simp only [ecv]
 refine (Calls.mono (HD.out _)) ?_;rintro r ww ⟨rfl,hw⟩;rw [hw];clear hw ww HD
 go_wp2_with fail
 refine (Calls.mono (HC.out _)) ?_;rintro r ww ⟨rfl,hw⟩;rw [hw];clear hw ww HC;go_wp2
 go_ret2
 exact ⟨rfl,Below.setC S4.out _ _ _ hz5 hz8⟩
theorem plc_mid (X:Nat) (e:Int):(plc 24 (-149) 128 X e).2.2.2=-1∨(plc 24 (-149) 128 X e).2.2.2=0∨(plc 24 (-149) 128 X e).2.2.2=1:=by
 unfold plc
 split
 · simp
 · simp only
   split
   · simp
   · simp only
     split
     · simp
     · split <;> simp
end S
namespace S
open Go.RowKit
def GP:Nat:=925
theorem ldexp_word (F:Nat) (ex:Int) (hF:F≤16777216) (h0:-149≤ex) (h1:ex≤104) (hn:ex=-149∨8388608≤F) :
 ∃ cw W,floatOfInt .f64 (F:Int)=cw∧W<9218868437227405312∧B.val Ieee.double W=B.val Ieee.single ((ex+149).toNat*8388608+F)*2^GP∧∀ u,Calls Tryz.prog 116 #[.float .f64 cw,.int .i64 ex] u fun r w'=>r=.returned (.float .f64 W)∧w'=u:=by
 have hv:B.val Ieee.single ((ex+149).toNat*8388608+F)=F*2^(ex+149).toNat:=vK_word _ F (by rcases hn with h | h;left;omega;right;exact h) hF
 rw [hv]
 by_cases hz:F=0
 · subst hz
   have key:∀ Q:Nat,B.val Ieee.double 0=0*2^(ex+149).toNat*Q:=fun Q=>by rw [Nat.zero_mul,Nat.zero_mul];exact B.val_zero _
   exact ⟨0,0,by decide,by omega,key _,fun u=>B.Ldexp_nought _ u⟩
 · obtain ⟨e,g,hw⟩:=B.whole_of F (by omega) (by omega)
   have hex:=hw.ex;have hbp:=bl_pos F hz;have hbl:bl F≤25:=bl_le (k:=25) (by omega)
   have hg:=hw.g0;obtain ⟨E,hE⟩:∃ E:Nat,(E:Int)=(e:Int)+ex:=⟨((e:Int)+ex).toNat,by omega⟩
   have hm:=B.mid_val F e g ex hw (by omega) hF h0 E hE
   have hb:B.bw false E g=E*4503599627370496+g:=by unfold B.bw;simp
   refine ⟨_,B.bw false E g,B.ofInt_whole F e g hw,by rw [hb];omega,?_,fun u=>B.Ldexp_mid F e g ex u hw (by omega) hF h0 h1 E hE⟩
   have e9:∀ a q r:Nat,a+q=r→F*2^r=F*2^a*2^q:=fun a q r h=>by rw [←h,Nat.pow_add,Nat.mul_assoc]
   rw [hb,hm];exact e9 _ _ _ (by unfold GP;omega)
theorem round_some {w:World}{a:Option Addr}{l c:Nat}{xs:List Nat}(hA:Arg w a l c xs) (hT:Tab w) (n:Bool) (e mode:Int) (he0:-9223372036854775808≤e) (he1:e≤9223372036854775807) (hm0:0≤mode) (hm4:mode≤4) (n1:Bool) (X:Nat) (e1:Int) (ho:mkS n (val xs) e=some (n1,X,e1)) (hX:X≠0) :
 ∃ W,W<9218868437227405312∧B.val Ieee.double W=B.val Ieee.single (rndK mode n1 X e1)*2^GP∧Calls Tryz.prog 79 #[.agg #[.bool n,.slice a l c,.int .i64 e],.int .i64 mode,.agg #[.int .i64 24,.int .i64 (-149),.int .i64 128]] w fun r w'=>r=.returned (.tuple #[.float .f64 (W+(if n1 then 9223372036854775808 else 0)),.int .i64 0])∧Below w.heap.size w w':=by
 have HF:Hid (∀ u,Below w.heap.size w u→Calls Tryz.prog 94 #[.agg #[.bool n,.slice a l c,.int .i64 e]] u fun r w'=>DAns u.heap.size w' r (mkS n (val xs) e)∧Below u.heap.size u w'):=fun u hu=>form_any (hA.below hu) (hT.belows hu) n e he0 he1
 rw [ho] at HF;have FX:=mkS_frm ho;have pf:=plc_facts X e1 hX FX.down FX.up;have pm:=plc_mid X e1;have HP:∀ (u:World) (p:Option Addr) (q:Nat),Arg u p (ws X).length q (ws X)→Calls Tryz.prog 114 #[.agg #[.bool n1,.slice p (ws X).length q,.int .i64 e1],.agg #[.int .i64 24,.int .i64 (-149),.int .i64 128]] u fun r w'=>r=.returned (.agg #[.int .u64 ((plc 24 (-149) 128 X e1).1:Nat),.int .i64 (plc 24 (-149) 128 X e1).2.1,.bool (plc 24 (-149) 128 X e1).2.2.1,.int .i64 (plc 24 (-149) 128 X e1).2.2.2])∧Below u.heap.size u w':=fun u p q hA=>placed_any hA n1 e1 FX.down FX.up hX FX.size
 unfold rndK;simp only;generalize plc 24 (-149) 128 X e1=P at pf pm HP ⊢;obtain ⟨F,ex,t,mid⟩:=P;simp only at pf pm HP ⊢;obtain ⟨p1,p2,p3,p4⟩:=pf;have HG:∀ u,Calls Tryz.prog 115 #[.agg #[.int .u64 (F:Nat),.int .i64 ex,.bool false,.int .i64 mid],.int .i64 mode,.bool n1] u fun r w'=>r=.returned (.bool (outS mode F mid n1))∧Below u.heap.size u w':=fun u=>goesOut_any F ex false mid mode n1 u (by omega) pm (by omega) (by omega)
 have lX:=frm_len FX
 cases t with
 | true =>
   simp only [if_true];obtain ⟨cw,W,ecv,hW,hv,HD⟩:=ldexp_word F ex (by omega) p2 p3 p4
   refine ⟨W,hW,hv,?_⟩
   cases n1 with
   | false =>
     simp only [Bool.false_eq_true,if_false,Nat.add_zero];exact round_tf n e mode X e1 lX (len_ne hX) (by omega) (by omega) F cw _ 0 ex mid p1 ecv HF (hid HP) (hid HD)
   | true =>
     simp only [if_true];exact round_tt n e mode X e1 lX (len_ne hX) (by omega) (by omega) F cw _ _ ex mid p1 ecv HF (hid HP) (hid HD) (hid fun u=>copy_word _ (by omega) u)
 | false =>
   simp only [Bool.false_eq_true,if_false]
   cases hob:outS mode F mid n1 with
   | false =>
     rw [hob] at HG;simp only [Bool.false_eq_true,if_false];obtain ⟨cw,W,ecv,hW,hv,HD⟩:=ldexp_word F ex (by omega) p2 p3 p4
     refine ⟨W,hW,hv,?_⟩
     cases n1 with
     | false =>
       simp only [Bool.false_eq_true,if_false,Nat.add_zero];exact round_fff n e mode X e1 lX (len_ne hX) (by omega) (by omega) F cw _ 0 ex mid p1 ecv HF (hid HP) (hid HG) (hid HD)
     | true =>
       simp only [if_true];exact round_fft n e mode X e1 lX (len_ne hX) (by omega) (by omega) F cw _ _ ex mid p1 ecv HF (hid HP) (hid HG) (hid HD) (hid fun u=>copy_word _ (by omega) u)
   | true =>
     rw [hob] at HG;simp only [if_true];obtain ⟨cw,W,ecv,hW,hv,HD⟩:=ldexp_word (F+1) ex (by omega) p2 p3 (by omega)
     refine ⟨W,hW,hv,?_⟩
     cases n1 with
     | false =>
       simp only [Bool.false_eq_true,if_false,Nat.add_zero];exact round_ftf n e mode X e1 lX (len_ne hX) (by omega) (by omega) F cw _ 0 ex mid p1 (by simpa using ecv) HF (hid HP) (hid HG) (hid HD)
     | true =>
       simp only [if_true];exact round_ftt n e mode X e1 lX (len_ne hX) (by omega) (by omega) F cw _ _ ex mid p1 (by simpa using ecv) HF (hid HP) (hid HG) (hid HD) (hid fun u=>copy_word _ (by omega) u)
end S
namespace B
theorem mk_exists (k:Nat):∀ m:Nat,m<9007199254740992→k≤2045→∃ e f,e<2047∧f<4503599627370496∧val Ieee.double (e*4503599627370496+f)=m*2^k:=by
 induction k with
 | zero =>
   intro m hm _
   by_cases h:m<4503599627370496
   · refine ⟨0,m,by omega,h,?_⟩
     unfold val;rw [dBin,Nat.zero_mul,Nat.zero_add,if_pos h,Nat.pow_zero,Nat.mul_one]
   · refine ⟨1,m-4503599627370496,by omega,by omega,?_⟩
     have e1:1*4503599627370496+(m-4503599627370496)=m:=by omega
     rw [e1];unfold val;rw [dBin,if_neg h];have e2:m%4503599627370496=m-4503599627370496:=by omega
     have e3:m/4503599627370496-1=0:=by omega
     rw [e2,e3,Nat.pow_zero,Nat.mul_one,Nat.mul_one];omega
 | succ k ih =>
   intro m hm hk
   by_cases h:m<4503599627370496
   · obtain ⟨e,f,he,hf,hv⟩:=ih (2*m) (by omega) (by omega)
     refine ⟨e,f,he,hf,?_⟩;rw [hv,Nat.pow_succ,Nat.mul_comm 2 m,Nat.mul_assoc,Nat.mul_comm 2]
   · refine ⟨k+2,m-4503599627370496,by omega,by omega,?_⟩
     unfold val;rw [dBin,if_neg (by omega)]
     have e2:((k+2)*4503599627370496+(m-4503599627370496))%4503599627370496=m-4503599627370496:=by omega
     have e3:((k+2)*4503599627370496+(m-4503599627370496))/4503599627370496-1=k+1:=by omega
     have e4:4503599627370496+(m-4503599627370496)=m:=by omega
     rw [e2,e3,e4]
end B
namespace B
def gp:Nat:=925
theorem gp_eq:gp=925:=rfl
theorem sInf:Ieee.single.infRung=2139095040:=by decide
theorem sSign:Ieee.single.signWeight=2147483648:=by decide
theorem sBin:Ieee.single.binade=8388608:=by decide
theorem sHs:Ieee.single.infRung<Ieee.single.signWeight:=by decide
theorem sHb:Ieee.single.binade≤Ieee.single.infRung:=by decide
theorem sLeast:Ieee.single.leastPlace=-149:=by decide
theorem dLeast:Ieee.double.leastPlace=-1074:=by decide
theorem up_exists (r:Nat) (hr:r≤2139095040):∃ e f,e<2047∧f<4503599627370496∧val Ieee.double (e*4503599627370496+f)=val Ieee.single r*2^gp:=by
 unfold val;rw [sBin]
 by_cases h:r<8388608
 · rw [if_pos h]
   exact mk_exists gp r (by omega) (by rw [gp_eq];omega)
 · rw [if_neg h,Nat.mul_assoc,←Nat.pow_add]
   exact mk_exists (r/8388608-1+gp) (8388608+r%8388608) (by omega) (by have:=gp_eq;omega)
theorem read_word_bd (f:Ieee.Format) (s:Bool) (r:Nat) (hr:r<f.infRung) (hs:f.infRung<f.signWeight) :
 ∃ m:Nat,∃ k:Nat,f.read (f.word s r)=.number s m (f.leastPlace+k)∧m*2^k=val f r∧m<2*f.binade:=by
 have key:(f.word s r/f.signWeight%2==1)=s∧f.word s r%f.signWeight=r:=by
  unfold Ieee.Format.word
  cases s
  · simp only [Bool.false_eq_true,if_false]
    rw [Nat.div_eq_of_lt (by omega)];exact ⟨rfl,Nat.mod_eq_of_lt (by omega)⟩
  · simp only [if_true]
    rw [Nat.add_div_left _ (by omega),Nat.div_eq_of_lt (by omega),Nat.add_mod_left];exact ⟨rfl,Nat.mod_eq_of_lt (by omega)⟩
 have hb:=binade_pos f;unfold Ieee.Format.read;simp only [key.1,key.2];unfold val
 by_cases h:r<f.binade
 · rw [if_pos h,if_pos h]
   exact ⟨r,0,by simp,by simp,by omega⟩
 · rw [if_neg h,if_neg h,if_pos hr]
   have:=Nat.mod_lt r hb;exact ⟨_,_,rfl,rfl,by omega⟩
theorem div_two (d h:Nat) (hd:d<9218868437227405312) (hh:h<9218868437227405312) (hv:val Ieee.double d=2*val Ieee.double h) (hp:0<val Ieee.double h) :
 Ieee.double.div (Ieee.double.word false d) 4611686018427387904=some (Ieee.double.word false h):=by
 obtain ⟨m,k,e1,v1,hm⟩:=read_word_bd Ieee.double false d (by rw [dInf];exact hd) dHs
 have e2:Ieee.double.read 4611686018427387904=.number false 4503599627370496 (-51):=by decide
 unfold Ieee.Format.div;rw [e1,e2];unfold Ieee.Datum.quotient;simp only
 have hm0:m≠0:=by
  rintro rfl;rw [Nat.zero_mul] at v1;omega
 have hl:=(Nat.log2_eq_iff hm0 (k:=m.log2)).1 rfl
 have hL:m.log2<53:=by
  rw [dBin] at hm;refine (Nat.pow_lt_pow_iff_right (a:=2) (by omega)).1 (Nat.lt_of_le_of_lt hl.1 (Nat.lt_of_lt_of_le hm (by decide)))
 have hlog:Nat.log2 4503599627370496=52:=by decide
 have hfb:Ieee.double.fractionBits=52:=rfl;rw [if_neg (by decide),hlog,hfb,Nat.shiftLeft_eq]
 generalize m.log2=L at *;obtain ⟨q,hq⟩:∃ q,52+2+52-L=q+52:=⟨54-L,by omega⟩
 rw [hq,Nat.pow_add,←Nat.mul_assoc,show (4503599627370496:Nat)=2^52 from rfl,Nat.mul_div_cancel _ (Nat.two_pow_pos 52),Nat.mul_mod_left]
 show some (Ieee.double.nearest _ (2*(m*2^q)+0) _)=_
 rw [Nat.add_zero];have hq2:2≤q:=by omega
 have ep:Ieee.double.leastPlace+(k:Int)-(-51)-((q+52:Nat):Int)-1=Ieee.double.leastPlace+(k:Int)-((q+2:Nat):Int):=by omega
 rw [ep];rw [nearest_exact2 Ieee.double _ (2*(m*2^q)) k (q+2) h (by rw [dInf];exact hh) ?_ ?_]
 · rfl
 · rw [Nat.mul_assoc,Nat.mul_right_comm,v1,hv,Nat.pow_add]
   have:(2:Nat)^2=4:=rfl;rw [this];generalize val Ieee.double h=H;generalize 2^q=T;have h1:2*(2*H*T)=4*(H*T):=by rw [Nat.mul_assoc 2 H T];omega
   have h2:H*(T*4)=4*(H*T):=by rw [←Nat.mul_assoc,Nat.mul_comm]
   rw [h1,h2]
 · have:0<m*2^q:=Nat.mul_pos (by omega) (Nat.two_pow_pos _)
   omega
theorem widen_bits (s:Bool) (r e f:Nat) (hr:r<2139095040) (he:e<2047) (hf:f<4503599627370496) (hv:val Ieee.double (e*4503599627370496+f)=val Ieee.single r*2^gp) :
 floatToFloatBits .f32 (Ieee.single.word s r) .f64=some (bw s e f):=by
 obtain ⟨m,k,e1,v1⟩:=read_word Ieee.single s r (by rw [sInf];exact hr) sHs
 unfold floatToFloatBits;rw [if_neg (by decide)]
 have hd:FloatKind.f32.decode (Ieee.single.word s r)=.number s m (Ieee.single.leastPlace+k):=e1;rw [hd]
 have hn:FloatKind.f64.encode (.number s m (Ieee.single.leastPlace+k))=bw s e f:=by
  show Ieee.double.nearest s m (Ieee.single.leastPlace+k)=_
  have ep:Ieee.single.leastPlace+(k:Int)=Ieee.double.leastPlace+((k+gp:Nat):Int):=by rw [sLeast,dLeast];have:=gp_eq;omega
  rw [ep,nearest_exact Ieee.double s m (k+gp) (e*4503599627370496+f) (by rw [dInf];omega) (by rw [Nat.pow_add,←Nat.mul_assoc,v1,hv]),bw_word]
 simp only [hn]
 have hi:(FloatKind.f64.decode (bw s e f)).isInfinity=false:=by
  show (Ieee.double.read (bw s e f)).isInfinity=false
  rw [bw_word];obtain ⟨m2,k2,e2,_⟩:=read_word Ieee.double s (e*4503599627370496+f) (by rw [dInf];omega) dHs
  rw [e2];rfl
 rw [hi];rfl
theorem narrow_bits (r:Nat) (h0:0<r) (hr:r<9218868437227405312) (hb:val Ieee.double r<val Ieee.single 2139095039*2^gp) :
 ∃ R,R≤2139095039∧floatToFloatBits .f64 (Ieee.double.word false r) .f32=some R ∧
   (val Ieee.single R*2^gp≤val Ieee.double r→val Ieee.double r<val Ieee.single (R+1)*2^gp) ∧
   (val Ieee.double r<val Ieee.single R*2^gp→0<R∧val Ieee.single (R-1)*2^gp<val Ieee.double r):=by
 obtain ⟨m,k,e1,v1⟩:=read_word Ieee.double false r (by rw [dInf];exact hr) dHs
 have hV0:0<val Ieee.double r:=by
  have:=val_lt Ieee.double h0;rw [val_zero] at this;exact this
 have hm0:m≠0:=by
  rintro rfl;rw [Nat.zero_mul] at v1;omega
 obtain ⟨R,eN,h1,h2⟩:=nearest_near Ieee.single false m k gp hm0;rw [v1] at h1 h2;have hp:0<2^gp:=Nat.two_pow_pos _
 have hR:R≤2139095039:=by
  by_cases c:val Ieee.single R*2^gp≤val Ieee.double r
  · have c2:=(val_lt_iff Ieee.single).1 (Nat.lt_of_mul_lt_mul_right (Nat.lt_of_le_of_lt c hb))
    omega
  · have c2:=(h2 (by omega)).2
    have c3:=(val_lt_iff Ieee.single).1 (Nat.lt_of_mul_lt_mul_right (Nat.lt_trans c2 hb));omega
 refine ⟨R,hR,?_,h1,h2⟩;unfold floatToFloatBits;rw [if_neg (by decide)]
 have hd:FloatKind.f64.decode (Ieee.double.word false r)=.number false m (Ieee.double.leastPlace+k):=e1;rw [hd]
 have hn:FloatKind.f32.encode (.number false m (Ieee.double.leastPlace+k))=Ieee.single.word false R:=by
  show Ieee.single.nearest false m (Ieee.double.leastPlace+k)=_
  have ep:Ieee.double.leastPlace+(k:Int)=Ieee.single.leastPlace+(k:Int)-(gp:Int):=by rw [sLeast,dLeast];have:=gp_eq;omega
  rw [ep,eN,sInf,Nat.min_eq_left (by omega)]
 simp only [hn]
 have hi:(FloatKind.f32.decode (Ieee.single.word false R)).isInfinity=false:=by
  show (Ieee.single.read (Ieee.single.word false R)).isInfinity=false
  obtain ⟨m2,k2,e2,_⟩:=read_word Ieee.single false R (by rw [sInf];omega) sHs
  rw [e2];rfl
 rw [hi];rfl
theorem wraps_u32 (n:Int) (h0:0≤n) (h1:n<2^32):IntKind.u32.wrap n=n:=by rw [IntKind.wrap_u32];omega
theorem or_sign32 (x:Int) (h0:0≤x) (h1:x<2147483648):bits .or .u32 x 2147483648=x+2147483648:=by
 have hc:bits .or .u32 x 2147483648=bits .or .u32 2147483648 x:=by simp only [bits,BitVec.or_comm]
 rw [hc,bits_join .u32 32 (by decide) wraps_u32 31 2147483648 x (by decide) (by decide) (by decide) h0 (by omega) (by omega)]
 omega
theorem and_one32 (q:Int) (h0:0≤q) (h1:q<4294967296):bits .and .u32 q 1=q%2:=by
 have h:=bits_mask .u32 32 (by decide) wraps_u32 1 (by decide) q h0 (by omega)
 rw [show ((2:Int)^1-1)=1 from rfl] at h
 rw [h];rfl
theorem ret_u32 {a b:Int}(h:a=b):Ending.returned (.int .u32 a)=.returned (.int .u32 b):=by rw [h]
end B
end Go.Proofs.YtdimlelcgapobaaGreatDoor
