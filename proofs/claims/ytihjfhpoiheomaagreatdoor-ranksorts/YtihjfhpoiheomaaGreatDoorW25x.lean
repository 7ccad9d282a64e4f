import Derived.Test.YtihjfhpoiheomaaGreatDoorM4x
import Derived.BigQuiet
import Derived.ArgAppend
import Derived.Maps.AppendAt
import Derived.WalkMore
import Derived.WalkLawsBesides
import Derived.ProofKit
import Derived.OpenShut
import Derived.ChangeOld
import Derived.SizedLaws
import Derived.Test.YtihjfhpoiheomaaGreatDoorM1x
import Derived.OwnWalk
import Derived.Deep.CutRange
import Derived.Deep.RegionHeld3
set_option linter.unusedVariables false
set_option linter.unusedSimpArgs false
set_option maxHeartbeats 16000000
set_option maxRecDepth 20000
namespace Go.Proofs.YtihjfhpoiheomaaGreatDoor
namespace J
end J
section
open Go.RowKit
theorem Mul_any (xs ys:List Nat) (ao bo:Option Addr) (n cap m capb B:Nat) (w:World) (hn:n=xs.length) (hm:m=ys.length) (hc:n≤cap) (hcb:m≤capb) (hbig:n≤35184372088833) (hbig2:m≤35184372088833)
 (hx:Wf xs) (hy:Wf ys) (hR:Rd B w ao xs) (hS:Rd B w bo ys) (hB:B≤w.heap.size) :
 Calls Tryz.prog 111 #[.slice ao n cap,.slice bo m capb] w fun r w'=>One w.heap.size w' r (mulS (val xs) (val ys))∧Below w.heap.size w w':=by
 obtain ⟨T1,hRX,hl1⟩:=trimX xs ao n cap B w hn hc (by omega) hx hR
 obtain ⟨T2,hRY,hl2⟩:=trimX ys bo m capb B w hm hcb (by omega) hy hS
 generalize val xs=X at *;generalize val ys=Y at *;have H1:=(hid T1);have H2:=(hid T2);have HR:=(qsd (ai hRX (ai hRY (ai hl1 hl2))));clear T1 T2 hRX hRY hn hm hx hy hR hS hl1 hl2
 by_cases hLX:LG X
 · have L:=hid (longb (ws X).length ao cap w true (by simpa [LG] using hLX))
   have e:mulS X Y=(0,2):=by simp [mulS,hLX]
   rw [e];clear e hLX HR;go_enter Tryz.func111,Tryz.ntmps111
   go_wp2_with fail
   refine H1.out.mono ?_;rintro r w1 ⟨rfl,rfl⟩
   go_wp2_with fail
   refine H2.out.mono ?_;rintro r w1 ⟨rfl,rfl⟩
   go_wp2_with fail
   refine L.out.mono ?_;rintro r w1 ⟨rfl,rfl⟩;go_wp2
   go_ret2
   exact ⟨⟨_,rfl,Nt.nil _ _⟩,Below.refl _ _⟩
 · have L:=hid (longb (ws X).length ao cap w false (by simpa [LG] using hLX))
   by_cases hLY:LG Y
   · have L2:=hid (longb (ws Y).length bo capb w true (by simpa [LG] using hLY))
     have e:mulS X Y=(0,2):=by simp [mulS,hLY]
     rw [e];clear e hLX hLY HR;go_enter Tryz.func111,Tryz.ntmps111
     go_wp2_with fail
     refine H1.out.mono ?_;rintro r w1 ⟨rfl,rfl⟩
     go_wp2_with fail
     refine H2.out.mono ?_;rintro r w1 ⟨rfl,rfl⟩
     go_wp2_with fail
     refine L.out.mono ?_;rintro r w1 ⟨rfl,rfl⟩
     go_wp2_with fail
     refine L2.out.mono ?_;rintro r w1 ⟨rfl,rfl⟩;go_wp2
     go_ret2
     exact ⟨⟨_,rfl,Nt.nil _ _⟩,Below.refl _ _⟩
   · have L2:=hid (longb (ws Y).length bo capb w false (by simpa [LG] using hLY))
     have hz1:(ws X).length=0→X=0:=(ws_len_zero X).1;have hz2:(ws Y).length=0→Y=0:=(ws_len_zero Y).1
     by_cases h1:(ws X).length=0
     · have e:mulS X Y=(0,0):=by
        have:=hz1 h1;subst this;unfold mulS;rw [if_neg (by simp [hLX,hLY]),Nat.zero_mul,if_neg hLX]
       rw [e];have hh:=hid h1;rw [h1] at H1 L;have h1b:((ws X).length:Int)=0:=by omega
       clear e hLX hLY HR hz1 hz2 h1 h1b hh;go_enter Tryz.func111,Tryz.ntmps111
       go_wp2_with fail
       refine H1.out.mono ?_;rintro r w1 ⟨rfl,rfl⟩
       go_wp2_with fail
       refine H2.out.mono ?_;rintro r w1 ⟨rfl,rfl⟩
       go_wp2_with fail
       refine L.out.mono ?_;rintro r w1 ⟨rfl,rfl⟩
       go_wp2_with fail
       refine L2.out.mono ?_;rintro r w1 ⟨rfl,rfl⟩;go_wp2
       go_ret2
       exact ⟨⟨_,rfl,Nt.nil _ _⟩,Below.refl _ _⟩
     · by_cases h2:(ws Y).length=0
       · have e:mulS X Y=(0,0):=by
          have:=hz2 h2;subst this;unfold mulS;rw [if_neg (by simp [hLX,hLY]),Nat.mul_zero,if_neg hLY]
         rw [e];rw [h2] at H2 L2;obtain ⟨k1,hk1⟩:∃ k,(ws X).length=k:=⟨_,rfl⟩;rw [hk1] at H1 L h1;have h1b:((k1:Int)==0)=false:=by simp;omega
         clear e hLX hLY HR hz1 hz2 h2 hk1;go_enter Tryz.func111,Tryz.ntmps111
         go_wp2_with fail
         refine H1.out.mono ?_;rintro r w1 ⟨rfl,rfl⟩
         go_wp2_with fail
         refine H2.out.mono ?_;rintro r w1 ⟨rfl,rfl⟩
         go_wp2_with fail
         refine L.out.mono ?_;rintro r w1 ⟨rfl,rfl⟩
         go_wp2_with fail
         refine L2.out.mono ?_;rintro r w1 ⟨rfl,rfl⟩;go_wp2
         go_ret2
         exact ⟨⟨_,rfl,Nt.nil _ _⟩,Below.refl _ _⟩
       · have hX0:X≠0:=fun e=>h1 ((ws_len_zero X).2 e)
         have hY0:Y≠0:=fun e=>h2 ((ws_len_zero Y).2 e)
         have hlow:pw ((ws X).length+(ws Y).length-2)≤X*Y:=by
          have a:=Nat.mul_le_mul (ws_len_ge X hX0) (ws_len_ge Y hY0);rw [←pw_add] at a;rw [show (ws X).length+(ws Y).length-2=(ws X).length-1+((ws Y).length-1) by omega];exact a
         obtain ⟨hRX,hRY,hl1,hl2⟩:=HR.out;have M0:=mul_any (ws X) (ws Y) ao bo _ cap _ capb B w rfl rfl (by omega) (by omega) (by unfold LG at hLX hLY;omega) (wf_ws X) (wf_ws Y) hRX hRY hB
         rw [val_ws,val_ws] at M0;have hsmall1:(ws X).length≤8192:=by unfold LG at hLX;omega
         have hsmall2:(ws Y).length≤8192:=by unfold LG at hLY;omega
         obtain ⟨k1,hk1⟩:∃ k,(ws X).length=k:=⟨_,rfl⟩;obtain ⟨k2,hk2⟩:∃ k,(ws Y).length=k:=⟨_,rfl⟩;rw [hk1] at H1 L h1 M0 hlow hsmall1;rw [hk2] at H2 L2 h2 M0 hlow hsmall2;have h1b:((k1:Int)==0)=false:=by simp;omega
         have h2b:((k2:Int)==0)=false:=by simp;omega
         by_cases h3:8192<k1+k2-1
         · have hLG:LG (X*Y):=by
            unfold LG
            by_cases h4:(ws (X*Y)).length≤8192
            · have:=(ws_len_le _ _).1 h4
              have:=pw_mono (show 8192≤k1+k2-2 by omega)
              omega
            · omega
           have e:mulS X Y=(0,2):=by simp [mulS,hLG]
           rw [e];have h3i:(8192:Int)<(k1:Int)+(k2:Int)-1:=by omega
           clear e hLX hLY HR hz1 hz2 hk1 hk2 hRX hRY hl1 hl2 M0 hX0 hY0 hlow hLG h3;go_enter Tryz.func111,Tryz.ntmps111
           go_wp2_with fail
           refine H1.out.mono ?_;rintro r w1 ⟨rfl,rfl⟩
           go_wp2_with fail
           refine H2.out.mono ?_;rintro r w1 ⟨rfl,rfl⟩
           go_wp2_with fail
           refine L.out.mono ?_;rintro r w1 ⟨rfl,rfl⟩
           go_wp2_with fail
           refine L2.out.mono ?_;rintro r w1 ⟨rfl,rfl⟩;go_wp2
           go_ret2
           exact ⟨⟨_,rfl,Nt.nil _ _⟩,Below.refl _ _⟩
         · have h3i:(k1:Int)+(k2:Int)-1≤8192:=by omega
           have h3b:decide ((8192:Int)<(k1:Int)+(k2:Int)-1)=false:=decide_eq_false (by omega)
           have M:=hid M0;have HL:=(qsd (ai hLX hLY));clear hLX hLY HR hz1 hz2 hk1 hk2 hRX hRY hl1 hl2 M0 hX0 hY0 hlow h3;go_enter Tryz.func111,Tryz.ntmps111
           go_wp2_with fail
           refine H1.out.mono ?_;rintro r w1 ⟨rfl,rfl⟩
           go_wp2_with fail
           refine H2.out.mono ?_;rintro r w1 ⟨rfl,rfl⟩
           go_wp2_with fail
           refine L.out.mono ?_;rintro r w1 ⟨rfl,rfl⟩
           go_wp2_with fail
           refine L2.out.mono ?_;rintro r w1 ⟨rfl,rfl⟩
           go_wp2_with fail
           refine M.out.mono ?_;rintro r w2 ⟨v,rfl,hN,hb⟩;obtain ⟨av,cv,rfl,hcv,hcm,hRv⟩:=hN.shape;have U0:=unlessLong_any (ws (X*Y)).length av cv w2;have HN:=(qsd (ai hN hb));clear M hN hb hRv
           by_cases hL:LG (X*Y)
           · rw [if_pos (show 8192<(ws (X*Y)).length from hL)] at U0
             have U:=(hid U0);clear U0
             go_wp2_with fail
             refine U.out.mono ?_;rintro r w3 ⟨rfl,rfl⟩;go_wp2
             go_ret2
             rw [show mulS X Y=(0,2) by simp [mulS,hL]]
             exact ⟨⟨_,rfl,Nt.nil _ _⟩,HN.out.2⟩
           · rw [if_neg (show ¬ 8192<(ws (X*Y)).length from hL)] at U0
             have U:=(hid U0);clear U0
             go_wp2_with fail
             refine U.out.mono ?_;rintro r w3 ⟨rfl,rfl⟩;go_wp2
             go_ret2
             rw [show mulS X Y=(X*Y,0) by simp [mulS,HL.out.1,HL.out.2,hL]]
             exact ⟨⟨_,rfl,HN.out.1⟩,HN.out.2⟩
end
section
open Go.RowKit
theorem bl_le_words (X k:Nat) (h:X<pw k):bl X≤32*k:=by
 by_cases h0:X=0
 · subst h0;rw [bl_zero];omega
 · have h1:=bl_ge X h0
   have h3:pw k=2^(32*k):=by rw [←Nat.add_zero (32*k),pw_two];simp
   rw [h3] at h;have:=(Nat.pow_lt_pow_iff_right (a:=2) (by decide)).1 (Nat.lt_of_le_of_lt h1 h)
   omega
theorem bl_small (X:Nat) (h:¬ LG X):bl X≤262144 :=
 bl_le_words X 8192 ((ws_len_le X 8192).1 (by unfold LG at h;omega))
theorem Shift_any (xs:List Nat) (ao:Option Addr) (n cap B:Nat) (by':Int) (w:World) (hn:n=xs.length) (hc:n≤cap) (hbig:n≤35184372088833)
 (hx:Wf xs) (hR:Rd B w ao xs) (hB:B≤w.heap.size) (hb0:-9223372036854775808≤by') (hb1:by'≤9223372036854775807) :
 Calls Tryz.prog 108 #[.slice ao n cap,.int .i64 by'] w fun r w'=>One w.heap.size w' r (shiftS (val xs) by')∧Below w.heap.size w w':=by
 obtain ⟨T1,hRX,hl1⟩:=trimX xs ao n cap B w hn hc (by omega) hx hR
 generalize val xs=X at *;have N0:=len_any (ws X) ao _ cap B w rfl (by omega) (by omega) (wf_ws X) hRX
 rw [val_ws] at N0;have H1:=(hid T1);have H2:=(hid N0);have HR:=(qsd (ai hRX hl1));clear T1 N0 hRX hn hx hR hl1
 by_cases hLX:LG X
 · have L:=hid (longb (ws X).length ao cap w true (by simpa [LG] using hLX))
   have e:shiftS X by'=(0,2):=by simp [shiftS,hLX]
   rw [e];clear e hLX HR;generalize bl X=c at *;go_enter Tryz.func108,Tryz.ntmps108
   go_wp2_with fail
   refine H1.out.mono ?_;rintro r w1 ⟨rfl,rfl⟩
   go_wp2_with fail
   refine H2.out.mono ?_;rintro r w1 ⟨rfl,rfl⟩
   go_wp2_with fail
   refine L.out.mono ?_;rintro r w1 ⟨rfl,rfl⟩;go_wp2
   go_ret2
   exact ⟨⟨_,rfl,Nt.nil _ _⟩,Below.refl _ _⟩
 · have L:=hid (longb (ws X).length ao cap w false (by simpa [LG] using hLX))
   have hbs:=bl_small X hLX;obtain ⟨c,hcc⟩:∃ c,bl X=c:=⟨_,rfl⟩
   by_cases h0:X=0
   · have e:shiftS X by'=(0,0):=by unfold shiftS;rw [if_neg hLX,if_pos h0]
     rw [e];subst h0;rw [ws_zero] at H1 H2 L;rw [bl_zero] at H2;clear e hLX HR hbs hcc;go_enter Tryz.func108,Tryz.ntmps108
     go_wp2_with fail
     refine H1.out.mono ?_;rintro r w1 ⟨rfl,rfl⟩
     go_wp2_with fail
     refine H2.out.mono ?_;rintro r w1 ⟨rfl,rfl⟩
     go_wp2_with fail
     refine L.out.mono ?_;rintro r w1 ⟨rfl,rfl⟩;go_wp2
     go_ret2
     exact ⟨⟨_,rfl,Nt.nil _ _⟩,Below.refl _ _⟩
   · have hcp:=bl_pos X h0
     have hlt:=bl_lt X;rw [hcc] at hcp hbs H2 hlt;have hcne:((c:Int)==0)=false:=by simp;omega
     by_cases hneg:by'<0
     · obtain ⟨d,hd⟩:∃ d:Nat,(d:Int)=-by':=⟨(-by').toNat,by omega⟩
       have e:shiftS X by'=(X/2^d,0):=by
        unfold shiftS;rw [if_neg hLX,if_neg h0,if_pos hneg,←hd,Int.toNat_natCast]
       rw [e]
       by_cases hbig2:by'≤-(c:Int)
       · have e2:X/2^d=0:=Nat.div_eq_of_lt (Nat.lt_of_lt_of_le hlt (Nat.pow_le_pow_right (by decide) (by omega)))
         rw [e2];clear e e2 hLX HR hcc hlt hd h0;go_enter Tryz.func108,Tryz.ntmps108
         go_wp2_with fail
         refine H1.out.mono ?_;rintro r w1 ⟨rfl,rfl⟩
         go_wp2_with fail
         refine H2.out.mono ?_;rintro r w1 ⟨rfl,rfl⟩
         go_wp2_with fail
         refine L.out.mono ?_;rintro r w1 ⟨rfl,rfl⟩;go_wp2
         go_ret2
         exact ⟨⟨_,rfl,Nt.nil _ _⟩,Below.refl _ _⟩
       · obtain ⟨hRX,hl1⟩:=HR.out
         have D0:=down_any (ws X) ao _ cap B d (d/32) (d%32) w rfl (by omega) (by omega) (by omega) (by omega) (by omega) (wf_ws X) hRX hB
         rw [val_ws] at D0;have D:=hid D0;have hgt:-(c:Int)<by':=by omega
         have hd':-by'=(d:Int):=hd.symm
         clear e hLX HR hcc hlt h0 hRX hl1 D0 hbig2 hd;go_enter Tryz.func108,Tryz.ntmps108
         go_wp2_with fail
         refine H1.out.mono ?_;rintro r w1 ⟨rfl,rfl⟩
         go_wp2_with fail
         refine H2.out.mono ?_;rintro r w1 ⟨rfl,rfl⟩
         go_wp2_with fail
         refine L.out.mono ?_;rintro r w1 ⟨rfl,rfl⟩
         go_wp2_with fail
         try rw [hd']
         refine D.out.mono ?_;rintro r w2 ⟨v,rfl,hN,hb⟩;have HN:=(qsd (ai hN hb));clear hN hb D;go_wp2
         go_ret2
         exact ⟨⟨_,rfl,HN.out.1⟩,HN.out.2⟩
     · obtain ⟨d,rfl⟩:∃ d:Nat,by'=(d:Int):=⟨by'.toNat,by omega⟩
       by_cases hover:262144-(c:Int)<(d:Int)
       · have e:shiftS X (d:Int)=(0,2):=by unfold shiftS;rw [if_neg hLX,if_neg h0,if_neg hneg,hcc,if_pos hover]
         rw [e];clear e hLX HR hcc hlt h0 hneg;go_enter Tryz.func108,Tryz.ntmps108
         go_wp2_with fail
         refine H1.out.mono ?_;rintro r w1 ⟨rfl,rfl⟩
         go_wp2_with fail
         refine H2.out.mono ?_;rintro r w1 ⟨rfl,rfl⟩
         go_wp2_with fail
         refine L.out.mono ?_;rintro r w1 ⟨rfl,rfl⟩;go_wp2
         go_ret2
         exact ⟨⟨_,rfl,Nt.nil _ _⟩,Below.refl _ _⟩
       · have e:shiftS X (d:Int)=(X*2^d,0):=by unfold shiftS;rw [if_neg hLX,if_neg h0,if_neg hneg,hcc,if_neg hover,Int.toNat_natCast]
         rw [e];obtain ⟨hRX,hl1⟩:=HR.out;have D0:=up_any (ws X) ao _ cap B d (d/32) (d%32) w rfl (by omega) (by omega) (by omega) (by unfold LG at hLX;omega) (wf_ws X) hRX hB
         rw [val_ws] at D0;have D:=hid D0;have hle:(d:Int)≤262144-(c:Int):=by omega
         have hleb:decide (262144-(c:Int)<(d:Int))=false:=decide_eq_false (by omega)
         clear e hLX HR hcc hlt h0 hRX hl1 D0 hover hneg;go_enter Tryz.func108,Tryz.ntmps108
         go_wp2_with fail
         refine H1.out.mono ?_;rintro r w1 ⟨rfl,rfl⟩
         go_wp2_with fail
         refine H2.out.mono ?_;rintro r w1 ⟨rfl,rfl⟩
         go_wp2_with fail
         refine L.out.mono ?_;rintro r w1 ⟨rfl,rfl⟩
         go_wp2_with fail
         refine D.out.mono ?_;rintro r w2 ⟨v,rfl,hN,hb⟩;have HN:=(qsd (ai hN hb));clear hN hb D;go_wp2
         go_ret2
         exact ⟨⟨_,rfl,HN.out.1⟩,HN.out.2⟩
end
section
open Go.RowKit
abbrev Rw (lo:Nat) (w:World) (v:Value) (n:Nat) (ys:List Value):Prop:=w.ownsRow lo 113 1 v n ys
theorem row_other {w w':World}{lo e s:Nat}{v:Value}{n:Nat}{ys:List Value}(h:w.ownsRow lo e s v n ys) (hb:∀ g,v.ownBlock=some g→w'.heap[g]?=w.heap[g]?):w'.ownsRow lo e s v n ys:=by
 refine ⟨h.1,?_⟩
 rcases h.2 with hn|⟨g,cap,cur,rfl,hlo,hg,rest⟩
 · exact .inl hn
 · refine .inr ⟨g,cap,cur,rfl,hlo,?_,rest⟩
   rw [hb g rfl];exact hg
end
section
open Go.RowKit
theorem bit_words (xs:List Nat) (hx:Wf xs) (k r:Nat) (hk:k<xs.length) (hr:r<32):val xs/2^(32*k+r)%2=xs.getD k 0/2^r%2:=by
 have e:=val_take_drop xs k (by omega)
 have hl:val (xs.take k)<pw k:=by
  have:=val_lt _ (hx.take k);rwa [List.length_take,Nat.min_eq_left (by omega)] at this
 rw [pw_two,←Nat.div_div_eq_div_mul,e,Nat.add_mul_div_left _ _ (pw_pos k),Nat.div_eq_of_lt hl,Nat.zero_add,val_drop_succ xs k hk]
 have e2:4294967296*val (xs.drop (k+1))=2^r*(2*(2^(31-r)*val (xs.drop (k+1)))):=by
  have:(4294967296:Nat)=2^r*(2*2^(31-r)):=by
   rw [←Nat.mul_assoc,Nat.mul_comm (2^r) 2,Nat.mul_assoc,←Nat.pow_add,show r+(31-r)=31 by omega]
  rw [this];grind
 rw [e2,Nat.add_mul_div_left _ _ (Nat.two_pow_pos r),Nat.add_mul_mod_self_left]
theorem bit_beyond (xs:List Nat) (hx:Wf xs) (i:Nat) (h:xs.length≤i/32):val xs/2^i%2=0:=by
 have h1:=val_lt xs hx
 have h2:pw xs.length≤2^i:=by
  have:pw xs.length=2^(32*xs.length):=by rw [←Nat.add_zero (32*xs.length),pw_two];simp
  rw [this];exact Nat.pow_le_pow_right (by decide) (by omega)
 rw [Nat.div_eq_of_lt (by omega)]
theorem and_one (z:Nat) (h:z<4294967296):bits BinOp.and IntKind.u32 (z:Int) 1=((z%2:Nat):Int):=by
 have:=and32 z 1 h (by decide)
 rw [Nat.and_one_is_mod] at this;exact this
theorem bit_neg (ao:Option Addr) (n cap:Nat) (i:Int) (w:World) (hi:i<0) :
 Calls Tryz.prog 129 #[.slice ao n cap,.int .i64 i] w fun r w'=>r=.returned (.bool false)∧w'=w:=by
 go_enter Tryz.func129,Tryz.ntmps129;go_wp2;go_ret;exact ⟨rfl,rfl⟩
theorem bit_any (xs:List Nat) (ao:Option Addr) (n cap B i:Nat) (w:World) (hn:n=xs.length) (hx:Wf xs) (hR:Rd B w ao xs) (hi:i≤9223372036854775807) :
 Calls Tryz.prog 129 #[.slice ao n cap,.int .i64 (i:Int)] w fun r w'=>r=.returned (.bool (decide (val xs/2^i%2=1)))∧w'=w:=by
 obtain ⟨k,hk⟩:∃ k,k=i/32:=⟨_,rfl⟩;obtain ⟨r,hr⟩:∃ r,r=i%32:=⟨_,rfl⟩;have e1:(i:Int)/32=(k:Int):=by omega
 have e2:(i:Int)%32=(r:Int):=by omega
 by_cases hkn:k<n
 · have hb:=bit_words xs hx k r (by omega) (by omega)
   rw [show 32*k+r=i by omega] at hb
   rw [hb];obtain ⟨b,off,hB,rfl,hcell⟩:=hR (by intro e;subst e;simp at hn;omega)
   have hck:=hcell k (by omega)
   obtain ⟨t,ht⟩:∃ t,xs.getD k 0=t:=⟨_,rfl⟩;have htl:t<4294967296:=ht ▸ hx.get k;rw [ht] at hck ⊢;obtain ⟨z,hz⟩:∃ z,z=t/2^r:=⟨_,rfl⟩;have hzt:z≤t:=by rw [hz];exact Nat.div_le_self _ _
   have e3:(t:Int)/2^r=(z:Int):=by rw [hz];simp
   have e4:=and_one z (by omega)
   have hr32:r<32:=by omega
   rw [←hz];clear hb hn hx hR hcell ht hz hk hr
   rcases (by omega:z%2=0∨z%2=1) with hz2|hz2
   · rw [hz2] at e4 ⊢
     clear hz2;go_enter Tryz.func129,Tryz.ntmps129;go_wp2;go_ret;exact ⟨rfl,rfl⟩
   · rw [hz2] at e4 ⊢
     clear hz2;go_enter Tryz.func129,Tryz.ntmps129;go_wp2;go_ret;exact ⟨rfl,rfl⟩
 · rw [bit_beyond xs hx i (by omega)]
   clear hn hx hR hk hr;go_enter Tryz.func129,Tryz.ntmps129;go_wp2;go_ret;exact ⟨rfl,rfl⟩
def smallV (X:Nat):Value:=if X<18446744073709551616 then .tuple #[.int .u64 (X:Int),.int .i64 0] else .tuple #[.int .u64 0,.int .i64 2]
theorem nl_two (xs:List Nat) (hx:Wf xs):nl xs≤2↔val xs<18446744073709551616:=by
 rw [nl_eq_length xs hx,ws_len_le];rfl
theorem small_any (xs:List Nat) (ao:Option Addr) (n cap B:Nat) (w:World) (hn:n=xs.length) (hc:n≤cap) (hm:n≤70368744177664) (hx:Wf xs) (hR:Rd B w ao xs) :
 Calls Tryz.prog 128 #[.slice ao n cap] w fun r w'=>r=.returned (smallV (val xs))∧w'=w:=by
 have H:=hid (trim_any xs ao n cap B w hn hc (by omega) hR)
 have hl:=nl_le xs;have h2:=nl_two xs hx;have hf:=val_form xs hx;obtain ⟨m,hm'⟩:∃ m,nl xs=m:=⟨_,rfl⟩;rw [hm'] at H hl h2 hf;unfold smallV
 by_cases h:2<m
 · rw [if_neg (by omega)]
   clear h2 hl hn hx hR hm' hf;go_enter Tryz.func128,Tryz.ntmps128
   go_wp2_with fail
   refine H.out.mono ?_;rintro r w1 ⟨rfl,rfl⟩;go_wp2
   go_ret2
   exact ⟨rfl,rfl⟩
 · rw [if_pos (by omega)]
   rw [←sg_val_take] at hf;have HR:=(qsd (ai hR (ai hn (ai hx (ai hl hf)))));have hm2:m≤2:=by omega
   clear h2 hl hn hx hR hm' hf h;go_enter Tryz.func128,Tryz.ntmps128
   go_wp2_with fail
   refine H.out.mono ?_;rintro r w1 ⟨rfl,rfl⟩;go_wp2
   go_loopg [4,14] m (fun gk s i wr=>∃ (k sv:Nat),gk+k=m∧s=.int .u64 (sv:Nat)∧i=.int .i64 (k:Nat)∧wr=w1∧Aside (sv=sg xs 0 k))
   case atStart=>exact ⟨0,0,by omega,rfl,rfl,rfl,(sg_zero _ _).symm⟩
   case round =>
    obtain ⟨k,sv,hgk,rfl,rfl,rfl,HA⟩:=hrel
    by_cases hk:k<m
    · obtain ⟨hR,hn,hx,hl,hf⟩:=HR.out
      obtain ⟨b,off,hB,rfl,hcell⟩:=hR (by intro e;subst e;simp at hl;omega)
      have hck:=hcell k (by omega)
      obtain ⟨t,ht⟩:∃ t,xs.getD k 0=t:=⟨_,rfl⟩;have htl:t<4294967296:=ht ▸ hx.get k;rw [ht] at hck;have hs1:=sg_lt xs 0 k hx (by omega)
      have hs2:=sg_succ xs 0 k (by omega)
      rw [Nat.zero_add,ht,←HA.out] at hs2;rw [←HA.out] at hs1;have HX:=(qsd (ai hs1 hs2));clear hR hn hx hl hf hcell ht hs1 hs2
      rcases (by omega:k=0∨k=1) with rfl|rfl
      · have hsv:sv=0:=by have:=HX.out.1;rw [pw_zero] at this;omega
        have e:bits BinOp.or IntKind.u64 (sv:Int) (t:Int)=(t:Int):=by rw [bits_or_u64_nat _ _ (by omega) (by omega),hsv,Nat.zero_or]
        rw [Nat.add_zero] at hck;have HS:=(qsd hsv);clear hsv;go_wp2
        go_roundg (gk-1)
        case measure=>omega
        case rel =>
         refine ⟨1,t,by omega,by first | rfl | rw [e],by go_num,rfl,?_⟩
         have:=HX.out.2;rw [pw_zero,HS.out] at this;rw [Aside,this];omega
      · have hsv:sv<4294967296:=by have:=HX.out.1;rw [show (1:Nat)=0+1 from rfl,pw_succ,pw_zero] at this;omega
        have e:=or64_join2 t sv htl hsv;go_wp2
        go_roundg (gk-1)
        case measure=>omega
        case rel =>
         refine ⟨2,sv+t*4294967296,by omega,by first | rfl | rw [e] | (rw [e];rfl),by go_num,rfl,?_⟩
         have:=HX.out.2;rw [show pw 1=4294967296 from rfl] at this
         rw [Aside,this];omega
    · obtain rfl:k=m:=by omega
      go_wp2
      go_ret2
      obtain ⟨hR,hn,hx,hl,hf⟩:=HR.out;rw [←hf,←HA.out];exact ⟨rfl,rfl⟩
end
section
open Go.RowKit
structure Arg (w:World) (a:Option Addr) (n c:Nat) (xs:List Nat):Prop where
 len:n=xs.length
 cap:n≤c
 big:n≤35184372088832
 wf:Wf xs
 rd:Rd w.heap.size w a xs
 nil:a=none→c=0
theorem Arg.below {w w':World}{a:Option Addr}{n c:Nat}{xs:List Nat}(h:Arg w a n c xs) (hb:Below w.heap.size w w'):Arg w' a n c xs :=
 ⟨h.len,h.cap,h.big,h.wf,(h.rd.below hb).mono hb.size,h.nil⟩
theorem Nt.arg {lo:Nat}{w:World}{v:Value}{X:Nat}(h:Nt lo w v X) (hs:(ws X).length≤35184372088832):∃ a c,v=.slice a (ws X).length c∧Arg w a (ws X).length c (ws X):=by
 have h':=h;obtain ⟨a,c,rfl,h1,h2,h3⟩:=h.shape;refine ⟨a,c,rfl,rfl,h1,hs,wf_ws X,h3,fun e=>?_⟩
 rcases h'.2 with ⟨e1,_⟩|⟨g,cap,cur,e1,_⟩
 · simp only [Value.slice.injEq] at e1;exact e1.2.2
 · simp only [Value.slice.injEq] at e1;rw [e1.1] at e;cases e
theorem one_ok {lo:Nat}{w:World}{r:Ending}{a:Nat×Int}{V:Nat}(h:One lo w r a) (e:a=(V,0)):∃ v,r=.returned (.tuple #[v,.int .i64 0])∧Nt lo w v V:=by
 subst e;exact h
theorem Add_arg {w:World}{a b:Option Addr}{n c m d:Nat}{xs ys:List Nat}{V:Nat}(h1:Arg w a n c xs) (h2:Arg w b m d ys) (e:addS (val xs) (val ys)=(V,0)) :
 Calls Tryz.prog 139 #[.slice a n c,.slice b m d] w fun r w'=>∃ v,r=.returned (.tuple #[v,.int .i64 0])∧Nt w.heap.size w' v V∧Below w.heap.size w w' :=
 (Add_any xs ys a b n c m d w.heap.size w h1.len h2.len h1.cap h2.cap (by have:=h1.big;omega) (by have:=h2.big;omega) h1.wf h2.wf h1.rd h2.rd (Nat.le_refl _)).mono
  fun r w' ⟨ho,hb⟩=>by obtain ⟨v,h3,h4⟩:=one_ok ho e;exact ⟨v,h3,h4,hb⟩
theorem Sub_arg {w:World}{a b:Option Addr}{n c m d:Nat}{xs ys:List Nat}{V:Nat}(h1:Arg w a n c xs) (h2:Arg w b m d ys) (e:subS (val xs) (val ys)=(V,0)) :
 Calls Tryz.prog 141 #[.slice a n c,.slice b m d] w fun r w'=>∃ v,r=.returned (.tuple #[v,.int .i64 0])∧Nt w.heap.size w' v V∧Below w.heap.size w w' :=
 (Sub_any xs ys a b n c m d w.heap.size w h1.len h2.len h1.cap h2.cap (by have:=h1.big;omega) (by have:=h2.big;omega) h1.wf h2.wf h1.rd h2.rd (Nat.le_refl _)).mono
  fun r w' ⟨ho,hb⟩=>by obtain ⟨v,h3,h4⟩:=one_ok ho e;exact ⟨v,h3,h4,hb⟩
theorem Shift_arg {w:World}{a:Option Addr}{n c:Nat}{xs:List Nat}{V:Nat}(by':Int) (h1:Arg w a n c xs) (e:shiftS (val xs) by'=(V,0)) (hb0:-9223372036854775808≤by') (hb1:by'≤9223372036854775807) :
 Calls Tryz.prog 108 #[.slice a n c,.int .i64 by'] w fun r w'=>∃ v,r=.returned (.tuple #[v,.int .i64 0])∧Nt w.heap.size w' v V∧Below w.heap.size w w' :=
 (Shift_any xs a n c w.heap.size by' w h1.len h1.cap (by have:=h1.big;omega) h1.wf h1.rd (Nat.le_refl _) hb0 hb1).mono
  fun r w' ⟨ho,hb⟩=>by obtain ⟨v,h3,h4⟩:=one_ok ho e;exact ⟨v,h3,h4,hb⟩
theorem Cmp_arg {w:World}{a b:Option Addr}{n c m d:Nat}{xs ys:List Nat}(h1:Arg w a n c xs) (h2:Arg w b m d ys) (z:Int) (e:cmpI (val xs) (val ys)=z) :
 Calls Tryz.prog 140 #[.slice a n c,.slice b m d] w fun r w'=>r=.returned (.int .i64 z)∧Below w.heap.size w w':=by
 have:=cmp_any xs ys a b n c m d w.heap.size w h1.len h2.len h1.cap h2.cap (by have:=h1.big;omega) (by have:=h2.big;omega) h1.wf h2.wf h1.rd h2.rd
 rw [e] at this;exact this
theorem addS_ok {X Y V:Nat}(h3:¬ LG V) (e:X+Y=V):addS X Y=(V,0):=by subst e;unfold addS;rw [if_neg h3]
theorem subS_ok {X Y V:Nat}(h1:¬ LG X) (h2:¬ LG Y) (e:V+Y=X):subS X Y=(V,0):=by unfold subS;rw [if_neg (by simp [h1,h2]),if_neg (by omega)];congr 1;omega
end
section
open Go.RowKit
theorem below_alloc (w:World) (o:Obj):Below w.heap.size w (w.alloc o):=(Below.refl _ _).alloc (Nat.le_refl _) _
theorem bl_pw (N n:Nat) (h:N<pw n):bl N≤32*n:=by
 by_cases h0:N=0
 · rw [h0,bl_zero];omega
 · have h1:=bl_ge N h0
   rcases Nat.lt_or_ge (32*n) (bl N) with h2|h2
   · exfalso
     have h3:2^(32*n)≤2^(bl N-1):=Nat.pow_le_pow_right (by omega) (by omega)
     have h4:pw n=2^(32*n):=by unfold pw;rw [Nat.pow_mul]
     omega
   · exact h2
end
section
open Go.RowKit
theorem Nt.but {lo g:Nat}{w w':World}{v:Value}{X:Nat}(h:Nt lo w v X) (hb:But g w w') (hg:g<lo):Nt lo w' v X:=by
 have h1:Rw lo w v (ws X).length ((ws X).map U):=h
 exact row_other h1 fun b hb2=>by
  obtain ⟨h2,h3⟩:=h.lt b hb2;exact hb.block b h3 (by omega)
end
section
open Go.RowKit
theorem cmpI_ge {x y:Nat}(h:y≤x):0≤cmpI x y:=by unfold cmpI;split <;> (try split) <;> omega
end
section
open Go.RowKit
theorem lo_form (X:Nat) (h:X≠0):∃ m,X=2^lo X*(2*m+1):=by
 have key:∀ Y:Nat,Y≠0→∃ i m,Y=2^i*(2*m+1):=by
  intro Y
  induction Y using Nat.strongRecOn with
  | ind Y ih =>
    intro hY
    rcases Nat.mod_two_eq_zero_or_one Y with h0|h1
    · obtain ⟨i,m,e⟩:=ih (Y/2) (by omega) (by omega)
      refine ⟨i+1,m,?_⟩;rw [Nat.pow_succ,Nat.mul_comm (2^i) 2,Nat.mul_assoc,←e];omega
    · exact ⟨0,Y/2,by omega⟩
 obtain ⟨i,m,e⟩:=key X h;refine ⟨m,?_⟩;rw [e,lo_eq]
end
section
open Go.RowKit
theorem Arg.drew' {w:World}{a:Option Addr}{n c:Nat}{xs:List Nat}(h:Arg w a n c xs):Arg w.drew a n c xs:=⟨h.len,h.cap,h.big,h.wf,h.rd,h.nil⟩
end
section
open Go.RowKit
def mkS (neg:Bool) (X:Nat) (e:Int):Option (Bool×Nat×Int) :=
 if X=0 then some (false,0,0)
 else if 262144<bl X-lo X∨1048576-(lo X:Int)<e∨e < -1048576-(lo X:Int) then none
 else some (neg,X/2^lo X,e+lo X)
def dN (o:Option (Bool×Nat×Int)):Bool:=(o.getD (false,0,0)).1
def dX (o:Option (Bool×Nat×Int)):Nat:=(o.getD (false,0,0)).2.1
def dE (o:Option (Bool×Nat×Int)):Int:=(o.getD (false,0,0)).2.2
def erS (o:Option (Bool×Nat×Int)):Int:=if o.isSome then 0 else 2
theorem bl_gt (X m:Nat):m<bl X↔2^m≤X:=by
 constructor
 · intro h
   have h0:X≠0:=by rintro rfl;rw [bl_zero] at h;omega
   exact Nat.le_trans (Nat.pow_le_pow_right (by omega) (by omega:m≤bl X-1)) (bl_ge X h0)
 · intro h
   exact (Nat.pow_lt_pow_iff_right (by omega)).1 (Nat.lt_of_le_of_lt h (bl_lt X))
theorem len_bl (X k m:Nat) (hm:m=32*k):k<(ws X).length↔m<bl X:=by
 rw [bl_gt,hm,Nat.pow_mul];have h:=ws_len_le X k;unfold pw at h;rw [show (2:Nat)^32=4294967296 from rfl]
 generalize 4294967296^k=P at h ⊢;omega
theorem LG_bl (X:Nat):LG X↔262144<bl X:=len_bl X 8192 262144 rfl
theorem bl_mul_pow (k Y:Nat) (h:Y≠0):bl (2^k*Y)=k+bl Y:=by
 have h1:=bl_lt Y;have h2:=bl_ge Y h;have h3:=bl_pos Y h;have e:k+bl Y=(k+(bl Y-1))+1:=by omega
 rw [e]
 apply bl_eq
 · rw [Nat.pow_add];exact Nat.mul_le_mul_left _ h2
 · rw [show k+(bl Y-1)+1=k+bl Y by omega,Nat.pow_add]
   exact Nat.mul_lt_mul_of_pos_left h1 (Nat.two_pow_pos k)
theorem odd_part (X:Nat) (h:X≠0):∃ m,X=2^lo X*(2*m+1)∧X/2^lo X=2*m+1∧bl X=lo X+bl (X/2^lo X):=by
 obtain ⟨m,hm⟩:=lo_form X h
 have e:X/2^lo X=2*m+1:=by
  obtain ⟨k,hk⟩:∃ k,lo X=k:=⟨_,rfl⟩;rw [hk] at hm ⊢;rw [hm,Nat.mul_div_cancel_left _ (Nat.two_pow_pos k)]
 refine ⟨m,hm,e,?_⟩;rw [e];obtain ⟨k,hk⟩:∃ k,lo X=k:=⟨_,rfl⟩;rw [hk] at hm ⊢;rw [hm];exact bl_mul_pow k _ (by omega)
theorem lo_double (X:Nat) (h:X≠0):lo (2*X)=lo X+1:=by
 obtain ⟨m,hm⟩:=lo_form X h;obtain ⟨k,hk⟩:∃ k,lo X=k:=⟨_,rfl⟩;rw [hk] at hm ⊢;have e:2*X=2^(k+1)*(2*m+1):=by rw [hm,Nat.pow_succ];grind
 rw [e];exact lo_eq (k+1) m
theorem bl_double (X:Nat) (h:X≠0):bl (2*X)=bl X+1:=by
 have:=bl_mul_pow 1 X h;rw [Nat.pow_one] at this;omega
theorem mkS_double (n:Bool) (X:Nat) (e:Int):mkS n (2*X) e=mkS n X (e+1):=by
 unfold mkS
 by_cases h:X=0
 · subst h;simp
 · rw [if_neg (by omega),if_neg h,lo_double X h,bl_double X h]
   have e1:2*X/2^(lo X+1)=X/2^lo X:=by
    rw [Nat.pow_succ,Nat.mul_comm (2^lo X) 2,Nat.mul_div_mul_left _ _ (by omega)]
   rw [e1];have e2:(262144<bl X+1-(lo X+1)∨1048576-((lo X+1:Nat):Int)<e∨e < -1048576-((lo X+1:Nat):Int))↔(262144<bl X-lo X∨1048576-(lo X:Int)<e+1∨e+1 < -1048576-(lo X:Int)):=by omega
   by_cases h2:262144<bl X-lo X∨1048576-(lo X:Int)<e+1∨e+1 < -1048576-(lo X:Int)
   · rw [if_pos h2,if_pos (e2.2 h2)]
   · rw [if_neg h2,if_neg (fun h3=>h2 (e2.1 h3))]
     congr 3
     omega
theorem mkS_zero (n:Bool) (e:Int):mkS n 0 e=some (false,0,0):=by unfold mkS;rw [if_pos rfl]
theorem lo_odd' (X:Nat) (h:X%2=1):lo X=0:=by
 have:=lo_odd (X/2);rw [show 2*(X/2)+1=X by omega] at this
 exact this
theorem mkS_odd (n:Bool) (X:Nat) (e:Int) (h:X%2=1):mkS n X e=if 262144<bl X∨1048576<e∨e < -1048576 then none else some (n,X,e):=by
 have h0:X≠0:=by omega
 unfold mkS;rw [if_neg h0,lo_odd' X h];simp only [Nat.sub_zero,Nat.pow_zero,Nat.div_one]
 by_cases h2:262144<bl X∨1048576<e∨e < -1048576
 · rw [if_pos h2,if_pos (by omega)]
 · rw [if_neg h2,if_neg (by omega)]
   congr 3
   omega
structure Frm (n:Bool) (X:Nat) (e:Int):Prop where
 odd:X%2=1∨(X=0∧n=false∧e=0)
 size:bl X≤262144
 up:e≤1048576
 down:-1048576≤e
theorem mkS_frm {n n':Bool}{X Y:Nat}{e f:Int}(h:mkS n X e=some (n',Y,f)):Frm n' Y f:=by
 unfold mkS at h
 split at h
 · cases h
   exact ⟨.inr ⟨rfl,rfl,rfl⟩,by rw [bl_zero];omega,by omega,by omega⟩
 · next h0 =>
   split at h
   · cases h
   · next h1 =>
     obtain ⟨m,hm,e1,hb⟩:=odd_part X h0
     cases h
     refine ⟨.inl (by rw [e1];omega),by omega,by omega,by omega⟩
theorem Frm.self {n:Bool}{X:Nat}{e:Int}(h:Frm n X e):mkS n X e=some (n,X,e):=by
 rcases h.odd with h1|⟨rfl,rfl,rfl⟩
 · rw [mkS_odd n X e h1,if_neg]
   have:=h.size;have:=h.up;have:=h.down;omega
 · exact mkS_zero _ _
theorem frm_len {n:Bool}{X:Nat}{e:Int}(h:Frm n X e):(ws X).length≤8192:=by
 have h1:=LG_bl X;have h2:=h.size;unfold LG at h1;omega
theorem mkS_len (n:Bool) (X:Nat) (e:Int):(ws (dX (mkS n X e))).length≤8192:=by
 unfold dX
 cases h:mkS n X e with
 | none=>simp [ws_zero]
 | some d =>
   obtain ⟨n',Y,f⟩:=d;exact frm_len (mkS_frm h)
end
section
open Go.RowKit
theorem word_in (xs:List Nat) (ao:Option Addr) (n cap B i:Nat) (w:World) (hn:n=xs.length) (hm:n≤70368744177664) (hx:Wf xs) (hR:Rd B w ao xs) (hi:i<n) :
 Calls Tryz.prog 158 #[.slice ao n cap,.int .i64 (i:Nat)] w fun r w'=>r=.returned (.int .u32 ((xs.getD i 0:Nat):Int))∧w'=w:=by
 obtain ⟨b,off,hb,rfl,hc⟩:=hR (by intro e;subst e;simp at hn;omega)
 have hcell:=hc i (by omega)
 obtain ⟨x,hx2⟩:∃ x,xs.getD i 0=x:=⟨_,rfl⟩;rw [hx2] at hcell ⊢;have hi1:decide (n≤i)=false:=decide_eq_false (by omega)
 clear hc hx hn hx2;go_enter Tryz.func158,Tryz.ntmps158;go_wp2;go_ret;exact ⟨rfl,rfl⟩
theorem word_out (xs:List Nat) (ao:Option Addr) (n cap:Nat) (i:Int) (w:World) (hn:n=xs.length) (hm:n≤70368744177664) (hi:i<0∨(n:Int)≤i) :
 Calls Tryz.prog 158 #[.slice ao n cap,.int .i64 i] w fun r w'=>r=.returned (.int .u32 0)∧w'=w:=by
 clear hn
 rcases hi with h|h
 · go_enter Tryz.func158,Tryz.ntmps158
   go_wp2;go_ret;exact ⟨rfl,rfl⟩
 · have h0:decide (i<0)=false:=decide_eq_false (by omega)
   go_enter Tryz.func158,Tryz.ntmps158;go_wp2;go_ret;exact ⟨rfl,rfl⟩
def wd (xs:List Nat) (i:Int):Nat:=if i<0 then 0 else xs.getD i.toNat 0
theorem wd_lt (xs:List Nat) (hx:Wf xs) (i:Int):wd xs i<4294967296:=by
 unfold wd;split
 · omega
 · exact hx.get _
theorem word_any (xs:List Nat) (ao:Option Addr) (n cap B:Nat) (i:Int) (w:World) (hn:n=xs.length) (hm:n≤70368744177664) (hx:Wf xs) (hR:Rd B w ao xs) :
 Calls Tryz.prog 158 #[.slice ao n cap,.int .i64 i] w fun r w'=>r=.returned (.int .u32 ((wd xs i:Nat):Int))∧w'=w:=by
 by_cases h:i<0
 · unfold wd;rw [if_pos h];exact word_out xs ao n cap i w hn hm (.inl h)
 · obtain ⟨k,rfl⟩:∃ k:Nat,i=(k:Int):=⟨i.toNat,by omega⟩
   unfold wd;rw [if_neg h,Int.toNat_natCast]
   by_cases hk:k<n
   · exact word_in xs ao n cap B k w hn hm hx hR hk
   · rw [List.getD_eq_getElem?_getD,List.getElem?_eq_none (by omega)]
     exact word_out xs ao n cap k w hn hm (.inr (by omega))
def win (X:Nat) (i:Int):Nat:=if i<0 then X*2^(-i).toNat%4294967296 else X/2^i.toNat%4294967296
theorem val_mod (xs:List Nat):val xs%4294967296=xs.getD 0 0%4294967296:=by
 cases xs with
 | nil=>simp [val]
 | cons x xs=>simp [val]
theorem val_word (xs:List Nat) (hx:Wf xs) (q:Nat):∃ R,val xs/pw q=xs.getD q 0+4294967296*(xs.getD (q+1) 0+4294967296*R):=by
 by_cases h:q<xs.length
 · have h1:val xs/pw q=val (xs.drop q):=by
    have h5:=val_take_drop xs q (by omega)
    have h6:=val_lt (xs.take q) (hx.take q);rw [List.length_take,Nat.min_eq_left (by omega)] at h6
    rw [h5,Nat.add_mul_div_left _ _ (pw_pos q),Nat.div_eq_of_lt h6,Nat.zero_add]
   obtain ⟨R,hR⟩:∃ R,val (xs.drop (q+1))=xs.getD (q+1) 0+4294967296*R:=by
    by_cases h:q+1<xs.length
    · exact ⟨_,val_drop_succ xs (q+1) h⟩
    · refine ⟨0,?_⟩
      rw [List.drop_of_length_le (by omega),List.getD_eq_getElem?_getD,List.getElem?_eq_none (by omega)]
      rfl
   exact ⟨R,by rw [h1,val_drop_succ xs q h,hR]⟩
 · refine ⟨0,?_⟩
   have h1:=val_lt xs hx;have h2:=pw_mono (show xs.length≤q by omega)
   rw [Nat.div_eq_of_lt (by omega),List.getD_eq_getElem?_getD,List.getElem?_eq_none (by omega),List.getD_eq_getElem?_getD,List.getElem?_eq_none (by omega)]
   rfl
theorem win_pos (xs:List Nat) (hx:Wf xs) (q r:Nat) (hr:r<32):(xs.getD (q+1) 0*4294967296+xs.getD q 0)/2^r%4294967296=val xs/2^(32*q+r)%4294967296:=by
 rw [pw_two,←Nat.div_div_eq_div_mul];obtain ⟨R,hR⟩:=val_word xs hx q;rw [hR]
 have e:xs.getD q 0+4294967296*(xs.getD (q+1) 0+4294967296*R)=(xs.getD (q+1) 0*4294967296+xs.getD q 0)+2^r*(4294967296*(2^(32-r)*R)):=by
  have h1:=two_pow_rest r hr;have:2^r*(4294967296*(2^(32-r)*R))=4294967296*(4294967296*R):=by rw [←h1];grind
  rw [this];omega
 rw [e,Nat.add_mul_div_left _ _ (Nat.two_pow_pos _),Nat.add_mul_mod_self_left]
end
section
open Go.RowKit
theorem shl_mod (V k:Nat):V*2^k%4294967296=V%4294967296*2^k%4294967296:=by
 simp [Nat.mul_mod]
theorem win_eq (xs:List Nat) (hx:Wf xs) (i at':Int) (rest:Nat) (h1:at'=i/32) (h2:(rest:Int)=i%32) :
 (wd xs (at'+1)*4294967296+wd xs at')/2^rest%4294967296=win (val xs) i:=by
 have hr:rest<32:=by omega
 by_cases h:i<0
 · unfold win
   rw [if_pos h]
   by_cases h3:at'=-1
   · subst h3
     have e1:wd xs (-1)=0:=by unfold wd;rw [if_pos (by omega)]
     have e2:wd xs (-1+1)=xs.getD 0 0:=by unfold wd;rw [if_neg (by omega)];rfl
     rw [e1,e2,Nat.add_zero];obtain ⟨k,hk⟩:∃ k,(-i).toNat=k:=⟨_,rfl⟩;have e3:k=32-rest:=by omega
     rw [hk,shl_mod,val_mod,←shl_mod,←two_pow_rest rest hr,e3];rw [show xs.getD 0 0*(2^rest*2^(32-rest))=2^rest*(xs.getD 0 0*2^(32-rest)) by grind,Nat.mul_div_cancel_left _ (Nat.two_pow_pos rest)]
   · have e1:wd xs at'=0:=by unfold wd;rw [if_pos (by omega)]
     have e2:wd xs (at'+1)=0:=by unfold wd;rw [if_pos (by omega)]
     rw [e1,e2];obtain ⟨k,hk⟩:∃ k,(-i).toNat=k+32:=⟨(-i).toNat-32,by omega⟩
     rw [hk,Nat.pow_add,show (2:Nat)^32=4294967296 from rfl,←Nat.mul_assoc,Nat.mul_mod_left]
     simp
 · obtain ⟨n,rfl⟩:∃ n:Nat,i=(n:Int):=⟨i.toNat,by omega⟩
   obtain ⟨q,rfl⟩:∃ q:Nat,at'=(q:Int):=⟨at'.toNat,by omega⟩
   have e1:wd xs ((q:Int)+1)=xs.getD (q+1) 0:=by unfold wd;rw [if_neg (by omega)];rfl
   have e2:wd xs (q:Int)=xs.getD q 0:=by unfold wd;rw [if_neg (by omega)];rfl
   unfold win;rw [if_neg h,e1,e2,Int.toNat_natCast,win_pos xs hx q rest hr];rw [show 32*q+rest=n by omega]
theorem and31 (i:Int) (h0:-9223372036854775808≤i) (h1:i≤9223372036854775807):bits BinOp.and IntKind.i64 i 31=i%32:=by
 unfold bits;simp [IntKind.bits,IntKind.signed,IntKind.wrap]
 have e:(BitVec.ofInt 64 i &&& 31#64).toNat=(i%18446744073709551616).toNat%32:=by
  rw [BitVec.toNat_and,BitVec.toNat_ofInt];exact Nat.and_two_pow_sub_one_eq_mod _ 5
 show (if 9223372036854775808≤(((BitVec.ofInt 64 i &&& 31#64:BitVec 64).toNat:Nat):Int)%18446744073709551616 then (((BitVec.ofInt 64 i &&& 31#64:BitVec 64).toNat:Nat):Int)%18446744073709551616-18446744073709551616 else (((BitVec.ofInt 64 i &&& 31#64:BitVec 64).toNat:Nat):Int)%18446744073709551616)=i%32
 rw [e];generalize hz:(i%18446744073709551616).toNat=z;have hz2:(z:Int)=i%18446744073709551616:=by omega
 split <;> omega
theorem window_any (xs:List Nat) (ao:Option Addr) (n cap B:Nat) (i:Int) (w:World) (hn:n=xs.length) (hm:n≤70368744177664) (hx:Wf xs) (hR:Rd B w ao xs) (h0:-9223372036854775808≤i) (h1:i≤9223372036854775807) :
 Calls Tryz.prog 152 #[.slice ao n cap,.int .i64 i] w fun r w'=>r=.returned (.int .u32 ((win (val xs) i:Nat):Int))∧w'=w:=by
 obtain ⟨at',hat⟩:∃ a,a=i/32:=⟨_,rfl⟩;obtain ⟨rest,hrest⟩:∃ r:Nat,(r:Int)=i%32:=⟨(i%32).toNat,by omega⟩
 have hw:=win_eq xs hx i at' rest hat hrest;have W1:=hid (word_any xs ao n cap B (at'+1) w hn hm hx hR);have W2:=hid (word_any xs ao n cap B at' w hn hm hx hR);have l1:=wd_lt xs hx (at'+1);have l2:=wd_lt xs hx at';generalize wd xs (at'+1)=a at *;generalize wd xs at'=b at *;generalize win (val xs) i=v at *;have e1:i/32=at':=hat.symm;have e2:bits BinOp.and IntKind.i64 i 31=(rest:Int):=by rw [and31 i h0 h1,hrest]
 have e3:=or64_join a b l1 l2;have hr:rest<32:=by omega
 have ha0:-288230376151711744≤at':=by omega
 have ha1:at'≤288230376151711744:=by omega
 obtain ⟨t,ht⟩:∃ t:Nat,a*4294967296+b=t:=⟨_,rfl⟩;rw [ht] at e3 hw;have e4:(t:Int)/2^rest%4294967296=(v:Int):=by rw [←hw];simp
 clear hat hrest hw hn hx hR ht;go_enter Tryz.func152,Tryz.ntmps152
 go_wp2_with fail
 refine W1.out.mono ?_;rintro r w1 ⟨rfl,rfl⟩
 go_wp2_with fail
 refine W2.out.mono ?_;rintro r w2 ⟨rfl,rfl⟩;go_wp2;go_ret;exact ⟨by simp [e4],rfl⟩
end
section
open Go.RowKit
theorem ws_getD (Y i:Nat):(ws Y).getD i 0=Y/pw i%4294967296:=by
 induction i generalizing Y with
 | zero =>
   by_cases h:Y=0
   · subst h;simp [ws_zero]
   · rw [ws_pos Y h,pw_zero];simp
 | succ i ih =>
   by_cases h:Y=0
   · subst h;simp [ws_zero]
   · rw [ws_pos Y h,pw_succ,←Nat.div_div_eq_div_mul,←ih]
     simp
theorem win_word (X low i:Nat):win X ((low:Int)+32*(i:Int))=(ws (X/2^low)).getD i 0:=by
 rw [ws_getD,Nat.div_div_eq_div_mul];unfold win;rw [if_neg (by omega),show ((low:Int)+32*(i:Int)).toNat=low+32*i by omega,Nat.pow_add,Nat.pow_mul]
 rfl
theorem part_set (Ys:List Nat) (k:Nat) (hk:k<Ys.length) :
 (Ys.take k++List.replicate (Ys.length-k) 0).set k (Ys.getD k 0)=Ys.take (k+1)++List.replicate (Ys.length-(k+1)) 0:=by
 apply List.ext_getElem?
 intro j;rw [List.getElem?_set]
 by_cases hj:k=j
 · subst hj
   rw [if_pos rfl,if_pos (by simp;omega),List.getElem?_append_left (by simp;omega)]
   simp [List.getD_eq_getElem?_getD,hk]
 · rw [if_neg hj]
   by_cases h1:j<k
   · rw [List.getElem?_append_left (by simp;omega),List.getElem?_append_left (by simp;omega)]
     simp [h1,show j<k+1 by omega]
   · rw [List.getElem?_append_right (by simp;omega),List.getElem?_append_right (by simp;omega)]
     simp only [List.getElem?_replicate,List.length_take]
     congr 1
     simp only [eq_iff_iff];omega
theorem odd_any {w:World}{a:Option Addr}{n c:Nat}{xs:List Nat}(h1:Arg w a n c xs) (low size:Nat) (hle:low≤size) (hsz:size≤1125899906842624) (hlen:(size-low+31)/32=(ws (val xs/2^low)).length) :
 Calls Tryz.prog 133 #[.slice a n c,.int .i64 (low:Nat),.int .i64 (size:Nat)] w fun r w'=>∃ v,r=.returned v∧Nt w.heap.size w' v (val xs/2^low)∧Below w.heap.size w w':=by
 obtain ⟨m,hm⟩:∃ m,m=(size-low+31)/32:=⟨_,rfl⟩;rw [←hm] at hlen;have e1:((size:Int)-low+32-1)/32=(m:Int):=by omega
 have hmb:m≤35184372088832:=by omega
 obtain ⟨W1,hW1⟩:∃ W,W=w.alloc (.cells (madeCells #[.int .u32 0] m) 113):=⟨_,rfl⟩;have hO1:Own W1 w.heap.size (List.replicate m 0):=by rw [hW1];exact Own.made w m
 have hB1:Below w.heap.size w W1:=by rw [hW1];exact (Below.refl _ _).alloc (Nat.le_refl _) _
 have hmk:=make_words (m:Int) m rfl (by omega) w
 rw [←hW1] at hmk;have A1:=h1.below hB1;obtain ⟨g,hg⟩:∃ g,g=w.heap.size:=⟨_,rfl⟩;rw [←hg] at hO1 hmk;obtain ⟨Ys,hYs⟩:∃ Ys,ws (val xs/2^low)=Ys:=⟨_,rfl⟩;have hYw:Wf Ys:=hYs ▸ wf_ws _;rw [hYs] at hlen
 have WN:Hid (∀ wr,But g W1 wr→∀ i:Nat,i<m→Calls Tryz.prog 152 #[.slice a n c,.int .i64 ((low:Int)+32*(i:Int))] wr fun r w'=>r=.returned (.int .u32 ((Ys.getD i 0:Nat):Int))∧w'=wr):=by
  intro wr hb i hi;have hR:Rd w.heap.size wr a xs:=(h1.rd.below hB1).but hb (by rw [hg] at *;have:=hB1.size;omega) (by omega)
  have:=window_any xs a n c w.heap.size ((low:Int)+32*(i:Int)) wr h1.len (by have:=h1.big;omega) h1.wf hR (by omega) (by omega)
  rw [win_word,hYs] at this;exact this
 have HR:=(qsd (ai hB1 (ai hg (ai hYs (ai hYw hlen)))))
 have HO:Hid (Own W1 g (Ys.take 0++List.replicate (Ys.length-0) 0)):=by
  rw [←hlen];exact hid (by simpa using hO1)
 clear hm h1 hO1 hB1 A1 hg hYs hYw hW1 hlen;go_enter Tryz.func133,Tryz.ntmps133;go_wp2
 go_loopg [18] m (fun gk iv wr=>∃ (k:Nat),gk+k=m∧iv=.int .i64 (k:Nat)∧Hid (Own wr g (Ys.take k++List.replicate (Ys.length-k) 0))∧Aside (But g W1 wr))
 case atStart=>exact ⟨0,by omega,rfl,HO,But.refl _ _⟩
 case round =>
  clear HO e1;obtain ⟨k,hgk,rfl,HM,HA⟩:=hrel
  by_cases hk:k<m
  · have hlen:=HR.out.2.2.2.2
    have hgc:=HM.out.cell k (by simp;omega)
    have hgf:=HM.out.frozen k;obtain ⟨old,hold⟩:∃ o:Nat,(Ys.take k++List.replicate (Ys.length-k) 0).getD k 0=o:=⟨_,rfl⟩;rw [hold] at hgc;obtain ⟨y,hy⟩:∃ y:Nat,Ys.getD k 0=y:=⟨_,rfl⟩;have W2:=hid (WN.out wr HA.out k hk);rw [hy] at W2;have HY:=qsd hy;clear hlen hold hy
    go_wp2_with fail
    refine W2.out.mono ?_;rintro r w2 ⟨rfl,rfl⟩;go_wp2
    go_roundg (gk-1)
    case measure=>omega
    case rel =>
     refine ⟨k+1,by omega,by first | go_num | (congr 1;omega),?_,HA.out.set _ _⟩
     rw [←part_set Ys k (by have:=HR.out.2.2.2.2;omega),HY.out]
     exact HM.out.set _ _
  · obtain rfl:k=m:=by omega
    go_wp2;go_ret;obtain ⟨hB1,hg,hYs,hYw,hlen⟩:=HR.out;have hO:=HM.out;rw [hlen,List.take_length,Nat.sub_self,List.replicate_zero,List.append_nil] at hO;have hN:=Nt.ofOwn hO (lo:=w.heap.size) (by omega) hYw (by unfold maxLen;omega)
    have e2:nl Ys=Ys.length:=by rw [←hYs];exact nl_ws _
    rw [e2,←hYs,val_ws] at hN;rw [hlen,←hYs];exact ⟨_,rfl,hN,But.below hB1 HA.out hB1.size (by omega)⟩
def DAns (lo:Nat) (w:World) (r:Ending) (o:Option (Bool×Nat×Int)):Prop :=
 ∃ v,r=.returned (.tuple #[.agg #[.bool (dN o),v,.int .i64 (dE o)],.int .i64 (erS o)])∧Nt lo w v (dX o)
theorem bcell {W w1:World}(hb:Below W.heap.size W w1):(∀ b o,b<W.heap.size→w1.cell? ⟨b,o,none⟩=W.cell? ⟨b,o,none⟩)∧(∀ b o,b<W.heap.size→w1.frozen? ⟨b,o,none⟩=W.frozen? ⟨b,o,none⟩) :=
 ⟨fun b o h=>hb.cell (p:=⟨b,o,none⟩) h,fun b o h=>hb.frozen (p:=⟨b,o,none⟩) h⟩
theorem ws_len_bl (X:Nat):(ws X).length=(bl X+31)/32:=by
 by_cases h:X=0
 · subst h;simp [ws_zero,bl_zero]
 · have h1:=len_bl X ((ws X).length-1) _ rfl
   have h2:=len_bl X (ws X).length _ rfl;have h3:(ws X).length≠0:=fun e=>h ((ws_len_zero X).1 e)
   omega
theorem mk_len (X:Nat) (h:X≠0):(bl X-lo X+31)/32=(ws (X/2^lo X)).length:=by
 obtain ⟨m,_,_,hb⟩:=odd_part X h;rw [ws_len_bl]
 congr 2
 omega
theorem set3_but (g:Nat) (w:World) (x y z:Value):But g w (((w.setCell ⟨g,0,none⟩ x).setCell ⟨g,1,none⟩ y).setCell ⟨g,2,none⟩ z):=(((But.refl g w).set _ _).set _ _).set _ _
theorem laid3 {w W1 w2:World}{v:Value}{Y:Nat}(hB:Below w.heap.size w W1) (hs:w.heap.size<W1.heap.size) (hN:Nt W1.heap.size w2 v Y) (hb:Below W1.heap.size W1 w2) (x y z:Value) :
 Nt w.heap.size (((w2.setCell ⟨w.heap.size,0,none⟩ x).setCell ⟨w.heap.size,1,none⟩ y).setCell ⟨w.heap.size,2,none⟩ z) v Y∧Below w.heap.size w (((w2.setCell ⟨w.heap.size,0,none⟩ x).setCell ⟨w.heap.size,1,none⟩ y).setCell ⟨w.heap.size,2,none⟩ z) :=
 ⟨(hN.but (set3_but _ _ _ _ _) hs).mono (by omega),But.below (hB.trans (hb.mono (by omega))) (set3_but _ _ _ _ _) (by have:=hb.size;omega) (Nat.le_refl _)⟩
theorem Make_any {w:World}{a:Option Addr}{n c:Nat}{xs:List Nat}(h1:Arg w a n c xs) (hT:Tab w) (neg:Bool) (e:Int) (he0:-9223372036854775808≤e) (he1:e≤9223372036854775807) :
 Calls Tryz.prog 105 #[.bool neg,.slice a n c,.int .i64 e] w fun r w'=>DAns w.heap.size w' r (mkS neg (val xs) e)∧Below w.heap.size w w':=by
 obtain ⟨W1,hW1⟩:∃ W,W=w.alloc (.cells #[.bool false,.slice none 0 0,.int .i64 0] 77):=⟨_,rfl⟩;have hB1:Below w.heap.size w W1:=by rw [hW1];exact (Below.refl _ _).alloc (Nat.le_refl _) _
 have A1:=h1.below hB1;have hT1:=hT.belows hB1;have hbig:=h1.big;have H1:=hid (len_any xs a n c W1.heap.size W1 A1.len A1.cap (by omega) A1.wf A1.rd)
 have H2:=hid (low_any xs a n c W1.heap.size W1 A1.len (by omega) A1.wf A1.rd hT1)
 have hbl:bl (val xs)≤32*n:=by
  have:=val_lt xs h1.wf;rw [←h1.len] at this;exact bl_pw _ _ this
 obtain ⟨X,hX⟩:∃ X,val xs=X:=⟨_,rfl⟩;rw [hX] at H1 H2 hbl ⊢;obtain ⟨b,hb⟩:∃ b,bl X=b:=⟨_,rfl⟩;obtain ⟨l,hl⟩:∃ l,lo X=l:=⟨_,rfl⟩;rw [hb] at H1 hbl;rw [hl] at H2;unfold mkS;rw [hb,hl]
 have hlb:l≤b:=by
  by_cases h0:X=0
  · subst h0;rw [lo_zero] at hl;omega
  · obtain ⟨m,_,_,hbb⟩:=odd_part X h0
    omega
 have HB:=qsd hB1;have SZ:W1.heap.size=w.heap.size+1:=by rw [hW1];simp
 by_cases h0:X=0
 · have hb0:b=0:=by rw [←hb,h0,bl_zero]
   subst hb0;rw [if_pos h0];clear hb hl hX h0 hB1 A1 hT1 hT h1 hlb hbl SZ;subst hW1;go_enter Tryz.func105,Tryz.ntmps105
   go_wp2_with fail
   refine H1.out.mono ?_;rintro r w1 ⟨rfl,rfl⟩
   go_wp2_with fail
   refine H2.out.mono ?_;rintro r w1 ⟨rfl,rfl⟩;go_wp2;refine bodyPost_ret (v:=.tuple #[.agg #[.bool false,.slice none 0 0,.int .i64 0],.int .i64 0]) (by simp [results,Tryz.results105,go_sem]) rfl ⟨⟨_,rfl,Nt.nil _ _⟩,HB.out⟩
 · rw [if_neg h0]
   have hb0:((b:Int)==0)=false:=by have:=bl_pos X h0;simp;omega
   have hOD:=odd_any A1 l b hlb (by omega) (by rw [hX,←hb,←hl];exact mk_len X h0)
   rw [hX] at hOD;have H3:=hid hOD
   by_cases h2:262144<b-l
   · rw [if_pos (.inl h2)]
     have h2':(262144:Int)<(b:Int)-l:=by omega
     clear hb hl hX h0 hB1 A1 hT1 hT h1 SZ H3 h2 hOD;subst hW1;go_enter Tryz.func105,Tryz.ntmps105
     go_wp2_with fail
     refine H1.out.mono ?_;rintro r w1 ⟨rfl,rfl⟩
     go_wp2_with fail
     refine H2.out.mono ?_;rintro r w1 ⟨rfl,rfl⟩;go_wp2;refine bodyPost_ret (v:=.tuple #[.agg #[.bool false,.slice none 0 0,.int .i64 0],.int .i64 2]) (by simp [results,Tryz.results105,go_sem]) rfl ⟨⟨_,rfl,Nt.nil _ _⟩,HB.out⟩
   · have h2':decide ((262144:Int)<(b:Int)-l)=false:=decide_eq_false (by omega)
     by_cases h3:1048576-(l:Int)<e
     · rw [if_pos (.inr (.inl h3))]
       clear hb hl hX h0 hB1 A1 hT1 hT h1 SZ H3 h2 hOD;subst hW1;go_enter Tryz.func105,Tryz.ntmps105
       go_wp2_with fail
       refine H1.out.mono ?_;rintro r w1 ⟨rfl,rfl⟩
       go_wp2_with fail
       refine H2.out.mono ?_;rintro r w1 ⟨rfl,rfl⟩;go_wp2;refine bodyPost_ret (v:=.tuple #[.agg #[.bool false,.slice none 0 0,.int .i64 0],.int .i64 2]) (by simp [results,Tryz.results105,go_sem]) rfl ⟨⟨_,rfl,Nt.nil _ _⟩,HB.out⟩
     · have h3':decide (1048576-(l:Int)<e)=false:=decide_eq_false h3
       by_cases h4:e < -1048576-(l:Int)
       · rw [if_pos (.inr (.inr h4))]
         clear hb hl hX h0 hB1 A1 hT1 hT h1 SZ H3 h2 hOD;subst hW1;go_enter Tryz.func105,Tryz.ntmps105
         go_wp2_with fail
         refine H1.out.mono ?_;rintro r w1 ⟨rfl,rfl⟩
         go_wp2_with fail
         refine H2.out.mono ?_;rintro r w1 ⟨rfl,rfl⟩;go_wp2;refine bodyPost_ret (v:=.tuple #[.agg #[.bool false,.slice none 0 0,.int .i64 0],.int .i64 2]) (by simp [results,Tryz.results105,go_sem]) rfl ⟨⟨_,rfl,Nt.nil _ _⟩,HB.out⟩
       · have h4':decide (e < -1048576-(l:Int))=false:=decide_eq_false h4
         rw [if_neg (by omega)]
         obtain ⟨Y,hY⟩:∃ Y,X/2^l=Y:=⟨_,rfl⟩;rw [hY] at H3 ⊢;have hs:(ws Y).length≤35184372088832:=by rw [←hY,←hl,←mk_len X h0];omega
         have h5:e+l≤1048576:=by omega
         have h6:-1048576≤e+l:=by omega
         clear hb hl hX h0 hB1 A1 hT1 hT h1 hOD h2 h3 h4;subst hW1;go_enter Tryz.func105,Tryz.ntmps105
         go_wp2_with fail
         refine H1.out.mono ?_;rintro r w1 ⟨rfl,rfl⟩
         go_wp2_with fail
         refine H2.out.mono ?_;rintro r w1 ⟨rfl,rfl⟩
         go_wp2_with fail
         refine H3.out.mono ?_;rintro r w2 ⟨v,rfl,hN,hb⟩;obtain ⟨a2,c2,rfl,_⟩:=hN.arg hs;obtain ⟨hc,hf⟩:=bcell hb;have HN:=(qsd (ai hN hb));have hz:=hb.size;clear hN hb;go_wp2;obtain ⟨q1,q2⟩:=laid3 HB.out (by simp) HN.out.1 HN.out.2 (.bool neg) (.slice a2 (ws Y).length c2) (.int .i64 (e+l))
         exact bodyPost_ret (v:=.tuple #[.agg #[.bool neg,.slice a2 (ws Y).length c2,.int .i64 (e+l)],.int .i64 0]) (by simp [results,Tryz.results105,go_sem,hc]) rfl ⟨⟨_,rfl,q1⟩,q2⟩
end
section
open Go.RowKit
attribute [local go_sem] B.f64bits B.f64frombits
theorem st_float {P:Program}{w:World}(a:Addr) (k:FloatKind) (n:Nat) (m:Mode):(store a (.float k n) m).run P w=stored P w a (.float k n) m:=run_store P w a _ m rfl
def oddW:Nat:=9221120237041090560
def nanW (z:Nat):Bool:=decide (9218868437227405312<z%9223372036854775808)
theorem bwz (z:Nat) (h:z<18446744073709551616):∃ s e f,e<2048∧f<4503599627370496∧z=B.bw s e f∧B.odd e f=nanW z:=by
 refine ⟨decide (9223372036854775808≤z),z%9223372036854775808/4503599627370496,z%4503599627370496,by omega,by omega,?_,?_⟩
 · unfold B.bw
   by_cases h1:9223372036854775808≤z
   · simp only [h1,decide_true,Bool.toNat_true];omega
   · simp only [h1,decide_false,Bool.toNat_false];omega
 · unfold B.odd nanW
   rw [Bool.eq_iff_iff];simp only [Bool.and_eq_true,beq_iff_eq,bne_iff_ne,ne_eq,decide_eq_true_eq];omega
theorem isNaN_w (z:Nat) (h:z<18446744073709551616) (w:World):Calls Tryz.prog 41 #[.float .f64 z] w fun r w'=>r=.returned (.bool (nanW z))∧w'=w:=by
 obtain ⟨s,e,f,he,hf,h1,h2⟩:=bwz z h;rw [←h2,h1];exact B.isNaN_any s e f he hf w
end
section
def sw (L:List Nat) (i j:Nat):List Nat:=(L.set i (L.getD j 0)).set j (L.getD i 0)
theorem sw_len (L:List Nat) (i j:Nat):(sw L i j).length=L.length:=by unfold sw;simp
theorem sw_get {L:List Nat}{i j:Nat}(hi:i<L.length) (hj:j<L.length) (k:Nat):(sw L i j).getD k 0=if k=j then L.getD i 0 else if k=i then L.getD j 0 else L.getD k 0:=by
 unfold sw;simp only [List.getD_eq_getElem?_getD,List.getElem?_set,List.length_set]
 by_cases h1:k=j
 · subst h1;simp [hj]
 · rw [if_neg (fun h=>h1 h.symm),if_neg h1]
   by_cases h2:k=i
   · subst h2;simp [hi]
   · rw [if_neg (fun h=>h2 h.symm),if_neg h2]
theorem sw_perm {L:List Nat}{i j:Nat}(hi:i<L.length) (hj:j<L.length):(sw L i j).Perm L:=by
 unfold sw;have e1:L.getD i 0=L[i]:=by rw [List.getD_eq_getElem?_getD,List.getElem?_eq_getElem hi];rfl
 have e2:L.getD j 0=L[j]:=by rw [List.getD_eq_getElem?_getD,List.getElem?_eq_getElem hj];rfl
 rw [e1,e2];exact List.set_set_perm hi hj
structure Pm (a b:Nat) (L L':List Nat):Prop where
 len:L'.length=L.length
 perm:L'.Perm L
 out:∀ k,k<a∨b≤k→L'.getD k 0=L.getD k 0
 inn:∀ k,a≤k→k<b→∃ j,a≤j∧j<b∧L'.getD k 0=L.getD j 0
theorem Pm.refl (a b:Nat) (L:List Nat):Pm a b L L:=⟨rfl,List.Perm.refl _,fun _ _=>rfl,fun k h1 h2=>⟨k,h1,h2,rfl⟩⟩
theorem Pm.trans {a b:Nat}{L M N:List Nat}(h:Pm a b L M) (g:Pm a b M N):Pm a b L N :=
 ⟨g.len.trans h.len,g.perm.trans h.perm,fun k hk=>(g.out k hk).trans (h.out k hk),fun k h1 h2=>by
  obtain ⟨j,j1,j2,j3⟩:=g.inn k h1 h2;obtain ⟨i,i1,i2,i3⟩:=h.inn j j1 j2;exact ⟨i,i1,i2,j3.trans i3⟩⟩
theorem Pm.mono {a b c d:Nat}{L M:List Nat}(h:Pm a b L M) (h1:c≤a) (h2:b≤d):Pm c d L M :=
 ⟨h.len,h.perm,fun k hk=>h.out k (by omega),fun k k1 k2=>by
  by_cases q:a≤k∧k<b
  · obtain ⟨j,j1,j2,j3⟩:=h.inn k q.1 q.2
    exact ⟨j,by omega,by omega,j3⟩
  · exact ⟨k,k1,k2,h.out k (by omega)⟩⟩
theorem Pm.swap {a b i j:Nat}{L:List Nat}(hb:b≤L.length) (i1:a≤i) (i2:i<b) (j1:a≤j) (j2:j<b):Pm a b L (sw L i j):=by
 refine ⟨sw_len _ _ _,sw_perm (by omega) (by omega),fun k hk=>?_,fun k k1 k2=>?_⟩
 · rw [sw_get (by omega) (by omega),if_neg (by omega),if_neg (by omega)]
 · rw [sw_get (by omega) (by omega)]
   by_cases h1:k=j
   · rw [if_pos h1];exact ⟨i,i1,i2,rfl⟩
   · rw [if_neg h1]
     by_cases h2:k=i
     · rw [if_pos h2];exact ⟨j,j1,j2,rfl⟩
     · rw [if_neg h2];exact ⟨k,k1,k2,rfl⟩
def ky (K:Nat→Nat) (L:List Nat) (k:Nat):Nat:=K (L.getD k 0)
def Up (K:Nat→Nat) (a b:Nat) (L:List Nat):Prop:=∀ i j,a≤i→i<j→j<b→ky K L i≤ky K L j
structure Ins (K:Nat→Nat) (a i j:Nat) (L:List Nat):Prop where
 aj:a≤j
 ji:j≤i
 up:∀ x y,a≤x→x<y→y≤i→x≠j→y≠j→ky K L x≤ky K L y
 hi:∀ y,j<y→y≤i→ky K L j≤ky K L y
theorem Ins.start {K:Nat→Nat}{a i:Nat}{L:List Nat}(h:Up K a i L) (ha:a≤i):Ins K a i i L :=
 ⟨ha,Nat.le_refl _,fun x y h1 h2 h3 h4 h5=>h x y h1 h2 (by omega),fun y h1 h2=>absurd h1 (by omega)⟩
theorem Ins.step {K:Nat→Nat}{a i j:Nat}{L:List Nat}(h:Ins K a i j L) (hl:i<L.length) (hj:a<j) (hlt:ky K L j<ky K L (j-1)):Ins K a i (j-1) (sw L j (j-1)):=by
 have:=h.ji
 have g:∀ k,ky K (sw L j (j-1)) k=if k=j-1 then ky K L j else if k=j then ky K L (j-1) else ky K L k:=fun k=>by
  unfold ky;rw [sw_get (by omega) (by omega)]
  split
  · rfl
  · split <;> rfl
 refine ⟨by omega,by omega,fun x y h1 h2 h3 h4 h5=>?_,fun y h1 h2=>?_⟩
 · rw [g,g,if_neg h4,if_neg h5]
   by_cases q1:x=j
   · rw [if_pos q1,if_neg (by omega)]
     exact h.up (j-1) y (by omega) (by omega) h3 (by omega) (by omega)
   · rw [if_neg q1]
     by_cases q2:y=j
     · rw [if_pos q2]
       exact h.up x (j-1) h1 (by omega) (by omega) q1 (by omega)
     · rw [if_neg q2];exact h.up x y h1 h2 h3 q1 q2
 · rw [g,g,if_pos rfl,if_neg (by omega)]
   by_cases q:y=j
   · rw [if_pos q];omega
   · rw [if_neg q];exact h.hi y (by omega) h2
theorem Ins.done {K:Nat→Nat}{a i j:Nat}{L:List Nat}(h:Ins K a i j L) (hs:j=a∨ky K L (j-1)≤ky K L j):Up K a (i+1) L:=by
 intro x y h1 h2 h3;have:=h.aj
 by_cases q1:x=j
 · rw [q1];exact h.hi y (by omega) (by omega)
 · by_cases q2:y=j
   · rw [q2]
     rcases hs with e|e
     · omega
     · by_cases q3:x=j-1
       · rw [q3];exact e
       · have:=h.up x (j-1) h1 (by omega) (by have:=h.ji;omega) q1 (by omega)
         omega
   · exact h.up x y h1 h2 (by omega) q1 q2
def Hp (K:Nat→Nat) (f lo hi:Nat) (L:List Nat):Prop:=∀ c,0<c→c<hi→lo≤(c-1)/2→ky K L (f+c)≤ky K L (f+(c-1)/2)
structure Sf (K:Nat→Nat) (f lo hi r:Nat) (L:List Nat):Prop where
 ge:lo≤r
 hp:∀ c,0<c→c<hi→lo≤(c-1)/2→(c-1)/2≠r→ky K L (f+c)≤ky K L (f+(c-1)/2)
 pr:0<r→lo≤(r-1)/2→∀ c,0<c→c<hi→(c-1)/2=r→ky K L (f+c)≤ky K L (f+(r-1)/2)
theorem Sf.start {K:Nat→Nat}{f lo hi:Nat}{L:List Nat}(h:Hp K f (lo+1) hi L):Sf K f lo hi lo L :=
 ⟨Nat.le_refl _,fun c h1 h2 h3 h4=>h c h1 h2 (by omega),fun h1 h2=>by omega⟩
theorem Sf.done {K:Nat→Nat}{f lo hi r:Nat}{L:List Nat}(h:Sf K f lo hi r L) (hs:∀ c,0<c→c<hi→(c-1)/2=r→ky K L (f+c)≤ky K L (f+r)):Hp K f lo hi L:=by
 intro c h1 h2 h3
 by_cases q:(c-1)/2=r
 · rw [q];exact hs c h1 h2 q
 · exact h.hp c h1 h2 h3 q
theorem Sf.step {K:Nat→Nat}{f lo hi r d:Nat}{L:List Nat}(h:Sf K f lo hi r L) (hl:f+hi≤L.length) (hd:d=2*r+1∨d=2*r+2) (hdh:d<hi) (hlt:ky K L (f+r)<ky K L (f+d)) (hmax:∀ c,0<c→c<hi→(c-1)/2=r→ky K L (f+c)≤ky K L (f+d)):Sf K f lo hi d (sw L (f+r) (f+d)):=by
 have g:∀ k,ky K (sw L (f+r) (f+d)) (f+k)=if k=d then ky K L (f+r) else if k=r then ky K L (f+d) else ky K L (f+k):=fun k=>by
  unfold ky;rw [sw_get (by omega) (by omega)]
  by_cases q:k=d
  · rw [if_pos (by omega),if_pos q]
  · rw [if_neg (by omega),if_neg q]
    by_cases q2:k=r
    · rw [if_pos (by omega),if_pos q2]
    · rw [if_neg (by omega),if_neg q2]
 have hge:=h.ge;refine ⟨by omega,fun c h1 h2 h3 h4=>?_,fun h1 h2 c c1 c2 c3=>?_⟩
 · rw [g,g,if_neg h4]
   by_cases q1:c=d
   · rw [if_pos q1,if_pos (by omega)];omega
   · rw [if_neg q1]
     by_cases q2:c=r
     · rw [if_pos q2,if_neg (by omega)]
       have:=h.pr (by omega) (by omega) d (by omega) hdh (by omega)
       rw [q2];exact this
     · rw [if_neg q2]
       by_cases q3:(c-1)/2=r
       · rw [if_pos q3];exact hmax c h1 h2 q3
       · rw [if_neg q3];exact h.hp c h1 h2 h3 q3
 · rw [g,g,if_neg (by omega),if_neg (by omega),if_neg (by omega),if_pos (by omega)]
   have:=h.hp c c1 c2 (by omega) (by omega)
   rw [c3] at this;exact this
theorem Hp.top {K:Nat→Nat}{f hi:Nat}{L:List Nat}(h:Hp K f 0 hi L):∀ c,c<hi→ky K L (f+c)≤ky K L f:=by
 intro c
 induction c using Nat.strongRecOn with
 | _ c ih =>
   intro hc
   by_cases q:c=0
   · rw [q];exact Nat.le_refl _
   · have h1:=h c (by omega) hc (Nat.zero_le _)
     have h2:=ih ((c-1)/2) (by omega) (by omega)
     omega
end
section
open Go.RowKit J
def Iw15 (n:Nat):Value:=.int .i64 (n:Nat)
def OwnI (w:World) (g:Nat) (L:List Nat):Prop:=w.heap[g]?=some (.cells (L.map Iw15).toArray 3 (0,0))
theorem OwnI.lt {w:World}{g:Nat}{L:List Nat}(h:OwnI w g L):g<w.heap.size:=(Array.getElem?_eq_some_iff.1 h).1
theorem OwnI.cell {w:World}{g:Nat}{L:List Nat}(h:OwnI w g L) (i:Nat) (hi:i<L.length):w.cell? ⟨g,i,none⟩=some (.int .i64 ((L.getD i 0:Nat):Int)):=by
 unfold OwnI at h;simp [World.cell?,h,Iw15,hi]
theorem OwnI.frozen {w:World}{g:Nat}{L:List Nat}(h:OwnI w g L) (i:Nat):w.frozen? ⟨g,i,none⟩=false:=by
 unfold OwnI at h;simp [World.frozen?,h]
theorem OwnI.set {w:World}{g:Nat}{L:List Nat}(h:OwnI w g L) (i x:Nat):OwnI (w.setCell ⟨g,i,none⟩ (.int .i64 (x:Nat))) g (L.set i x):=by
 unfold OwnI at h ⊢;simp only [World.setCell,Array.getElem?_modify,h];simp [Iw15,List.map_set]
theorem OwnI.below {w w':World}{g B:Nat}{L:List Nat}(h:OwnI w g L) (hb:Below B w w') (hg:g<B):OwnI w' g L:=by
 unfold OwnI at h ⊢;rw [hb.block g hg];exact h
theorem OwnI.sw {w:World}{g:Nat}{L:List Nat}(h:OwnI w g L) (i j:Nat):OwnI ((w.setCell ⟨g,i,none⟩ (.int .i64 (L.getD j 0:Nat))).setCell ⟨g,j,none⟩ (.int .i64 (L.getD i 0:Nat))) g (sw L i j):=(h.set i _).set j _
theorem But.of_bel15 {g:Nat}{a w w':World}(h:But g a w) (hb:Below w.heap.size w w'):But g a w':=h.trans ⟨hb.os,hb.tape,hb.output,hb.size,fun k hk _=>hb.block k hk⟩
def Cmp15 (K:Nat→Nat) (n g:Nat) (recv:Value) (w:World):Prop:=∀ (u:World) (x y:Nat),But g w u→x<n→y<n→∃ c:Int,(c<0↔K x<K y)∧Calls Tryz.prog 49 #[recv,.int .i64 (x:Nat),.int .i64 (y:Nat)] u fun r w'=>r=.returned (.int .i64 c)∧Below u.heap.size u w'
end
section
structure H2 (K:Nat→Nat) (f hi m:Nat) (L:List Nat):Prop where
 le:m≤hi
 hp:Hp K f 0 m L
 bt:∀ x y,x<m→m≤y→y<hi→ky K L (f+x)≤ky K L (f+y)
 up:Up K (f+m) (f+hi) L
theorem H2.start {K:Nat→Nat}{f hi:Nat}{L:List Nat}(h:Hp K f 0 hi L):H2 K f hi hi L :=
 ⟨Nat.le_refl _,h,fun x y h1 h2 h3=>by omega,fun i j h1 h2 h3=>by omega⟩
theorem ky_sw {K:Nat→Nat}{L:List Nat}{i j:Nat}(hi:i<L.length) (hj:j<L.length) (k:Nat):ky K (sw L i j) k=if k=j then ky K L i else if k=i then ky K L j else ky K L k:=by
 unfold ky;rw [sw_get hi hj]
 split
 · rfl
 · split <;> rfl
theorem H2.mid {K:Nat→Nat}{f hi m:Nat}{L:List Nat}(h:H2 K f hi (m+1) L) (hl:f+hi≤L.length):Hp K f 1 m (sw L f (f+m)):=by
 have:=h.le;intro c h1 h2 h3;rw [ky_sw (by omega) (by omega),ky_sw (by omega) (by omega),if_neg (by omega),if_neg (by omega),if_neg (by omega),if_neg (by omega)]
 exact h.hp c h1 (by omega) (Nat.zero_le _)
theorem H2.step {K:Nat→Nat}{f hi m:Nat}{L L':List Nat}(h:H2 K f hi (m+1) L) (hl:f+hi≤L.length) (hP:Pm f (f+m) (sw L f (f+m)) L') (hH:Hp K f 0 m L'):H2 K f hi m L':=by
 have hle:=h.le;have top:=h.hp.top;have e:∀ k,f+m≤k→ky K L' k=ky K (sw L f (f+m)) k:=fun k hk=>by unfold ky;rw [hP.out k (.inr hk)]
 have s:∀ k,ky K (sw L f (f+m)) k=if k=f+m then ky K L f else if k=f then ky K L (f+m) else ky K L k:=ky_sw (by omega) (by omega)
 have em:ky K L' (f+m)=ky K L f:=by rw [e _ (Nat.le_refl _),s,if_pos rfl]
 have eo:∀ k,f+m<k→ky K L' k=ky K L k:=fun k hk=>by rw [e _ (by omega),s,if_neg (by omega),if_neg (by omega)]
 have inn:∀ x,x<m→∃ j,j<m+1∧ky K L' (f+x)=ky K L (f+j):=fun x hx=>by
  obtain ⟨j,j1,j2,j3⟩:=hP.inn (f+x) (by omega) (by omega)
  have:ky K L' (f+x)=ky K (sw L f (f+m)) j:=by unfold ky;rw [j3]
  rw [this,s,if_neg (by omega)]
  by_cases q:j=f
  · rw [if_pos q];exact ⟨m,by omega,rfl⟩
  · rw [if_neg q];exact ⟨j-f,by omega,by rw [show f+(j-f)=j by omega]⟩
 refine ⟨by omega,hH,fun x y h1 h2 h3=>?_,fun i j h1 h2 h3=>?_⟩
 · obtain ⟨j,j1,j2⟩:=inn x h1
   rw [j2]
   by_cases q:y=m
   · rw [q,em];exact top j j1
   · rw [eo _ (by omega)];exact h.bt j y j1 (by omega) h3
 · rw [eo j (by omega)]
   by_cases q:i=f+m
   · rw [q,em]
     have:=h.bt 0 (j-f) (by omega) (by omega) (by omega)
     rw [show f+(j-f)=j by omega] at this
     exact this
   · rw [eo i (by omega)];exact h.up i j (by omega) h2 h3
theorem H2.done {K:Nat→Nat}{f hi:Nat}{L:List Nat}(h:H2 K f hi 0 L):Up K f (f+hi) L:=h.up
structure Pt (K:Nat→Nat) (a b i j:Nat) (p:Nat) (L:List Nat):Prop where
 ai:a<i
 jb:j<b
 ij:i≤j+1
 pv:ky K L a=p
 lo:∀ k,a<k→k<i→ky K L k<p
 hi:∀ k,j<k→k<b→p≤ky K L k
theorem Pt.start {K:Nat→Nat}{a b q:Nat}{L:List Nat}(hb:b≤L.length) (hab:a+1<b) (q1:a≤q) (q2:q<b):Pt K a b (a+1) (b-1) (ky K L q) (sw L a q):=by
 refine ⟨by omega,by omega,by omega,?_,fun k h1 h2=>by omega,fun k h1 h2=>by omega⟩
 rw [ky_sw (by omega) (by omega)]
 by_cases e:a=q
 · rw [if_pos e,e]
 · rw [if_neg e,if_pos rfl]
theorem Pt.right {K:Nat→Nat}{a b i j p:Nat}{L:List Nat}(h:Pt K a b i j p L) (hij:i≤j) (hlt:ky K L i<ky K L a):Pt K a b (i+1) j p L:=by
 have:=h.ai;refine ⟨by omega,h.jb,by omega,h.pv,fun k h1 h2=>?_,h.hi⟩
 by_cases e:k=i
 · rw [e,←h.pv];exact hlt
 · exact h.lo k h1 (by omega)
theorem Pt.left {K:Nat→Nat}{a b i j p:Nat}{L:List Nat}(h:Pt K a b i j p L) (hij:i≤j) (hge:ky K L a≤ky K L j):Pt K a b i (j-1) p L:=by
 have:=h.ai;have:=h.jb;refine ⟨h.ai,by omega,by omega,h.pv,h.lo,fun k h1 h2=>?_⟩
 by_cases e:k=j
 · rw [e,←h.pv];exact hge
 · exact h.hi k (by omega) h2
theorem Pt.swap {K:Nat→Nat}{a b i j p:Nat}{L:List Nat}(h:Pt K a b i j p L) (hb:b≤L.length) (hij:i≤j) (h1:ky K L a≤ky K L i) (h2:ky K L j<ky K L a):Pt K a b (i+1) (j-1) p (sw L i j):=by
 have a1:=h.ai;have a2:=h.jb;have hne:i≠j:=fun e=>by rw [e] at h1;omega
 have s:∀ k,ky K (sw L i j) k=if k=j then ky K L i else if k=i then ky K L j else ky K L k:=ky_sw (by omega) (by omega)
 have hp:=h.pv;refine ⟨by omega,by omega,by omega,?_,fun k k1 k2=>?_,fun k k1 k2=>?_⟩
 · rw [s,if_neg (by omega),if_neg (by omega)];exact hp
 · rw [s,if_neg (by omega)]
   by_cases e:k=i
   · rw [if_pos e,←hp];exact h2
   · rw [if_neg e];exact h.lo k k1 (by omega)
 · rw [s]
   by_cases e:k=j
   · rw [if_pos e,←hp];exact h1
   · rw [if_neg e,if_neg (by omega)];exact h.hi k (by omega) k2
structure Prt (K:Nat→Nat) (a b m:Nat) (L:List Nat):Prop where
 am:a≤m
 mb:m<b
 lo:∀ k,a≤k→k<m→ky K L k≤ky K L m
 hi:∀ k,m<k→k<b→ky K L m≤ky K L k
theorem Pt.done {K:Nat→Nat}{a b i j p:Nat}{L:List Nat}(h:Pt K a b i j p L) (hb:b≤L.length) (hij:j<i):Prt K a b j (sw L j a):=by
 have a1:=h.ai;have a2:=h.jb;have a3:=h.ij;have s:∀ k,ky K (sw L j a) k=if k=a then ky K L j else if k=j then ky K L a else ky K L k:=ky_sw (by omega) (by omega)
 have hm:ky K (sw L j a) j=p:=by
  rw [s]
  by_cases e:j=a
  · rw [if_pos e,e];exact h.pv
  · rw [if_neg e,if_pos rfl];exact h.pv
 refine ⟨by omega,by omega,fun k k1 k2=>?_,fun k k1 k2=>?_⟩
 · rw [hm,s]
   by_cases e:k=a
   · rw [if_pos e];exact Nat.le_of_lt (h.lo j (by omega) (by omega))
   · rw [if_neg e,if_neg (by omega)];exact Nat.le_of_lt (h.lo k (by omega) (by omega))
 · rw [hm,s,if_neg (by omega),if_neg (by omega)];exact h.hi k k1 k2
theorem Prt.left {K:Nat→Nat}{a b m:Nat}{L L':List Nat}(h:Prt K a b m L) (hP:Pm a m L L'):Prt K a b m L':=by
 have em:ky K L' m=ky K L m:=by unfold ky;rw [hP.out m (.inr (Nat.le_refl _))]
 refine ⟨h.am,h.mb,fun k k1 k2=>?_,fun k k1 k2=>?_⟩
 · obtain ⟨j,j1,j2,j3⟩:=hP.inn k k1 k2
   rw [em,show ky K L' k=ky K L j by unfold ky;rw [j3]]
   exact h.lo j j1 j2
 · rw [em,show ky K L' k=ky K L k by unfold ky;rw [hP.out k (.inr (by omega))]]
   exact h.hi k k1 k2
theorem Prt.right {K:Nat→Nat}{a b m:Nat}{L L':List Nat}(h:Prt K a b m L) (hP:Pm (m+1) b L L'):Prt K a b m L':=by
 have em:ky K L' m=ky K L m:=by unfold ky;rw [hP.out m (.inl (by omega))]
 refine ⟨h.am,h.mb,fun k k1 k2=>?_,fun k k1 k2=>?_⟩
 · rw [em,show ky K L' k=ky K L k by unfold ky;rw [hP.out k (.inl (by omega))]]
   exact h.lo k k1 k2
 · obtain ⟨j,j1,j2,j3⟩:=hP.inn k (by omega) k2
   rw [em,show ky K L' k=ky K L j by unfold ky;rw [j3]]
   exact h.hi j (by omega) j2
theorem Prt.up {K:Nat→Nat}{a b m:Nat}{L:List Nat}(h:Prt K a b m L) (h1:Up K a m L) (h2:Up K (m+1) b L):Up K a b L:=by
 intro i j hi hij hj
 by_cases q1:j<m
 · exact h1 i j hi hij q1
 · by_cases q2:m<i
   · exact h2 i j (by omega) hij hj
   · have e1:ky K L i≤ky K L m:=by
      by_cases q:i=m
      · rw [q];exact Nat.le_refl _
      · exact h.lo i hi (by omega)
     have e2:ky K L m≤ky K L j:=by
      by_cases q:j=m
      · rw [q];exact Nat.le_refl _
      · exact h.hi j (by omega) hj
     omega
theorem Up.out {K:Nat→Nat}{a b c d:Nat}{L L':List Nat}(h:Up K a b L) (hP:Pm c d L L') (hd:b≤c∨d≤a):Up K a b L':=by
 intro i j h1 h2 h3;rw [show ky K L' i=ky K L i by unfold ky;rw [hP.out i (by omega)],show ky K L' j=ky K L j by unfold ky;rw [hP.out j (by omega)]]
 exact h i j h1 h2 h3
def Fl (K:Nat→Nat) (a b:Nat) (L:List Nat):Prop:=0<a→∀ k,a≤k→k<b→ky K L (a-1)<ky K L k
theorem Fl.pm {K:Nat→Nat}{a b:Nat}{L L':List Nat}(h:Fl K a b L) (hP:Pm a b L L'):Fl K a b L':=by
 intro ha k k1 k2;obtain ⟨j,j1,j2,j3⟩:=hP.inn k k1 k2;rw [show ky K L' (a-1)=ky K L (a-1) by unfold ky;rw [hP.out (a-1) (.inl (by omega))],show ky K L' k=ky K L j by unfold ky;rw [j3]]
 exact h ha j j1 j2
theorem Fl.left {K:Nat→Nat}{a b m:Nat}{L:List Nat}(h:Fl K a b L) (hm:m≤b):Fl K a m L:=fun ha k k1 k2=>h ha k k1 (by omega)
theorem Prt.fl {K:Nat→Nat}{a b m:Nat}{L:List Nat}(h:Prt K a b m L) (hn:∀ i j,i<b→j<b→i≠j→ky K L i≠ky K L j):Fl K (m+1) b L:=fun _ k k1 k2=>by
 have h1:=h.hi k (by omega) k2
 have h2:=hn m k (by omega) k2 (by omega)
 rw [show m+1-1=m by omega]
 omega
end
section
open Go.RowKit J
theorem wrap15 {q:Nat}(h:q<4611686018427387904):IntKind.i64.wrap (q:Int)=(q:Int):=by
 simp [IntKind.wrap,IntKind.bits,IntKind.signed];omega
theorem lt_of_cell15 {u:World}{p:Addr}{v:Value}(h:u.cell? p=some v):p.block<u.heap.size:=by
 unfold World.cell? at h
 rcases Nat.lt_or_ge p.block u.heap.size with q|q
 · exact q
 · rw [Array.getElem?_eq_none q] at h;cases h
theorem insertion15 (K:Nat→Nat) (n g a b cap:Nat) (L:List Nat) (recv:Value) (w:World) (hO:OwnI w g L) (hL:∀ x ∈ L,x<n) (hab:a≤b) (hb:b≤L.length) (hbig:L.length<4611686018427387904) (hC:Cmp15 K n g recv w) :
 Calls Tryz.prog 87 #[.slice (some ⟨g,0,none⟩) L.length cap,.int .i64 (a:Nat),.int .i64 (b:Nat),.func (.func 49) #[recv] #[]] w fun r w'=>r=.returned (.tuple #[])∧∃ L',OwnI w' g L'∧Pm a b L L'∧Up K a b L'∧But g w w':=by
 obtain ⟨N,hN⟩:∃ N,N=L.length:=⟨_,rfl⟩;have HX:=(qsd (ai hN (ai hL hC)));have B0:Aside (∃ L',OwnI w g L'∧Pm a b L L'∧Up K a (a+1) L'∧But g w w):=⟨L,hO,Pm.refl _ _ _,fun i j h1 h2 h3=>by omega,But.refl _ _⟩
 rw [←hN] at hb hbig ⊢;have hab':a<4611686018427387904:=by omega
 have hbb:b<4611686018427387904:=by omega
 clear hN hL hC hO;go_enter Tryz.func87,Tryz.ntmps87;go_wp2
 go_loopg [8] (b-(a+1)) (fun gk iv wr=>∃ i:Nat,gk=b-i∧a+1≤i∧(i≤b∨i=a+1)∧iv=.int .i64 (i:Nat)∧Aside (∃ L',OwnI wr g L'∧Pm a b L L'∧Up K a i L'∧But g w wr))
 case atStart=>exact ⟨a+1,rfl,Nat.le_refl _,.inr rfl,by simp,B0.out⟩
 case round =>
  clear B0;obtain ⟨i,hgk,hai,hib,rfl,HA⟩:=hrel
  by_cases hi:i<b
  · have hd:decide ((i:Int)<(b:Nat))=true:=by simp;omega
    have J0:Aside (∃ L',OwnI wr g L'∧Pm a b L L'∧Ins K a i i L'∧But g w wr):=by
     obtain ⟨L',h1,h2,h3,h4⟩:=HA.out;exact ⟨L',h1,h2,Ins.start h3 (by omega),h4⟩
    clear HA;go_wp2
    go_loopg [9] i (fun gk jv wr=>∃ j:Nat,gk=j∧a≤j∧j≤i∧jv=.int .i64 (j:Nat)∧Aside (∃ L',OwnI wr g L'∧Pm a b L L'∧Ins K a i j L'∧But g w wr))
    case atStart=>exact ⟨i,rfl,by omega,Nat.le_refl _,by simp,J0.out⟩
    case round =>
     clear J0;obtain ⟨j,hgj,haj,hji,rfl,HA⟩:=hrel
     by_cases hj:a<j
     · have hd4:decide ((a:Int)<(j:Nat))=true:=by simp;omega
       go_upto_region 4 with fail
       go_cut [34] from 18 to 33 (fun v wx=>∃ c:Bool,v=.bool c∧Aside (∃ L',OwnI wx g L'∧Pm a b L L'∧Ins K a i j L'∧But g w wx∧(c=true↔ky K L' j<ky K L' (j-1))))
       case first =>
        obtain ⟨L',o1,o2,o3,o4⟩:=HA.out;have hlen:L'.length=N:=by rw [o2.len,←HX.out.1]
        have hjN:j<N:=by omega
        have hdr:=(Below.refl wr.heap.size wr).drew;have oD:=o1.below hdr o1.lt;have m1:L'.getD j 0<n:=HX.out.2.1 _ (o2.perm.mem_iff.1 (by rw [List.getD_eq_getElem?_getD,List.getElem?_eq_getElem (by omega)];exact List.getElem_mem _))
        have m2:L'.getD (j-1) 0<n:=HX.out.2.1 _ (o2.perm.mem_iff.1 (by rw [List.getD_eq_getElem?_getD,List.getElem?_eq_getElem (by omega)];exact List.getElem_mem _))
        have c1:=oD.cell j (by omega)
        have c2:=oD.cell (j-1) (by omega)
        obtain ⟨x,hx⟩:∃ x,x=L'.getD j 0:=⟨_,rfl⟩;obtain ⟨y,hy⟩:∃ y,y=L'.getD (j-1) 0:=⟨_,rfl⟩;rw [←hx] at c1 m1;rw [←hy] at c2 m2;have ej:((j:Int)-1)=((j-1:Nat):Int):=by omega
        have hj1:j-1<N:=by omega
        obtain ⟨c,hc,C0⟩:=HX.out.2.2 _ x y (o4.of_bel15 hdr) m1 m2;have C:=hid C0
        have HF:Aside (∀ v:World,Below wr.drew.heap.size wr.drew v→∃ L',OwnI v g L'∧Pm a b L L'∧Ins K a i j L'∧But g w v∧(decide (c<0)=true↔ky K L' j<ky K L' (j-1))):=fun v hv =>
         ⟨L',oD.below hv oD.lt,o2,o3,(o4.of_bel15 hdr).of_bel15 hv,by rw [decide_eq_true_iff,hc];unfold ky;rw [←hx,←hy]⟩
        clear HA o1 o2 o3 o4 hlen hdr oD m1 m2 hx hy hc C0;obtain ⟨q,hq⟩:∃ q,q=j-1:=⟨_,rfl⟩;rw [←hq] at c2;have hwq:IntKind.i64.wrap ((j:Int)-1)=(q:Int):=by rw [show (j:Int)-1=(q:Int) by omega];exact wrap15 (by omega)
        have b1:(0:Int)≤(q:Int):=by omega
        have b2:(q:Int)<(N:Int):=by omega
        have b3:(j:Int)<(N:Int):=by omega
        have hqN:q<N:=by omega
        have kS:=qsd (ai c1 c2);have HQ:=qsd hq;clear c1 c2 ej hq hj1
        go_region_held3 (fun w'=>w'.cell? ⟨g,j,none⟩=some (.int .i64 (x:Nat))∧w'.cell? ⟨g,q,none⟩=some (.int .i64 (y:Nat))) (with_reducible exact kS.out) (first
         | (go_at_call 49
            with_reducible refine C.out.mono ?_
            rintro r v ⟨rfl,hb⟩;have G:=qsd (HF.out v hb);have kS:Aside (v.cell? ⟨g,j,none⟩=some (.int .i64 (x:Nat))∧v.cell? ⟨g,q,none⟩=some (.int .i64 (y:Nat))):=⟨(hb.cell (p:=⟨g,j,none⟩) (lt_of_cell15 kS.out.1)).trans kS.out.1,(hb.cell (p:=⟨g,q,none⟩) (lt_of_cell15 kS.out.2)).trans kS.out.2⟩;clear hb))
        all_goals
         go_wp2_with fail
         go_meet
         case rel=>exact ⟨_,rfl,G.out⟩
       clear HA;obtain ⟨c,rfl,HB⟩:=hcut
       cases c
       · have HN:Aside (∃ L',OwnI wc g L'∧Pm a b L L'∧Up K a (i+1) L'∧But g w wc):=by
          obtain ⟨L',h1,h2,h3,h4,h5⟩:=HB.out;exact ⟨L',h1,h2,h3.done (.inr (by rcases Nat.lt_or_ge (ky K L' j) (ky K L' (j-1)) with q | q;exact absurd (h5.2 q) (by decide);exact q)),h4⟩
         clear HB;go_wp2
         go_roundg (b-(i+1))
         case measure=>omega
         case rel=>exact ⟨i+1,rfl,by omega,.inl (by omega),by first | rfl | simp,HN.out⟩
       · obtain ⟨q,hq⟩:∃ q,q=j-1:=⟨_,rfl⟩
         have hwq:IntKind.i64.wrap ((j:Int)-1)=(q:Int):=by rw [show (j:Int)-1=(q:Int) by omega];exact wrap15 (by omega)
         have b1:(0:Int)≤(q:Int):=by omega
         have b2:(q:Int)<(N:Int):=by omega
         have b3:(j:Int)<(N:Int):=by omega
         have hqN:q<N:=by omega
         have hjN:j<N:=by omega
         have hne:j≠q:=by omega
         have hne':q≠j:=by omega
         have HQ:=qsd hq;clear hq
         go_upto_region 6 with fail
         obtain ⟨L',o1,o2,o3,o4,o5⟩:=HB.out;have hlen:L'.length=N:=by rw [o2.len,←HX.out.1]
         have hdr:=(Below.refl wc.heap.size wc).drew;have oD:=o1.below hdr o1.lt;have c1:=o1.cell j (by omega)
         have c2:=o1.cell q (by omega)
         have z1:=o1.frozen j;have z2:=o1.frozen q
         have HF:Aside (∀ v:World,(v=(wc.drew.setCell ⟨g,j,none⟩ (.int .i64 (L'.getD q 0:Nat))).setCell ⟨g,q,none⟩ (.int .i64 (L'.getD j 0:Nat))∨v=(wc.drew.setCell ⟨g,q,none⟩ (.int .i64 (L'.getD j 0:Nat))).setCell ⟨g,j,none⟩ (.int .i64 (L'.getD q 0:Nat)))→∃ L',OwnI v g L'∧Pm a b L L'∧Ins K a i q L'∧But g w v):=fun v hv=>by
          have hq:=HQ.out;refine ⟨sw L' j q,?_,o2.trans (Pm.swap (by omega) (by omega) (by omega) (by omega) (by omega)),?_,?_⟩
          · rcases hv with rfl | rfl
            · exact oD.sw j q
            · have:=(oD.set q (L'.getD j 0)).set j (L'.getD q 0)
              unfold sw;rw [List.set_comm _ _ hne];exact this
          · have:=o3.step (by omega) hj (by rw [←HQ.out];have:=o5.1 rfl;rw [←HQ.out] at this;exact this)
            rw [←HQ.out] at this;exact this
          · rcases hv with rfl | rfl
            · exact ((o4.of_bel15 hdr).set _ _).set _ _
            · exact ((o4.of_bel15 hdr).set _ _).set _ _
         obtain ⟨x,hx⟩:∃ x,x=L'.getD j 0:=⟨_,rfl⟩;obtain ⟨y,hy⟩:∃ y,y=L'.getD q 0:=⟨_,rfl⟩;rw [←hx] at c1 HF;rw [←hy] at c2 HF;clear HB o1 o2 o3 o4 o5 hlen hdr oD hx hy
         go_region
         all_goals
          go_wp2
          go_roundg q
          case measure=>have:=HQ.out;omega
          case rel=>exact ⟨q,rfl,by have:=HQ.out;omega,by have:=HQ.out;omega,by first | rfl | simp,HF.out _ (by first | exact .inl rfl | exact .inr rfl)⟩
     · have hd4:decide ((a:Int)<(j:Nat))=false:=by simp;omega
       have HN:Aside (∃ L',OwnI wr g L'∧Pm a b L L'∧Up K a (i+1) L'∧But g w wr):=by
        obtain ⟨L',h1,h2,h3,h4⟩:=HA.out;exact ⟨L',h1,h2,h3.done (.inl (by omega)),h4⟩
       clear HA
       go_upto_region 4 with fail
       go_region
       all_goals
        go_wp2
        go_roundg (b-(i+1))
        case measure=>omega
        case rel=>exact ⟨i+1,rfl,by omega,.inl (by omega),by first | rfl | simp,by obtain ⟨L',h1,h2,h3,h4⟩:=HN.out;exact ⟨L',h1,h2,h3,h4.drew⟩⟩
  · have hd:decide ((i:Int)<(b:Nat))=false:=by simp;omega
    go_wp2;refine bodyPost_end (v:=.tuple #[]) (by simp [results,Tryz.results87,go_sem]) rfl ?_
    obtain ⟨L',h1,h2,h3,h4⟩:=HA.out;exact ⟨rfl,L',h1,h2,fun x y hx hxy hy=>h3 x y hx hxy (by omega),h4⟩
end
end Go.Proofs.YtihjfhpoiheomaaGreatDoor
