import Derived.Test.YthejkolknalpaaaGreatDoorW14x
import Derived.Test.YthejkolknalpaaaGreatDoorM1x
import Derived.WalkLawsBesides
import Derived.WalkMore
import Derived.Deep.MidRow
import Derived.ChangeKeysEq
import Derived.Laws.OwnMore
import Derived.Lib.SliceRun
import Derived.Deep.RegionHeld
set_option linter.unusedVariables false
set_option linter.unusedSimpArgs false
set_option maxHeartbeats 16000000
set_option maxRecDepth 20000
namespace Go.Proofs.YthejkolknalpaaaGreatDoor
section
open Go.RowKit
abbrev LG (X:Nat):Prop:=8192<(ws X).length
def addS (X Y:Nat):Nat×Int:=if LG (X+Y) then (0,2) else (X+Y,0)
def subS (X Y:Nat):Nat×Int:=if LG X∨LG Y then (0,2) else if X<Y then (0,20) else (X-Y,0)
def mulS (X Y:Nat):Nat×Int:=if LG X∨LG Y then (0,2) else if LG (X*Y) then (0,2) else (X*Y,0)
def divS (X Y:Nat):Nat×Nat×Int:=if LG X∨LG Y then (0,0,2) else if Y=0 then (0,0,21) else (X/Y,X%Y,0)
def shiftS (X:Nat) (by':Int):Nat×Int:=if LG X then (0,2) else if X=0 then (0,0) else if by'<0 then (X/2^(-by').toNat,0) else if 262144-(bl X:Int)<by' then (0,2) else (X*2^by'.toNat,0)
def One (lo:Nat) (w:World) (r:Ending) (a:Nat×Int):Prop:=∃ v,r=.returned (.tuple #[v,.int .i64 a.2])∧Nt lo w v a.1
theorem trimX (xs:List Nat) (ao:Option Addr) (n cap B:Nat) (w:World) (hn:n=xs.length) (hc:n≤cap) (hm:n≤70368744177664) (hx:Wf xs) (hR:Rd B w ao xs) :
 (Calls Tryz.prog 101 #[.slice ao n cap] w fun r w'=>r=.returned (.slice ao (ws (val xs)).length cap)∧w'=w)∧Rd B w ao (ws (val xs))∧(ws (val xs)).length≤n:=by
 have T:=trim_any xs ao n cap B w hn hc (by omega) hR
 have hl:=nl_le xs;have hf:=form_eq xs hx;have hlen:=nl_eq_length xs hx;rw [hlen] at T hl hf;exact ⟨T,by rw [←hf];exact hR.take _,by omega⟩
theorem Add_any (xs ys:List Nat) (ao bo:Option Addr) (n cap m capb B:Nat) (w:World) (hn:n=xs.length) (hm:m=ys.length) (hc:n≤cap) (hcb:m≤capb) (hbig:n≤35184372088833) (hbig2:m≤35184372088833)
 (hx:Wf xs) (hy:Wf ys) (hR:Rd B w ao xs) (hS:Rd B w bo ys) (hB:B≤w.heap.size) :
 Calls Tryz.prog 140 #[.slice ao n cap,.slice bo m capb] w fun r w'=>One w.heap.size w' r (addS (val xs) (val ys))∧Below w.heap.size w w':=by
 obtain ⟨T1,hRX,hl1⟩:=trimX xs ao n cap B w hn hc (by omega) hx hR
 obtain ⟨T2,hRY,hl2⟩:=trimX ys bo m capb B w hm hcb (by omega) hy hS
 generalize val xs=X at *;generalize val ys=Y at *;have A0:=add_any (ws X) (ws Y) ao bo _ cap _ capb B w rfl rfl (by omega) (by omega) (by omega) (by omega) (wf_ws X) (wf_ws Y) hRX hRY hB
 rw [val_ws,val_ws] at A0;have H1:=(hid T1);have H2:=(hid T2);have H3:=(hid A0);clear T1 T2 A0 hRX hRY hn hm hx hy hR hS hl1 hl2;go_enter Tryz.func140,Tryz.ntmps140
 go_wp2_with fail
 refine H1.out.mono ?_;rintro r w1 ⟨rfl,rfl⟩
 go_wp2_with fail
 refine H2.out.mono ?_;rintro r w1 ⟨rfl,rfl⟩
 go_wp2_with fail
 refine H3.out.mono ?_;rintro r w2 ⟨v,rfl,hN,hb⟩;obtain ⟨av,cv,rfl,hcv,hcm,hRv⟩:=hN.shape;have U0:=unlessLong_any (ws (X+Y)).length av cv w2;have HN:=(qsd (ai hN hb));clear H1 H2 H3 hN hb hRv
 by_cases hL:LG (X+Y)
 · rw [if_pos (show 8192<(ws (X+Y)).length from hL)] at U0
   have U:=(hid U0);clear U0
   go_wp2_with fail
   refine U.out.mono ?_;rintro r w3 ⟨rfl,rfl⟩;go_wp2
   go_ret2
   rw [show addS X Y=(0,2) by simp [addS,hL]]
   exact ⟨⟨_,rfl,Nt.nil _ _⟩,HN.out.2⟩
 · rw [if_neg (show ¬ 8192<(ws (X+Y)).length from hL)] at U0
   have U:=(hid U0);clear U0
   go_wp2_with fail
   refine U.out.mono ?_;rintro r w3 ⟨rfl,rfl⟩;go_wp2
   go_ret2
   rw [show addS X Y=(X+Y,0) by simp [addS,hL]]
   exact ⟨⟨_,rfl,HN.out.1⟩,HN.out.2⟩
theorem longb (n:Nat) (ao:Option Addr) (cap:Nat) (w:World) (b:Bool) (hb:decide (8192<n)=b) :
 Calls Tryz.prog 144 #[.slice ao n cap] w fun r w'=>r=.returned (.bool b)∧w'=w:=by
 have h:=long_any n ao cap w;have e:decide ((8192:Int)<(n:Int))=b:=by rw [←hb];simp only [decide_eq_decide];omega
 rw [e] at h;exact h
theorem Sub_any (xs ys:List Nat) (ao bo:Option Addr) (n cap m capb B:Nat) (w:World) (hn:n=xs.length) (hm:m=ys.length) (hc:n≤cap) (hcb:m≤capb) (hbig:n≤35184372088833) (hbig2:m≤35184372088833)
 (hx:Wf xs) (hy:Wf ys) (hR:Rd B w ao xs) (hS:Rd B w bo ys) (hB:B≤w.heap.size) :
 Calls Tryz.prog 143 #[.slice ao n cap,.slice bo m capb] w fun r w'=>One w.heap.size w' r (subS (val xs) (val ys))∧Below w.heap.size w w':=by
 obtain ⟨T1,hRX,hl1⟩:=trimX xs ao n cap B w hn hc (by omega) hx hR
 obtain ⟨T2,hRY,hl2⟩:=trimX ys bo m capb B w hm hcb (by omega) hy hS
 generalize val xs=X at *;generalize val ys=Y at *;have H1:=(hid T1);have H2:=(hid T2);have HR:=(qsd (ai hRX (ai hRY (ai hl1 hl2))));clear T1 T2 hRX hRY hn hm hx hy hR hS hl1 hl2
 by_cases hLX:LG X
 · have L:=hid (longb (ws X).length ao cap w true (by simpa [LG] using hLX))
   have e:subS X Y=(0,2):=by simp [subS,hLX]
   rw [e];clear e hLX HR;go_enter Tryz.func143,Tryz.ntmps143
   go_wp2_with fail
   refine H1.out.mono ?_;rintro r w1 ⟨rfl,rfl⟩
   go_wp2_with fail
   refine H2.out.mono ?_;rintro r w1 ⟨rfl,rfl⟩
   go_wp2_with fail
   refine L.out.mono ?_;rintro r w1 ⟨rfl,rfl⟩;go_wp2
   go_ret2
   exact ⟨⟨_,rfl,Nt.nil _ _⟩,Below.refl _ _⟩
 · have L:=hid (longb (ws X).length ao cap w false (by simpa [LG] using hLX))
   by_cases hLY:LG Y
   · have L2:=hid (longb (ws Y).length bo capb w true (by simpa [LG] using hLY))
     have e:subS X Y=(0,2):=by simp [subS,hLY]
     rw [e];clear e hLX hLY HR;go_enter Tryz.func143,Tryz.ntmps143
     go_wp2_with fail
     refine H1.out.mono ?_;rintro r w1 ⟨rfl,rfl⟩
     go_wp2_with fail
     refine H2.out.mono ?_;rintro r w1 ⟨rfl,rfl⟩
     go_wp2_with fail
     refine L.out.mono ?_;rintro r w1 ⟨rfl,rfl⟩
     go_wp2_with fail
     refine L2.out.mono ?_;rintro r w1 ⟨rfl,rfl⟩;go_wp2
     go_ret2
     exact ⟨⟨_,rfl,Nt.nil _ _⟩,Below.refl _ _⟩
   · have L2:=hid (longb (ws Y).length bo capb w false (by simpa [LG] using hLY))
     obtain ⟨hRX,hRY,hl1,hl2⟩:=HR.out;have C0:=cmp_any (ws X) (ws Y) ao bo _ cap _ capb B w rfl rfl (by omega) (by omega) (by omega) (by omega) (wf_ws X) (wf_ws Y) hRX hRY
     rw [val_ws,val_ws] at C0
     by_cases hlt:X<Y
     · rw [cmpI_lt hlt] at C0
       have C:=hid C0;have e:subS X Y=(0,20):=by simp [subS,hLX,hLY,hlt]
       rw [e];clear e hLX hLY HR C0 hlt hRX hRY hl1 hl2;go_enter Tryz.func143,Tryz.ntmps143
       go_wp2_with fail
       refine H1.out.mono ?_;rintro r w1 ⟨rfl,rfl⟩
       go_wp2_with fail
       refine H2.out.mono ?_;rintro r w1 ⟨rfl,rfl⟩
       go_wp2_with fail
       refine L.out.mono ?_;rintro r w1 ⟨rfl,rfl⟩
       go_wp2_with fail
       refine L2.out.mono ?_;rintro r w1 ⟨rfl,rfl⟩
       go_wp2_with fail
       refine C.out.mono ?_;rintro r w2 ⟨rfl,hb⟩;have HB:=(qsd hb);clear hb;go_wp2
       go_ret2
       exact ⟨⟨_,rfl,Nt.nil _ _⟩,HB.out⟩
     · have hc1:0≤cmpI X Y:=by unfold cmpI;rw [if_neg hlt];split <;> omega
       obtain ⟨cc,hcc⟩:∃ cc,cmpI X Y=cc:=⟨_,rfl⟩;rw [hcc] at C0 hc1;have C:=hid C0;have e:subS X Y=(X-Y,0):=by simp [subS,hLX,hLY,hlt]
       rw [e];have HL:=(qsd hlt);clear e hLX hLY C0 hlt hRX hRY hl1 hl2 hcc;go_enter Tryz.func143,Tryz.ntmps143
       go_wp2_with fail
       refine H1.out.mono ?_;rintro r w1 ⟨rfl,rfl⟩
       go_wp2_with fail
       refine H2.out.mono ?_;rintro r w1 ⟨rfl,rfl⟩
       go_wp2_with fail
       refine L.out.mono ?_;rintro r w1 ⟨rfl,rfl⟩
       go_wp2_with fail
       refine L2.out.mono ?_;rintro r w1 ⟨rfl,rfl⟩
       go_wp2_with fail
       refine C.out.mono ?_;rintro r w2 ⟨rfl,hb⟩;obtain ⟨hRX,hRY,hl1,hl2⟩:=HR.out;have hs:=hb.size;have S0:=sub_any (ws X) (ws Y) ao bo _ cap _ capb B w2 rfl rfl (ws_len_mono (by have:=HL.out;omega)) (by omega) (by omega) (by omega) (wf_ws X) (wf_ws Y) (by rw [val_ws,val_ws];have:=HL.out;omega) (hRX.below (hb.mono hB)) (hRY.below (hb.mono hB)) (by omega)
       rw [val_ws,val_ws] at S0;have S:=hid S0;have HB:=(qsd (ai hb hs));clear hb hRX hRY hl1 hl2 S0 hs C
       go_wp2_with fail
       refine S.out.mono ?_;rintro r w3 ⟨v,rfl,hN,hb2⟩;have HN:=(qsd (ai hN hb2));clear hN hb2 S;go_wp2
       go_ret2
       obtain ⟨hb,hs⟩:=HB.out;exact ⟨⟨_,rfl,HN.out.1.mono hs⟩,hb.trans (HN.out.2.mono hs)⟩
theorem Mul_any (xs ys:List Nat) (ao bo:Option Addr) (n cap m capb B:Nat) (w:World) (hn:n=xs.length) (hm:m=ys.length) (hc:n≤cap) (hcb:m≤capb) (hbig:n≤35184372088833) (hbig2:m≤35184372088833)
 (hx:Wf xs) (hy:Wf ys) (hR:Rd B w ao xs) (hS:Rd B w bo ys) (hB:B≤w.heap.size) :
 Calls Tryz.prog 121 #[.slice ao n cap,.slice bo m capb] w fun r w'=>One w.heap.size w' r (mulS (val xs) (val ys))∧Below w.heap.size w w':=by
 obtain ⟨T1,hRX,hl1⟩:=trimX xs ao n cap B w hn hc (by omega) hx hR
 obtain ⟨T2,hRY,hl2⟩:=trimX ys bo m capb B w hm hcb (by omega) hy hS
 generalize val xs=X at *;generalize val ys=Y at *;have H1:=(hid T1);have H2:=(hid T2);have HR:=(qsd (ai hRX (ai hRY (ai hl1 hl2))));clear T1 T2 hRX hRY hn hm hx hy hR hS hl1 hl2
 by_cases hLX:LG X
 · have L:=hid (longb (ws X).length ao cap w true (by simpa [LG] using hLX))
   have e:mulS X Y=(0,2):=by simp [mulS,hLX]
   rw [e];clear e hLX HR;go_enter Tryz.func121,Tryz.ntmps121
   go_wp2_with fail
   refine H1.out.mono ?_;rintro r w1 ⟨rfl,rfl⟩
   go_wp2_with fail
   refine H2.out.mono ?_;rintro r w1 ⟨rfl,rfl⟩
   go_wp2_with fail
   refine L.out.mono ?_;rintro r w1 ⟨rfl,rfl⟩;go_wp2
   go_ret2
   exact ⟨⟨_,rfl,Nt.nil _ _⟩,Below.refl _ _⟩
 · have L:=hid (longb (ws X).length ao cap w false (by simpa [LG] using hLX))
   by_cases hLY:LG Y
   · have L2:=hid (longb (ws Y).length bo capb w true (by simpa [LG] using hLY))
     have e:mulS X Y=(0,2):=by simp [mulS,hLY]
     rw [e];clear e hLX hLY HR;go_enter Tryz.func121,Tryz.ntmps121
     go_wp2_with fail
     refine H1.out.mono ?_;rintro r w1 ⟨rfl,rfl⟩
     go_wp2_with fail
     refine H2.out.mono ?_;rintro r w1 ⟨rfl,rfl⟩
     go_wp2_with fail
     refine L.out.mono ?_;rintro r w1 ⟨rfl,rfl⟩
     go_wp2_with fail
     refine L2.out.mono ?_;rintro r w1 ⟨rfl,rfl⟩;go_wp2
     go_ret2
     exact ⟨⟨_,rfl,Nt.nil _ _⟩,Below.refl _ _⟩
   · have L2:=hid (longb (ws Y).length bo capb w false (by simpa [LG] using hLY))
     have hz1:(ws X).length=0→X=0:=(ws_len_zero X).1;have hz2:(ws Y).length=0→Y=0:=(ws_len_zero Y).1
     by_cases h1:(ws X).length=0
     · have e:mulS X Y=(0,0):=by
        have:=hz1 h1;subst this;unfold mulS;rw [if_neg (by simp [hLX,hLY]),Nat.zero_mul,if_neg hLX]
       rw [e];have hh:=hid h1;rw [h1] at H1 L;have h1b:((ws X).length:Int)=0:=by omega
       clear e hLX hLY HR hz1 hz2 h1 h1b hh;go_enter Tryz.func121,Tryz.ntmps121
       go_wp2_with fail
       refine H1.out.mono ?_;rintro r w1 ⟨rfl,rfl⟩
       go_wp2_with fail
       refine H2.out.mono ?_;rintro r w1 ⟨rfl,rfl⟩
       go_wp2_with fail
       refine L.out.mono ?_;rintro r w1 ⟨rfl,rfl⟩
       go_wp2_with fail
       refine L2.out.mono ?_;rintro r w1 ⟨rfl,rfl⟩;go_wp2
       go_ret2
       exact ⟨⟨_,rfl,Nt.nil _ _⟩,Below.refl _ _⟩
     · by_cases h2:(ws Y).length=0
       · have e:mulS X Y=(0,0):=by
          have:=hz2 h2;subst this;unfold mulS;rw [if_neg (by simp [hLX,hLY]),Nat.mul_zero,if_neg hLY]
         rw [e];rw [h2] at H2 L2;obtain ⟨k1,hk1⟩:∃ k,(ws X).length=k:=⟨_,rfl⟩;rw [hk1] at H1 L h1;have h1b:((k1:Int)==0)=false:=by simp;omega
         clear e hLX hLY HR hz1 hz2 h2 hk1;go_enter Tryz.func121,Tryz.ntmps121
         go_wp2_with fail
         refine H1.out.mono ?_;rintro r w1 ⟨rfl,rfl⟩
         go_wp2_with fail
         refine H2.out.mono ?_;rintro r w1 ⟨rfl,rfl⟩
         go_wp2_with fail
         refine L.out.mono ?_;rintro r w1 ⟨rfl,rfl⟩
         go_wp2_with fail
         refine L2.out.mono ?_;rintro r w1 ⟨rfl,rfl⟩;go_wp2
         go_ret2
         exact ⟨⟨_,rfl,Nt.nil _ _⟩,Below.refl _ _⟩
       · have hX0:X≠0:=fun e=>h1 ((ws_len_zero X).2 e)
         have hY0:Y≠0:=fun e=>h2 ((ws_len_zero Y).2 e)
         have hlow:pw ((ws X).length+(ws Y).length-2)≤X*Y:=by
          have a:=Nat.mul_le_mul (ws_len_ge X hX0) (ws_len_ge Y hY0);rw [←pw_add] at a;rw [show (ws X).length+(ws Y).length-2=(ws X).length-1+((ws Y).length-1) by omega];exact a
         obtain ⟨hRX,hRY,hl1,hl2⟩:=HR.out;have M0:=mul_any (ws X) (ws Y) ao bo _ cap _ capb B w rfl rfl (by omega) (by omega) (by unfold LG at hLX hLY;omega) (wf_ws X) (wf_ws Y) hRX hRY hB
         rw [val_ws,val_ws] at M0;have hsmall1:(ws X).length≤8192:=by unfold LG at hLX;omega
         have hsmall2:(ws Y).length≤8192:=by unfold LG at hLY;omega
         obtain ⟨k1,hk1⟩:∃ k,(ws X).length=k:=⟨_,rfl⟩;obtain ⟨k2,hk2⟩:∃ k,(ws Y).length=k:=⟨_,rfl⟩;rw [hk1] at H1 L h1 M0 hlow hsmall1;rw [hk2] at H2 L2 h2 M0 hlow hsmall2;have h1b:((k1:Int)==0)=false:=by simp;omega
         have h2b:((k2:Int)==0)=false:=by simp;omega
         by_cases h3:8192<k1+k2-1
         · have hLG:LG (X*Y):=by
            unfold LG
            by_cases h4:(ws (X*Y)).length≤8192
            · have:=(ws_len_le _ _).1 h4
              have:=pw_mono (show 8192≤k1+k2-2 by omega)
              omega
            · omega
           have e:mulS X Y=(0,2):=by simp [mulS,hLG]
           rw [e];have h3i:(8192:Int)<(k1:Int)+(k2:Int)-1:=by omega
           clear e hLX hLY HR hz1 hz2 hk1 hk2 hRX hRY hl1 hl2 M0 hX0 hY0 hlow hLG h3;go_enter Tryz.func121,Tryz.ntmps121
           go_wp2_with fail
           refine H1.out.mono ?_;rintro r w1 ⟨rfl,rfl⟩
           go_wp2_with fail
           refine H2.out.mono ?_;rintro r w1 ⟨rfl,rfl⟩
           go_wp2_with fail
           refine L.out.mono ?_;rintro r w1 ⟨rfl,rfl⟩
           go_wp2_with fail
           refine L2.out.mono ?_;rintro r w1 ⟨rfl,rfl⟩;go_wp2
           go_ret2
           exact ⟨⟨_,rfl,Nt.nil _ _⟩,Below.refl _ _⟩
         · have h3i:(k1:Int)+(k2:Int)-1≤8192:=by omega
           have h3b:decide ((8192:Int)<(k1:Int)+(k2:Int)-1)=false:=decide_eq_false (by omega)
           have M:=hid M0;have HL:=(qsd (ai hLX hLY));clear hLX hLY HR hz1 hz2 hk1 hk2 hRX hRY hl1 hl2 M0 hX0 hY0 hlow h3;go_enter Tryz.func121,Tryz.ntmps121
           go_wp2_with fail
           refine H1.out.mono ?_;rintro r w1 ⟨rfl,rfl⟩
           go_wp2_with fail
           refine H2.out.mono ?_;rintro r w1 ⟨rfl,rfl⟩
           go_wp2_with fail
           refine L.out.mono ?_;rintro r w1 ⟨rfl,rfl⟩
           go_wp2_with fail
           refine L2.out.mono ?_;rintro r w1 ⟨rfl,rfl⟩
           go_wp2_with fail
           refine M.out.mono ?_;rintro r w2 ⟨v,rfl,hN,hb⟩;obtain ⟨av,cv,rfl,hcv,hcm,hRv⟩:=hN.shape;have U0:=unlessLong_any (ws (X*Y)).length av cv w2;have HN:=(qsd (ai hN hb));clear M hN hb hRv
           by_cases hL:LG (X*Y)
           · rw [if_pos (show 8192<(ws (X*Y)).length from hL)] at U0
             have U:=(hid U0);clear U0
             go_wp2_with fail
             refine U.out.mono ?_;rintro r w3 ⟨rfl,rfl⟩;go_wp2
             go_ret2
             rw [show mulS X Y=(0,2) by simp [mulS,hL]]
             exact ⟨⟨_,rfl,Nt.nil _ _⟩,HN.out.2⟩
           · rw [if_neg (show ¬ 8192<(ws (X*Y)).length from hL)] at U0
             have U:=(hid U0);clear U0
             go_wp2_with fail
             refine U.out.mono ?_;rintro r w3 ⟨rfl,rfl⟩;go_wp2
             go_ret2
             rw [show mulS X Y=(X*Y,0) by simp [mulS,HL.out.1,HL.out.2,hL]]
             exact ⟨⟨_,rfl,HN.out.1⟩,HN.out.2⟩
def Three (lo:Nat) (w:World) (r:Ending) (a:Nat×Nat×Int):Prop:=∃ v u,r=.returned (.tuple #[v,u,.int .i64 a.2.2])∧Nt lo w v a.1∧Nt lo w u a.2.1∧Apart v u
theorem Div_any (xs ys:List Nat) (ao bo:Option Addr) (n cap m capb B:Nat) (w:World) (hn:n=xs.length) (hm:m=ys.length) (hc:n≤cap) (hcb:m≤capb) (hbig:n≤35184372088833) (hbig2:m≤35184372088833)
 (hx:Wf xs) (hy:Wf ys) (hR:Rd B w ao xs) (hS:Rd B w bo ys) (hB:B≤w.heap.size) :
 Calls Tryz.prog 141 #[.slice ao n cap,.slice bo m capb] w fun r w'=>Three w.heap.size w' r (divS (val xs) (val ys))∧Below w.heap.size w w':=by
 obtain ⟨T1,hRX,hl1⟩:=trimX xs ao n cap B w hn hc (by omega) hx hR
 obtain ⟨T2,hRY,hl2⟩:=trimX ys bo m capb B w hm hcb (by omega) hy hS
 generalize val xs=X at *;generalize val ys=Y at *;have H1:=(hid T1);have H2:=(hid T2);have HR:=(qsd (ai hRX (ai hRY (ai hl1 hl2))));clear T1 T2 hRX hRY hn hm hx hy hR hS hl1 hl2
 by_cases hLX:LG X
 · have L:=hid (longb (ws X).length ao cap w true (by simpa [LG] using hLX))
   have e:divS X Y=(0,0,2):=by simp [divS,hLX]
   rw [e];clear e hLX HR;go_enter Tryz.func141,Tryz.ntmps141
   go_wp2_with fail
   refine H1.out.mono ?_;rintro r w1 ⟨rfl,rfl⟩
   go_wp2_with fail
   refine H2.out.mono ?_;rintro r w1 ⟨rfl,rfl⟩
   go_wp2_with fail
   refine L.out.mono ?_;rintro r w1 ⟨rfl,rfl⟩;go_wp2
   go_ret3
   exact ⟨⟨_,_,rfl,Nt.nil _ _,Nt.nil _ _,apart_nil _⟩,Below.refl _ _⟩
 · have L:=hid (longb (ws X).length ao cap w false (by simpa [LG] using hLX))
   by_cases hLY:LG Y
   · have L2:=hid (longb (ws Y).length bo capb w true (by simpa [LG] using hLY))
     have e:divS X Y=(0,0,2):=by simp [divS,hLY]
     rw [e];clear e hLX hLY HR;go_enter Tryz.func141,Tryz.ntmps141
     go_wp2_with fail
     refine H1.out.mono ?_;rintro r w1 ⟨rfl,rfl⟩
     go_wp2_with fail
     refine H2.out.mono ?_;rintro r w1 ⟨rfl,rfl⟩
     go_wp2_with fail
     refine L.out.mono ?_;rintro r w1 ⟨rfl,rfl⟩
     go_wp2_with fail
     refine L2.out.mono ?_;rintro r w1 ⟨rfl,rfl⟩;go_wp2
     go_ret3
     exact ⟨⟨_,_,rfl,Nt.nil _ _,Nt.nil _ _,apart_nil _⟩,Below.refl _ _⟩
   · have L2:=hid (longb (ws Y).length bo capb w false (by simpa [LG] using hLY))
     by_cases h2:Y=0
     · have e:divS X Y=(0,0,21):=by unfold divS;rw [if_neg (by simp [hLX,hLY]),if_pos h2]
       rw [e];subst h2;rw [ws_zero] at H2 L2;clear e hLX hLY HR;go_enter Tryz.func141,Tryz.ntmps141
       go_wp2_with fail
       refine H1.out.mono ?_;rintro r w1 ⟨rfl,rfl⟩
       go_wp2_with fail
       refine H2.out.mono ?_;rintro r w1 ⟨rfl,rfl⟩
       go_wp2_with fail
       refine L.out.mono ?_;rintro r w1 ⟨rfl,rfl⟩
       go_wp2_with fail
       refine L2.out.mono ?_;rintro r w1 ⟨rfl,rfl⟩;go_wp2
       go_ret3
       exact ⟨⟨_,_,rfl,Nt.nil _ _,Nt.nil _ _,apart_nil _⟩,Below.refl _ _⟩
     · have h3:(ws Y).length≠0:=fun e=>h2 ((ws_len_zero Y).1 e)
       obtain ⟨hRX,hRY,hl1,hl2⟩:=HR.out;have D0:=div_any (ws X) (ws Y) ao bo _ cap _ capb B w rfl rfl (by omega) (by omega) (by omega) (by omega) (wf_ws X) (wf_ws Y) (ws_top Y h2) hRX hRY hB
       rw [val_ws,val_ws] at D0;have e:divS X Y=(X/Y,X%Y,0):=by simp [divS,hLX,hLY,h2]
       rw [e];obtain ⟨k2,hk2⟩:∃ k,(ws Y).length=k:=⟨_,rfl⟩;rw [hk2] at H2 L2 D0 h3;have h2b:((k2:Int)==0)=false:=by simp;omega
       have D:=hid D0;clear e hLX hLY HR hk2 hRX hRY hl1 hl2 D0 h2;go_enter Tryz.func141,Tryz.ntmps141
       go_wp2_with fail
       refine H1.out.mono ?_;rintro r w1 ⟨rfl,rfl⟩
       go_wp2_with fail
       refine H2.out.mono ?_;rintro r w1 ⟨rfl,rfl⟩
       go_wp2_with fail
       refine L.out.mono ?_;rintro r w1 ⟨rfl,rfl⟩
       go_wp2_with fail
       refine L2.out.mono ?_;rintro r w1 ⟨rfl,rfl⟩
       go_wp2_with fail
       refine D.out.mono ?_;rintro r w2 ⟨⟨v,u,rfl,hN1,hN2,hap⟩,hb⟩;have HN:=(qsd (ai hN1 (ai hN2 (ai hap hb))));clear hN1 hN2 hap hb D;go_wp2
       go_ret3
       obtain ⟨hN1,hN2,hap,hb⟩:=HN.out;exact ⟨⟨_,_,rfl,hN1,hN2,hap⟩,hb⟩
theorem bl_le_words (X k:Nat) (h:X<pw k):bl X≤32*k:=by
 by_cases h0:X=0
 · subst h0;rw [bl_zero];omega
 · have h1:=bl_ge X h0
   have h3:pw k=2^(32*k):=by rw [←Nat.add_zero (32*k),pw_two];simp
   rw [h3] at h;have:=(Nat.pow_lt_pow_iff_right (a:=2) (by decide)).1 (Nat.lt_of_le_of_lt h1 h)
   omega
theorem bl_small (X:Nat) (h:¬ LG X):bl X≤262144 :=
 bl_le_words X 8192 ((ws_len_le X 8192).1 (by unfold LG at h;omega))
theorem Shift_any (xs:List Nat) (ao:Option Addr) (n cap B:Nat) (by':Int) (w:World) (hn:n=xs.length) (hc:n≤cap) (hbig:n≤35184372088833)
 (hx:Wf xs) (hR:Rd B w ao xs) (hB:B≤w.heap.size) (hb0:-9223372036854775808≤by') (hb1:by'≤9223372036854775807) :
 Calls Tryz.prog 139 #[.slice ao n cap,.int .i64 by'] w fun r w'=>One w.heap.size w' r (shiftS (val xs) by')∧Below w.heap.size w w':=by
 obtain ⟨T1,hRX,hl1⟩:=trimX xs ao n cap B w hn hc (by omega) hx hR
 generalize val xs=X at *;have N0:=len_any (ws X) ao _ cap B w rfl (by omega) (by omega) (wf_ws X) hRX
 rw [val_ws] at N0;have H1:=(hid T1);have H2:=(hid N0);have HR:=(qsd (ai hRX hl1));clear T1 N0 hRX hn hx hR hl1
 by_cases hLX:LG X
 · have L:=hid (longb (ws X).length ao cap w true (by simpa [LG] using hLX))
   have e:shiftS X by'=(0,2):=by simp [shiftS,hLX]
   rw [e];clear e hLX HR;generalize bl X=c at *;go_enter Tryz.func139,Tryz.ntmps139
   go_wp2_with fail
   refine H1.out.mono ?_;rintro r w1 ⟨rfl,rfl⟩
   go_wp2_with fail
   refine H2.out.mono ?_;rintro r w1 ⟨rfl,rfl⟩
   go_wp2_with fail
   refine L.out.mono ?_;rintro r w1 ⟨rfl,rfl⟩;go_wp2
   go_ret2
   exact ⟨⟨_,rfl,Nt.nil _ _⟩,Below.refl _ _⟩
 · have L:=hid (longb (ws X).length ao cap w false (by simpa [LG] using hLX))
   have hbs:=bl_small X hLX;obtain ⟨c,hcc⟩:∃ c,bl X=c:=⟨_,rfl⟩
   by_cases h0:X=0
   · have e:shiftS X by'=(0,0):=by unfold shiftS;rw [if_neg hLX,if_pos h0]
     rw [e];subst h0;rw [ws_zero] at H1 H2 L;rw [bl_zero] at H2;clear e hLX HR hbs hcc;go_enter Tryz.func139,Tryz.ntmps139
     go_wp2_with fail
     refine H1.out.mono ?_;rintro r w1 ⟨rfl,rfl⟩
     go_wp2_with fail
     refine H2.out.mono ?_;rintro r w1 ⟨rfl,rfl⟩
     go_wp2_with fail
     refine L.out.mono ?_;rintro r w1 ⟨rfl,rfl⟩;go_wp2
     go_ret2
     exact ⟨⟨_,rfl,Nt.nil _ _⟩,Below.refl _ _⟩
   · have hcp:=bl_pos X h0
     have hlt:=bl_lt X;rw [hcc] at hcp hbs H2 hlt;have hcne:((c:Int)==0)=false:=by simp;omega
     by_cases hneg:by'<0
     · obtain ⟨d,hd⟩:∃ d:Nat,(d:Int)=-by':=⟨(-by').toNat,by omega⟩
       have e:shiftS X by'=(X/2^d,0):=by
        unfold shiftS;rw [if_neg hLX,if_neg h0,if_pos hneg,←hd,Int.toNat_natCast]
       rw [e]
       by_cases hbig2:by'≤-(c:Int)
       · have e2:X/2^d=0:=Nat.div_eq_of_lt (Nat.lt_of_lt_of_le hlt (Nat.pow_le_pow_right (by decide) (by omega)))
         rw [e2];clear e e2 hLX HR hcc hlt hd h0;go_enter Tryz.func139,Tryz.ntmps139
         go_wp2_with fail
         refine H1.out.mono ?_;rintro r w1 ⟨rfl,rfl⟩
         go_wp2_with fail
         refine H2.out.mono ?_;rintro r w1 ⟨rfl,rfl⟩
         go_wp2_with fail
         refine L.out.mono ?_;rintro r w1 ⟨rfl,rfl⟩;go_wp2
         go_ret2
         exact ⟨⟨_,rfl,Nt.nil _ _⟩,Below.refl _ _⟩
       · obtain ⟨hRX,hl1⟩:=HR.out
         have D0:=down_any (ws X) ao _ cap B d (d/32) (d%32) w rfl (by omega) (by omega) (by omega) (by omega) (by omega) (wf_ws X) hRX hB
         rw [val_ws] at D0;have D:=hid D0;have hgt:-(c:Int)<by':=by omega
         have hd':-by'=(d:Int):=hd.symm
         clear e hLX HR hcc hlt h0 hRX hl1 D0 hbig2 hd;go_enter Tryz.func139,Tryz.ntmps139
         go_wp2_with fail
         refine H1.out.mono ?_;rintro r w1 ⟨rfl,rfl⟩
         go_wp2_with fail
         refine H2.out.mono ?_;rintro r w1 ⟨rfl,rfl⟩
         go_wp2_with fail
         refine L.out.mono ?_;rintro r w1 ⟨rfl,rfl⟩
         go_wp2_with fail
         try rw [hd']
         refine D.out.mono ?_;rintro r w2 ⟨v,rfl,hN,hb⟩;have HN:=(qsd (ai hN hb));clear hN hb D;go_wp2
         go_ret2
         exact ⟨⟨_,rfl,HN.out.1⟩,HN.out.2⟩
     · obtain ⟨d,rfl⟩:∃ d:Nat,by'=(d:Int):=⟨by'.toNat,by omega⟩
       by_cases hover:262144-(c:Int)<(d:Int)
       · have e:shiftS X (d:Int)=(0,2):=by unfold shiftS;rw [if_neg hLX,if_neg h0,if_neg hneg,hcc,if_pos hover]
         rw [e];clear e hLX HR hcc hlt h0 hneg;go_enter Tryz.func139,Tryz.ntmps139
         go_wp2_with fail
         refine H1.out.mono ?_;rintro r w1 ⟨rfl,rfl⟩
         go_wp2_with fail
         refine H2.out.mono ?_;rintro r w1 ⟨rfl,rfl⟩
         go_wp2_with fail
         refine L.out.mono ?_;rintro r w1 ⟨rfl,rfl⟩;go_wp2
         go_ret2
         exact ⟨⟨_,rfl,Nt.nil _ _⟩,Below.refl _ _⟩
       · have e:shiftS X (d:Int)=(X*2^d,0):=by unfold shiftS;rw [if_neg hLX,if_neg h0,if_neg hneg,hcc,if_neg hover,Int.toNat_natCast]
         rw [e];obtain ⟨hRX,hl1⟩:=HR.out;have D0:=up_any (ws X) ao _ cap B d (d/32) (d%32) w rfl (by omega) (by omega) (by omega) (by unfold LG at hLX;omega) (wf_ws X) hRX hB
         rw [val_ws] at D0;have D:=hid D0;have hle:(d:Int)≤262144-(c:Int):=by omega
         have hleb:decide (262144-(c:Int)<(d:Int))=false:=decide_eq_false (by omega)
         clear e hLX HR hcc hlt h0 hRX hl1 D0 hover hneg;go_enter Tryz.func139,Tryz.ntmps139
         go_wp2_with fail
         refine H1.out.mono ?_;rintro r w1 ⟨rfl,rfl⟩
         go_wp2_with fail
         refine H2.out.mono ?_;rintro r w1 ⟨rfl,rfl⟩
         go_wp2_with fail
         refine L.out.mono ?_;rintro r w1 ⟨rfl,rfl⟩
         go_wp2_with fail
         refine D.out.mono ?_;rintro r w2 ⟨v,rfl,hN,hb⟩;have HN:=(qsd (ai hN hb));clear hN hb D;go_wp2
         go_ret2
         exact ⟨⟨_,rfl,HN.out.1⟩,HN.out.2⟩
structure Arg (w:World) (a:Option Addr) (n c:Nat) (xs:List Nat):Prop where
 len:n=xs.length
 cap:n≤c
 big:n≤35184372088832
 wf:Wf xs
 rd:Rd w.heap.size w a xs
 nil:a=none→c=0
theorem Arg.below {w w':World}{a:Option Addr}{n c:Nat}{xs:List Nat}(h:Arg w a n c xs) (hb:Below w.heap.size w w'):Arg w' a n c xs :=
 ⟨h.len,h.cap,h.big,h.wf,(h.rd.below hb).mono hb.size,h.nil⟩
theorem Nt.arg {lo:Nat}{w:World}{v:Value}{X:Nat}(h:Nt lo w v X) (hs:(ws X).length≤35184372088832):∃ a c,v=.slice a (ws X).length c∧Arg w a (ws X).length c (ws X):=by
 have h':=h;obtain ⟨a,c,rfl,h1,h2,h3⟩:=h.shape;refine ⟨a,c,rfl,rfl,h1,hs,wf_ws X,h3,fun e=>?_⟩
 rcases h'.2 with ⟨e1,_⟩|⟨g,cap,cur,e1,_⟩
 · simp only [Value.slice.injEq] at e1;exact e1.2.2
 · simp only [Value.slice.injEq] at e1;rw [e1.1] at e;cases e
theorem one_ok {lo:Nat}{w:World}{r:Ending}{a:Nat×Int}{V:Nat}(h:One lo w r a) (e:a=(V,0)):∃ v,r=.returned (.tuple #[v,.int .i64 0])∧Nt lo w v V:=by
 subst e;exact h
theorem Mul_arg {w:World}{a b:Option Addr}{n c m d:Nat}{xs ys:List Nat}{V:Nat}(h1:Arg w a n c xs) (h2:Arg w b m d ys) (e:mulS (val xs) (val ys)=(V,0)) :
 Calls Tryz.prog 121 #[.slice a n c,.slice b m d] w fun r w'=>∃ v,r=.returned (.tuple #[v,.int .i64 0])∧Nt w.heap.size w' v V∧Below w.heap.size w w' :=
 (Mul_any xs ys a b n c m d w.heap.size w h1.len h2.len h1.cap h2.cap (by have:=h1.big;omega) (by have:=h2.big;omega) h1.wf h2.wf h1.rd h2.rd (Nat.le_refl _)).mono
  fun r w' ⟨ho,hb⟩=>by obtain ⟨v,h3,h4⟩:=one_ok ho e;exact ⟨v,h3,h4,hb⟩
theorem Add_arg {w:World}{a b:Option Addr}{n c m d:Nat}{xs ys:List Nat}{V:Nat}(h1:Arg w a n c xs) (h2:Arg w b m d ys) (e:addS (val xs) (val ys)=(V,0)) :
 Calls Tryz.prog 140 #[.slice a n c,.slice b m d] w fun r w'=>∃ v,r=.returned (.tuple #[v,.int .i64 0])∧Nt w.heap.size w' v V∧Below w.heap.size w w' :=
 (Add_any xs ys a b n c m d w.heap.size w h1.len h2.len h1.cap h2.cap (by have:=h1.big;omega) (by have:=h2.big;omega) h1.wf h2.wf h1.rd h2.rd (Nat.le_refl _)).mono
  fun r w' ⟨ho,hb⟩=>by obtain ⟨v,h3,h4⟩:=one_ok ho e;exact ⟨v,h3,h4,hb⟩
theorem Sub_arg {w:World}{a b:Option Addr}{n c m d:Nat}{xs ys:List Nat}{V:Nat}(h1:Arg w a n c xs) (h2:Arg w b m d ys) (e:subS (val xs) (val ys)=(V,0)) :
 Calls Tryz.prog 143 #[.slice a n c,.slice b m d] w fun r w'=>∃ v,r=.returned (.tuple #[v,.int .i64 0])∧Nt w.heap.size w' v V∧Below w.heap.size w w' :=
 (Sub_any xs ys a b n c m d w.heap.size w h1.len h2.len h1.cap h2.cap (by have:=h1.big;omega) (by have:=h2.big;omega) h1.wf h2.wf h1.rd h2.rd (Nat.le_refl _)).mono
  fun r w' ⟨ho,hb⟩=>by obtain ⟨v,h3,h4⟩:=one_ok ho e;exact ⟨v,h3,h4,hb⟩
theorem Shift_arg {w:World}{a:Option Addr}{n c:Nat}{xs:List Nat}{V:Nat}(by':Int) (h1:Arg w a n c xs) (e:shiftS (val xs) by'=(V,0)) (hb0:-9223372036854775808≤by') (hb1:by'≤9223372036854775807) :
 Calls Tryz.prog 139 #[.slice a n c,.int .i64 by'] w fun r w'=>∃ v,r=.returned (.tuple #[v,.int .i64 0])∧Nt w.heap.size w' v V∧Below w.heap.size w w' :=
 (Shift_any xs a n c w.heap.size by' w h1.len h1.cap (by have:=h1.big;omega) h1.wf h1.rd (Nat.le_refl _) hb0 hb1).mono
  fun r w' ⟨ho,hb⟩=>by obtain ⟨v,h3,h4⟩:=one_ok ho e;exact ⟨v,h3,h4,hb⟩
theorem Cmp_arg {w:World}{a b:Option Addr}{n c m d:Nat}{xs ys:List Nat}(h1:Arg w a n c xs) (h2:Arg w b m d ys) (z:Int) (e:cmpI (val xs) (val ys)=z) :
 Calls Tryz.prog 158 #[.slice a n c,.slice b m d] w fun r w'=>r=.returned (.int .i64 z)∧Below w.heap.size w w':=by
 have:=cmp_any xs ys a b n c m d w.heap.size w h1.len h2.len h1.cap h2.cap (by have:=h1.big;omega) (by have:=h2.big;omega) h1.wf h2.wf h1.rd h2.rd
 rw [e] at this;exact this
theorem addS_ok {X Y V:Nat}(h3:¬ LG V) (e:X+Y=V):addS X Y=(V,0):=by subst e;unfold addS;rw [if_neg h3]
theorem subS_ok {X Y V:Nat}(h1:¬ LG X) (h2:¬ LG Y) (e:V+Y=X):subS X Y=(V,0):=by unfold subS;rw [if_neg (by simp [h1,h2]),if_neg (by omega)];congr 1;omega
def Bl (w:World) (g T:Nat) (C:List Value):Prop:=w.heap[g]?=some (.cells C.toArray T (0,0))
theorem Bl.lt {w:World}{g T:Nat}{C:List Value}(h:Bl w g T C):g<w.heap.size:=(Array.getElem?_eq_some_iff.1 h).1
theorem Bl.cell {w:World}{g T:Nat}{C:List Value}(h:Bl w g T C) (i:Nat) (v:Value) (hv:C[i]?=some v):w.cell? ⟨g,i,none⟩=some v:=by
 unfold Bl at h;simp [World.cell?,h,hv]
theorem Bl.frozen {w:World}{g T:Nat}{C:List Value}(h:Bl w g T C) (i:Nat):w.frozen? ⟨g,i,none⟩=false:=by
 unfold Bl at h;simp [World.frozen?,h]
theorem Bl.set {w:World}{g T:Nat}{C:List Value}(h:Bl w g T C) (i:Nat) (v:Value):Bl (w.setCell ⟨g,i,none⟩ v) g T (C.set i v):=by
 unfold Bl at h ⊢;simp [World.setCell,Array.getElem?_modify,h]
theorem Bl.drew {w:World}{g T:Nat}{C:List Value}(h:Bl w g T C):Bl w.drew g T C:=h
theorem Bl.below {w w':World}{g T B:Nat}{C:List Value}(h:Bl w g T C) (hb:Below B w w') (hg:g<B):Bl w' g T C:=by
 unfold Bl at h ⊢;rw [hb.block g hg];exact h
theorem Bl.but {w w':World}{g g' T:Nat}{C:List Value}(h:Bl w g T C) (hb:But g' w w') (hg:g≠g'):Bl w' g T C:=by
 unfold Bl at h ⊢;rw [hb.block g (Bl.lt h) hg];exact h
theorem Bl.range {w:World}{g T:Nat}{C:List Value}(h:Bl w g T C) (o:Nat) (cs:List Value) (hc:∀ j v,cs[j]?=some v→C[o+j]?=some v):w.rangeAt g o cs :=
 fun j v hv=>h.cell _ _ (hc j v hv)
theorem Bl.there {w:World}{g T:Nat}{C:List Value}(h:Bl w g T C) (o n:Nat) (hn:o+n≤C.length):w.there g o n :=
 fun j hj=>⟨by rw [h.cell (o+j) _ (List.getElem?_eq_getElem (by omega))];rfl,h.frozen _⟩
theorem Bl.setCells {g T:Nat}:∀ (vs:List Value) (o:Nat) {w:World}{C:List Value}(h:Bl w g T C) (hn:o+vs.length≤C.length),Bl (w.setCells g o vs) g T (C.take o++vs++C.drop (o+vs.length))
 | [],o,w,C,h,hn=>by simpa [World.setCells] using h
 | v::r,o,w,C,h,hn=>by
   rw [World.setCells];have:=Bl.setCells r (o+1) (h.set o v) (by simp at hn ⊢;omega)
   simp only [List.length_cons] at hn
   have e:(C.set o v).take (o+1)++r++(C.set o v).drop (o+1+r.length)=C.take o++(v::r)++C.drop (o+(v::r).length):=by
    rw [List.drop_set,if_pos (by omega),List.take_succ_eq_append_getElem (by simp;omega),List.getElem_set_self,List.take_set,List.set_eq_of_length_le (by simp;omega)]
    simp [Nat.add_assoc,Nat.add_comm 1]
   rw [e] at this;exact this
theorem Bl.setAll {g T:Nat}{w:World}{C vs:List Value}(h:Bl w g T C) (hn:vs.length=C.length):Bl (w.setCells g 0 vs) g T vs:=by
 have:=Bl.setCells vs 0 h (by omega)
 rw [hn] at this;simpa using this
theorem But.setCells {g:Nat}{a:World}:∀ (vs:List Value) (o:Nat) {w:World}(h:But g a w),But g a (w.setCells g o vs)
 | [],o,w,h=>h
 | v::r,o,w,h=>by rw [World.setCells];exact But.setCells r (o+1) (h.set o v)
theorem bel_alloc (w:World) (o:Obj):Below w.heap.size w (w.alloc o):=(Below.refl _ _).alloc (Nat.le_refl _) _
theorem Bl.alloc {w:World}{g T:Nat}{C:List Value}(h:Bl w g T C) (o:Obj):Bl (w.alloc o) g T C:=by
 unfold Bl at h ⊢;rw [(bel_alloc w o).block g (Bl.lt h)];exact h
theorem Bl.new (w:World) (T:Nat) (C:List Value):Bl (w.alloc (.cells C.toArray T)) w.heap.size T C:=by
 unfold Bl;rw [heap_alloc_new]
theorem Bl.new' (w:World) (T n:Nat) (C:List Value) (hn:n=w.heap.size):Bl (w.alloc (.cells C.toArray T)) n T C:=by
 subst hn;exact Bl.new w T C
theorem Wb.bl {w:World}{g:Nat}{L:List Nat}(h:Wb w g L):Bl w g 91 (L.map U):=h
theorem Bl.wb {w:World}{g:Nat}{L:List Nat}(h:Bl w g 91 (L.map U)):Wb w g L:=h
theorem oneCell_U (L:List Nat):((L.map U).toArray).all (·.oneCell')=true:=all_oneCell_toArray fun v hv=>by
 obtain ⟨x,_,rfl⟩:=List.mem_map.1 hv;rfl
theorem Tryz.zero_words:Tryz.zeroCells91=(List.replicate 133 (Value.int .u32 0)).toArray:=by kernel_rfl
theorem Tryz.size_words:(Tryz.prog.info? 91).map (·.size)=some 133:=by kernel_rfl
theorem Tryz.desc_words:Tryz.prog.underlying 91=some (.array 133 89):=by kernel_rfl
theorem emod_add' (x y n:Int):(x%n+y)%n=(x+y)%n:=by simp
def sgn7 (ng:Bool) (T:Nat):Int:=if ng then -(T:Int) else (T:Int)
theorem sgn_zero (ng:Bool):sgn7 ng 0=0:=by cases ng <;> simp [sgn7]
theorem sgn_add (ng:Bool) (a b:Nat):sgn7 ng (a+b)=sgn7 ng a+sgn7 ng b:=by cases ng <;> simp [sgn7];omega
theorem with_step (xs:List Nat) (k p:Nat) (hk:k<xs.length):val (xs.take (k+1))*2^p=val (xs.take k)*2^p+xs.getD k 0*2^(p+32*k):=by
 rw [val_take_succ xs k hk,Nat.add_mul,pw_pow,Nat.pow_add]
 congr 1
 rw [Nat.mul_comm (2^(32*k)),Nat.mul_assoc,Nat.mul_comm (2^(32*k))]
theorem with_any (L xs:List Nat) (ao:Option Addr) (n cap p:Nat) (kd:Int) (ng:Bool) (w:World) (hl:L.length=133) (hL:Wf L) (hA:Arg w ao n cap xs) (hp:p+32*n≤4256) :
 Calls Tryz.prog 108 #[.agg (L.map U).toArray,.agg #[.int .i64 kd,.bool ng,.slice ao n cap,.int .i64 (p:Nat)]] w fun r w' =>
  ∃ M,r=.returned (.agg (M.map U).toArray)∧M.length=133∧Wf M∧(val M:Int)=((val L:Int)+sgn7 ng (val xs*2^p))%(PB:Int)∧Below w.heap.size w w':=by
 have HR:Aside (Wf L∧L.length=133∧Arg w ao n cap xs):=⟨hL,hl,hA⟩;clear hL hl hA;go_enter Tryz.func108,Tryz.ntmps108;go_wp2;obtain ⟨w3,hw3⟩:∃ w3,w3=(((w.alloc (Obj.cells (L.map U).toArray 91)).alloc (Obj.cells #[Value.int IntKind.i64 kd,Value.bool ng,Value.slice ao n cap,Value.int IntKind.i64 (p:Nat)] 117)).alloc (Obj.cells Tryz.zeroCells91 91)):=⟨_,rfl⟩;rw [←hw3]
 have H3:Aside (Below w.heap.size w w3∧Wb w3 w.heap.size L∧Bl w3 (w.heap.size+1) 117 [Value.int IntKind.i64 kd,Value.bool ng,Value.slice ao n cap,Value.int IntKind.i64 (p:Nat)]∧Bl w3 (w.heap.size+1+1) 91 (List.replicate 133 (Value.int .u32 0))∧w3.heap.size=w.heap.size+3):=by
  subst hw3;refine ⟨?_,?_,?_,?_,by simp⟩
  · exact ((bel_alloc w _).trans ((bel_alloc _ _).mono (by simp))).trans ((bel_alloc _ _).mono (by simp;omega))
  · exact (((Bl.new w 91 (L.map U)).alloc _).alloc _).wb
  · exact (Bl.new' (w.alloc (Obj.cells (L.map U).toArray 91)) 117 _ [_,_,_,_] (by simp)).alloc _
  · rw [Tryz.zero_words];exact Bl.new' _ 91 _ _ (by simp)
 clear hw3
 go_loopg [10] n (fun gk i wr=>∃ (k:Nat) (M:List Nat),gk+k=n∧i=.int .i64 (k:Nat) ∧
  Aside (Wb wr w.heap.size M∧Wf M∧M.length=133∧(val M:Int)=((val L:Int)+sgn7 ng (val (xs.take k)*2^p))%(PB:Int)∧But w.heap.size w3 wr))
 case atStart=>exact ⟨0,L,by omega,by simp,H3.out.2.1,HR.out.1,HR.out.2.1,by simp only [List.take_zero,val,Nat.zero_mul,sgn_zero,Int.add_zero];rw [Int.emod_eq_of_lt (by omega) (by have:=val_lt_PB HR.out.2.1 HR.out.1;omega)],But.refl _ _⟩
 case round =>
  obtain ⟨k,M,hgk,rfl,HA⟩:=hrel
  by_cases hk:k<n
  · obtain ⟨hL,hl,hA⟩:=HR.out
    obtain ⟨hM,hMw,hMl,hMs,hbut⟩:=HA.out;obtain ⟨b3,_,T3,Z3,s3⟩:=H3.out;obtain ⟨b,boff,hbB,rfl,hbc⟩:=hA.rd (by intro e;subst e;have:=hA.len;simp at this;omega)
    have hbk:wr.cell? ⟨b,boff+k,none⟩=some (.int .u32 ((xs.getD k 0:Nat):Int)):=by
     have h0:=b3.block b hbB;have h1:=hbut.block b (by omega) (by omega)
     exact (World.cell?_of_block (a:=⟨b,boff+k,none⟩) (h1.trans h0)).trans (hbc k (by rw [←hA.len];omega))
    have T4:=T3.but hbut (by omega)
    have c1:=T4.cell 1 _ rfl;have c3:=T4.cell 3 _ rfl;obtain ⟨y,hy⟩:∃ y:Nat,xs.getD k 0=y:=⟨_,rfl⟩;have hyl:y<4294967296:=hy ▸ hA.wf.get _;rw [hy] at hbk;have HX:Aside (xs.getD k 0=y):=hy;have HB:Aside (∀ i,i<xs.length→w.cell? ⟨b,boff+i,none⟩=some (.int .u32 ((xs.getD i 0:Nat):Int))):=hbc;clear hy hL hl hA hM hMw hMl hMs hbut b3 T3 Z3 s3 T4 hbc
    cases ng
    · go_wp2_with fail
      rw [show (p:Int)+32*(k:Int)=((p+32*k:Nat):Int) by simp]
      obtain ⟨hM,hMw,hMl,hMs,hbut⟩:=HA.out;refine (Calls.mono (wadd_any M w.heap.size y (p+32*k) wr hM hMl hMw hyl (by omega)) ?_)
      rintro r w' ⟨rfl,M',hM',hMl',hMw',hv',hb'⟩;have HA':Aside (Wb w' w.heap.size M'∧Wf M'∧M'.length=133∧val M'=(val M+y*2^(p+32*k))%PB∧But w.heap.size wr w'):=⟨hM',hMw',hMl',hv',hb'⟩;clear hM hMw hMl hMs hbut hM' hMl' hMw' hv' hb';go_wp2
      go_roundg (gk-1)
      case measure=>omega
      case rel =>
       obtain ⟨hM',hMw',hMl',hv',hb'⟩:=HA'.out;obtain ⟨hM,hMw,hMl,hMs,hbut⟩:=HA.out;refine ⟨k+1,M',by omega,by simp,hM',hMw',hMl',?_,hbut.trans hb'⟩
       rw [with_step xs k p (by rw [←HR.out.2.2.len];exact hk),HX.out,sgn_add,←Int.add_assoc,←emod_add',←hMs,hv']
       simp [sgn7]
    · go_wp2_with fail
      rw [show (p:Int)+32*(k:Int)=((p+32*k:Nat):Int) by simp]
      obtain ⟨hM,hMw,hMl,hMs,hbut⟩:=HA.out;refine (Calls.mono (wtake_any M w.heap.size y (p+32*k) wr hM hMl hMw hyl (by omega)) ?_)
      rintro r w' ⟨rfl,M',hM',hMl',hMw',hv',hb'⟩;have HA':Aside (Wb w' w.heap.size M'∧Wf M'∧M'.length=133∧(val M':Int)=((val M:Int)-((y*2^(p+32*k):Nat):Int))%(PB:Int)∧But w.heap.size wr w'):=⟨hM',hMw',hMl',hv',hb'⟩;clear hM hMw hMl hMs hbut hM' hMl' hMw' hv' hb';go_wp2
      go_roundg (gk-1)
      case measure=>omega
      case rel =>
       obtain ⟨hM',hMw',hMl',hv',hb'⟩:=HA'.out;obtain ⟨hM,hMw,hMl,hMs,hbut⟩:=HA.out;refine ⟨k+1,M',by omega,by simp,hM',hMw',hMl',?_,hbut.trans hb'⟩
       rw [with_step xs k p (by rw [←HR.out.2.2.len];exact hk),HX.out,sgn_add,←Int.add_assoc,←emod_add',←hMs,hv']
       simp only [sgn7,if_true,Int.sub_eq_add_neg]
  · obtain rfl:k=n:=by omega
    obtain ⟨hM,hMw,hMl,hMs,hbut⟩:=HA.out;obtain ⟨b3,_,T3,Z3,s3⟩:=H3.out;have HZ:Aside (Bl wr (w.heap.size+1+1) 91 (List.replicate 133 (Value.int .u32 0))):=Z3.but hbut (by omega)
    have HB:Aside (Below w.heap.size w w3∧w3.heap.size=w.heap.size+3):=⟨b3,s3⟩;clear hM hMw hMl hMs hbut b3 T3 Z3 s3
    go_wp2_with (first
     | (with_reducible refine wpList_load_mid (P:=Tryz.prog) rfl 91 (.tmp 2) rfl w.heap.size 0 rfl (M.map U) _ (HA.out.1.bl.range 0 _ (fun j v hv=>by simpa using hv)) Tryz.desc_words rfl (by simp [Tryz.size_words,HA.out.2.2.1]) ?_)
     | (with_reducible refine wpList_store_mid (P:=Tryz.prog) rfl 91 (.tmp 4) (.tmp 32) rfl (w.heap.size+1+1) 0 (M.map U).toArray rfl rfl (HZ.out.there 0 _ (by simp [HA.out.2.2.1])) (by simp [Tryz.size_words,HA.out.2.2.1]) (oneCell_U M) ?_))
    have hZ:Bl (wr.setCells (w.heap.size+1+1) 0 (M.map U)) (w.heap.size+1+1) 91 (M.map U):=HZ.out.setAll (by simp [HA.out.2.2.1])
    refine bodyPost_ret (v:=.agg (M.map U).toArray) (results_cell_row (P:=Tryz.prog) Tryz.results108 _ _ (w.heap.size+1+1) 91 _ _ _ rfl hZ Tryz.desc_words rfl (by simp [Tryz.size_words,HA.out.2.2.1])) rfl ?_
    obtain ⟨hM,hMw,hMl,hMs,hbut⟩:=HA.out;obtain ⟨b3,s3⟩:=HB.out;refine ⟨M,rfl,hMl,hMw,?_,?_⟩
    · rw [hMs,List.take_of_length_le (by rw [←HR.out.2.2.len];exact Nat.le_refl _)]
    · exact But.below (But.below b3 hbut (by omega) (Nat.le_refl _)) (But.setCells _ _ (But.refl _ _)) (by have:=hbut.size;omega) (by omega)
def Hd (w:World) (g:Nat) (L:List Nat):Prop:=g<w.heap.size∧∀ i,i<L.length→w.cell? ⟨g,i,none⟩=some (.int .u32 ((L.getD i 0:Nat):Int))
theorem Hd.below {w w':World}{g B:Nat}{L:List Nat}(h:Hd w g L) (hb:Below B w w') (hg:g<B) (hB:B≤w.heap.size):Hd w' g L :=
 ⟨by have:=hb.size;omega,fun i hi=>(hb.cell (p:=⟨g,i,none⟩) hg).trans (h.2 i hi)⟩
theorem Bl.hd {w:World}{g T:Nat}{L:List Nat}{C:List Value}(h:Bl w g T (L.map U++C)):Hd w g L :=
 ⟨h.lt,fun i hi=>h.cell i _ (by rw [List.getElem?_append_left (by simpa using hi)];simp [U,List.getD_eq_getElem?_getD,List.getElem?_eq_getElem hi])⟩
theorem Wb.hd {w:World}{g:Nat}{L:List Nat}(h:Wb w g L):Hd w g L:=⟨h.lt,fun i hi=>h.cell i hi⟩
theorem Tryz.plain_u32:Tryz.prog.plainKey 89=true:=by kernel_rfl
theorem Tryz.cells_u32:Tryz.prog.cellsOf 89=1:=by kernel_rfl
theorem Tryz.under_u32:Tryz.prog.underlying 89=some (.int .u32):=by kernel_rfl
theorem Tryz.there_u32:(Tryz.prog.info? 89).isSome=true:=by kernel_rfl
theorem eq_items (L K:List Nat) (d:Nat) (w:World):∀ (is:List Nat),(∀ i ∈ is,i<L.length∧i<K.length) →
 (Op.eqItems (d+1) 89 1 (L.map U).toArray (K.map U).toArray is).run Tryz.prog w=.ok (decide (∀ i ∈ is,L.getD i 0=K.getD i 0)) w
 | [],_=>by simp [Op.eqItems]
 | i::is,h=>by
   obtain ⟨h1,h2⟩:=h i (by simp)
   have ih:=eq_items L K d w is (fun j hj=>h j (by simp [hj]))
   have p1:(part 89 (L.map U).toArray (i*1)).run Tryz.prog w=.ok (.int .u32 ((L.getD i 0:Nat):Int)) w :=
    run_part_plain _ Tryz.plain_u32 (by simp [U,List.getD_eq_getElem?_getD,List.getElem?_eq_getElem h1])
   have p2:(part 89 (K.map U).toArray (i*1)).run Tryz.prog w=.ok (.int .u32 ((K.getD i 0:Nat):Int)) w :=
    run_part_plain _ Tryz.plain_u32 (by simp [U,List.getD_eq_getElem?_getD,List.getElem?_eq_getElem h2])
   simp only [Op.eqItems,Sem.run_bind,p1,p2,Result.andThen_ok,run_equalIn_int w d 89 .u32 .u32 _ _ Tryz.under_u32]
   by_cases e:L.getD i 0=K.getD i 0
   · rw [e]
     simp only [beq_self_eq_true,Bool.not_true];rw [if_neg (by decide),ih]
     simp only [List.mem_cons,forall_eq_or_imp,e,true_and]
   · have e2:(((L.getD i 0:Nat):Int)==((K.getD i 0:Nat):Int))=false:=by simp only [beq_eq_false_iff_ne,ne_eq];omega
     rw [e2];simp only [List.mem_cons,forall_eq_or_imp,e,false_and,decide_false,Bool.not_false,if_true,Sem.run_pure]
theorem eq_words (L K:List Nat) (w:World) (hl:L.length=133) (hk:K.length=133) :
 (Op.equalIn 10000 91 (.agg (L.map U).toArray) (.agg (K.map U).toArray)).run Tryz.prog w=.ok (decide (L=K)) w:=by
 obtain ⟨i,hi⟩:=Option.isSome_iff_exists.1 Tryz.there_u32;rw [show (10000:Nat)=9999+1 by rfl,run_equalIn_array _ 9999 _ _ Tryz.desc_words hi,Tryz.cells_u32,show (9999:Nat)=9998+1 by rfl,eq_items L K 9998 w (List.range 133) (fun i hi=>by simp at hi;omega)]
 congr 1
 rw [decide_eq_decide]
 constructor
 · intro h
   apply List.ext_getElem (by omega)
   intro i h1 h2;have:=h i (by simp;omega)
   simpa [List.getD_eq_getElem?_getD,List.getElem?_eq_getElem h1,List.getElem?_eq_getElem h2] using this
 · rintro rfl i _;rfl
def lowL:List Nat:=List.replicate 132 0++[4294950912]
theorem Tryz.low_words:Tryz.zeroCells91.setIfInBounds 132 (Value.int IntKind.u32 4294950912)=(lowL.map U).toArray:=by kernel_rfl
theorem lowL_len:lowL.length=133:=by simp [lowL]
theorem Tryz.nought_words:Tryz.zeroCells91=((List.replicate 133 0).map U).toArray:=by kernel_rfl
theorem below_lo (g t:Nat) (w:World) (hc:w.cell? ⟨g,132,none⟩=some (.int .u32 (t:Nat))) (ht:t<2147483648) :
 Calls Tryz.prog 64 #[.pointer (some ⟨g,0,none⟩)] w fun r w'=>r=.returned (.bool false)∧w'=w:=by
 go_enter Tryz.func64,Tryz.ntmps64;go_wp2;refine bodyPost_ret (v:=.bool false) (by simp [results,Tryz.results64,go_sem]) rfl ⟨rfl,rfl⟩
theorem below_hi (g t:Nat) (w:World) (hc:w.cell? ⟨g,132,none⟩=some (.int .u32 (t:Nat))) (ht0:2147483648≤t) (ht:t<4294967296) :
 Calls Tryz.prog 64 #[.pointer (some ⟨g,0,none⟩)] w fun r w'=>r=.returned (.bool true)∧w'=w:=by
 have hw:wrap32 (t:Int)=(t:Int)-4294967296:=by unfold wrap32;omega
 go_enter Tryz.func64,Tryz.ntmps64;go_wp2;refine bodyPost_ret (v:=.bool true) (by simp [results,Tryz.results64,go_sem];omega) rfl ⟨rfl,rfl⟩
theorem beyond_lo (g t:Nat) (w:World) (hc:w.cell? ⟨g,132,none⟩=some (.int .u32 (t:Nat))) (ht:t<16384) :
 Calls Tryz.prog 132 #[.pointer (some ⟨g,0,none⟩)] w fun r w'=>r=.returned (.bool false)∧w'=w:=by
 have hw:((t:Int)/16384==0)=true:=by simp;omega
 go_enter Tryz.func132,Tryz.ntmps132;go_wp2;refine bodyPost_ret (v:=.bool false) (by simp [results,Tryz.results132,go_sem]) rfl ⟨rfl,rfl⟩
theorem beyond_mid (g t:Nat) (w:World) (hc:w.cell? ⟨g,132,none⟩=some (.int .u32 (t:Nat))) (ht0:16384≤t) (ht:t<4294950912) :
 Calls Tryz.prog 132 #[.pointer (some ⟨g,0,none⟩)] w fun r w'=>r=.returned (.bool true)∧w'=w:=by
 have hw0:(wrap32 (t:Int)/16384==0)=false:=by simp;unfold wrap32;omega
 have hw1:(wrap32 (t:Int)/16384==-1)=false:=by simp;unfold wrap32;omega
 go_enter Tryz.func132,Tryz.ntmps132;go_wp2;refine bodyPost_ret (v:=.bool true) (by simp [results,Tryz.results132,go_sem]) rfl ⟨rfl,rfl⟩
theorem beyond_hi (g t:Nat) (L:List Nat) (w:World) (hc:w.cell? ⟨g,132,none⟩=some (.int .u32 (t:Nat))) (hr:w.rangeAt g 0 (L.map U)) (hl:L.length=133) (ht0:4294950912≤t) (ht:t<4294967296) :
 Calls Tryz.prog 132 #[.pointer (some ⟨g,0,none⟩)] w fun r w'=>r=.returned (.bool (decide (L=lowL)))∧w'=w:=by
 have hw0:(wrap32 (t:Int)/16384==0)=false:=by simp;unfold wrap32;omega
 have hw1:(wrap32 (t:Int)/16384==-1)=true:=by simp;unfold wrap32;omega
 have HL:Aside (L.length=133∧w.rangeAt g 0 (L.map U)):=⟨hl,hr⟩;clear hl hr;go_enter Tryz.func132,Tryz.ntmps132
 go_wp2_with (first | (with_reducible refine wpList_load_mid (P:=Tryz.prog) rfl 91 (.tmp 14) rfl g 0 rfl (L.map U) _ HL.out.2 Tryz.desc_words rfl (by simp [Tryz.size_words,HL.out.1]) ?_))
 rw [Tryz.low_words,eq_words L _ w HL.out.1 lowL_len];generalize hb:decide (L=lowL)=b;generalize hK:lowL=K at hb;have HK:Aside (decide (L=lowL)=b):=by rw [hK];exact hb
 clear hb hK;simp only [Result.andThen_ok,Oper.upon];go_wp2;exact bodyPost_ret (v:=.bool b) (by simp [results,Tryz.results132,go_sem]) rfl ⟨by rw [HK.out],rfl⟩
def HB:Nat:=16384*pw 132
theorem HB_pos:0<HB:=Nat.mul_pos (by decide) (pw_pos _)
theorem PB_top:PB=4294967296*pw 132:=by unfold PB;exact pw_succ 132
attribute [irreducible] HB
theorem HB_eq:HB=16384*pw 132:=by unfold HB;rfl
theorem top_val (L:List Nat) (hl:L.length=133) (hL:Wf L):∃ r,r<pw 132∧val L=r+pw 132*L.getD 132 0:=by
 refine ⟨val (L.take 132),?_,?_⟩
 · have:=val_lt (L.take 132) (hL.take 132)
   rwa [show (L.take 132).length=132 by simp;omega] at this
 · have h:=val_take_succ L 132 (by omega)
   rwa [List.take_of_length_le (by omega)] at h
theorem val_lowL:val lowL=4294950912*pw 132:=by
 unfold lowL;rw [val_append,val_zeros,List.length_replicate,Nat.zero_add,Nat.mul_comm];rfl
theorem wf_lowL:Wf lowL:=by
 intro y hy;unfold lowL at hy
 rcases List.mem_append.1 hy with h|h
 · have:=List.eq_of_mem_replicate h;omega
 · have:=List.mem_singleton.1 h;omega
theorem val_inj {L K:List Nat}(hl:L.length=K.length) (hL:Wf L) (hK:Wf K) (h:val L=val K):L=K:=by
 induction L generalizing K with
 | nil=>cases K <;> simp_all
 | cons x xs ih =>
   cases K with
   | nil=>simp at hl
   | cons y ys =>
     simp only [val] at h;have h1:=hL.head;have h2:=hK.head;have e1:x=y:=by omega
     have e2:val xs=val ys:=by omega
     rw [e1,ih (by simpa using hl) hL.tail hK.tail e2]
def neg7 (N:Nat):Bool:=decide (PB≤2*N)
theorem below_any (g:Nat) (L:List Nat) (w:World) (hl:L.length=133) (hL:Wf L) (hH:Hd w g L) :
 Calls Tryz.prog 64 #[.pointer (some ⟨g,0,none⟩)] w fun r w'=>r=.returned (.bool (neg7 (val L)))∧w'=w:=by
 have hc:=hH.2 132 (by omega)
 obtain ⟨r,hr,hv⟩:=top_val L hl hL;have ht:=hL.get 132;generalize L.getD 132 0=t at hc hv ht;have h0:=pw_pos 132
 by_cases h:t<2147483648
 · have e:neg7 (val L)=false:=by
    unfold neg7;rw [decide_eq_false_iff_not,hv,PB_top];generalize pw 132=q at hr h0 ⊢;have:q*t≤q*2147483647:=Nat.mul_le_mul_left _ (by omega)
    omega
   rw [e];exact below_lo g t w hc h
 · have e:neg7 (val L)=true:=by
    unfold neg7;rw [decide_eq_true_iff,hv,PB_top];generalize pw 132=q at hr h0 ⊢;have:q*2147483648≤q*t:=Nat.mul_le_mul_left _ (by omega)
    omega
   rw [e];exact below_hi g t w hc (by omega) ht
def bey (N:Nat):Bool:=decide (HB≤N∧N≤PB-HB)
theorem beyond_any (g:Nat) (L:List Nat) (w:World) (hl:L.length=133) (hL:Wf L) (hH:Hd w g L) :
 Calls Tryz.prog 132 #[.pointer (some ⟨g,0,none⟩)] w fun r w'=>r=.returned (.bool (bey (val L)))∧w'=w:=by
 have hc:=hH.2 132 (by omega)
 obtain ⟨r,hr,hv⟩:=top_val L hl hL;have ht:=hL.get 132
 have hg:w.rangeAt g 0 (L.map U):=fun j v hj=>by
  have hj2:j<L.length:=by have:=(List.getElem?_eq_some_iff.1 hj).1;simpa using this
  rw [Nat.zero_add,hH.2 j hj2,←hj,List.getElem?_map,List.getElem?_eq_getElem hj2,List.getD_eq_getElem?_getD,List.getElem?_eq_getElem hj2]
  rfl
 generalize htt:L.getD 132 0=t at hc hv ht;have h0:=pw_pos 132;have eP:=PB_top;have eH:=HB_eq;have eL:=val_lowL;generalize pw 132=q at hr h0 hv eP eH eL
 by_cases h:t<16384
 · have e:bey (val L)=false:=by
    unfold bey;rw [decide_eq_false_iff_not,hv];have:q*t≤q*16383:=Nat.mul_le_mul_left _ (by omega)
    omega
   rw [e];exact beyond_lo g t w hc h
 by_cases h2:t<4294950912
 · have e:bey (val L)=true:=by
    unfold bey;rw [decide_eq_true_iff,hv];have a1:q*16384≤q*t:=Nat.mul_le_mul_left _ (by omega)
    have a2:q*t≤q*4294950911:=Nat.mul_le_mul_left _ (by omega)
    omega
   rw [e];exact beyond_mid g t w hc (by omega) h2
 · have e:bey (val L)=decide (L=lowL):=by
    unfold bey;rw [decide_eq_decide]
    constructor
    · intro hb
      have a1:q*4294950912≤q*t:=Nat.mul_le_mul_left _ (by omega)
      refine val_inj (by rw [hl,lowL_len]) hL wf_lowL ?_
      rw [eL];omega
    · rintro rfl
      rw [eL];omega
   rw [e];exact beyond_hi g t L w hc hg hl (by omega) ht
theorem Tryz.desc_row:Tryz.prog.underlying 64=some (.slice 89):=by kernel_rfl
theorem clone_any (b n c:Nat) (L:List Nat) (w:World) (hl:L.length=n) (hn:n≤1000) (hH:Hd w b L) :
 Calls Tryz.prog 99 #[.slice (some ⟨b,0,none⟩) n c] w fun r w'=>∃ v',r=.returned v'∧w'.ownsRow w.heap.size 89 1 v' n (L.map U)∧v'≠.slice none 0 0∧Below w.heap.size w w':=by
 obtain ⟨i0,hi,hz0,hz1,hz2⟩:=info_parts Tryz.info89;have q64:∀ (w:World) (a:Option Addr) (n c n' c':Nat),(binOp .eql 64 (.slice a n c) (.slice none n' c')).run Tryz.prog w=.ok (.bool a.isNone) w:=fun w a n c n' c'=>Lib.run_eql_slice_nil w _ _ a n c n' c' Tryz.desc_row
 have A:Aside (L.length=n∧Hd w b L):=⟨hl,hH⟩;clear hl hH;go_enter Tryz.func99,Tryz.ntmps99
 go_wp2_with (at_builtin;refine wpList_append_own _ rfl _ _ 64 rfl w.heap.size 89 i0 (.int .u32 0) 1 4 Tryz.desc_row hi hz0 hz1 hz2 rfl (by decide) _ _ _ rfl (World.ownsRow_made w #[] 0 (Nat.le_refl _) (Nat.zero_le _) (by simp)) ⟨b,0,none⟩ n c (L.map U) rfl ?qc1 ?qc2 ?qc3 ?qc4 ?qc5 ?qc6 ?_)
 case qc1=>simp [A.out.1]
 case qc2 =>
  intro j u hj;have hj2:j<L.length:=by have:=(List.getElem?_eq_some_iff.1 hj).1;simpa using this
  rw [Addr.add_lit];refine Lib.cell?_alloc_some _ ?_
  rw [Nat.zero_add,A.out.2.2 j hj2,←hj,List.getElem?_map,List.getElem?_eq_getElem hj2,List.getD_eq_getElem?_getD,List.getElem?_eq_getElem hj2]
  rfl
 case qc3=>intro u hu;obtain ⟨x,_,rfl⟩:=List.mem_map.1 hu;rfl
 case qc4=>unfold maxLen;omega
 case qc5=>omega
 case qc6=>simp
 intro v' w1 hown hgrow hnil;go_wp2;go_ret;refine ⟨v',rfl,by simpa using hown,hnil,?_⟩
 exact ((Below.refl _ w).alloc (Nat.le_refl _) _).grown hgrow (by simp) (by intro k hk;simp [Value.ownBlock] at hk;omega)
theorem xor32s (a b:Nat) (ha:a<4294967296) (hb:b<4294967296):bits .xor .u32 (a:Int) (b:Int)=((a ^^^ b:Nat):Int):=by
 have hx:a ^^^ b<2^32:=Nat.xor_lt_two_pow (by omega) (by omega)
 show IntKind.u32.wrap ((BitVec.ofInt 32 (a:Int) ^^^ BitVec.ofInt 32 (b:Int)).toNat:Int)=_
 rw [BitVec.toNat_xor,ofInt32 a ha,ofInt32 b hb,wrap_u32n];omega
theorem xor_max (x:Nat) (h:x<4294967296):bits BinOp.xor IntKind.u32 IntKind.u32.max (x:Int)=((4294967295-x:Nat):Int):=by
 have e:IntKind.u32.max=((4294967295:Nat):Int):=by decide
 rw [e,xor32s _ _ (by decide) h]
 congr 1
 have h1:(BitVec.allOnes 32 ^^^ BitVec.ofNat 32 x)= ~~~ (BitVec.ofNat 32 x):=BitVec.allOnes_xor;have h2:=congrArg BitVec.toNat h1;simp only [BitVec.toNat_xor,BitVec.toNat_allOnes,BitVec.toNat_not,BitVec.toNat_ofNat] at h2;rw [Nat.mod_eq_of_lt (by omega)] at h2
 exact h2
theorem turn_step (M L:List Nat) (k c s d:Nat) (hM:M.length=133) (hL:L.length=133) (hk:k<133) (hx:L.getD k 0<4294967296) (ho:∀ j,k≤j→M.getD j 0=L.getD j 0) (e:s+d*4294967296=c+(4294967295-L.getD k 0)) (h:sg M 0 k+c*pw k+sg L 0 k=pw k) :
 sg (M.set k s) 0 (k+1)+d*pw (k+1)+sg L 0 (k+1)=pw (k+1):=by
 have h1:=sg_set_last M 0 k s (by omega)
 rw [Nat.zero_add] at h1;rw [h1,sg_succ L 0 k (by omega),Nat.zero_add,pw_succ]
 have e2:(s+d*4294967296+L.getD k 0)*pw k=(c+4294967295)*pw k:=by congr 1;omega
 simp only [Nat.add_mul,Nat.mul_assoc] at e2;rw [Nat.mul_comm (pw k) s,Nat.mul_comm (pw k) (L.getD k 0)];omega
theorem turn_any (L:List Nat) (lo g cap:Nat) (w:World) (hl:L.length=133) (hL:Wf L) (hR:w.ownsRow lo 89 1 (.slice (some ⟨g,0,none⟩) 133 cap) 133 (L.map U)) :
 Calls Tryz.prog 100 #[.slice (some ⟨g,0,none⟩) 133 cap] w fun r w' =>
  r=.returned (.tuple #[])∧∃ M,w'.ownsRow lo 89 1 (.slice (some ⟨g,0,none⟩) 133 cap) 133 (M.map U)∧M.length=133∧Wf M∧val M=(PB-val L)%PB∧But g w w':=by
 have HR:Aside (Wf L∧L.length=133∧w.ownsRow lo 89 1 (.slice (some ⟨g,0,none⟩) 133 cap) 133 (L.map U)):=⟨hL,hl,hR⟩;clear hL hl hR;go_enter Tryz.func100,Tryz.ntmps100;go_wp2
 go_loopg [2,7] 133 (fun gk c i wr=>∃ (k cv:Nat) (M:List Nat),gk+k=133∧i=.int .i64 (k:Nat)∧c=.int .u64 (cv:Nat)∧cv<2 ∧
  Hid (wr.ownsRow lo 89 1 (.slice (some ⟨g,0,none⟩) 133 cap) 133 (M.map U))∧Aside (Wf M∧M.length=133∧(∀ j,k≤j→M.getD j 0=L.getD j 0)∧sg M 0 k+cv*pw k+sg L 0 k=pw k∧But g w wr))
 case atStart=>exact ⟨0,1,L,by omega,by simp,by simp,by omega,HR.out.2.2,HR.out.1,HR.out.2.1,fun _ _=>rfl,by simp [sg_zero],But.refl _ _⟩
 case round =>
  obtain ⟨k,cv,M,hgk,rfl,rfl,hcv,HM,HA⟩:=hrel
  by_cases hk:k<133
  · obtain ⟨hL,hl,hR⟩:=HR.out
    obtain ⟨hMw,hMl,hMo,hMs,hbut⟩:=HA.out
    have hgc:wr.cell? ⟨g,k,none⟩=some (.int .u32 ((M.getD k 0:Nat):Int)):=by
     rw [HM.out.cellAt k (by omega)];simp [U,List.getD_eq_getElem?_getD,List.getElem?_eq_getElem (show k<M.length by omega)]
    have hgf:=HM.out.frozenAt k;obtain ⟨x,hx⟩:∃ x:Nat,M.getD k 0=x:=⟨_,rfl⟩;have hxl:x<4294967296:=hx ▸ hMw.get _;rw [hx] at hgc;obtain ⟨y,hy⟩:∃ y:Nat,y=4294967295-x:=⟨_,rfl⟩;have e1:bits BinOp.xor IntKind.u32 IntKind.u32.max (x:Int)=(y:Int):=by rw [xor_max x hxl,hy]
    have hyl:y<4294967296:=by omega
    have HX:Aside (M.getD k 0=x∧y=4294967295-x):=⟨hx,hy⟩;clear hy;clear hx hL hl hR hMw hMl hMo hMs hbut;obtain ⟨gk,rfl⟩:∃ k,gk=k+1:=⟨gk-1,by omega⟩
    go_wp2
    go_roundg gk
    case measure=>omega
    case rel =>
     obtain ⟨hL,hl,hR⟩:=HR.out;obtain ⟨hMw,hMl,hMo,hMs,hbut⟩:=HA.out;obtain ⟨hx,hy⟩:=HX.out;have e2:((cv:Int)+(y:Int))%4294967296=(((cv+y)%4294967296:Nat):Int):=by omega
     have e3:((cv:Int)+(y:Int))/4294967296=(((cv+y)/4294967296:Nat):Int):=by omega
     rw [wrap_u64n (y:Int) (by omega) (by omega),wrap_u64n ((cv:Int)+(y:Int)) (by omega) (by omega),e2]
     refine ⟨k+1,(cv+y)/4294967296,M.set k ((cv+y)%4294967296),by omega,by simp,by rw [e3],by omega,?_,hMw.set _ _ (Nat.mod_lt _ (by decide)),by simp [hMl],fun j hj=>by rw [getD_set_ne _ _ _ _ (by omega)];exact hMo j (by omega),?_,hbut.set k _⟩
     · rw [List.map_set];exact (HM.out.stored k _).1
     · have hLx:L.getD k 0=x:=by rw [←hMo k (Nat.le_refl _)];exact hx
       exact turn_step M L k cv _ _ hMl hl hk (by omega) hMo (by rw [hLx];omega) hMs
  · obtain rfl:k=133:=by omega
    go_wp2;refine bodyPost_end (v:=.tuple #[]) (by simp [results,Tryz.results100,go_sem]) rfl ?_
    obtain ⟨hMw,hMl,hMo,hMs,hbut⟩:=HA.out;refine ⟨rfl,M,HM.out,hMl,hMw,?_,hbut⟩;have a1:=sg_all M;have a2:=sg_all L;rw [hMl] at a1;rw [HR.out.2.1] at a2;rw [a1,a2] at hMs;have hb:=val_lt_PB hMl hMw;have eP:pw 133=PB:=by unfold PB;rfl
    rw [eP] at hMs;have h2:PB-val L=val M+PB*cv:=by rw [Nat.mul_comm];omega
    rw [h2,Nat.add_mul_mod_self_left,Nat.mod_eq_of_lt hb]
def mag7 (N:Nat):Nat:=if neg7 N then PB-N else N
theorem row_arg {w:World}{lo cap:Nat}{L:List Nat}{g:Nat}(h:w.ownsRow lo 89 1 (.slice (some ⟨g,0,none⟩) 133 cap) 133 (L.map U)) (hl:L.length=133) (hL:Wf L):Arg w (some ⟨g,0,none⟩) 133 cap L:=by
 have hg:g<w.heap.size:=(h.lt g rfl).2
 have hc:133≤cap:=by
  rcases h.2 with ⟨h',_⟩|⟨g',cap',cur,h',_,_,hn,_⟩
  · simp at h'
  · simp only [Value.slice.injEq,Option.some.injEq,Addr.mk.injEq,and_true,true_and] at h'
    omega
 refine ⟨hl.symm,hc,by decide,hL,fun _=>⟨g,0,hg,rfl,fun i hi=>?_⟩,fun e=>by cases e⟩
 rw [Nat.zero_add,h.cellAt i (by omega),List.getElem?_map,List.getElem?_eq_getElem hi,List.getD_eq_getElem?_getD,List.getElem?_eq_getElem hi]
 rfl
theorem size7_any (L:List Nat) (g:Nat) (w:World) (hl:L.length=133) (hL:Wf L) (hH:Hd w g L) :
 Calls Tryz.prog 65 #[.pointer (some ⟨g,0,none⟩)] w fun r w' =>
  ∃ b cap M,r=.returned (.slice (some ⟨b,0,none⟩) 133 cap)∧Arg w' (some ⟨b,0,none⟩) 133 cap M∧val M=mag7 (val L)∧Below w.heap.size w w':=by
 have HR:Aside (Wf L∧L.length=133∧Hd w g L):=⟨hL,hl,hH⟩;clear hL hl hH;go_enter Tryz.func65,Tryz.ntmps65
 go_wp2_with fail
 refine Calls.mono (clone_any g 133 133 L w HR.out.2.1 (by decide) HR.out.2.2) ?_
 rintro r w1 ⟨v',rfl,hown,hnn,hb1⟩;have HO:Aside (w1.ownsRow w.heap.size 89 1 v' 133 (L.map U)∧Below w.heap.size w w1):=⟨hown,hb1⟩
 obtain ⟨b,cap,rfl⟩:∃ b cap,v'=.slice (some ⟨b,0,none⟩) 133 cap:=by
  rcases hown.2 with ⟨_,h⟩|⟨g',cap',cur,h,_⟩
  · cases h
  · exact ⟨g',cap',h⟩
 clear hown hnn hb1
 go_wp2_with fail
 obtain ⟨hL,hl,hH⟩:=HR.out;refine Calls.mono (below_any g L w1 hl hL (hH.below HO.out.2 hH.1 (Nat.le_refl _))) ?_;rintro r w2 ⟨rfl,rfl⟩;clear hL hl hH
 cases hn:neg7 (val L)
 · have HN:Aside (neg7 (val L)=false):=hn
   clear hn;go_wp2;go_ret;obtain ⟨hL,hl,hH⟩:=HR.out;exact ⟨b,cap,L,rfl,row_arg HO.out.1 hl hL,by unfold mag7;rw [HN.out];rfl,HO.out.2⟩
 · have HN:Aside (neg7 (val L)=true):=hn
   clear hn
   go_wp2_with fail
   obtain ⟨hL,hl,hH⟩:=HR.out;refine Calls.mono (turn_any L w.heap.size b cap w2 hl hL HO.out.1) ?_;rintro r w3 ⟨rfl,M,hM,hMl,hMw,hMv,hbut⟩;have HM:Aside (w3.ownsRow w.heap.size 89 1 (.slice (some ⟨b,0,none⟩) 133 cap) 133 (M.map U)∧M.length=133∧Wf M∧val M=(PB-val L)%PB∧But b w2 w3):=⟨hM,hMl,hMw,hMv,hbut⟩;clear hL hl hH hM hMl hMw hMv hbut;go_wp2;go_ret;obtain ⟨hM,hMl,hMw,hMv,hbut⟩:=HM.out;refine ⟨b,cap,M,rfl,row_arg hM hMl hMw,?_,But.below HO.out.2 hbut HO.out.2.size (HO.out.1.lt b rfl).1⟩;unfold mag7;rw [HN.out,hMv,if_pos rfl,Nat.mod_eq_of_lt];have h1:PB≤2*val L:=of_decide_eq_true HN.out;have:=PB_pos;omega
theorem But.of_bel {g:Nat}{a w w':World}(h:But g a w) (hb:Below w.heap.size w w'):But g a w' :=
 h.trans ⟨hb.os,hb.tape,hb.output,hb.size,fun k hk _=>hb.block k hk⟩
structure Sp where
 (n u d m p a:Int)
def Sp.cells (s:Sp):List Value:=[.int .i64 s.n,.int .i64 s.u,.int .i64 s.d,.int .i64 s.m,.int .i64 s.p,.int .i64 s.a]
def Sp.agg (s:Sp):Value:=.agg #[.int .i64 s.n,.int .i64 s.u,.int .i64 s.d,.int .i64 s.m,.int .i64 s.p,.int .i64 s.a]
def Ac (w:World) (g:Nat) (L:List Nat) (s:Sp):Prop:=Bl w g 93 (L.map U++s.cells)
theorem Ac.lt {w:World}{g:Nat}{L:List Nat}{s:Sp}(h:Ac w g L s):g<w.heap.size:=Bl.lt h
theorem Ac.hd {w:World}{g:Nat}{L:List Nat}{s:Sp}(h:Ac w g L s):Hd w g L:=Bl.hd h
theorem Ac.cell {w:World}{g:Nat}{L:List Nat}{s:Sp}(h:Ac w g L s) (hl:L.length=133) (k:Nat) (v:Value) (hk:s.cells[k]?=some v):w.cell? ⟨g,133+k,none⟩=some v :=
 Bl.cell h _ _ (by rw [List.getElem?_append_right (by simp;omega)];simpa [hl] using hk)
theorem Ac.frozen {w:World}{g:Nat}{L:List Nat}{s:Sp}(h:Ac w g L s) (k:Nat):w.frozen? ⟨g,k,none⟩=false:=Bl.frozen h k
theorem Ac.below {w w':World}{g B:Nat}{L:List Nat}{s:Sp}(h:Ac w g L s) (hb:Below B w w') (hg:g<B):Ac w' g L s:=Bl.below h hb hg
theorem Ac.drew {w:World}{g:Nat}{L:List Nat}{s:Sp}(h:Ac w g L s):Ac w.drew g L s:=h
theorem Ac.alloc {w:World}{g:Nat}{L:List Nat}{s:Sp}(h:Ac w g L s) (o:Obj):Ac (w.alloc o) g L s:=Bl.alloc h o
theorem Ac.there {w:World}{g:Nat}{L:List Nat}{s:Sp}(h:Ac w g L s) (hl:L.length=133):w.there g 0 133:=Bl.there h 0 133 (by simp [hl])
theorem Ac.range {w:World}{g:Nat}{L:List Nat}{s:Sp}(h:Ac w g L s):w.rangeAt g 0 (L.map U):=Bl.range h 0 _ (fun j v hv=>by
 rw [Nat.zero_add,List.getElem?_append_left (List.getElem?_eq_some_iff.1 hv).1];exact hv)
theorem oneCell_Ul (L:List Nat):∀ v ∈ L.map U,v.oneCell'=true:=fun v hv=>by
 obtain ⟨x,_,rfl⟩:=List.mem_map.1 hv;rfl
theorem become_yes (g:Nat) (L M:List Nat) (s t:Sp) (w:World) (hA:Ac w g L s) (hl:L.length=133) (hM:Wf M) (hm:M.length=133) (hb:bey (val M)=false) :
 Calls Tryz.prog 107 #[.pointer (some ⟨g,0,none⟩),.agg (M.map U).toArray,t.agg] w fun r w' =>
  r=.returned (.int .i64 0)∧Ac w' g M t∧But g w w':=by
 obtain ⟨tn,tu,td,tm,tp,ta⟩:=t;simp only [Sp.agg];have HR:Aside (Ac w g L s∧L.length=133∧Wf M∧M.length=133∧bey (val M)=false):=⟨hA,hl,hM,hm,hb⟩;clear hA hl hM hm hb;go_enter Tryz.func107,Tryz.ntmps107
 go_wp2_with fail
 obtain ⟨w2,hw2⟩:∃ w2,w2=((w.alloc (Obj.cells (M.map U).toArray 91)).alloc (Obj.cells #[.int .i64 tn,.int .i64 tu,.int .i64 td,.int .i64 tm,.int .i64 tp,.int .i64 ta] 59)):=⟨_,rfl⟩;rw [←hw2]
 have H2:Aside (Ac w2 g L s∧Wb w2 w.heap.size M∧Bl w2 (w.heap.size+1) 59 [.int .i64 tn,.int .i64 tu,.int .i64 td,.int .i64 tm,.int .i64 tp,.int .i64 ta]∧Below w.heap.size w w2∧g<w.heap.size):=by
  subst hw2;refine ⟨(HR.out.1.alloc _).alloc _,((Bl.new w 91 (M.map U)).alloc _).wb,Bl.new' _ 59 _ [_,_,_,_,_,_] (by simp),(bel_alloc w _).trans ((bel_alloc _ _).mono (by simp)),HR.out.1.lt⟩
 clear hw2;refine Calls.mono (beyond_any w.heap.size M w2 HR.out.2.2.2.1 HR.out.2.2.1 H2.out.2.1.hd) ?_;rintro r w3 ⟨rfl,rfl⟩;rw [HR.out.2.2.2.2];go_wp2;have hne1:g≠w.heap.size:=Nat.ne_of_lt H2.out.2.2.2.2;have hne2:g≠w.heap.size+1:=by have:=H2.out.2.2.2.2;omega
 have hu:=Tryz.desc_words;have hsz:(Tryz.prog.info? 91).map (·.size)=some (M.map U).length:=by rw [Tryz.size_words,List.length_map,HR.out.2.2.2.1]
 have hlen:(M.map U).length=133:=by rw [List.length_map,HR.out.2.2.2.1]
 have hone:=oneCell_Ul M;obtain ⟨A2,B2,C2,_,hlt⟩:=H2.out;have hB0:But g w3 (w3.drew):=(But.refl _ _).drew;have hB1:But g w3 (w3.drew.setCells g 0 (M.map U)):=But.setCells _ _ hB0;have hB2:But g w3 (((((((w3.drew.setCells g 0 (M.map U)).setCell ⟨g,133,none⟩ (.int .i64 tn)).setCell ⟨g,134,none⟩ (.int .i64 tu)).setCell ⟨g,135,none⟩ (.int .i64 td)).setCell ⟨g,136,none⟩ (.int .i64 tm)).setCell ⟨g,137,none⟩ (.int .i64 tp)).setCell ⟨g,138,none⟩ (.int .i64 ta)):=(((((hB1.set _ _).set _ _).set _ _).set _ _).set _ _).set _ _
 have hA1:Bl (w3.drew.setCells g 0 (M.map U)) g 93 (M.map U++s.cells):=by
  have:=Bl.setCells (M.map U) 0 A2.drew (by simp [HR.out.2.1,HR.out.2.2.2.1])
  rw [List.take_zero,List.nil_append,Nat.zero_add,List.drop_left' (by simp [HR.out.2.1,HR.out.2.2.2.1])] at this
  exact this
 have hA2:Bl (((((((w3.drew.setCells g 0 (M.map U)).setCell ⟨g,133,none⟩ (.int .i64 tn)).setCell ⟨g,134,none⟩ (.int .i64 tu)).setCell ⟨g,135,none⟩ (.int .i64 td)).setCell ⟨g,136,none⟩ (.int .i64 tm)).setCell ⟨g,137,none⟩ (.int .i64 tp)).setCell ⟨g,138,none⟩ (.int .i64 ta)) g 93 (M.map U++[.int .i64 tn,.int .i64 tu,.int .i64 td,.int .i64 tm,.int .i64 tp,.int .i64 ta]):=by
  have:=(((((hA1.set 133 (.int .i64 tn)).set 134 (.int .i64 tu)).set 135 (.int .i64 td)).set 136 (.int .i64 tm)).set 137 (.int .i64 tp)).set 138 (.int .i64 ta);have hm:=HR.out.2.2.2.1;simpa [List.set_append,hm,Sp.cells] using this
 have kS0:Aside ((w3.drew).rangeAt w.heap.size 0 (M.map U)∧(w3.drew).there g 0 133∧(w3.drew).cell? ⟨w.heap.size+1,0,none⟩=some (.int .i64 tn)∧(w3.drew).cell? ⟨w.heap.size+1,1,none⟩=some (.int .i64 tu)∧(w3.drew).cell? ⟨w.heap.size+1,2,none⟩=some (.int .i64 td)∧(w3.drew).cell? ⟨w.heap.size+1,3,none⟩=some (.int .i64 tm)∧(w3.drew).cell? ⟨w.heap.size+1,4,none⟩=some (.int .i64 tp)∧(w3.drew).cell? ⟨w.heap.size+1,5,none⟩=some (.int .i64 ta)) :=
  ⟨(Bl.but B2.bl hB0 (by omega)).range 0 _ (fun j v hv=>by simpa using hv),A2.drew.there HR.out.2.1,(Bl.but C2 hB0 (by omega)).cell 0 _ rfl,(Bl.but C2 hB0 (by omega)).cell 1 _ rfl,(Bl.but C2 hB0 (by omega)).cell 2 _ rfl,(Bl.but C2 hB0 (by omega)).cell 3 _ rfl,(Bl.but C2 hB0 (by omega)).cell 4 _ rfl,(Bl.but C2 hB0 (by omega)).cell 5 _ rfl⟩
 have kS1:Aside ((w3.drew.setCells g 0 (M.map U)).rangeAt w.heap.size 0 (M.map U)∧(w3.drew.setCells g 0 (M.map U)).there g 0 133∧(w3.drew.setCells g 0 (M.map U)).cell? ⟨w.heap.size+1,0,none⟩=some (.int .i64 tn)∧(w3.drew.setCells g 0 (M.map U)).cell? ⟨w.heap.size+1,1,none⟩=some (.int .i64 tu)∧(w3.drew.setCells g 0 (M.map U)).cell? ⟨w.heap.size+1,2,none⟩=some (.int .i64 td)∧(w3.drew.setCells g 0 (M.map U)).cell? ⟨w.heap.size+1,3,none⟩=some (.int .i64 tm)∧(w3.drew.setCells g 0 (M.map U)).cell? ⟨w.heap.size+1,4,none⟩=some (.int .i64 tp)∧(w3.drew.setCells g 0 (M.map U)).cell? ⟨w.heap.size+1,5,none⟩=some (.int .i64 ta)) :=
  ⟨(Bl.but B2.bl hB1 (by omega)).range 0 _ (fun j v hv=>by simpa using hv),Bl.there hA1 0 133 (by simp [HR.out.2.2.2.1]),(Bl.but C2 hB1 (by omega)).cell 0 _ rfl,(Bl.but C2 hB1 (by omega)).cell 1 _ rfl,(Bl.but C2 hB1 (by omega)).cell 2 _ rfl,(Bl.but C2 hB1 (by omega)).cell 3 _ rfl,(Bl.but C2 hB1 (by omega)).cell 4 _ rfl,(Bl.but C2 hB1 (by omega)).cell 5 _ rfl⟩
 have kS2:Aside (((((((((w3.drew.setCells g 0 (M.map U)).setCell ⟨g,133,none⟩ (.int .i64 tn)).setCell ⟨g,134,none⟩ (.int .i64 tu)).setCell ⟨g,135,none⟩ (.int .i64 td)).setCell ⟨g,136,none⟩ (.int .i64 tm)).setCell ⟨g,137,none⟩ (.int .i64 tp)).setCell ⟨g,138,none⟩ (.int .i64 ta))).rangeAt w.heap.size 0 (M.map U)∧((((((((w3.drew.setCells g 0 (M.map U)).setCell ⟨g,133,none⟩ (.int .i64 tn)).setCell ⟨g,134,none⟩ (.int .i64 tu)).setCell ⟨g,135,none⟩ (.int .i64 td)).setCell ⟨g,136,none⟩ (.int .i64 tm)).setCell ⟨g,137,none⟩ (.int .i64 tp)).setCell ⟨g,138,none⟩ (.int .i64 ta))).there g 0 133∧((((((((w3.drew.setCells g 0 (M.map U)).setCell ⟨g,133,none⟩ (.int .i64 tn)).setCell ⟨g,134,none⟩ (.int .i64 tu)).setCell ⟨g,135,none⟩ (.int .i64 td)).setCell ⟨g,136,none⟩ (.int .i64 tm)).setCell ⟨g,137,none⟩ (.int .i64 tp)).setCell ⟨g,138,none⟩ (.int .i64 ta))).cell? ⟨w.heap.size+1,0,none⟩=some (.int .i64 tn)∧((((((((w3.drew.setCells g 0 (M.map U)).setCell ⟨g,133,none⟩ (.int .i64 tn)).setCell ⟨g,134,none⟩ (.int .i64 tu)).setCell ⟨g,135,none⟩ (.int .i64 td)).setCell ⟨g,136,none⟩ (.int .i64 tm)).setCell ⟨g,137,none⟩ (.int .i64 tp)).setCell ⟨g,138,none⟩ (.int .i64 ta))).cell? ⟨w.heap.size+1,1,none⟩=some (.int .i64 tu)∧((((((((w3.drew.setCells g 0 (M.map U)).setCell ⟨g,133,none⟩ (.int .i64 tn)).setCell ⟨g,134,none⟩ (.int .i64 tu)).setCell ⟨g,135,none⟩ (.int .i64 td)).setCell ⟨g,136,none⟩ (.int .i64 tm)).setCell ⟨g,137,none⟩ (.int .i64 tp)).setCell ⟨g,138,none⟩ (.int .i64 ta))).cell? ⟨w.heap.size+1,2,none⟩=some (.int .i64 td)∧((((((((w3.drew.setCells g 0 (M.map U)).setCell ⟨g,133,none⟩ (.int .i64 tn)).setCell ⟨g,134,none⟩ (.int .i64 tu)).setCell ⟨g,135,none⟩ (.int .i64 td)).setCell ⟨g,136,none⟩ (.int .i64 tm)).setCell ⟨g,137,none⟩ (.int .i64 tp)).setCell ⟨g,138,none⟩ (.int .i64 ta))).cell? ⟨w.heap.size+1,3,none⟩=some (.int .i64 tm)∧((((((((w3.drew.setCells g 0 (M.map U)).setCell ⟨g,133,none⟩ (.int .i64 tn)).setCell ⟨g,134,none⟩ (.int .i64 tu)).setCell ⟨g,135,none⟩ (.int .i64 td)).setCell ⟨g,136,none⟩ (.int .i64 tm)).setCell ⟨g,137,none⟩ (.int .i64 tp)).setCell ⟨g,138,none⟩ (.int .i64 ta))).cell? ⟨w.heap.size+1,4,none⟩=some (.int .i64 tp)∧((((((((w3.drew.setCells g 0 (M.map U)).setCell ⟨g,133,none⟩ (.int .i64 tn)).setCell ⟨g,134,none⟩ (.int .i64 tu)).setCell ⟨g,135,none⟩ (.int .i64 td)).setCell ⟨g,136,none⟩ (.int .i64 tm)).setCell ⟨g,137,none⟩ (.int .i64 tp)).setCell ⟨g,138,none⟩ (.int .i64 ta))).cell? ⟨w.heap.size+1,5,none⟩=some (.int .i64 ta)) :=
  ⟨(Bl.but B2.bl hB2 (by omega)).range 0 _ (fun j v hv=>by simpa using hv),Bl.there hA2 0 133 (by simp [HR.out.2.2.2.1]),(Bl.but C2 hB2 (by omega)).cell 0 _ rfl,(Bl.but C2 hB2 (by omega)).cell 1 _ rfl,(Bl.but C2 hB2 (by omega)).cell 2 _ rfl,(Bl.but C2 hB2 (by omega)).cell 3 _ rfl,(Bl.but C2 hB2 (by omega)).cell 4 _ rfl,(Bl.but C2 hB2 (by omega)).cell 5 _ rfl⟩
 have o0:=hA1.cell 133 _ (by rw [List.getElem?_append_right (by simp [HR.out.2.2.2.1])];simp [HR.out.2.2.2.1,Sp.cells];rfl)
 have f0:=hA1.frozen 133;have o1:=hA1.cell 134 _ (by rw [List.getElem?_append_right (by simp [HR.out.2.2.2.1])];simp [HR.out.2.2.2.1,Sp.cells];rfl)
 have f1:=hA1.frozen 134;have o2:=hA1.cell 135 _ (by rw [List.getElem?_append_right (by simp [HR.out.2.2.2.1])];simp [HR.out.2.2.2.1,Sp.cells];rfl)
 have f2:=hA1.frozen 135;have o3:=hA1.cell 136 _ (by rw [List.getElem?_append_right (by simp [HR.out.2.2.2.1])];simp [HR.out.2.2.2.1,Sp.cells];rfl)
 have f3:=hA1.frozen 136;have o4:=hA1.cell 137 _ (by rw [List.getElem?_append_right (by simp [HR.out.2.2.2.1])];simp [HR.out.2.2.2.1,Sp.cells];rfl)
 have f4:=hA1.frozen 137;have o5:=hA1.cell 138 _ (by rw [List.getElem?_append_right (by simp [HR.out.2.2.2.1])];simp [HR.out.2.2.2.1,Sp.cells];rfl)
 have f5:=hA1.frozen 138;have fw0:=H2.out.1.frozen 133;have fw1:=H2.out.1.frozen 134;have fw2:=H2.out.1.frozen 135;have fw3:=H2.out.1.frozen 136;have fw4:=H2.out.1.frozen 137;have fw5:=H2.out.1.frozen 138;have HE:Aside (Ac (((((((w3.drew.setCells g 0 (M.map U)).setCell ⟨g,133,none⟩ (.int .i64 tn)).setCell ⟨g,134,none⟩ (.int .i64 tu)).setCell ⟨g,135,none⟩ (.int .i64 td)).setCell ⟨g,136,none⟩ (.int .i64 tm)).setCell ⟨g,137,none⟩ (.int .i64 tp)).setCell ⟨g,138,none⟩ (.int .i64 ta)) g M ⟨tn,tu,td,tm,tp,ta⟩∧But g w3 (((((((w3.drew.setCells g 0 (M.map U)).setCell ⟨g,133,none⟩ (.int .i64 tn)).setCell ⟨g,134,none⟩ (.int .i64 tu)).setCell ⟨g,135,none⟩ (.int .i64 td)).setCell ⟨g,136,none⟩ (.int .i64 tm)).setCell ⟨g,137,none⟩ (.int .i64 tp)).setCell ⟨g,138,none⟩ (.int .i64 ta))):=⟨hA2,hB2⟩;clear A2 B2 C2 hB0 hB1 hB2 hA1 hA2
 go_region_held (fun w'=>(w').rangeAt w.heap.size 0 (M.map U)∧(w').there g 0 133∧(w').cell? ⟨w.heap.size+1,0,none⟩=some (.int .i64 tn)∧(w').cell? ⟨w.heap.size+1,1,none⟩=some (.int .i64 tu)∧(w').cell? ⟨w.heap.size+1,2,none⟩=some (.int .i64 td)∧(w').cell? ⟨w.heap.size+1,3,none⟩=some (.int .i64 tm)∧(w').cell? ⟨w.heap.size+1,4,none⟩=some (.int .i64 tp)∧(w').cell? ⟨w.heap.size+1,5,none⟩=some (.int .i64 ta)) (first | with_reducible exact kS2.out | with_reducible exact kS1.out | with_reducible exact kS0.out) (fail)
 clear kS0 kS1 kS2 o0 o1 o2 o3 o4 o5 f0 f1 f2 f3 f4 f5 fw0 fw1 fw2 fw3 fw4 fw5 hsz hone hlen hu;go_wp2;go_ret;exact ⟨rfl,HE.out.1,((But.refl g w).of_bel H2.out.2.2.2.1).trans HE.out.2⟩
theorem become_no (g:Nat) (L M:List Nat) (s t:Sp) (w:World) (hA:Ac w g L s) (hM:Wf M) (hm:M.length=133) (hb:bey (val M)=true) :
 Calls Tryz.prog 107 #[.pointer (some ⟨g,0,none⟩),.agg (M.map U).toArray,t.agg] w fun r w' =>
  r=.returned (.int .i64 2)∧Below w.heap.size w w':=by
 obtain ⟨tn,tu,td,tm,tp,ta⟩:=t;simp only [Sp.agg];have HR:Aside (Wf M∧M.length=133∧bey (val M)=true):=⟨hM,hm,hb⟩;clear hA hM hm hb;go_enter Tryz.func107,Tryz.ntmps107
 go_wp2_with fail
 obtain ⟨w2,hw2⟩:∃ w2,w2=((w.alloc (Obj.cells (M.map U).toArray 91)).alloc (Obj.cells #[.int .i64 tn,.int .i64 tu,.int .i64 td,.int .i64 tm,.int .i64 tp,.int .i64 ta] 59)):=⟨_,rfl⟩;rw [←hw2]
 have H2:Aside (Wb w2 w.heap.size M∧Below w.heap.size w w2):=by
  subst hw2;exact ⟨((Bl.new w 91 (M.map U)).alloc _).wb,(bel_alloc w _).trans ((bel_alloc _ _).mono (by simp))⟩
 clear hw2;refine Calls.mono (beyond_any w.heap.size M w2 HR.out.2.1 HR.out.1 H2.out.1.hd) ?_;rintro r w3 ⟨rfl,rfl⟩;rw [HR.out.2.2];go_wp2;go_ret;exact ⟨rfl,H2.out.2⟩
def Sp.ok (s:Sp):Prop:=(-4398046511104≤s.n∧s.n≤4398046511104)∧(-4398046511104≤s.u∧s.u≤4398046511104)∧(-4398046511104≤s.d∧s.d≤4398046511104)∧(-4398046511104≤s.m∧s.m≤4398046511104)∧(-4398046511104≤s.p∧s.p≤4398046511104)∧(-4398046511104≤s.a∧s.a≤4398046511104)
def Sp.cnt (s:Sp) (k:Nat) (c:Int):Sp :=
 ⟨if k=1 then s.n+c else s.n,if k=2 then s.u+c else s.u,if k=3 then s.d+c else s.d,if k=4 then s.m+c else s.m,if k=5 then s.p+c else s.p,s.a+c⟩
def Sp.has (s:Sp) (k:Nat):Int :=
 if k=1 then s.n else if k=2 then s.u else if k=3 then s.d else if k=4 then s.m else if k=5 then s.p else s.a-s.n-s.u-s.d-s.m-s.p
theorem signed_any (b:Bool) (x y:Int) (w:World):Calls Tryz.prog 120 #[.bool b,.int .i64 x,.int .i64 y] w fun r w'=>r=.returned (.int .i64 (if b then x else y))∧w'=w:=by
 cases b
 · go_enter Tryz.func120,Tryz.ntmps120
   go_wp2;go_ret;exact ⟨rfl,rfl⟩
 · go_enter Tryz.func120,Tryz.ntmps120
   go_wp2;go_ret;exact ⟨rfl,rfl⟩
theorem held_any (s:Sp) (k:Nat) (w:World) (hk:k≤5) (hs:s.ok):Calls Tryz.prog 119 #[s.agg,.int .i64 (k:Nat)] w fun r w'=>r=.returned (.int .i64 (s.has k))∧Below w.heap.size w w':=by
 obtain ⟨n,u,d,m,p,a⟩:=s;obtain ⟨h0,h1,h2,h3,h4,h5⟩:=hs;simp only [Sp.agg] at *;have hc:k=0∨k=1∨k=2∨k=3∨k=4∨k=5:=by omega
 rcases hc with rfl|rfl|rfl|rfl|rfl|rfl
 all_goals (
  go_enter Tryz.func119,Tryz.ntmps119;go_wp2;go_ret;exact ⟨rfl,bel_alloc _ _⟩)
theorem counted_any (s:Sp) (k:Nat) (c:Int) (w:World) (hk:k≤5) (hs:s.ok) (hc0:-1≤c) (hc1:c≤1):Calls Tryz.prog 109 #[s.agg,.int .i64 (k:Nat),.int .i64 c] w fun r w'=>r=.returned (s.cnt k c).agg∧Below w.heap.size w w':=by
 obtain ⟨n,u,d,m,p,a⟩:=s;obtain ⟨h0,h1,h2,h3,h4,h5⟩:=hs;simp only [Sp.agg] at *;have hc:k=0∨k=1∨k=2∨k=3∨k=4∨k=5:=by omega
 rcases hc with rfl|rfl|rfl|rfl|rfl|rfl
 all_goals (
  go_enter Tryz.func109,Tryz.ntmps109;go_wp2;exact bodyPost_ret (v:=(Sp.cnt ⟨n,u,d,m,p,a⟩ _ c).agg) (by simp [results,Tryz.results109,go_sem,Sp.agg,Sp.cnt]) rfl ⟨rfl,(bel_alloc _ _).trans ((bel_alloc _ _).mono (by simp))⟩)
end
end Go.Proofs.YthejkolknalpaaaGreatDoor
