import Derived.Test.YtblkpkgebigojaaGreatDoorW13x
import Derived.Deep.RegionWith
import Derived.Test.YtblkpkgebigojaaGreatDoorM1x
import Derived.WalkLawsBesides
import Derived.WalkMore
import Derived.Deep.MidRow
import Derived.ChangeKeysEq
import Derived.Laws.OwnMore
import Derived.Lib.SliceRun
set_option linter.unusedVariables false
set_option linter.unusedSimpArgs false
set_option maxHeartbeats 16000000
set_option maxRecDepth 20000
namespace Go.Proofs.YtblkpkgebigojaaGreatDoor
section
open Go.RowKit
theorem J0 (xs ys:List Nat) (hx:Wf xs) (hy:Wf ys) (j d:Nat) (h1:j+1+d≤xs.length) (h2:j+1+d≤ys.length) (ht:sg xs (j+1) d=sg ys (j+1) d) (hlt:xs.getD j 0<ys.getD j 0) :
 sg xs 0 (j+1+d)<sg ys 0 (j+1+d):=by
 rw [Qt xs 0 (j+1) d (by omega),Qt ys 0 (j+1) d (by omega),Nat.zero_add,ht,Zi xs 0 j (by omega),Zi ys 0 j (by omega),Nat.zero_add]
 have h3:=Je xs 0 j hx (by omega)
 have h4:pw j*(xs.getD j 0+1)≤pw j*ys.getD j 0:=Nat.mul_le_mul_left _ hlt;rw [Nat.mul_add] at h4;omega
theorem Zb5 (xs ys:List Nat) (hx:Wf xs) (hy:Wf ys) (h:nl xs<nl ys):val xs<val ys:=by
 rw [Z9 xs hx,Z9 ys hy] at h;have h1:=Qc (val xs);have h2:val ys≠0:=by intro e;rw [e,Zj] at h;simp at h
 have h3:=Za7 (val ys) h2;have h4:=Yd (show (ws (val xs)).length≤(ws (val ys)).length-1 by omega)
 omega
theorem Jb {x y:Nat}(h:x<y):cmpI x y=-1:=by simp [cmpI,h]
theorem Zax {x y:Nat}(h:y<x):cmpI x y=1:=by simp [cmpI,h];omega
theorem Zjp {x y:Nat}(h:x=y):cmpI x y=0:=by simp [cmpI,h]
theorem Zie {a b x y:Nat}(h1:a<b↔x<y) (h2:b<a↔y<x):cmpI a b=cmpI x y:=by simp [cmpI,h1,h2]
theorem Zjq (xs ys:List Nat) (ao bo:Option Addr) (n cap m capb B:Nat) (w:World) (hn:n=xs.length) (hm:m=ys.length) (hc:n≤cap) (hcb:m≤capb) (hbig:n≤70368744177664) (hbig2:m≤70368744177664)
 (hx:Wf xs) (hy:Wf ys) (hR:Rd B w ao xs) (hS:Rd B w bo ys) :
 Calls Tryz.prog 178 #[.slice ao n cap,.slice bo m capb] w fun r w'=>r=.returned (.int .i64 (cmpI (val xs) (val ys)))∧Below w.heap.size w w':=by
 have H1:=hid (Zz xs ao n cap B w hn hc (by omega) hR)
 have H2:=hid (Zz ys bo m capb B w hm hcb (by omega) hS)
 have hl1:=Q7 xs;have hl2:=Q7 ys;have f1:=Yk xs hx;have f2:=Yk ys hy;rw [←Q0] at f1 f2
 by_cases he:nl xs=nl ys
 · obtain ⟨k0,hk0⟩:∃ k,nl ys=k:=⟨_,rfl⟩
   rw [he] at H1 hl1 f1;rw [hk0] at H1 H2 hl1 hl2 f1 f2;have HR:=(qsd (ai hR (ai hS (ai hn (ai hm (ai hx (ai hy (ai hl1 (ai hl2 (ai f1 f2))))))))));have HC:Hid (∀ x y w,_):=Zdt;have hkn:k0≤n:=by omega
   have hkm:k0≤m:=by omega
   clear hR hS hn hm hx hy hl1 hl2 f1 f2 he hk0;go_enter Tryz.func178,Tryz.ntmps178
   go_wp2_with fail
   refine H1.out.mono ?_;rintro r w1 ⟨rfl,rfl⟩
   go_wp2_with fail
   refine H2.out.mono ?_;rintro r w1 ⟨rfl,rfl⟩;go_wp2
   go_loopg [5] k0 (fun k i wr=>k≤k0∧i=.int .i64 ((k:Int)-1)∧Hid (Below w1.heap.size w1 wr)∧Aside (sg xs k (k0-k)=sg ys k (k0-k)))
   case atStart=>exact ⟨Nat.le_refl _,rfl,Below.refl _ _,by rw [Nat.sub_self,Zy,Zy];exact rfl⟩
   case round =>
    obtain ⟨hk,rfl,HB,HA⟩:=hrel
    by_cases hk0:gk=0
    · subst hk0
      go_wp2;go_ret;obtain ⟨hR,hS,hn,hm,hx,hy,hl1,hl2,f1,f2⟩:=HR.out;have h:=HA.out;rw [Nat.sub_zero,f1,f2] at h;rw [Zjp h];exact ⟨rfl,HB.out⟩
    · obtain ⟨k,rfl⟩:∃ k,gk=k+1:=⟨gk-1,by omega⟩
      obtain ⟨hR,hS,hn,hm,hx,hy,hl1,hl2,f1,f2⟩:=HR.out;obtain ⟨b,off,hB1,rfl,hc1⟩:=hR (by intro e;subst e;simp at hl1;omega)
      obtain ⟨b2,off2,hB2,rfl,hc2⟩:=hS (by intro e;subst e;simp at hl2;omega)
      have g1:wr.cell? ⟨b,off+k,none⟩=some (.int .u32 ((xs.getD k 0:Nat):Int)) :=
       (HB.out.cell (p:=⟨b,off+k,none⟩) (World.block_lt_of_cell? w1 ⟨b,off+k,none⟩ (hc1 k (by omega)))).trans (hc1 k (by omega))
      have g2:wr.cell? ⟨b2,off2+k,none⟩=some (.int .u32 ((ys.getD k 0:Nat):Int)) :=
       (HB.out.cell (p:=⟨b2,off2+k,none⟩) (World.block_lt_of_cell? w1 ⟨b2,off2+k,none⟩ (hc2 k (by omega)))).trans (hc2 k (by omega))
      obtain ⟨x,hxx⟩:∃ x:Nat,xs.getD k 0=x:=⟨_,rfl⟩;obtain ⟨y,hyy⟩:∃ y:Nat,ys.getD k 0=y:=⟨_,rfl⟩;rw [hxx] at g1;rw [hyy] at g2;have HX:=(qsd (ai hxx hyy));clear hR hS hn hm hx hy hl1 hl2 f1 f2 hc1 hc2 hxx hyy hk0
      by_cases hxy:x=y
      · subst hxy
        go_wp2
        go_region
        all_goals (
         go_wp2
         go_roundg k
         case measure=>omega
         case rel =>
          obtain ⟨hR,hS,hn,hm,hx,hy,hl1,hl2,f1,f2⟩:=HR.out;refine ⟨by omega,by first | go_num | (congr 1;omega),HB.out.drew,?_⟩
          have h:=HA.out;obtain ⟨r,hr⟩:∃ r,k0-k=r+1:=⟨k0-(k+1),by omega⟩
          rw [show k0-(k+1)=r by omega] at h
          rw [Aside,hr,Yl xs k r (by omega),Yl ys k r (by omega),h,HX.out.1,HX.out.2])
      · have hne:((x:Int)==(y:Int))=false:=by simp;omega
        have hki:(k:Int)<(k0:Int):=by omega
        have hki0:0≤(k:Int):=by omega
        have hki2:k<k0:=by omega
        go_wp2
        go_region
        all_goals (
         go_wp2
         go_region_with (go_at_call 215;refine (Zdt x y _).mono ?_;rintro r w2 ⟨rfl,rfl⟩))
        all_goals (
         go_wp2;go_ret;obtain ⟨hR,hS,hn,hm,hx,hy,hl1,hl2,f1,f2⟩:=HR.out;have h:=HA.out
         have e:cmpI (val xs) (val ys)=cmpI x y:=by
          rw [←f1,←f2];have hk2:k+1+(k0-(k+1))=k0:=by omega
          have t1:=J0 xs ys hx hy k (k0-(k+1)) (by omega) (by omega) h
          have t2:=J0 ys xs hy hx k (k0-(k+1)) (by omega) (by omega) h.symm
          rw [hk2,HX.out.1,HX.out.2] at t1 t2
          apply Zie <;> omega
         rw [e];exact ⟨rfl,by first | exact HB.out.drew.drew | exact HB.out.drew | skip⟩)
 · have e:cmpI (val xs) (val ys)=cmpI (nl xs) (nl ys):=by
    rcases Nat.lt_or_gt_of_ne he with h|h
    · rw [Jb h,Jb (Zb5 xs ys hx hy h)]
    · rw [Zax h,Zax (Zb5 ys xs hy hx h)]
   rw [e];obtain ⟨k1,hk1⟩:∃ k,nl xs=k:=⟨_,rfl⟩;obtain ⟨k2,hk2⟩:∃ k,nl ys=k:=⟨_,rfl⟩;rw [hk1] at H1 he ⊢;rw [hk2] at H2 he ⊢;have hne:((k1:Int)==(k2:Int))=false:=by simp;omega
   have hne2:¬ (k1:Int)=(k2:Int):=by omega
   have H3:=hid (Zlm k1 k2 w);clear hR hS hn hm hx hy hl1 hl2 f1 f2 hk1 hk2 e he;go_enter Tryz.func178,Tryz.ntmps178
   go_wp2_with fail
   refine H1.out.mono ?_;rintro r w1 ⟨rfl,rfl⟩
   go_wp2_with fail
   refine H2.out.mono ?_;rintro r w1 ⟨rfl,rfl⟩
   go_wp2_with fail
   refine H3.out.mono ?_;rintro r w1 ⟨rfl,rfl⟩;go_wp2;go_ret;exact ⟨rfl,Below.refl _ _⟩
abbrev LG (X:Nat):Prop:=8192<(ws X).length
def addS (X Y:Nat):Nat×Int:=if LG (X+Y) then (0,2) else (X+Y,0)
def subS (X Y:Nat):Nat×Int:=if LG X∨LG Y then (0,2) else if X<Y then (0,20) else (X-Y,0)
def mulS (X Y:Nat):Nat×Int:=if LG X∨LG Y then (0,2) else if LG (X*Y) then (0,2) else (X*Y,0)
def divS (X Y:Nat):Nat×Nat×Int:=if LG X∨LG Y then (0,0,2) else if Y=0 then (0,0,21) else (X/Y,X%Y,0)
def shiftS (X:Nat) (by':Int):Nat×Int:=if LG X then (0,2) else if X=0 then (0,0) else if by'<0 then (X/2^(-by').toNat,0) else if 262144-(bl X:Int)<by' then (0,2) else (X*2^by'.toNat,0)
def One (lo:Nat) (w:World) (r:Ending) (a:Nat×Int):Prop:=∃ v,r=.returned (.tuple #[v,.int .i64 a.2])∧Nt lo w v a.1
theorem trimX (xs:List Nat) (ao:Option Addr) (n cap B:Nat) (w:World) (hn:n=xs.length) (hc:n≤cap) (hm:n≤70368744177664) (hx:Wf xs) (hR:Rd B w ao xs) :
 (Calls Tryz.prog 127 #[.slice ao n cap] w fun r w'=>r=.returned (.slice ao (ws (val xs)).length cap)∧w'=w)∧Rd B w ao (ws (val xs))∧(ws (val xs)).length≤n:=by
 have T:=Zz xs ao n cap B w hn hc (by omega) hR
 have hl:=Q7 xs;have hf:=J9 xs hx;have hlen:=Z9 xs hx;rw [hlen] at T hl hf;exact ⟨T,by rw [←hf];exact hR.take _,by omega⟩
theorem Zjr (xs ys:List Nat) (ao bo:Option Addr) (n cap m capb B:Nat) (w:World) (hn:n=xs.length) (hm:m=ys.length) (hc:n≤cap) (hcb:m≤capb) (hbig:n≤35184372088833) (hbig2:m≤35184372088833)
 (hx:Wf xs) (hy:Wf ys) (hR:Rd B w ao xs) (hS:Rd B w bo ys) (hB:B≤w.heap.size) :
 Calls Tryz.prog 177 #[.slice ao n cap,.slice bo m capb] w fun r w'=>One w.heap.size w' r (addS (val xs) (val ys))∧Below w.heap.size w w':=by
 obtain ⟨T1,hRX,hl1⟩:=trimX xs ao n cap B w hn hc (by omega) hx hR
 obtain ⟨T2,hRY,hl2⟩:=trimX ys bo m capb B w hm hcb (by omega) hy hS
 generalize val xs=X at *;generalize val ys=Y at *;have A0:=Zq7 (ws X) (ws Y) ao bo _ cap _ capb B w rfl rfl (by omega) (by omega) (by omega) (by omega) (Z8 X) (Z8 Y) hRX hRY hB
 rw [Zc,Zc] at A0;have H1:=(hid T1);have H2:=(hid T2);have H3:=(hid A0);clear T1 T2 A0 hRX hRY hn hm hx hy hR hS hl1 hl2;go_enter Tryz.func177,Tryz.ntmps177
 go_wp2_with fail
 refine H1.out.mono ?_;rintro r w1 ⟨rfl,rfl⟩
 go_wp2_with fail
 refine H2.out.mono ?_;rintro r w1 ⟨rfl,rfl⟩
 go_wp2_with fail
 refine H3.out.mono ?_;rintro r w2 ⟨v,rfl,hN,hb⟩;obtain ⟨av,cv,rfl,hcv,hcm,hRv⟩:=hN.shape;have U0:=Jf (ws (X+Y)).length av cv w2;have HN:=(qsd (ai hN hb));clear H1 H2 H3 hN hb hRv
 by_cases hL:LG (X+Y)
 · rw [if_pos (show 8192<(ws (X+Y)).length from hL)] at U0
   have U:=(hid U0);clear U0
   go_wp2_with fail
   refine U.out.mono ?_;rintro r w3 ⟨rfl,rfl⟩;go_wp2
   go_ret2
   rw [show addS X Y=(0,2) by simp [addS,hL]]
   exact ⟨⟨_,rfl,Nt.nil _ _⟩,HN.out.2⟩
 · rw [if_neg (show ¬ 8192<(ws (X+Y)).length from hL)] at U0
   have U:=(hid U0);clear U0
   go_wp2_with fail
   refine U.out.mono ?_;rintro r w3 ⟨rfl,rfl⟩;go_wp2
   go_ret2
   rw [show addS X Y=(X+Y,0) by simp [addS,hL]]
   exact ⟨⟨_,rfl,HN.out.1⟩,HN.out.2⟩
theorem longb (n:Nat) (ao:Option Addr) (cap:Nat) (w:World) (b:Bool) (hb:decide (8192<n)=b) :
 Calls Tryz.prog 172 #[.slice ao n cap] w fun r w'=>r=.returned (.bool b)∧w'=w:=by
 have h:=Zcz n ao cap w;have e:decide ((8192:Int)<(n:Int))=b:=by rw [←hb];simp only [decide_eq_decide];omega
 rw [e] at h;exact h
theorem Zrb (xs ys:List Nat) (ao bo:Option Addr) (n cap m capb B:Nat) (w:World) (hn:n=xs.length) (hm:m=ys.length) (hc:n≤cap) (hcb:m≤capb) (hbig:n≤35184372088833) (hbig2:m≤35184372088833)
 (hx:Wf xs) (hy:Wf ys) (hR:Rd B w ao xs) (hS:Rd B w bo ys) (hB:B≤w.heap.size) :
 Calls Tryz.prog 179 #[.slice ao n cap,.slice bo m capb] w fun r w'=>One w.heap.size w' r (subS (val xs) (val ys))∧Below w.heap.size w w':=by
 obtain ⟨T1,hRX,hl1⟩:=trimX xs ao n cap B w hn hc (by omega) hx hR
 obtain ⟨T2,hRY,hl2⟩:=trimX ys bo m capb B w hm hcb (by omega) hy hS
 generalize val xs=X at *;generalize val ys=Y at *;have H1:=(hid T1);have H2:=(hid T2);have HR:=(qsd (ai hRX (ai hRY (ai hl1 hl2))));clear T1 T2 hRX hRY hn hm hx hy hR hS hl1 hl2
 by_cases hLX:LG X
 · have L:=hid (longb (ws X).length ao cap w true (by simpa [LG] using hLX))
   have e:subS X Y=(0,2):=by simp [subS,hLX]
   rw [e];clear e hLX HR;go_enter Tryz.func179,Tryz.ntmps179
   go_wp2_with fail
   refine H1.out.mono ?_;rintro r w1 ⟨rfl,rfl⟩
   go_wp2_with fail
   refine H2.out.mono ?_;rintro r w1 ⟨rfl,rfl⟩
   go_wp2_with fail
   refine L.out.mono ?_;rintro r w1 ⟨rfl,rfl⟩;go_wp2
   go_ret2
   exact ⟨⟨_,rfl,Nt.nil _ _⟩,Below.refl _ _⟩
 · have L:=hid (longb (ws X).length ao cap w false (by simpa [LG] using hLX))
   by_cases hLY:LG Y
   · have L2:=hid (longb (ws Y).length bo capb w true (by simpa [LG] using hLY))
     have e:subS X Y=(0,2):=by simp [subS,hLY]
     rw [e];clear e hLX hLY HR;go_enter Tryz.func179,Tryz.ntmps179
     go_wp2_with fail
     refine H1.out.mono ?_;rintro r w1 ⟨rfl,rfl⟩
     go_wp2_with fail
     refine H2.out.mono ?_;rintro r w1 ⟨rfl,rfl⟩
     go_wp2_with fail
     refine L.out.mono ?_;rintro r w1 ⟨rfl,rfl⟩
     go_wp2_with fail
     refine L2.out.mono ?_;rintro r w1 ⟨rfl,rfl⟩;go_wp2
     go_ret2
     exact ⟨⟨_,rfl,Nt.nil _ _⟩,Below.refl _ _⟩
   · have L2:=hid (longb (ws Y).length bo capb w false (by simpa [LG] using hLY))
     obtain ⟨hRX,hRY,hl1,hl2⟩:=HR.out;have C0:=Zjq (ws X) (ws Y) ao bo _ cap _ capb B w rfl rfl (by omega) (by omega) (by omega) (by omega) (Z8 X) (Z8 Y) hRX hRY
     rw [Zc,Zc] at C0
     by_cases hlt:X<Y
     · rw [Jb hlt] at C0
       have C:=hid C0;have e:subS X Y=(0,20):=by simp [subS,hLX,hLY,hlt]
       rw [e];clear e hLX hLY HR C0 hlt hRX hRY hl1 hl2;go_enter Tryz.func179,Tryz.ntmps179
       go_wp2_with fail
       refine H1.out.mono ?_;rintro r w1 ⟨rfl,rfl⟩
       go_wp2_with fail
       refine H2.out.mono ?_;rintro r w1 ⟨rfl,rfl⟩
       go_wp2_with fail
       refine L.out.mono ?_;rintro r w1 ⟨rfl,rfl⟩
       go_wp2_with fail
       refine L2.out.mono ?_;rintro r w1 ⟨rfl,rfl⟩
       go_wp2_with fail
       refine C.out.mono ?_;rintro r w2 ⟨rfl,hb⟩;have HB:=(qsd hb);clear hb;go_wp2
       go_ret2
       exact ⟨⟨_,rfl,Nt.nil _ _⟩,HB.out⟩
     · have hc1:0≤cmpI X Y:=by unfold cmpI;rw [if_neg hlt];split <;> omega
       obtain ⟨cc,hcc⟩:∃ cc,cmpI X Y=cc:=⟨_,rfl⟩;rw [hcc] at C0 hc1;have C:=hid C0;have e:subS X Y=(X-Y,0):=by simp [subS,hLX,hLY,hlt]
       rw [e];have HL:=(qsd hlt);clear e hLX hLY C0 hlt hRX hRY hl1 hl2 hcc;go_enter Tryz.func179,Tryz.ntmps179
       go_wp2_with fail
       refine H1.out.mono ?_;rintro r w1 ⟨rfl,rfl⟩
       go_wp2_with fail
       refine H2.out.mono ?_;rintro r w1 ⟨rfl,rfl⟩
       go_wp2_with fail
       refine L.out.mono ?_;rintro r w1 ⟨rfl,rfl⟩
       go_wp2_with fail
       refine L2.out.mono ?_;rintro r w1 ⟨rfl,rfl⟩
       go_wp2_with fail
       refine C.out.mono ?_;rintro r w2 ⟨rfl,hb⟩;obtain ⟨hRX,hRY,hl1,hl2⟩:=HR.out;have hs:=hb.size;have S0:=Zq9 (ws X) (ws Y) ao bo _ cap _ capb B w2 rfl rfl (Zbv (by have:=HL.out;omega)) (by omega) (by omega) (by omega) (Z8 X) (Z8 Y) (by rw [Zc,Zc];have:=HL.out;omega) (hRX.below (hb.mono hB)) (hRY.below (hb.mono hB)) (by omega)
       rw [Zc,Zc] at S0;have S:=hid S0;have HB:=(qsd (ai hb hs));clear hb hRX hRY hl1 hl2 S0 hs C
       go_wp2_with fail
       refine S.out.mono ?_;rintro r w3 ⟨v,rfl,hN,hb2⟩;have HN:=(qsd (ai hN hb2));clear hN hb2 S;go_wp2
       go_ret2
       obtain ⟨hb,hs⟩:=HB.out;exact ⟨⟨_,rfl,HN.out.1.mono hs⟩,hb.trans (HN.out.2.mono hs)⟩
theorem Zjs (xs ys:List Nat) (ao bo:Option Addr) (n cap m capb B:Nat) (w:World) (hn:n=xs.length) (hm:m=ys.length) (hc:n≤cap) (hcb:m≤capb) (hbig:n≤35184372088833) (hbig2:m≤35184372088833)
 (hx:Wf xs) (hy:Wf ys) (hR:Rd B w ao xs) (hS:Rd B w bo ys) (hB:B≤w.heap.size) :
 Calls Tryz.prog 132 #[.slice ao n cap,.slice bo m capb] w fun r w'=>One w.heap.size w' r (mulS (val xs) (val ys))∧Below w.heap.size w w':=by
 obtain ⟨T1,hRX,hl1⟩:=trimX xs ao n cap B w hn hc (by omega) hx hR
 obtain ⟨T2,hRY,hl2⟩:=trimX ys bo m capb B w hm hcb (by omega) hy hS
 generalize val xs=X at *;generalize val ys=Y at *;have H1:=(hid T1);have H2:=(hid T2);have HR:=(qsd (ai hRX (ai hRY (ai hl1 hl2))));clear T1 T2 hRX hRY hn hm hx hy hR hS hl1 hl2
 by_cases hLX:LG X
 · have L:=hid (longb (ws X).length ao cap w true (by simpa [LG] using hLX))
   have e:mulS X Y=(0,2):=by simp [mulS,hLX]
   rw [e];clear e hLX HR;go_enter Tryz.func132,Tryz.ntmps132
   go_wp2_with fail
   refine H1.out.mono ?_;rintro r w1 ⟨rfl,rfl⟩
   go_wp2_with fail
   refine H2.out.mono ?_;rintro r w1 ⟨rfl,rfl⟩
   go_wp2_with fail
   refine L.out.mono ?_;rintro r w1 ⟨rfl,rfl⟩;go_wp2
   go_ret2
   exact ⟨⟨_,rfl,Nt.nil _ _⟩,Below.refl _ _⟩
 · have L:=hid (longb (ws X).length ao cap w false (by simpa [LG] using hLX))
   by_cases hLY:LG Y
   · have L2:=hid (longb (ws Y).length bo capb w true (by simpa [LG] using hLY))
     have e:mulS X Y=(0,2):=by simp [mulS,hLY]
     rw [e];clear e hLX hLY HR;go_enter Tryz.func132,Tryz.ntmps132
     go_wp2_with fail
     refine H1.out.mono ?_;rintro r w1 ⟨rfl,rfl⟩
     go_wp2_with fail
     refine H2.out.mono ?_;rintro r w1 ⟨rfl,rfl⟩
     go_wp2_with fail
     refine L.out.mono ?_;rintro r w1 ⟨rfl,rfl⟩
     go_wp2_with fail
     refine L2.out.mono ?_;rintro r w1 ⟨rfl,rfl⟩;go_wp2
     go_ret2
     exact ⟨⟨_,rfl,Nt.nil _ _⟩,Below.refl _ _⟩
   · have L2:=hid (longb (ws Y).length bo capb w false (by simpa [LG] using hLY))
     have hz1:(ws X).length=0→X=0:=(Zm X).1;have hz2:(ws Y).length=0→Y=0:=(Zm Y).1
     by_cases h1:(ws X).length=0
     · have e:mulS X Y=(0,0):=by
        have:=hz1 h1;subst this;unfold mulS;rw [if_neg (by simp [hLX,hLY]),Nat.zero_mul,if_neg hLX]
       rw [e];have hh:=hid h1;rw [h1] at H1 L;have h1b:((ws X).length:Int)=0:=by omega
       clear e hLX hLY HR hz1 hz2 h1 h1b hh;go_enter Tryz.func132,Tryz.ntmps132
       go_wp2_with fail
       refine H1.out.mono ?_;rintro r w1 ⟨rfl,rfl⟩
       go_wp2_with fail
       refine H2.out.mono ?_;rintro r w1 ⟨rfl,rfl⟩
       go_wp2_with fail
       refine L.out.mono ?_;rintro r w1 ⟨rfl,rfl⟩
       go_wp2_with fail
       refine L2.out.mono ?_;rintro r w1 ⟨rfl,rfl⟩;go_wp2
       go_ret2
       exact ⟨⟨_,rfl,Nt.nil _ _⟩,Below.refl _ _⟩
     · by_cases h2:(ws Y).length=0
       · have e:mulS X Y=(0,0):=by
          have:=hz2 h2;subst this;unfold mulS;rw [if_neg (by simp [hLX,hLY]),Nat.mul_zero,if_neg hLY]
         rw [e];rw [h2] at H2 L2;obtain ⟨k1,hk1⟩:∃ k,(ws X).length=k:=⟨_,rfl⟩;rw [hk1] at H1 L h1;have h1b:((k1:Int)==0)=false:=by simp;omega
         clear e hLX hLY HR hz1 hz2 h2 hk1;go_enter Tryz.func132,Tryz.ntmps132
         go_wp2_with fail
         refine H1.out.mono ?_;rintro r w1 ⟨rfl,rfl⟩
         go_wp2_with fail
         refine H2.out.mono ?_;rintro r w1 ⟨rfl,rfl⟩
         go_wp2_with fail
         refine L.out.mono ?_;rintro r w1 ⟨rfl,rfl⟩
         go_wp2_with fail
         refine L2.out.mono ?_;rintro r w1 ⟨rfl,rfl⟩;go_wp2
         go_ret2
         exact ⟨⟨_,rfl,Nt.nil _ _⟩,Below.refl _ _⟩
       · have hX0:X≠0:=fun e=>h1 ((Zm X).2 e)
         have hY0:Y≠0:=fun e=>h2 ((Zm Y).2 e)
         have hlow:pw ((ws X).length+(ws Y).length-2)≤X*Y:=by
          have a:=Nat.mul_le_mul (Za7 X hX0) (Za7 Y hY0);rw [←Zbh] at a;rw [show (ws X).length+(ws Y).length-2=(ws X).length-1+((ws Y).length-1) by omega];exact a
         obtain ⟨hRX,hRY,hl1,hl2⟩:=HR.out;have M0:=Zra (ws X) (ws Y) ao bo _ cap _ capb B w rfl rfl (by omega) (by omega) (by unfold LG at hLX hLY;omega) (Z8 X) (Z8 Y) hRX hRY hB
         rw [Zc,Zc] at M0;have hsmall1:(ws X).length≤8192:=by unfold LG at hLX;omega
         have hsmall2:(ws Y).length≤8192:=by unfold LG at hLY;omega
         obtain ⟨k1,hk1⟩:∃ k,(ws X).length=k:=⟨_,rfl⟩;obtain ⟨k2,hk2⟩:∃ k,(ws Y).length=k:=⟨_,rfl⟩;rw [hk1] at H1 L h1 M0 hlow hsmall1;rw [hk2] at H2 L2 h2 M0 hlow hsmall2;have h1b:((k1:Int)==0)=false:=by simp;omega
         have h2b:((k2:Int)==0)=false:=by simp;omega
         by_cases h3:8192<k1+k2-1
         · have hLG:LG (X*Y):=by
            unfold LG
            by_cases h4:(ws (X*Y)).length≤8192
            · have:=(Zf _ _).1 h4
              have:=Yd (show 8192≤k1+k2-2 by omega)
              omega
            · omega
           have e:mulS X Y=(0,2):=by simp [mulS,hLG]
           rw [e];have h3i:(8192:Int)<(k1:Int)+(k2:Int)-1:=by omega
           clear e hLX hLY HR hz1 hz2 hk1 hk2 hRX hRY hl1 hl2 M0 hX0 hY0 hlow hLG h3;go_enter Tryz.func132,Tryz.ntmps132
           go_wp2_with fail
           refine H1.out.mono ?_;rintro r w1 ⟨rfl,rfl⟩
           go_wp2_with fail
           refine H2.out.mono ?_;rintro r w1 ⟨rfl,rfl⟩
           go_wp2_with fail
           refine L.out.mono ?_;rintro r w1 ⟨rfl,rfl⟩
           go_wp2_with fail
           refine L2.out.mono ?_;rintro r w1 ⟨rfl,rfl⟩;go_wp2
           go_ret2
           exact ⟨⟨_,rfl,Nt.nil _ _⟩,Below.refl _ _⟩
         · have h3i:(k1:Int)+(k2:Int)-1≤8192:=by omega
           have h3b:decide ((8192:Int)<(k1:Int)+(k2:Int)-1)=false:=decide_eq_false (by omega)
           have M:=hid M0;have HL:=(qsd (ai hLX hLY));clear hLX hLY HR hz1 hz2 hk1 hk2 hRX hRY hl1 hl2 M0 hX0 hY0 hlow h3;go_enter Tryz.func132,Tryz.ntmps132
           go_wp2_with fail
           refine H1.out.mono ?_;rintro r w1 ⟨rfl,rfl⟩
           go_wp2_with fail
           refine H2.out.mono ?_;rintro r w1 ⟨rfl,rfl⟩
           go_wp2_with fail
           refine L.out.mono ?_;rintro r w1 ⟨rfl,rfl⟩
           go_wp2_with fail
           refine L2.out.mono ?_;rintro r w1 ⟨rfl,rfl⟩
           go_wp2_with fail
           refine M.out.mono ?_;rintro r w2 ⟨v,rfl,hN,hb⟩;obtain ⟨av,cv,rfl,hcv,hcm,hRv⟩:=hN.shape;have U0:=Jf (ws (X*Y)).length av cv w2;have HN:=(qsd (ai hN hb));clear M hN hb hRv
           by_cases hL:LG (X*Y)
           · rw [if_pos (show 8192<(ws (X*Y)).length from hL)] at U0
             have U:=(hid U0);clear U0
             go_wp2_with fail
             refine U.out.mono ?_;rintro r w3 ⟨rfl,rfl⟩;go_wp2
             go_ret2
             rw [show mulS X Y=(0,2) by simp [mulS,hL]]
             exact ⟨⟨_,rfl,Nt.nil _ _⟩,HN.out.2⟩
           · rw [if_neg (show ¬ 8192<(ws (X*Y)).length from hL)] at U0
             have U:=(hid U0);clear U0
             go_wp2_with fail
             refine U.out.mono ?_;rintro r w3 ⟨rfl,rfl⟩;go_wp2
             go_ret2
             rw [show mulS X Y=(X*Y,0) by simp [mulS,HL.out.1,HL.out.2,hL]]
             exact ⟨⟨_,rfl,HN.out.1⟩,HN.out.2⟩
def Three (lo:Nat) (w:World) (r:Ending) (a:Nat×Nat×Int):Prop:=∃ v u,r=.returned (.tuple #[v,u,.int .i64 a.2.2])∧Nt lo w v a.1∧Nt lo w u a.2.1∧Apart v u
theorem Zrc (xs ys:List Nat) (ao bo:Option Addr) (n cap m capb B:Nat) (w:World) (hn:n=xs.length) (hm:m=ys.length) (hc:n≤cap) (hcb:m≤capb) (hbig:n≤35184372088833) (hbig2:m≤35184372088833)
 (hx:Wf xs) (hy:Wf ys) (hR:Rd B w ao xs) (hS:Rd B w bo ys) (hB:B≤w.heap.size) :
 Calls Tryz.prog 207 #[.slice ao n cap,.slice bo m capb] w fun r w'=>Three w.heap.size w' r (divS (val xs) (val ys))∧Below w.heap.size w w':=by
 obtain ⟨T1,hRX,hl1⟩:=trimX xs ao n cap B w hn hc (by omega) hx hR
 obtain ⟨T2,hRY,hl2⟩:=trimX ys bo m capb B w hm hcb (by omega) hy hS
 generalize val xs=X at *;generalize val ys=Y at *;have H1:=(hid T1);have H2:=(hid T2);have HR:=(qsd (ai hRX (ai hRY (ai hl1 hl2))));clear T1 T2 hRX hRY hn hm hx hy hR hS hl1 hl2
 by_cases hLX:LG X
 · have L:=hid (longb (ws X).length ao cap w true (by simpa [LG] using hLX))
   have e:divS X Y=(0,0,2):=by simp [divS,hLX]
   rw [e];clear e hLX HR;go_enter Tryz.func207,Tryz.ntmps207
   go_wp2_with fail
   refine H1.out.mono ?_;rintro r w1 ⟨rfl,rfl⟩
   go_wp2_with fail
   refine H2.out.mono ?_;rintro r w1 ⟨rfl,rfl⟩
   go_wp2_with fail
   refine L.out.mono ?_;rintro r w1 ⟨rfl,rfl⟩;go_wp2
   go_ret3
   exact ⟨⟨_,_,rfl,Nt.nil _ _,Nt.nil _ _,Jz _⟩,Below.refl _ _⟩
 · have L:=hid (longb (ws X).length ao cap w false (by simpa [LG] using hLX))
   by_cases hLY:LG Y
   · have L2:=hid (longb (ws Y).length bo capb w true (by simpa [LG] using hLY))
     have e:divS X Y=(0,0,2):=by simp [divS,hLY]
     rw [e];clear e hLX hLY HR;go_enter Tryz.func207,Tryz.ntmps207
     go_wp2_with fail
     refine H1.out.mono ?_;rintro r w1 ⟨rfl,rfl⟩
     go_wp2_with fail
     refine H2.out.mono ?_;rintro r w1 ⟨rfl,rfl⟩
     go_wp2_with fail
     refine L.out.mono ?_;rintro r w1 ⟨rfl,rfl⟩
     go_wp2_with fail
     refine L2.out.mono ?_;rintro r w1 ⟨rfl,rfl⟩;go_wp2
     go_ret3
     exact ⟨⟨_,_,rfl,Nt.nil _ _,Nt.nil _ _,Jz _⟩,Below.refl _ _⟩
   · have L2:=hid (longb (ws Y).length bo capb w false (by simpa [LG] using hLY))
     by_cases h2:Y=0
     · have e:divS X Y=(0,0,21):=by unfold divS;rw [if_neg (by simp [hLX,hLY]),if_pos h2]
       rw [e];subst h2;rw [Zj] at H2 L2;clear e hLX hLY HR;go_enter Tryz.func207,Tryz.ntmps207
       go_wp2_with fail
       refine H1.out.mono ?_;rintro r w1 ⟨rfl,rfl⟩
       go_wp2_with fail
       refine H2.out.mono ?_;rintro r w1 ⟨rfl,rfl⟩
       go_wp2_with fail
       refine L.out.mono ?_;rintro r w1 ⟨rfl,rfl⟩
       go_wp2_with fail
       refine L2.out.mono ?_;rintro r w1 ⟨rfl,rfl⟩;go_wp2
       go_ret3
       exact ⟨⟨_,_,rfl,Nt.nil _ _,Nt.nil _ _,Jz _⟩,Below.refl _ _⟩
     · have h3:(ws Y).length≠0:=fun e=>h2 ((Zm Y).1 e)
       obtain ⟨hRX,hRY,hl1,hl2⟩:=HR.out;have D0:=Zq8 (ws X) (ws Y) ao bo _ cap _ capb B w rfl rfl (by omega) (by omega) (by omega) (by omega) (Z8 X) (Z8 Y) (Ztg Y h2) hRX hRY hB
       rw [Zc,Zc] at D0;have e:divS X Y=(X/Y,X%Y,0):=by simp [divS,hLX,hLY,h2]
       rw [e];obtain ⟨k2,hk2⟩:∃ k,(ws Y).length=k:=⟨_,rfl⟩;rw [hk2] at H2 L2 D0 h3;have h2b:((k2:Int)==0)=false:=by simp;omega
       have D:=hid D0;clear e hLX hLY HR hk2 hRX hRY hl1 hl2 D0 h2;go_enter Tryz.func207,Tryz.ntmps207
       go_wp2_with fail
       refine H1.out.mono ?_;rintro r w1 ⟨rfl,rfl⟩
       go_wp2_with fail
       refine H2.out.mono ?_;rintro r w1 ⟨rfl,rfl⟩
       go_wp2_with fail
       refine L.out.mono ?_;rintro r w1 ⟨rfl,rfl⟩
       go_wp2_with fail
       refine L2.out.mono ?_;rintro r w1 ⟨rfl,rfl⟩
       go_wp2_with fail
       refine D.out.mono ?_;rintro r w2 ⟨⟨v,u,rfl,hN1,hN2,hap⟩,hb⟩;have HN:=(qsd (ai hN1 (ai hN2 (ai hap hb))));clear hN1 hN2 hap hb D;go_wp2
       go_ret3
       obtain ⟨hN1,hN2,hap,hb⟩:=HN.out;exact ⟨⟨_,_,rfl,hN1,hN2,hap⟩,hb⟩
theorem Yp (X k:Nat) (h:X<pw k):bl X≤32*k:=by
 by_cases h0:X=0
 · subst h0;rw [Zu];omega
 · have h1:=Qi X h0
   have h3:pw k=2^(32*k):=by rw [←Nat.add_zero (32*k),Jc];simp
   rw [h3] at h;have:=(Nat.pow_lt_pow_iff_right (a:=2) (by decide)).1 (Nat.lt_of_le_of_lt h1 h)
   omega
theorem Zn9 (X:Nat) (h:¬ LG X):bl X≤262144 :=
 Yp X 8192 ((Zf X 8192).1 (by unfold LG at h;omega))
theorem Zd0 (xs:List Nat) (ao:Option Addr) (n cap B:Nat) (by':Int) (w:World) (hn:n=xs.length) (hc:n≤cap) (hbig:n≤35184372088833)
 (hx:Wf xs) (hR:Rd B w ao xs) (hB:B≤w.heap.size) (hb0:-9223372036854775808≤by') (hb1:by'≤9223372036854775807) :
 Calls Tryz.prog 129 #[.slice ao n cap,.int .i64 by'] w fun r w'=>One w.heap.size w' r (shiftS (val xs) by')∧Below w.heap.size w w':=by
 obtain ⟨T1,hRX,hl1⟩:=trimX xs ao n cap B w hn hc (by omega) hx hR
 generalize val xs=X at *;have N0:=Zaw (ws X) ao _ cap B w rfl (by omega) (by omega) (Z8 X) hRX
 rw [Zc] at N0;have H1:=(hid T1);have H2:=(hid N0);have HR:=(qsd (ai hRX hl1));clear T1 N0 hRX hn hx hR hl1
 by_cases hLX:LG X
 · have L:=hid (longb (ws X).length ao cap w true (by simpa [LG] using hLX))
   have e:shiftS X by'=(0,2):=by simp [shiftS,hLX]
   rw [e];clear e hLX HR;generalize bl X=c at *;go_enter Tryz.func129,Tryz.ntmps129
   go_wp2_with fail
   refine H1.out.mono ?_;rintro r w1 ⟨rfl,rfl⟩
   go_wp2_with fail
   refine H2.out.mono ?_;rintro r w1 ⟨rfl,rfl⟩
   go_wp2_with fail
   refine L.out.mono ?_;rintro r w1 ⟨rfl,rfl⟩;go_wp2
   go_ret2
   exact ⟨⟨_,rfl,Nt.nil _ _⟩,Below.refl _ _⟩
 · have L:=hid (longb (ws X).length ao cap w false (by simpa [LG] using hLX))
   have hbs:=Zn9 X hLX;obtain ⟨c,hcc⟩:∃ c,bl X=c:=⟨_,rfl⟩
   by_cases h0:X=0
   · have e:shiftS X by'=(0,0):=by unfold shiftS;rw [if_neg hLX,if_pos h0]
     rw [e];subst h0;rw [Zj] at H1 H2 L;rw [Zu] at H2;clear e hLX HR hbs hcc;go_enter Tryz.func129,Tryz.ntmps129
     go_wp2_with fail
     refine H1.out.mono ?_;rintro r w1 ⟨rfl,rfl⟩
     go_wp2_with fail
     refine H2.out.mono ?_;rintro r w1 ⟨rfl,rfl⟩
     go_wp2_with fail
     refine L.out.mono ?_;rintro r w1 ⟨rfl,rfl⟩;go_wp2
     go_ret2
     exact ⟨⟨_,rfl,Nt.nil _ _⟩,Below.refl _ _⟩
   · have hcp:=Zv X h0
     have hlt:=Qo X;rw [hcc] at hcp hbs H2 hlt;have hcne:((c:Int)==0)=false:=by simp;omega
     by_cases hneg:by'<0
     · obtain ⟨d,hd⟩:∃ d:Nat,(d:Int)=-by':=⟨(-by').toNat,by omega⟩
       have e:shiftS X by'=(X/2^d,0):=by
        unfold shiftS;rw [if_neg hLX,if_neg h0,if_pos hneg,←hd,Int.toNat_natCast]
       rw [e]
       by_cases hbig2:by'≤-(c:Int)
       · have e2:X/2^d=0:=Nat.div_eq_of_lt (Nat.lt_of_lt_of_le hlt (Nat.pow_le_pow_right (by decide) (by omega)))
         rw [e2];clear e e2 hLX HR hcc hlt hd h0;go_enter Tryz.func129,Tryz.ntmps129
         go_wp2_with fail
         refine H1.out.mono ?_;rintro r w1 ⟨rfl,rfl⟩
         go_wp2_with fail
         refine H2.out.mono ?_;rintro r w1 ⟨rfl,rfl⟩
         go_wp2_with fail
         refine L.out.mono ?_;rintro r w1 ⟨rfl,rfl⟩;go_wp2
         go_ret2
         exact ⟨⟨_,rfl,Nt.nil _ _⟩,Below.refl _ _⟩
       · obtain ⟨hRX,hl1⟩:=HR.out
         have D0:=Zgw (ws X) ao _ cap B d (d/32) (d%32) w rfl (by omega) (by omega) (by omega) (by omega) (by omega) (Z8 X) hRX hB
         rw [Zc] at D0;have D:=hid D0;have hgt:-(c:Int)<by':=by omega
         have hd':-by'=(d:Int):=hd.symm
         clear e hLX HR hcc hlt h0 hRX hl1 D0 hbig2 hd;go_enter Tryz.func129,Tryz.ntmps129
         go_wp2_with fail
         refine H1.out.mono ?_;rintro r w1 ⟨rfl,rfl⟩
         go_wp2_with fail
         refine H2.out.mono ?_;rintro r w1 ⟨rfl,rfl⟩
         go_wp2_with fail
         refine L.out.mono ?_;rintro r w1 ⟨rfl,rfl⟩
         go_wp2_with fail
         try rw [hd']
         refine D.out.mono ?_;rintro r w2 ⟨v,rfl,hN,hb⟩;have HN:=(qsd (ai hN hb));clear hN hb D;go_wp2
         go_ret2
         exact ⟨⟨_,rfl,HN.out.1⟩,HN.out.2⟩
     · obtain ⟨d,rfl⟩:∃ d:Nat,by'=(d:Int):=⟨by'.toNat,by omega⟩
       by_cases hover:262144-(c:Int)<(d:Int)
       · have e:shiftS X (d:Int)=(0,2):=by unfold shiftS;rw [if_neg hLX,if_neg h0,if_neg hneg,hcc,if_pos hover]
         rw [e];clear e hLX HR hcc hlt h0 hneg;go_enter Tryz.func129,Tryz.ntmps129
         go_wp2_with fail
         refine H1.out.mono ?_;rintro r w1 ⟨rfl,rfl⟩
         go_wp2_with fail
         refine H2.out.mono ?_;rintro r w1 ⟨rfl,rfl⟩
         go_wp2_with fail
         refine L.out.mono ?_;rintro r w1 ⟨rfl,rfl⟩;go_wp2
         go_ret2
         exact ⟨⟨_,rfl,Nt.nil _ _⟩,Below.refl _ _⟩
       · have e:shiftS X (d:Int)=(X*2^d,0):=by unfold shiftS;rw [if_neg hLX,if_neg h0,if_neg hneg,hcc,if_neg hover,Int.toNat_natCast]
         rw [e];obtain ⟨hRX,hl1⟩:=HR.out;have D0:=Ziw (ws X) ao _ cap B d (d/32) (d%32) w rfl (by omega) (by omega) (by omega) (by unfold LG at hLX;omega) (Z8 X) hRX hB
         rw [Zc] at D0;have D:=hid D0;have hle:(d:Int)≤262144-(c:Int):=by omega
         have hleb:decide (262144-(c:Int)<(d:Int))=false:=decide_eq_false (by omega)
         clear e hLX HR hcc hlt h0 hRX hl1 D0 hover hneg;go_enter Tryz.func129,Tryz.ntmps129
         go_wp2_with fail
         refine H1.out.mono ?_;rintro r w1 ⟨rfl,rfl⟩
         go_wp2_with fail
         refine H2.out.mono ?_;rintro r w1 ⟨rfl,rfl⟩
         go_wp2_with fail
         refine L.out.mono ?_;rintro r w1 ⟨rfl,rfl⟩
         go_wp2_with fail
         refine D.out.mono ?_;rintro r w2 ⟨v,rfl,hN,hb⟩;have HN:=(qsd (ai hN hb));clear hN hb D;go_wp2
         go_ret2
         exact ⟨⟨_,rfl,HN.out.1⟩,HN.out.2⟩
theorem Yb (w:World) (lo:Nat) (v:Value) (n:Nat) (xs src:List Nat) (ao:Option Addr) (m c B:Nat) (ty:TypeId) (hown:w.ownsRow lo 147 1 v n (xs.map U)) (hm:m=src.length) (hR:Rd B w ao src)
 (hnil:ao=none→c=0) (hbig:n+m≤35184372088832) (hlo:lo≤w.heap.size) :
 ∃ v' w',(Builtin.append_ #[60,60] ty #[v,.slice ao m c]).run Tryz.prog w=.ok v' w'∧w'.ownsRow lo 147 1 v' (n+m) ((xs++src).map U)∧w.grownBy w' v.ownBlock:=by
 obtain ⟨i0,hi,hz0,hz1,hz2⟩:=info_parts Tryz.info147;subst hm
 rcases hao:ao with _|a
 · have h0:src=[]:=by
    by_cases h:src=[]
    · exact h
    · obtain ⟨b,off,_,e,_⟩:=hR h
      rw [hao] at e;cases e
   subst h0;have hc:=hnil hao;subst hc;exact ⟨v,w,run_append_owned_none (P:=Tryz.prog) w lo 60 ty 147 i0 1 Tryz.underlying60 hi v n _ hown,by simpa using hown,World.grownBy.refl _ _⟩
 · obtain ⟨v',w',h1,h2,h3,_⟩:=run_append_own (P:=Tryz.prog) w lo 60 ty 147 i0 (.int .u32 0) 1 4 Tryz.underlying60 hi hz0 hz1 hz2 rfl (by decide) v n (xs.map U) hown a src.length c (src.map U) (by simp) (by
    intro j u hj;have hj2:j<src.length:=by have:=(List.getElem?_eq_some_iff.1 hj).1;simpa using this
    obtain ⟨b,off,_,e,hc⟩:=hR (by intro e;subst e;simp at hj2)
    rw [hao] at e
    cases e
    have hadd:(⟨b,off,none⟩:Addr).add j=⟨b,off+j,none⟩:=by unfold Addr.add;split <;> simp_all
    rw [hadd,hc j hj2];simp [hj2,U] at hj;simp [hj2,←hj]) (by
    intro u hu;obtain ⟨x,_,rfl⟩:=List.mem_map.1 hu
    rfl) (by unfold maxLen;omega) (by omega) hlo
   exact ⟨v',w',h1,by rw [List.map_append];exact h2,h3⟩
theorem Zak {w:World}{ops:Array Oper}{rest:List Oper}{o:Oper}{a:Act}{Q:Exit→Act→World→Prop}(hgd:o.guard=none) (s x:Operand)
 (ho:o.op=.call { callee:=.builtin .append,args:=#[s,x],argTypes:=#[60,60] }) (v u:Value) (hs:a.eval s=v) (hx:a.eval x=u) (v':Value) (w':World)
 (hrun:(Builtin.append_ #[60,60] o.type #[v,u]).run Tryz.prog w=.ok v' w') (h:wpList Tryz.prog ops Q rest (a.put o.dst v') w'):wpList Tryz.prog ops Q (o::rest) a w:=by
 refine wpList_plain hgd fun K hK=>?_
 unfold Oper.wp;simp [execOp,ho,resolve,invoke,builtin,hs,hx,hrun,Result.andThen];exact hK _ _ h
theorem Qy (xs:List Nat) (ao:Option Addr) (n cap B:Nat) (w:World) (hn:n=xs.length) (hc:n≤cap) (hm:n≤35184372088832) (hx:Wf xs) (hR:Rd B w ao xs) (hnil:ao=none→cap=0) :
 Calls Tryz.prog 121 #[.slice ao n cap] w fun r w'=>∃ v,r=.returned v∧Nt w.heap.size w' v (val xs)∧Below w.heap.size w w':=by
 have S:=hid (Jl xs ao n cap B w hn (by omega) hR)
 have hl:=Q7 xs;have hf:=J9 xs hx;obtain ⟨v',w',hap,hown,hgrow⟩:=Yb w w.heap.size (.slice none 0 0) 0 [] (xs.take (nl xs)) ao (nl xs) cap B 60 (World.ownsRow_nil _ _ _ _) (by rw [List.length_take];omega) (hR.take _) hnil (by omega) (Nat.le_refl _)
 have hN:Nt w.heap.size w' v' (val xs):=by
  unfold Nt;rw [←hf];simpa [Nat.min_eq_left hl] using hown
 have hb:Below w.heap.size w w':=(Below.refl _ _).grown hgrow (Nat.le_refl _) (fun k hk=>by simp [Value.ownBlock] at hk)
 have HN:=(qsd (ai hN hb));obtain ⟨k,hk⟩:∃ k,nl xs=k:=⟨_,rfl⟩;rw [hk] at S hap hl;have hkn:k≤n:=by omega
 have HZ:Aside (n=0→val xs=0):=by intro h0;have:xs=[]:=List.length_eq_zero_iff.1 (by omega);rw [this];rfl
 clear hN hb hown hgrow hf hl hn hx hR hk
 rcases hao:ao with _|a
 · have hc0:=hnil hao
   subst hc0;subst hao;obtain rfl:n=0:=by omega
   obtain rfl:k=0:=by omega
   go_enter Tryz.func121,Tryz.ntmps121
   go_wp2_with fail
   refine S.out.mono ?_;rintro r w1 ⟨rfl,rfl⟩;go_wp2;go_ret;rw [HZ.out (by trivial)]
   exact ⟨_,rfl,Nt.nil _ _,Below.refl _ _⟩
 · subst hao
   go_enter Tryz.func121,Tryz.ntmps121
   go_wp2_with fail
   refine S.out.mono ?_;rintro r w1 ⟨rfl,rfl⟩;have HAP:=hid hap;clear hap
   go_wp2_with (at_builtin;refine Zak rfl (.tmp 4) (.tmp 8) rfl _ _ rfl rfl _ _ HAP.out ?_)
   go_ret;exact ⟨_,rfl,HN.out.1,HN.out.2⟩
theorem Zrd (x:Nat) (h:x≠0):bl x=bl (x/2)+1:=by
 by_cases h1:x=1
 · subst h1;decide
 · have hx2:x/2≠0:=by omega
   obtain ⟨c,hc⟩:∃ c,bl (x/2)=c+1:=⟨bl (x/2)-1,by have:=Zv _ hx2;omega⟩
   have a:=Qi _ hx2;have b:=Qo (x/2);rw [hc] at a b ⊢;rw [Nat.add_sub_cancel] at a;exact Zg8 x (c+1) (by rw [Nat.pow_succ];omega) (by rw [Nat.pow_succ];omega)
theorem Jn (xs:List Nat) (ao:Option Addr) (n cap B:Nat) (w:World) (hn:n=xs.length) (hm:n≤70368744177664) (hx:Wf xs) (hR:Rd B w ao xs) :
 Calls Tryz.prog 229 #[.slice ao n cap] w fun r w'=>r=.returned (.int .i64 (bl (val xs):Nat))∧w'=w:=by
 have H:=hid (Jl xs ao n cap B w hn (by omega) hR)
 have hl:=Q7 xs
 rcases hk:nl xs with _|k
 · rw [(Qu xs).1 hk,Zu]
   rw [hk] at H;clear hk hl hn hx hR;go_enter Tryz.func229,Tryz.ntmps229
   go_wp2_with fail
   refine H.out.mono ?_;rintro r w1 ⟨rfl,rfl⟩;go_wp2;go_ret;exact ⟨rfl,rfl⟩
 · have hbw:=Zgt xs hx k hk
   rw [hk] at H hl;obtain ⟨e,hlt,h0,hl2⟩:=Zc1 xs hx k hk;obtain ⟨b,off,hB,rfl,hcell⟩:=hR (by intro e;subst e;simp at hl)
   have hck:=hcell k hl2;obtain ⟨t,ht⟩:∃ t,xs.getD k 0=t:=⟨_,rfl⟩;have htl:t<4294967296:=ht ▸ hx.get k;rw [ht] at hck hbw;have hb:=Zb4 t htl;have hkn:k<n:=by omega
   have HB:=(qsd (ai hbw hb));clear hk hl hn hx hR e hlt h0 hl2 hcell ht hbw hb;go_enter Tryz.func229,Tryz.ntmps229
   go_wp2_with fail
   refine H.out.mono ?_;rintro r w1 ⟨rfl,rfl⟩;go_wp2
   go_loopg [4,5] t (fun gk bv xv wr=>∃ c:Nat,bv=.int .i64 (c:Nat)∧xv=.int .u32 (gk:Nat)∧gk≤t∧c≤32*k+32∧wr=w1∧Aside (c+bl gk=32*k+bl t))
   case atStart=>exact ⟨32*k,by first | go_num | (congr 1;omega),rfl,Nat.le_refl _,by omega,rfl,rfl⟩
   case round =>
    obtain ⟨c,rfl,rfl,hgt,hc,rfl,HA⟩:=hrel
    by_cases hg0:gk=0
    · subst hg0
      go_wp2;go_ret;have h1:=HA.out;rw [Zu,Nat.add_zero] at h1;rw [HB.out.1,←h1];exact ⟨rfl,rfl⟩
    · have hg1:(0:Int)<(gk:Int):=by omega
      obtain ⟨g2,hg2⟩:∃ g,g=gk/2:=⟨_,rfl⟩;have e2:(gk:Int)/2=(g2:Int):=by omega
      have HX:=(qsd (ai hg2 hg0));clear hg2 hg0;go_wp2
      go_roundg g2
      case measure=>obtain ⟨hg2,hg0⟩:=HX.out;omega
      case rel =>
       obtain ⟨hg2,hg0⟩:=HX.out;have h1:=HA.out;have h2:=Zrd gk hg0;rw [←hg2] at h2;have h3:=HB.out.2;exact ⟨c+1,by go_num,by first | rfl | rw [e2],by omega,by omega,rfl,by rw [Aside];omega⟩
structure Arg (w:World) (a:Option Addr) (n c:Nat) (xs:List Nat):Prop where
 len:n=xs.length
 cap:n≤c
 big:n≤35184372088832
 wf:Wf xs
 rd:Rd w.heap.size w a xs
 nil:a=none→c=0
theorem Arg.below {w w':World}{a:Option Addr}{n c:Nat}{xs:List Nat}(h:Arg w a n c xs) (hb:Below w.heap.size w w'):Arg w' a n c xs :=
 ⟨h.len,h.cap,h.big,h.wf,(h.rd.below hb).mono hb.size,h.nil⟩
theorem Nt.arg {lo:Nat}{w:World}{v:Value}{X:Nat}(h:Nt lo w v X) (hs:(ws X).length≤35184372088832):∃ a c,v=.slice a (ws X).length c∧Arg w a (ws X).length c (ws X):=by
 have h':=h;obtain ⟨a,c,rfl,h1,h2,h3⟩:=h.shape;refine ⟨a,c,rfl,rfl,h1,hs,Z8 X,h3,fun e=>?_⟩
 rcases h'.2 with ⟨e1,_⟩|⟨g,cap,cur,e1,_⟩
 · simp only [Value.slice.injEq] at e1;exact e1.2.2
 · simp only [Value.slice.injEq] at e1;rw [e1.1] at e;cases e
theorem Zl4 {X Y i:Nat}(h1:X<pw i) (h2:Y<pw i):X+Y<pw (i+1):=by rw [Zh];omega
theorem Zfa {lo:Nat}{w:World}{r:Ending}{a:Nat×Int}{V:Nat}(h:One lo w r a) (e:a=(V,0)):∃ v,r=.returned (.tuple #[v,.int .i64 0])∧Nt lo w v V:=by
 subst e;exact h
theorem Zjt {w:World}{a b:Option Addr}{n c m d:Nat}{xs ys:List Nat}{V:Nat}(h1:Arg w a n c xs) (h2:Arg w b m d ys) (e:mulS (val xs) (val ys)=(V,0)) :
 Calls Tryz.prog 132 #[.slice a n c,.slice b m d] w fun r w'=>∃ v,r=.returned (.tuple #[v,.int .i64 0])∧Nt w.heap.size w' v V∧Below w.heap.size w w' :=
 (Zjs xs ys a b n c m d w.heap.size w h1.len h2.len h1.cap h2.cap (by have:=h1.big;omega) (by have:=h2.big;omega) h1.wf h2.wf h1.rd h2.rd (Nat.le_refl _)).mono
  fun r w' ⟨ho,hb⟩=>by obtain ⟨v,h3,h4⟩:=Zfa ho e;exact ⟨v,h3,h4,hb⟩
theorem Zb6 {w:World}{a b:Option Addr}{n c m d:Nat}{xs ys:List Nat}{V:Nat}(h1:Arg w a n c xs) (h2:Arg w b m d ys) (e:addS (val xs) (val ys)=(V,0)) :
 Calls Tryz.prog 177 #[.slice a n c,.slice b m d] w fun r w'=>∃ v,r=.returned (.tuple #[v,.int .i64 0])∧Nt w.heap.size w' v V∧Below w.heap.size w w' :=
 (Zjr xs ys a b n c m d w.heap.size w h1.len h2.len h1.cap h2.cap (by have:=h1.big;omega) (by have:=h2.big;omega) h1.wf h2.wf h1.rd h2.rd (Nat.le_refl _)).mono
  fun r w' ⟨ho,hb⟩=>by obtain ⟨v,h3,h4⟩:=Zfa ho e;exact ⟨v,h3,h4,hb⟩
theorem Zb7 {w:World}{a b:Option Addr}{n c m d:Nat}{xs ys:List Nat}{V:Nat}(h1:Arg w a n c xs) (h2:Arg w b m d ys) (e:subS (val xs) (val ys)=(V,0)) :
 Calls Tryz.prog 179 #[.slice a n c,.slice b m d] w fun r w'=>∃ v,r=.returned (.tuple #[v,.int .i64 0])∧Nt w.heap.size w' v V∧Below w.heap.size w w' :=
 (Zrb xs ys a b n c m d w.heap.size w h1.len h2.len h1.cap h2.cap (by have:=h1.big;omega) (by have:=h2.big;omega) h1.wf h2.wf h1.rd h2.rd (Nat.le_refl _)).mono
  fun r w' ⟨ho,hb⟩=>by obtain ⟨v,h3,h4⟩:=Zfa ho e;exact ⟨v,h3,h4,hb⟩
theorem Z5 {w:World}{a:Option Addr}{n c:Nat}{xs:List Nat}{V:Nat}(by':Int) (h1:Arg w a n c xs) (e:shiftS (val xs) by'=(V,0)) (hb0:-9223372036854775808≤by') (hb1:by'≤9223372036854775807) :
 Calls Tryz.prog 129 #[.slice a n c,.int .i64 by'] w fun r w'=>∃ v,r=.returned (.tuple #[v,.int .i64 0])∧Nt w.heap.size w' v V∧Below w.heap.size w w' :=
 (Zd0 xs a n c w.heap.size by' w h1.len h1.cap (by have:=h1.big;omega) h1.wf h1.rd (Nat.le_refl _) hb0 hb1).mono
  fun r w' ⟨ho,hb⟩=>by obtain ⟨v,h3,h4⟩:=Zfa ho e;exact ⟨v,h3,h4,hb⟩
theorem Ze0 {w:World}{a b:Option Addr}{n c m d:Nat}{xs ys:List Nat}(h1:Arg w a n c xs) (h2:Arg w b m d ys) (z:Int) (e:cmpI (val xs) (val ys)=z) :
 Calls Tryz.prog 178 #[.slice a n c,.slice b m d] w fun r w'=>r=.returned (.int .i64 z)∧Below w.heap.size w w':=by
 have:=Zjq xs ys a b n c m d w.heap.size w h1.len h2.len h1.cap h2.cap (by have:=h1.big;omega) (by have:=h2.big;omega) h1.wf h2.wf h1.rd h2.rd
 rw [e] at this;exact this
theorem Zb8 {X Y V:Nat}(h3:¬ LG V) (e:X+Y=V):addS X Y=(V,0):=by subst e;unfold addS;rw [if_neg h3]
theorem Zb9 {X Y V:Nat}(h1:¬ LG X) (h2:¬ LG Y) (e:V+Y=X):subS X Y=(V,0):=by unfold subS;rw [if_neg (by simp [h1,h2]),if_neg (by omega)];congr 1;omega
def Bl (w:World) (g T:Nat) (C:List Value):Prop:=w.heap[g]?=some (.cells C.toArray T (0,0))
theorem Bl.lt {w:World}{g T:Nat}{C:List Value}(h:Bl w g T C):g<w.heap.size:=(Array.getElem?_eq_some_iff.1 h).1
theorem Bl.cell {w:World}{g T:Nat}{C:List Value}(h:Bl w g T C) (i:Nat) (v:Value) (hv:C[i]?=some v):w.cell? ⟨g,i,none⟩=some v:=by
 unfold Bl at h;simp [World.cell?,h,hv]
theorem Bl.frozen {w:World}{g T:Nat}{C:List Value}(h:Bl w g T C) (i:Nat):w.frozen? ⟨g,i,none⟩=false:=by
 unfold Bl at h;simp [World.frozen?,h]
theorem Bl.set {w:World}{g T:Nat}{C:List Value}(h:Bl w g T C) (i:Nat) (v:Value):Bl (w.setCell ⟨g,i,none⟩ v) g T (C.set i v):=by
 unfold Bl at h ⊢;simp [World.setCell,Array.getElem?_modify,h]
theorem Bl.drew {w:World}{g T:Nat}{C:List Value}(h:Bl w g T C):Bl w.drew g T C:=h
theorem Bl.below {w w':World}{g T B:Nat}{C:List Value}(h:Bl w g T C) (hb:Below B w w') (hg:g<B):Bl w' g T C:=by
 unfold Bl at h ⊢;rw [hb.block g hg];exact h
theorem Bl.but {w w':World}{g g' T:Nat}{C:List Value}(h:Bl w g T C) (hb:But g' w w') (hg:g≠g'):Bl w' g T C:=by
 unfold Bl at h ⊢;rw [hb.block g (Bl.lt h) hg];exact h
theorem Bl.range {w:World}{g T:Nat}{C:List Value}(h:Bl w g T C) (o:Nat) (cs:List Value) (hc:∀ j v,cs[j]?=some v→C[o+j]?=some v):w.rangeAt g o cs :=
 fun j v hv=>h.cell _ _ (hc j v hv)
theorem Bl.there {w:World}{g T:Nat}{C:List Value}(h:Bl w g T C) (o n:Nat) (hn:o+n≤C.length):w.there g o n :=
 fun j hj=>⟨by rw [h.cell (o+j) _ (List.getElem?_eq_getElem (by omega))];rfl,h.frozen _⟩
theorem Bl.setCells {g T:Nat}:∀ (vs:List Value) (o:Nat) {w:World}{C:List Value}(h:Bl w g T C) (hn:o+vs.length≤C.length),Bl (w.setCells g o vs) g T (C.take o++vs++C.drop (o+vs.length))
 | [],o,w,C,h,hn=>by simpa [World.setCells] using h
 | v::r,o,w,C,h,hn=>by
   rw [World.setCells];have:=Bl.setCells r (o+1) (h.set o v) (by simp at hn ⊢;omega)
   simp only [List.length_cons] at hn
   have e:(C.set o v).take (o+1)++r++(C.set o v).drop (o+1+r.length)=C.take o++(v::r)++C.drop (o+(v::r).length):=by
    rw [List.drop_set,if_pos (by omega),List.take_succ_eq_append_getElem (by simp;omega),List.getElem_set_self,List.take_set,List.set_eq_of_length_le (by simp;omega)]
    simp [Nat.add_assoc,Nat.add_comm 1]
   rw [e] at this;exact this
theorem Bl.setAll {g T:Nat}{w:World}{C vs:List Value}(h:Bl w g T C) (hn:vs.length=C.length):Bl (w.setCells g 0 vs) g T vs:=by
 have:=Bl.setCells vs 0 h (by omega)
 rw [hn] at this;simpa using this
theorem But.setCells {g:Nat}{a:World}:∀ (vs:List Value) (o:Nat) {w:World}(h:But g a w),But g a (w.setCells g o vs)
 | [],o,w,h=>h
 | v::r,o,w,h=>by rw [World.setCells];exact But.setCells r (o+1) (h.set o v)
theorem Zd (w:World) (o:Obj):Below w.heap.size w (w.alloc o):=(Below.refl _ _).alloc (Nat.le_refl _) _
theorem Bl.alloc {w:World}{g T:Nat}{C:List Value}(h:Bl w g T C) (o:Obj):Bl (w.alloc o) g T C:=by
 unfold Bl at h ⊢;rw [(Zd w o).block g (Bl.lt h)];exact h
theorem Bl.new (w:World) (T:Nat) (C:List Value):Bl (w.alloc (.cells C.toArray T)) w.heap.size T C:=by
 unfold Bl;rw [heap_alloc_new]
theorem Bl.new' (w:World) (T n:Nat) (C:List Value) (hn:n=w.heap.size):Bl (w.alloc (.cells C.toArray T)) n T C:=by
 subst hn;exact Bl.new w T C
theorem Wb.bl {w:World}{g:Nat}{L:List Nat}(h:Wb w g L):Bl w g 161 (L.map U):=h
theorem Bl.wb {w:World}{g:Nat}{L:List Nat}(h:Bl w g 161 (L.map U)):Wb w g L:=h
theorem Zl5 (L:List Nat):((L.map U).toArray).all (·.oneCell')=true:=all_oneCell_toArray fun v hv=>by
 obtain ⟨x,_,rfl⟩:=List.mem_map.1 hv;rfl
theorem Tryz.zero_words:Tryz.zeroCells161=(List.replicate 133 (Value.int .u32 0)).toArray:=by kernel_rfl
theorem Tryz.size_words:(Tryz.prog.info? 161).map (·.size)=some 133:=by kernel_rfl
theorem Tryz.desc_words:Tryz.prog.underlying 161=some (.array 133 147):=by kernel_rfl
theorem Zbc (x y n:Int):(x%n+y)%n=(x+y)%n:=by simp
def Ym (ng:Bool) (T:Nat):Int:=if ng then -(T:Int) else (T:Int)
theorem Zoa (ng:Bool):Ym ng 0=0:=by cases ng <;> simp [Ym]
theorem Zju (ng:Bool) (a b:Nat):Ym ng (a+b)=Ym ng a+Ym ng b:=by cases ng <;> simp [Ym];omega
theorem Zd1 (xs:List Nat) (k p:Nat) (hk:k<xs.length):val (xs.take (k+1))*2^p=val (xs.take k)*2^p+xs.getD k 0*2^(p+32*k):=by
 rw [Qk xs k hk,Nat.add_mul,Ziv,Nat.pow_add]
 congr 1
 rw [Nat.mul_comm (2^(32*k)),Nat.mul_assoc,Nat.mul_comm (2^(32*k))]
theorem Zob (L xs:List Nat) (ao:Option Addr) (n cap p:Nat) (kd:Int) (ng:Bool) (w:World) (hl:L.length=133) (hL:Wf L) (hA:Arg w ao n cap xs) (hp:p+32*n≤4256) :
 Calls Tryz.prog 184 #[.agg (L.map U).toArray,.agg #[.int .i64 kd,.bool ng,.slice ao n cap,.int .i64 (p:Nat)]] w fun r w' =>
  ∃ M,r=.returned (.agg (M.map U).toArray)∧M.length=133∧Wf M∧(val M:Int)=((val L:Int)+Ym ng (val xs*2^p))%(PB:Int)∧Below w.heap.size w w':=by
 have HR:Aside (Wf L∧L.length=133∧Arg w ao n cap xs):=⟨hL,hl,hA⟩;clear hL hl hA;go_enter Tryz.func184,Tryz.ntmps184;go_wp2;obtain ⟨w3,hw3⟩:∃ w3,w3=(((w.alloc (Obj.cells (L.map U).toArray 161)).alloc (Obj.cells #[Value.int IntKind.i64 kd,Value.bool ng,Value.slice ao n cap,Value.int IntKind.i64 (p:Nat)] 166)).alloc (Obj.cells Tryz.zeroCells161 161)):=⟨_,rfl⟩;rw [←hw3]
 have H3:Aside (Below w.heap.size w w3∧Wb w3 w.heap.size L∧Bl w3 (w.heap.size+1) 166 [Value.int IntKind.i64 kd,Value.bool ng,Value.slice ao n cap,Value.int IntKind.i64 (p:Nat)]∧Bl w3 (w.heap.size+1+1) 161 (List.replicate 133 (Value.int .u32 0))∧w3.heap.size=w.heap.size+3):=by
  subst hw3;refine ⟨?_,?_,?_,?_,by simp⟩
  · exact ((Zd w _).trans ((Zd _ _).mono (by simp))).trans ((Zd _ _).mono (by simp;omega))
  · exact (((Bl.new w 161 (L.map U)).alloc _).alloc _).wb
  · exact (Bl.new' (w.alloc (Obj.cells (L.map U).toArray 161)) 166 _ [_,_,_,_] (by simp)).alloc _
  · rw [Tryz.zero_words];exact Bl.new' _ 161 _ _ (by simp)
 clear hw3
 go_loopg [10] n (fun gk i wr=>∃ (k:Nat) (M:List Nat),gk+k=n∧i=.int .i64 (k:Nat) ∧
  Aside (Wb wr w.heap.size M∧Wf M∧M.length=133∧(val M:Int)=((val L:Int)+Ym ng (val (xs.take k)*2^p))%(PB:Int)∧But w.heap.size w3 wr))
 case atStart=>exact ⟨0,L,by omega,by simp,H3.out.2.1,HR.out.1,HR.out.2.1,by simp only [List.take_zero,val,Nat.zero_mul,Zoa,Int.add_zero];rw [Int.emod_eq_of_lt (by omega) (by have:=Jy HR.out.2.1 HR.out.1;omega)],But.refl _ _⟩
 case round =>
  obtain ⟨k,M,hgk,rfl,HA⟩:=hrel
  by_cases hk:k<n
  · obtain ⟨hL,hl,hA⟩:=HR.out
    obtain ⟨hM,hMw,hMl,hMs,hbut⟩:=HA.out;obtain ⟨b3,_,T3,Z3,s3⟩:=H3.out;obtain ⟨b,boff,hbB,rfl,hbc⟩:=hA.rd (by intro e;subst e;have:=hA.len;simp at this;omega)
    have hbk:wr.cell? ⟨b,boff+k,none⟩=some (.int .u32 ((xs.getD k 0:Nat):Int)):=by
     have h0:=b3.block b hbB;have h1:=hbut.block b (by omega) (by omega)
     exact (World.cell?_of_block (a:=⟨b,boff+k,none⟩) (h1.trans h0)).trans (hbc k (by rw [←hA.len];omega))
    have T4:=T3.but hbut (by omega)
    have c1:=T4.cell 1 _ rfl;have c3:=T4.cell 3 _ rfl;obtain ⟨y,hy⟩:∃ y:Nat,xs.getD k 0=y:=⟨_,rfl⟩;have hyl:y<4294967296:=hy ▸ hA.wf.get _;rw [hy] at hbk;have HX:Aside (xs.getD k 0=y):=hy;have HB:Aside (∀ i,i<xs.length→w.cell? ⟨b,boff+i,none⟩=some (.int .u32 ((xs.getD i 0:Nat):Int))):=hbc;clear hy hL hl hA hM hMw hMl hMs hbut b3 T3 Z3 s3 T4 hbc
    cases ng
    · go_wp2_with fail
      rw [show (p:Int)+32*(k:Int)=((p+32*k:Nat):Int) by simp]
      obtain ⟨hM,hMw,hMl,hMs,hbut⟩:=HA.out;refine (Calls.mono (Znt M w.heap.size y (p+32*k) wr hM hMl hMw hyl (by omega)) ?_)
      rintro r w' ⟨rfl,M',hM',hMl',hMw',hv',hb'⟩;have HA':Aside (Wb w' w.heap.size M'∧Wf M'∧M'.length=133∧val M'=(val M+y*2^(p+32*k))%PB∧But w.heap.size wr w'):=⟨hM',hMw',hMl',hv',hb'⟩;clear hM hMw hMl hMs hbut hM' hMl' hMw' hv' hb';go_wp2
      go_roundg (gk-1)
      case measure=>omega
      case rel =>
       obtain ⟨hM',hMw',hMl',hv',hb'⟩:=HA'.out;obtain ⟨hM,hMw,hMl,hMs,hbut⟩:=HA.out;refine ⟨k+1,M',by omega,by simp,hM',hMw',hMl',?_,hbut.trans hb'⟩
       rw [Zd1 xs k p (by rw [←HR.out.2.2.len];exact hk),HX.out,Zju,←Int.add_assoc,←Zbc,←hMs,hv']
       simp [Ym]
    · go_wp2_with fail
      rw [show (p:Int)+32*(k:Int)=((p+32*k:Nat):Int) by simp]
      obtain ⟨hM,hMw,hMl,hMs,hbut⟩:=HA.out;refine (Calls.mono (Zlo M w.heap.size y (p+32*k) wr hM hMl hMw hyl (by omega)) ?_)
      rintro r w' ⟨rfl,M',hM',hMl',hMw',hv',hb'⟩;have HA':Aside (Wb w' w.heap.size M'∧Wf M'∧M'.length=133∧(val M':Int)=((val M:Int)-((y*2^(p+32*k):Nat):Int))%(PB:Int)∧But w.heap.size wr w'):=⟨hM',hMw',hMl',hv',hb'⟩;clear hM hMw hMl hMs hbut hM' hMl' hMw' hv' hb';go_wp2
      go_roundg (gk-1)
      case measure=>omega
      case rel =>
       obtain ⟨hM',hMw',hMl',hv',hb'⟩:=HA'.out;obtain ⟨hM,hMw,hMl,hMs,hbut⟩:=HA.out;refine ⟨k+1,M',by omega,by simp,hM',hMw',hMl',?_,hbut.trans hb'⟩
       rw [Zd1 xs k p (by rw [←HR.out.2.2.len];exact hk),HX.out,Zju,←Int.add_assoc,←Zbc,←hMs,hv']
       simp only [Ym,if_true,Int.sub_eq_add_neg]
  · obtain rfl:k=n:=by omega
    obtain ⟨hM,hMw,hMl,hMs,hbut⟩:=HA.out;obtain ⟨b3,_,T3,Z3,s3⟩:=H3.out;have HZ:Aside (Bl wr (w.heap.size+1+1) 161 (List.replicate 133 (Value.int .u32 0))):=Z3.but hbut (by omega)
    have HB:Aside (Below w.heap.size w w3∧w3.heap.size=w.heap.size+3):=⟨b3,s3⟩;clear hM hMw hMl hMs hbut b3 T3 Z3 s3
    go_wp2_with (first
     | (with_reducible refine wpList_load_mid (P:=Tryz.prog) rfl 161 (.tmp 2) rfl w.heap.size 0 rfl (M.map U) _ (HA.out.1.bl.range 0 _ (fun j v hv=>by simpa using hv)) Tryz.desc_words rfl (by simp [Tryz.size_words,HA.out.2.2.1]) ?_)
     | (with_reducible refine wpList_store_mid (P:=Tryz.prog) rfl 161 (.tmp 4) (.tmp 32) rfl (w.heap.size+1+1) 0 (M.map U).toArray rfl rfl (HZ.out.there 0 _ (by simp [HA.out.2.2.1])) (by simp [Tryz.size_words,HA.out.2.2.1]) (Zl5 M) ?_))
    have hZ:Bl (wr.setCells (w.heap.size+1+1) 0 (M.map U)) (w.heap.size+1+1) 161 (M.map U):=HZ.out.setAll (by simp [HA.out.2.2.1])
    refine bodyPost_ret (v:=.agg (M.map U).toArray) (results_cell_row (P:=Tryz.prog) Tryz.results184 _ _ (w.heap.size+1+1) 161 _ _ _ rfl hZ Tryz.desc_words rfl (by simp [Tryz.size_words,HA.out.2.2.1])) rfl ?_
    obtain ⟨hM,hMw,hMl,hMs,hbut⟩:=HA.out;obtain ⟨b3,s3⟩:=HB.out;refine ⟨M,rfl,hMl,hMw,?_,?_⟩
    · rw [hMs,List.take_of_length_le (by rw [←HR.out.2.2.len];exact Nat.le_refl _)]
    · exact But.below (But.below b3 hbut (by omega) (Nat.le_refl _)) (But.setCells _ _ (But.refl _ _)) (by have:=hbut.size;omega) (by omega)
def Hd (w:World) (g:Nat) (L:List Nat):Prop:=g<w.heap.size∧∀ i,i<L.length→w.cell? ⟨g,i,none⟩=some (.int .u32 ((L.getD i 0:Nat):Int))
theorem Hd.below {w w':World}{g B:Nat}{L:List Nat}(h:Hd w g L) (hb:Below B w w') (hg:g<B) (hB:B≤w.heap.size):Hd w' g L :=
 ⟨by have:=hb.size;omega,fun i hi=>(hb.cell (p:=⟨g,i,none⟩) hg).trans (h.2 i hi)⟩
theorem Bl.hd {w:World}{g T:Nat}{L:List Nat}{C:List Value}(h:Bl w g T (L.map U++C)):Hd w g L :=
 ⟨h.lt,fun i hi=>h.cell i _ (by rw [List.getElem?_append_left (by simpa using hi)];simp [U,List.getD_eq_getElem?_getD,List.getElem?_eq_getElem hi])⟩
theorem Wb.hd {w:World}{g:Nat}{L:List Nat}(h:Wb w g L):Hd w g L:=⟨h.lt,fun i hi=>h.cell i hi⟩
theorem Tryz.plain_u32:Tryz.prog.plainKey 147=true:=by kernel_rfl
theorem Tryz.cells_u32:Tryz.prog.cellsOf 147=1:=by kernel_rfl
theorem Tryz.under_u32:Tryz.prog.underlying 147=some (.int .u32):=by kernel_rfl
theorem Tryz.there_u32:(Tryz.prog.info? 147).isSome=true:=by kernel_rfl
theorem Zgz (L K:List Nat) (d:Nat) (w:World):∀ (is:List Nat),(∀ i ∈ is,i<L.length∧i<K.length) →
 (Op.eqItems (d+1) 147 1 (L.map U).toArray (K.map U).toArray is).run Tryz.prog w=.ok (decide (∀ i ∈ is,L.getD i 0=K.getD i 0)) w
 | [],_=>by simp [Op.eqItems]
 | i::is,h=>by
   obtain ⟨h1,h2⟩:=h i (by simp)
   have ih:=Zgz L K d w is (fun j hj=>h j (by simp [hj]))
   have p1:(part 147 (L.map U).toArray (i*1)).run Tryz.prog w=.ok (.int .u32 ((L.getD i 0:Nat):Int)) w :=
    run_part_plain _ Tryz.plain_u32 (by simp [U,List.getD_eq_getElem?_getD,List.getElem?_eq_getElem h1])
   have p2:(part 147 (K.map U).toArray (i*1)).run Tryz.prog w=.ok (.int .u32 ((K.getD i 0:Nat):Int)) w :=
    run_part_plain _ Tryz.plain_u32 (by simp [U,List.getD_eq_getElem?_getD,List.getElem?_eq_getElem h2])
   simp only [Op.eqItems,Sem.run_bind,p1,p2,Result.andThen_ok,run_equalIn_int w d 147 .u32 .u32 _ _ Tryz.under_u32]
   by_cases e:L.getD i 0=K.getD i 0
   · rw [e]
     simp only [beq_self_eq_true,Bool.not_true];rw [if_neg (by decide),ih]
     simp only [List.mem_cons,forall_eq_or_imp,e,true_and]
   · have e2:(((L.getD i 0:Nat):Int)==((K.getD i 0:Nat):Int))=false:=by simp only [beq_eq_false_iff_ne,ne_eq];omega
     rw [e2];simp only [List.mem_cons,forall_eq_or_imp,e,false_and,decide_false,Bool.not_false,if_true,Sem.run_pure]
theorem Zoc (L K:List Nat) (w:World) (hl:L.length=133) (hk:K.length=133) :
 (Op.equalIn 10000 161 (.agg (L.map U).toArray) (.agg (K.map U).toArray)).run Tryz.prog w=.ok (decide (L=K)) w:=by
 obtain ⟨i,hi⟩:=Option.isSome_iff_exists.1 Tryz.there_u32;rw [show (10000:Nat)=9999+1 by rfl,run_equalIn_array _ 9999 _ _ Tryz.desc_words hi,Tryz.cells_u32,show (9999:Nat)=9998+1 by rfl,Zgz L K 9998 w (List.range 133) (fun i hi=>by simp at hi;omega)]
 congr 1
 rw [decide_eq_decide]
 constructor
 · intro h
   apply List.ext_getElem (by omega)
   intro i h1 h2;have:=h i (by simp;omega)
   simpa [List.getD_eq_getElem?_getD,List.getElem?_eq_getElem h1,List.getElem?_eq_getElem h2] using this
 · rintro rfl i _;rfl
def lowL:List Nat:=List.replicate 132 0++[4294950912]
theorem Tryz.low_words:Tryz.zeroCells161.setIfInBounds 132 (Value.int IntKind.u32 4294950912)=(lowL.map U).toArray:=by kernel_rfl
theorem Zg0:lowL.length=133:=by simp [lowL]
theorem Zod (g t:Nat) (w:World) (hc:w.cell? ⟨g,132,none⟩=some (.int .u32 (t:Nat))) (ht:t<2147483648) :
 Calls Tryz.prog 141 #[.pointer (some ⟨g,0,none⟩)] w fun r w'=>r=.returned (.bool false)∧w'=w:=by
 go_enter Tryz.func141,Tryz.ntmps141;go_wp2;refine bodyPost_ret (v:=.bool false) (by simp [results,Tryz.results141,go_sem]) rfl ⟨rfl,rfl⟩
theorem Zoe (g t:Nat) (w:World) (hc:w.cell? ⟨g,132,none⟩=some (.int .u32 (t:Nat))) (ht0:2147483648≤t) (ht:t<4294967296) :
 Calls Tryz.prog 141 #[.pointer (some ⟨g,0,none⟩)] w fun r w'=>r=.returned (.bool true)∧w'=w:=by
 have hw:wrap32 (t:Int)=(t:Int)-4294967296:=by unfold wrap32;omega
 go_enter Tryz.func141,Tryz.ntmps141;go_wp2;refine bodyPost_ret (v:=.bool true) (by simp [results,Tryz.results141,go_sem];omega) rfl ⟨rfl,rfl⟩
theorem Zl6 (g t:Nat) (w:World) (hc:w.cell? ⟨g,132,none⟩=some (.int .u32 (t:Nat))) (ht:t<16384) :
 Calls Tryz.prog 218 #[.pointer (some ⟨g,0,none⟩)] w fun r w'=>r=.returned (.bool false)∧w'=w:=by
 have hw:((t:Int)/16384==0)=true:=by simp;omega
 go_enter Tryz.func218,Tryz.ntmps218;go_wp2;refine bodyPost_ret (v:=.bool false) (by simp [results,Tryz.results218,go_sem]) rfl ⟨rfl,rfl⟩
theorem Zif (g t:Nat) (w:World) (hc:w.cell? ⟨g,132,none⟩=some (.int .u32 (t:Nat))) (ht0:16384≤t) (ht:t<4294950912) :
 Calls Tryz.prog 218 #[.pointer (some ⟨g,0,none⟩)] w fun r w'=>r=.returned (.bool true)∧w'=w:=by
 have hw0:(wrap32 (t:Int)/16384==0)=false:=by simp;unfold wrap32;omega
 have hw1:(wrap32 (t:Int)/16384==-1)=false:=by simp;unfold wrap32;omega
 go_enter Tryz.func218,Tryz.ntmps218;go_wp2;refine bodyPost_ret (v:=.bool true) (by simp [results,Tryz.results218,go_sem]) rfl ⟨rfl,rfl⟩
theorem Zl7 (g t:Nat) (L:List Nat) (w:World) (hc:w.cell? ⟨g,132,none⟩=some (.int .u32 (t:Nat))) (hr:w.rangeAt g 0 (L.map U)) (hl:L.length=133) (ht0:4294950912≤t) (ht:t<4294967296) :
 Calls Tryz.prog 218 #[.pointer (some ⟨g,0,none⟩)] w fun r w'=>r=.returned (.bool (decide (L=lowL)))∧w'=w:=by
 have hw0:(wrap32 (t:Int)/16384==0)=false:=by simp;unfold wrap32;omega
 have hw1:(wrap32 (t:Int)/16384==-1)=true:=by simp;unfold wrap32;omega
 have HL:Aside (L.length=133∧w.rangeAt g 0 (L.map U)):=⟨hl,hr⟩;clear hl hr;go_enter Tryz.func218,Tryz.ntmps218
 go_wp2_with (first | (with_reducible refine wpList_load_mid (P:=Tryz.prog) rfl 161 (.tmp 14) rfl g 0 rfl (L.map U) _ HL.out.2 Tryz.desc_words rfl (by simp [Tryz.size_words,HL.out.1]) ?_))
 rw [Tryz.low_words,Zoc L _ w HL.out.1 Zg0];generalize hb:decide (L=lowL)=b;generalize hK:lowL=K at hb;have HK:Aside (decide (L=lowL)=b):=by rw [hK];exact hb
 clear hb hK;simp only [Result.andThen_ok,Oper.upon];go_wp2;exact bodyPost_ret (v:=.bool b) (by simp [results,Tryz.results218,go_sem]) rfl ⟨by rw [HK.out],rfl⟩
def HB:Nat:=16384*pw 132
theorem Zbi:0<HB:=Nat.mul_pos (by decide) (Qj _)
theorem Zfb:PB=4294967296*pw 132:=by unfold PB;exact Zh 132
attribute [irreducible] HB
theorem Zpe:HB=16384*pw 132:=by unfold HB;rfl
theorem Zjv (L:List Nat) (hl:L.length=133) (hL:Wf L):∃ r,r<pw 132∧val L=r+pw 132*L.getD 132 0:=by
 refine ⟨val (L.take 132),?_,?_⟩
 · have:=val_lt (L.take 132) (hL.take 132)
   rwa [show (L.take 132).length=132 by simp;omega] at this
 · have h:=Qk L 132 (by omega)
   rwa [List.take_of_length_le (by omega)] at h
theorem Zof:val lowL=4294950912*pw 132:=by
 unfold lowL;rw [Qg,Yg,List.length_replicate,Nat.zero_add,Nat.mul_comm];rfl
theorem Zre:Wf lowL:=by
 intro y hy;unfold lowL at hy
 rcases List.mem_append.1 hy with h|h
 · have:=List.eq_of_mem_replicate h;omega
 · have:=List.mem_singleton.1 h;omega
theorem val_inj {L K:List Nat}(hl:L.length=K.length) (hL:Wf L) (hK:Wf K) (h:val L=val K):L=K:=by
 induction L generalizing K with
 | nil=>cases K <;> simp_all
 | cons x xs ih =>
   cases K with
   | nil=>simp at hl
   | cons y ys =>
     simp only [val] at h;have h1:=hL.head;have h2:=hK.head;have e1:x=y:=by omega
     have e2:val xs=val ys:=by omega
     rw [e1,ih (by simpa using hl) hL.tail hK.tail e2]
def Zbm (N:Nat):Bool:=decide (PB≤2*N)
theorem Zd2 (g:Nat) (L:List Nat) (w:World) (hl:L.length=133) (hL:Wf L) (hH:Hd w g L) :
 Calls Tryz.prog 141 #[.pointer (some ⟨g,0,none⟩)] w fun r w'=>r=.returned (.bool (Zbm (val L)))∧w'=w:=by
 have hc:=hH.2 132 (by omega)
 obtain ⟨r,hr,hv⟩:=Zjv L hl hL;have ht:=hL.get 132;generalize L.getD 132 0=t at hc hv ht;have h0:=Qj 132
 by_cases h:t<2147483648
 · have e:Zbm (val L)=false:=by
    unfold Zbm;rw [decide_eq_false_iff_not,hv,Zfb];generalize pw 132=q at hr h0 ⊢;have:q*t≤q*2147483647:=Nat.mul_le_mul_left _ (by omega)
    omega
   rw [e];exact Zod g t w hc h
 · have e:Zbm (val L)=true:=by
    unfold Zbm;rw [decide_eq_true_iff,hv,Zfb];generalize pw 132=q at hr h0 ⊢;have:q*2147483648≤q*t:=Nat.mul_le_mul_left _ (by omega)
    omega
   rw [e];exact Zoe g t w hc (by omega) ht
def bey (N:Nat):Bool:=decide (HB≤N∧N≤PB-HB)
theorem Zcr (g:Nat) (L:List Nat) (w:World) (hl:L.length=133) (hL:Wf L) (hH:Hd w g L) :
 Calls Tryz.prog 218 #[.pointer (some ⟨g,0,none⟩)] w fun r w'=>r=.returned (.bool (bey (val L)))∧w'=w:=by
 have hc:=hH.2 132 (by omega)
 obtain ⟨r,hr,hv⟩:=Zjv L hl hL;have ht:=hL.get 132
 have hg:w.rangeAt g 0 (L.map U):=fun j v hj=>by
  have hj2:j<L.length:=by have:=(List.getElem?_eq_some_iff.1 hj).1;simpa using this
  rw [Nat.zero_add,hH.2 j hj2,←hj,List.getElem?_map,List.getElem?_eq_getElem hj2,List.getD_eq_getElem?_getD,List.getElem?_eq_getElem hj2]
  rfl
 generalize htt:L.getD 132 0=t at hc hv ht;have h0:=Qj 132;have eP:=Zfb;have eH:=Zpe;have eL:=Zof;generalize pw 132=q at hr h0 hv eP eH eL
 by_cases h:t<16384
 · have e:bey (val L)=false:=by
    unfold bey;rw [decide_eq_false_iff_not,hv];have:q*t≤q*16383:=Nat.mul_le_mul_left _ (by omega)
    omega
   rw [e];exact Zl6 g t w hc h
 by_cases h2:t<4294950912
 · have e:bey (val L)=true:=by
    unfold bey;rw [decide_eq_true_iff,hv];have a1:q*16384≤q*t:=Nat.mul_le_mul_left _ (by omega)
    have a2:q*t≤q*4294950911:=Nat.mul_le_mul_left _ (by omega)
    omega
   rw [e];exact Zif g t w hc (by omega) h2
 · have e:bey (val L)=decide (L=lowL):=by
    unfold bey;rw [decide_eq_decide]
    constructor
    · intro hb
      have a1:q*4294950912≤q*t:=Nat.mul_le_mul_left _ (by omega)
      refine val_inj (by rw [hl,Zg0]) hL Zre ?_
      rw [eL];omega
    · rintro rfl
      rw [eL];omega
   rw [e];exact Zl7 g t L w hc hg hl (by omega) ht
theorem Tryz.desc_row:Tryz.prog.underlying 59=some (.slice 147):=by kernel_rfl
theorem Zl8 (b n c:Nat) (L:List Nat) (w:World) (hl:L.length=n) (hn:n≤1000) (hH:Hd w b L) :
 Calls Tryz.prog 187 #[.slice (some ⟨b,0,none⟩) n c] w fun r w'=>∃ v',r=.returned v'∧w'.ownsRow w.heap.size 147 1 v' n (L.map U)∧v'≠.slice none 0 0∧Below w.heap.size w w':=by
 obtain ⟨i0,hi,hz0,hz1,hz2⟩:=info_parts Tryz.info147;have q59:∀ (w:World) (a:Option Addr) (n c n' c':Nat),(binOp .eql 59 (.slice a n c) (.slice none n' c')).run Tryz.prog w=.ok (.bool a.isNone) w:=fun w a n c n' c'=>Lib.run_eql_slice_nil w _ _ a n c n' c' Tryz.desc_row
 have A:Aside (L.length=n∧Hd w b L):=⟨hl,hH⟩;clear hl hH;go_enter Tryz.func187,Tryz.ntmps187
 go_wp2_with (at_builtin;refine wpList_append_own _ rfl _ _ 59 rfl w.heap.size 147 i0 (.int .u32 0) 1 4 Tryz.desc_row hi hz0 hz1 hz2 rfl (by decide) _ _ _ rfl (World.ownsRow_made w #[] 0 (Nat.le_refl _) (Nat.zero_le _) (by simp)) ⟨b,0,none⟩ n c (L.map U) rfl ?qc1 ?qc2 ?qc3 ?qc4 ?qc5 ?qc6 ?_)
 case qc1=>simp [A.out.1]
 case qc2 =>
  intro j u hj;have hj2:j<L.length:=by have:=(List.getElem?_eq_some_iff.1 hj).1;simpa using this
  rw [Addr.add_lit];refine Lib.cell?_alloc_some _ ?_
  rw [Nat.zero_add,A.out.2.2 j hj2,←hj,List.getElem?_map,List.getElem?_eq_getElem hj2,List.getD_eq_getElem?_getD,List.getElem?_eq_getElem hj2]
  rfl
 case qc3=>intro u hu;obtain ⟨x,_,rfl⟩:=List.mem_map.1 hu;rfl
 case qc4=>unfold maxLen;omega
 case qc5=>omega
 case qc6=>simp
 intro v' w1 hown hgrow hnil;go_wp2;go_ret;refine ⟨v',rfl,by simpa using hown,hnil,?_⟩
 exact ((Below.refl _ w).alloc (Nat.le_refl _) _).grown hgrow (by simp) (by intro k hk;simp [Value.ownBlock] at hk;omega)
theorem Zth (a b:Nat) (ha:a<4294967296) (hb:b<4294967296):bits .xor .u32 (a:Int) (b:Int)=((a ^^^ b:Nat):Int):=by
 have hx:a ^^^ b<2^32:=Nat.xor_lt_two_pow (by omega) (by omega)
 show IntKind.u32.wrap ((BitVec.ofInt 32 (a:Int) ^^^ BitVec.ofInt 32 (b:Int)).toNat:Int)=_
 rw [BitVec.toNat_xor,Yq a ha,Yq b hb,Jv];omega
theorem Zrf (x:Nat) (h:x<4294967296):bits BinOp.xor IntKind.u32 IntKind.u32.max (x:Int)=((4294967295-x:Nat):Int):=by
 have e:IntKind.u32.max=((4294967295:Nat):Int):=by decide
 rw [e,Zth _ _ (by decide) h]
 congr 1
 have h1:(BitVec.allOnes 32 ^^^ BitVec.ofNat 32 x)= ~~~ (BitVec.ofNat 32 x):=BitVec.allOnes_xor;have h2:=congrArg BitVec.toNat h1;simp only [BitVec.toNat_xor,BitVec.toNat_allOnes,BitVec.toNat_not,BitVec.toNat_ofNat] at h2;rw [Nat.mod_eq_of_lt (by omega)] at h2
 exact h2
theorem Zl9 (M L:List Nat) (k c s d:Nat) (hM:M.length=133) (hL:L.length=133) (hk:k<133) (hx:L.getD k 0<4294967296) (ho:∀ j,k≤j→M.getD j 0=L.getD j 0) (e:s+d*4294967296=c+(4294967295-L.getD k 0)) (h:sg M 0 k+c*pw k+sg L 0 k=pw k) :
 sg (M.set k s) 0 (k+1)+d*pw (k+1)+sg L 0 (k+1)=pw (k+1):=by
 have h1:=Zl M 0 k s (by omega)
 rw [Nat.zero_add] at h1;rw [h1,Zi L 0 k (by omega),Nat.zero_add,Zh]
 have e2:(s+d*4294967296+L.getD k 0)*pw k=(c+4294967295)*pw k:=by congr 1;omega
 simp only [Nat.add_mul,Nat.mul_assoc] at e2;rw [Nat.mul_comm (pw k) s,Nat.mul_comm (pw k) (L.getD k 0)];omega
theorem Zog (L:List Nat) (lo g cap:Nat) (w:World) (hl:L.length=133) (hL:Wf L) (hR:w.ownsRow lo 147 1 (.slice (some ⟨g,0,none⟩) 133 cap) 133 (L.map U)) :
 Calls Tryz.prog 188 #[.slice (some ⟨g,0,none⟩) 133 cap] w fun r w' =>
  r=.returned (.tuple #[])∧∃ M,w'.ownsRow lo 147 1 (.slice (some ⟨g,0,none⟩) 133 cap) 133 (M.map U)∧M.length=133∧Wf M∧val M=(PB-val L)%PB∧But g w w':=by
 have HR:Aside (Wf L∧L.length=133∧w.ownsRow lo 147 1 (.slice (some ⟨g,0,none⟩) 133 cap) 133 (L.map U)):=⟨hL,hl,hR⟩;clear hL hl hR;go_enter Tryz.func188,Tryz.ntmps188;go_wp2
 go_loopg [2,7] 133 (fun gk c i wr=>∃ (k cv:Nat) (M:List Nat),gk+k=133∧i=.int .i64 (k:Nat)∧c=.int .u64 (cv:Nat)∧cv<2 ∧
  Hid (wr.ownsRow lo 147 1 (.slice (some ⟨g,0,none⟩) 133 cap) 133 (M.map U))∧Aside (Wf M∧M.length=133∧(∀ j,k≤j→M.getD j 0=L.getD j 0)∧sg M 0 k+cv*pw k+sg L 0 k=pw k∧But g w wr))
 case atStart=>exact ⟨0,1,L,by omega,by simp,by simp,by omega,HR.out.2.2,HR.out.1,HR.out.2.1,fun _ _=>rfl,by simp [Zy],But.refl _ _⟩
 case round =>
  obtain ⟨k,cv,M,hgk,rfl,rfl,hcv,HM,HA⟩:=hrel
  by_cases hk:k<133
  · obtain ⟨hL,hl,hR⟩:=HR.out
    obtain ⟨hMw,hMl,hMo,hMs,hbut⟩:=HA.out
    have hgc:wr.cell? ⟨g,k,none⟩=some (.int .u32 ((M.getD k 0:Nat):Int)):=by
     rw [HM.out.cellAt k (by omega)];simp [U,List.getD_eq_getElem?_getD,List.getElem?_eq_getElem (show k<M.length by omega)]
    have hgf:=HM.out.frozenAt k;obtain ⟨x,hx⟩:∃ x:Nat,M.getD k 0=x:=⟨_,rfl⟩;have hxl:x<4294967296:=hx ▸ hMw.get _;rw [hx] at hgc;obtain ⟨y,hy⟩:∃ y:Nat,y=4294967295-x:=⟨_,rfl⟩;have e1:bits BinOp.xor IntKind.u32 IntKind.u32.max (x:Int)=(y:Int):=by rw [Zrf x hxl,hy]
    have hyl:y<4294967296:=by omega
    have HX:Aside (M.getD k 0=x∧y=4294967295-x):=⟨hx,hy⟩;clear hy;clear hx hL hl hR hMw hMl hMo hMs hbut;obtain ⟨gk,rfl⟩:∃ k,gk=k+1:=⟨gk-1,by omega⟩
    go_wp2
    go_roundg gk
    case measure=>omega
    case rel =>
     obtain ⟨hL,hl,hR⟩:=HR.out;obtain ⟨hMw,hMl,hMo,hMs,hbut⟩:=HA.out;obtain ⟨hx,hy⟩:=HX.out;have e2:((cv:Int)+(y:Int))%4294967296=(((cv+y)%4294967296:Nat):Int):=by omega
     have e3:((cv:Int)+(y:Int))/4294967296=(((cv+y)/4294967296:Nat):Int):=by omega
     rw [Jx (y:Int) (by omega) (by omega),Jx ((cv:Int)+(y:Int)) (by omega) (by omega),e2]
     refine ⟨k+1,(cv+y)/4294967296,M.set k ((cv+y)%4294967296),by omega,by simp,by rw [e3],by omega,?_,hMw.set _ _ (Nat.mod_lt _ (by decide)),by simp [hMl],fun j hj=>by rw [getD_set_ne _ _ _ _ (by omega)];exact hMo j (by omega),?_,hbut.set k _⟩
     · rw [List.map_set];exact (HM.out.stored k _).1
     · have hLx:L.getD k 0=x:=by rw [←hMo k (Nat.le_refl _)];exact hx
       exact Zl9 M L k cv _ _ hMl hl hk (by omega) hMo (by rw [hLx];omega) hMs
  · obtain rfl:k=133:=by omega
    go_wp2;refine bodyPost_end (v:=.tuple #[]) (by simp [results,Tryz.results188,go_sem]) rfl ?_
    obtain ⟨hMw,hMl,hMo,hMs,hbut⟩:=HA.out;refine ⟨rfl,M,HM.out,hMl,hMw,?_,hbut⟩;have a1:=Zr M;have a2:=Zr L;rw [hMl] at a1;rw [HR.out.2.1] at a2;rw [a1,a2] at hMs;have hb:=Jy hMl hMw;have eP:pw 133=PB:=by unfold PB;rfl
    rw [eP] at hMs;have h2:PB-val L=val M+PB*cv:=by rw [Nat.mul_comm];omega
    rw [h2,Nat.add_mul_mod_self_left,Nat.mod_eq_of_lt hb]
def Zpi (N:Nat):Nat:=if Zbm N then PB-N else N
theorem Zjw {w:World}{lo cap:Nat}{L:List Nat}{g:Nat}(h:w.ownsRow lo 147 1 (.slice (some ⟨g,0,none⟩) 133 cap) 133 (L.map U)) (hl:L.length=133) (hL:Wf L):Arg w (some ⟨g,0,none⟩) 133 cap L:=by
 have hg:g<w.heap.size:=(h.lt g rfl).2
 have hc:133≤cap:=by
  rcases h.2 with ⟨h',_⟩|⟨g',cap',cur,h',_,_,hn,_⟩
  · simp at h'
  · simp only [Value.slice.injEq,Option.some.injEq,Addr.mk.injEq,and_true,true_and] at h'
    omega
 refine ⟨hl.symm,hc,by decide,hL,fun _=>⟨g,0,hg,rfl,fun i hi=>?_⟩,fun e=>by cases e⟩
 rw [Nat.zero_add,h.cellAt i (by omega),List.getElem?_map,List.getElem?_eq_getElem hi,List.getD_eq_getElem?_getD,List.getElem?_eq_getElem hi]
 rfl
theorem Zma (L:List Nat) (g:Nat) (w:World) (hl:L.length=133) (hL:Wf L) (hH:Hd w g L) :
 Calls Tryz.prog 142 #[.pointer (some ⟨g,0,none⟩)] w fun r w' =>
  ∃ b cap M,r=.returned (.slice (some ⟨b,0,none⟩) 133 cap)∧Arg w' (some ⟨b,0,none⟩) 133 cap M∧val M=Zpi (val L)∧Below w.heap.size w w':=by
 have HR:Aside (Wf L∧L.length=133∧Hd w g L):=⟨hL,hl,hH⟩;clear hL hl hH;go_enter Tryz.func142,Tryz.ntmps142
 go_wp2_with fail
 refine Calls.mono (Zl8 g 133 133 L w HR.out.2.1 (by decide) HR.out.2.2) ?_
 rintro r w1 ⟨v',rfl,hown,hnn,hb1⟩;have HO:Aside (w1.ownsRow w.heap.size 147 1 v' 133 (L.map U)∧Below w.heap.size w w1):=⟨hown,hb1⟩
 obtain ⟨b,cap,rfl⟩:∃ b cap,v'=.slice (some ⟨b,0,none⟩) 133 cap:=by
  rcases hown.2 with ⟨_,h⟩|⟨g',cap',cur,h,_⟩
  · cases h
  · exact ⟨g',cap',h⟩
 clear hown hnn hb1
 go_wp2_with fail
 obtain ⟨hL,hl,hH⟩:=HR.out;refine Calls.mono (Zd2 g L w1 hl hL (hH.below HO.out.2 hH.1 (Nat.le_refl _))) ?_;rintro r w2 ⟨rfl,rfl⟩;clear hL hl hH
 cases hn:Zbm (val L)
 · have HN:Aside (Zbm (val L)=false):=hn
   clear hn;go_wp2;go_ret;obtain ⟨hL,hl,hH⟩:=HR.out;exact ⟨b,cap,L,rfl,Zjw HO.out.1 hl hL,by unfold Zpi;rw [HN.out];rfl,HO.out.2⟩
 · have HN:Aside (Zbm (val L)=true):=hn
   clear hn
   go_wp2_with fail
   obtain ⟨hL,hl,hH⟩:=HR.out;refine Calls.mono (Zog L w.heap.size b cap w2 hl hL HO.out.1) ?_;rintro r w3 ⟨rfl,M,hM,hMl,hMw,hMv,hbut⟩;have HM:Aside (w3.ownsRow w.heap.size 147 1 (.slice (some ⟨b,0,none⟩) 133 cap) 133 (M.map U)∧M.length=133∧Wf M∧val M=(PB-val L)%PB∧But b w2 w3):=⟨hM,hMl,hMw,hMv,hbut⟩;clear hL hl hH hM hMl hMw hMv hbut;go_wp2;go_ret;obtain ⟨hM,hMl,hMw,hMv,hbut⟩:=HM.out;refine ⟨b,cap,M,rfl,Zjw hM hMl hMw,?_,But.below HO.out.2 hbut HO.out.2.size (HO.out.1.lt b rfl).1⟩;unfold Zpi;rw [HN.out,hMv,if_pos rfl,Nat.mod_eq_of_lt];have h1:PB≤2*val L:=of_decide_eq_true HN.out;have:=Zs5;omega
end
end Go.Proofs.YtblkpkgebigojaaGreatDoor
