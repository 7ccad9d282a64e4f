import Derived.Test.YtflkmfdlpfimcaaGreatDoorM5x
import Derived.Deep.RegionWith
import Derived.Test.YtflkmfdlpfimcaaGreatDoorM1x
import Derived.WalkLawsBesides
import Derived.WalkMore
import Derived.Deep.MidRow
import Ieee.Arith
import Derived.WalkKit
import Derived.Test.YtflkmfdlpfimcaaGreatDoorProg
import Derived.WalkSpells
import Derived.Laws.Externs
import Derived.BigQuiet
set_option linter.unusedVariables false
set_option linter.unusedSimpArgs false
set_option maxHeartbeats 16000000
set_option maxRecDepth 20000
namespace Go.Proofs.YtflkmfdlpfimcaaGreatDoor
section
open Go.RowKit
theorem mul_step (p V b x r q c:Nat) (h:V+p*r=b*q):V+p*(r+q*x)=(b+p*x)*q:=by grind
theorem mul_any (xs bs:List Nat) (ao bo:Option Addr) (n cap m capb B:Nat) (w:World) (hn:n=xs.length) (hm:m=bs.length) (hc:n≤cap) (hcb:m≤capb) (hbig:n+m≤70368744177664)
 (hx:Wf xs) (hb:Wf bs) (hR:Rd B w ao xs) (hS:Rd B w bo bs) (hB:B≤w.heap.size) :
 Calls Tryz.prog 172 #[.slice ao n cap,.slice bo m capb] w fun r w'=>∃ v,r=.returned v∧Nt w.heap.size w' v (val xs*val bs)∧Below w.heap.size w w':=by
 obtain ⟨W1,hW1⟩:∃ W,W=w.alloc (.cells (madeCells #[.int .u32 0] (n+m)) 91):=⟨_,rfl⟩;have hO1:Own W1 w.heap.size (List.replicate (n+m) 0):=by rw [hW1];exact Own.made w (n+m)
 have hB1:Below w.heap.size w W1:=by rw [hW1];exact (Below.refl _ _).alloc (Nat.le_refl _) _
 have hmk:=make_words ((n:Int)+m) (n+m) (by omega) (by omega) w
 rw [←hW1] at hmk;have hR1:Rd B W1 ao xs:=hR.below (hB1.mono hB);have hS1:Rd B W1 bo bs:=hS.below (hB1.mono hB);obtain ⟨g,hg⟩:∃ g,g=w.heap.size:=⟨_,rfl⟩;rw [←hg] at hO1 hmk hB1 hB;have HR:=(qsd (ai hR1 (ai hS1 (ai hm (ai hb (ai hx (ai hn (ai hB1 hg))))))));have HO:=hid hO1;clear hn hm hx hb hR hS hO1 hB1 hW1 hR1 hS1 hg;go_enter Tryz.func172,Tryz.ntmps172;go_wp2
 go_loopg [16] n (fun gk i wr=>∃ (k:Nat) (M:List Nat),gk+k=n∧i=.int .i64 (k:Nat) ∧
  Hid (Own wr g M)∧Aside (Wf M∧M.length=n+m∧sg M 0 (k+m)=sg xs 0 k*val bs∧But g W1 wr))
 case atStart=>exact ⟨0,_,by omega,rfl,HO,Wf.zeros _,by simp,by rw [sg_zeros,sg_zero];simp,But.refl _ _⟩
 case round =>
  obtain ⟨k,M,hgk,rfl,HM,HA⟩:=hrel
  by_cases hk:k<n
  · obtain ⟨hR,hS,hm,hb,hx,hn,hB1,hg⟩:=HR.out
    obtain ⟨hMw,hMl,hMs,hbut⟩:=HA.out;have hW1s:g≤W1.heap.size:=by have:=hB1.size;omega
    obtain ⟨b,boff,hbB,rfl,hbc⟩:=hR (by intro e;subst e;simp at hn;omega)
    have hbk:wr.cell? ⟨b,boff+k,none⟩=some (.int .u32 ((xs.getD k 0:Nat):Int)):=by
     have h1:=hbut.block b (World.block_lt_of_cell? W1 ⟨b,boff+k,none⟩ (hbc k (by omega))) (by omega)
     exact (World.cell?_of_block (a:=⟨b,boff+k,none⟩) h1).trans (hbc k (by omega))
    obtain ⟨y,hy⟩:∃ y:Nat,xs.getD k 0=y:=⟨_,rfl⟩;have hyl:y<4294967296:=hy ▸ hx.get _;rw [hy] at hbk;have H:=hid (addTimes_any M bs g k m (n+m-k) bo m capb B y wr HM.out (by omega) hm (Nat.le_refl _) (by omega) (by omega) hMw hb (hS.but hbut (by omega) hB) hB hyl)
    have HX:=(qsd (ai hy hn));clear hy hR hS hm hb hx hn hB1 hg hMw hMl hMs hbut hbc hW1s
    go_wp2_with fail
    refine H.out.mono ?_;rintro r W3 ⟨M2,c,rfl,hc1,hO3,hM2,hout,hsum,hbut2⟩;obtain ⟨hMw,hMl,hMs,hbut⟩:=HA.out;have hgc:=hO3.cell (k+m) (by rw [hout.1];omega)
    have hgf:=hO3.frozen (k+m);have HI:=(qsd (ai hc1 (ai hO3 (ai hM2 (ai hout (ai hsum hbut2))))));clear hc1 hO3 hM2 hout hsum hbut2 hMw hMl hMs hbut H;go_wp2
    go_roundg (gk-1)
    case measure=>omega
    case rel =>
     obtain ⟨hy,hn⟩:=HX.out;obtain ⟨hMw,hMl,hMs,hbut⟩:=HA.out;obtain ⟨hc1,hO3,hM2,hout,hsum,hbut2⟩:=HI.out;refine ⟨k+1,M2.set (k+m) c,by omega,by go_num,hO3.set _ _,hM2.set _ _ hc1,by simp [hout.1,hMl],?_,(hbut.trans hbut2).set _ _⟩
     have e1:=sg_set_last M2 0 (k+m) c (by rw [hout.1];omega)
     rw [Nat.zero_add] at e1;have e2:=sg_add M2 0 k m (by rw [hout.1];omega)
     have e3:=sg_add M 0 k m (by omega)
     rw [Nat.zero_add] at e2 e3;have e4:=hout.below 0 k (by omega) (by omega)
     rw [show k+1+m=k+m+1 by omega,e1,e2,e4,sg_succ xs 0 k (by omega),Nat.zero_add,hy,pw_add]
     rw [e3] at hMs;rw [Nat.mul_comm c] at hsum;have:=mul_step (pw k) _ _ y _ _ c hMs;rw [←hsum] at this;rw [←this,Nat.mul_add,Nat.mul_assoc,Nat.add_assoc]
  · obtain rfl:k=n:=by omega
    obtain ⟨hMw,hMl,hMs,hbut⟩:=HA.out;have T:=hid (trim_any M (some ⟨g,0,none⟩) (k+m) (k+m) (g+1) wr hMl.symm (Nat.le_refl _) (by omega) (by simpa [hMl,List.take_of_length_le] using Rd.ofOwn HM.out 0 (k+m)))
    clear hMw hMl hMs hbut
    go_wp2_with fail
    refine T.out.mono ?_;rintro r w1 ⟨rfl,rfl⟩;go_wp2;go_ret;obtain ⟨hR,hS,hm,hb,hx,hn,hB1,hg⟩:=HR.out;obtain ⟨hMw,hMl,hMs,hbut⟩:=HA.out;have e1:sg M 0 (k+m)=val M:=by rw [←hMl];exact sg_all M
    have e2:sg xs 0 k=val xs:=by rw [hn];exact sg_all xs
    rw [e1,e2] at hMs;refine ⟨_,rfl,?_,?_⟩
    · have N:=Nt.ofOwn (lo:=g) HM.out (Nat.le_refl _) hMw (by rw [hMl];unfold maxLen;omega)
      rw [←hMs,←hg];rw [hMl] at N;exact N
    · rw [←hg]
      exact But.below hB1 hbut (by have:=hB1.size;omega) (Nat.le_refl _)
end
section
open Go.RowKit
theorem cmp_words (xs ys:List Nat) (hx:Wf xs) (hy:Wf ys) (j d:Nat) (h1:j+1+d≤xs.length) (h2:j+1+d≤ys.length) (ht:sg xs (j+1) d=sg ys (j+1) d) (hlt:xs.getD j 0<ys.getD j 0) :
 sg xs 0 (j+1+d)<sg ys 0 (j+1+d):=by
 rw [sg_add xs 0 (j+1) d (by omega),sg_add ys 0 (j+1) d (by omega),Nat.zero_add,ht,sg_succ xs 0 j (by omega),sg_succ ys 0 j (by omega),Nat.zero_add]
 have h3:=sg_lt xs 0 j hx (by omega)
 have h4:pw j*(xs.getD j 0+1)≤pw j*ys.getD j 0:=Nat.mul_le_mul_left _ hlt;rw [Nat.mul_add] at h4;omega
theorem cmp_len (xs ys:List Nat) (hx:Wf xs) (hy:Wf ys) (h:nl xs<nl ys):val xs<val ys:=by
 rw [nl_eq_length xs hx,nl_eq_length ys hy] at h;have h1:=ws_len_lt (val xs);have h2:val ys≠0:=by intro e;rw [e,ws_zero] at h;simp at h
 have h3:=ws_len_ge (val ys) h2;have h4:=pw_mono (show (ws (val xs)).length≤(ws (val ys)).length-1 by omega)
 omega
theorem cmpI_lt {x y:Nat}(h:x<y):cmpI x y=-1:=by simp [cmpI,h]
theorem cmpI_gt {x y:Nat}(h:y<x):cmpI x y=1:=by simp [cmpI,h];omega
theorem cmpI_eq {x y:Nat}(h:x=y):cmpI x y=0:=by simp [cmpI,h]
theorem cmpI_congr {a b x y:Nat}(h1:a<b↔x<y) (h2:b<a↔y<x):cmpI a b=cmpI x y:=by simp [cmpI,h1,h2]
theorem cmp_any (xs ys:List Nat) (ao bo:Option Addr) (n cap m capb B:Nat) (w:World) (hn:n=xs.length) (hm:m=ys.length) (hc:n≤cap) (hcb:m≤capb) (hbig:n≤70368744177664) (hbig2:m≤70368744177664)
 (hx:Wf xs) (hy:Wf ys) (hR:Rd B w ao xs) (hS:Rd B w bo ys) :
 Calls Tryz.prog 181 #[.slice ao n cap,.slice bo m capb] w fun r w'=>r=.returned (.int .i64 (cmpI (val xs) (val ys)))∧Below w.heap.size w w':=by
 have H1:=hid (trim_any xs ao n cap B w hn hc (by omega) hR)
 have H2:=hid (trim_any ys bo m capb B w hm hcb (by omega) hS)
 have hl1:=nl_le xs;have hl2:=nl_le ys;have f1:=val_form xs hx;have f2:=val_form ys hy;rw [←sg_val_take] at f1 f2
 by_cases he:nl xs=nl ys
 · obtain ⟨k0,hk0⟩:∃ k,nl ys=k:=⟨_,rfl⟩
   rw [he] at H1 hl1 f1;rw [hk0] at H1 H2 hl1 hl2 f1 f2;have HR:=(qsd (ai hR (ai hS (ai hn (ai hm (ai hx (ai hy (ai hl1 (ai hl2 (ai f1 f2))))))))));have HC:Hid (∀ x y w,_):=compare_u;have hkn:k0≤n:=by omega
   have hkm:k0≤m:=by omega
   clear hR hS hn hm hx hy hl1 hl2 f1 f2 he hk0;go_enter Tryz.func181,Tryz.ntmps181
   go_wp2_with fail
   refine H1.out.mono ?_;rintro r w1 ⟨rfl,rfl⟩
   go_wp2_with fail
   refine H2.out.mono ?_;rintro r w1 ⟨rfl,rfl⟩;go_wp2
   go_loopg [5] k0 (fun k i wr=>k≤k0∧i=.int .i64 ((k:Int)-1)∧Hid (Below w1.heap.size w1 wr)∧Aside (sg xs k (k0-k)=sg ys k (k0-k)))
   case atStart=>exact ⟨Nat.le_refl _,rfl,Below.refl _ _,by rw [Nat.sub_self,sg_zero,sg_zero];exact rfl⟩
   case round =>
    obtain ⟨hk,rfl,HB,HA⟩:=hrel
    by_cases hk0:gk=0
    · subst hk0
      go_wp2;go_ret;obtain ⟨hR,hS,hn,hm,hx,hy,hl1,hl2,f1,f2⟩:=HR.out;have h:=HA.out;rw [Nat.sub_zero,f1,f2] at h;rw [cmpI_eq h];exact ⟨rfl,HB.out⟩
    · obtain ⟨k,rfl⟩:∃ k,gk=k+1:=⟨gk-1,by omega⟩
      obtain ⟨hR,hS,hn,hm,hx,hy,hl1,hl2,f1,f2⟩:=HR.out;obtain ⟨b,off,hB1,rfl,hc1⟩:=hR (by intro e;subst e;simp at hl1;omega)
      obtain ⟨b2,off2,hB2,rfl,hc2⟩:=hS (by intro e;subst e;simp at hl2;omega)
      have g1:wr.cell? ⟨b,off+k,none⟩=some (.int .u32 ((xs.getD k 0:Nat):Int)) :=
       (HB.out.cell (p:=⟨b,off+k,none⟩) (World.block_lt_of_cell? w1 ⟨b,off+k,none⟩ (hc1 k (by omega)))).trans (hc1 k (by omega))
      have g2:wr.cell? ⟨b2,off2+k,none⟩=some (.int .u32 ((ys.getD k 0:Nat):Int)) :=
       (HB.out.cell (p:=⟨b2,off2+k,none⟩) (World.block_lt_of_cell? w1 ⟨b2,off2+k,none⟩ (hc2 k (by omega)))).trans (hc2 k (by omega))
      obtain ⟨x,hxx⟩:∃ x:Nat,xs.getD k 0=x:=⟨_,rfl⟩;obtain ⟨y,hyy⟩:∃ y:Nat,ys.getD k 0=y:=⟨_,rfl⟩;rw [hxx] at g1;rw [hyy] at g2;have HX:=(qsd (ai hxx hyy));clear hR hS hn hm hx hy hl1 hl2 f1 f2 hc1 hc2 hxx hyy hk0
      by_cases hxy:x=y
      · subst hxy
        go_wp2
        go_region
        all_goals (
         go_wp2
         go_roundg k
         case measure=>omega
         case rel =>
          obtain ⟨hR,hS,hn,hm,hx,hy,hl1,hl2,f1,f2⟩:=HR.out;refine ⟨by omega,by first | go_num | (congr 1;omega),HB.out.drew,?_⟩
          have h:=HA.out;obtain ⟨r,hr⟩:∃ r,k0-k=r+1:=⟨k0-(k+1),by omega⟩
          rw [show k0-(k+1)=r by omega] at h
          rw [Aside,hr,sg_front xs k r (by omega),sg_front ys k r (by omega),h,HX.out.1,HX.out.2])
      · have hne:((x:Int)==(y:Int))=false:=by simp;omega
        have hki:(k:Int)<(k0:Int):=by omega
        have hki0:0≤(k:Int):=by omega
        have hki2:k<k0:=by omega
        go_wp2
        go_region
        all_goals (
         go_wp2
         go_region_with (go_at_call 204;refine (compare_u x y _).mono ?_;rintro r w2 ⟨rfl,rfl⟩))
        all_goals (
         go_wp2;go_ret;obtain ⟨hR,hS,hn,hm,hx,hy,hl1,hl2,f1,f2⟩:=HR.out;have h:=HA.out
         have e:cmpI (val xs) (val ys)=cmpI x y:=by
          rw [←f1,←f2];have hk2:k+1+(k0-(k+1))=k0:=by omega
          have t1:=cmp_words xs ys hx hy k (k0-(k+1)) (by omega) (by omega) h
          have t2:=cmp_words ys xs hy hx k (k0-(k+1)) (by omega) (by omega) h.symm
          rw [hk2,HX.out.1,HX.out.2] at t1 t2
          apply cmpI_congr <;> omega
         rw [e];exact ⟨rfl,by first | exact HB.out.drew.drew | exact HB.out.drew | skip⟩)
 · have e:cmpI (val xs) (val ys)=cmpI (nl xs) (nl ys):=by
    rcases Nat.lt_or_gt_of_ne he with h|h
    · rw [cmpI_lt h,cmpI_lt (cmp_len xs ys hx hy h)]
    · rw [cmpI_gt h,cmpI_gt (cmp_len ys xs hy hx h)]
   rw [e];obtain ⟨k1,hk1⟩:∃ k,nl xs=k:=⟨_,rfl⟩;obtain ⟨k2,hk2⟩:∃ k,nl ys=k:=⟨_,rfl⟩;rw [hk1] at H1 he ⊢;rw [hk2] at H2 he ⊢;have hne:((k1:Int)==(k2:Int))=false:=by simp;omega
   have hne2:¬ (k1:Int)=(k2:Int):=by omega
   have H3:=hid (compare_i k1 k2 w);clear hR hS hn hm hx hy hl1 hl2 f1 f2 hk1 hk2 e he;go_enter Tryz.func181,Tryz.ntmps181
   go_wp2_with fail
   refine H1.out.mono ?_;rintro r w1 ⟨rfl,rfl⟩
   go_wp2_with fail
   refine H2.out.mono ?_;rintro r w1 ⟨rfl,rfl⟩
   go_wp2_with fail
   refine H3.out.mono ?_;rintro r w1 ⟨rfl,rfl⟩;go_wp2;go_ret;exact ⟨rfl,Below.refl _ _⟩
end
section
open Go.RowKit
theorem root_any (xs:List Nat) (ao:Option Addr) (n cap B:Nat) (w:World) (hn:n=xs.length) (hc:n≤cap) (hbig:n≤35184372088832) (hx:Wf xs) (hR:Rd B w ao xs) (hB:B≤w.heap.size) :
 Calls Tryz.prog 146 #[.slice ao n cap] w fun r w'=>∃ q,IsRoot (val xs) q∧Two w.heap.size w' r q (val xs-q*q)∧Below w.heap.size w w':=by
 have T0:=trim_any xs ao n cap B w hn hc (by omega) hR
 have hl:=nl_le xs;have hform:=form_eq xs hx;have hlen:=nl_eq_length xs hx;rw [hlen] at T0 hl hform;obtain ⟨X,hX⟩:∃ X,val xs=X:=⟨_,rfl⟩;rw [hX] at T0 hl hform ⊢;have T:=hid T0;have hRX:Rd B w ao (ws X):=by rw [←hform];exact hR.take _
 by_cases h0:X=0
 · subst h0
   rw [ws_zero] at T;clear hX hlen hform hl hx hn hR T0 hRX;go_enter Tryz.func146,Tryz.ntmps146
   go_wp2_with fail
   refine T.out.mono ?_;rintro r w1 ⟨rfl,rfl⟩;go_wp2
   go_ret2
   exact ⟨0,⟨by omega,by omega⟩,⟨_,_,rfl,Nt.nil _ _,Nt.nil _ _,apart_nil _⟩,Below.refl _ _⟩
 · have hk0:(ws X).length≠0:=fun e=>h0 ((ws_len_zero X).1 e)
   obtain ⟨k,hk⟩:∃ k,(ws X).length=k:=⟨_,rfl⟩;have NR:=nearRoot_any (ws X) ao k cap B w hk.symm (by omega) (by omega) (wf_ws X) (by rw [val_ws];exact h0) hRX hB
   rw [val_ws] at NR;have N:=hid NR;rw [hk] at T hl hk0;have hkn:k≤n:=by omega
   have hkne:((k:Int)==0)=false:=by simp;omega
   have HH:=(qsd (ai hRX (ai hk h0)));clear hX hlen hform hl hx hn hR T0 hRX NR hk h0 hk0;go_enter Tryz.func146,Tryz.ntmps146
   go_wp2_with fail
   refine T.out.mono ?_;rintro r w1 ⟨rfl,rfl⟩
   go_wp2_with fail
   refine N.out.mono ?_;rintro r w2 ⟨v2,A,rfl,hN2,hA1,hA2,hA0,hAX,hb2⟩;obtain ⟨ra,rc,rfl,hrc,hrcm,hRr⟩:=hN2.shape;obtain ⟨hRX,hk,h0⟩:=HH.out;have hlA:(ws A).length≤k:=by rw [←hk];exact ws_len_mono hAX
   have M0:=mul_any (ws A) (ws A) ra ra _ rc _ rc w2.heap.size w2 rfl rfl hrc hrc (by omega) (wf_ws _) (wf_ws _) hRr hRr (Nat.le_refl _)
   rw [val_ws] at M0;have M:=hid M0;have H1:=(qsd (ai hN2 (ai hA1 (ai hA2 (ai hA0 (ai hAX (ai hb2 (ai hRr hlA))))))));clear M0 hN2 hA1 hA2 hA0 hAX hb2 hRr hRX hk h0 hlA T N
   go_wp2_with fail
   refine M.out.mono ?_;rintro r w3 ⟨v3,rfl,hN3,hb3⟩;obtain ⟨sa,sc,rfl,hsc,hscm,hRs⟩:=hN3.shape;obtain ⟨hRX,hk,h0⟩:=HH.out;obtain ⟨hN2,hA1,hA2,hA0,hAX,hb2,hRr,hlA⟩:=H1.out;have hs2:=hb2.size;have hs3:=hb3.size;have hRX3:Rd w3.heap.size w3 ao (ws X):=((hRX.below (hb2.mono hB)).below (hb3.mono (by omega))).mono (by omega)
   have hsq:A*A<pw (k+k):=by
    have:=ws_len_lt A;have h2:=Nat.mul_lt_mul'' this this;rw [←pw_add] at h2;exact Nat.lt_of_lt_of_le h2 (pw_mono (by omega))
   have hlS:(ws (A*A)).length≤k+k:=(ws_len_le _ _).2 hsq;have C0:=cmp_any (ws (A*A)) (ws X) sa ao _ sc k cap w3.heap.size w3 rfl hk.symm hsc (by omega) (by omega) (by omega) (wf_ws _) (wf_ws _) hRs hRX3
   rw [val_ws,val_ws] at C0;have H2:=(qsd (ai hN3 (ai hb3 (ai hRs (ai hRX3 hlS)))))
   by_cases hgt:X<A*A
   · rw [cmpI_gt hgt] at C0
     have C:=hid C0;have H3:=(qsd hgt);clear C0 hN2 hA1 hA2 hA0 hAX hb2 hRr hlA hN3 hb3 hRs hRX hk h0 hs2 hs3 hRX3 hsq hlS M hgt
     go_wp2_with fail
     refine C.out.mono ?_;rintro r w4 ⟨rfl,hb4⟩
     -- the root less one
     obtain ⟨hRX,hk,h0⟩:=HH.out;obtain ⟨hN2,hA1,hA2,hA0,hAX,hb2,hRr,hlA⟩:=H1.out;obtain ⟨hN3,hb3,hRs,hRX3,hlS⟩:=H2.out;have hs2:=hb2.size;have hs3:=hb3.size;have hs4:=hb4.size;obtain ⟨W5,hW5⟩:∃ W,W=w4.alloc (.cells #[.int .u32 1] 91):=⟨_,rfl⟩;have hb5:Below w4.heap.size w4 W5:=by rw [hW5];exact (Below.refl _ _).alloc (Nat.le_refl _) _
     have hs5:=hb5.size;have hO5:Own W5 w4.heap.size [1]:=by rw [hW5];unfold Own;rw [heap_alloc_new];rfl
     have hg5:=hO5.lt
     have hR1:Rd W5.heap.size W5 (some ⟨w4.heap.size,0,none⟩) [1]:=by
      have:=Rd.ofOwn hO5 0 1;exact (by simpa using this:Rd (w4.heap.size+1) W5 (some ⟨w4.heap.size,0,none⟩) [1]).mono (by omega)
     have hRr5:Rd W5.heap.size W5 ra (ws A):=(((hRr.below hb3).below (hb4.mono hs3)).below (hb5.mono (by omega))).mono (by omega)
     have hlA1:1≤(ws A).length:=by have:=ws_len_zero A;omega
     have S0:=sub_any (ws A) [1] ra (some ⟨w4.heap.size,0,none⟩) _ rc 1 1 W5.heap.size W5 rfl rfl hlA1 hrc (by omega) (by omega) (wf_ws _) (Wf.cons (by omega) Wf.nil) (by rw [val_ws];simp [val];omega) hRr5 hR1 (Nat.le_refl _)
     rw [val_ws,show val [1]=1 from rfl] at S0
     rw [hW5] at S0;have S:=hid S0;have H4:=(qsd (ai hb4 (ai hW5 hb5)));clear S0 hN2 hA1 hA2 hA0 hAX hb2 hRr hlA hN3 hb3 hRs hRX hk h0 hs2 hs3 hRX3 hlS hb4 hs4 hW5 hb5 hs5 hO5 hg5 hR1 hRr5 hlA1 C
     go_wp2_with fail
     refine S.out.mono ?_;rintro r w6 ⟨v6,rfl,hN6,hb6⟩;obtain ⟨ra6,rc6,rfl,hrc6,hrcm6,hRr6⟩:=hN6.shape;obtain ⟨hN2,hA1,hA2,hA0,hAX,hb2,hRr,hlA⟩:=H1.out;have hlA6:(ws (A-1)).length≤(ws A).length:=ws_len_mono (by omega)
     have M0:=mul_any (ws (A-1)) (ws (A-1)) ra6 ra6 _ rc6 _ rc6 w6.heap.size w6 rfl rfl hrc6 hrc6 (by omega) (wf_ws _) (wf_ws _) hRr6 hRr6 (Nat.le_refl _)
     rw [val_ws] at M0;have M:=hid M0;have H5:=(qsd (ai hN6 hb6));clear M0 hN2 hA1 hA2 hA0 hAX hb2 hRr hlA hN6 hb6 hRr6 hlA6 S
     go_wp2_with fail
     refine M.out.mono ?_;rintro r w7 ⟨v7,rfl,hN7,hb7⟩;obtain ⟨sa7,sc7,rfl,hsc7,hscm7,hRs7⟩:=hN7.shape;obtain ⟨hRX,hk,h0⟩:=HH.out;obtain ⟨hN2,hA1,hA2,hA0,hAX,hb2,hRr,hlA⟩:=H1.out;obtain ⟨hN3,hb3,hRs,hRX3,hlS⟩:=H2.out;obtain ⟨hb4,hW5,hb5⟩:=H4.out;obtain ⟨hN6,hb6⟩:=H5.out;rw [←hW5] at hN6 hb6;have hs2:=hb2.size;have hs3:=hb3.size;have hs4:=hb4.size;have hs5:=hb5.size;have hs6:=hb6.size;have hs7:=hb7.size;have hb17:Below w1.heap.size w1 w7:=(((((hb2.trans (hb3.mono hs2)).trans (hb4.mono (by omega))).trans (hb5.mono (by omega))).trans (hb6.mono (by omega)))).trans (hb7.mono (by omega))
     have hRX7:Rd w7.heap.size w7 ao (ws X):=(hRX.below (hb17.mono hB)).mono (by omega)
     have hle7:(A-1)*(A-1)≤X:=by omega
     have hl7:(ws ((A-1)*(A-1))).length≤k:=by rw [←hk];exact ws_len_mono hle7
     have S0:=sub_any (ws X) (ws ((A-1)*(A-1))) ao sa7 k cap _ sc7 w7.heap.size w7 hk.symm rfl hl7 (by omega) hsc7 (by omega) (wf_ws _) (wf_ws _) (by rw [val_ws,val_ws];exact hle7) hRX7 hRs7 (Nat.le_refl _)
     rw [val_ws,val_ws] at S0;have S:=hid S0;have hN67:=hN6.below hb7;have H6:=(qsd (ai hb17 hN67));clear S0 hN2 hA1 hA2 hA0 hAX hb2 hRr hlA hN3 hb3 hRs hRX hk h0 hRX3 hlS hb4 hW5 hb5 hN6 hb6 hN7 hb7 hRs7 hs2 hs3 hs4 hs5 hs6 hs7 hb17 hRX7 hle7 hl7 hN67 M
     go_wp2_with fail
     refine S.out.mono ?_;rintro r w8 ⟨v8,rfl,hN8,hb8⟩;have H7:=(qsd (ai hN8 hb8));clear hN8 hb8 S;go_wp2
     go_ret2
     obtain ⟨hN8,hb8⟩:=H7.out;obtain ⟨hb17,hN67⟩:=H6.out;obtain ⟨hN2,hA1,hA2,hA0,hAX,hb2,hRr,hlA⟩:=H1.out;obtain ⟨hb4,hW5,hb5⟩:=H4.out;obtain ⟨hN3,hb3,hRs,hRX3,hlS⟩:=H2.out;have hs2:=hb2.size;have hs3:=hb3.size;have hs4:=hb4.size;have hs5:=hb5.size;have hs7:=hb17.size;have hlow:w1.heap.size≤W5.heap.size:=by omega
     refine ⟨A-1,⟨by omega,?_⟩,⟨_,_,rfl,(hN67.below hb8).mono hlow,hN8.mono hs7,apart_of (hi:=0) hN67 hN8 (Nat.le_refl _)⟩,hb17.trans (hb8.mono hs7)⟩
     rw [show A-1+1=A by omega];exact H3.out
   · have hle:A*A≤X:=by omega
     have hC1:cmpI (A*A) X≤0:=by unfold cmpI;split <;> (try split) <;> omega
     obtain ⟨cc,hcc⟩:∃ cc,cmpI (A*A) X=cc:=⟨_,rfl⟩;rw [hcc] at C0 hC1;have C:=hid C0;have H3:=(qsd hle);clear C0 hN2 hA1 hA2 hA0 hAX hb2 hRr hlA hN3 hb3 hRs hRX hk h0 hs2 hs3 hRX3 hsq hlS M hle hgt hcc
     go_wp2_with fail
     refine C.out.mono ?_;rintro r w4 ⟨rfl,hb4⟩;obtain ⟨hRX,hk,h0⟩:=HH.out;obtain ⟨hN2,hA1,hA2,hA0,hAX,hb2,hRr,hlA⟩:=H1.out;obtain ⟨hN3,hb3,hRs,hRX3,hlS⟩:=H2.out;have hs2:=hb2.size;have hs3:=hb3.size;have hs4:=hb4.size;have hb14:Below w1.heap.size w1 w4:=(hb2.trans (hb3.mono hs2)).trans (hb4.mono (by omega))
     have hRX4:Rd w4.heap.size w4 ao (ws X):=(hRX3.below hb4).mono hs4;have hRs4:Rd w4.heap.size w4 sa (ws (A*A)):=(hRs.below hb4).mono hs4;have hl4:(ws (A*A)).length≤k:=by rw [←hk];exact ws_len_mono H3.out
     have S0:=sub_any (ws X) (ws (A*A)) ao sa k cap _ sc w4.heap.size w4 hk.symm rfl hl4 (by omega) hsc (by omega) (wf_ws _) (wf_ws _) (by rw [val_ws,val_ws];exact H3.out) hRX4 hRs4 (Nat.le_refl _)
     rw [val_ws,val_ws] at S0;have S:=hid S0;have hN24:=(hN2.below hb3).below hb4;have H6:=(qsd (ai hb14 hN24));clear S0 hN2 hA1 hA2 hA0 hAX hb2 hRr hlA hN3 hb3 hRs hRX hk h0 hRX3 hlS hb4 hs2 hs3 hs4 hb14 hRX4 hRs4 hl4 hN24 C
     go_wp2_with fail
     refine S.out.mono ?_;rintro r w8 ⟨v8,rfl,hN8,hb8⟩;have H7:=(qsd (ai hN8 hb8));clear hN8 hb8 S;go_wp2
     go_ret2
     obtain ⟨hN8,hb8⟩:=H7.out;obtain ⟨hb14,hN24⟩:=H6.out;obtain ⟨hN2,hA1,hA2,hA0,hAX,hb2,hRr,hlA⟩:=H1.out;have hs4:=hb14.size;exact ⟨A,⟨H3.out,hA2⟩,⟨_,_,rfl,hN24.below hb8,hN8.mono hs4,apart_of (hi:=0) hN24 hN8 (Nat.le_refl _)⟩,hb14.trans (hb8.mono hs4)⟩
end
section
open Go.RowKit
abbrev LG (X:Nat):Prop:=8192<(ws X).length
def addS (X Y:Nat):Nat×Int:=if LG (X+Y) then (0,2) else (X+Y,0)
def subS (X Y:Nat):Nat×Int:=if LG X∨LG Y then (0,2) else if X<Y then (0,20) else (X-Y,0)
def mulS (X Y:Nat):Nat×Int:=if LG X∨LG Y then (0,2) else if LG (X*Y) then (0,2) else (X*Y,0)
def divS (X Y:Nat):Nat×Nat×Int:=if LG X∨LG Y then (0,0,2) else if Y=0 then (0,0,21) else (X/Y,X%Y,0)
def shiftS (X:Nat) (by':Int):Nat×Int:=if LG X then (0,2) else if X=0 then (0,0) else if by'<0 then (X/2^(-by').toNat,0) else if 262144-(bl X:Int)<by' then (0,2) else (X*2^by'.toNat,0)
def One (lo:Nat) (w:World) (r:Ending) (a:Nat×Int):Prop:=∃ v,r=.returned (.tuple #[v,.int .i64 a.2])∧Nt lo w v a.1
theorem trimX (xs:List Nat) (ao:Option Addr) (n cap B:Nat) (w:World) (hn:n=xs.length) (hc:n≤cap) (hm:n≤70368744177664) (hx:Wf xs) (hR:Rd B w ao xs) :
 (Calls Tryz.prog 132 #[.slice ao n cap] w fun r w'=>r=.returned (.slice ao (ws (val xs)).length cap)∧w'=w)∧Rd B w ao (ws (val xs))∧(ws (val xs)).length≤n:=by
 have T:=trim_any xs ao n cap B w hn hc (by omega) hR
 have hl:=nl_le xs;have hf:=form_eq xs hx;have hlen:=nl_eq_length xs hx;rw [hlen] at T hl hf;exact ⟨T,by rw [←hf];exact hR.take _,by omega⟩
theorem Add_any (xs ys:List Nat) (ao bo:Option Addr) (n cap m capb B:Nat) (w:World) (hn:n=xs.length) (hm:m=ys.length) (hc:n≤cap) (hcb:m≤capb) (hbig:n≤35184372088833) (hbig2:m≤35184372088833)
 (hx:Wf xs) (hy:Wf ys) (hR:Rd B w ao xs) (hS:Rd B w bo ys) (hB:B≤w.heap.size) :
 Calls Tryz.prog 162 #[.slice ao n cap,.slice bo m capb] w fun r w'=>One w.heap.size w' r (addS (val xs) (val ys))∧Below w.heap.size w w':=by
 obtain ⟨T1,hRX,hl1⟩:=trimX xs ao n cap B w hn hc (by omega) hx hR
 obtain ⟨T2,hRY,hl2⟩:=trimX ys bo m capb B w hm hcb (by omega) hy hS
 generalize val xs=X at *;generalize val ys=Y at *;have A0:=add_any (ws X) (ws Y) ao bo _ cap _ capb B w rfl rfl (by omega) (by omega) (by omega) (by omega) (wf_ws X) (wf_ws Y) hRX hRY hB
 rw [val_ws,val_ws] at A0;have H1:=(hid T1);have H2:=(hid T2);have H3:=(hid A0);clear T1 T2 A0 hRX hRY hn hm hx hy hR hS hl1 hl2;go_enter Tryz.func162,Tryz.ntmps162
 go_wp2_with fail
 refine H1.out.mono ?_;rintro r w1 ⟨rfl,rfl⟩
 go_wp2_with fail
 refine H2.out.mono ?_;rintro r w1 ⟨rfl,rfl⟩
 go_wp2_with fail
 refine H3.out.mono ?_;rintro r w2 ⟨v,rfl,hN,hb⟩;obtain ⟨av,cv,rfl,hcv,hcm,hRv⟩:=hN.shape;have U0:=unlessLong_any (ws (X+Y)).length av cv w2;have HN:=(qsd (ai hN hb));clear H1 H2 H3 hN hb hRv
 by_cases hL:LG (X+Y)
 · rw [if_pos (show 8192<(ws (X+Y)).length from hL)] at U0
   have U:=(hid U0);clear U0
   go_wp2_with fail
   refine U.out.mono ?_;rintro r w3 ⟨rfl,rfl⟩;go_wp2
   go_ret2
   rw [show addS X Y=(0,2) by simp [addS,hL]]
   exact ⟨⟨_,rfl,Nt.nil _ _⟩,HN.out.2⟩
 · rw [if_neg (show ¬ 8192<(ws (X+Y)).length from hL)] at U0
   have U:=(hid U0);clear U0
   go_wp2_with fail
   refine U.out.mono ?_;rintro r w3 ⟨rfl,rfl⟩;go_wp2
   go_ret2
   rw [show addS X Y=(X+Y,0) by simp [addS,hL]]
   exact ⟨⟨_,rfl,HN.out.1⟩,HN.out.2⟩
theorem longb (n:Nat) (ao:Option Addr) (cap:Nat) (w:World) (b:Bool) (hb:decide (8192<n)=b) :
 Calls Tryz.prog 170 #[.slice ao n cap] w fun r w'=>r=.returned (.bool b)∧w'=w:=by
 have h:=long_any n ao cap w;have e:decide ((8192:Int)<(n:Int))=b:=by rw [←hb];simp only [decide_eq_decide];omega
 rw [e] at h;exact h
theorem Sub_any (xs ys:List Nat) (ao bo:Option Addr) (n cap m capb B:Nat) (w:World) (hn:n=xs.length) (hm:m=ys.length) (hc:n≤cap) (hcb:m≤capb) (hbig:n≤35184372088833) (hbig2:m≤35184372088833)
 (hx:Wf xs) (hy:Wf ys) (hR:Rd B w ao xs) (hS:Rd B w bo ys) (hB:B≤w.heap.size) :
 Calls Tryz.prog 165 #[.slice ao n cap,.slice bo m capb] w fun r w'=>One w.heap.size w' r (subS (val xs) (val ys))∧Below w.heap.size w w':=by
 obtain ⟨T1,hRX,hl1⟩:=trimX xs ao n cap B w hn hc (by omega) hx hR
 obtain ⟨T2,hRY,hl2⟩:=trimX ys bo m capb B w hm hcb (by omega) hy hS
 generalize val xs=X at *;generalize val ys=Y at *;have H1:=(hid T1);have H2:=(hid T2);have HR:=(qsd (ai hRX (ai hRY (ai hl1 hl2))));clear T1 T2 hRX hRY hn hm hx hy hR hS hl1 hl2
 by_cases hLX:LG X
 · have L:=hid (longb (ws X).length ao cap w true (by simpa [LG] using hLX))
   have e:subS X Y=(0,2):=by simp [subS,hLX]
   rw [e];clear e hLX HR;go_enter Tryz.func165,Tryz.ntmps165
   go_wp2_with fail
   refine H1.out.mono ?_;rintro r w1 ⟨rfl,rfl⟩
   go_wp2_with fail
   refine H2.out.mono ?_;rintro r w1 ⟨rfl,rfl⟩
   go_wp2_with fail
   refine L.out.mono ?_;rintro r w1 ⟨rfl,rfl⟩;go_wp2
   go_ret2
   exact ⟨⟨_,rfl,Nt.nil _ _⟩,Below.refl _ _⟩
 · have L:=hid (longb (ws X).length ao cap w false (by simpa [LG] using hLX))
   by_cases hLY:LG Y
   · have L2:=hid (longb (ws Y).length bo capb w true (by simpa [LG] using hLY))
     have e:subS X Y=(0,2):=by simp [subS,hLY]
     rw [e];clear e hLX hLY HR;go_enter Tryz.func165,Tryz.ntmps165
     go_wp2_with fail
     refine H1.out.mono ?_;rintro r w1 ⟨rfl,rfl⟩
     go_wp2_with fail
     refine H2.out.mono ?_;rintro r w1 ⟨rfl,rfl⟩
     go_wp2_with fail
     refine L.out.mono ?_;rintro r w1 ⟨rfl,rfl⟩
     go_wp2_with fail
     refine L2.out.mono ?_;rintro r w1 ⟨rfl,rfl⟩;go_wp2
     go_ret2
     exact ⟨⟨_,rfl,Nt.nil _ _⟩,Below.refl _ _⟩
   · have L2:=hid (longb (ws Y).length bo capb w false (by simpa [LG] using hLY))
     obtain ⟨hRX,hRY,hl1,hl2⟩:=HR.out;have C0:=cmp_any (ws X) (ws Y) ao bo _ cap _ capb B w rfl rfl (by omega) (by omega) (by omega) (by omega) (wf_ws X) (wf_ws Y) hRX hRY
     rw [val_ws,val_ws] at C0
     by_cases hlt:X<Y
     · rw [cmpI_lt hlt] at C0
       have C:=hid C0;have e:subS X Y=(0,20):=by simp [subS,hLX,hLY,hlt]
       rw [e];clear e hLX hLY HR C0 hlt hRX hRY hl1 hl2;go_enter Tryz.func165,Tryz.ntmps165
       go_wp2_with fail
       refine H1.out.mono ?_;rintro r w1 ⟨rfl,rfl⟩
       go_wp2_with fail
       refine H2.out.mono ?_;rintro r w1 ⟨rfl,rfl⟩
       go_wp2_with fail
       refine L.out.mono ?_;rintro r w1 ⟨rfl,rfl⟩
       go_wp2_with fail
       refine L2.out.mono ?_;rintro r w1 ⟨rfl,rfl⟩
       go_wp2_with fail
       refine C.out.mono ?_;rintro r w2 ⟨rfl,hb⟩;have HB:=(qsd hb);clear hb;go_wp2
       go_ret2
       exact ⟨⟨_,rfl,Nt.nil _ _⟩,HB.out⟩
     · have hc1:0≤cmpI X Y:=by unfold cmpI;rw [if_neg hlt];split <;> omega
       obtain ⟨cc,hcc⟩:∃ cc,cmpI X Y=cc:=⟨_,rfl⟩;rw [hcc] at C0 hc1;have C:=hid C0;have e:subS X Y=(X-Y,0):=by simp [subS,hLX,hLY,hlt]
       rw [e];have HL:=(qsd hlt);clear e hLX hLY C0 hlt hRX hRY hl1 hl2 hcc;go_enter Tryz.func165,Tryz.ntmps165
       go_wp2_with fail
       refine H1.out.mono ?_;rintro r w1 ⟨rfl,rfl⟩
       go_wp2_with fail
       refine H2.out.mono ?_;rintro r w1 ⟨rfl,rfl⟩
       go_wp2_with fail
       refine L.out.mono ?_;rintro r w1 ⟨rfl,rfl⟩
       go_wp2_with fail
       refine L2.out.mono ?_;rintro r w1 ⟨rfl,rfl⟩
       go_wp2_with fail
       refine C.out.mono ?_;rintro r w2 ⟨rfl,hb⟩;obtain ⟨hRX,hRY,hl1,hl2⟩:=HR.out;have hs:=hb.size;have S0:=sub_any (ws X) (ws Y) ao bo _ cap _ capb B w2 rfl rfl (ws_len_mono (by have:=HL.out;omega)) (by omega) (by omega) (by omega) (wf_ws X) (wf_ws Y) (by rw [val_ws,val_ws];have:=HL.out;omega) (hRX.below (hb.mono hB)) (hRY.below (hb.mono hB)) (by omega)
       rw [val_ws,val_ws] at S0;have S:=hid S0;have HB:=(qsd (ai hb hs));clear hb hRX hRY hl1 hl2 S0 hs C
       go_wp2_with fail
       refine S.out.mono ?_;rintro r w3 ⟨v,rfl,hN,hb2⟩;have HN:=(qsd (ai hN hb2));clear hN hb2 S;go_wp2
       go_ret2
       obtain ⟨hb,hs⟩:=HB.out;exact ⟨⟨_,rfl,HN.out.1.mono hs⟩,hb.trans (HN.out.2.mono hs)⟩
end
section
open Go.RowKit
theorem Mul_any (xs ys:List Nat) (ao bo:Option Addr) (n cap m capb B:Nat) (w:World) (hn:n=xs.length) (hm:m=ys.length) (hc:n≤cap) (hcb:m≤capb) (hbig:n≤35184372088833) (hbig2:m≤35184372088833)
 (hx:Wf xs) (hy:Wf ys) (hR:Rd B w ao xs) (hS:Rd B w bo ys) (hB:B≤w.heap.size) :
 Calls Tryz.prog 130 #[.slice ao n cap,.slice bo m capb] w fun r w'=>One w.heap.size w' r (mulS (val xs) (val ys))∧Below w.heap.size w w':=by
 obtain ⟨T1,hRX,hl1⟩:=trimX xs ao n cap B w hn hc (by omega) hx hR
 obtain ⟨T2,hRY,hl2⟩:=trimX ys bo m capb B w hm hcb (by omega) hy hS
 generalize val xs=X at *;generalize val ys=Y at *;have H1:=(hid T1);have H2:=(hid T2);have HR:=(qsd (ai hRX (ai hRY (ai hl1 hl2))));clear T1 T2 hRX hRY hn hm hx hy hR hS hl1 hl2
 by_cases hLX:LG X
 · have L:=hid (longb (ws X).length ao cap w true (by simpa [LG] using hLX))
   have e:mulS X Y=(0,2):=by simp [mulS,hLX]
   rw [e];clear e hLX HR;go_enter Tryz.func130,Tryz.ntmps130
   go_wp2_with fail
   refine H1.out.mono ?_;rintro r w1 ⟨rfl,rfl⟩
   go_wp2_with fail
   refine H2.out.mono ?_;rintro r w1 ⟨rfl,rfl⟩
   go_wp2_with fail
   refine L.out.mono ?_;rintro r w1 ⟨rfl,rfl⟩;go_wp2
   go_ret2
   exact ⟨⟨_,rfl,Nt.nil _ _⟩,Below.refl _ _⟩
 · have L:=hid (longb (ws X).length ao cap w false (by simpa [LG] using hLX))
   by_cases hLY:LG Y
   · have L2:=hid (longb (ws Y).length bo capb w true (by simpa [LG] using hLY))
     have e:mulS X Y=(0,2):=by simp [mulS,hLY]
     rw [e];clear e hLX hLY HR;go_enter Tryz.func130,Tryz.ntmps130
     go_wp2_with fail
     refine H1.out.mono ?_;rintro r w1 ⟨rfl,rfl⟩
     go_wp2_with fail
     refine H2.out.mono ?_;rintro r w1 ⟨rfl,rfl⟩
     go_wp2_with fail
     refine L.out.mono ?_;rintro r w1 ⟨rfl,rfl⟩
     go_wp2_with fail
     refine L2.out.mono ?_;rintro r w1 ⟨rfl,rfl⟩;go_wp2
     go_ret2
     exact ⟨⟨_,rfl,Nt.nil _ _⟩,Below.refl _ _⟩
   · have L2:=hid (longb (ws Y).length bo capb w false (by simpa [LG] using hLY))
     have hz1:(ws X).length=0→X=0:=(ws_len_zero X).1;have hz2:(ws Y).length=0→Y=0:=(ws_len_zero Y).1
     by_cases h1:(ws X).length=0
     · have e:mulS X Y=(0,0):=by
        have:=hz1 h1;subst this;unfold mulS;rw [if_neg (by simp [hLX,hLY]),Nat.zero_mul,if_neg hLX]
       rw [e];have hh:=hid h1;rw [h1] at H1 L;have h1b:((ws X).length:Int)=0:=by omega
       clear e hLX hLY HR hz1 hz2 h1 h1b hh;go_enter Tryz.func130,Tryz.ntmps130
       go_wp2_with fail
       refine H1.out.mono ?_;rintro r w1 ⟨rfl,rfl⟩
       go_wp2_with fail
       refine H2.out.mono ?_;rintro r w1 ⟨rfl,rfl⟩
       go_wp2_with fail
       refine L.out.mono ?_;rintro r w1 ⟨rfl,rfl⟩
       go_wp2_with fail
       refine L2.out.mono ?_;rintro r w1 ⟨rfl,rfl⟩;go_wp2
       go_ret2
       exact ⟨⟨_,rfl,Nt.nil _ _⟩,Below.refl _ _⟩
     · by_cases h2:(ws Y).length=0
       · have e:mulS X Y=(0,0):=by
          have:=hz2 h2;subst this;unfold mulS;rw [if_neg (by simp [hLX,hLY]),Nat.mul_zero,if_neg hLY]
         rw [e];rw [h2] at H2 L2;obtain ⟨k1,hk1⟩:∃ k,(ws X).length=k:=⟨_,rfl⟩;rw [hk1] at H1 L h1;have h1b:((k1:Int)==0)=false:=by simp;omega
         clear e hLX hLY HR hz1 hz2 h2 hk1;go_enter Tryz.func130,Tryz.ntmps130
         go_wp2_with fail
         refine H1.out.mono ?_;rintro r w1 ⟨rfl,rfl⟩
         go_wp2_with fail
         refine H2.out.mono ?_;rintro r w1 ⟨rfl,rfl⟩
         go_wp2_with fail
         refine L.out.mono ?_;rintro r w1 ⟨rfl,rfl⟩
         go_wp2_with fail
         refine L2.out.mono ?_;rintro r w1 ⟨rfl,rfl⟩;go_wp2
         go_ret2
         exact ⟨⟨_,rfl,Nt.nil _ _⟩,Below.refl _ _⟩
       · have hX0:X≠0:=fun e=>h1 ((ws_len_zero X).2 e)
         have hY0:Y≠0:=fun e=>h2 ((ws_len_zero Y).2 e)
         have hlow:pw ((ws X).length+(ws Y).length-2)≤X*Y:=by
          have a:=Nat.mul_le_mul (ws_len_ge X hX0) (ws_len_ge Y hY0);rw [←pw_add] at a;rw [show (ws X).length+(ws Y).length-2=(ws X).length-1+((ws Y).length-1) by omega];exact a
         obtain ⟨hRX,hRY,hl1,hl2⟩:=HR.out;have M0:=mul_any (ws X) (ws Y) ao bo _ cap _ capb B w rfl rfl (by omega) (by omega) (by unfold LG at hLX hLY;omega) (wf_ws X) (wf_ws Y) hRX hRY hB
         rw [val_ws,val_ws] at M0;have hsmall1:(ws X).length≤8192:=by unfold LG at hLX;omega
         have hsmall2:(ws Y).length≤8192:=by unfold LG at hLY;omega
         obtain ⟨k1,hk1⟩:∃ k,(ws X).length=k:=⟨_,rfl⟩;obtain ⟨k2,hk2⟩:∃ k,(ws Y).length=k:=⟨_,rfl⟩;rw [hk1] at H1 L h1 M0 hlow hsmall1;rw [hk2] at H2 L2 h2 M0 hlow hsmall2;have h1b:((k1:Int)==0)=false:=by simp;omega
         have h2b:((k2:Int)==0)=false:=by simp;omega
         by_cases h3:8192<k1+k2-1
         · have hLG:LG (X*Y):=by
            unfold LG
            by_cases h4:(ws (X*Y)).length≤8192
            · have:=(ws_len_le _ _).1 h4
              have:=pw_mono (show 8192≤k1+k2-2 by omega)
              omega
            · omega
           have e:mulS X Y=(0,2):=by simp [mulS,hLG]
           rw [e];have h3i:(8192:Int)<(k1:Int)+(k2:Int)-1:=by omega
           clear e hLX hLY HR hz1 hz2 hk1 hk2 hRX hRY hl1 hl2 M0 hX0 hY0 hlow hLG h3;go_enter Tryz.func130,Tryz.ntmps130
           go_wp2_with fail
           refine H1.out.mono ?_;rintro r w1 ⟨rfl,rfl⟩
           go_wp2_with fail
           refine H2.out.mono ?_;rintro r w1 ⟨rfl,rfl⟩
           go_wp2_with fail
           refine L.out.mono ?_;rintro r w1 ⟨rfl,rfl⟩
           go_wp2_with fail
           refine L2.out.mono ?_;rintro r w1 ⟨rfl,rfl⟩;go_wp2
           go_ret2
           exact ⟨⟨_,rfl,Nt.nil _ _⟩,Below.refl _ _⟩
         · have h3i:(k1:Int)+(k2:Int)-1≤8192:=by omega
           have h3b:decide ((8192:Int)<(k1:Int)+(k2:Int)-1)=false:=decide_eq_false (by omega)
           have M:=hid M0;have HL:=(qsd (ai hLX hLY));clear hLX hLY HR hz1 hz2 hk1 hk2 hRX hRY hl1 hl2 M0 hX0 hY0 hlow h3;go_enter Tryz.func130,Tryz.ntmps130
           go_wp2_with fail
           refine H1.out.mono ?_;rintro r w1 ⟨rfl,rfl⟩
           go_wp2_with fail
           refine H2.out.mono ?_;rintro r w1 ⟨rfl,rfl⟩
           go_wp2_with fail
           refine L.out.mono ?_;rintro r w1 ⟨rfl,rfl⟩
           go_wp2_with fail
           refine L2.out.mono ?_;rintro r w1 ⟨rfl,rfl⟩
           go_wp2_with fail
           refine M.out.mono ?_;rintro r w2 ⟨v,rfl,hN,hb⟩;obtain ⟨av,cv,rfl,hcv,hcm,hRv⟩:=hN.shape;have U0:=unlessLong_any (ws (X*Y)).length av cv w2;have HN:=(qsd (ai hN hb));clear M hN hb hRv
           by_cases hL:LG (X*Y)
           · rw [if_pos (show 8192<(ws (X*Y)).length from hL)] at U0
             have U:=(hid U0);clear U0
             go_wp2_with fail
             refine U.out.mono ?_;rintro r w3 ⟨rfl,rfl⟩;go_wp2
             go_ret2
             rw [show mulS X Y=(0,2) by simp [mulS,hL]]
             exact ⟨⟨_,rfl,Nt.nil _ _⟩,HN.out.2⟩
           · rw [if_neg (show ¬ 8192<(ws (X*Y)).length from hL)] at U0
             have U:=(hid U0);clear U0
             go_wp2_with fail
             refine U.out.mono ?_;rintro r w3 ⟨rfl,rfl⟩;go_wp2
             go_ret2
             rw [show mulS X Y=(X*Y,0) by simp [mulS,HL.out.1,HL.out.2,hL]]
             exact ⟨⟨_,rfl,HN.out.1⟩,HN.out.2⟩
def Three (lo:Nat) (w:World) (r:Ending) (a:Nat×Nat×Int):Prop:=∃ v u,r=.returned (.tuple #[v,u,.int .i64 a.2.2])∧Nt lo w v a.1∧Nt lo w u a.2.1∧Apart v u
theorem Div_any (xs ys:List Nat) (ao bo:Option Addr) (n cap m capb B:Nat) (w:World) (hn:n=xs.length) (hm:m=ys.length) (hc:n≤cap) (hcb:m≤capb) (hbig:n≤35184372088833) (hbig2:m≤35184372088833)
 (hx:Wf xs) (hy:Wf ys) (hR:Rd B w ao xs) (hS:Rd B w bo ys) (hB:B≤w.heap.size) :
 Calls Tryz.prog 163 #[.slice ao n cap,.slice bo m capb] w fun r w'=>Three w.heap.size w' r (divS (val xs) (val ys))∧Below w.heap.size w w':=by
 obtain ⟨T1,hRX,hl1⟩:=trimX xs ao n cap B w hn hc (by omega) hx hR
 obtain ⟨T2,hRY,hl2⟩:=trimX ys bo m capb B w hm hcb (by omega) hy hS
 generalize val xs=X at *;generalize val ys=Y at *;have H1:=(hid T1);have H2:=(hid T2);have HR:=(qsd (ai hRX (ai hRY (ai hl1 hl2))));clear T1 T2 hRX hRY hn hm hx hy hR hS hl1 hl2
 by_cases hLX:LG X
 · have L:=hid (longb (ws X).length ao cap w true (by simpa [LG] using hLX))
   have e:divS X Y=(0,0,2):=by simp [divS,hLX]
   rw [e];clear e hLX HR;go_enter Tryz.func163,Tryz.ntmps163
   go_wp2_with fail
   refine H1.out.mono ?_;rintro r w1 ⟨rfl,rfl⟩
   go_wp2_with fail
   refine H2.out.mono ?_;rintro r w1 ⟨rfl,rfl⟩
   go_wp2_with fail
   refine L.out.mono ?_;rintro r w1 ⟨rfl,rfl⟩;go_wp2
   go_ret3
   exact ⟨⟨_,_,rfl,Nt.nil _ _,Nt.nil _ _,apart_nil _⟩,Below.refl _ _⟩
 · have L:=hid (longb (ws X).length ao cap w false (by simpa [LG] using hLX))
   by_cases hLY:LG Y
   · have L2:=hid (longb (ws Y).length bo capb w true (by simpa [LG] using hLY))
     have e:divS X Y=(0,0,2):=by simp [divS,hLY]
     rw [e];clear e hLX hLY HR;go_enter Tryz.func163,Tryz.ntmps163
     go_wp2_with fail
     refine H1.out.mono ?_;rintro r w1 ⟨rfl,rfl⟩
     go_wp2_with fail
     refine H2.out.mono ?_;rintro r w1 ⟨rfl,rfl⟩
     go_wp2_with fail
     refine L.out.mono ?_;rintro r w1 ⟨rfl,rfl⟩
     go_wp2_with fail
     refine L2.out.mono ?_;rintro r w1 ⟨rfl,rfl⟩;go_wp2
     go_ret3
     exact ⟨⟨_,_,rfl,Nt.nil _ _,Nt.nil _ _,apart_nil _⟩,Below.refl _ _⟩
   · have L2:=hid (longb (ws Y).length bo capb w false (by simpa [LG] using hLY))
     by_cases h2:Y=0
     · have e:divS X Y=(0,0,21):=by unfold divS;rw [if_neg (by simp [hLX,hLY]),if_pos h2]
       rw [e];subst h2;rw [ws_zero] at H2 L2;clear e hLX hLY HR;go_enter Tryz.func163,Tryz.ntmps163
       go_wp2_with fail
       refine H1.out.mono ?_;rintro r w1 ⟨rfl,rfl⟩
       go_wp2_with fail
       refine H2.out.mono ?_;rintro r w1 ⟨rfl,rfl⟩
       go_wp2_with fail
       refine L.out.mono ?_;rintro r w1 ⟨rfl,rfl⟩
       go_wp2_with fail
       refine L2.out.mono ?_;rintro r w1 ⟨rfl,rfl⟩;go_wp2
       go_ret3
       exact ⟨⟨_,_,rfl,Nt.nil _ _,Nt.nil _ _,apart_nil _⟩,Below.refl _ _⟩
     · have h3:(ws Y).length≠0:=fun e=>h2 ((ws_len_zero Y).1 e)
       obtain ⟨hRX,hRY,hl1,hl2⟩:=HR.out;have D0:=div_any (ws X) (ws Y) ao bo _ cap _ capb B w rfl rfl (by omega) (by omega) (by omega) (by omega) (wf_ws X) (wf_ws Y) (ws_top Y h2) hRX hRY hB
       rw [val_ws,val_ws] at D0;have e:divS X Y=(X/Y,X%Y,0):=by simp [divS,hLX,hLY,h2]
       rw [e];obtain ⟨k2,hk2⟩:∃ k,(ws Y).length=k:=⟨_,rfl⟩;rw [hk2] at H2 L2 D0 h3;have h2b:((k2:Int)==0)=false:=by simp;omega
       have D:=hid D0;clear e hLX hLY HR hk2 hRX hRY hl1 hl2 D0 h2;go_enter Tryz.func163,Tryz.ntmps163
       go_wp2_with fail
       refine H1.out.mono ?_;rintro r w1 ⟨rfl,rfl⟩
       go_wp2_with fail
       refine H2.out.mono ?_;rintro r w1 ⟨rfl,rfl⟩
       go_wp2_with fail
       refine L.out.mono ?_;rintro r w1 ⟨rfl,rfl⟩
       go_wp2_with fail
       refine L2.out.mono ?_;rintro r w1 ⟨rfl,rfl⟩
       go_wp2_with fail
       refine D.out.mono ?_;rintro r w2 ⟨⟨v,u,rfl,hN1,hN2,hap⟩,hb⟩;have HN:=(qsd (ai hN1 (ai hN2 (ai hap hb))));clear hN1 hN2 hap hb D;go_wp2
       go_ret3
       obtain ⟨hN1,hN2,hap,hb⟩:=HN.out;exact ⟨⟨_,_,rfl,hN1,hN2,hap⟩,hb⟩
end
section
open Go.RowKit
theorem bl_le_words (X k:Nat) (h:X<pw k):bl X≤32*k:=by
 by_cases h0:X=0
 · subst h0;rw [bl_zero];omega
 · have h1:=bl_ge X h0
   have h3:pw k=2^(32*k):=by rw [←Nat.add_zero (32*k),pw_two];simp
   rw [h3] at h;have:=(Nat.pow_lt_pow_iff_right (a:=2) (by decide)).1 (Nat.lt_of_le_of_lt h1 h)
   omega
theorem bl_small (X:Nat) (h:¬ LG X):bl X≤262144 :=
 bl_le_words X 8192 ((ws_len_le X 8192).1 (by unfold LG at h;omega))
theorem Shift_any (xs:List Nat) (ao:Option Addr) (n cap B:Nat) (by':Int) (w:World) (hn:n=xs.length) (hc:n≤cap) (hbig:n≤35184372088833)
 (hx:Wf xs) (hR:Rd B w ao xs) (hB:B≤w.heap.size) (hb0:-9223372036854775808≤by') (hb1:by'≤9223372036854775807) :
 Calls Tryz.prog 161 #[.slice ao n cap,.int .i64 by'] w fun r w'=>One w.heap.size w' r (shiftS (val xs) by')∧Below w.heap.size w w':=by
 obtain ⟨T1,hRX,hl1⟩:=trimX xs ao n cap B w hn hc (by omega) hx hR
 generalize val xs=X at *;have N0:=len_any (ws X) ao _ cap B w rfl (by omega) (by omega) (wf_ws X) hRX
 rw [val_ws] at N0;have H1:=(hid T1);have H2:=(hid N0);have HR:=(qsd (ai hRX hl1));clear T1 N0 hRX hn hx hR hl1
 by_cases hLX:LG X
 · have L:=hid (longb (ws X).length ao cap w true (by simpa [LG] using hLX))
   have e:shiftS X by'=(0,2):=by simp [shiftS,hLX]
   rw [e];clear e hLX HR;generalize bl X=c at *;go_enter Tryz.func161,Tryz.ntmps161
   go_wp2_with fail
   refine H1.out.mono ?_;rintro r w1 ⟨rfl,rfl⟩
   go_wp2_with fail
   refine H2.out.mono ?_;rintro r w1 ⟨rfl,rfl⟩
   go_wp2_with fail
   refine L.out.mono ?_;rintro r w1 ⟨rfl,rfl⟩;go_wp2
   go_ret2
   exact ⟨⟨_,rfl,Nt.nil _ _⟩,Below.refl _ _⟩
 · have L:=hid (longb (ws X).length ao cap w false (by simpa [LG] using hLX))
   have hbs:=bl_small X hLX;obtain ⟨c,hcc⟩:∃ c,bl X=c:=⟨_,rfl⟩
   by_cases h0:X=0
   · have e:shiftS X by'=(0,0):=by unfold shiftS;rw [if_neg hLX,if_pos h0]
     rw [e];subst h0;rw [ws_zero] at H1 H2 L;rw [bl_zero] at H2;clear e hLX HR hbs hcc;go_enter Tryz.func161,Tryz.ntmps161
     go_wp2_with fail
     refine H1.out.mono ?_;rintro r w1 ⟨rfl,rfl⟩
     go_wp2_with fail
     refine H2.out.mono ?_;rintro r w1 ⟨rfl,rfl⟩
     go_wp2_with fail
     refine L.out.mono ?_;rintro r w1 ⟨rfl,rfl⟩;go_wp2
     go_ret2
     exact ⟨⟨_,rfl,Nt.nil _ _⟩,Below.refl _ _⟩
   · have hcp:=bl_pos X h0
     have hlt:=bl_lt X;rw [hcc] at hcp hbs H2 hlt;have hcne:((c:Int)==0)=false:=by simp;omega
     by_cases hneg:by'<0
     · obtain ⟨d,hd⟩:∃ d:Nat,(d:Int)=-by':=⟨(-by').toNat,by omega⟩
       have e:shiftS X by'=(X/2^d,0):=by
        unfold shiftS;rw [if_neg hLX,if_neg h0,if_pos hneg,←hd,Int.toNat_natCast]
       rw [e]
       by_cases hbig2:by'≤-(c:Int)
       · have e2:X/2^d=0:=Nat.div_eq_of_lt (Nat.lt_of_lt_of_le hlt (Nat.pow_le_pow_right (by decide) (by omega)))
         rw [e2];clear e e2 hLX HR hcc hlt hd h0;go_enter Tryz.func161,Tryz.ntmps161
         go_wp2_with fail
         refine H1.out.mono ?_;rintro r w1 ⟨rfl,rfl⟩
         go_wp2_with fail
         refine H2.out.mono ?_;rintro r w1 ⟨rfl,rfl⟩
         go_wp2_with fail
         refine L.out.mono ?_;rintro r w1 ⟨rfl,rfl⟩;go_wp2
         go_ret2
         exact ⟨⟨_,rfl,Nt.nil _ _⟩,Below.refl _ _⟩
       · obtain ⟨hRX,hl1⟩:=HR.out
         have D0:=down_any (ws X) ao _ cap B d (d/32) (d%32) w rfl (by omega) (by omega) (by omega) (by omega) (by omega) (wf_ws X) hRX hB
         rw [val_ws] at D0;have D:=hid D0;have hgt:-(c:Int)<by':=by omega
         have hd':-by'=(d:Int):=hd.symm
         clear e hLX HR hcc hlt h0 hRX hl1 D0 hbig2 hd;go_enter Tryz.func161,Tryz.ntmps161
         go_wp2_with fail
         refine H1.out.mono ?_;rintro r w1 ⟨rfl,rfl⟩
         go_wp2_with fail
         refine H2.out.mono ?_;rintro r w1 ⟨rfl,rfl⟩
         go_wp2_with fail
         refine L.out.mono ?_;rintro r w1 ⟨rfl,rfl⟩
         go_wp2_with fail
         try rw [hd']
         refine D.out.mono ?_;rintro r w2 ⟨v,rfl,hN,hb⟩;have HN:=(qsd (ai hN hb));clear hN hb D;go_wp2
         go_ret2
         exact ⟨⟨_,rfl,HN.out.1⟩,HN.out.2⟩
     · obtain ⟨d,rfl⟩:∃ d:Nat,by'=(d:Int):=⟨by'.toNat,by omega⟩
       by_cases hover:262144-(c:Int)<(d:Int)
       · have e:shiftS X (d:Int)=(0,2):=by unfold shiftS;rw [if_neg hLX,if_neg h0,if_neg hneg,hcc,if_pos hover]
         rw [e];clear e hLX HR hcc hlt h0 hneg;go_enter Tryz.func161,Tryz.ntmps161
         go_wp2_with fail
         refine H1.out.mono ?_;rintro r w1 ⟨rfl,rfl⟩
         go_wp2_with fail
         refine H2.out.mono ?_;rintro r w1 ⟨rfl,rfl⟩
         go_wp2_with fail
         refine L.out.mono ?_;rintro r w1 ⟨rfl,rfl⟩;go_wp2
         go_ret2
         exact ⟨⟨_,rfl,Nt.nil _ _⟩,Below.refl _ _⟩
       · have e:shiftS X (d:Int)=(X*2^d,0):=by unfold shiftS;rw [if_neg hLX,if_neg h0,if_neg hneg,hcc,if_neg hover,Int.toNat_natCast]
         rw [e];obtain ⟨hRX,hl1⟩:=HR.out;have D0:=up_any (ws X) ao _ cap B d (d/32) (d%32) w rfl (by omega) (by omega) (by omega) (by unfold LG at hLX;omega) (wf_ws X) hRX hB
         rw [val_ws] at D0;have D:=hid D0;have hle:(d:Int)≤262144-(c:Int):=by omega
         have hleb:decide (262144-(c:Int)<(d:Int))=false:=decide_eq_false (by omega)
         clear e hLX HR hcc hlt h0 hRX hl1 D0 hover hneg;go_enter Tryz.func161,Tryz.ntmps161
         go_wp2_with fail
         refine H1.out.mono ?_;rintro r w1 ⟨rfl,rfl⟩
         go_wp2_with fail
         refine H2.out.mono ?_;rintro r w1 ⟨rfl,rfl⟩
         go_wp2_with fail
         refine L.out.mono ?_;rintro r w1 ⟨rfl,rfl⟩
         go_wp2_with fail
         refine D.out.mono ?_;rintro r w2 ⟨v,rfl,hN,hb⟩;have HN:=(qsd (ai hN hb));clear hN hb D;go_wp2
         go_ret2
         exact ⟨⟨_,rfl,HN.out.1⟩,HN.out.2⟩
end
section
open Go.RowKit
theorem append_words (w:World) (lo:Nat) (v:Value) (n:Nat) (xs src:List Nat) (ao:Option Addr) (m c B:Nat) (ty:TypeId) (hown:w.ownsRow lo 91 1 v n (xs.map U)) (hm:m=src.length) (hR:Rd B w ao src)
 (hnil:ao=none→c=0) (hbig:n+m≤35184372088832) (hlo:lo≤w.heap.size) :
 ∃ v' w',(Builtin.append_ #[35,35] ty #[v,.slice ao m c]).run Tryz.prog w=.ok v' w'∧w'.ownsRow lo 91 1 v' (n+m) ((xs++src).map U)∧w.grownBy w' v.ownBlock:=by
 obtain ⟨i0,hi,hz0,hz1,hz2⟩:=info_parts Tryz.info91;subst hm
 rcases hao:ao with _|a
 · have h0:src=[]:=by
    by_cases h:src=[]
    · exact h
    · obtain ⟨b,off,_,e,_⟩:=hR h
      rw [hao] at e;cases e
   subst h0;have hc:=hnil hao;subst hc;exact ⟨v,w,run_append_owned_none (P:=Tryz.prog) w lo 35 ty 91 i0 1 Tryz.underlying35 hi v n _ hown,by simpa using hown,World.grownBy.refl _ _⟩
 · obtain ⟨v',w',h1,h2,h3,_⟩:=run_append_own (P:=Tryz.prog) w lo 35 ty 91 i0 (.int .u32 0) 1 4 Tryz.underlying35 hi hz0 hz1 hz2 rfl (by decide) v n (xs.map U) hown a src.length c (src.map U) (by simp) (by
    intro j u hj;have hj2:j<src.length:=by have:=(List.getElem?_eq_some_iff.1 hj).1;simpa using this
    obtain ⟨b,off,_,e,hc⟩:=hR (by intro e;subst e;simp at hj2)
    rw [hao] at e
    cases e
    have hadd:(⟨b,off,none⟩:Addr).add j=⟨b,off+j,none⟩:=by unfold Addr.add;split <;> simp_all
    rw [hadd,hc j hj2];simp [hj2,U] at hj;simp [hj2,←hj]) (by
    intro u hu;obtain ⟨x,_,rfl⟩:=List.mem_map.1 hu
    rfl) (by unfold maxLen;omega) (by omega) hlo
   exact ⟨v',w',h1,by rw [List.map_append];exact h2,h3⟩
theorem wpList_append_run {w:World}{ops:Array Oper}{rest:List Oper}{o:Oper}{a:Act}{Q:Exit→Act→World→Prop}(hgd:o.guard=none) (s x:Operand)
 (ho:o.op=.call { callee:=.builtin .append,args:=#[s,x],argTypes:=#[35,35] }) (v u:Value) (hs:a.eval s=v) (hx:a.eval x=u) (v':Value) (w':World)
 (hrun:(Builtin.append_ #[35,35] o.type #[v,u]).run Tryz.prog w=.ok v' w') (h:wpList Tryz.prog ops Q rest (a.put o.dst v') w'):wpList Tryz.prog ops Q (o::rest) a w:=by
 refine wpList_plain hgd fun K hK=>?_
 unfold Oper.wp;simp [execOp,ho,resolve,invoke,builtin,hs,hx,hrun,Result.andThen];exact hK _ _ h
theorem rNorm_any (xs:List Nat) (ao:Option Addr) (n cap B:Nat) (w:World) (hn:n=xs.length) (hc:n≤cap) (hm:n≤35184372088832) (hx:Wf xs) (hR:Rd B w ao xs) (hnil:ao=none→cap=0) :
 Calls Tryz.prog 89 #[.slice ao n cap] w fun r w'=>∃ v,r=.returned v∧Nt w.heap.size w' v (val xs)∧Below w.heap.size w w':=by
 have S:=hid (size_any xs ao n cap B w hn (by omega) hR)
 have hl:=nl_le xs;have hf:=form_eq xs hx;obtain ⟨v',w',hap,hown,hgrow⟩:=append_words w w.heap.size (.slice none 0 0) 0 [] (xs.take (nl xs)) ao (nl xs) cap B 35 (World.ownsRow_nil _ _ _ _) (by rw [List.length_take];omega) (hR.take _) hnil (by omega) (Nat.le_refl _)
 have hN:Nt w.heap.size w' v' (val xs):=by
  unfold Nt;rw [←hf];simpa [Nat.min_eq_left hl] using hown
 have hb:Below w.heap.size w w':=(Below.refl _ _).grown hgrow (Nat.le_refl _) (fun k hk=>by simp [Value.ownBlock] at hk)
 have HN:=(qsd (ai hN hb));obtain ⟨k,hk⟩:∃ k,nl xs=k:=⟨_,rfl⟩;rw [hk] at S hap hl;have hkn:k≤n:=by omega
 have HZ:Aside (n=0→val xs=0):=by intro h0;have:xs=[]:=List.length_eq_zero_iff.1 (by omega);rw [this];rfl
 clear hN hb hown hgrow hf hl hn hx hR hk
 rcases hao:ao with _|a
 · have hc0:=hnil hao
   subst hc0;subst hao;obtain rfl:n=0:=by omega
   obtain rfl:k=0:=by omega
   go_enter Tryz.func89,Tryz.ntmps89
   go_wp2_with fail
   refine S.out.mono ?_;rintro r w1 ⟨rfl,rfl⟩;go_wp2;go_ret;rw [HZ.out (by trivial)]
   exact ⟨_,rfl,Nt.nil _ _,Below.refl _ _⟩
 · subst hao
   go_enter Tryz.func89,Tryz.ntmps89
   go_wp2_with fail
   refine S.out.mono ?_;rintro r w1 ⟨rfl,rfl⟩;have HAP:=hid hap;clear hap
   go_wp2_with (at_builtin;refine wpList_append_run rfl (.tmp 4) (.tmp 8) rfl _ _ rfl rfl _ _ HAP.out ?_)
   go_ret;exact ⟨_,rfl,HN.out.1,HN.out.2⟩
end
section
open Go.RowKit
structure Arg (w:World) (a:Option Addr) (n c:Nat) (xs:List Nat):Prop where
 len:n=xs.length
 cap:n≤c
 big:n≤35184372088832
 wf:Wf xs
 rd:Rd w.heap.size w a xs
 nil:a=none→c=0
theorem Arg.below {w w':World}{a:Option Addr}{n c:Nat}{xs:List Nat}(h:Arg w a n c xs) (hb:Below w.heap.size w w'):Arg w' a n c xs :=
 ⟨h.len,h.cap,h.big,h.wf,(h.rd.below hb).mono hb.size,h.nil⟩
theorem Nt.arg {lo:Nat}{w:World}{v:Value}{X:Nat}(h:Nt lo w v X) (hs:(ws X).length≤35184372088832):∃ a c,v=.slice a (ws X).length c∧Arg w a (ws X).length c (ws X):=by
 have h':=h;obtain ⟨a,c,rfl,h1,h2,h3⟩:=h.shape;refine ⟨a,c,rfl,rfl,h1,hs,wf_ws X,h3,fun e=>?_⟩
 rcases h'.2 with ⟨e1,_⟩|⟨g,cap,cur,e1,_⟩
 · simp only [Value.slice.injEq] at e1;exact e1.2.2
 · simp only [Value.slice.injEq] at e1;rw [e1.1] at e;cases e
theorem one_ok {lo:Nat}{w:World}{r:Ending}{a:Nat×Int}{V:Nat}(h:One lo w r a) (e:a=(V,0)):∃ v,r=.returned (.tuple #[v,.int .i64 0])∧Nt lo w v V:=by
 subst e;exact h
theorem Mul_arg {w:World}{a b:Option Addr}{n c m d:Nat}{xs ys:List Nat}{V:Nat}(h1:Arg w a n c xs) (h2:Arg w b m d ys) (e:mulS (val xs) (val ys)=(V,0)) :
 Calls Tryz.prog 130 #[.slice a n c,.slice b m d] w fun r w'=>∃ v,r=.returned (.tuple #[v,.int .i64 0])∧Nt w.heap.size w' v V∧Below w.heap.size w w' :=
 (Mul_any xs ys a b n c m d w.heap.size w h1.len h2.len h1.cap h2.cap (by have:=h1.big;omega) (by have:=h2.big;omega) h1.wf h2.wf h1.rd h2.rd (Nat.le_refl _)).mono
  fun r w' ⟨ho,hb⟩=>by obtain ⟨v,h3,h4⟩:=one_ok ho e;exact ⟨v,h3,h4,hb⟩
theorem Add_arg {w:World}{a b:Option Addr}{n c m d:Nat}{xs ys:List Nat}{V:Nat}(h1:Arg w a n c xs) (h2:Arg w b m d ys) (e:addS (val xs) (val ys)=(V,0)) :
 Calls Tryz.prog 162 #[.slice a n c,.slice b m d] w fun r w'=>∃ v,r=.returned (.tuple #[v,.int .i64 0])∧Nt w.heap.size w' v V∧Below w.heap.size w w' :=
 (Add_any xs ys a b n c m d w.heap.size w h1.len h2.len h1.cap h2.cap (by have:=h1.big;omega) (by have:=h2.big;omega) h1.wf h2.wf h1.rd h2.rd (Nat.le_refl _)).mono
  fun r w' ⟨ho,hb⟩=>by obtain ⟨v,h3,h4⟩:=one_ok ho e;exact ⟨v,h3,h4,hb⟩
theorem Sub_arg {w:World}{a b:Option Addr}{n c m d:Nat}{xs ys:List Nat}{V:Nat}(h1:Arg w a n c xs) (h2:Arg w b m d ys) (e:subS (val xs) (val ys)=(V,0)) :
 Calls Tryz.prog 165 #[.slice a n c,.slice b m d] w fun r w'=>∃ v,r=.returned (.tuple #[v,.int .i64 0])∧Nt w.heap.size w' v V∧Below w.heap.size w w' :=
 (Sub_any xs ys a b n c m d w.heap.size w h1.len h2.len h1.cap h2.cap (by have:=h1.big;omega) (by have:=h2.big;omega) h1.wf h2.wf h1.rd h2.rd (Nat.le_refl _)).mono
  fun r w' ⟨ho,hb⟩=>by obtain ⟨v,h3,h4⟩:=one_ok ho e;exact ⟨v,h3,h4,hb⟩
theorem Shift_arg {w:World}{a:Option Addr}{n c:Nat}{xs:List Nat}{V:Nat}(by':Int) (h1:Arg w a n c xs) (e:shiftS (val xs) by'=(V,0)) (hb0:-9223372036854775808≤by') (hb1:by'≤9223372036854775807) :
 Calls Tryz.prog 161 #[.slice a n c,.int .i64 by'] w fun r w'=>∃ v,r=.returned (.tuple #[v,.int .i64 0])∧Nt w.heap.size w' v V∧Below w.heap.size w w' :=
 (Shift_any xs a n c w.heap.size by' w h1.len h1.cap (by have:=h1.big;omega) h1.wf h1.rd (Nat.le_refl _) hb0 hb1).mono
  fun r w' ⟨ho,hb⟩=>by obtain ⟨v,h3,h4⟩:=one_ok ho e;exact ⟨v,h3,h4,hb⟩
theorem Cmp_arg {w:World}{a b:Option Addr}{n c m d:Nat}{xs ys:List Nat}(h1:Arg w a n c xs) (h2:Arg w b m d ys) (z:Int) (e:cmpI (val xs) (val ys)=z) :
 Calls Tryz.prog 181 #[.slice a n c,.slice b m d] w fun r w'=>r=.returned (.int .i64 z)∧Below w.heap.size w w':=by
 have:=cmp_any xs ys a b n c m d w.heap.size w h1.len h2.len h1.cap h2.cap (by have:=h1.big;omega) (by have:=h2.big;omega) h1.wf h2.wf h1.rd h2.rd
 rw [e] at this;exact this
theorem addS_ok {X Y V:Nat}(h3:¬ LG V) (e:X+Y=V):addS X Y=(V,0):=by subst e;unfold addS;rw [if_neg h3]
theorem subS_ok {X Y V:Nat}(h1:¬ LG X) (h2:¬ LG Y) (e:V+Y=X):subS X Y=(V,0):=by unfold subS;rw [if_neg (by simp [h1,h2]),if_neg (by omega)];congr 1;omega
end
section
open Go.RowKit
def Bl (w:World) (g T:Nat) (C:List Value):Prop:=w.heap[g]?=some (.cells C.toArray T (0,0))
theorem Bl.lt {w:World}{g T:Nat}{C:List Value}(h:Bl w g T C):g<w.heap.size:=(Array.getElem?_eq_some_iff.1 h).1
theorem Bl.cell {w:World}{g T:Nat}{C:List Value}(h:Bl w g T C) (i:Nat) (v:Value) (hv:C[i]?=some v):w.cell? ⟨g,i,none⟩=some v:=by
 unfold Bl at h;simp [World.cell?,h,hv]
theorem Bl.frozen {w:World}{g T:Nat}{C:List Value}(h:Bl w g T C) (i:Nat):w.frozen? ⟨g,i,none⟩=false:=by
 unfold Bl at h;simp [World.frozen?,h]
theorem Bl.set {w:World}{g T:Nat}{C:List Value}(h:Bl w g T C) (i:Nat) (v:Value):Bl (w.setCell ⟨g,i,none⟩ v) g T (C.set i v):=by
 unfold Bl at h ⊢;simp [World.setCell,Array.getElem?_modify,h]
theorem Bl.below {w w':World}{g T B:Nat}{C:List Value}(h:Bl w g T C) (hb:Below B w w') (hg:g<B):Bl w' g T C:=by
 unfold Bl at h ⊢;rw [hb.block g hg];exact h
theorem Bl.but {w w':World}{g g' T:Nat}{C:List Value}(h:Bl w g T C) (hb:But g' w w') (hg:g≠g'):Bl w' g T C:=by
 unfold Bl at h ⊢;rw [hb.block g (Bl.lt h) hg];exact h
theorem bel_alloc (w:World) (o:Obj):Below w.heap.size w (w.alloc o):=(Below.refl _ _).alloc (Nat.le_refl _) _
theorem Bl.alloc {w:World}{g T:Nat}{C:List Value}(h:Bl w g T C) (o:Obj):Bl (w.alloc o) g T C:=by
 unfold Bl at h ⊢;rw [(bel_alloc w o).block g (Bl.lt h)];exact h
theorem Bl.new (w:World) (T:Nat) (C:List Value):Bl (w.alloc (.cells C.toArray T)) w.heap.size T C:=by
 unfold Bl;rw [heap_alloc_new]
end
namespace B
open Ieee
def val (f:Format) (r:Nat):Nat:=if r<f.binade then r else (f.binade+r%f.binade)*2^(r/f.binade-1)
theorem binade_pos (f:Format):0<f.binade:=Nat.two_pow_pos _
theorem val_succ (f:Format) (r:Nat):val f (r+1)=val f r+2^(r/f.binade-1):=by
 have hb:=binade_pos f;unfold val;generalize hB:f.binade=B at *
 by_cases h:r<B
 · rw [if_pos h,Nat.div_eq_of_lt h]
   by_cases h1:r+1<B
   · rw [if_pos h1]
   · have e:r+1=B:=by omega
     rw [if_neg h1,e,Nat.mod_self,Nat.div_self hb];simp
 · have h1:¬ r+1<B:=by omega
   rw [if_neg h,if_neg h1]
   have hq:1≤r/B:=by
    have:=Nat.div_le_div_right (c:=B) (Nat.le_of_not_lt h);rw [Nat.div_self hb] at this;exact this
   have hm:=Nat.mod_lt r hb;have hd:=Nat.div_add_mod r B;generalize r/B=q at *;generalize hmm:r%B=m at *;obtain ⟨q,rfl⟩:∃ k,q=k+1:=⟨q-1,by omega⟩
   by_cases h2:m+1<B
   · have e:r+1=B*(q+1)+(m+1):=by omega
     have e1:(r+1)%B=m+1:=by rw [e,Nat.mul_add_mod,Nat.mod_eq_of_lt h2]
     have e2:(r+1)/B=q+1:=by rw [e,Nat.mul_add_div hb,Nat.div_eq_of_lt h2]
     rw [e1,e2,Nat.add_sub_cancel,←Nat.add_assoc,Nat.add_mul,Nat.one_mul]
   · have hm1:m+1=B:=by omega
     have e:r+1=B*(q+2):=by rw [show q+2=(q+1)+1 from rfl,Nat.mul_succ];omega
     have e1:(r+1)%B=0:=by rw [e,Nat.mul_mod_right]
     have e2:(r+1)/B=q+2:=by rw [e,Nat.mul_div_cancel_left _ hb]
     rw [e1,e2];have:B+m=2*B-1:=by omega
     have h3:(B+m)*2^q+2^q=(2*B)*2^q:=by
      rw [←Nat.succ_mul];congr 1;omega
     show (B+0)*2^(q+1)=(B+m)*2^q+2^q
     rw [h3,Nat.pow_succ,Nat.add_zero,Nat.mul_comm 2 B,Nat.mul_assoc,Nat.mul_comm 2]
theorem val_lt_succ (f:Format) (r:Nat):val f r<val f (r+1):=by
 rw [val_succ];exact Nat.lt_add_of_pos_right (Nat.two_pow_pos _)
theorem val_lt (f:Format) {r s:Nat}(h:r<s):val f r<val f s:=by
 induction s with
 | zero=>omega
 | succ s ih =>
   by_cases e:r=s
   · subst e;exact val_lt_succ f r
   · exact Nat.lt_trans (ih (by omega)) (val_lt_succ f s)
theorem val_lt_iff (f:Format) {r s:Nat}:val f r<val f s↔r<s:=by
 constructor
 · intro h
   by_cases e:r<s
   · exact e
   · by_cases e2:r=s
     · subst e2;omega
     · have:=val_lt f (show s<r by omega);omega
 · exact val_lt f
theorem val_inj (f:Format) {r s:Nat}(h:val f r=val f s):r=s:=by
 by_cases e:r<s
 · have:=val_lt f e;omega
 · by_cases e2:s<r
   · have:=val_lt f e2;omega
   · omega
theorem val_zero (f:Format):val f 0=0:=by
 unfold val;rw [if_pos (binade_pos f)]
def sg (s:Bool) (r:Nat):Int:=if s then -(r:Int) else r
theorem sg_val_lt (f:Format) (s t:Bool) (r u:Nat):sg s (val f r)<sg t (val f u)↔sg s r<sg t u:=by
 have h1:=@val_lt_iff f r u;have h2:=@val_lt_iff f u r;have z:=val_zero f;have h3:=@val_lt_iff f 0 r;have h4:=@val_lt_iff f 0 u
 cases s <;> cases t <;> simp only [sg,if_true,if_false,Bool.false_eq_true] <;> omega
theorem signed_eq (s:Bool) (m k:Nat):signed s m k=sg s (m*2^k):=by
 unfold signed sg;rw [Nat.shiftLeft_eq]
theorem read_word (f:Format) (s:Bool) (r:Nat) (hr:r<f.infRung) (hs:f.infRung<f.signWeight) :
 ∃ m:Nat,∃ k:Nat,f.read (f.word s r)=.number s m (f.leastPlace+k)∧m*2^k=val f r:=by
 have e1:(f.word s r/f.signWeight%2==1)=s:=by
  unfold Format.word
  cases s
  · simp only [Bool.false_eq_true,if_false]
    rw [Nat.div_eq_of_lt (by omega)];rfl
  · simp only [if_true]
    rw [Nat.add_div_left _ (by omega),Nat.div_eq_of_lt (by omega)];rfl
 have e2:f.word s r%f.signWeight=r:=by
  unfold Format.word
  cases s
  · simp only [Bool.false_eq_true,if_false];exact Nat.mod_eq_of_lt (by omega)
  · simp only [if_true];rw [Nat.add_mod_left];exact Nat.mod_eq_of_lt (by omega)
 unfold Format.read;simp only [e1,e2];unfold val
 by_cases h:r<f.binade
 · rw [if_pos h,if_pos h]
   exact ⟨r,0,by simp,by simp⟩
 · rw [if_neg h,if_neg h,if_pos hr]
   exact ⟨_,_,rfl,rfl⟩
theorem read_inf (f:Format) (s:Bool) (hs:f.infRung<f.signWeight) (hb:f.binade≤f.infRung) :
 f.read (f.word s f.infRung)=.infinity s:=by
 have e1:(f.word s f.infRung/f.signWeight%2==1)=s:=by
  unfold Format.word
  cases s
  · simp only [Bool.false_eq_true,if_false]
    rw [Nat.div_eq_of_lt (by omega)];rfl
  · simp only [if_true]
    rw [Nat.add_div_left _ (by omega),Nat.div_eq_of_lt (by omega)];rfl
 have e2:f.word s f.infRung%f.signWeight=f.infRung:=by
  unfold Format.word
  cases s
  · simp only [Bool.false_eq_true,if_false];exact Nat.mod_eq_of_lt (by omega)
  · simp only [if_true];rw [Nat.add_mod_left];exact Nat.mod_eq_of_lt (by omega)
 unfold Format.read;simp only [e1,e2];rw [if_neg (by omega),if_neg (by omega),if_pos trivial]
theorem read_nan (f:Format) (w:Nat) (h:f.infRung<w%f.signWeight) (hb:f.binade≤f.infRung) :
 f.read w=.nan (w/f.signWeight%2==1) (w%f.signWeight-f.infRung):=by
 unfold Format.read;simp only;rw [if_neg (by omega),if_neg (by omega),if_neg (by omega)]
theorem compare_of (a b c d:Int) (h1:a<b↔c<d) (h2:b<a↔d<c):compare a b=compare c d:=by
 by_cases x:a<b
 · rw [Int.compare_eq_lt.2 x,Int.compare_eq_lt.2 (h1.1 x)]
 · by_cases y:b<a
   · rw [Int.compare_eq_gt.2 y,Int.compare_eq_gt.2 (h2.1 y)]
   · have e1:a=b:=by omega
     have e2:c=d:=by
      have n1:=mt h1.2 x;have n2:=mt h2.2 y;omega
     rw [Int.compare_eq_eq.2 e1,Int.compare_eq_eq.2 e2]
theorem sg_mul (s:Bool) (a k:Nat):sg s (a*k)=sg s a*(k:Int):=by
 unfold sg;cases s <;> simp [Int.neg_mul]
theorem order_num (s t:Bool) (m n j k:Nat) (p:Int) :
 Datum.order (.number s m (p+j)) (.number t n (p+k))=some (compare (sg s (m*2^j)) (sg t (n*2^k))):=by
 unfold Datum.order;simp only [signed_eq]
 congr 1
 have hb:∃ c:Nat,min (p+(j:Int)) (p+(k:Int))=p+c:=⟨min j k,by omega⟩
 obtain ⟨c,hc⟩:=hb;have hj:(p+(j:Int)-min (p+(j:Int)) (p+(k:Int))).toNat=j-c:=by rw [hc];omega
 have hk:(p+(k:Int)-min (p+(j:Int)) (p+(k:Int))).toNat=k-c:=by rw [hc];omega
 have cj:c≤j:=by omega
 have ck:c≤k:=by omega
 rw [hj,hk];have ej:m*2^j=m*2^(j-c)*2^c:=by rw [Nat.mul_assoc,←Nat.pow_add,Nat.sub_add_cancel cj]
 have ek:n*2^k=n*2^(k-c)*2^c:=by rw [Nat.mul_assoc,←Nat.pow_add,Nat.sub_add_cancel ck]
 rw [ej,ek,sg_mul s (m*2^(j-c)),sg_mul t (n*2^(k-c))];have hp:(0:Int)<((2^c:Nat):Int):=by exact_mod_cast Nat.two_pow_pos c
 refine compare_of _ _ _ _ ?_ ?_
 · exact ⟨fun h=>Int.mul_lt_mul_of_pos_right h hp,fun h=>Int.lt_of_mul_lt_mul_right h (Int.le_of_lt hp)⟩
 · exact ⟨fun h=>Int.mul_lt_mul_of_pos_right h hp,fun h=>Int.lt_of_mul_lt_mul_right h (Int.le_of_lt hp)⟩
theorem order_word (f:Format) (hs:f.infRung<f.signWeight) (hb:f.binade≤f.infRung) (s t:Bool) (r u:Nat) (hr:r≤f.infRung) (hu:u≤f.infRung) :
 f.order (f.word s r) (f.word t u)=some (compare (sg s r) (sg t u)):=by
 have hB:=binade_pos f;unfold Format.order
 by_cases r1:r=f.infRung
 · by_cases u1:u=f.infRung
   · subst r1 u1
     rw [read_inf f s hs hb,read_inf f t hs hb];unfold Datum.order;simp only
     congr 1
     cases s <;> cases t <;> simp only [sg,Bool.toNat_true,Bool.toNat_false,if_true,if_false,Bool.false_eq_true]
     · rw [Int.compare_eq_eq.2 rfl];rfl
     · rw [Int.compare_eq_gt.2 (by omega)];rfl
     · rw [Int.compare_eq_lt.2 (by omega)];rfl
     · rw [Int.compare_eq_eq.2 rfl];rfl
   · obtain ⟨n,k,e,hv⟩:=read_word f t u (by omega) hs
     subst r1;rw [read_inf f s hs hb,e];unfold Datum.order;simp only
     cases s <;> cases t <;> simp only [sg,if_true,if_false,Bool.false_eq_true] <;>
      first | rw [Int.compare_eq_gt.2 (by omega)] | rw [Int.compare_eq_lt.2 (by omega)]
 · obtain ⟨m,j,e,hv⟩:=read_word f s r (by omega) hs
   by_cases u1:u=f.infRung
   · subst u1
     rw [read_inf f t hs hb,e];unfold Datum.order;simp only
     cases s <;> cases t <;> simp only [sg,if_true,if_false,Bool.false_eq_true] <;>
      first | rw [Int.compare_eq_gt.2 (by omega)] | rw [Int.compare_eq_lt.2 (by omega)]
   · obtain ⟨n,k,e2,hv2⟩:=read_word f t u (by omega) hs
     rw [e,e2,order_num,hv,hv2]
     congr 1
     exact compare_of _ _ _ _ (sg_val_lt f s t r u) (sg_val_lt f t s u r)
def rte (n g:Nat):Nat:=n/g+(decide (g<2*(n%g)) || (g==2*(n%g)&&n/g%2==1)).toNat
theorem cut_even (neg:Bool) (n drop:Nat):Toward.even.cut neg n drop=rte n (2^drop):=by
 unfold Toward.cut rte;simp only [Nat.shiftLeft_eq,Nat.one_mul]
 by_cases h:drop≤n.log2+2
 · rw [Nat.min_eq_left h]
 · rw [Nat.min_eq_right (by omega)]
   have hn:n<2^(n.log2+1):=Nat.lt_log2_self;have h1:n<2^(n.log2+2):=by rw [Nat.pow_succ];omega
   have h2:2^(n.log2+2)≤2^drop:=Nat.pow_le_pow_right (by omega) (by omega)
   have h3:2*n<2^(n.log2+2):=by rw [Nat.pow_succ];omega
   rw [Nat.div_eq_of_lt h1,Nat.mod_eq_of_lt h1,Nat.div_eq_of_lt (show n<2^drop by omega),Nat.mod_eq_of_lt (show n<2^drop by omega)]
   have a1:decide (2^(n.log2+2)<2*n)=false:=by simp;omega
   have a2:decide (2^drop<2*n)=false:=by simp;omega
   simp only [a1,a2,Nat.zero_mod];simp
theorem rte_exact (n g:Nat) (hg:0<g):rte (n*g) g=n:=by
 unfold rte;rw [Nat.mul_div_cancel _ hg,Nat.mul_mod_left];have:decide (g<2*0)=false:=by simp
 have h2:(g==2*0)=false:=by simp;omega
 rw [this,h2];simp
theorem rte_one (n:Nat):rte n 1=n:=by
 have:=rte_exact n 1 (by omega)
 rwa [Nat.mul_one] at this
theorem nearest_exact (f:Format) (neg:Bool) (mag k r:Nat) (hr:r<f.infRung) (h:mag*2^k=val f r) :
 f.nearest neg mag (f.leastPlace+k)=f.word neg r:=by
 unfold Format.nearest
 by_cases hm:mag=0
 · rw [if_pos hm]
   have:val f r=val f 0:=by rw [val_zero,←h,hm,Nat.zero_mul]
   rw [val_inj f this]
 · rw [if_neg hm]
   simp only [cut_even,Nat.shiftLeft_eq];have hl:=(Nat.log2_eq_iff hm (k:=mag.log2)).1 rfl;generalize mag.log2=L at *;have hB:f.binade=2^f.fractionBits:=rfl;have hb:=binade_pos f;unfold val at h
   by_cases hlt:r<f.binade
   · rw [if_pos hlt] at h
     have h1:2^(L+k)<2^f.fractionBits:=by
      rw [Nat.pow_add,←hB];exact Nat.lt_of_le_of_lt (Nat.mul_le_mul_right _ hl.1) (by omega)
     have h2:=(Nat.pow_lt_pow_iff_right (a:=2) (by omega)).1 h1
     have e:max (f.leastPlace+(k:Int)+(L:Int)-(f.fractionBits:Int)) f.leastPlace=f.leastPlace:=by omega
     rw [e];have e1:(f.leastPlace+(k:Int)-f.leastPlace).toNat=k:=by omega
     have e2:(f.leastPlace-(f.leastPlace+(k:Int))).toNat=0:=by omega
     have e3:(f.leastPlace-f.leastPlace).toNat=0:=by omega
     rw [e1,e2,e3,h,Nat.pow_zero,rte_one,Nat.zero_mul,Nat.zero_add,Nat.min_eq_left (by omega)]
   · rw [if_neg hlt] at h
     have hq:1≤r/f.binade:=by
      have:=Nat.div_le_div_right (c:=f.binade) (Nat.le_of_not_lt hlt);rw [Nat.div_self hb] at this;exact this
     have hmm:=Nat.mod_lt r hb;have hd:=Nat.div_add_mod r f.binade;generalize r/f.binade=q at *;generalize r%f.binade=m at *;obtain ⟨q,rfl⟩:∃ j,q=j+1:=⟨q-1,by omega⟩
     rw [Nat.add_sub_cancel] at h
     -- the logarithms
     have lo1:2^(L+k)≤mag*2^k:=by rw [Nat.pow_add];exact Nat.mul_le_mul_right _ hl.1
     have hi1:mag*2^k<2^(L+1+k):=by rw [Nat.pow_add];exact Nat.mul_lt_mul_of_pos_right hl.2 (Nat.two_pow_pos _)
     have lo2:2^(f.fractionBits+q)≤(f.binade+m)*2^q:=by rw [Nat.pow_add];exact Nat.mul_le_mul_right _ (by omega)
     have hi2:(f.binade+m)*2^q<2^(f.fractionBits+1+q):=by
      rw [Nat.pow_add,Nat.pow_succ];exact Nat.mul_lt_mul_of_pos_right (by omega) (Nat.two_pow_pos _)
     have c1:=(Nat.pow_lt_pow_iff_right (a:=2) (by omega)).1 (show 2^(L+k)<2^(f.fractionBits+1+q) by omega)
     have c2:=(Nat.pow_lt_pow_iff_right (a:=2) (by omega)).1 (show 2^(f.fractionBits+q)<2^(L+1+k) by omega)
     have cL:L+k=f.fractionBits+q:=by omega
     have e:max (f.leastPlace+(k:Int)+(L:Int)-(f.fractionBits:Int)) f.leastPlace=f.leastPlace+q:=by omega
     rw [e];have e3:(f.leastPlace+(q:Int)-f.leastPlace).toNat=q:=by omega
     rw [e3]
     have fin:q*f.binade+(f.binade+m)=r:=by
      rw [←hd,Nat.mul_succ,Nat.mul_comm q];omega
     by_cases hk:q≤k
     · have e1:(f.leastPlace+(k:Int)-(f.leastPlace+(q:Int))).toNat=k-q:=by omega
       have e2:(f.leastPlace+(q:Int)-(f.leastPlace+(k:Int))).toNat=0:=by omega
       have hh:mag*2^(k-q)=f.binade+m:=by
        have:mag*2^(k-q)*2^q=(f.binade+m)*2^q:=by
         rw [Nat.mul_assoc,←Nat.pow_add,Nat.sub_add_cancel hk];exact h
        exact Nat.eq_of_mul_eq_mul_right (Nat.two_pow_pos _) this
       rw [e1,e2,hh,Nat.pow_zero,rte_one,fin,Nat.min_eq_left (by omega)]
     · have e1:(f.leastPlace+(k:Int)-(f.leastPlace+(q:Int))).toNat=0:=by omega
       have e2:(f.leastPlace+(q:Int)-(f.leastPlace+(k:Int))).toNat=q-k:=by omega
       have hh:mag=(f.binade+m)*2^(q-k):=by
        have:mag*2^k=(f.binade+m)*2^(q-k)*2^k:=by
         rw [Nat.mul_assoc,←Nat.pow_add,Nat.sub_add_cancel (by omega)];exact h
        exact Nat.eq_of_mul_eq_mul_right (Nat.two_pow_pos _) this
       rw [e1,e2,Nat.pow_zero,Nat.mul_one,hh,rte_exact _ _ (Nat.two_pow_pos _),fin,Nat.min_eq_left (by omega)]
end B
namespace B
def bw (s:Bool) (e f:Nat):Nat:=s.toNat*9223372036854775808+e*4503599627370496+f
theorem bw_of (b:Nat) (hb:b<18446744073709551616):∃ s e f,e<2048∧f<4503599627370496∧b=bw s e f:=by
 refine ⟨decide (9223372036854775808≤b),b%9223372036854775808/4503599627370496,b%4503599627370496,by omega,by omega,?_⟩
 unfold bw
 by_cases h:9223372036854775808≤b
 · rw [decide_eq_true h];simp only [Bool.toNat_true];omega
 · rw [decide_eq_false h];simp only [Bool.toNat_false];omega
theorem bw_lt (s:Bool) (e f:Nat) (he:e<2048) (hf:f<4503599627370496):bw s e f<18446744073709551616:=by
 unfold bw;cases s <;> simp only [Bool.toNat_true,Bool.toNat_false] <;> omega
theorem wraps_i64 (n:Int) (h0:0≤n) (h1:n<2^63):IntKind.i64.wrap n=n:=by rw [IntKind.wrap_i64];omega
theorem wraps_u64 (n:Int) (h0:0≤n) (h1:n<2^64):IntKind.u64.wrap n=n:=by
 simp [IntKind.wrap,IntKind.bits,IntKind.signed];omega
theorem bw_exp (s:Bool) (e f:Nat) (he:e<2048) (hf:f<4503599627370496):bits .and .i64 ((bw s e f:Int)/4503599627370496) 2047=(e:Int):=by
 have hl:=bw_lt s e f he hf;have h:=bits_mask .i64 63 (by decide) wraps_i64 11 (by decide) ((bw s e f:Int)/4503599627370496) (by omega) (by omega)
 rw [show ((2:Int)^11-1)=2047 from rfl] at h
 rw [h];unfold bw;cases s <;> simp only [Bool.toNat_true,Bool.toNat_false] <;> omega
theorem bw_frac (s:Bool) (e f:Nat) (he:e<2048) (hf:f<4503599627370496):bits .and .u64 ((bw s e f:Nat):Int) 4503599627370495=(f:Int):=by
 have hl:=bw_lt s e f he hf;have h:=bits_mask .u64 64 (by decide) wraps_u64 52 (by decide) (bw s e f:Int) (by omega) (by omega)
 rw [show ((2:Int)^52-1)=4503599627370495 from rfl] at h
 rw [h];unfold bw;cases s <;> simp only [Bool.toNat_true,Bool.toNat_false] <;> omega
theorem bw_sign (s:Bool) (e f:Nat) (he:e<2048) (hf:f<4503599627370496):bits .and .u64 ((bw s e f:Int)/9223372036854775808) 1=(s.toNat:Int):=by
 have hl:=bw_lt s e f he hf;have h:=bits_mask .u64 64 (by decide) wraps_u64 1 (by decide) ((bw s e f:Int)/9223372036854775808) (by omega) (by omega)
 rw [show ((2:Int)^1-1)=1 from rfl] at h
 rw [h];unfold bw;cases s <;> simp only [Bool.toNat_true,Bool.toNat_false] <;> omega
theorem frac_or (f:Nat) (hf:f<4503599627370496):bits .or .u64 (f:Int) 4503599627370496=(f:Int)+4503599627370496:=by
 have hc:bits .or .u64 (f:Int) 4503599627370496=bits .or .u64 4503599627370496 (f:Int):=by simp only [bits,BitVec.or_comm]
 rw [hc,bits_join .u64 64 (by decide) wraps_u64 52 4503599627370496 (f:Int) (by decide) (by decide) (by decide) (by omega) (by omega) (by omega)]
 omega
theorem or_sign (x:Int) (h0:0≤x) (h1:x<9223372036854775808):bits .or .u64 x 9223372036854775808=x+9223372036854775808:=by
 have hc:bits .or .u64 x 9223372036854775808=bits .or .u64 9223372036854775808 x:=by simp only [bits,BitVec.or_comm]
 rw [hc,bits_join .u64 64 (by decide) wraps_u64 63 9223372036854775808 x (by decide) (by decide) (by decide) h0 (by omega) (by omega)]
 omega
def pv (neg:Bool) (c x:Int) (f:Int):Value:=.agg #[.bool neg,.int .i64 c,.int .i64 x,.int .u64 f]
def cls (e f:Nat):Int:=if e=2047 then (if f=0 then 3 else 4) else if e=0 then (if f=0 then 0 else 1) else 2
def xp (e:Nat):Int:=if e=2047 then 0 else if e=0 then -1074 else (e:Int)-1075
def fr (e f:Nat):Int:=if e=2047 then 0 else if e=0 then (f:Int) else (f:Int)+4503599627370496
def ng (s:Bool) (e f:Nat):Bool:=if e=2047∧f≠0 then false else s
def splitV (s:Bool) (e f:Nat):Value:=pv (ng s e f) (cls e f) (xp e) (fr e f)
theorem splitV_odd (s:Bool) (e f:Nat) (h:e=2047) (h2:((f:Int) != 0)=true):splitV s e f=.agg #[.bool false,.int .i64 4,.int .i64 0,.int .u64 0]:=by
 have:f≠0:=by intro h;subst h;simp at h2
 simp [splitV,pv,ng,cls,xp,fr,h,this]
theorem splitV_end (s:Bool) (e f:Nat) (h:e=2047) (h2:((f:Int) != 0)=false):splitV s e f=.agg #[.bool s,.int .i64 3,.int .i64 0,.int .u64 0]:=by
 have:f=0:=by simp at h2;omega
 simp [splitV,pv,ng,cls,xp,fr,h,this]
theorem splitV_nought (s:Bool) (e f:Nat) (h:e=0) (h2:((f:Int)==0)=true):splitV s e f=.agg #[.bool s,.int .i64 0,.int .i64 (-1074),.int .u64 0]:=by
 have:f=0:=by simp at h2;omega
 simp [splitV,pv,ng,cls,xp,fr,h,this]
theorem splitV_small (s:Bool) (e f:Nat) (h:e=0) (h2:((f:Int)==0)=false):splitV s e f=.agg #[.bool s,.int .i64 1,.int .i64 (-1074),.int .u64 f]:=by
 have:f≠0:=by intro h;subst h;simp at h2
 simp [splitV,pv,ng,cls,xp,fr,h,this]
theorem splitV_plain (s:Bool) (e f:Nat) (h:e≠2047) (h2:e≠0):splitV s e f=.agg #[.bool s,.int .i64 2,.int .i64 ((e:Int)-1075),.int .u64 ((f:Int)+4503599627370496)]:=by
 simp [splitV,pv,ng,cls,xp,fr,h,h2]
def odd (e f:Nat):Bool:=e==2047&&f != 0
theorem not_odd (e f:Nat) (h:odd e f=false):¬ (e=2047∧f≠0):=by
 rintro ⟨h1,h2⟩;simp [odd,h1,h2] at h
theorem is_odd (e f:Nat) (h:odd e f=true):e=2047∧f≠0:=by
 simpa [odd] using h
def cb (s:Bool) (e f:Nat):Nat:=if e=2047∧f≠0 then 9221120237041090560 else bw s e f
theorem bw_mod (s:Bool) (e f:Nat) (he:e<2048) (hf:f<4503599627370496):(bw s e f:Int)%9223372036854775808=(e:Int)*4503599627370496+f:=by
 unfold bw;cases s <;> simp only [Bool.toNat_true,Bool.toNat_false] <;> omega
theorem dInf:Ieee.double.infRung=9218868437227405312:=by decide
theorem dSign:Ieee.double.signWeight=9223372036854775808:=by decide
theorem dBin:Ieee.double.binade=4503599627370496:=by decide
theorem dHs:Ieee.double.infRung<Ieee.double.signWeight:=by decide
theorem dHb:Ieee.double.binade≤Ieee.double.infRung:=by decide
theorem bw_word (s:Bool) (e f:Nat):bw s e f=Ieee.double.word s (e*4503599627370496+f):=by
 unfold bw Ieee.Format.word;rw [dSign]
 cases s <;> simp [Nat.add_assoc]
theorem bw_read_odd (s:Bool) (e f:Nat) (hf:f<4503599627370496) (h:odd e f=true):Ieee.double.read (bw s e f)=.nan s f:=by
 have h0:e=2047∧f≠0:=by simpa [odd] using h
 have e1:bw s e f%Ieee.double.signWeight=e*4503599627370496+f:=by
  rw [dSign];unfold bw;cases s <;> simp only [Bool.toNat_true,Bool.toNat_false] <;> omega
 have e2:(bw s e f/Ieee.double.signWeight%2==1)=s:=by
  rw [dSign]
  cases s
  · have:bw false e f/9223372036854775808%2=0:=by unfold bw;simp only [Bool.toNat_false];omega
    rw [this];rfl
  · have:bw true e f/9223372036854775808%2=1:=by unfold bw;simp only [Bool.toNat_true];omega
    rw [this];rfl
 rw [read_nan Ieee.double _ (by rw [e1,dInf];omega) dHb,e1,e2,dInf,show e*4503599627370496+f-9218868437227405312=f from by omega]
theorem rung_le (e f:Nat) (he:e<2048) (hf:f<4503599627370496) (h:odd e f=false):e*4503599627370496+f≤Ieee.double.infRung:=by
 rw [dInf];have:=not_odd e f h;omega
def pl (s:Bool) (e f:Nat):Int:=sg s (e*4503599627370496+f)
theorem ord (s t:Bool) (e f u v:Nat) (he:e<2048) (hf:f<4503599627370496) (hu:u<2048) (hv:v<4503599627370496) :
 FloatKind.f64.format.order (bw s e f) (bw t u v)=if odd e f || odd u v then none else some (compare (pl s e f) (pl t u v)):=by
 show Ieee.double.order _ _=_
 by_cases h1:odd e f=true
 · rw [h1]
   show (Ieee.double.read (bw s e f)).order _=none
   rw [bw_read_odd s e f hf h1];rfl
 · by_cases h2:odd u v=true
   · rw [h2]
     show (Ieee.double.read (bw s e f)).order (Ieee.double.read (bw t u v))=if (odd e f || true)=true then none else _
     rw [bw_read_odd t u v hv h2,Bool.or_true,if_pos rfl]
     cases Ieee.double.read (bw s e f) <;> rfl
   · have h3:odd e f=false:=by simpa using h1
     have h4:odd u v=false:=by simpa using h2
     rw [h3,h4,bw_word,bw_word];rw [order_word Ieee.double dHs dHb s t _ _ (rung_le e f he hf h3) (rung_le u v hu hv h4)];simp [pl]
theorem order_self (s:Bool) (e f:Nat) (he:e<2048) (hf:f<4503599627370496):(FloatKind.f64.format.order (bw s e f) (bw s e f) != some .eq)=odd e f:=by
 rw [ord s s e f e f he hf he hf,Bool.or_self,Int.compare_eq_eq.2 rfl]
 cases odd e f <;> rfl
end B
namespace B
open Go.RowKit
theorem split_any (s:Bool) (e f:Nat) (he:e<2048) (hf:f<4503599627370496) (w:World) :
 Calls Tryz.prog 176 #[.int .u64 (bw s e f),.int .u64 52,.int .u64 11,.int .i64 (-1074)] w fun r w'=>r=.returned (splitV s e f)∧Below w.heap.size w w':=by
 have hl:=bw_lt s e f he hf;have h1:=bw_exp s e f he hf;have h2:=bw_frac s e f he hf;have h3:=bw_sign s e f he hf;have h4:=frac_or f hf;have h5:((s.toNat:Int)==1)=s:=by cases s <;> rfl
 go_enter Tryz.func176,Tryz.ntmps176;go_wp2
 · rw [splitV_odd s e f (by omega) ‹_›]
   exact bodyPost_ret (v:=.agg #[.bool false,.int .i64 4,.int .i64 0,.int .u64 0]) (by simp [results,Tryz.results176,go_sem]) rfl ⟨rfl,(by repeat (first | exact Below.refl _ _ | assumption | exact Nat.le_refl _ | (simp;done) | (simp;omega) | refine Below.alloc ?_ ?_ _ | refine Below.setCell ?_ ?_ _ | refine Below.drew ?_))⟩
 · rw [splitV_end s e f (by omega) ‹_›]
   exact bodyPost_ret (v:=.agg #[.bool s,.int .i64 3,.int .i64 0,.int .u64 0]) (by simp [results,Tryz.results176,go_sem]) rfl ⟨rfl,(by repeat (first | exact Below.refl _ _ | assumption | exact Nat.le_refl _ | (simp;done) | (simp;omega) | refine Below.alloc ?_ ?_ _ | refine Below.setCell ?_ ?_ _ | refine Below.drew ?_))⟩
 · rw [splitV_nought s e f (by omega) ‹_›]
   exact bodyPost_ret (v:=.agg #[.bool s,.int .i64 0,.int .i64 (-1074),.int .u64 0]) (by simp [results,Tryz.results176,go_sem]) rfl ⟨rfl,(by repeat (first | exact Below.refl _ _ | assumption | exact Nat.le_refl _ | (simp;done) | (simp;omega) | refine Below.alloc ?_ ?_ _ | refine Below.setCell ?_ ?_ _ | refine Below.drew ?_))⟩
 · rw [splitV_small s e f (by omega) ‹_›]
   exact bodyPost_ret (v:=.agg #[.bool s,.int .i64 1,.int .i64 (-1074),.int .u64 f]) (by simp [results,Tryz.results176,go_sem]) rfl ⟨rfl,(by repeat (first | exact Below.refl _ _ | assumption | exact Nat.le_refl _ | (simp;done) | (simp;omega) | refine Below.alloc ?_ ?_ _ | refine Below.setCell ?_ ?_ _ | refine Below.drew ?_))⟩
 · rw [splitV_plain s e f (by omega) (by omega)]
   refine bodyPost_ret (v:=.agg #[.bool s,.int .i64 2,.int .i64 ((e:Int)-1075),.int .u64 ((f:Int)+4503599627370496)]) (by simp [results,Tryz.results176,go_sem];try omega) rfl ⟨rfl,(by repeat (first | exact Below.refl _ _ | assumption | exact Nat.le_refl _ | (simp;done) | (simp;omega) | refine Below.alloc ?_ ?_ _ | refine Below.setCell ?_ ?_ _ | refine Below.drew ?_))⟩
end B
namespace B
theorem f64bits (b:Nat) (w:World):(callFunc 54 #[.float .f64 b]).run Tryz.prog w=.ok (.value (.int .u64 b)) w:=by
 rw [run_callFunc_extern (e:=Extern.MathFloatBits.float64bits) Tryz.func54 (by kernel_rfl) (by kernel_rfl) (by kernel_rfl) (by kernel_rfl)];rfl
theorem f64frombits (n:Int) (w:World):(callFunc 17 #[.int .u64 n]).run Tryz.prog w=.ok (.value (.float .f64 n.toNat)) w:=by
 rw [run_callFunc_extern (e:=Extern.MathFloatBits.float64frombits) Tryz.func17 (by kernel_rfl) (by kernel_rfl) (by kernel_rfl) (by kernel_rfl)];rfl
end B
namespace B
open Go.RowKit
attribute [local go_sem] f64bits f64frombits
theorem bcell {W w1:World}(hb:Below W.heap.size W w1):(∀ b o,b<W.heap.size→w1.cell? ⟨b,o,none⟩=W.cell? ⟨b,o,none⟩)∧(∀ b o,b<W.heap.size→w1.frozen? ⟨b,o,none⟩=W.frozen? ⟨b,o,none⟩) :=
 ⟨fun b o h=>hb.cell (p:=⟨b,o,none⟩) h,fun b o h=>hb.frozen (p:=⟨b,o,none⟩) h⟩
theorem split_lit (s:Bool) (e f:Nat) (he:e<2048) (hf:f<4503599627370496) (w:World) :
 Calls Tryz.prog 176 #[.int .u64 (bw s e f),.int .u64 52,.int .u64 11,.int .i64 (-1074)] w fun r w'=>r=.returned (.agg #[.bool (ng s e f),.int .i64 (cls e f),.int .i64 (xp e),.int .u64 (fr e f)])∧Below w.heap.size w w' :=
 split_any s e f he hf w
theorem nan_any (w:World):Calls Tryz.prog 123 #[] w fun r w'=>r=.returned (.float .f64 9221120237041090560)∧w'=w:=by
 go_enter Tryz.func123,Tryz.ntmps123;go_wp2;go_ret;exact ⟨rfl,rfl⟩
theorem Split_any (s:Bool) (e f:Nat) (he:e<2048) (hf:f<4503599627370496) (w:World) :
 Calls Tryz.prog 139 #[.float .f64 (bw s e f)] w fun r w'=>r=.returned (.agg #[.bool (ng s e f),.int .i64 (cls e f),.int .i64 (xp e),.int .u64 (fr e f)])∧Below w.heap.size w w':=by
 go_enter Tryz.func139,Tryz.ntmps139
 go_wp2_with (go_at_call 176;refine (split_lit s e f he hf _).mono ?_;rintro r w1 ⟨rfl,hb⟩;(obtain ⟨hc,hfz⟩:=bcell hb;have hz:w.heap.size<w1.heap.size:=by (have:=hb.size;simp at this;omega)))
 exact bodyPost_ret (v:=(.agg #[.bool (ng s e f),.int .i64 (cls e f),.int .i64 (xp e),.int .u64 (fr e f)])) (by simp [results,Tryz.results139,go_sem,hc]) rfl ⟨rfl,(by repeat (first | exact Below.refl _ _ | exact ((Below.refl _ _).alloc (Nat.le_refl _) _).trans (hb.mono (by simp)) | exact Nat.le_refl _ | (simp;done) | (simp;omega) | refine Below.alloc ?_ ?_ _ | refine Below.setCell ?_ ?_ _ | refine Below.drew ?_))⟩
theorem isNaN_any (s:Bool) (e f:Nat) (he:e<2048) (hf:f<4503599627370496) (w:World) :
 Calls Tryz.prog 213 #[.float .f64 (bw s e f)] w fun r w'=>r=.returned (.bool (odd e f))∧w'=w:=by
 have h1:=order_self s e f he hf;go_enter Tryz.func213,Tryz.ntmps213;go_wp2;go_ret;exact ⟨rfl,rfl⟩
end B
section
open Go.RowKit
theorem But.drewN {g:Nat}{a w:World}(h:But g a w) (n:Nat):But g a (w.drewN n):=⟨h.os,h.tape,h.output,h.size,h.block⟩
end
end Go.Proofs.YtflkmfdlpfimcaaGreatDoor
