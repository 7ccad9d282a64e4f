import Derived.Test.YtopgffjnejaijaaGreatDoorW18x
import Derived.Test.YtopgffjnejaijaaGreatDoorM1x
import Derived.Deep.RegionWith
import Derived.BigQuiet
import Derived.ArgAppend
import Derived.Maps.AppendAt
import Derived.WalkMore
import Derived.WalkLawsBesides
import Derived.ProofKit
import Derived.OpenShut
import Derived.ChangeOld
import Derived.SizedLaws
set_option linter.unusedVariables false
set_option linter.unusedSimpArgs false
set_option maxHeartbeats 16000000
set_option maxRecDepth 20000
namespace Go.Proofs.YtopgffjnejaijaaGreatDoor
section
open Go.RowKit
theorem val_snoc0 (xs:List Nat):sg (xs++[0]) 0 xs.length=val xs:=by simp [sg]
theorem wf_snoc0 {xs:List Nat}(h:Wf xs):Wf (xs++[0]):=h.append (by intro x hx;simp at hx;omega)
theorem zeros_last (n:Nat):(List.replicate (n+1) 0).drop n=[0]:=by rw [List.drop_replicate,Nat.add_sub_cancel_left];rfl
theorem add_ge (xs ys:List Nat) (ao bo:Option Addr) (n cap m capb B:Nat) (w:World) (hn:n=xs.length) (hm:m=ys.length) (hnm:m≤n) (hc:n≤cap) (hcb:m≤capb) (hbig:n≤35184372088833)
 (hx:Wf xs) (hy:Wf ys) (hR:Rd B w ao xs) (hS:Rd B w bo ys) (hB:B≤w.heap.size) :
 Calls Tryz.prog 86 #[.slice ao n cap,.slice bo m capb] w fun r w'=>∃ v,r=.returned v∧Nt w.heap.size w' v (val xs+val ys)∧Below w.heap.size w w':=by
 obtain ⟨W1,hW1⟩:∃ W,W=w.alloc (.cells (madeCells #[.int .u32 0] (n+1)) 90):=⟨_,rfl⟩;have hO1:Own W1 w.heap.size (List.replicate (n+1) 0):=by rw [hW1];exact Own.made w (n+1)
 have hB1:Below w.heap.size w W1:=by rw [hW1];exact (Below.refl _ _).alloc (Nat.le_refl _) _
 obtain ⟨W2,hcp,hO2,hb2⟩:=copy_words W1 w.heap.size (n+1) (n+1) ao n cap B 3 (List.replicate (n+1) 0) xs hO1 (by simp) hn (hR.below (hB1.mono hB)) (by omega)
 rw [zeros_last] at hO2;have hB2:Below w.heap.size w W2:=But.below hB1 hb2 hB1.size (Nat.le_refl _);have H:=hid (addTo_any (xs++[0]) ys w.heap.size 0 n (n+1) bo m capb B W2 hO2 (by simp;omega) hm (by omega) (by omega) (by omega) (wf_snoc0 hx) hy (hS.below (hB2.mono hB)) hB)
 have hmk:=make_words ((n:Int)+1) (n+1) (by omega) (by omega) w
 rw [←hW1] at hmk;have HH:=(qsd (ai hn (ai hm (ai hx (ai hB2 hB)))));clear hn hm hx hy hR hS hO1 hB1 hO2 hb2 hB2 hB hW1;go_enter Tryz.func86,Tryz.ntmps86
 go_wp2_with fail
 refine H.out.mono ?_;rintro r W3 ⟨M,c,rfl,hc1,hO3,hM,hout,hsum,hbut⟩;obtain ⟨hn,hm,hx,hB2,hB⟩:=HH.out;have hl:M.length=n+1:=by rw [hout.1];simp;omega
 have hcl:=hO3.cell n (by omega)
 have hfr:=hO3.frozen n;have hO4:=hO3.set n c;have T:=hid (trim_any (M.set n c) (some ⟨w.heap.size,0,none⟩) (n+1) (n+1) (w.heap.size+1) _ (by simp [hl]) (Nat.le_refl _) (by omega) (by simpa [hl,List.take_of_length_le] using Rd.ofOwn hO4 0 (n+1)))
 have HI:=(qsd (ai hc1 (ai hO4 (ai hM (ai hsum (ai hbut hl))))));clear hn hm hx hB2 hB hc1 hO3 hM hout hsum hbut hO4 H hl
 go_wp2_with fail
 refine T.out.mono ?_;rintro r w1 ⟨rfl,rfl⟩;go_wp2;go_ret;obtain ⟨hn,hm,hx,hB2,hB⟩:=HH.out;obtain ⟨hc1,hO4,hM,hsum,hbut,hl⟩:=HI.out
 have hv:val (M.set n c)=val xs+val ys:=by
  have e:val (M.set n c)=sg (M.set n c) 0 (n+1):=by rw [←sg_all];simp [hl]
  have e2:=sg_set_last M 0 n c (by omega)
  rw [Nat.zero_add] at e2;rw [e,e2];rw [hn,val_snoc0,←hn] at hsum;rw [Nat.mul_comm c] at hsum;exact hsum
 refine ⟨_,rfl,?_,But.below hB2 (hbut.set n _) hB2.size (Nat.le_refl _)⟩;have N:=Nt.ofOwn (lo:=w.heap.size) hO4 (Nat.le_refl _) (hM.set _ _ (by omega)) (by simp [hl];unfold maxLen;omega)
 rw [hv] at N;simpa [hl] using N
theorem add_lt (xs ys:List Nat) (ao bo:Option Addr) (n cap m capb B:Nat) (w:World) (hn:n=xs.length) (hm:m=ys.length) (hnm:m<n) (hc:n≤cap) (hcb:m≤capb) (hbig:n≤35184372088833)
 (hx:Wf xs) (hy:Wf ys) (hR:Rd B w ao xs) (hS:Rd B w bo ys) (hB:B≤w.heap.size) :
 Calls Tryz.prog 86 #[.slice bo m capb,.slice ao n cap] w fun r w'=>∃ v,r=.returned v∧Nt w.heap.size w' v (val xs+val ys)∧Below w.heap.size w w':=by
 obtain ⟨W1,hW1⟩:∃ W,W=w.alloc (.cells (madeCells #[.int .u32 0] (n+1)) 90):=⟨_,rfl⟩;have hO1:Own W1 w.heap.size (List.replicate (n+1) 0):=by rw [hW1];exact Own.made w (n+1)
 have hB1:Below w.heap.size w W1:=by rw [hW1];exact (Below.refl _ _).alloc (Nat.le_refl _) _
 obtain ⟨W2,hcp,hO2,hb2⟩:=copy_words W1 w.heap.size (n+1) (n+1) ao n cap B 3 (List.replicate (n+1) 0) xs hO1 (by simp) hn (hR.below (hB1.mono hB)) (by omega)
 rw [zeros_last] at hO2;have hB2:Below w.heap.size w W2:=But.below hB1 hb2 hB1.size (Nat.le_refl _);have H:=hid (addTo_any (xs++[0]) ys w.heap.size 0 n (n+1) bo m capb B W2 hO2 (by simp;omega) hm (by omega) (by omega) (by omega) (wf_snoc0 hx) hy (hS.below (hB2.mono hB)) hB)
 have hmk:=make_words ((n:Int)+1) (n+1) (by omega) (by omega) w
 rw [←hW1] at hmk;have HH:=(qsd (ai hn (ai hm (ai hx (ai hB2 hB)))));clear hn hm hx hy hR hS hO1 hB1 hO2 hb2 hB2 hB hW1;go_enter Tryz.func86,Tryz.ntmps86
 go_wp2_with fail
 refine H.out.mono ?_;rintro r W3 ⟨M,c,rfl,hc1,hO3,hM,hout,hsum,hbut⟩;obtain ⟨hn,hm,hx,hB2,hB⟩:=HH.out;have hl:M.length=n+1:=by rw [hout.1];simp;omega
 have hcl:=hO3.cell n (by omega)
 have hfr:=hO3.frozen n;have hO4:=hO3.set n c;have T:=hid (trim_any (M.set n c) (some ⟨w.heap.size,0,none⟩) (n+1) (n+1) (w.heap.size+1) _ (by simp [hl]) (Nat.le_refl _) (by omega) (by simpa [hl,List.take_of_length_le] using Rd.ofOwn hO4 0 (n+1)))
 have HI:=(qsd (ai hc1 (ai hO4 (ai hM (ai hsum (ai hbut hl))))));clear hn hm hx hB2 hB hc1 hO3 hM hout hsum hbut hO4 H hl
 go_wp2_with fail
 refine T.out.mono ?_;rintro r w1 ⟨rfl,rfl⟩;go_wp2;go_ret;obtain ⟨hn,hm,hx,hB2,hB⟩:=HH.out;obtain ⟨hc1,hO4,hM,hsum,hbut,hl⟩:=HI.out
 have hv:val (M.set n c)=val xs+val ys:=by
  have e:val (M.set n c)=sg (M.set n c) 0 (n+1):=by rw [←sg_all];simp [hl]
  have e2:=sg_set_last M 0 n c (by omega)
  rw [Nat.zero_add] at e2;rw [e,e2];rw [hn,val_snoc0,←hn] at hsum;rw [Nat.mul_comm c] at hsum;exact hsum
 refine ⟨_,rfl,?_,But.below hB2 (hbut.set n _) hB2.size (Nat.le_refl _)⟩;have N:=Nt.ofOwn (lo:=w.heap.size) hO4 (Nat.le_refl _) (hM.set _ _ (by omega)) (by simp [hl];unfold maxLen;omega)
 rw [hv] at N;simpa [hl] using N
theorem add_any (xs ys:List Nat) (ao bo:Option Addr) (n cap m capb B:Nat) (w:World) (hn:n=xs.length) (hm:m=ys.length) (hc:n≤cap) (hcb:m≤capb) (hbig:n≤35184372088833) (hbig2:m≤35184372088833)
 (hx:Wf xs) (hy:Wf ys) (hR:Rd B w ao xs) (hS:Rd B w bo ys) (hB:B≤w.heap.size) :
 Calls Tryz.prog 86 #[.slice ao n cap,.slice bo m capb] w fun r w'=>∃ v,r=.returned v∧Nt w.heap.size w' v (val xs+val ys)∧Below w.heap.size w w':=by
 by_cases h:m≤n
 · exact add_ge xs ys ao bo n cap m capb B w hn hm h hc hcb hbig hx hy hR hS hB
 · have:=add_lt ys xs bo ao m capb n cap B w hm hn (by omega) hcb hc hbig2 hy hx hS hR hB
   rw [Nat.add_comm] at this;exact this
end
section
open Go.RowKit
theorem div_any (xs ys:List Nat) (ao bo:Option Addr) (n cap m capb B:Nat) (w:World) (hn:n=xs.length) (hm:m=ys.length) (hm0:0<m) (hc:n≤cap) (hcb:m≤capb) (hbig:n≤35184372088833)
 (hx:Wf xs) (hy:Wf ys) (htop:ys.getD (m-1) 0≠0) (hR:Rd B w ao xs) (hS:Rd B w bo ys) (hB:B≤w.heap.size) :
 Calls Tryz.prog 122 #[.slice ao n cap,.slice bo m capb] w fun r w'=>Two w.heap.size w' r (val xs/val ys) (val xs%val ys)∧Below w.heap.size w w':=by
 by_cases h1:n<m
 · exact div_less xs ys ao bo n cap m capb B w hn hm h1 hc hbig hx hy htop hR hB
 · by_cases h2:m=1
   · subst h2
     exact div_one xs ys ao bo n cap capb B w hn hm (by omega) hc hcb hbig hx hy htop hR hS hB
   · exact div_long xs ys ao bo n cap m capb B w hn hm (by omega) (by omega) hc hcb hbig hx hy htop hR hS hB
theorem ws_top (X:Nat) (h:X≠0):(ws X).getD ((ws X).length-1) 0≠0:=by
 have h1:nl (ws X)≠0:=by rw [nl_ws];intro e;exact h ((ws_len_zero X).1 e)
 have:=nl_last (ws X) h1;rwa [nl_ws] at this
theorem ws_len_mono {X Y:Nat}(h:X≤Y):(ws X).length≤(ws Y).length:=(ws_len_le X _).2 (Nat.lt_of_le_of_lt h (ws_len_lt Y))
theorem ws_one:ws 1=[1]:=by rw [ws_pos 1 (by omega),show 1/4294967296=0 from rfl,ws_zero]
end
section
open Go.RowKit
theorem sub_any (xs bs:List Nat) (ao bo:Option Addr) (n cap m capb B:Nat) (w:World) (hn:n=xs.length) (hm:m=bs.length) (hmn:m≤n) (hc:n≤cap) (hcb:m≤capb) (hbig:n≤35184372088833)
 (hx:Wf xs) (hb:Wf bs) (hle:val bs≤val xs) (hR0:Rd B w ao xs) (hS:Rd B w bo bs) (hB:B≤w.heap.size) :
 Calls Tryz.prog 88 #[.slice ao n cap,.slice bo m capb] w fun r w'=>∃ v,r=.returned v∧Nt w.heap.size w' v (val xs-val bs)∧Below w.heap.size w w':=by
 obtain ⟨W1,hW1⟩:∃ W,W=w.alloc (.cells (madeCells #[.int .u32 0] n) 90):=⟨_,rfl⟩;have hO1:Own W1 w.heap.size (List.replicate n 0):=by rw [hW1];exact Own.made w n
 have hB1:Below w.heap.size w W1:=by rw [hW1];exact (Below.refl _ _).alloc (Nat.le_refl _) _
 obtain ⟨W2,hcp,hO2,hb2⟩:=copy_words W1 w.heap.size n n ao n cap B 3 (List.replicate n 0) xs hO1 (by simp) hn (hR0.below (hB1.mono hB)) (by omega)
 rw [List.drop_of_length_le (by simp),List.append_nil] at hO2
 have hB2:Below w.heap.size w W2:=But.below hB1 hb2 hB1.size (Nat.le_refl _);have hmk:=make_words (n:Int) n rfl (by omega) w
 rw [←hW1] at hmk;have hR:Rd B W2 bo bs:=hS.below (hB2.mono hB);obtain ⟨g,hg⟩:∃ g,g=w.heap.size:=⟨_,rfl⟩;rw [←hg] at hO2 hcp hmk hB2 hB;have HR:=(qsd (ai hR (ai hm (ai hb (ai hx (ai hn (ai hle (ai hB2 hg))))))));have HO:=hid hO2;have HA32:Hid (∀ x y c s d w,_→_→_→_→_→_):=sub32_nat;clear hn hm hx hb hR0 hS hO1 hB1 hO2 hb2 hB2 hW1 hle hR hg;go_enter Tryz.func88,Tryz.ntmps88;go_wp2
 go_loopg [6,18] m (fun gk c i wr=>∃ (k cv:Nat) (M:List Nat),gk+k=m∧c=.int .u32 (cv:Nat)∧cv≤1∧i=.int .i64 (k:Nat) ∧
  Hid (Own wr g M)∧Aside (Wf M∧Out xs M 0 k∧sg M 0 k+sg bs 0 k=sg xs 0 k+cv*pw k∧But g W2 wr))
 case atStart=>exact ⟨0,0,xs,by omega,rfl,by omega,rfl,HO,HR.out.2.2.2.1,Out.refl _ _ _,by simp [sg_zero],But.refl _ _⟩
 case round =>
  obtain ⟨k,cv,M,hgk,rfl,hcv,rfl,HM,HA⟩:=hrel
  by_cases hk:k<m
  · obtain ⟨hR,hm,hb,hx,hn,hle,hB2,hg⟩:=HR.out
    obtain ⟨hMw,hMo,hMs,hbut⟩:=HA.out;obtain ⟨b,boff,hbB,rfl,hbc⟩:=hR (by intro e;subst e;simp at hm;omega)
    have hbk:wr.cell? ⟨b,boff+k,none⟩=some (.int .u32 ((bs.getD k 0:Nat):Int)):=by
     have h1:=hbut.block b (World.block_lt_of_cell? W2 ⟨b,boff+k,none⟩ (hbc k (by omega))) (by omega)
     exact (World.cell?_of_block (a:=⟨b,boff+k,none⟩) h1).trans (hbc k (by omega))
    have hgc:=HM.out.cell k (by rw [hMo.1];omega)
    have hgf:=HM.out.frozen k;obtain ⟨x,hxx⟩:∃ x:Nat,M.getD k 0=x:=⟨_,rfl⟩;obtain ⟨y,hy⟩:∃ y:Nat,bs.getD k 0=y:=⟨_,rfl⟩;have hxl:x<4294967296:=hxx ▸ hMw.get _;have hyl:y<4294967296:=hy ▸ hb.get _;rw [hxx] at hgc;rw [hy] at hbk;obtain ⟨s,hs⟩:∃ s:Nat,(s:Int)=((x:Int)-y-cv)%4294967296:=⟨(((x:Int)-y-cv)%4294967296).toNat,by omega⟩
    obtain ⟨d,hd⟩:∃ d:Nat,d=if x<y+cv then 1 else 0:=⟨_,rfl⟩
    have HX:=(qsd (ai hxx (ai hy (ai hs hd))));clear hxx hy hs hd hR hm hb hx hn hle hB2 hg hMw hMo hMs hbut hbc
    go_wp2_with fail
    refine (HA32.out x y cv s d _ hxl hyl hcv HX.out.2.2.1 HX.out.2.2.2).mono ?_;rintro r w1 ⟨rfl,rfl⟩;go_wp2
    go_roundg (gk-1)
    case measure=>omega
    case rel =>
     obtain ⟨hxx,hy,hs,hd⟩:=HX.out;obtain ⟨hR,hm,hb,hx,hn,hle,hB2,hg⟩:=HR.out;obtain ⟨hMw,hMo,hMs,hbut⟩:=HA.out;have hd1:d≤1:=by rw [hd];split <;> omega
     have hsum:s+y+cv=x+d*4294967296:=by rw [hd];split <;> omega
     refine ⟨k+1,d,M.set k s,by omega,rfl,hd1,by go_num,HM.out.set _ _,hMw.set _ _ (by omega),(hMo.mono (by omega)).set _ _ (by omega) (by omega),?_,hbut.set _ _⟩
     have e1:=sg_set_last M 0 k s (by rw [hMo.1];omega)
     rw [Nat.zero_add] at e1;rw [e1,sg_succ xs 0 k (by omega),sg_succ bs 0 k (by omega),Nat.zero_add,hy,pw_succ]
     have e:xs.getD k 0=x:=by rw [←hxx];exact (hMo.2 _ (by omega)).symm
     rw [e];exact borrow_step _ _ _ _ _ _ _ _ _ hMs hsum
  · obtain rfl:k=m:=by omega
    have HA2:Aside (Wf M∧Out xs M 0 k∧sg M 0 k+val bs=sg xs 0 k+cv*pw k∧But g W2 wr):=by
     obtain ⟨hR,hm,hb,hx,hn,hle,hB2,hg⟩:=HR.out;obtain ⟨hMw,hMo,hMs,hbut⟩:=HA.out;refine ⟨hMw,hMo,?_,hbut⟩;rw [←hMs,hm,sg_all]
    clear HA hgk HO hk;go_wp2
    go_loopg [6,9] (n-k+1) (fun g2 c i w2=>∃ (j cv:Nat) (M:List Nat),g2+j=n+1∧k≤j∧j≤n∧c=.int .u32 (cv:Nat)∧cv≤1∧i=.int .i64 (j:Nat) ∧
     Hid (Own w2 g M)∧Aside (Wf M∧Out xs M 0 j∧sg M 0 j+val bs=sg xs 0 j+cv*pw j∧But g W2 w2))
    case atStart=>exact ⟨k,cv,M,by omega,Nat.le_refl _,hmn,rfl,hcv,rfl,HM,HA2.out⟩
    case round =>
     clear HM HA2 hcv;obtain ⟨j,cv,M,hgj,hkj,hjn,rfl,hcv,rfl,HM,HA⟩:=hrel
     by_cases h0:cv=0
     · subst h0
       obtain ⟨hR,hm,hb,hx,hn,hle,hB2,hg⟩:=HR.out;obtain ⟨hMw,hMo,hMs,hbut⟩:=HA.out;have hl:M.length=n:=by rw [hMo.1,hn]
       have T:=hid (trim_any M (some ⟨g,0,none⟩) n n (g+1) wr hl.symm (Nat.le_refl _) (by omega) (by simpa [hl,List.take_of_length_le] using Rd.ofOwn HM.out 0 n))
       clear hR hm hb hx hn hle hB2 hg hMw hMo hMs hbut
       go_wp2_with fail
       refine T.out.mono ?_;rintro r w1 ⟨rfl,rfl⟩;go_wp2;go_ret;obtain ⟨hR,hm,hb,hx,hn,hle,hB2,hg⟩:=HR.out;obtain ⟨hMw,hMo,hMs,hbut⟩:=HA.out;rw [Nat.zero_mul,Nat.add_zero] at hMs;have hv:=seg_rest2 (n:=n) hjn (by omega) hMo hMs
       have e1:sg M 0 n=val M:=by rw [←hl];exact sg_all M
       have e2:sg xs 0 n=val xs:=by rw [hn];exact sg_all xs
       rw [e1,e2] at hv;refine ⟨_,rfl,?_,?_⟩
       · have N:=Nt.ofOwn (lo:=g) HM.out (Nat.le_refl _) hMw (by rw [hl];unfold maxLen;omega)
         rw [show val xs-val bs=val M by omega,←hg]
         rw [hl] at N;exact N
       · rw [←hg]
         exact But.below hB2 hbut (by have:=hB2.size;omega) (Nat.le_refl _)
     · obtain rfl:cv=1:=by omega
       obtain ⟨hR,hm,hb,hx,hn,hle,hB2,hg⟩:=HR.out;obtain ⟨hMw,hMo,hMs,hbut⟩:=HA.out
       have hj:j<n:=by
        by_cases hj:j=n
        · exfalso
          subst hj;have h1:=sg_lt M 0 j hMw (by rw [hMo.1];omega)
          have e2:sg xs 0 j=val xs:=by rw [hn];exact sg_all xs
          omega
        · omega
       have hgc:=HM.out.cell j (by rw [hMo.1];omega)
       have hgf:=HM.out.frozen j;obtain ⟨x,hxx⟩:∃ x:Nat,M.getD j 0=x:=⟨_,rfl⟩;have hxl:x<4294967296:=hxx ▸ hMw.get _;rw [hxx] at hgc;obtain ⟨s,hs⟩:∃ s:Nat,(s:Int)=((x:Int)-(0:Nat)-(1:Nat))%4294967296:=⟨(((x:Int)-(0:Nat)-(1:Nat))%4294967296).toNat,by omega⟩
       obtain ⟨d,hd⟩:∃ d:Nat,d=if x<0+1 then 1 else 0:=⟨_,rfl⟩
       have HX:=(qsd (ai hxx (ai hs hd)));clear hxx hs hd hR hm hb hx hn hle hB2 hg hMw hMo hMs hbut h0
       go_wp2_with fail
       refine (HA32.out x 0 1 s d _ hxl (by omega) (by omega) HX.out.2.1 HX.out.2.2).mono ?_
       rintro r w1 ⟨rfl,rfl⟩;go_wp2
       go_roundg (gk-1)
       case measure=>omega
       case rel =>
        obtain ⟨hxx,hs,hd⟩:=HX.out;obtain ⟨hR,hm,hb,hx,hn,hle,hB2,hg⟩:=HR.out;obtain ⟨hMw,hMo,hMs,hbut⟩:=HA.out;have hd1:d≤1:=by rw [hd];split <;> omega
        have hsum:s+0+1=x+d*4294967296:=by rw [hd];split <;> omega
        refine ⟨j+1,d,M.set j s,by omega,by omega,by omega,rfl,hd1,by go_num,HM.out.set _ _,hMw.set _ _ (by omega),(hMo.mono (by omega)).set _ _ (by omega) (by omega),?_,hbut.set _ _⟩
        have e1:=sg_set_last M 0 j s (by rw [hMo.1];omega)
        rw [Nat.zero_add] at e1;rw [e1,sg_succ xs 0 j (by omega),Nat.zero_add,pw_succ]
        have e:xs.getD j 0=x:=by rw [←hxx];exact (hMo.2 _ (by omega)).symm
        rw [e];have:=borrow_step (pw j) _ _ _ _ x 0 s d hMs hsum;omega
end
section
open Go.RowKit
theorem addTimes_any (L bs:List Nat) (g off n cap:Nat) (ao:Option Addr) (m capb B q:Nat) (w:World)
 (hO:Own w g L) (hoff:off+n≤L.length) (hm:m=bs.length) (hmn:m≤n) (hcap:n≤cap) (hbig:n≤4611686018427387904) (hL:Wf L) (hb:Wf bs) (hR:Rd B w ao bs) (hB:B≤g) (hq:q<4294967296) :
 Calls Tryz.prog 85 #[.slice (some ⟨g,off,none⟩) n cap,.slice ao m capb,.int .u32 (q:Nat)] w fun r w' =>
  ∃ M c,r=.returned (.int .u32 (c:Nat))∧c<4294967296∧Own w' g M∧Wf M∧Out L M off m∧sg M off m+c*pw m=sg L off m+val bs*q∧But g w w':=by
 have HR:Aside (Rd B w ao bs∧m=bs.length∧Wf bs∧Wf L∧off+n≤L.length):=⟨hR,hm,hb,hL,hoff⟩;have HO:Hid (Own w g L):=hO;clear hR hm hb hL hO hoff;go_enter Tryz.func85,Tryz.ntmps85;go_wp2
 go_loopg [7,13] m (fun gk c i wr=>∃ (k cv:Nat) (M:List Nat),gk+k=m∧c=.int .u64 (cv:Nat)∧cv<4294967296∧i=.int .i64 (k:Nat) ∧
  Hid (Own wr g M)∧Aside (Wf M∧Out L M off k∧sg M off k+cv*pw k=sg L off k+sg bs 0 k*q∧But g w wr))
 case atStart=>exact ⟨0,0,L,by omega,rfl,by omega,rfl,HO,HR.out.2.2.2.1,Out.refl _ _ _,by simp [sg_zero],But.refl _ _⟩
 case round =>
  obtain ⟨k,cv,M,hgk,rfl,hcv,rfl,HM,HA⟩:=hrel
  by_cases hk:k<m
  · obtain ⟨hR,hm,hb,hL,hoff⟩:=HR.out
    obtain ⟨hMw,hMo,hMs,hbut⟩:=HA.out;obtain ⟨b,boff,hbB,rfl,hbc⟩:=hR (by intro e;subst e;simp at hm;omega)
    have hbk:wr.cell? ⟨b,boff+k,none⟩=some (.int .u32 ((bs.getD k 0:Nat):Int)):=by
     have h1:=hbut.block b (World.block_lt_of_cell? w ⟨b,boff+k,none⟩ (hbc k (by omega))) (by omega)
     exact (World.cell?_of_block (a:=⟨b,boff+k,none⟩) h1).trans (hbc k (by omega))
    have hgc:=HM.out.cell (off+k) (by rw [hMo.1];omega)
    have hgf:=HM.out.frozen (off+k);obtain ⟨x,hx⟩:∃ x:Nat,M.getD (off+k) 0=x:=⟨_,rfl⟩;obtain ⟨y,hy⟩:∃ y:Nat,bs.getD k 0=y:=⟨_,rfl⟩;have hxl:x<4294967296:=hx ▸ hMw.get _;have hyl:y<4294967296:=hy ▸ hb.get _;rw [hx] at hgc;rw [hy] at hbk;have hp0:=mul_bound y q hyl hq;have hp2:(y:Int)*(q:Int)≤18446744065119617025:=by rw [←Int.natCast_mul];omega
    have hp1:0≤(y:Int)*(q:Int):=by rw [←Int.natCast_mul];omega
    obtain ⟨s,hs⟩:∃ s:Nat,s=(y*q+x+cv)%4294967296:=⟨_,rfl⟩;obtain ⟨d,hd⟩:∃ d:Nat,d=(y*q+x+cv)/4294967296:=⟨_,rfl⟩;have e0:((y*q+x+cv:Nat):Int)=(y:Int)*q+x+cv:=by simp only [Int.natCast_add,Int.natCast_mul]
    have e1:((y:Int)*q+x+cv)%4294967296=(s:Int):=by rw [←e0];omega
    have e2:((y:Int)*q+x+cv)/4294967296=(d:Int):=by rw [←e0];omega
    have HX:Aside (M.getD (off+k) 0=x∧bs.getD k 0=y∧s+d*4294967296=y*q+x+cv∧s<4294967296∧d<4294967296):=⟨hx,hy,by omega,by omega,by omega⟩
    clear hx hy hs hd hR hm hb hL hoff hMw hMo hMs hbut hbc e0 hp0;go_wp2
    go_roundg (gk-1)
    case measure=>omega
    case rel =>
     obtain ⟨hx,hy,he,hs,hd⟩:=HX.out;obtain ⟨hR,hm,hb,hL,hoff⟩:=HR.out;obtain ⟨hMw,hMo,hMs,hbut⟩:=HA.out;refine ⟨k+1,d,M.set (off+k) s,by omega,rfl,hd,by go_num,HM.out.set _ _,hMw.set _ _ hs,(hMo.mono (by omega)).set _ _ (by omega) (by omega),?_,hbut.set _ _⟩
     rw [sg_set_last _ _ _ _ (by rw [hMo.1];omega),sg_succ L off k (by omega),sg_succ bs 0 k (by omega),Nat.zero_add,hy,pw_succ]
     have e:L.getD (off+k) 0=x:=by rw [←hx];exact (hMo.2 _ (by omega)).symm
     rw [e];exact times_step _ _ _ _ _ _ _ _ _ _ hMs he
  · obtain rfl:k=m:=by omega
    go_wp2;go_ret;obtain ⟨hR,hm,hb,hL,hoff⟩:=HR.out;obtain ⟨hMw,hMo,hMs,hbut⟩:=HA.out;refine ⟨M,cv,rfl,hcv,HM.out,hMw,hMo,?_,hbut⟩;rw [hMs,hm,sg_all]
end
section
open Go.RowKit
theorem mul_step (p V b x r q c:Nat) (h:V+p*r=b*q):V+p*(r+q*x)=(b+p*x)*q:=by grind
theorem mul_any (xs bs:List Nat) (ao bo:Option Addr) (n cap m capb B:Nat) (w:World) (hn:n=xs.length) (hm:m=bs.length) (hc:n≤cap) (hcb:m≤capb) (hbig:n+m≤70368744177664)
 (hx:Wf xs) (hb:Wf bs) (hR:Rd B w ao xs) (hS:Rd B w bo bs) (hB:B≤w.heap.size) :
 Calls Tryz.prog 61 #[.slice ao n cap,.slice bo m capb] w fun r w'=>∃ v,r=.returned v∧Nt w.heap.size w' v (val xs*val bs)∧Below w.heap.size w w':=by
 obtain ⟨W1,hW1⟩:∃ W,W=w.alloc (.cells (madeCells #[.int .u32 0] (n+m)) 90):=⟨_,rfl⟩;have hO1:Own W1 w.heap.size (List.replicate (n+m) 0):=by rw [hW1];exact Own.made w (n+m)
 have hB1:Below w.heap.size w W1:=by rw [hW1];exact (Below.refl _ _).alloc (Nat.le_refl _) _
 have hmk:=make_words ((n:Int)+m) (n+m) (by omega) (by omega) w
 rw [←hW1] at hmk;have hR1:Rd B W1 ao xs:=hR.below (hB1.mono hB);have hS1:Rd B W1 bo bs:=hS.below (hB1.mono hB);obtain ⟨g,hg⟩:∃ g,g=w.heap.size:=⟨_,rfl⟩;rw [←hg] at hO1 hmk hB1 hB;have HR:=(qsd (ai hR1 (ai hS1 (ai hm (ai hb (ai hx (ai hn (ai hB1 hg))))))));have HO:=hid hO1;clear hn hm hx hb hR hS hO1 hB1 hW1 hR1 hS1 hg;go_enter Tryz.func61,Tryz.ntmps61;go_wp2
 go_loopg [16] n (fun gk i wr=>∃ (k:Nat) (M:List Nat),gk+k=n∧i=.int .i64 (k:Nat) ∧
  Hid (Own wr g M)∧Aside (Wf M∧M.length=n+m∧sg M 0 (k+m)=sg xs 0 k*val bs∧But g W1 wr))
 case atStart=>exact ⟨0,_,by omega,rfl,HO,Wf.zeros _,by simp,by rw [sg_zeros,sg_zero];simp,But.refl _ _⟩
 case round =>
  obtain ⟨k,M,hgk,rfl,HM,HA⟩:=hrel
  by_cases hk:k<n
  · obtain ⟨hR,hS,hm,hb,hx,hn,hB1,hg⟩:=HR.out
    obtain ⟨hMw,hMl,hMs,hbut⟩:=HA.out;have hW1s:g≤W1.heap.size:=by have:=hB1.size;omega
    obtain ⟨b,boff,hbB,rfl,hbc⟩:=hR (by intro e;subst e;simp at hn;omega)
    have hbk:wr.cell? ⟨b,boff+k,none⟩=some (.int .u32 ((xs.getD k 0:Nat):Int)):=by
     have h1:=hbut.block b (World.block_lt_of_cell? W1 ⟨b,boff+k,none⟩ (hbc k (by omega))) (by omega)
     exact (World.cell?_of_block (a:=⟨b,boff+k,none⟩) h1).trans (hbc k (by omega))
    obtain ⟨y,hy⟩:∃ y:Nat,xs.getD k 0=y:=⟨_,rfl⟩;have hyl:y<4294967296:=hy ▸ hx.get _;rw [hy] at hbk;have H:=hid (addTimes_any M bs g k m (n+m-k) bo m capb B y wr HM.out (by omega) hm (Nat.le_refl _) (by omega) (by omega) hMw hb (hS.but hbut (by omega) hB) hB hyl)
    have HX:=(qsd (ai hy hn));clear hy hR hS hm hb hx hn hB1 hg hMw hMl hMs hbut hbc hW1s
    go_wp2_with fail
    refine H.out.mono ?_;rintro r W3 ⟨M2,c,rfl,hc1,hO3,hM2,hout,hsum,hbut2⟩;obtain ⟨hMw,hMl,hMs,hbut⟩:=HA.out;have hgc:=hO3.cell (k+m) (by rw [hout.1];omega)
    have hgf:=hO3.frozen (k+m);have HI:=(qsd (ai hc1 (ai hO3 (ai hM2 (ai hout (ai hsum hbut2))))));clear hc1 hO3 hM2 hout hsum hbut2 hMw hMl hMs hbut H;go_wp2
    go_roundg (gk-1)
    case measure=>omega
    case rel =>
     obtain ⟨hy,hn⟩:=HX.out;obtain ⟨hMw,hMl,hMs,hbut⟩:=HA.out;obtain ⟨hc1,hO3,hM2,hout,hsum,hbut2⟩:=HI.out;refine ⟨k+1,M2.set (k+m) c,by omega,by go_num,hO3.set _ _,hM2.set _ _ hc1,by simp [hout.1,hMl],?_,(hbut.trans hbut2).set _ _⟩
     have e1:=sg_set_last M2 0 (k+m) c (by rw [hout.1];omega)
     rw [Nat.zero_add] at e1;have e2:=sg_add M2 0 k m (by rw [hout.1];omega)
     have e3:=sg_add M 0 k m (by omega)
     rw [Nat.zero_add] at e2 e3;have e4:=hout.below 0 k (by omega) (by omega)
     rw [show k+1+m=k+m+1 by omega,e1,e2,e4,sg_succ xs 0 k (by omega),Nat.zero_add,hy,pw_add]
     rw [e3] at hMs;rw [Nat.mul_comm c] at hsum;have:=mul_step (pw k) _ _ y _ _ c hMs;rw [←hsum] at this;rw [←this,Nat.mul_add,Nat.mul_assoc,Nat.add_assoc]
  · obtain rfl:k=n:=by omega
    obtain ⟨hMw,hMl,hMs,hbut⟩:=HA.out;have T:=hid (trim_any M (some ⟨g,0,none⟩) (k+m) (k+m) (g+1) wr hMl.symm (Nat.le_refl _) (by omega) (by simpa [hMl,List.take_of_length_le] using Rd.ofOwn HM.out 0 (k+m)))
    clear hMw hMl hMs hbut
    go_wp2_with fail
    refine T.out.mono ?_;rintro r w1 ⟨rfl,rfl⟩;go_wp2;go_ret;obtain ⟨hR,hS,hm,hb,hx,hn,hB1,hg⟩:=HR.out;obtain ⟨hMw,hMl,hMs,hbut⟩:=HA.out;have e1:sg M 0 (k+m)=val M:=by rw [←hMl];exact sg_all M
    have e2:sg xs 0 k=val xs:=by rw [hn];exact sg_all xs
    rw [e1,e2] at hMs;refine ⟨_,rfl,?_,?_⟩
    · have N:=Nt.ofOwn (lo:=g) HM.out (Nat.le_refl _) hMw (by rw [hMl];unfold maxLen;omega)
      rw [←hMs,←hg];rw [hMl] at N;exact N
    · rw [←hg]
      exact But.below hB1 hbut (by have:=hB1.size;omega) (Nat.le_refl _)
end
section
open Go.RowKit
theorem cmp_words (xs ys:List Nat) (hx:Wf xs) (hy:Wf ys) (j d:Nat) (h1:j+1+d≤xs.length) (h2:j+1+d≤ys.length) (ht:sg xs (j+1) d=sg ys (j+1) d) (hlt:xs.getD j 0<ys.getD j 0) :
 sg xs 0 (j+1+d)<sg ys 0 (j+1+d):=by
 rw [sg_add xs 0 (j+1) d (by omega),sg_add ys 0 (j+1) d (by omega),Nat.zero_add,ht,sg_succ xs 0 j (by omega),sg_succ ys 0 j (by omega),Nat.zero_add]
 have h3:=sg_lt xs 0 j hx (by omega)
 have h4:pw j*(xs.getD j 0+1)≤pw j*ys.getD j 0:=Nat.mul_le_mul_left _ hlt;rw [Nat.mul_add] at h4;omega
theorem cmp_len (xs ys:List Nat) (hx:Wf xs) (hy:Wf ys) (h:nl xs<nl ys):val xs<val ys:=by
 rw [nl_eq_length xs hx,nl_eq_length ys hy] at h;have h1:=ws_len_lt (val xs);have h2:val ys≠0:=by intro e;rw [e,ws_zero] at h;simp at h
 have h3:=ws_len_ge (val ys) h2;have h4:=pw_mono (show (ws (val xs)).length≤(ws (val ys)).length-1 by omega)
 omega
theorem cmpI_lt {x y:Nat}(h:x<y):cmpI x y=-1:=by simp [cmpI,h]
theorem cmpI_gt {x y:Nat}(h:y<x):cmpI x y=1:=by simp [cmpI,h];omega
theorem cmpI_eq {x y:Nat}(h:x=y):cmpI x y=0:=by simp [cmpI,h]
theorem cmpI_congr {a b x y:Nat}(h1:a<b↔x<y) (h2:b<a↔y<x):cmpI a b=cmpI x y:=by simp [cmpI,h1,h2]
theorem cmp_any (xs ys:List Nat) (ao bo:Option Addr) (n cap m capb B:Nat) (w:World) (hn:n=xs.length) (hm:m=ys.length) (hc:n≤cap) (hcb:m≤capb) (hbig:n≤70368744177664) (hbig2:m≤70368744177664)
 (hx:Wf xs) (hy:Wf ys) (hR:Rd B w ao xs) (hS:Rd B w bo ys) :
 Calls Tryz.prog 67 #[.slice ao n cap,.slice bo m capb] w fun r w'=>r=.returned (.int .i64 (cmpI (val xs) (val ys)))∧Below w.heap.size w w':=by
 have H1:=hid (trim_any xs ao n cap B w hn hc (by omega) hR)
 have H2:=hid (trim_any ys bo m capb B w hm hcb (by omega) hS)
 have hl1:=nl_le xs;have hl2:=nl_le ys;have f1:=val_form xs hx;have f2:=val_form ys hy;rw [←sg_val_take] at f1 f2
 by_cases he:nl xs=nl ys
 · obtain ⟨k0,hk0⟩:∃ k,nl ys=k:=⟨_,rfl⟩
   rw [he] at H1 hl1 f1;rw [hk0] at H1 H2 hl1 hl2 f1 f2;have HR:=(qsd (ai hR (ai hS (ai hn (ai hm (ai hx (ai hy (ai hl1 (ai hl2 (ai f1 f2))))))))));have HC:Hid (∀ x y w,_):=compare_u;have hkn:k0≤n:=by omega
   have hkm:k0≤m:=by omega
   clear hR hS hn hm hx hy hl1 hl2 f1 f2 he hk0;go_enter Tryz.func67,Tryz.ntmps67
   go_wp2_with fail
   refine H1.out.mono ?_;rintro r w1 ⟨rfl,rfl⟩
   go_wp2_with fail
   refine H2.out.mono ?_;rintro r w1 ⟨rfl,rfl⟩;go_wp2
   go_loopg [5] k0 (fun k i wr=>k≤k0∧i=.int .i64 ((k:Int)-1)∧Hid (Below w1.heap.size w1 wr)∧Aside (sg xs k (k0-k)=sg ys k (k0-k)))
   case atStart=>exact ⟨Nat.le_refl _,rfl,Below.refl _ _,by rw [Nat.sub_self,sg_zero,sg_zero];exact rfl⟩
   case round =>
    obtain ⟨hk,rfl,HB,HA⟩:=hrel
    by_cases hk0:gk=0
    · subst hk0
      go_wp2;go_ret;obtain ⟨hR,hS,hn,hm,hx,hy,hl1,hl2,f1,f2⟩:=HR.out;have h:=HA.out;rw [Nat.sub_zero,f1,f2] at h;rw [cmpI_eq h];exact ⟨rfl,HB.out⟩
    · obtain ⟨k,rfl⟩:∃ k,gk=k+1:=⟨gk-1,by omega⟩
      obtain ⟨hR,hS,hn,hm,hx,hy,hl1,hl2,f1,f2⟩:=HR.out;obtain ⟨b,off,hB1,rfl,hc1⟩:=hR (by intro e;subst e;simp at hl1;omega)
      obtain ⟨b2,off2,hB2,rfl,hc2⟩:=hS (by intro e;subst e;simp at hl2;omega)
      have g1:wr.cell? ⟨b,off+k,none⟩=some (.int .u32 ((xs.getD k 0:Nat):Int)) :=
       (HB.out.cell (p:=⟨b,off+k,none⟩) (World.block_lt_of_cell? w1 ⟨b,off+k,none⟩ (hc1 k (by omega)))).trans (hc1 k (by omega))
      have g2:wr.cell? ⟨b2,off2+k,none⟩=some (.int .u32 ((ys.getD k 0:Nat):Int)) :=
       (HB.out.cell (p:=⟨b2,off2+k,none⟩) (World.block_lt_of_cell? w1 ⟨b2,off2+k,none⟩ (hc2 k (by omega)))).trans (hc2 k (by omega))
      obtain ⟨x,hxx⟩:∃ x:Nat,xs.getD k 0=x:=⟨_,rfl⟩;obtain ⟨y,hyy⟩:∃ y:Nat,ys.getD k 0=y:=⟨_,rfl⟩;rw [hxx] at g1;rw [hyy] at g2;have HX:=(qsd (ai hxx hyy));clear hR hS hn hm hx hy hl1 hl2 f1 f2 hc1 hc2 hxx hyy hk0
      by_cases hxy:x=y
      · subst hxy
        go_wp2
        go_region
        all_goals (
         go_wp2
         go_roundg k
         case measure=>omega
         case rel =>
          obtain ⟨hR,hS,hn,hm,hx,hy,hl1,hl2,f1,f2⟩:=HR.out;refine ⟨by omega,by first | go_num | (congr 1;omega),HB.out.drew,?_⟩
          have h:=HA.out;obtain ⟨r,hr⟩:∃ r,k0-k=r+1:=⟨k0-(k+1),by omega⟩
          rw [show k0-(k+1)=r by omega] at h
          rw [Aside,hr,sg_front xs k r (by omega),sg_front ys k r (by omega),h,HX.out.1,HX.out.2])
      · have hne:((x:Int)==(y:Int))=false:=by simp;omega
        have hki:(k:Int)<(k0:Int):=by omega
        have hki0:0≤(k:Int):=by omega
        have hki2:k<k0:=by omega
        go_wp2
        go_region
        all_goals (
         go_wp2
         go_region_with (go_at_call 87;refine (compare_u x y _).mono ?_;rintro r w2 ⟨rfl,rfl⟩))
        all_goals (
         go_wp2;go_ret;obtain ⟨hR,hS,hn,hm,hx,hy,hl1,hl2,f1,f2⟩:=HR.out;have h:=HA.out
         have e:cmpI (val xs) (val ys)=cmpI x y:=by
          rw [←f1,←f2];have hk2:k+1+(k0-(k+1))=k0:=by omega
          have t1:=cmp_words xs ys hx hy k (k0-(k+1)) (by omega) (by omega) h
          have t2:=cmp_words ys xs hy hx k (k0-(k+1)) (by omega) (by omega) h.symm
          rw [hk2,HX.out.1,HX.out.2] at t1 t2
          apply cmpI_congr <;> omega
         rw [e];exact ⟨rfl,by first | exact HB.out.drew.drew | exact HB.out.drew | skip⟩)
 · have e:cmpI (val xs) (val ys)=cmpI (nl xs) (nl ys):=by
    rcases Nat.lt_or_gt_of_ne he with h|h
    · rw [cmpI_lt h,cmpI_lt (cmp_len xs ys hx hy h)]
    · rw [cmpI_gt h,cmpI_gt (cmp_len ys xs hy hx h)]
   rw [e];obtain ⟨k1,hk1⟩:∃ k,nl xs=k:=⟨_,rfl⟩;obtain ⟨k2,hk2⟩:∃ k,nl ys=k:=⟨_,rfl⟩;rw [hk1] at H1 he ⊢;rw [hk2] at H2 he ⊢;have hne:((k1:Int)==(k2:Int))=false:=by simp;omega
   have hne2:¬ (k1:Int)=(k2:Int):=by omega
   have H3:=hid (compare_i k1 k2 w);clear hR hS hn hm hx hy hl1 hl2 f1 f2 hk1 hk2 e he;go_enter Tryz.func67,Tryz.ntmps67
   go_wp2_with fail
   refine H1.out.mono ?_;rintro r w1 ⟨rfl,rfl⟩
   go_wp2_with fail
   refine H2.out.mono ?_;rintro r w1 ⟨rfl,rfl⟩
   go_wp2_with fail
   refine H3.out.mono ?_;rintro r w1 ⟨rfl,rfl⟩;go_wp2;go_ret;exact ⟨rfl,Below.refl _ _⟩
end
section
open Go.RowKit
abbrev LG (X:Nat):Prop:=8192<(ws X).length
def addS (X Y:Nat):Nat×Int:=if LG (X+Y) then (0,2) else (X+Y,0)
def subS (X Y:Nat):Nat×Int:=if LG X∨LG Y then (0,2) else if X<Y then (0,20) else (X-Y,0)
def mulS (X Y:Nat):Nat×Int:=if LG X∨LG Y then (0,2) else if LG (X*Y) then (0,2) else (X*Y,0)
def divS (X Y:Nat):Nat×Nat×Int:=if LG X∨LG Y then (0,0,2) else if Y=0 then (0,0,21) else (X/Y,X%Y,0)
def shiftS (X:Nat) (by':Int):Nat×Int:=if LG X then (0,2) else if X=0 then (0,0) else if by'<0 then (X/2^(-by').toNat,0) else if 262144-(bl X:Int)<by' then (0,2) else (X*2^by'.toNat,0)
def One (lo:Nat) (w:World) (r:Ending) (a:Nat×Int):Prop:=∃ v,r=.returned (.tuple #[v,.int .i64 a.2])∧Nt lo w v a.1
theorem trimX (xs:List Nat) (ao:Option Addr) (n cap B:Nat) (w:World) (hn:n=xs.length) (hc:n≤cap) (hm:n≤70368744177664) (hx:Wf xs) (hR:Rd B w ao xs) :
 (Calls Tryz.prog 57 #[.slice ao n cap] w fun r w'=>r=.returned (.slice ao (ws (val xs)).length cap)∧w'=w)∧Rd B w ao (ws (val xs))∧(ws (val xs)).length≤n:=by
 have T:=trim_any xs ao n cap B w hn hc (by omega) hR
 have hl:=nl_le xs;have hf:=form_eq xs hx;have hlen:=nl_eq_length xs hx;rw [hlen] at T hl hf;exact ⟨T,by rw [←hf];exact hR.take _,by omega⟩
theorem Add_any (xs ys:List Nat) (ao bo:Option Addr) (n cap m capb B:Nat) (w:World) (hn:n=xs.length) (hm:m=ys.length) (hc:n≤cap) (hcb:m≤capb) (hbig:n≤35184372088833) (hbig2:m≤35184372088833)
 (hx:Wf xs) (hy:Wf ys) (hR:Rd B w ao xs) (hS:Rd B w bo ys) (hB:B≤w.heap.size) :
 Calls Tryz.prog 66 #[.slice ao n cap,.slice bo m capb] w fun r w'=>One w.heap.size w' r (addS (val xs) (val ys))∧Below w.heap.size w w':=by
 obtain ⟨T1,hRX,hl1⟩:=trimX xs ao n cap B w hn hc (by omega) hx hR
 obtain ⟨T2,hRY,hl2⟩:=trimX ys bo m capb B w hm hcb (by omega) hy hS
 generalize val xs=X at *;generalize val ys=Y at *;have A0:=add_any (ws X) (ws Y) ao bo _ cap _ capb B w rfl rfl (by omega) (by omega) (by omega) (by omega) (wf_ws X) (wf_ws Y) hRX hRY hB
 rw [val_ws,val_ws] at A0;have H1:=(hid T1);have H2:=(hid T2);have H3:=(hid A0);clear T1 T2 A0 hRX hRY hn hm hx hy hR hS hl1 hl2;go_enter Tryz.func66,Tryz.ntmps66
 go_wp2_with fail
 refine H1.out.mono ?_;rintro r w1 ⟨rfl,rfl⟩
 go_wp2_with fail
 refine H2.out.mono ?_;rintro r w1 ⟨rfl,rfl⟩
 go_wp2_with fail
 refine H3.out.mono ?_;rintro r w2 ⟨v,rfl,hN,hb⟩;obtain ⟨av,cv,rfl,hcv,hcm,hRv⟩:=hN.shape;have U0:=unlessLong_any (ws (X+Y)).length av cv w2;have HN:=(qsd (ai hN hb));clear H1 H2 H3 hN hb hRv
 by_cases hL:LG (X+Y)
 · rw [if_pos (show 8192<(ws (X+Y)).length from hL)] at U0
   have U:=(hid U0);clear U0
   go_wp2_with fail
   refine U.out.mono ?_;rintro r w3 ⟨rfl,rfl⟩;go_wp2
   go_ret2
   rw [show addS X Y=(0,2) by simp [addS,hL]]
   exact ⟨⟨_,rfl,Nt.nil _ _⟩,HN.out.2⟩
 · rw [if_neg (show ¬ 8192<(ws (X+Y)).length from hL)] at U0
   have U:=(hid U0);clear U0
   go_wp2_with fail
   refine U.out.mono ?_;rintro r w3 ⟨rfl,rfl⟩;go_wp2
   go_ret2
   rw [show addS X Y=(X+Y,0) by simp [addS,hL]]
   exact ⟨⟨_,rfl,HN.out.1⟩,HN.out.2⟩
theorem longb (n:Nat) (ao:Option Addr) (cap:Nat) (w:World) (b:Bool) (hb:decide (8192<n)=b) :
 Calls Tryz.prog 59 #[.slice ao n cap] w fun r w'=>r=.returned (.bool b)∧w'=w:=by
 have h:=long_any n ao cap w;have e:decide ((8192:Int)<(n:Int))=b:=by rw [←hb];simp only [decide_eq_decide];omega
 rw [e] at h;exact h
theorem Sub_any (xs ys:List Nat) (ao bo:Option Addr) (n cap m capb B:Nat) (w:World) (hn:n=xs.length) (hm:m=ys.length) (hc:n≤cap) (hcb:m≤capb) (hbig:n≤35184372088833) (hbig2:m≤35184372088833)
 (hx:Wf xs) (hy:Wf ys) (hR:Rd B w ao xs) (hS:Rd B w bo ys) (hB:B≤w.heap.size) :
 Calls Tryz.prog 68 #[.slice ao n cap,.slice bo m capb] w fun r w'=>One w.heap.size w' r (subS (val xs) (val ys))∧Below w.heap.size w w':=by
 obtain ⟨T1,hRX,hl1⟩:=trimX xs ao n cap B w hn hc (by omega) hx hR
 obtain ⟨T2,hRY,hl2⟩:=trimX ys bo m capb B w hm hcb (by omega) hy hS
 generalize val xs=X at *;generalize val ys=Y at *;have H1:=(hid T1);have H2:=(hid T2);have HR:=(qsd (ai hRX (ai hRY (ai hl1 hl2))));clear T1 T2 hRX hRY hn hm hx hy hR hS hl1 hl2
 by_cases hLX:LG X
 · have L:=hid (longb (ws X).length ao cap w true (by simpa [LG] using hLX))
   have e:subS X Y=(0,2):=by simp [subS,hLX]
   rw [e];clear e hLX HR;go_enter Tryz.func68,Tryz.ntmps68
   go_wp2_with fail
   refine H1.out.mono ?_;rintro r w1 ⟨rfl,rfl⟩
   go_wp2_with fail
   refine H2.out.mono ?_;rintro r w1 ⟨rfl,rfl⟩
   go_wp2_with fail
   refine L.out.mono ?_;rintro r w1 ⟨rfl,rfl⟩;go_wp2
   go_ret2
   exact ⟨⟨_,rfl,Nt.nil _ _⟩,Below.refl _ _⟩
 · have L:=hid (longb (ws X).length ao cap w false (by simpa [LG] using hLX))
   by_cases hLY:LG Y
   · have L2:=hid (longb (ws Y).length bo capb w true (by simpa [LG] using hLY))
     have e:subS X Y=(0,2):=by simp [subS,hLY]
     rw [e];clear e hLX hLY HR;go_enter Tryz.func68,Tryz.ntmps68
     go_wp2_with fail
     refine H1.out.mono ?_;rintro r w1 ⟨rfl,rfl⟩
     go_wp2_with fail
     refine H2.out.mono ?_;rintro r w1 ⟨rfl,rfl⟩
     go_wp2_with fail
     refine L.out.mono ?_;rintro r w1 ⟨rfl,rfl⟩
     go_wp2_with fail
     refine L2.out.mono ?_;rintro r w1 ⟨rfl,rfl⟩;go_wp2
     go_ret2
     exact ⟨⟨_,rfl,Nt.nil _ _⟩,Below.refl _ _⟩
   · have L2:=hid (longb (ws Y).length bo capb w false (by simpa [LG] using hLY))
     obtain ⟨hRX,hRY,hl1,hl2⟩:=HR.out;have C0:=cmp_any (ws X) (ws Y) ao bo _ cap _ capb B w rfl rfl (by omega) (by omega) (by omega) (by omega) (wf_ws X) (wf_ws Y) hRX hRY
     rw [val_ws,val_ws] at C0
     by_cases hlt:X<Y
     · rw [cmpI_lt hlt] at C0
       have C:=hid C0;have e:subS X Y=(0,20):=by simp [subS,hLX,hLY,hlt]
       rw [e];clear e hLX hLY HR C0 hlt hRX hRY hl1 hl2;go_enter Tryz.func68,Tryz.ntmps68
       go_wp2_with fail
       refine H1.out.mono ?_;rintro r w1 ⟨rfl,rfl⟩
       go_wp2_with fail
       refine H2.out.mono ?_;rintro r w1 ⟨rfl,rfl⟩
       go_wp2_with fail
       refine L.out.mono ?_;rintro r w1 ⟨rfl,rfl⟩
       go_wp2_with fail
       refine L2.out.mono ?_;rintro r w1 ⟨rfl,rfl⟩
       go_wp2_with fail
       refine C.out.mono ?_;rintro r w2 ⟨rfl,hb⟩;have HB:=(qsd hb);clear hb;go_wp2
       go_ret2
       exact ⟨⟨_,rfl,Nt.nil _ _⟩,HB.out⟩
     · have hc1:0≤cmpI X Y:=by unfold cmpI;rw [if_neg hlt];split <;> omega
       obtain ⟨cc,hcc⟩:∃ cc,cmpI X Y=cc:=⟨_,rfl⟩;rw [hcc] at C0 hc1;have C:=hid C0;have e:subS X Y=(X-Y,0):=by simp [subS,hLX,hLY,hlt]
       rw [e];have HL:=(qsd hlt);clear e hLX hLY C0 hlt hRX hRY hl1 hl2 hcc;go_enter Tryz.func68,Tryz.ntmps68
       go_wp2_with fail
       refine H1.out.mono ?_;rintro r w1 ⟨rfl,rfl⟩
       go_wp2_with fail
       refine H2.out.mono ?_;rintro r w1 ⟨rfl,rfl⟩
       go_wp2_with fail
       refine L.out.mono ?_;rintro r w1 ⟨rfl,rfl⟩
       go_wp2_with fail
       refine L2.out.mono ?_;rintro r w1 ⟨rfl,rfl⟩
       go_wp2_with fail
       refine C.out.mono ?_;rintro r w2 ⟨rfl,hb⟩;obtain ⟨hRX,hRY,hl1,hl2⟩:=HR.out;have hs:=hb.size;have S0:=sub_any (ws X) (ws Y) ao bo _ cap _ capb B w2 rfl rfl (ws_len_mono (by have:=HL.out;omega)) (by omega) (by omega) (by omega) (wf_ws X) (wf_ws Y) (by rw [val_ws,val_ws];have:=HL.out;omega) (hRX.below (hb.mono hB)) (hRY.below (hb.mono hB)) (by omega)
       rw [val_ws,val_ws] at S0;have S:=hid S0;have HB:=(qsd (ai hb hs));clear hb hRX hRY hl1 hl2 S0 hs C
       go_wp2_with fail
       refine S.out.mono ?_;rintro r w3 ⟨v,rfl,hN,hb2⟩;have HN:=(qsd (ai hN hb2));clear hN hb2 S;go_wp2
       go_ret2
       obtain ⟨hb,hs⟩:=HB.out;exact ⟨⟨_,rfl,HN.out.1.mono hs⟩,hb.trans (HN.out.2.mono hs)⟩
end
section
open Go.RowKit
theorem Mul_any (xs ys:List Nat) (ao bo:Option Addr) (n cap m capb B:Nat) (w:World) (hn:n=xs.length) (hm:m=ys.length) (hc:n≤cap) (hcb:m≤capb) (hbig:n≤35184372088833) (hbig2:m≤35184372088833)
 (hx:Wf xs) (hy:Wf ys) (hR:Rd B w ao xs) (hS:Rd B w bo ys) (hB:B≤w.heap.size) :
 Calls Tryz.prog 37 #[.slice ao n cap,.slice bo m capb] w fun r w'=>One w.heap.size w' r (mulS (val xs) (val ys))∧Below w.heap.size w w':=by
 obtain ⟨T1,hRX,hl1⟩:=trimX xs ao n cap B w hn hc (by omega) hx hR
 obtain ⟨T2,hRY,hl2⟩:=trimX ys bo m capb B w hm hcb (by omega) hy hS
 generalize val xs=X at *;generalize val ys=Y at *;have H1:=(hid T1);have H2:=(hid T2);have HR:=(qsd (ai hRX (ai hRY (ai hl1 hl2))));clear T1 T2 hRX hRY hn hm hx hy hR hS hl1 hl2
 by_cases hLX:LG X
 · have L:=hid (longb (ws X).length ao cap w true (by simpa [LG] using hLX))
   have e:mulS X Y=(0,2):=by simp [mulS,hLX]
   rw [e];clear e hLX HR;go_enter Tryz.func37,Tryz.ntmps37
   go_wp2_with fail
   refine H1.out.mono ?_;rintro r w1 ⟨rfl,rfl⟩
   go_wp2_with fail
   refine H2.out.mono ?_;rintro r w1 ⟨rfl,rfl⟩
   go_wp2_with fail
   refine L.out.mono ?_;rintro r w1 ⟨rfl,rfl⟩;go_wp2
   go_ret2
   exact ⟨⟨_,rfl,Nt.nil _ _⟩,Below.refl _ _⟩
 · have L:=hid (longb (ws X).length ao cap w false (by simpa [LG] using hLX))
   by_cases hLY:LG Y
   · have L2:=hid (longb (ws Y).length bo capb w true (by simpa [LG] using hLY))
     have e:mulS X Y=(0,2):=by simp [mulS,hLY]
     rw [e];clear e hLX hLY HR;go_enter Tryz.func37,Tryz.ntmps37
     go_wp2_with fail
     refine H1.out.mono ?_;rintro r w1 ⟨rfl,rfl⟩
     go_wp2_with fail
     refine H2.out.mono ?_;rintro r w1 ⟨rfl,rfl⟩
     go_wp2_with fail
     refine L.out.mono ?_;rintro r w1 ⟨rfl,rfl⟩
     go_wp2_with fail
     refine L2.out.mono ?_;rintro r w1 ⟨rfl,rfl⟩;go_wp2
     go_ret2
     exact ⟨⟨_,rfl,Nt.nil _ _⟩,Below.refl _ _⟩
   · have L2:=hid (longb (ws Y).length bo capb w false (by simpa [LG] using hLY))
     have hz1:(ws X).length=0→X=0:=(ws_len_zero X).1;have hz2:(ws Y).length=0→Y=0:=(ws_len_zero Y).1
     by_cases h1:(ws X).length=0
     · have e:mulS X Y=(0,0):=by
        have:=hz1 h1;subst this;unfold mulS;rw [if_neg (by simp [hLX,hLY]),Nat.zero_mul,if_neg hLX]
       rw [e];have hh:=hid h1;rw [h1] at H1 L;have h1b:((ws X).length:Int)=0:=by omega
       clear e hLX hLY HR hz1 hz2 h1 h1b hh;go_enter Tryz.func37,Tryz.ntmps37
       go_wp2_with fail
       refine H1.out.mono ?_;rintro r w1 ⟨rfl,rfl⟩
       go_wp2_with fail
       refine H2.out.mono ?_;rintro r w1 ⟨rfl,rfl⟩
       go_wp2_with fail
       refine L.out.mono ?_;rintro r w1 ⟨rfl,rfl⟩
       go_wp2_with fail
       refine L2.out.mono ?_;rintro r w1 ⟨rfl,rfl⟩;go_wp2
       go_ret2
       exact ⟨⟨_,rfl,Nt.nil _ _⟩,Below.refl _ _⟩
     · by_cases h2:(ws Y).length=0
       · have e:mulS X Y=(0,0):=by
          have:=hz2 h2;subst this;unfold mulS;rw [if_neg (by simp [hLX,hLY]),Nat.mul_zero,if_neg hLY]
         rw [e];rw [h2] at H2 L2;obtain ⟨k1,hk1⟩:∃ k,(ws X).length=k:=⟨_,rfl⟩;rw [hk1] at H1 L h1;have h1b:((k1:Int)==0)=false:=by simp;omega
         clear e hLX hLY HR hz1 hz2 h2 hk1;go_enter Tryz.func37,Tryz.ntmps37
         go_wp2_with fail
         refine H1.out.mono ?_;rintro r w1 ⟨rfl,rfl⟩
         go_wp2_with fail
         refine H2.out.mono ?_;rintro r w1 ⟨rfl,rfl⟩
         go_wp2_with fail
         refine L.out.mono ?_;rintro r w1 ⟨rfl,rfl⟩
         go_wp2_with fail
         refine L2.out.mono ?_;rintro r w1 ⟨rfl,rfl⟩;go_wp2
         go_ret2
         exact ⟨⟨_,rfl,Nt.nil _ _⟩,Below.refl _ _⟩
       · have hX0:X≠0:=fun e=>h1 ((ws_len_zero X).2 e)
         have hY0:Y≠0:=fun e=>h2 ((ws_len_zero Y).2 e)
         have hlow:pw ((ws X).length+(ws Y).length-2)≤X*Y:=by
          have a:=Nat.mul_le_mul (ws_len_ge X hX0) (ws_len_ge Y hY0);rw [←pw_add] at a;rw [show (ws X).length+(ws Y).length-2=(ws X).length-1+((ws Y).length-1) by omega];exact a
         obtain ⟨hRX,hRY,hl1,hl2⟩:=HR.out;have M0:=mul_any (ws X) (ws Y) ao bo _ cap _ capb B w rfl rfl (by omega) (by omega) (by unfold LG at hLX hLY;omega) (wf_ws X) (wf_ws Y) hRX hRY hB
         rw [val_ws,val_ws] at M0;have hsmall1:(ws X).length≤8192:=by unfold LG at hLX;omega
         have hsmall2:(ws Y).length≤8192:=by unfold LG at hLY;omega
         obtain ⟨k1,hk1⟩:∃ k,(ws X).length=k:=⟨_,rfl⟩;obtain ⟨k2,hk2⟩:∃ k,(ws Y).length=k:=⟨_,rfl⟩;rw [hk1] at H1 L h1 M0 hlow hsmall1;rw [hk2] at H2 L2 h2 M0 hlow hsmall2;have h1b:((k1:Int)==0)=false:=by simp;omega
         have h2b:((k2:Int)==0)=false:=by simp;omega
         by_cases h3:8192<k1+k2-1
         · have hLG:LG (X*Y):=by
            unfold LG
            by_cases h4:(ws (X*Y)).length≤8192
            · have:=(ws_len_le _ _).1 h4
              have:=pw_mono (show 8192≤k1+k2-2 by omega)
              omega
            · omega
           have e:mulS X Y=(0,2):=by simp [mulS,hLG]
           rw [e];have h3i:(8192:Int)<(k1:Int)+(k2:Int)-1:=by omega
           clear e hLX hLY HR hz1 hz2 hk1 hk2 hRX hRY hl1 hl2 M0 hX0 hY0 hlow hLG h3;go_enter Tryz.func37,Tryz.ntmps37
           go_wp2_with fail
           refine H1.out.mono ?_;rintro r w1 ⟨rfl,rfl⟩
           go_wp2_with fail
           refine H2.out.mono ?_;rintro r w1 ⟨rfl,rfl⟩
           go_wp2_with fail
           refine L.out.mono ?_;rintro r w1 ⟨rfl,rfl⟩
           go_wp2_with fail
           refine L2.out.mono ?_;rintro r w1 ⟨rfl,rfl⟩;go_wp2
           go_ret2
           exact ⟨⟨_,rfl,Nt.nil _ _⟩,Below.refl _ _⟩
         · have h3i:(k1:Int)+(k2:Int)-1≤8192:=by omega
           have h3b:decide ((8192:Int)<(k1:Int)+(k2:Int)-1)=false:=decide_eq_false (by omega)
           have M:=hid M0;have HL:=(qsd (ai hLX hLY));clear hLX hLY HR hz1 hz2 hk1 hk2 hRX hRY hl1 hl2 M0 hX0 hY0 hlow h3;go_enter Tryz.func37,Tryz.ntmps37
           go_wp2_with fail
           refine H1.out.mono ?_;rintro r w1 ⟨rfl,rfl⟩
           go_wp2_with fail
           refine H2.out.mono ?_;rintro r w1 ⟨rfl,rfl⟩
           go_wp2_with fail
           refine L.out.mono ?_;rintro r w1 ⟨rfl,rfl⟩
           go_wp2_with fail
           refine L2.out.mono ?_;rintro r w1 ⟨rfl,rfl⟩
           go_wp2_with fail
           refine M.out.mono ?_;rintro r w2 ⟨v,rfl,hN,hb⟩;obtain ⟨av,cv,rfl,hcv,hcm,hRv⟩:=hN.shape;have U0:=unlessLong_any (ws (X*Y)).length av cv w2;have HN:=(qsd (ai hN hb));clear M hN hb hRv
           by_cases hL:LG (X*Y)
           · rw [if_pos (show 8192<(ws (X*Y)).length from hL)] at U0
             have U:=(hid U0);clear U0
             go_wp2_with fail
             refine U.out.mono ?_;rintro r w3 ⟨rfl,rfl⟩;go_wp2
             go_ret2
             rw [show mulS X Y=(0,2) by simp [mulS,hL]]
             exact ⟨⟨_,rfl,Nt.nil _ _⟩,HN.out.2⟩
           · rw [if_neg (show ¬ 8192<(ws (X*Y)).length from hL)] at U0
             have U:=(hid U0);clear U0
             go_wp2_with fail
             refine U.out.mono ?_;rintro r w3 ⟨rfl,rfl⟩;go_wp2
             go_ret2
             rw [show mulS X Y=(X*Y,0) by simp [mulS,HL.out.1,HL.out.2,hL]]
             exact ⟨⟨_,rfl,HN.out.1⟩,HN.out.2⟩
def Three (lo:Nat) (w:World) (r:Ending) (a:Nat×Nat×Int):Prop:=∃ v u,r=.returned (.tuple #[v,u,.int .i64 a.2.2])∧Nt lo w v a.1∧Nt lo w u a.2.1∧Apart v u
theorem Div_any (xs ys:List Nat) (ao bo:Option Addr) (n cap m capb B:Nat) (w:World) (hn:n=xs.length) (hm:m=ys.length) (hc:n≤cap) (hcb:m≤capb) (hbig:n≤35184372088833) (hbig2:m≤35184372088833)
 (hx:Wf xs) (hy:Wf ys) (hR:Rd B w ao xs) (hS:Rd B w bo ys) (hB:B≤w.heap.size) :
 Calls Tryz.prog 112 #[.slice ao n cap,.slice bo m capb] w fun r w'=>Three w.heap.size w' r (divS (val xs) (val ys))∧Below w.heap.size w w':=by
 obtain ⟨T1,hRX,hl1⟩:=trimX xs ao n cap B w hn hc (by omega) hx hR
 obtain ⟨T2,hRY,hl2⟩:=trimX ys bo m capb B w hm hcb (by omega) hy hS
 generalize val xs=X at *;generalize val ys=Y at *;have H1:=(hid T1);have H2:=(hid T2);have HR:=(qsd (ai hRX (ai hRY (ai hl1 hl2))));clear T1 T2 hRX hRY hn hm hx hy hR hS hl1 hl2
 by_cases hLX:LG X
 · have L:=hid (longb (ws X).length ao cap w true (by simpa [LG] using hLX))
   have e:divS X Y=(0,0,2):=by simp [divS,hLX]
   rw [e];clear e hLX HR;go_enter Tryz.func112,Tryz.ntmps112
   go_wp2_with fail
   refine H1.out.mono ?_;rintro r w1 ⟨rfl,rfl⟩
   go_wp2_with fail
   refine H2.out.mono ?_;rintro r w1 ⟨rfl,rfl⟩
   go_wp2_with fail
   refine L.out.mono ?_;rintro r w1 ⟨rfl,rfl⟩;go_wp2
   go_ret3
   exact ⟨⟨_,_,rfl,Nt.nil _ _,Nt.nil _ _,apart_nil _⟩,Below.refl _ _⟩
 · have L:=hid (longb (ws X).length ao cap w false (by simpa [LG] using hLX))
   by_cases hLY:LG Y
   · have L2:=hid (longb (ws Y).length bo capb w true (by simpa [LG] using hLY))
     have e:divS X Y=(0,0,2):=by simp [divS,hLY]
     rw [e];clear e hLX hLY HR;go_enter Tryz.func112,Tryz.ntmps112
     go_wp2_with fail
     refine H1.out.mono ?_;rintro r w1 ⟨rfl,rfl⟩
     go_wp2_with fail
     refine H2.out.mono ?_;rintro r w1 ⟨rfl,rfl⟩
     go_wp2_with fail
     refine L.out.mono ?_;rintro r w1 ⟨rfl,rfl⟩
     go_wp2_with fail
     refine L2.out.mono ?_;rintro r w1 ⟨rfl,rfl⟩;go_wp2
     go_ret3
     exact ⟨⟨_,_,rfl,Nt.nil _ _,Nt.nil _ _,apart_nil _⟩,Below.refl _ _⟩
   · have L2:=hid (longb (ws Y).length bo capb w false (by simpa [LG] using hLY))
     by_cases h2:Y=0
     · have e:divS X Y=(0,0,21):=by unfold divS;rw [if_neg (by simp [hLX,hLY]),if_pos h2]
       rw [e];subst h2;rw [ws_zero] at H2 L2;clear e hLX hLY HR;go_enter Tryz.func112,Tryz.ntmps112
       go_wp2_with fail
       refine H1.out.mono ?_;rintro r w1 ⟨rfl,rfl⟩
       go_wp2_with fail
       refine H2.out.mono ?_;rintro r w1 ⟨rfl,rfl⟩
       go_wp2_with fail
       refine L.out.mono ?_;rintro r w1 ⟨rfl,rfl⟩
       go_wp2_with fail
       refine L2.out.mono ?_;rintro r w1 ⟨rfl,rfl⟩;go_wp2
       go_ret3
       exact ⟨⟨_,_,rfl,Nt.nil _ _,Nt.nil _ _,apart_nil _⟩,Below.refl _ _⟩
     · have h3:(ws Y).length≠0:=fun e=>h2 ((ws_len_zero Y).1 e)
       obtain ⟨hRX,hRY,hl1,hl2⟩:=HR.out;have D0:=div_any (ws X) (ws Y) ao bo _ cap _ capb B w rfl rfl (by omega) (by omega) (by omega) (by omega) (wf_ws X) (wf_ws Y) (ws_top Y h2) hRX hRY hB
       rw [val_ws,val_ws] at D0;have e:divS X Y=(X/Y,X%Y,0):=by simp [divS,hLX,hLY,h2]
       rw [e];obtain ⟨k2,hk2⟩:∃ k,(ws Y).length=k:=⟨_,rfl⟩;rw [hk2] at H2 L2 D0 h3;have h2b:((k2:Int)==0)=false:=by simp;omega
       have D:=hid D0;clear e hLX hLY HR hk2 hRX hRY hl1 hl2 D0 h2;go_enter Tryz.func112,Tryz.ntmps112
       go_wp2_with fail
       refine H1.out.mono ?_;rintro r w1 ⟨rfl,rfl⟩
       go_wp2_with fail
       refine H2.out.mono ?_;rintro r w1 ⟨rfl,rfl⟩
       go_wp2_with fail
       refine L.out.mono ?_;rintro r w1 ⟨rfl,rfl⟩
       go_wp2_with fail
       refine L2.out.mono ?_;rintro r w1 ⟨rfl,rfl⟩
       go_wp2_with fail
       refine D.out.mono ?_;rintro r w2 ⟨⟨v,u,rfl,hN1,hN2,hap⟩,hb⟩;have HN:=(qsd (ai hN1 (ai hN2 (ai hap hb))));clear hN1 hN2 hap hb D;go_wp2
       go_ret3
       obtain ⟨hN1,hN2,hap,hb⟩:=HN.out;exact ⟨⟨_,_,rfl,hN1,hN2,hap⟩,hb⟩
end
section
open Go.RowKit
theorem bl_le_words (X k:Nat) (h:X<pw k):bl X≤32*k:=by
 by_cases h0:X=0
 · subst h0;rw [bl_zero];omega
 · have h1:=bl_ge X h0
   have h3:pw k=2^(32*k):=by rw [←Nat.add_zero (32*k),pw_two];simp
   rw [h3] at h;have:=(Nat.pow_lt_pow_iff_right (a:=2) (by decide)).1 (Nat.lt_of_le_of_lt h1 h)
   omega
theorem bl_small (X:Nat) (h:¬ LG X):bl X≤262144 :=
 bl_le_words X 8192 ((ws_len_le X 8192).1 (by unfold LG at h;omega))
theorem Shift_any (xs:List Nat) (ao:Option Addr) (n cap B:Nat) (by':Int) (w:World) (hn:n=xs.length) (hc:n≤cap) (hbig:n≤35184372088833)
 (hx:Wf xs) (hR:Rd B w ao xs) (hB:B≤w.heap.size) (hb0:-9223372036854775808≤by') (hb1:by'≤9223372036854775807) :
 Calls Tryz.prog 39 #[.slice ao n cap,.int .i64 by'] w fun r w'=>One w.heap.size w' r (shiftS (val xs) by')∧Below w.heap.size w w':=by
 obtain ⟨T1,hRX,hl1⟩:=trimX xs ao n cap B w hn hc (by omega) hx hR
 generalize val xs=X at *;have N0:=len_any (ws X) ao _ cap B w rfl (by omega) (by omega) (wf_ws X) hRX
 rw [val_ws] at N0;have H1:=(hid T1);have H2:=(hid N0);have HR:=(qsd (ai hRX hl1));clear T1 N0 hRX hn hx hR hl1
 by_cases hLX:LG X
 · have L:=hid (longb (ws X).length ao cap w true (by simpa [LG] using hLX))
   have e:shiftS X by'=(0,2):=by simp [shiftS,hLX]
   rw [e];clear e hLX HR;generalize bl X=c at *;go_enter Tryz.func39,Tryz.ntmps39
   go_wp2_with fail
   refine H1.out.mono ?_;rintro r w1 ⟨rfl,rfl⟩
   go_wp2_with fail
   refine H2.out.mono ?_;rintro r w1 ⟨rfl,rfl⟩
   go_wp2_with fail
   refine L.out.mono ?_;rintro r w1 ⟨rfl,rfl⟩;go_wp2
   go_ret2
   exact ⟨⟨_,rfl,Nt.nil _ _⟩,Below.refl _ _⟩
 · have L:=hid (longb (ws X).length ao cap w false (by simpa [LG] using hLX))
   have hbs:=bl_small X hLX;obtain ⟨c,hcc⟩:∃ c,bl X=c:=⟨_,rfl⟩
   by_cases h0:X=0
   · have e:shiftS X by'=(0,0):=by unfold shiftS;rw [if_neg hLX,if_pos h0]
     rw [e];subst h0;rw [ws_zero] at H1 H2 L;rw [bl_zero] at H2;clear e hLX HR hbs hcc;go_enter Tryz.func39,Tryz.ntmps39
     go_wp2_with fail
     refine H1.out.mono ?_;rintro r w1 ⟨rfl,rfl⟩
     go_wp2_with fail
     refine H2.out.mono ?_;rintro r w1 ⟨rfl,rfl⟩
     go_wp2_with fail
     refine L.out.mono ?_;rintro r w1 ⟨rfl,rfl⟩;go_wp2
     go_ret2
     exact ⟨⟨_,rfl,Nt.nil _ _⟩,Below.refl _ _⟩
   · have hcp:=bl_pos X h0
     have hlt:=bl_lt X;rw [hcc] at hcp hbs H2 hlt;have hcne:((c:Int)==0)=false:=by simp;omega
     by_cases hneg:by'<0
     · obtain ⟨d,hd⟩:∃ d:Nat,(d:Int)=-by':=⟨(-by').toNat,by omega⟩
       have e:shiftS X by'=(X/2^d,0):=by
        unfold shiftS;rw [if_neg hLX,if_neg h0,if_pos hneg,←hd,Int.toNat_natCast]
       rw [e]
       by_cases hbig2:by'≤-(c:Int)
       · have e2:X/2^d=0:=Nat.div_eq_of_lt (Nat.lt_of_lt_of_le hlt (Nat.pow_le_pow_right (by decide) (by omega)))
         rw [e2];clear e e2 hLX HR hcc hlt hd h0;go_enter Tryz.func39,Tryz.ntmps39
         go_wp2_with fail
         refine H1.out.mono ?_;rintro r w1 ⟨rfl,rfl⟩
         go_wp2_with fail
         refine H2.out.mono ?_;rintro r w1 ⟨rfl,rfl⟩
         go_wp2_with fail
         refine L.out.mono ?_;rintro r w1 ⟨rfl,rfl⟩;go_wp2
         go_ret2
         exact ⟨⟨_,rfl,Nt.nil _ _⟩,Below.refl _ _⟩
       · obtain ⟨hRX,hl1⟩:=HR.out
         have D0:=down_any (ws X) ao _ cap B d (d/32) (d%32) w rfl (by omega) (by omega) (by omega) (by omega) (by omega) (wf_ws X) hRX hB
         rw [val_ws] at D0;have D:=hid D0;have hgt:-(c:Int)<by':=by omega
         have hd':-by'=(d:Int):=hd.symm
         clear e hLX HR hcc hlt h0 hRX hl1 D0 hbig2 hd;go_enter Tryz.func39,Tryz.ntmps39
         go_wp2_with fail
         refine H1.out.mono ?_;rintro r w1 ⟨rfl,rfl⟩
         go_wp2_with fail
         refine H2.out.mono ?_;rintro r w1 ⟨rfl,rfl⟩
         go_wp2_with fail
         refine L.out.mono ?_;rintro r w1 ⟨rfl,rfl⟩
         go_wp2_with fail
         try rw [hd']
         refine D.out.mono ?_;rintro r w2 ⟨v,rfl,hN,hb⟩;have HN:=(qsd (ai hN hb));clear hN hb D;go_wp2
         go_ret2
         exact ⟨⟨_,rfl,HN.out.1⟩,HN.out.2⟩
     · obtain ⟨d,rfl⟩:∃ d:Nat,by'=(d:Int):=⟨by'.toNat,by omega⟩
       by_cases hover:262144-(c:Int)<(d:Int)
       · have e:shiftS X (d:Int)=(0,2):=by unfold shiftS;rw [if_neg hLX,if_neg h0,if_neg hneg,hcc,if_pos hover]
         rw [e];clear e hLX HR hcc hlt h0 hneg;go_enter Tryz.func39,Tryz.ntmps39
         go_wp2_with fail
         refine H1.out.mono ?_;rintro r w1 ⟨rfl,rfl⟩
         go_wp2_with fail
         refine H2.out.mono ?_;rintro r w1 ⟨rfl,rfl⟩
         go_wp2_with fail
         refine L.out.mono ?_;rintro r w1 ⟨rfl,rfl⟩;go_wp2
         go_ret2
         exact ⟨⟨_,rfl,Nt.nil _ _⟩,Below.refl _ _⟩
       · have e:shiftS X (d:Int)=(X*2^d,0):=by unfold shiftS;rw [if_neg hLX,if_neg h0,if_neg hneg,hcc,if_neg hover,Int.toNat_natCast]
         rw [e];obtain ⟨hRX,hl1⟩:=HR.out;have D0:=up_any (ws X) ao _ cap B d (d/32) (d%32) w rfl (by omega) (by omega) (by omega) (by unfold LG at hLX;omega) (wf_ws X) hRX hB
         rw [val_ws] at D0;have D:=hid D0;have hle:(d:Int)≤262144-(c:Int):=by omega
         have hleb:decide (262144-(c:Int)<(d:Int))=false:=decide_eq_false (by omega)
         clear e hLX HR hcc hlt h0 hRX hl1 D0 hover hneg;go_enter Tryz.func39,Tryz.ntmps39
         go_wp2_with fail
         refine H1.out.mono ?_;rintro r w1 ⟨rfl,rfl⟩
         go_wp2_with fail
         refine H2.out.mono ?_;rintro r w1 ⟨rfl,rfl⟩
         go_wp2_with fail
         refine L.out.mono ?_;rintro r w1 ⟨rfl,rfl⟩
         go_wp2_with fail
         refine D.out.mono ?_;rintro r w2 ⟨v,rfl,hN,hb⟩;have HN:=(qsd (ai hN hb));clear hN hb D;go_wp2
         go_ret2
         exact ⟨⟨_,rfl,HN.out.1⟩,HN.out.2⟩
end
section
open Go.RowKit
abbrev Rw (lo:Nat) (w:World) (v:Value) (n:Nat) (ys:List Value):Prop:=w.ownsRow lo 90 1 v n ys
theorem row_other {w w':World}{lo e s:Nat}{v:Value}{n:Nat}{ys:List Value}(h:w.ownsRow lo e s v n ys) (hb:∀ g,v.ownBlock=some g→w'.heap[g]?=w.heap[g]?):w'.ownsRow lo e s v n ys:=by
 refine ⟨h.1,?_⟩
 rcases h.2 with hn|⟨g,cap,cur,rfl,hlo,hg,rest⟩
 · exact .inl hn
 · refine .inr ⟨g,cap,cur,rfl,hlo,?_,rest⟩
   rw [hb g rfl];exact hg
end
section
open Go.RowKit
theorem bit_words (xs:List Nat) (hx:Wf xs) (k r:Nat) (hk:k<xs.length) (hr:r<32):val xs/2^(32*k+r)%2=xs.getD k 0/2^r%2:=by
 have e:=val_take_drop xs k (by omega)
 have hl:val (xs.take k)<pw k:=by
  have:=val_lt _ (hx.take k);rwa [List.length_take,Nat.min_eq_left (by omega)] at this
 rw [pw_two,←Nat.div_div_eq_div_mul,e,Nat.add_mul_div_left _ _ (pw_pos k),Nat.div_eq_of_lt hl,Nat.zero_add,val_drop_succ xs k hk]
 have e2:4294967296*val (xs.drop (k+1))=2^r*(2*(2^(31-r)*val (xs.drop (k+1)))):=by
  have:(4294967296:Nat)=2^r*(2*2^(31-r)):=by
   rw [←Nat.mul_assoc,Nat.mul_comm (2^r) 2,Nat.mul_assoc,←Nat.pow_add,show r+(31-r)=31 by omega]
  rw [this];grind
 rw [e2,Nat.add_mul_div_left _ _ (Nat.two_pow_pos r),Nat.add_mul_mod_self_left]
theorem bit_beyond (xs:List Nat) (hx:Wf xs) (i:Nat) (h:xs.length≤i/32):val xs/2^i%2=0:=by
 have h1:=val_lt xs hx
 have h2:pw xs.length≤2^i:=by
  have:pw xs.length=2^(32*xs.length):=by rw [←Nat.add_zero (32*xs.length),pw_two];simp
  rw [this];exact Nat.pow_le_pow_right (by decide) (by omega)
 rw [Nat.div_eq_of_lt (by omega)]
theorem and_one (z:Nat) (h:z<4294967296):bits BinOp.and IntKind.u32 (z:Int) 1=((z%2:Nat):Int):=by
 have:=and32 z 1 h (by decide)
 rw [Nat.and_one_is_mod] at this;exact this
theorem bit_neg (ao:Option Addr) (n cap:Nat) (i:Int) (w:World) (hi:i<0) :
 Calls Tryz.prog 64 #[.slice ao n cap,.int .i64 i] w fun r w'=>r=.returned (.bool false)∧w'=w:=by
 go_enter Tryz.func64,Tryz.ntmps64;go_wp2;go_ret;exact ⟨rfl,rfl⟩
theorem bit_any (xs:List Nat) (ao:Option Addr) (n cap B i:Nat) (w:World) (hn:n=xs.length) (hx:Wf xs) (hR:Rd B w ao xs) (hi:i≤9223372036854775807) :
 Calls Tryz.prog 64 #[.slice ao n cap,.int .i64 (i:Int)] w fun r w'=>r=.returned (.bool (decide (val xs/2^i%2=1)))∧w'=w:=by
 obtain ⟨k,hk⟩:∃ k,k=i/32:=⟨_,rfl⟩;obtain ⟨r,hr⟩:∃ r,r=i%32:=⟨_,rfl⟩;have e1:(i:Int)/32=(k:Int):=by omega
 have e2:(i:Int)%32=(r:Int):=by omega
 by_cases hkn:k<n
 · have hb:=bit_words xs hx k r (by omega) (by omega)
   rw [show 32*k+r=i by omega] at hb
   rw [hb];obtain ⟨b,off,hB,rfl,hcell⟩:=hR (by intro e;subst e;simp at hn;omega)
   have hck:=hcell k (by omega)
   obtain ⟨t,ht⟩:∃ t,xs.getD k 0=t:=⟨_,rfl⟩;have htl:t<4294967296:=ht ▸ hx.get k;rw [ht] at hck ⊢;obtain ⟨z,hz⟩:∃ z,z=t/2^r:=⟨_,rfl⟩;have hzt:z≤t:=by rw [hz];exact Nat.div_le_self _ _
   have e3:(t:Int)/2^r=(z:Int):=by rw [hz];simp
   have e4:=and_one z (by omega)
   have hr32:r<32:=by omega
   rw [←hz];clear hb hn hx hR hcell ht hz hk hr
   rcases (by omega:z%2=0∨z%2=1) with hz2|hz2
   · rw [hz2] at e4 ⊢
     clear hz2;go_enter Tryz.func64,Tryz.ntmps64;go_wp2;go_ret;exact ⟨rfl,rfl⟩
   · rw [hz2] at e4 ⊢
     clear hz2;go_enter Tryz.func64,Tryz.ntmps64;go_wp2;go_ret;exact ⟨rfl,rfl⟩
 · rw [bit_beyond xs hx i (by omega)]
   clear hn hx hR hk hr;go_enter Tryz.func64,Tryz.ntmps64;go_wp2;go_ret;exact ⟨rfl,rfl⟩
def smallV (X:Nat):Value:=if X<18446744073709551616 then .tuple #[.int .u64 (X:Int),.int .i64 0] else .tuple #[.int .u64 0,.int .i64 2]
theorem nl_two (xs:List Nat) (hx:Wf xs):nl xs≤2↔val xs<18446744073709551616:=by
 rw [nl_eq_length xs hx,ws_len_le];rfl
theorem small_any (xs:List Nat) (ao:Option Addr) (n cap B:Nat) (w:World) (hn:n=xs.length) (hc:n≤cap) (hm:n≤70368744177664) (hx:Wf xs) (hR:Rd B w ao xs) :
 Calls Tryz.prog 123 #[.slice ao n cap] w fun r w'=>r=.returned (smallV (val xs))∧w'=w:=by
 have H:=hid (trim_any xs ao n cap B w hn hc (by omega) hR)
 have hl:=nl_le xs;have h2:=nl_two xs hx;have hf:=val_form xs hx;obtain ⟨m,hm'⟩:∃ m,nl xs=m:=⟨_,rfl⟩;rw [hm'] at H hl h2 hf;unfold smallV
 by_cases h:2<m
 · rw [if_neg (by omega)]
   clear h2 hl hn hx hR hm' hf;go_enter Tryz.func123,Tryz.ntmps123
   go_wp2_with fail
   refine H.out.mono ?_;rintro r w1 ⟨rfl,rfl⟩;go_wp2
   go_ret2
   exact ⟨rfl,rfl⟩
 · rw [if_pos (by omega)]
   rw [←sg_val_take] at hf;have HR:=(qsd (ai hR (ai hn (ai hx (ai hl hf)))));have hm2:m≤2:=by omega
   clear h2 hl hn hx hR hm' hf h;go_enter Tryz.func123,Tryz.ntmps123
   go_wp2_with fail
   refine H.out.mono ?_;rintro r w1 ⟨rfl,rfl⟩;go_wp2
   go_loopg [4,14] m (fun gk s i wr=>∃ (k sv:Nat),gk+k=m∧s=.int .u64 (sv:Nat)∧i=.int .i64 (k:Nat)∧wr=w1∧Aside (sv=sg xs 0 k))
   case atStart=>exact ⟨0,0,by omega,rfl,rfl,rfl,(sg_zero _ _).symm⟩
   case round =>
    obtain ⟨k,sv,hgk,rfl,rfl,rfl,HA⟩:=hrel
    by_cases hk:k<m
    · obtain ⟨hR,hn,hx,hl,hf⟩:=HR.out
      obtain ⟨b,off,hB,rfl,hcell⟩:=hR (by intro e;subst e;simp at hl;omega)
      have hck:=hcell k (by omega)
      obtain ⟨t,ht⟩:∃ t,xs.getD k 0=t:=⟨_,rfl⟩;have htl:t<4294967296:=ht ▸ hx.get k;rw [ht] at hck;have hs1:=sg_lt xs 0 k hx (by omega)
      have hs2:=sg_succ xs 0 k (by omega)
      rw [Nat.zero_add,ht,←HA.out] at hs2;rw [←HA.out] at hs1;have HX:=(qsd (ai hs1 hs2));clear hR hn hx hl hf hcell ht hs1 hs2
      rcases (by omega:k=0∨k=1) with rfl|rfl
      · have hsv:sv=0:=by have:=HX.out.1;rw [pw_zero] at this;omega
        have e:bits BinOp.or IntKind.u64 (sv:Int) (t:Int)=(t:Int):=by rw [bits_or_u64_nat _ _ (by omega) (by omega),hsv,Nat.zero_or]
        rw [Nat.add_zero] at hck;have HS:=(qsd hsv);clear hsv;go_wp2
        go_roundg (gk-1)
        case measure=>omega
        case rel =>
         refine ⟨1,t,by omega,by first | rfl | rw [e],by go_num,rfl,?_⟩
         have:=HX.out.2;rw [pw_zero,HS.out] at this;rw [Aside,this];omega
      · have hsv:sv<4294967296:=by have:=HX.out.1;rw [show (1:Nat)=0+1 from rfl,pw_succ,pw_zero] at this;omega
        have e:=or64_join2 t sv htl hsv;go_wp2
        go_roundg (gk-1)
        case measure=>omega
        case rel =>
         refine ⟨2,sv+t*4294967296,by omega,by first | rfl | rw [e] | (rw [e];rfl),by go_num,rfl,?_⟩
         have:=HX.out.2;rw [show pw 1=4294967296 from rfl] at this
         rw [Aside,this];omega
    · obtain rfl:k=m:=by omega
      go_wp2
      go_ret2
      obtain ⟨hR,hn,hx,hl,hf⟩:=HR.out;rw [←hf,←HA.out];exact ⟨rfl,rfl⟩
end
section
open Go.RowKit
theorem Below.drewN' {B:Nat}{a w:World}(h:Below B a w) (n:Nat):Below B a (w.drewN n):=⟨h.os,h.tape,h.output,h.size,h.block⟩
end
section
open Go.RowKit
structure Arg (w:World) (a:Option Addr) (n c:Nat) (xs:List Nat):Prop where
 len:n=xs.length
 cap:n≤c
 big:n≤35184372088832
 wf:Wf xs
 rd:Rd w.heap.size w a xs
 nil:a=none→c=0
theorem Arg.below {w w':World}{a:Option Addr}{n c:Nat}{xs:List Nat}(h:Arg w a n c xs) (hb:Below w.heap.size w w'):Arg w' a n c xs :=
 ⟨h.len,h.cap,h.big,h.wf,(h.rd.below hb).mono hb.size,h.nil⟩
theorem Nt.arg {lo:Nat}{w:World}{v:Value}{X:Nat}(h:Nt lo w v X) (hs:(ws X).length≤35184372088832):∃ a c,v=.slice a (ws X).length c∧Arg w a (ws X).length c (ws X):=by
 have h':=h;obtain ⟨a,c,rfl,h1,h2,h3⟩:=h.shape;refine ⟨a,c,rfl,rfl,h1,hs,wf_ws X,h3,fun e=>?_⟩
 rcases h'.2 with ⟨e1,_⟩|⟨g,cap,cur,e1,_⟩
 · simp only [Value.slice.injEq] at e1;exact e1.2.2
 · simp only [Value.slice.injEq] at e1;rw [e1.1] at e;cases e
theorem one_ok {lo:Nat}{w:World}{r:Ending}{a:Nat×Int}{V:Nat}(h:One lo w r a) (e:a=(V,0)):∃ v,r=.returned (.tuple #[v,.int .i64 0])∧Nt lo w v V:=by
 subst e;exact h
theorem Mul_arg {w:World}{a b:Option Addr}{n c m d:Nat}{xs ys:List Nat}{V:Nat}(h1:Arg w a n c xs) (h2:Arg w b m d ys) (e:mulS (val xs) (val ys)=(V,0)) :
 Calls Tryz.prog 37 #[.slice a n c,.slice b m d] w fun r w'=>∃ v,r=.returned (.tuple #[v,.int .i64 0])∧Nt w.heap.size w' v V∧Below w.heap.size w w' :=
 (Mul_any xs ys a b n c m d w.heap.size w h1.len h2.len h1.cap h2.cap (by have:=h1.big;omega) (by have:=h2.big;omega) h1.wf h2.wf h1.rd h2.rd (Nat.le_refl _)).mono
  fun r w' ⟨ho,hb⟩=>by obtain ⟨v,h3,h4⟩:=one_ok ho e;exact ⟨v,h3,h4,hb⟩
theorem Add_arg {w:World}{a b:Option Addr}{n c m d:Nat}{xs ys:List Nat}{V:Nat}(h1:Arg w a n c xs) (h2:Arg w b m d ys) (e:addS (val xs) (val ys)=(V,0)) :
 Calls Tryz.prog 66 #[.slice a n c,.slice b m d] w fun r w'=>∃ v,r=.returned (.tuple #[v,.int .i64 0])∧Nt w.heap.size w' v V∧Below w.heap.size w w' :=
 (Add_any xs ys a b n c m d w.heap.size w h1.len h2.len h1.cap h2.cap (by have:=h1.big;omega) (by have:=h2.big;omega) h1.wf h2.wf h1.rd h2.rd (Nat.le_refl _)).mono
  fun r w' ⟨ho,hb⟩=>by obtain ⟨v,h3,h4⟩:=one_ok ho e;exact ⟨v,h3,h4,hb⟩
theorem Sub_arg {w:World}{a b:Option Addr}{n c m d:Nat}{xs ys:List Nat}{V:Nat}(h1:Arg w a n c xs) (h2:Arg w b m d ys) (e:subS (val xs) (val ys)=(V,0)) :
 Calls Tryz.prog 68 #[.slice a n c,.slice b m d] w fun r w'=>∃ v,r=.returned (.tuple #[v,.int .i64 0])∧Nt w.heap.size w' v V∧Below w.heap.size w w' :=
 (Sub_any xs ys a b n c m d w.heap.size w h1.len h2.len h1.cap h2.cap (by have:=h1.big;omega) (by have:=h2.big;omega) h1.wf h2.wf h1.rd h2.rd (Nat.le_refl _)).mono
  fun r w' ⟨ho,hb⟩=>by obtain ⟨v,h3,h4⟩:=one_ok ho e;exact ⟨v,h3,h4,hb⟩
theorem Shift_arg {w:World}{a:Option Addr}{n c:Nat}{xs:List Nat}{V:Nat}(by':Int) (h1:Arg w a n c xs) (e:shiftS (val xs) by'=(V,0)) (hb0:-9223372036854775808≤by') (hb1:by'≤9223372036854775807) :
 Calls Tryz.prog 39 #[.slice a n c,.int .i64 by'] w fun r w'=>∃ v,r=.returned (.tuple #[v,.int .i64 0])∧Nt w.heap.size w' v V∧Below w.heap.size w w' :=
 (Shift_any xs a n c w.heap.size by' w h1.len h1.cap (by have:=h1.big;omega) h1.wf h1.rd (Nat.le_refl _) hb0 hb1).mono
  fun r w' ⟨ho,hb⟩=>by obtain ⟨v,h3,h4⟩:=one_ok ho e;exact ⟨v,h3,h4,hb⟩
theorem Cmp_arg {w:World}{a b:Option Addr}{n c m d:Nat}{xs ys:List Nat}(h1:Arg w a n c xs) (h2:Arg w b m d ys) (z:Int) (e:cmpI (val xs) (val ys)=z) :
 Calls Tryz.prog 67 #[.slice a n c,.slice b m d] w fun r w'=>r=.returned (.int .i64 z)∧Below w.heap.size w w':=by
 have:=cmp_any xs ys a b n c m d w.heap.size w h1.len h2.len h1.cap h2.cap (by have:=h1.big;omega) (by have:=h2.big;omega) h1.wf h2.wf h1.rd h2.rd
 rw [e] at this;exact this
theorem addS_ok {X Y V:Nat}(h3:¬ LG V) (e:X+Y=V):addS X Y=(V,0):=by subst e;unfold addS;rw [if_neg h3]
theorem subS_ok {X Y V:Nat}(h1:¬ LG X) (h2:¬ LG Y) (e:V+Y=X):subS X Y=(V,0):=by unfold subS;rw [if_neg (by simp [h1,h2]),if_neg (by omega)];congr 1;omega
end
section
open Go.RowKit
theorem below_alloc (w:World) (o:Obj):Below w.heap.size w (w.alloc o):=(Below.refl _ _).alloc (Nat.le_refl _) _
theorem bl_pw (N n:Nat) (h:N<pw n):bl N≤32*n:=by
 by_cases h0:N=0
 · rw [h0,bl_zero];omega
 · have h1:=bl_ge N h0
   rcases Nat.lt_or_ge (32*n) (bl N) with h2|h2
   · exfalso
     have h3:2^(32*n)≤2^(bl N-1):=Nat.pow_le_pow_right (by omega) (by omega)
     have h4:pw n=2^(32*n):=by unfold pw;rw [Nat.pow_mul]
     omega
   · exact h2
end
section
open Go.RowKit
theorem Nt.but {lo g:Nat}{w w':World}{v:Value}{X:Nat}(h:Nt lo w v X) (hb:But g w w') (hg:g<lo):Nt lo w' v X:=by
 have h1:Rw lo w v (ws X).length ((ws X).map U):=h
 exact row_other h1 fun b hb2=>by
  obtain ⟨h2,h3⟩:=h.lt b hb2;exact hb.block b h3 (by omega)
end
section
open Go.RowKit
theorem cmpI_ge {x y:Nat}(h:y≤x):0≤cmpI x y:=by unfold cmpI;split <;> (try split) <;> omega
end
section
open Go.RowKit
theorem lo_form (X:Nat) (h:X≠0):∃ m,X=2^lo X*(2*m+1):=by
 have key:∀ Y:Nat,Y≠0→∃ i m,Y=2^i*(2*m+1):=by
  intro Y
  induction Y using Nat.strongRecOn with
  | ind Y ih =>
    intro hY
    rcases Nat.mod_two_eq_zero_or_one Y with h0|h1
    · obtain ⟨i,m,e⟩:=ih (Y/2) (by omega) (by omega)
      refine ⟨i+1,m,?_⟩;rw [Nat.pow_succ,Nat.mul_comm (2^i) 2,Nat.mul_assoc,←e];omega
    · exact ⟨0,Y/2,by omega⟩
 obtain ⟨i,m,e⟩:=key X h;refine ⟨m,?_⟩;rw [e,lo_eq]
end
section
open Go.RowKit
theorem Arg.drew' {w:World}{a:Option Addr}{n c:Nat}{xs:List Nat}(h:Arg w a n c xs):Arg w.drew a n c xs:=⟨h.len,h.cap,h.big,h.wf,h.rd,h.nil⟩
end
section
open Go.RowKit
def mkS (neg:Bool) (X:Nat) (e:Int):Option (Bool×Nat×Int) :=
 if X=0 then some (false,0,0)
 else if 262144<bl X-lo X∨1048576-(lo X:Int)<e∨e < -1048576-(lo X:Int) then none
 else some (neg,X/2^lo X,e+lo X)
def dN (o:Option (Bool×Nat×Int)):Bool:=(o.getD (false,0,0)).1
def dX (o:Option (Bool×Nat×Int)):Nat:=(o.getD (false,0,0)).2.1
def dE (o:Option (Bool×Nat×Int)):Int:=(o.getD (false,0,0)).2.2
def erS (o:Option (Bool×Nat×Int)):Int:=if o.isSome then 0 else 2
theorem bl_gt (X m:Nat):m<bl X↔2^m≤X:=by
 constructor
 · intro h
   have h0:X≠0:=by rintro rfl;rw [bl_zero] at h;omega
   exact Nat.le_trans (Nat.pow_le_pow_right (by omega) (by omega:m≤bl X-1)) (bl_ge X h0)
 · intro h
   exact (Nat.pow_lt_pow_iff_right (by omega)).1 (Nat.lt_of_le_of_lt h (bl_lt X))
theorem len_bl (X k m:Nat) (hm:m=32*k):k<(ws X).length↔m<bl X:=by
 rw [bl_gt,hm,Nat.pow_mul];have h:=ws_len_le X k;unfold pw at h;rw [show (2:Nat)^32=4294967296 from rfl]
 generalize 4294967296^k=P at h ⊢;omega
theorem LG_bl (X:Nat):LG X↔262144<bl X:=len_bl X 8192 262144 rfl
theorem bl_mul_pow (k Y:Nat) (h:Y≠0):bl (2^k*Y)=k+bl Y:=by
 have h1:=bl_lt Y;have h2:=bl_ge Y h;have h3:=bl_pos Y h;have e:k+bl Y=(k+(bl Y-1))+1:=by omega
 rw [e]
 apply bl_eq
 · rw [Nat.pow_add];exact Nat.mul_le_mul_left _ h2
 · rw [show k+(bl Y-1)+1=k+bl Y by omega,Nat.pow_add]
   exact Nat.mul_lt_mul_of_pos_left h1 (Nat.two_pow_pos k)
theorem odd_part (X:Nat) (h:X≠0):∃ m,X=2^lo X*(2*m+1)∧X/2^lo X=2*m+1∧bl X=lo X+bl (X/2^lo X):=by
 obtain ⟨m,hm⟩:=lo_form X h
 have e:X/2^lo X=2*m+1:=by
  obtain ⟨k,hk⟩:∃ k,lo X=k:=⟨_,rfl⟩;rw [hk] at hm ⊢;rw [hm,Nat.mul_div_cancel_left _ (Nat.two_pow_pos k)]
 refine ⟨m,hm,e,?_⟩;rw [e];obtain ⟨k,hk⟩:∃ k,lo X=k:=⟨_,rfl⟩;rw [hk] at hm ⊢;rw [hm];exact bl_mul_pow k _ (by omega)
theorem lo_double (X:Nat) (h:X≠0):lo (2*X)=lo X+1:=by
 obtain ⟨m,hm⟩:=lo_form X h;obtain ⟨k,hk⟩:∃ k,lo X=k:=⟨_,rfl⟩;rw [hk] at hm ⊢;have e:2*X=2^(k+1)*(2*m+1):=by rw [hm,Nat.pow_succ];grind
 rw [e];exact lo_eq (k+1) m
theorem bl_double (X:Nat) (h:X≠0):bl (2*X)=bl X+1:=by
 have:=bl_mul_pow 1 X h;rw [Nat.pow_one] at this;omega
theorem mkS_double (n:Bool) (X:Nat) (e:Int):mkS n (2*X) e=mkS n X (e+1):=by
 unfold mkS
 by_cases h:X=0
 · subst h;simp
 · rw [if_neg (by omega),if_neg h,lo_double X h,bl_double X h]
   have e1:2*X/2^(lo X+1)=X/2^lo X:=by
    rw [Nat.pow_succ,Nat.mul_comm (2^lo X) 2,Nat.mul_div_mul_left _ _ (by omega)]
   rw [e1];have e2:(262144<bl X+1-(lo X+1)∨1048576-((lo X+1:Nat):Int)<e∨e < -1048576-((lo X+1:Nat):Int))↔(262144<bl X-lo X∨1048576-(lo X:Int)<e+1∨e+1 < -1048576-(lo X:Int)):=by omega
   by_cases h2:262144<bl X-lo X∨1048576-(lo X:Int)<e+1∨e+1 < -1048576-(lo X:Int)
   · rw [if_pos h2,if_pos (e2.2 h2)]
   · rw [if_neg h2,if_neg (fun h3=>h2 (e2.1 h3))]
     congr 3
     omega
theorem mkS_zero (n:Bool) (e:Int):mkS n 0 e=some (false,0,0):=by unfold mkS;rw [if_pos rfl]
theorem lo_odd' (X:Nat) (h:X%2=1):lo X=0:=by
 have:=lo_odd (X/2);rw [show 2*(X/2)+1=X by omega] at this
 exact this
theorem mkS_odd (n:Bool) (X:Nat) (e:Int) (h:X%2=1):mkS n X e=if 262144<bl X∨1048576<e∨e < -1048576 then none else some (n,X,e):=by
 have h0:X≠0:=by omega
 unfold mkS;rw [if_neg h0,lo_odd' X h];simp only [Nat.sub_zero,Nat.pow_zero,Nat.div_one]
 by_cases h2:262144<bl X∨1048576<e∨e < -1048576
 · rw [if_pos h2,if_pos (by omega)]
 · rw [if_neg h2,if_neg (by omega)]
   congr 3
   omega
structure Frm (n:Bool) (X:Nat) (e:Int):Prop where
 odd:X%2=1∨(X=0∧n=false∧e=0)
 size:bl X≤262144
 up:e≤1048576
 down:-1048576≤e
theorem mkS_frm {n n':Bool}{X Y:Nat}{e f:Int}(h:mkS n X e=some (n',Y,f)):Frm n' Y f:=by
 unfold mkS at h
 split at h
 · cases h
   exact ⟨.inr ⟨rfl,rfl,rfl⟩,by rw [bl_zero];omega,by omega,by omega⟩
 · next h0 =>
   split at h
   · cases h
   · next h1 =>
     obtain ⟨m,hm,e1,hb⟩:=odd_part X h0
     cases h
     refine ⟨.inl (by rw [e1];omega),by omega,by omega,by omega⟩
theorem Frm.self {n:Bool}{X:Nat}{e:Int}(h:Frm n X e):mkS n X e=some (n,X,e):=by
 rcases h.odd with h1|⟨rfl,rfl,rfl⟩
 · rw [mkS_odd n X e h1,if_neg]
   have:=h.size;have:=h.up;have:=h.down;omega
 · exact mkS_zero _ _
theorem frm_len {n:Bool}{X:Nat}{e:Int}(h:Frm n X e):(ws X).length≤8192:=by
 have h1:=LG_bl X;have h2:=h.size;unfold LG at h1;omega
theorem mkS_len (n:Bool) (X:Nat) (e:Int):(ws (dX (mkS n X e))).length≤8192:=by
 unfold dX
 cases h:mkS n X e with
 | none=>simp [ws_zero]
 | some d =>
   obtain ⟨n',Y,f⟩:=d;exact frm_len (mkS_frm h)
end
section
open Go.RowKit
theorem word_in (xs:List Nat) (ao:Option Addr) (n cap B i:Nat) (w:World) (hn:n=xs.length) (hm:n≤70368744177664) (hx:Wf xs) (hR:Rd B w ao xs) (hi:i<n) :
 Calls Tryz.prog 105 #[.slice ao n cap,.int .i64 (i:Nat)] w fun r w'=>r=.returned (.int .u32 ((xs.getD i 0:Nat):Int))∧w'=w:=by
 obtain ⟨b,off,hb,rfl,hc⟩:=hR (by intro e;subst e;simp at hn;omega)
 have hcell:=hc i (by omega)
 obtain ⟨x,hx2⟩:∃ x,xs.getD i 0=x:=⟨_,rfl⟩;rw [hx2] at hcell ⊢;have hi1:decide (n≤i)=false:=decide_eq_false (by omega)
 clear hc hx hn hx2;go_enter Tryz.func105,Tryz.ntmps105;go_wp2;go_ret;exact ⟨rfl,rfl⟩
theorem word_out (xs:List Nat) (ao:Option Addr) (n cap:Nat) (i:Int) (w:World) (hn:n=xs.length) (hm:n≤70368744177664) (hi:i<0∨(n:Int)≤i) :
 Calls Tryz.prog 105 #[.slice ao n cap,.int .i64 i] w fun r w'=>r=.returned (.int .u32 0)∧w'=w:=by
 clear hn
 rcases hi with h|h
 · go_enter Tryz.func105,Tryz.ntmps105
   go_wp2;go_ret;exact ⟨rfl,rfl⟩
 · have h0:decide (i<0)=false:=decide_eq_false (by omega)
   go_enter Tryz.func105,Tryz.ntmps105;go_wp2;go_ret;exact ⟨rfl,rfl⟩
def wd (xs:List Nat) (i:Int):Nat:=if i<0 then 0 else xs.getD i.toNat 0
theorem wd_lt (xs:List Nat) (hx:Wf xs) (i:Int):wd xs i<4294967296:=by
 unfold wd;split
 · omega
 · exact hx.get _
theorem word_any (xs:List Nat) (ao:Option Addr) (n cap B:Nat) (i:Int) (w:World) (hn:n=xs.length) (hm:n≤70368744177664) (hx:Wf xs) (hR:Rd B w ao xs) :
 Calls Tryz.prog 105 #[.slice ao n cap,.int .i64 i] w fun r w'=>r=.returned (.int .u32 ((wd xs i:Nat):Int))∧w'=w:=by
 by_cases h:i<0
 · unfold wd;rw [if_pos h];exact word_out xs ao n cap i w hn hm (.inl h)
 · obtain ⟨k,rfl⟩:∃ k:Nat,i=(k:Int):=⟨i.toNat,by omega⟩
   unfold wd;rw [if_neg h,Int.toNat_natCast]
   by_cases hk:k<n
   · exact word_in xs ao n cap B k w hn hm hx hR hk
   · rw [List.getD_eq_getElem?_getD,List.getElem?_eq_none (by omega)]
     exact word_out xs ao n cap k w hn hm (.inr (by omega))
def win (X:Nat) (i:Int):Nat:=if i<0 then X*2^(-i).toNat%4294967296 else X/2^i.toNat%4294967296
theorem val_mod (xs:List Nat):val xs%4294967296=xs.getD 0 0%4294967296:=by
 cases xs with
 | nil=>simp [val]
 | cons x xs=>simp [val]
theorem val_word (xs:List Nat) (hx:Wf xs) (q:Nat):∃ R,val xs/pw q=xs.getD q 0+4294967296*(xs.getD (q+1) 0+4294967296*R):=by
 by_cases h:q<xs.length
 · have h1:val xs/pw q=val (xs.drop q):=by
    have h5:=val_take_drop xs q (by omega)
    have h6:=val_lt (xs.take q) (hx.take q);rw [List.length_take,Nat.min_eq_left (by omega)] at h6
    rw [h5,Nat.add_mul_div_left _ _ (pw_pos q),Nat.div_eq_of_lt h6,Nat.zero_add]
   obtain ⟨R,hR⟩:∃ R,val (xs.drop (q+1))=xs.getD (q+1) 0+4294967296*R:=by
    by_cases h:q+1<xs.length
    · exact ⟨_,val_drop_succ xs (q+1) h⟩
    · refine ⟨0,?_⟩
      rw [List.drop_of_length_le (by omega),List.getD_eq_getElem?_getD,List.getElem?_eq_none (by omega)]
      rfl
   exact ⟨R,by rw [h1,val_drop_succ xs q h,hR]⟩
 · refine ⟨0,?_⟩
   have h1:=val_lt xs hx;have h2:=pw_mono (show xs.length≤q by omega)
   rw [Nat.div_eq_of_lt (by omega),List.getD_eq_getElem?_getD,List.getElem?_eq_none (by omega),List.getD_eq_getElem?_getD,List.getElem?_eq_none (by omega)]
   rfl
theorem win_pos (xs:List Nat) (hx:Wf xs) (q r:Nat) (hr:r<32):(xs.getD (q+1) 0*4294967296+xs.getD q 0)/2^r%4294967296=val xs/2^(32*q+r)%4294967296:=by
 rw [pw_two,←Nat.div_div_eq_div_mul];obtain ⟨R,hR⟩:=val_word xs hx q;rw [hR]
 have e:xs.getD q 0+4294967296*(xs.getD (q+1) 0+4294967296*R)=(xs.getD (q+1) 0*4294967296+xs.getD q 0)+2^r*(4294967296*(2^(32-r)*R)):=by
  have h1:=two_pow_rest r hr;have:2^r*(4294967296*(2^(32-r)*R))=4294967296*(4294967296*R):=by rw [←h1];grind
  rw [this];omega
 rw [e,Nat.add_mul_div_left _ _ (Nat.two_pow_pos _),Nat.add_mul_mod_self_left]
end
section
open Go.RowKit
theorem shl_mod (V k:Nat):V*2^k%4294967296=V%4294967296*2^k%4294967296:=by
 simp [Nat.mul_mod]
theorem win_eq (xs:List Nat) (hx:Wf xs) (i at':Int) (rest:Nat) (h1:at'=i/32) (h2:(rest:Int)=i%32) :
 (wd xs (at'+1)*4294967296+wd xs at')/2^rest%4294967296=win (val xs) i:=by
 have hr:rest<32:=by omega
 by_cases h:i<0
 · unfold win
   rw [if_pos h]
   by_cases h3:at'=-1
   · subst h3
     have e1:wd xs (-1)=0:=by unfold wd;rw [if_pos (by omega)]
     have e2:wd xs (-1+1)=xs.getD 0 0:=by unfold wd;rw [if_neg (by omega)];rfl
     rw [e1,e2,Nat.add_zero];obtain ⟨k,hk⟩:∃ k,(-i).toNat=k:=⟨_,rfl⟩;have e3:k=32-rest:=by omega
     rw [hk,shl_mod,val_mod,←shl_mod,←two_pow_rest rest hr,e3];rw [show xs.getD 0 0*(2^rest*2^(32-rest))=2^rest*(xs.getD 0 0*2^(32-rest)) by grind,Nat.mul_div_cancel_left _ (Nat.two_pow_pos rest)]
   · have e1:wd xs at'=0:=by unfold wd;rw [if_pos (by omega)]
     have e2:wd xs (at'+1)=0:=by unfold wd;rw [if_pos (by omega)]
     rw [e1,e2];obtain ⟨k,hk⟩:∃ k,(-i).toNat=k+32:=⟨(-i).toNat-32,by omega⟩
     rw [hk,Nat.pow_add,show (2:Nat)^32=4294967296 from rfl,←Nat.mul_assoc,Nat.mul_mod_left]
     simp
 · obtain ⟨n,rfl⟩:∃ n:Nat,i=(n:Int):=⟨i.toNat,by omega⟩
   obtain ⟨q,rfl⟩:∃ q:Nat,at'=(q:Int):=⟨at'.toNat,by omega⟩
   have e1:wd xs ((q:Int)+1)=xs.getD (q+1) 0:=by unfold wd;rw [if_neg (by omega)];rfl
   have e2:wd xs (q:Int)=xs.getD q 0:=by unfold wd;rw [if_neg (by omega)];rfl
   unfold win;rw [if_neg h,e1,e2,Int.toNat_natCast,win_pos xs hx q rest hr];rw [show 32*q+rest=n by omega]
theorem and31 (i:Int) (h0:-9223372036854775808≤i) (h1:i≤9223372036854775807):bits BinOp.and IntKind.i64 i 31=i%32:=by
 unfold bits;simp [IntKind.bits,IntKind.signed,IntKind.wrap]
 have e:(BitVec.ofInt 64 i &&& 31#64).toNat=(i%18446744073709551616).toNat%32:=by
  rw [BitVec.toNat_and,BitVec.toNat_ofInt];exact Nat.and_two_pow_sub_one_eq_mod _ 5
 show (if 9223372036854775808≤(((BitVec.ofInt 64 i &&& 31#64:BitVec 64).toNat:Nat):Int)%18446744073709551616 then (((BitVec.ofInt 64 i &&& 31#64:BitVec 64).toNat:Nat):Int)%18446744073709551616-18446744073709551616 else (((BitVec.ofInt 64 i &&& 31#64:BitVec 64).toNat:Nat):Int)%18446744073709551616)=i%32
 rw [e];generalize hz:(i%18446744073709551616).toNat=z;have hz2:(z:Int)=i%18446744073709551616:=by omega
 split <;> omega
theorem window_any (xs:List Nat) (ao:Option Addr) (n cap B:Nat) (i:Int) (w:World) (hn:n=xs.length) (hm:n≤70368744177664) (hx:Wf xs) (hR:Rd B w ao xs) (h0:-9223372036854775808≤i) (h1:i≤9223372036854775807) :
 Calls Tryz.prog 84 #[.slice ao n cap,.int .i64 i] w fun r w'=>r=.returned (.int .u32 ((win (val xs) i:Nat):Int))∧w'=w:=by
 obtain ⟨at',hat⟩:∃ a,a=i/32:=⟨_,rfl⟩;obtain ⟨rest,hrest⟩:∃ r:Nat,(r:Int)=i%32:=⟨(i%32).toNat,by omega⟩
 have hw:=win_eq xs hx i at' rest hat hrest;have W1:=hid (word_any xs ao n cap B (at'+1) w hn hm hx hR);have W2:=hid (word_any xs ao n cap B at' w hn hm hx hR);have l1:=wd_lt xs hx (at'+1);have l2:=wd_lt xs hx at';generalize wd xs (at'+1)=a at *;generalize wd xs at'=b at *;generalize win (val xs) i=v at *;have e1:i/32=at':=hat.symm;have e2:bits BinOp.and IntKind.i64 i 31=(rest:Int):=by rw [and31 i h0 h1,hrest]
 have e3:=or64_join a b l1 l2;have hr:rest<32:=by omega
 have ha0:-288230376151711744≤at':=by omega
 have ha1:at'≤288230376151711744:=by omega
 obtain ⟨t,ht⟩:∃ t:Nat,a*4294967296+b=t:=⟨_,rfl⟩;rw [ht] at e3 hw;have e4:(t:Int)/2^rest%4294967296=(v:Int):=by rw [←hw];simp
 clear hat hrest hw hn hx hR ht;go_enter Tryz.func84,Tryz.ntmps84
 go_wp2_with fail
 refine W1.out.mono ?_;rintro r w1 ⟨rfl,rfl⟩
 go_wp2_with fail
 refine W2.out.mono ?_;rintro r w2 ⟨rfl,rfl⟩;go_wp2;go_ret;exact ⟨by simp [e4],rfl⟩
end
end Go.Proofs.YtopgffjnejaijaaGreatDoor
