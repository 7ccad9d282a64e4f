import Derived.Test.YthfkleadcnkglaaGreatDoorW13x
import Derived.Test.YthfkleadcnkglaaGreatDoorM1x
import Derived.Deep.RegionWith
import Derived.WalkLawsBesides
import Derived.WalkMore
import Derived.Deep.MidRow
set_option linter.unusedVariables false
set_option linter.unusedSimpArgs false
set_option maxHeartbeats 16000000
set_option maxRecDepth 20000
namespace Go.Proofs.YthfkleadcnkglaaGreatDoor
section
open Go.RowKit
theorem sub_any (xs bs:List Nat) (ao bo:Option Addr) (n cap m capb B:Nat) (w:World) (hn:n=xs.length) (hm:m=bs.length) (hmn:m≤n) (hc:n≤cap) (hcb:m≤capb) (hbig:n≤35184372088833)
 (hx:Wf xs) (hb:Wf bs) (hle:val bs≤val xs) (hR0:Rd B w ao xs) (hS:Rd B w bo bs) (hB:B≤w.heap.size) :
 Calls Tryz.prog 207 #[.slice ao n cap,.slice bo m capb] w fun r w'=>∃ v,r=.returned v∧Nt w.heap.size w' v (val xs-val bs)∧Below w.heap.size w w':=by
 obtain ⟨W1,hW1⟩:∃ W,W=w.alloc (.cells (madeCells #[.int .u32 0] n) 133):=⟨_,rfl⟩;have hO1:Own W1 w.heap.size (List.replicate n 0):=by rw [hW1];exact Own.made w n
 have hB1:Below w.heap.size w W1:=by rw [hW1];exact (Below.refl _ _).alloc (Nat.le_refl _) _
 obtain ⟨W2,hcp,hO2,hb2⟩:=copy_words W1 w.heap.size n n ao n cap B 3 (List.replicate n 0) xs hO1 (by simp) hn (hR0.below (hB1.mono hB)) (by omega)
 rw [List.drop_of_length_le (by simp),List.append_nil] at hO2
 have hB2:Below w.heap.size w W2:=But.below hB1 hb2 hB1.size (Nat.le_refl _);have hmk:=make_words (n:Int) n rfl (by omega) w
 rw [←hW1] at hmk;have hR:Rd B W2 bo bs:=hS.below (hB2.mono hB);obtain ⟨g,hg⟩:∃ g,g=w.heap.size:=⟨_,rfl⟩;rw [←hg] at hO2 hcp hmk hB2 hB;have HR:=(qsd (ai hR (ai hm (ai hb (ai hx (ai hn (ai hle (ai hB2 hg))))))));have HO:=hid hO2;have HA32:Hid (∀ x y c s d w,_→_→_→_→_→_):=sub32_nat;clear hn hm hx hb hR0 hS hO1 hB1 hO2 hb2 hB2 hW1 hle hR hg;go_enter Tryz.func207,Tryz.ntmps207;go_wp2
 go_loopg [6,18] m (fun gk c i wr=>∃ (k cv:Nat) (M:List Nat),gk+k=m∧c=.int .u32 (cv:Nat)∧cv≤1∧i=.int .i64 (k:Nat) ∧
  Hid (Own wr g M)∧Aside (Wf M∧Out xs M 0 k∧sg M 0 k+sg bs 0 k=sg xs 0 k+cv*pw k∧But g W2 wr))
 case atStart=>exact ⟨0,0,xs,by omega,rfl,by omega,rfl,HO,HR.out.2.2.2.1,Out.refl _ _ _,by simp [sg_zero],But.refl _ _⟩
 case round =>
  obtain ⟨k,cv,M,hgk,rfl,hcv,rfl,HM,HA⟩:=hrel
  by_cases hk:k<m
  · obtain ⟨hR,hm,hb,hx,hn,hle,hB2,hg⟩:=HR.out
    obtain ⟨hMw,hMo,hMs,hbut⟩:=HA.out;obtain ⟨b,boff,hbB,rfl,hbc⟩:=hR (by intro e;subst e;simp at hm;omega)
    have hbk:wr.cell? ⟨b,boff+k,none⟩=some (.int .u32 ((bs.getD k 0:Nat):Int)):=by
     have h1:=hbut.block b (World.block_lt_of_cell? W2 ⟨b,boff+k,none⟩ (hbc k (by omega))) (by omega)
     exact (World.cell?_of_block (a:=⟨b,boff+k,none⟩) h1).trans (hbc k (by omega))
    have hgc:=HM.out.cell k (by rw [hMo.1];omega)
    have hgf:=HM.out.frozen k;obtain ⟨x,hxx⟩:∃ x:Nat,M.getD k 0=x:=⟨_,rfl⟩;obtain ⟨y,hy⟩:∃ y:Nat,bs.getD k 0=y:=⟨_,rfl⟩;have hxl:x<4294967296:=hxx ▸ hMw.get _;have hyl:y<4294967296:=hy ▸ hb.get _;rw [hxx] at hgc;rw [hy] at hbk;obtain ⟨s,hs⟩:∃ s:Nat,(s:Int)=((x:Int)-y-cv)%4294967296:=⟨(((x:Int)-y-cv)%4294967296).toNat,by omega⟩
    obtain ⟨d,hd⟩:∃ d:Nat,d=if x<y+cv then 1 else 0:=⟨_,rfl⟩
    have HX:=(qsd (ai hxx (ai hy (ai hs hd))));clear hxx hy hs hd hR hm hb hx hn hle hB2 hg hMw hMo hMs hbut hbc
    go_wp2_with fail
    refine (HA32.out x y cv s d _ hxl hyl hcv HX.out.2.2.1 HX.out.2.2.2).mono ?_;rintro r w1 ⟨rfl,rfl⟩;go_wp2
    go_roundg (gk-1)
    case measure=>omega
    case rel =>
     obtain ⟨hxx,hy,hs,hd⟩:=HX.out;obtain ⟨hR,hm,hb,hx,hn,hle,hB2,hg⟩:=HR.out;obtain ⟨hMw,hMo,hMs,hbut⟩:=HA.out;have hd1:d≤1:=by rw [hd];split <;> omega
     have hsum:s+y+cv=x+d*4294967296:=by rw [hd];split <;> omega
     refine ⟨k+1,d,M.set k s,by omega,rfl,hd1,by go_num,HM.out.set _ _,hMw.set _ _ (by omega),(hMo.mono (by omega)).set _ _ (by omega) (by omega),?_,hbut.set _ _⟩
     have e1:=sg_set_last M 0 k s (by rw [hMo.1];omega)
     rw [Nat.zero_add] at e1;rw [e1,sg_succ xs 0 k (by omega),sg_succ bs 0 k (by omega),Nat.zero_add,hy,pw_succ]
     have e:xs.getD k 0=x:=by rw [←hxx];exact (hMo.2 _ (by omega)).symm
     rw [e];exact borrow_step _ _ _ _ _ _ _ _ _ hMs hsum
  · obtain rfl:k=m:=by omega
    have HA2:Aside (Wf M∧Out xs M 0 k∧sg M 0 k+val bs=sg xs 0 k+cv*pw k∧But g W2 wr):=by
     obtain ⟨hR,hm,hb,hx,hn,hle,hB2,hg⟩:=HR.out;obtain ⟨hMw,hMo,hMs,hbut⟩:=HA.out;refine ⟨hMw,hMo,?_,hbut⟩;rw [←hMs,hm,sg_all]
    clear HA hgk HO hk;go_wp2
    go_loopg [6,9] (n-k+1) (fun g2 c i w2=>∃ (j cv:Nat) (M:List Nat),g2+j=n+1∧k≤j∧j≤n∧c=.int .u32 (cv:Nat)∧cv≤1∧i=.int .i64 (j:Nat) ∧
     Hid (Own w2 g M)∧Aside (Wf M∧Out xs M 0 j∧sg M 0 j+val bs=sg xs 0 j+cv*pw j∧But g W2 w2))
    case atStart=>exact ⟨k,cv,M,by omega,Nat.le_refl _,hmn,rfl,hcv,rfl,HM,HA2.out⟩
    case round =>
     clear HM HA2 hcv;obtain ⟨j,cv,M,hgj,hkj,hjn,rfl,hcv,rfl,HM,HA⟩:=hrel
     by_cases h0:cv=0
     · subst h0
       obtain ⟨hR,hm,hb,hx,hn,hle,hB2,hg⟩:=HR.out;obtain ⟨hMw,hMo,hMs,hbut⟩:=HA.out;have hl:M.length=n:=by rw [hMo.1,hn]
       have T:=hid (trim_any M (some ⟨g,0,none⟩) n n (g+1) wr hl.symm (Nat.le_refl _) (by omega) (by simpa [hl,List.take_of_length_le] using Rd.ofOwn HM.out 0 n))
       clear hR hm hb hx hn hle hB2 hg hMw hMo hMs hbut
       go_wp2_with fail
       refine T.out.mono ?_;rintro r w1 ⟨rfl,rfl⟩;go_wp2;go_ret;obtain ⟨hR,hm,hb,hx,hn,hle,hB2,hg⟩:=HR.out;obtain ⟨hMw,hMo,hMs,hbut⟩:=HA.out;rw [Nat.zero_mul,Nat.add_zero] at hMs;have hv:=seg_rest2 (n:=n) hjn (by omega) hMo hMs
       have e1:sg M 0 n=val M:=by rw [←hl];exact sg_all M
       have e2:sg xs 0 n=val xs:=by rw [hn];exact sg_all xs
       rw [e1,e2] at hv;refine ⟨_,rfl,?_,?_⟩
       · have N:=Nt.ofOwn (lo:=g) HM.out (Nat.le_refl _) hMw (by rw [hl];unfold maxLen;omega)
         rw [show val xs-val bs=val M by omega,←hg]
         rw [hl] at N;exact N
       · rw [←hg]
         exact But.below hB2 hbut (by have:=hB2.size;omega) (Nat.le_refl _)
     · obtain rfl:cv=1:=by omega
       obtain ⟨hR,hm,hb,hx,hn,hle,hB2,hg⟩:=HR.out;obtain ⟨hMw,hMo,hMs,hbut⟩:=HA.out
       have hj:j<n:=by
        by_cases hj:j=n
        · exfalso
          subst hj;have h1:=sg_lt M 0 j hMw (by rw [hMo.1];omega)
          have e2:sg xs 0 j=val xs:=by rw [hn];exact sg_all xs
          omega
        · omega
       have hgc:=HM.out.cell j (by rw [hMo.1];omega)
       have hgf:=HM.out.frozen j;obtain ⟨x,hxx⟩:∃ x:Nat,M.getD j 0=x:=⟨_,rfl⟩;have hxl:x<4294967296:=hxx ▸ hMw.get _;rw [hxx] at hgc;obtain ⟨s,hs⟩:∃ s:Nat,(s:Int)=((x:Int)-(0:Nat)-(1:Nat))%4294967296:=⟨(((x:Int)-(0:Nat)-(1:Nat))%4294967296).toNat,by omega⟩
       obtain ⟨d,hd⟩:∃ d:Nat,d=if x<0+1 then 1 else 0:=⟨_,rfl⟩
       have HX:=(qsd (ai hxx (ai hs hd)));clear hxx hs hd hR hm hb hx hn hle hB2 hg hMw hMo hMs hbut h0
       go_wp2_with fail
       refine (HA32.out x 0 1 s d _ hxl (by omega) (by omega) HX.out.2.1 HX.out.2.2).mono ?_
       rintro r w1 ⟨rfl,rfl⟩;go_wp2
       go_roundg (gk-1)
       case measure=>omega
       case rel =>
        obtain ⟨hxx,hs,hd⟩:=HX.out;obtain ⟨hR,hm,hb,hx,hn,hle,hB2,hg⟩:=HR.out;obtain ⟨hMw,hMo,hMs,hbut⟩:=HA.out;have hd1:d≤1:=by rw [hd];split <;> omega
        have hsum:s+0+1=x+d*4294967296:=by rw [hd];split <;> omega
        refine ⟨j+1,d,M.set j s,by omega,by omega,by omega,rfl,hd1,by go_num,HM.out.set _ _,hMw.set _ _ (by omega),(hMo.mono (by omega)).set _ _ (by omega) (by omega),?_,hbut.set _ _⟩
        have e1:=sg_set_last M 0 j s (by rw [hMo.1];omega)
        rw [Nat.zero_add] at e1;rw [e1,sg_succ xs 0 j (by omega),Nat.zero_add,pw_succ]
        have e:xs.getD j 0=x:=by rw [←hxx];exact (hMo.2 _ (by omega)).symm
        rw [e];have:=borrow_step (pw j) _ _ _ _ x 0 s d hMs hsum;omega
end
section
open Go.RowKit
theorem addTimes_any (L bs:List Nat) (g off n cap:Nat) (ao:Option Addr) (m capb B q:Nat) (w:World)
 (hO:Own w g L) (hoff:off+n≤L.length) (hm:m=bs.length) (hmn:m≤n) (hcap:n≤cap) (hbig:n≤4611686018427387904) (hL:Wf L) (hb:Wf bs) (hR:Rd B w ao bs) (hB:B≤g) (hq:q<4294967296) :
 Calls Tryz.prog 211 #[.slice (some ⟨g,off,none⟩) n cap,.slice ao m capb,.int .u32 (q:Nat)] w fun r w' =>
  ∃ M c,r=.returned (.int .u32 (c:Nat))∧c<4294967296∧Own w' g M∧Wf M∧Out L M off m∧sg M off m+c*pw m=sg L off m+val bs*q∧But g w w':=by
 have HR:Aside (Rd B w ao bs∧m=bs.length∧Wf bs∧Wf L∧off+n≤L.length):=⟨hR,hm,hb,hL,hoff⟩;have HO:Hid (Own w g L):=hO;clear hR hm hb hL hO hoff;go_enter Tryz.func211,Tryz.ntmps211;go_wp2
 go_loopg [7,13] m (fun gk c i wr=>∃ (k cv:Nat) (M:List Nat),gk+k=m∧c=.int .u64 (cv:Nat)∧cv<4294967296∧i=.int .i64 (k:Nat) ∧
  Hid (Own wr g M)∧Aside (Wf M∧Out L M off k∧sg M off k+cv*pw k=sg L off k+sg bs 0 k*q∧But g w wr))
 case atStart=>exact ⟨0,0,L,by omega,rfl,by omega,rfl,HO,HR.out.2.2.2.1,Out.refl _ _ _,by simp [sg_zero],But.refl _ _⟩
 case round =>
  obtain ⟨k,cv,M,hgk,rfl,hcv,rfl,HM,HA⟩:=hrel
  by_cases hk:k<m
  · obtain ⟨hR,hm,hb,hL,hoff⟩:=HR.out
    obtain ⟨hMw,hMo,hMs,hbut⟩:=HA.out;obtain ⟨b,boff,hbB,rfl,hbc⟩:=hR (by intro e;subst e;simp at hm;omega)
    have hbk:wr.cell? ⟨b,boff+k,none⟩=some (.int .u32 ((bs.getD k 0:Nat):Int)):=by
     have h1:=hbut.block b (World.block_lt_of_cell? w ⟨b,boff+k,none⟩ (hbc k (by omega))) (by omega)
     exact (World.cell?_of_block (a:=⟨b,boff+k,none⟩) h1).trans (hbc k (by omega))
    have hgc:=HM.out.cell (off+k) (by rw [hMo.1];omega)
    have hgf:=HM.out.frozen (off+k);obtain ⟨x,hx⟩:∃ x:Nat,M.getD (off+k) 0=x:=⟨_,rfl⟩;obtain ⟨y,hy⟩:∃ y:Nat,bs.getD k 0=y:=⟨_,rfl⟩;have hxl:x<4294967296:=hx ▸ hMw.get _;have hyl:y<4294967296:=hy ▸ hb.get _;rw [hx] at hgc;rw [hy] at hbk;have hp0:=mul_bound y q hyl hq;have hp2:(y:Int)*(q:Int)≤18446744065119617025:=by rw [←Int.natCast_mul];omega
    have hp1:0≤(y:Int)*(q:Int):=by rw [←Int.natCast_mul];omega
    obtain ⟨s,hs⟩:∃ s:Nat,s=(y*q+x+cv)%4294967296:=⟨_,rfl⟩;obtain ⟨d,hd⟩:∃ d:Nat,d=(y*q+x+cv)/4294967296:=⟨_,rfl⟩;have e0:((y*q+x+cv:Nat):Int)=(y:Int)*q+x+cv:=by simp only [Int.natCast_add,Int.natCast_mul]
    have e1:((y:Int)*q+x+cv)%4294967296=(s:Int):=by rw [←e0];omega
    have e2:((y:Int)*q+x+cv)/4294967296=(d:Int):=by rw [←e0];omega
    have HX:Aside (M.getD (off+k) 0=x∧bs.getD k 0=y∧s+d*4294967296=y*q+x+cv∧s<4294967296∧d<4294967296):=⟨hx,hy,by omega,by omega,by omega⟩
    clear hx hy hs hd hR hm hb hL hoff hMw hMo hMs hbut hbc e0 hp0;go_wp2
    go_roundg (gk-1)
    case measure=>omega
    case rel =>
     obtain ⟨hx,hy,he,hs,hd⟩:=HX.out;obtain ⟨hR,hm,hb,hL,hoff⟩:=HR.out;obtain ⟨hMw,hMo,hMs,hbut⟩:=HA.out;refine ⟨k+1,d,M.set (off+k) s,by omega,rfl,hd,by go_num,HM.out.set _ _,hMw.set _ _ hs,(hMo.mono (by omega)).set _ _ (by omega) (by omega),?_,hbut.set _ _⟩
     rw [sg_set_last _ _ _ _ (by rw [hMo.1];omega),sg_succ L off k (by omega),sg_succ bs 0 k (by omega),Nat.zero_add,hy,pw_succ]
     have e:L.getD (off+k) 0=x:=by rw [←hx];exact (hMo.2 _ (by omega)).symm
     rw [e];exact times_step _ _ _ _ _ _ _ _ _ _ hMs he
  · obtain rfl:k=m:=by omega
    go_wp2;go_ret;obtain ⟨hR,hm,hb,hL,hoff⟩:=HR.out;obtain ⟨hMw,hMo,hMs,hbut⟩:=HA.out;refine ⟨M,cv,rfl,hcv,HM.out,hMw,hMo,?_,hbut⟩;rw [hMs,hm,sg_all]
end
section
open Go.RowKit
theorem mul_step (p V b x r q c:Nat) (h:V+p*r=b*q):V+p*(r+q*x)=(b+p*x)*q:=by grind
theorem mul_any (xs bs:List Nat) (ao bo:Option Addr) (n cap m capb B:Nat) (w:World) (hn:n=xs.length) (hm:m=bs.length) (hc:n≤cap) (hcb:m≤capb) (hbig:n+m≤70368744177664)
 (hx:Wf xs) (hb:Wf bs) (hR:Rd B w ao xs) (hS:Rd B w bo bs) (hB:B≤w.heap.size) :
 Calls Tryz.prog 189 #[.slice ao n cap,.slice bo m capb] w fun r w'=>∃ v,r=.returned v∧Nt w.heap.size w' v (val xs*val bs)∧Below w.heap.size w w':=by
 obtain ⟨W1,hW1⟩:∃ W,W=w.alloc (.cells (madeCells #[.int .u32 0] (n+m)) 133):=⟨_,rfl⟩;have hO1:Own W1 w.heap.size (List.replicate (n+m) 0):=by rw [hW1];exact Own.made w (n+m)
 have hB1:Below w.heap.size w W1:=by rw [hW1];exact (Below.refl _ _).alloc (Nat.le_refl _) _
 have hmk:=make_words ((n:Int)+m) (n+m) (by omega) (by omega) w
 rw [←hW1] at hmk;have hR1:Rd B W1 ao xs:=hR.below (hB1.mono hB);have hS1:Rd B W1 bo bs:=hS.below (hB1.mono hB);obtain ⟨g,hg⟩:∃ g,g=w.heap.size:=⟨_,rfl⟩;rw [←hg] at hO1 hmk hB1 hB;have HR:=(qsd (ai hR1 (ai hS1 (ai hm (ai hb (ai hx (ai hn (ai hB1 hg))))))));have HO:=hid hO1;clear hn hm hx hb hR hS hO1 hB1 hW1 hR1 hS1 hg;go_enter Tryz.func189,Tryz.ntmps189;go_wp2
 go_loopg [16] n (fun gk i wr=>∃ (k:Nat) (M:List Nat),gk+k=n∧i=.int .i64 (k:Nat) ∧
  Hid (Own wr g M)∧Aside (Wf M∧M.length=n+m∧sg M 0 (k+m)=sg xs 0 k*val bs∧But g W1 wr))
 case atStart=>exact ⟨0,_,by omega,rfl,HO,Wf.zeros _,by simp,by rw [sg_zeros,sg_zero];simp,But.refl _ _⟩
 case round =>
  obtain ⟨k,M,hgk,rfl,HM,HA⟩:=hrel
  by_cases hk:k<n
  · obtain ⟨hR,hS,hm,hb,hx,hn,hB1,hg⟩:=HR.out
    obtain ⟨hMw,hMl,hMs,hbut⟩:=HA.out;have hW1s:g≤W1.heap.size:=by have:=hB1.size;omega
    obtain ⟨b,boff,hbB,rfl,hbc⟩:=hR (by intro e;subst e;simp at hn;omega)
    have hbk:wr.cell? ⟨b,boff+k,none⟩=some (.int .u32 ((xs.getD k 0:Nat):Int)):=by
     have h1:=hbut.block b (World.block_lt_of_cell? W1 ⟨b,boff+k,none⟩ (hbc k (by omega))) (by omega)
     exact (World.cell?_of_block (a:=⟨b,boff+k,none⟩) h1).trans (hbc k (by omega))
    obtain ⟨y,hy⟩:∃ y:Nat,xs.getD k 0=y:=⟨_,rfl⟩;have hyl:y<4294967296:=hy ▸ hx.get _;rw [hy] at hbk;have H:=hid (addTimes_any M bs g k m (n+m-k) bo m capb B y wr HM.out (by omega) hm (Nat.le_refl _) (by omega) (by omega) hMw hb (hS.but hbut (by omega) hB) hB hyl)
    have HX:=(qsd (ai hy hn));clear hy hR hS hm hb hx hn hB1 hg hMw hMl hMs hbut hbc hW1s
    go_wp2_with fail
    refine H.out.mono ?_;rintro r W3 ⟨M2,c,rfl,hc1,hO3,hM2,hout,hsum,hbut2⟩;obtain ⟨hMw,hMl,hMs,hbut⟩:=HA.out;have hgc:=hO3.cell (k+m) (by rw [hout.1];omega)
    have hgf:=hO3.frozen (k+m);have HI:=(qsd (ai hc1 (ai hO3 (ai hM2 (ai hout (ai hsum hbut2))))));clear hc1 hO3 hM2 hout hsum hbut2 hMw hMl hMs hbut H;go_wp2
    go_roundg (gk-1)
    case measure=>omega
    case rel =>
     obtain ⟨hy,hn⟩:=HX.out;obtain ⟨hMw,hMl,hMs,hbut⟩:=HA.out;obtain ⟨hc1,hO3,hM2,hout,hsum,hbut2⟩:=HI.out;refine ⟨k+1,M2.set (k+m) c,by omega,by go_num,hO3.set _ _,hM2.set _ _ hc1,by simp [hout.1,hMl],?_,(hbut.trans hbut2).set _ _⟩
     have e1:=sg_set_last M2 0 (k+m) c (by rw [hout.1];omega)
     rw [Nat.zero_add] at e1;have e2:=sg_add M2 0 k m (by rw [hout.1];omega)
     have e3:=sg_add M 0 k m (by omega)
     rw [Nat.zero_add] at e2 e3;have e4:=hout.below 0 k (by omega) (by omega)
     rw [show k+1+m=k+m+1 by omega,e1,e2,e4,sg_succ xs 0 k (by omega),Nat.zero_add,hy,pw_add]
     rw [e3] at hMs;rw [Nat.mul_comm c] at hsum;have:=mul_step (pw k) _ _ y _ _ c hMs;rw [←hsum] at this;rw [←this,Nat.mul_add,Nat.mul_assoc,Nat.add_assoc]
  · obtain rfl:k=n:=by omega
    obtain ⟨hMw,hMl,hMs,hbut⟩:=HA.out;have T:=hid (trim_any M (some ⟨g,0,none⟩) (k+m) (k+m) (g+1) wr hMl.symm (Nat.le_refl _) (by omega) (by simpa [hMl,List.take_of_length_le] using Rd.ofOwn HM.out 0 (k+m)))
    clear hMw hMl hMs hbut
    go_wp2_with fail
    refine T.out.mono ?_;rintro r w1 ⟨rfl,rfl⟩;go_wp2;go_ret;obtain ⟨hR,hS,hm,hb,hx,hn,hB1,hg⟩:=HR.out;obtain ⟨hMw,hMl,hMs,hbut⟩:=HA.out;have e1:sg M 0 (k+m)=val M:=by rw [←hMl];exact sg_all M
    have e2:sg xs 0 k=val xs:=by rw [hn];exact sg_all xs
    rw [e1,e2] at hMs;refine ⟨_,rfl,?_,?_⟩
    · have N:=Nt.ofOwn (lo:=g) HM.out (Nat.le_refl _) hMw (by rw [hMl];unfold maxLen;omega)
      rw [←hMs,←hg];rw [hMl] at N;exact N
    · rw [←hg]
      exact But.below hB1 hbut (by have:=hB1.size;omega) (Nat.le_refl _)
end
section
open Go.RowKit
theorem cmp_words (xs ys:List Nat) (hx:Wf xs) (hy:Wf ys) (j d:Nat) (h1:j+1+d≤xs.length) (h2:j+1+d≤ys.length) (ht:sg xs (j+1) d=sg ys (j+1) d) (hlt:xs.getD j 0<ys.getD j 0) :
 sg xs 0 (j+1+d)<sg ys 0 (j+1+d):=by
 rw [sg_add xs 0 (j+1) d (by omega),sg_add ys 0 (j+1) d (by omega),Nat.zero_add,ht,sg_succ xs 0 j (by omega),sg_succ ys 0 j (by omega),Nat.zero_add]
 have h3:=sg_lt xs 0 j hx (by omega)
 have h4:pw j*(xs.getD j 0+1)≤pw j*ys.getD j 0:=Nat.mul_le_mul_left _ hlt;rw [Nat.mul_add] at h4;omega
theorem cmp_len (xs ys:List Nat) (hx:Wf xs) (hy:Wf ys) (h:nl xs<nl ys):val xs<val ys:=by
 rw [nl_eq_length xs hx,nl_eq_length ys hy] at h;have h1:=ws_len_lt (val xs);have h2:val ys≠0:=by intro e;rw [e,ws_zero] at h;simp at h
 have h3:=ws_len_ge (val ys) h2;have h4:=pw_mono (show (ws (val xs)).length≤(ws (val ys)).length-1 by omega)
 omega
theorem cmpI_lt {x y:Nat}(h:x<y):cmpI x y=-1:=by simp [cmpI,h]
theorem cmpI_gt {x y:Nat}(h:y<x):cmpI x y=1:=by simp [cmpI,h];omega
theorem cmpI_eq {x y:Nat}(h:x=y):cmpI x y=0:=by simp [cmpI,h]
theorem cmpI_congr {a b x y:Nat}(h1:a<b↔x<y) (h2:b<a↔y<x):cmpI a b=cmpI x y:=by simp [cmpI,h1,h2]
theorem cmp_any (xs ys:List Nat) (ao bo:Option Addr) (n cap m capb B:Nat) (w:World) (hn:n=xs.length) (hm:m=ys.length) (hc:n≤cap) (hcb:m≤capb) (hbig:n≤70368744177664) (hbig2:m≤70368744177664)
 (hx:Wf xs) (hy:Wf ys) (hR:Rd B w ao xs) (hS:Rd B w bo ys) :
 Calls Tryz.prog 195 #[.slice ao n cap,.slice bo m capb] w fun r w'=>r=.returned (.int .i64 (cmpI (val xs) (val ys)))∧Below w.heap.size w w':=by
 have H1:=hid (trim_any xs ao n cap B w hn hc (by omega) hR)
 have H2:=hid (trim_any ys bo m capb B w hm hcb (by omega) hS)
 have hl1:=nl_le xs;have hl2:=nl_le ys;have f1:=val_form xs hx;have f2:=val_form ys hy;rw [←sg_val_take] at f1 f2
 by_cases he:nl xs=nl ys
 · obtain ⟨k0,hk0⟩:∃ k,nl ys=k:=⟨_,rfl⟩
   rw [he] at H1 hl1 f1;rw [hk0] at H1 H2 hl1 hl2 f1 f2;have HR:=(qsd (ai hR (ai hS (ai hn (ai hm (ai hx (ai hy (ai hl1 (ai hl2 (ai f1 f2))))))))));have HC:Hid (∀ x y w,_):=compare_u;have hkn:k0≤n:=by omega
   have hkm:k0≤m:=by omega
   clear hR hS hn hm hx hy hl1 hl2 f1 f2 he hk0;go_enter Tryz.func195,Tryz.ntmps195
   go_wp2_with fail
   refine H1.out.mono ?_;rintro r w1 ⟨rfl,rfl⟩
   go_wp2_with fail
   refine H2.out.mono ?_;rintro r w1 ⟨rfl,rfl⟩;go_wp2
   go_loopg [5] k0 (fun k i wr=>k≤k0∧i=.int .i64 ((k:Int)-1)∧Hid (Below w1.heap.size w1 wr)∧Aside (sg xs k (k0-k)=sg ys k (k0-k)))
   case atStart=>exact ⟨Nat.le_refl _,rfl,Below.refl _ _,by rw [Nat.sub_self,sg_zero,sg_zero];exact rfl⟩
   case round =>
    obtain ⟨hk,rfl,HB,HA⟩:=hrel
    by_cases hk0:gk=0
    · subst hk0
      go_wp2;go_ret;obtain ⟨hR,hS,hn,hm,hx,hy,hl1,hl2,f1,f2⟩:=HR.out;have h:=HA.out;rw [Nat.sub_zero,f1,f2] at h;rw [cmpI_eq h];exact ⟨rfl,HB.out⟩
    · obtain ⟨k,rfl⟩:∃ k,gk=k+1:=⟨gk-1,by omega⟩
      obtain ⟨hR,hS,hn,hm,hx,hy,hl1,hl2,f1,f2⟩:=HR.out;obtain ⟨b,off,hB1,rfl,hc1⟩:=hR (by intro e;subst e;simp at hl1;omega)
      obtain ⟨b2,off2,hB2,rfl,hc2⟩:=hS (by intro e;subst e;simp at hl2;omega)
      have g1:wr.cell? ⟨b,off+k,none⟩=some (.int .u32 ((xs.getD k 0:Nat):Int)) :=
       (HB.out.cell (p:=⟨b,off+k,none⟩) (World.block_lt_of_cell? w1 ⟨b,off+k,none⟩ (hc1 k (by omega)))).trans (hc1 k (by omega))
      have g2:wr.cell? ⟨b2,off2+k,none⟩=some (.int .u32 ((ys.getD k 0:Nat):Int)) :=
       (HB.out.cell (p:=⟨b2,off2+k,none⟩) (World.block_lt_of_cell? w1 ⟨b2,off2+k,none⟩ (hc2 k (by omega)))).trans (hc2 k (by omega))
      obtain ⟨x,hxx⟩:∃ x:Nat,xs.getD k 0=x:=⟨_,rfl⟩;obtain ⟨y,hyy⟩:∃ y:Nat,ys.getD k 0=y:=⟨_,rfl⟩;rw [hxx] at g1;rw [hyy] at g2;have HX:=(qsd (ai hxx hyy));clear hR hS hn hm hx hy hl1 hl2 f1 f2 hc1 hc2 hxx hyy hk0
      by_cases hxy:x=y
      · subst hxy
        go_wp2
        go_region
        all_goals (
         go_wp2
         go_roundg k
         case measure=>omega
         case rel =>
          obtain ⟨hR,hS,hn,hm,hx,hy,hl1,hl2,f1,f2⟩:=HR.out;refine ⟨by omega,by first | go_num | (congr 1;omega),HB.out.drew,?_⟩
          have h:=HA.out;obtain ⟨r,hr⟩:∃ r,k0-k=r+1:=⟨k0-(k+1),by omega⟩
          rw [show k0-(k+1)=r by omega] at h
          rw [Aside,hr,sg_front xs k r (by omega),sg_front ys k r (by omega),h,HX.out.1,HX.out.2])
      · have hne:((x:Int)==(y:Int))=false:=by simp;omega
        have hki:(k:Int)<(k0:Int):=by omega
        have hki0:0≤(k:Int):=by omega
        have hki2:k<k0:=by omega
        go_wp2
        go_region
        all_goals (
         go_wp2
         go_region_with (go_at_call 214;refine (compare_u x y _).mono ?_;rintro r w2 ⟨rfl,rfl⟩))
        all_goals (
         go_wp2;go_ret;obtain ⟨hR,hS,hn,hm,hx,hy,hl1,hl2,f1,f2⟩:=HR.out;have h:=HA.out
         have e:cmpI (val xs) (val ys)=cmpI x y:=by
          rw [←f1,←f2];have hk2:k+1+(k0-(k+1))=k0:=by omega
          have t1:=cmp_words xs ys hx hy k (k0-(k+1)) (by omega) (by omega) h
          have t2:=cmp_words ys xs hy hx k (k0-(k+1)) (by omega) (by omega) h.symm
          rw [hk2,HX.out.1,HX.out.2] at t1 t2
          apply cmpI_congr <;> omega
         rw [e];exact ⟨rfl,by first | exact HB.out.drew.drew | exact HB.out.drew | skip⟩)
 · have e:cmpI (val xs) (val ys)=cmpI (nl xs) (nl ys):=by
    rcases Nat.lt_or_gt_of_ne he with h|h
    · rw [cmpI_lt h,cmpI_lt (cmp_len xs ys hx hy h)]
    · rw [cmpI_gt h,cmpI_gt (cmp_len ys xs hy hx h)]
   rw [e];obtain ⟨k1,hk1⟩:∃ k,nl xs=k:=⟨_,rfl⟩;obtain ⟨k2,hk2⟩:∃ k,nl ys=k:=⟨_,rfl⟩;rw [hk1] at H1 he ⊢;rw [hk2] at H2 he ⊢;have hne:((k1:Int)==(k2:Int))=false:=by simp;omega
   have hne2:¬ (k1:Int)=(k2:Int):=by omega
   have H3:=hid (compare_i k1 k2 w);clear hR hS hn hm hx hy hl1 hl2 f1 f2 hk1 hk2 e he;go_enter Tryz.func195,Tryz.ntmps195
   go_wp2_with fail
   refine H1.out.mono ?_;rintro r w1 ⟨rfl,rfl⟩
   go_wp2_with fail
   refine H2.out.mono ?_;rintro r w1 ⟨rfl,rfl⟩
   go_wp2_with fail
   refine H3.out.mono ?_;rintro r w1 ⟨rfl,rfl⟩;go_wp2;go_ret;exact ⟨rfl,Below.refl _ _⟩
end
section
open Go.RowKit
theorem root_any (xs:List Nat) (ao:Option Addr) (n cap B:Nat) (w:World) (hn:n=xs.length) (hc:n≤cap) (hbig:n≤35184372088832) (hx:Wf xs) (hR:Rd B w ao xs) (hB:B≤w.heap.size) :
 Calls Tryz.prog 180 #[.slice ao n cap] w fun r w'=>∃ q,IsRoot (val xs) q∧Two w.heap.size w' r q (val xs-q*q)∧Below w.heap.size w w':=by
 have T0:=trim_any xs ao n cap B w hn hc (by omega) hR
 have hl:=nl_le xs;have hform:=form_eq xs hx;have hlen:=nl_eq_length xs hx;rw [hlen] at T0 hl hform;obtain ⟨X,hX⟩:∃ X,val xs=X:=⟨_,rfl⟩;rw [hX] at T0 hl hform ⊢;have T:=hid T0;have hRX:Rd B w ao (ws X):=by rw [←hform];exact hR.take _
 by_cases h0:X=0
 · subst h0
   rw [ws_zero] at T;clear hX hlen hform hl hx hn hR T0 hRX;go_enter Tryz.func180,Tryz.ntmps180
   go_wp2_with fail
   refine T.out.mono ?_;rintro r w1 ⟨rfl,rfl⟩;go_wp2
   go_ret2
   exact ⟨0,⟨by omega,by omega⟩,⟨_,_,rfl,Nt.nil _ _,Nt.nil _ _,apart_nil _⟩,Below.refl _ _⟩
 · have hk0:(ws X).length≠0:=fun e=>h0 ((ws_len_zero X).1 e)
   obtain ⟨k,hk⟩:∃ k,(ws X).length=k:=⟨_,rfl⟩;have NR:=nearRoot_any (ws X) ao k cap B w hk.symm (by omega) (by omega) (wf_ws X) (by rw [val_ws];exact h0) hRX hB
   rw [val_ws] at NR;have N:=hid NR;rw [hk] at T hl hk0;have hkn:k≤n:=by omega
   have hkne:((k:Int)==0)=false:=by simp;omega
   have HH:=(qsd (ai hRX (ai hk h0)));clear hX hlen hform hl hx hn hR T0 hRX NR hk h0 hk0;go_enter Tryz.func180,Tryz.ntmps180
   go_wp2_with fail
   refine T.out.mono ?_;rintro r w1 ⟨rfl,rfl⟩
   go_wp2_with fail
   refine N.out.mono ?_;rintro r w2 ⟨v2,A,rfl,hN2,hA1,hA2,hA0,hAX,hb2⟩;obtain ⟨ra,rc,rfl,hrc,hrcm,hRr⟩:=hN2.shape;obtain ⟨hRX,hk,h0⟩:=HH.out;have hlA:(ws A).length≤k:=by rw [←hk];exact ws_len_mono hAX
   have M0:=mul_any (ws A) (ws A) ra ra _ rc _ rc w2.heap.size w2 rfl rfl hrc hrc (by omega) (wf_ws _) (wf_ws _) hRr hRr (Nat.le_refl _)
   rw [val_ws] at M0;have M:=hid M0;have H1:=(qsd (ai hN2 (ai hA1 (ai hA2 (ai hA0 (ai hAX (ai hb2 (ai hRr hlA))))))));clear M0 hN2 hA1 hA2 hA0 hAX hb2 hRr hRX hk h0 hlA T N
   go_wp2_with fail
   refine M.out.mono ?_;rintro r w3 ⟨v3,rfl,hN3,hb3⟩;obtain ⟨sa,sc,rfl,hsc,hscm,hRs⟩:=hN3.shape;obtain ⟨hRX,hk,h0⟩:=HH.out;obtain ⟨hN2,hA1,hA2,hA0,hAX,hb2,hRr,hlA⟩:=H1.out;have hs2:=hb2.size;have hs3:=hb3.size;have hRX3:Rd w3.heap.size w3 ao (ws X):=((hRX.below (hb2.mono hB)).below (hb3.mono (by omega))).mono (by omega)
   have hsq:A*A<pw (k+k):=by
    have:=ws_len_lt A;have h2:=Nat.mul_lt_mul'' this this;rw [←pw_add] at h2;exact Nat.lt_of_lt_of_le h2 (pw_mono (by omega))
   have hlS:(ws (A*A)).length≤k+k:=(ws_len_le _ _).2 hsq;have C0:=cmp_any (ws (A*A)) (ws X) sa ao _ sc k cap w3.heap.size w3 rfl hk.symm hsc (by omega) (by omega) (by omega) (wf_ws _) (wf_ws _) hRs hRX3
   rw [val_ws,val_ws] at C0;have H2:=(qsd (ai hN3 (ai hb3 (ai hRs (ai hRX3 hlS)))))
   by_cases hgt:X<A*A
   · rw [cmpI_gt hgt] at C0
     have C:=hid C0;have H3:=(qsd hgt);clear C0 hN2 hA1 hA2 hA0 hAX hb2 hRr hlA hN3 hb3 hRs hRX hk h0 hs2 hs3 hRX3 hsq hlS M hgt
     go_wp2_with fail
     refine C.out.mono ?_;rintro r w4 ⟨rfl,hb4⟩
     -- the root less one
     obtain ⟨hRX,hk,h0⟩:=HH.out;obtain ⟨hN2,hA1,hA2,hA0,hAX,hb2,hRr,hlA⟩:=H1.out;obtain ⟨hN3,hb3,hRs,hRX3,hlS⟩:=H2.out;have hs2:=hb2.size;have hs3:=hb3.size;have hs4:=hb4.size;obtain ⟨W5,hW5⟩:∃ W,W=w4.alloc (.cells #[.int .u32 1] 133):=⟨_,rfl⟩;have hb5:Below w4.heap.size w4 W5:=by rw [hW5];exact (Below.refl _ _).alloc (Nat.le_refl _) _
     have hs5:=hb5.size;have hO5:Own W5 w4.heap.size [1]:=by rw [hW5];unfold Own;rw [heap_alloc_new];rfl
     have hg5:=hO5.lt
     have hR1:Rd W5.heap.size W5 (some ⟨w4.heap.size,0,none⟩) [1]:=by
      have:=Rd.ofOwn hO5 0 1;exact (by simpa using this:Rd (w4.heap.size+1) W5 (some ⟨w4.heap.size,0,none⟩) [1]).mono (by omega)
     have hRr5:Rd W5.heap.size W5 ra (ws A):=(((hRr.below hb3).below (hb4.mono hs3)).below (hb5.mono (by omega))).mono (by omega)
     have hlA1:1≤(ws A).length:=by have:=ws_len_zero A;omega
     have S0:=sub_any (ws A) [1] ra (some ⟨w4.heap.size,0,none⟩) _ rc 1 1 W5.heap.size W5 rfl rfl hlA1 hrc (by omega) (by omega) (wf_ws _) (Wf.cons (by omega) Wf.nil) (by rw [val_ws];simp [val];omega) hRr5 hR1 (Nat.le_refl _)
     rw [val_ws,show val [1]=1 from rfl] at S0
     rw [hW5] at S0;have S:=hid S0;have H4:=(qsd (ai hb4 (ai hW5 hb5)));clear S0 hN2 hA1 hA2 hA0 hAX hb2 hRr hlA hN3 hb3 hRs hRX hk h0 hs2 hs3 hRX3 hlS hb4 hs4 hW5 hb5 hs5 hO5 hg5 hR1 hRr5 hlA1 C
     go_wp2_with fail
     refine S.out.mono ?_;rintro r w6 ⟨v6,rfl,hN6,hb6⟩;obtain ⟨ra6,rc6,rfl,hrc6,hrcm6,hRr6⟩:=hN6.shape;obtain ⟨hN2,hA1,hA2,hA0,hAX,hb2,hRr,hlA⟩:=H1.out;have hlA6:(ws (A-1)).length≤(ws A).length:=ws_len_mono (by omega)
     have M0:=mul_any (ws (A-1)) (ws (A-1)) ra6 ra6 _ rc6 _ rc6 w6.heap.size w6 rfl rfl hrc6 hrc6 (by omega) (wf_ws _) (wf_ws _) hRr6 hRr6 (Nat.le_refl _)
     rw [val_ws] at M0;have M:=hid M0;have H5:=(qsd (ai hN6 hb6));clear M0 hN2 hA1 hA2 hA0 hAX hb2 hRr hlA hN6 hb6 hRr6 hlA6 S
     go_wp2_with fail
     refine M.out.mono ?_;rintro r w7 ⟨v7,rfl,hN7,hb7⟩;obtain ⟨sa7,sc7,rfl,hsc7,hscm7,hRs7⟩:=hN7.shape;obtain ⟨hRX,hk,h0⟩:=HH.out;obtain ⟨hN2,hA1,hA2,hA0,hAX,hb2,hRr,hlA⟩:=H1.out;obtain ⟨hN3,hb3,hRs,hRX3,hlS⟩:=H2.out;obtain ⟨hb4,hW5,hb5⟩:=H4.out;obtain ⟨hN6,hb6⟩:=H5.out;rw [←hW5] at hN6 hb6;have hs2:=hb2.size;have hs3:=hb3.size;have hs4:=hb4.size;have hs5:=hb5.size;have hs6:=hb6.size;have hs7:=hb7.size;have hb17:Below w1.heap.size w1 w7:=(((((hb2.trans (hb3.mono hs2)).trans (hb4.mono (by omega))).trans (hb5.mono (by omega))).trans (hb6.mono (by omega)))).trans (hb7.mono (by omega))
     have hRX7:Rd w7.heap.size w7 ao (ws X):=(hRX.below (hb17.mono hB)).mono (by omega)
     have hle7:(A-1)*(A-1)≤X:=by omega
     have hl7:(ws ((A-1)*(A-1))).length≤k:=by rw [←hk];exact ws_len_mono hle7
     have S0:=sub_any (ws X) (ws ((A-1)*(A-1))) ao sa7 k cap _ sc7 w7.heap.size w7 hk.symm rfl hl7 (by omega) hsc7 (by omega) (wf_ws _) (wf_ws _) (by rw [val_ws,val_ws];exact hle7) hRX7 hRs7 (Nat.le_refl _)
     rw [val_ws,val_ws] at S0;have S:=hid S0;have hN67:=hN6.below hb7;have H6:=(qsd (ai hb17 hN67));clear S0 hN2 hA1 hA2 hA0 hAX hb2 hRr hlA hN3 hb3 hRs hRX hk h0 hRX3 hlS hb4 hW5 hb5 hN6 hb6 hN7 hb7 hRs7 hs2 hs3 hs4 hs5 hs6 hs7 hb17 hRX7 hle7 hl7 hN67 M
     go_wp2_with fail
     refine S.out.mono ?_;rintro r w8 ⟨v8,rfl,hN8,hb8⟩;have H7:=(qsd (ai hN8 hb8));clear hN8 hb8 S;go_wp2
     go_ret2
     obtain ⟨hN8,hb8⟩:=H7.out;obtain ⟨hb17,hN67⟩:=H6.out;obtain ⟨hN2,hA1,hA2,hA0,hAX,hb2,hRr,hlA⟩:=H1.out;obtain ⟨hb4,hW5,hb5⟩:=H4.out;obtain ⟨hN3,hb3,hRs,hRX3,hlS⟩:=H2.out;have hs2:=hb2.size;have hs3:=hb3.size;have hs4:=hb4.size;have hs5:=hb5.size;have hs7:=hb17.size;have hlow:w1.heap.size≤W5.heap.size:=by omega
     refine ⟨A-1,⟨by omega,?_⟩,⟨_,_,rfl,(hN67.below hb8).mono hlow,hN8.mono hs7,apart_of (hi:=0) hN67 hN8 (Nat.le_refl _)⟩,hb17.trans (hb8.mono hs7)⟩
     rw [show A-1+1=A by omega];exact H3.out
   · have hle:A*A≤X:=by omega
     have hC1:cmpI (A*A) X≤0:=by unfold cmpI;split <;> (try split) <;> omega
     obtain ⟨cc,hcc⟩:∃ cc,cmpI (A*A) X=cc:=⟨_,rfl⟩;rw [hcc] at C0 hC1;have C:=hid C0;have H3:=(qsd hle);clear C0 hN2 hA1 hA2 hA0 hAX hb2 hRr hlA hN3 hb3 hRs hRX hk h0 hs2 hs3 hRX3 hsq hlS M hle hgt hcc
     go_wp2_with fail
     refine C.out.mono ?_;rintro r w4 ⟨rfl,hb4⟩;obtain ⟨hRX,hk,h0⟩:=HH.out;obtain ⟨hN2,hA1,hA2,hA0,hAX,hb2,hRr,hlA⟩:=H1.out;obtain ⟨hN3,hb3,hRs,hRX3,hlS⟩:=H2.out;have hs2:=hb2.size;have hs3:=hb3.size;have hs4:=hb4.size;have hb14:Below w1.heap.size w1 w4:=(hb2.trans (hb3.mono hs2)).trans (hb4.mono (by omega))
     have hRX4:Rd w4.heap.size w4 ao (ws X):=(hRX3.below hb4).mono hs4;have hRs4:Rd w4.heap.size w4 sa (ws (A*A)):=(hRs.below hb4).mono hs4;have hl4:(ws (A*A)).length≤k:=by rw [←hk];exact ws_len_mono H3.out
     have S0:=sub_any (ws X) (ws (A*A)) ao sa k cap _ sc w4.heap.size w4 hk.symm rfl hl4 (by omega) hsc (by omega) (wf_ws _) (wf_ws _) (by rw [val_ws,val_ws];exact H3.out) hRX4 hRs4 (Nat.le_refl _)
     rw [val_ws,val_ws] at S0;have S:=hid S0;have hN24:=(hN2.below hb3).below hb4;have H6:=(qsd (ai hb14 hN24));clear S0 hN2 hA1 hA2 hA0 hAX hb2 hRr hlA hN3 hb3 hRs hRX hk h0 hRX3 hlS hb4 hs2 hs3 hs4 hb14 hRX4 hRs4 hl4 hN24 C
     go_wp2_with fail
     refine S.out.mono ?_;rintro r w8 ⟨v8,rfl,hN8,hb8⟩;have H7:=(qsd (ai hN8 hb8));clear hN8 hb8 S;go_wp2
     go_ret2
     obtain ⟨hN8,hb8⟩:=H7.out;obtain ⟨hb14,hN24⟩:=H6.out;obtain ⟨hN2,hA1,hA2,hA0,hAX,hb2,hRr,hlA⟩:=H1.out;have hs4:=hb14.size;exact ⟨A,⟨H3.out,hA2⟩,⟨_,_,rfl,hN24.below hb8,hN8.mono hs4,apart_of (hi:=0) hN24 hN8 (Nat.le_refl _)⟩,hb14.trans (hb8.mono hs4)⟩
end
section
open Go.RowKit
abbrev LG (X:Nat):Prop:=8192<(ws X).length
def addS (X Y:Nat):Nat×Int:=if LG (X+Y) then (0,2) else (X+Y,0)
def subS (X Y:Nat):Nat×Int:=if LG X∨LG Y then (0,2) else if X<Y then (0,20) else (X-Y,0)
def mulS (X Y:Nat):Nat×Int:=if LG X∨LG Y then (0,2) else if LG (X*Y) then (0,2) else (X*Y,0)
def divS (X Y:Nat):Nat×Nat×Int:=if LG X∨LG Y then (0,0,2) else if Y=0 then (0,0,21) else (X/Y,X%Y,0)
def shiftS (X:Nat) (by':Int):Nat×Int:=if LG X then (0,2) else if X=0 then (0,0) else if by'<0 then (X/2^(-by').toNat,0) else if 262144-(bl X:Int)<by' then (0,2) else (X*2^by'.toNat,0)
def One (lo:Nat) (w:World) (r:Ending) (a:Nat×Int):Prop:=∃ v,r=.returned (.tuple #[v,.int .i64 a.2])∧Nt lo w v a.1
theorem trimX (xs:List Nat) (ao:Option Addr) (n cap B:Nat) (w:World) (hn:n=xs.length) (hc:n≤cap) (hm:n≤70368744177664) (hx:Wf xs) (hR:Rd B w ao xs) :
 (Calls Tryz.prog 150 #[.slice ao n cap] w fun r w'=>r=.returned (.slice ao (ws (val xs)).length cap)∧w'=w)∧Rd B w ao (ws (val xs))∧(ws (val xs)).length≤n:=by
 have T:=trim_any xs ao n cap B w hn hc (by omega) hR
 have hl:=nl_le xs;have hf:=form_eq xs hx;have hlen:=nl_eq_length xs hx;rw [hlen] at T hl hf;exact ⟨T,by rw [←hf];exact hR.take _,by omega⟩
theorem Add_any (xs ys:List Nat) (ao bo:Option Addr) (n cap m capb B:Nat) (w:World) (hn:n=xs.length) (hm:m=ys.length) (hc:n≤cap) (hcb:m≤capb) (hbig:n≤35184372088833) (hbig2:m≤35184372088833)
 (hx:Wf xs) (hy:Wf ys) (hR:Rd B w ao xs) (hS:Rd B w bo ys) (hB:B≤w.heap.size) :
 Calls Tryz.prog 194 #[.slice ao n cap,.slice bo m capb] w fun r w'=>One w.heap.size w' r (addS (val xs) (val ys))∧Below w.heap.size w w':=by
 obtain ⟨T1,hRX,hl1⟩:=trimX xs ao n cap B w hn hc (by omega) hx hR
 obtain ⟨T2,hRY,hl2⟩:=trimX ys bo m capb B w hm hcb (by omega) hy hS
 generalize val xs=X at *;generalize val ys=Y at *;have A0:=add_any (ws X) (ws Y) ao bo _ cap _ capb B w rfl rfl (by omega) (by omega) (by omega) (by omega) (wf_ws X) (wf_ws Y) hRX hRY hB
 rw [val_ws,val_ws] at A0;have H1:=(hid T1);have H2:=(hid T2);have H3:=(hid A0);clear T1 T2 A0 hRX hRY hn hm hx hy hR hS hl1 hl2;go_enter Tryz.func194,Tryz.ntmps194
 go_wp2_with fail
 refine H1.out.mono ?_;rintro r w1 ⟨rfl,rfl⟩
 go_wp2_with fail
 refine H2.out.mono ?_;rintro r w1 ⟨rfl,rfl⟩
 go_wp2_with fail
 refine H3.out.mono ?_;rintro r w2 ⟨v,rfl,hN,hb⟩;obtain ⟨av,cv,rfl,hcv,hcm,hRv⟩:=hN.shape;have U0:=unlessLong_any (ws (X+Y)).length av cv w2;have HN:=(qsd (ai hN hb));clear H1 H2 H3 hN hb hRv
 by_cases hL:LG (X+Y)
 · rw [if_pos (show 8192<(ws (X+Y)).length from hL)] at U0
   have U:=(hid U0);clear U0
   go_wp2_with fail
   refine U.out.mono ?_;rintro r w3 ⟨rfl,rfl⟩;go_wp2
   go_ret2
   rw [show addS X Y=(0,2) by simp [addS,hL]]
   exact ⟨⟨_,rfl,Nt.nil _ _⟩,HN.out.2⟩
 · rw [if_neg (show ¬ 8192<(ws (X+Y)).length from hL)] at U0
   have U:=(hid U0);clear U0
   go_wp2_with fail
   refine U.out.mono ?_;rintro r w3 ⟨rfl,rfl⟩;go_wp2
   go_ret2
   rw [show addS X Y=(X+Y,0) by simp [addS,hL]]
   exact ⟨⟨_,rfl,HN.out.1⟩,HN.out.2⟩
theorem longb (n:Nat) (ao:Option Addr) (cap:Nat) (w:World) (b:Bool) (hb:decide (8192<n)=b) :
 Calls Tryz.prog 187 #[.slice ao n cap] w fun r w'=>r=.returned (.bool b)∧w'=w:=by
 have h:=long_any n ao cap w;have e:decide ((8192:Int)<(n:Int))=b:=by rw [←hb];simp only [decide_eq_decide];omega
 rw [e] at h;exact h
theorem Sub_any (xs ys:List Nat) (ao bo:Option Addr) (n cap m capb B:Nat) (w:World) (hn:n=xs.length) (hm:m=ys.length) (hc:n≤cap) (hcb:m≤capb) (hbig:n≤35184372088833) (hbig2:m≤35184372088833)
 (hx:Wf xs) (hy:Wf ys) (hR:Rd B w ao xs) (hS:Rd B w bo ys) (hB:B≤w.heap.size) :
 Calls Tryz.prog 196 #[.slice ao n cap,.slice bo m capb] w fun r w'=>One w.heap.size w' r (subS (val xs) (val ys))∧Below w.heap.size w w':=by
 obtain ⟨T1,hRX,hl1⟩:=trimX xs ao n cap B w hn hc (by omega) hx hR
 obtain ⟨T2,hRY,hl2⟩:=trimX ys bo m capb B w hm hcb (by omega) hy hS
 generalize val xs=X at *;generalize val ys=Y at *;have H1:=(hid T1);have H2:=(hid T2);have HR:=(qsd (ai hRX (ai hRY (ai hl1 hl2))));clear T1 T2 hRX hRY hn hm hx hy hR hS hl1 hl2
 by_cases hLX:LG X
 · have L:=hid (longb (ws X).length ao cap w true (by simpa [LG] using hLX))
   have e:subS X Y=(0,2):=by simp [subS,hLX]
   rw [e];clear e hLX HR;go_enter Tryz.func196,Tryz.ntmps196
   go_wp2_with fail
   refine H1.out.mono ?_;rintro r w1 ⟨rfl,rfl⟩
   go_wp2_with fail
   refine H2.out.mono ?_;rintro r w1 ⟨rfl,rfl⟩
   go_wp2_with fail
   refine L.out.mono ?_;rintro r w1 ⟨rfl,rfl⟩;go_wp2
   go_ret2
   exact ⟨⟨_,rfl,Nt.nil _ _⟩,Below.refl _ _⟩
 · have L:=hid (longb (ws X).length ao cap w false (by simpa [LG] using hLX))
   by_cases hLY:LG Y
   · have L2:=hid (longb (ws Y).length bo capb w true (by simpa [LG] using hLY))
     have e:subS X Y=(0,2):=by simp [subS,hLY]
     rw [e];clear e hLX hLY HR;go_enter Tryz.func196,Tryz.ntmps196
     go_wp2_with fail
     refine H1.out.mono ?_;rintro r w1 ⟨rfl,rfl⟩
     go_wp2_with fail
     refine H2.out.mono ?_;rintro r w1 ⟨rfl,rfl⟩
     go_wp2_with fail
     refine L.out.mono ?_;rintro r w1 ⟨rfl,rfl⟩
     go_wp2_with fail
     refine L2.out.mono ?_;rintro r w1 ⟨rfl,rfl⟩;go_wp2
     go_ret2
     exact ⟨⟨_,rfl,Nt.nil _ _⟩,Below.refl _ _⟩
   · have L2:=hid (longb (ws Y).length bo capb w false (by simpa [LG] using hLY))
     obtain ⟨hRX,hRY,hl1,hl2⟩:=HR.out;have C0:=cmp_any (ws X) (ws Y) ao bo _ cap _ capb B w rfl rfl (by omega) (by omega) (by omega) (by omega) (wf_ws X) (wf_ws Y) hRX hRY
     rw [val_ws,val_ws] at C0
     by_cases hlt:X<Y
     · rw [cmpI_lt hlt] at C0
       have C:=hid C0;have e:subS X Y=(0,20):=by simp [subS,hLX,hLY,hlt]
       rw [e];clear e hLX hLY HR C0 hlt hRX hRY hl1 hl2;go_enter Tryz.func196,Tryz.ntmps196
       go_wp2_with fail
       refine H1.out.mono ?_;rintro r w1 ⟨rfl,rfl⟩
       go_wp2_with fail
       refine H2.out.mono ?_;rintro r w1 ⟨rfl,rfl⟩
       go_wp2_with fail
       refine L.out.mono ?_;rintro r w1 ⟨rfl,rfl⟩
       go_wp2_with fail
       refine L2.out.mono ?_;rintro r w1 ⟨rfl,rfl⟩
       go_wp2_with fail
       refine C.out.mono ?_;rintro r w2 ⟨rfl,hb⟩;have HB:=(qsd hb);clear hb;go_wp2
       go_ret2
       exact ⟨⟨_,rfl,Nt.nil _ _⟩,HB.out⟩
     · have hc1:0≤cmpI X Y:=by unfold cmpI;rw [if_neg hlt];split <;> omega
       obtain ⟨cc,hcc⟩:∃ cc,cmpI X Y=cc:=⟨_,rfl⟩;rw [hcc] at C0 hc1;have C:=hid C0;have e:subS X Y=(X-Y,0):=by simp [subS,hLX,hLY,hlt]
       rw [e];have HL:=(qsd hlt);clear e hLX hLY C0 hlt hRX hRY hl1 hl2 hcc;go_enter Tryz.func196,Tryz.ntmps196
       go_wp2_with fail
       refine H1.out.mono ?_;rintro r w1 ⟨rfl,rfl⟩
       go_wp2_with fail
       refine H2.out.mono ?_;rintro r w1 ⟨rfl,rfl⟩
       go_wp2_with fail
       refine L.out.mono ?_;rintro r w1 ⟨rfl,rfl⟩
       go_wp2_with fail
       refine L2.out.mono ?_;rintro r w1 ⟨rfl,rfl⟩
       go_wp2_with fail
       refine C.out.mono ?_;rintro r w2 ⟨rfl,hb⟩;obtain ⟨hRX,hRY,hl1,hl2⟩:=HR.out;have hs:=hb.size;have S0:=sub_any (ws X) (ws Y) ao bo _ cap _ capb B w2 rfl rfl (ws_len_mono (by have:=HL.out;omega)) (by omega) (by omega) (by omega) (wf_ws X) (wf_ws Y) (by rw [val_ws,val_ws];have:=HL.out;omega) (hRX.below (hb.mono hB)) (hRY.below (hb.mono hB)) (by omega)
       rw [val_ws,val_ws] at S0;have S:=hid S0;have HB:=(qsd (ai hb hs));clear hb hRX hRY hl1 hl2 S0 hs C
       go_wp2_with fail
       refine S.out.mono ?_;rintro r w3 ⟨v,rfl,hN,hb2⟩;have HN:=(qsd (ai hN hb2));clear hN hb2 S;go_wp2
       go_ret2
       obtain ⟨hb,hs⟩:=HB.out;exact ⟨⟨_,rfl,HN.out.1.mono hs⟩,hb.trans (HN.out.2.mono hs)⟩
end
section
open Go.RowKit
theorem Mul_any (xs ys:List Nat) (ao bo:Option Addr) (n cap m capb B:Nat) (w:World) (hn:n=xs.length) (hm:m=ys.length) (hc:n≤cap) (hcb:m≤capb) (hbig:n≤35184372088833) (hbig2:m≤35184372088833)
 (hx:Wf xs) (hy:Wf ys) (hR:Rd B w ao xs) (hS:Rd B w bo ys) (hB:B≤w.heap.size) :
 Calls Tryz.prog 152 #[.slice ao n cap,.slice bo m capb] w fun r w'=>One w.heap.size w' r (mulS (val xs) (val ys))∧Below w.heap.size w w':=by
 obtain ⟨T1,hRX,hl1⟩:=trimX xs ao n cap B w hn hc (by omega) hx hR
 obtain ⟨T2,hRY,hl2⟩:=trimX ys bo m capb B w hm hcb (by omega) hy hS
 generalize val xs=X at *;generalize val ys=Y at *;have H1:=(hid T1);have H2:=(hid T2);have HR:=(qsd (ai hRX (ai hRY (ai hl1 hl2))));clear T1 T2 hRX hRY hn hm hx hy hR hS hl1 hl2
 by_cases hLX:LG X
 · have L:=hid (longb (ws X).length ao cap w true (by simpa [LG] using hLX))
   have e:mulS X Y=(0,2):=by simp [mulS,hLX]
   rw [e];clear e hLX HR;go_enter Tryz.func152,Tryz.ntmps152
   go_wp2_with fail
   refine H1.out.mono ?_;rintro r w1 ⟨rfl,rfl⟩
   go_wp2_with fail
   refine H2.out.mono ?_;rintro r w1 ⟨rfl,rfl⟩
   go_wp2_with fail
   refine L.out.mono ?_;rintro r w1 ⟨rfl,rfl⟩;go_wp2
   go_ret2
   exact ⟨⟨_,rfl,Nt.nil _ _⟩,Below.refl _ _⟩
 · have L:=hid (longb (ws X).length ao cap w false (by simpa [LG] using hLX))
   by_cases hLY:LG Y
   · have L2:=hid (longb (ws Y).length bo capb w true (by simpa [LG] using hLY))
     have e:mulS X Y=(0,2):=by simp [mulS,hLY]
     rw [e];clear e hLX hLY HR;go_enter Tryz.func152,Tryz.ntmps152
     go_wp2_with fail
     refine H1.out.mono ?_;rintro r w1 ⟨rfl,rfl⟩
     go_wp2_with fail
     refine H2.out.mono ?_;rintro r w1 ⟨rfl,rfl⟩
     go_wp2_with fail
     refine L.out.mono ?_;rintro r w1 ⟨rfl,rfl⟩
     go_wp2_with fail
     refine L2.out.mono ?_;rintro r w1 ⟨rfl,rfl⟩;go_wp2
     go_ret2
     exact ⟨⟨_,rfl,Nt.nil _ _⟩,Below.refl _ _⟩
   · have L2:=hid (longb (ws Y).length bo capb w false (by simpa [LG] using hLY))
     have hz1:(ws X).length=0→X=0:=(ws_len_zero X).1;have hz2:(ws Y).length=0→Y=0:=(ws_len_zero Y).1
     by_cases h1:(ws X).length=0
     · have e:mulS X Y=(0,0):=by
        have:=hz1 h1;subst this;unfold mulS;rw [if_neg (by simp [hLX,hLY]),Nat.zero_mul,if_neg hLX]
       rw [e];have hh:=hid h1;rw [h1] at H1 L;have h1b:((ws X).length:Int)=0:=by omega
       clear e hLX hLY HR hz1 hz2 h1 h1b hh;go_enter Tryz.func152,Tryz.ntmps152
       go_wp2_with fail
       refine H1.out.mono ?_;rintro r w1 ⟨rfl,rfl⟩
       go_wp2_with fail
       refine H2.out.mono ?_;rintro r w1 ⟨rfl,rfl⟩
       go_wp2_with fail
       refine L.out.mono ?_;rintro r w1 ⟨rfl,rfl⟩
       go_wp2_with fail
       refine L2.out.mono ?_;rintro r w1 ⟨rfl,rfl⟩;go_wp2
       go_ret2
       exact ⟨⟨_,rfl,Nt.nil _ _⟩,Below.refl _ _⟩
     · by_cases h2:(ws Y).length=0
       · have e:mulS X Y=(0,0):=by
          have:=hz2 h2;subst this;unfold mulS;rw [if_neg (by simp [hLX,hLY]),Nat.mul_zero,if_neg hLY]
         rw [e];rw [h2] at H2 L2;obtain ⟨k1,hk1⟩:∃ k,(ws X).length=k:=⟨_,rfl⟩;rw [hk1] at H1 L h1;have h1b:((k1:Int)==0)=false:=by simp;omega
         clear e hLX hLY HR hz1 hz2 h2 hk1;go_enter Tryz.func152,Tryz.ntmps152
         go_wp2_with fail
         refine H1.out.mono ?_;rintro r w1 ⟨rfl,rfl⟩
         go_wp2_with fail
         refine H2.out.mono ?_;rintro r w1 ⟨rfl,rfl⟩
         go_wp2_with fail
         refine L.out.mono ?_;rintro r w1 ⟨rfl,rfl⟩
         go_wp2_with fail
         refine L2.out.mono ?_;rintro r w1 ⟨rfl,rfl⟩;go_wp2
         go_ret2
         exact ⟨⟨_,rfl,Nt.nil _ _⟩,Below.refl _ _⟩
       · have hX0:X≠0:=fun e=>h1 ((ws_len_zero X).2 e)
         have hY0:Y≠0:=fun e=>h2 ((ws_len_zero Y).2 e)
         have hlow:pw ((ws X).length+(ws Y).length-2)≤X*Y:=by
          have a:=Nat.mul_le_mul (ws_len_ge X hX0) (ws_len_ge Y hY0);rw [←pw_add] at a;rw [show (ws X).length+(ws Y).length-2=(ws X).length-1+((ws Y).length-1) by omega];exact a
         obtain ⟨hRX,hRY,hl1,hl2⟩:=HR.out;have M0:=mul_any (ws X) (ws Y) ao bo _ cap _ capb B w rfl rfl (by omega) (by omega) (by unfold LG at hLX hLY;omega) (wf_ws X) (wf_ws Y) hRX hRY hB
         rw [val_ws,val_ws] at M0;have hsmall1:(ws X).length≤8192:=by unfold LG at hLX;omega
         have hsmall2:(ws Y).length≤8192:=by unfold LG at hLY;omega
         obtain ⟨k1,hk1⟩:∃ k,(ws X).length=k:=⟨_,rfl⟩;obtain ⟨k2,hk2⟩:∃ k,(ws Y).length=k:=⟨_,rfl⟩;rw [hk1] at H1 L h1 M0 hlow hsmall1;rw [hk2] at H2 L2 h2 M0 hlow hsmall2;have h1b:((k1:Int)==0)=false:=by simp;omega
         have h2b:((k2:Int)==0)=false:=by simp;omega
         by_cases h3:8192<k1+k2-1
         · have hLG:LG (X*Y):=by
            unfold LG
            by_cases h4:(ws (X*Y)).length≤8192
            · have:=(ws_len_le _ _).1 h4
              have:=pw_mono (show 8192≤k1+k2-2 by omega)
              omega
            · omega
           have e:mulS X Y=(0,2):=by simp [mulS,hLG]
           rw [e];have h3i:(8192:Int)<(k1:Int)+(k2:Int)-1:=by omega
           clear e hLX hLY HR hz1 hz2 hk1 hk2 hRX hRY hl1 hl2 M0 hX0 hY0 hlow hLG h3;go_enter Tryz.func152,Tryz.ntmps152
           go_wp2_with fail
           refine H1.out.mono ?_;rintro r w1 ⟨rfl,rfl⟩
           go_wp2_with fail
           refine H2.out.mono ?_;rintro r w1 ⟨rfl,rfl⟩
           go_wp2_with fail
           refine L.out.mono ?_;rintro r w1 ⟨rfl,rfl⟩
           go_wp2_with fail
           refine L2.out.mono ?_;rintro r w1 ⟨rfl,rfl⟩;go_wp2
           go_ret2
           exact ⟨⟨_,rfl,Nt.nil _ _⟩,Below.refl _ _⟩
         · have h3i:(k1:Int)+(k2:Int)-1≤8192:=by omega
           have h3b:decide ((8192:Int)<(k1:Int)+(k2:Int)-1)=false:=decide_eq_false (by omega)
           have M:=hid M0;have HL:=(qsd (ai hLX hLY));clear hLX hLY HR hz1 hz2 hk1 hk2 hRX hRY hl1 hl2 M0 hX0 hY0 hlow h3;go_enter Tryz.func152,Tryz.ntmps152
           go_wp2_with fail
           refine H1.out.mono ?_;rintro r w1 ⟨rfl,rfl⟩
           go_wp2_with fail
           refine H2.out.mono ?_;rintro r w1 ⟨rfl,rfl⟩
           go_wp2_with fail
           refine L.out.mono ?_;rintro r w1 ⟨rfl,rfl⟩
           go_wp2_with fail
           refine L2.out.mono ?_;rintro r w1 ⟨rfl,rfl⟩
           go_wp2_with fail
           refine M.out.mono ?_;rintro r w2 ⟨v,rfl,hN,hb⟩;obtain ⟨av,cv,rfl,hcv,hcm,hRv⟩:=hN.shape;have U0:=unlessLong_any (ws (X*Y)).length av cv w2;have HN:=(qsd (ai hN hb));clear M hN hb hRv
           by_cases hL:LG (X*Y)
           · rw [if_pos (show 8192<(ws (X*Y)).length from hL)] at U0
             have U:=(hid U0);clear U0
             go_wp2_with fail
             refine U.out.mono ?_;rintro r w3 ⟨rfl,rfl⟩;go_wp2
             go_ret2
             rw [show mulS X Y=(0,2) by simp [mulS,hL]]
             exact ⟨⟨_,rfl,Nt.nil _ _⟩,HN.out.2⟩
           · rw [if_neg (show ¬ 8192<(ws (X*Y)).length from hL)] at U0
             have U:=(hid U0);clear U0
             go_wp2_with fail
             refine U.out.mono ?_;rintro r w3 ⟨rfl,rfl⟩;go_wp2
             go_ret2
             rw [show mulS X Y=(X*Y,0) by simp [mulS,HL.out.1,HL.out.2,hL]]
             exact ⟨⟨_,rfl,HN.out.1⟩,HN.out.2⟩
def Three (lo:Nat) (w:World) (r:Ending) (a:Nat×Nat×Int):Prop:=∃ v u,r=.returned (.tuple #[v,u,.int .i64 a.2.2])∧Nt lo w v a.1∧Nt lo w u a.2.1∧Apart v u
theorem Div_any (xs ys:List Nat) (ao bo:Option Addr) (n cap m capb B:Nat) (w:World) (hn:n=xs.length) (hm:m=ys.length) (hc:n≤cap) (hcb:m≤capb) (hbig:n≤35184372088833) (hbig2:m≤35184372088833)
 (hx:Wf xs) (hy:Wf ys) (hR:Rd B w ao xs) (hS:Rd B w bo ys) (hB:B≤w.heap.size) :
 Calls Tryz.prog 204 #[.slice ao n cap,.slice bo m capb] w fun r w'=>Three w.heap.size w' r (divS (val xs) (val ys))∧Below w.heap.size w w':=by
 obtain ⟨T1,hRX,hl1⟩:=trimX xs ao n cap B w hn hc (by omega) hx hR
 obtain ⟨T2,hRY,hl2⟩:=trimX ys bo m capb B w hm hcb (by omega) hy hS
 generalize val xs=X at *;generalize val ys=Y at *;have H1:=(hid T1);have H2:=(hid T2);have HR:=(qsd (ai hRX (ai hRY (ai hl1 hl2))));clear T1 T2 hRX hRY hn hm hx hy hR hS hl1 hl2
 by_cases hLX:LG X
 · have L:=hid (longb (ws X).length ao cap w true (by simpa [LG] using hLX))
   have e:divS X Y=(0,0,2):=by simp [divS,hLX]
   rw [e];clear e hLX HR;go_enter Tryz.func204,Tryz.ntmps204
   go_wp2_with fail
   refine H1.out.mono ?_;rintro r w1 ⟨rfl,rfl⟩
   go_wp2_with fail
   refine H2.out.mono ?_;rintro r w1 ⟨rfl,rfl⟩
   go_wp2_with fail
   refine L.out.mono ?_;rintro r w1 ⟨rfl,rfl⟩;go_wp2
   go_ret3
   exact ⟨⟨_,_,rfl,Nt.nil _ _,Nt.nil _ _,apart_nil _⟩,Below.refl _ _⟩
 · have L:=hid (longb (ws X).length ao cap w false (by simpa [LG] using hLX))
   by_cases hLY:LG Y
   · have L2:=hid (longb (ws Y).length bo capb w true (by simpa [LG] using hLY))
     have e:divS X Y=(0,0,2):=by simp [divS,hLY]
     rw [e];clear e hLX hLY HR;go_enter Tryz.func204,Tryz.ntmps204
     go_wp2_with fail
     refine H1.out.mono ?_;rintro r w1 ⟨rfl,rfl⟩
     go_wp2_with fail
     refine H2.out.mono ?_;rintro r w1 ⟨rfl,rfl⟩
     go_wp2_with fail
     refine L.out.mono ?_;rintro r w1 ⟨rfl,rfl⟩
     go_wp2_with fail
     refine L2.out.mono ?_;rintro r w1 ⟨rfl,rfl⟩;go_wp2
     go_ret3
     exact ⟨⟨_,_,rfl,Nt.nil _ _,Nt.nil _ _,apart_nil _⟩,Below.refl _ _⟩
   · have L2:=hid (longb (ws Y).length bo capb w false (by simpa [LG] using hLY))
     by_cases h2:Y=0
     · have e:divS X Y=(0,0,21):=by unfold divS;rw [if_neg (by simp [hLX,hLY]),if_pos h2]
       rw [e];subst h2;rw [ws_zero] at H2 L2;clear e hLX hLY HR;go_enter Tryz.func204,Tryz.ntmps204
       go_wp2_with fail
       refine H1.out.mono ?_;rintro r w1 ⟨rfl,rfl⟩
       go_wp2_with fail
       refine H2.out.mono ?_;rintro r w1 ⟨rfl,rfl⟩
       go_wp2_with fail
       refine L.out.mono ?_;rintro r w1 ⟨rfl,rfl⟩
       go_wp2_with fail
       refine L2.out.mono ?_;rintro r w1 ⟨rfl,rfl⟩;go_wp2
       go_ret3
       exact ⟨⟨_,_,rfl,Nt.nil _ _,Nt.nil _ _,apart_nil _⟩,Below.refl _ _⟩
     · have h3:(ws Y).length≠0:=fun e=>h2 ((ws_len_zero Y).1 e)
       obtain ⟨hRX,hRY,hl1,hl2⟩:=HR.out;have D0:=div_any (ws X) (ws Y) ao bo _ cap _ capb B w rfl rfl (by omega) (by omega) (by omega) (by omega) (wf_ws X) (wf_ws Y) (ws_top Y h2) hRX hRY hB
       rw [val_ws,val_ws] at D0;have e:divS X Y=(X/Y,X%Y,0):=by simp [divS,hLX,hLY,h2]
       rw [e];obtain ⟨k2,hk2⟩:∃ k,(ws Y).length=k:=⟨_,rfl⟩;rw [hk2] at H2 L2 D0 h3;have h2b:((k2:Int)==0)=false:=by simp;omega
       have D:=hid D0;clear e hLX hLY HR hk2 hRX hRY hl1 hl2 D0 h2;go_enter Tryz.func204,Tryz.ntmps204
       go_wp2_with fail
       refine H1.out.mono ?_;rintro r w1 ⟨rfl,rfl⟩
       go_wp2_with fail
       refine H2.out.mono ?_;rintro r w1 ⟨rfl,rfl⟩
       go_wp2_with fail
       refine L.out.mono ?_;rintro r w1 ⟨rfl,rfl⟩
       go_wp2_with fail
       refine L2.out.mono ?_;rintro r w1 ⟨rfl,rfl⟩
       go_wp2_with fail
       refine D.out.mono ?_;rintro r w2 ⟨⟨v,u,rfl,hN1,hN2,hap⟩,hb⟩;have HN:=(qsd (ai hN1 (ai hN2 (ai hap hb))));clear hN1 hN2 hap hb D;go_wp2
       go_ret3
       obtain ⟨hN1,hN2,hap,hb⟩:=HN.out;exact ⟨⟨_,_,rfl,hN1,hN2,hap⟩,hb⟩
end
section
open Go.RowKit
theorem bl_le_words (X k:Nat) (h:X<pw k):bl X≤32*k:=by
 by_cases h0:X=0
 · subst h0;rw [bl_zero];omega
 · have h1:=bl_ge X h0
   have h3:pw k=2^(32*k):=by rw [←Nat.add_zero (32*k),pw_two];simp
   rw [h3] at h;have:=(Nat.pow_lt_pow_iff_right (a:=2) (by decide)).1 (Nat.lt_of_le_of_lt h1 h)
   omega
theorem bl_small (X:Nat) (h:¬ LG X):bl X≤262144 :=
 bl_le_words X 8192 ((ws_len_le X 8192).1 (by unfold LG at h;omega))
theorem Shift_any (xs:List Nat) (ao:Option Addr) (n cap B:Nat) (by':Int) (w:World) (hn:n=xs.length) (hc:n≤cap) (hbig:n≤35184372088833)
 (hx:Wf xs) (hR:Rd B w ao xs) (hB:B≤w.heap.size) (hb0:-9223372036854775808≤by') (hb1:by'≤9223372036854775807) :
 Calls Tryz.prog 153 #[.slice ao n cap,.int .i64 by'] w fun r w'=>One w.heap.size w' r (shiftS (val xs) by')∧Below w.heap.size w w':=by
 obtain ⟨T1,hRX,hl1⟩:=trimX xs ao n cap B w hn hc (by omega) hx hR
 generalize val xs=X at *;have N0:=len_any (ws X) ao _ cap B w rfl (by omega) (by omega) (wf_ws X) hRX
 rw [val_ws] at N0;have H1:=(hid T1);have H2:=(hid N0);have HR:=(qsd (ai hRX hl1));clear T1 N0 hRX hn hx hR hl1
 by_cases hLX:LG X
 · have L:=hid (longb (ws X).length ao cap w true (by simpa [LG] using hLX))
   have e:shiftS X by'=(0,2):=by simp [shiftS,hLX]
   rw [e];clear e hLX HR;generalize bl X=c at *;go_enter Tryz.func153,Tryz.ntmps153
   go_wp2_with fail
   refine H1.out.mono ?_;rintro r w1 ⟨rfl,rfl⟩
   go_wp2_with fail
   refine H2.out.mono ?_;rintro r w1 ⟨rfl,rfl⟩
   go_wp2_with fail
   refine L.out.mono ?_;rintro r w1 ⟨rfl,rfl⟩;go_wp2
   go_ret2
   exact ⟨⟨_,rfl,Nt.nil _ _⟩,Below.refl _ _⟩
 · have L:=hid (longb (ws X).length ao cap w false (by simpa [LG] using hLX))
   have hbs:=bl_small X hLX;obtain ⟨c,hcc⟩:∃ c,bl X=c:=⟨_,rfl⟩
   by_cases h0:X=0
   · have e:shiftS X by'=(0,0):=by unfold shiftS;rw [if_neg hLX,if_pos h0]
     rw [e];subst h0;rw [ws_zero] at H1 H2 L;rw [bl_zero] at H2;clear e hLX HR hbs hcc;go_enter Tryz.func153,Tryz.ntmps153
     go_wp2_with fail
     refine H1.out.mono ?_;rintro r w1 ⟨rfl,rfl⟩
     go_wp2_with fail
     refine H2.out.mono ?_;rintro r w1 ⟨rfl,rfl⟩
     go_wp2_with fail
     refine L.out.mono ?_;rintro r w1 ⟨rfl,rfl⟩;go_wp2
     go_ret2
     exact ⟨⟨_,rfl,Nt.nil _ _⟩,Below.refl _ _⟩
   · have hcp:=bl_pos X h0
     have hlt:=bl_lt X;rw [hcc] at hcp hbs H2 hlt;have hcne:((c:Int)==0)=false:=by simp;omega
     by_cases hneg:by'<0
     · obtain ⟨d,hd⟩:∃ d:Nat,(d:Int)=-by':=⟨(-by').toNat,by omega⟩
       have e:shiftS X by'=(X/2^d,0):=by
        unfold shiftS;rw [if_neg hLX,if_neg h0,if_pos hneg,←hd,Int.toNat_natCast]
       rw [e]
       by_cases hbig2:by'≤-(c:Int)
       · have e2:X/2^d=0:=Nat.div_eq_of_lt (Nat.lt_of_lt_of_le hlt (Nat.pow_le_pow_right (by decide) (by omega)))
         rw [e2];clear e e2 hLX HR hcc hlt hd h0;go_enter Tryz.func153,Tryz.ntmps153
         go_wp2_with fail
         refine H1.out.mono ?_;rintro r w1 ⟨rfl,rfl⟩
         go_wp2_with fail
         refine H2.out.mono ?_;rintro r w1 ⟨rfl,rfl⟩
         go_wp2_with fail
         refine L.out.mono ?_;rintro r w1 ⟨rfl,rfl⟩;go_wp2
         go_ret2
         exact ⟨⟨_,rfl,Nt.nil _ _⟩,Below.refl _ _⟩
       · obtain ⟨hRX,hl1⟩:=HR.out
         have D0:=down_any (ws X) ao _ cap B d (d/32) (d%32) w rfl (by omega) (by omega) (by omega) (by omega) (by omega) (wf_ws X) hRX hB
         rw [val_ws] at D0;have D:=hid D0;have hgt:-(c:Int)<by':=by omega
         have hd':-by'=(d:Int):=hd.symm
         clear e hLX HR hcc hlt h0 hRX hl1 D0 hbig2 hd;go_enter Tryz.func153,Tryz.ntmps153
         go_wp2_with fail
         refine H1.out.mono ?_;rintro r w1 ⟨rfl,rfl⟩
         go_wp2_with fail
         refine H2.out.mono ?_;rintro r w1 ⟨rfl,rfl⟩
         go_wp2_with fail
         refine L.out.mono ?_;rintro r w1 ⟨rfl,rfl⟩
         go_wp2_with fail
         try rw [hd']
         refine D.out.mono ?_;rintro r w2 ⟨v,rfl,hN,hb⟩;have HN:=(qsd (ai hN hb));clear hN hb D;go_wp2
         go_ret2
         exact ⟨⟨_,rfl,HN.out.1⟩,HN.out.2⟩
     · obtain ⟨d,rfl⟩:∃ d:Nat,by'=(d:Int):=⟨by'.toNat,by omega⟩
       by_cases hover:262144-(c:Int)<(d:Int)
       · have e:shiftS X (d:Int)=(0,2):=by unfold shiftS;rw [if_neg hLX,if_neg h0,if_neg hneg,hcc,if_pos hover]
         rw [e];clear e hLX HR hcc hlt h0 hneg;go_enter Tryz.func153,Tryz.ntmps153
         go_wp2_with fail
         refine H1.out.mono ?_;rintro r w1 ⟨rfl,rfl⟩
         go_wp2_with fail
         refine H2.out.mono ?_;rintro r w1 ⟨rfl,rfl⟩
         go_wp2_with fail
         refine L.out.mono ?_;rintro r w1 ⟨rfl,rfl⟩;go_wp2
         go_ret2
         exact ⟨⟨_,rfl,Nt.nil _ _⟩,Below.refl _ _⟩
       · have e:shiftS X (d:Int)=(X*2^d,0):=by unfold shiftS;rw [if_neg hLX,if_neg h0,if_neg hneg,hcc,if_neg hover,Int.toNat_natCast]
         rw [e];obtain ⟨hRX,hl1⟩:=HR.out;have D0:=up_any (ws X) ao _ cap B d (d/32) (d%32) w rfl (by omega) (by omega) (by omega) (by unfold LG at hLX;omega) (wf_ws X) hRX hB
         rw [val_ws] at D0;have D:=hid D0;have hle:(d:Int)≤262144-(c:Int):=by omega
         have hleb:decide (262144-(c:Int)<(d:Int))=false:=decide_eq_false (by omega)
         clear e hLX HR hcc hlt h0 hRX hl1 D0 hover hneg;go_enter Tryz.func153,Tryz.ntmps153
         go_wp2_with fail
         refine H1.out.mono ?_;rintro r w1 ⟨rfl,rfl⟩
         go_wp2_with fail
         refine H2.out.mono ?_;rintro r w1 ⟨rfl,rfl⟩
         go_wp2_with fail
         refine L.out.mono ?_;rintro r w1 ⟨rfl,rfl⟩
         go_wp2_with fail
         refine D.out.mono ?_;rintro r w2 ⟨v,rfl,hN,hb⟩;have HN:=(qsd (ai hN hb));clear hN hb D;go_wp2
         go_ret2
         exact ⟨⟨_,rfl,HN.out.1⟩,HN.out.2⟩
end
section
open Go.RowKit
theorem append_words (w:World) (lo:Nat) (v:Value) (n:Nat) (xs src:List Nat) (ao:Option Addr) (m c B:Nat) (ty:TypeId) (hown:w.ownsRow lo 133 1 v n (xs.map U)) (hm:m=src.length) (hR:Rd B w ao src)
 (hnil:ao=none→c=0) (hbig:n+m≤35184372088832) (hlo:lo≤w.heap.size) :
 ∃ v' w',(Builtin.append_ #[45,45] ty #[v,.slice ao m c]).run Tryz.prog w=.ok v' w'∧w'.ownsRow lo 133 1 v' (n+m) ((xs++src).map U)∧w.grownBy w' v.ownBlock:=by
 obtain ⟨i0,hi,hz0,hz1,hz2⟩:=info_parts Tryz.info133;subst hm
 rcases hao:ao with _|a
 · have h0:src=[]:=by
    by_cases h:src=[]
    · exact h
    · obtain ⟨b,off,_,e,_⟩:=hR h
      rw [hao] at e;cases e
   subst h0;have hc:=hnil hao;subst hc;exact ⟨v,w,run_append_owned_none (P:=Tryz.prog) w lo 45 ty 133 i0 1 Tryz.underlying45 hi v n _ hown,by simpa using hown,World.grownBy.refl _ _⟩
 · obtain ⟨v',w',h1,h2,h3,_⟩:=run_append_own (P:=Tryz.prog) w lo 45 ty 133 i0 (.int .u32 0) 1 4 Tryz.underlying45 hi hz0 hz1 hz2 rfl (by decide) v n (xs.map U) hown a src.length c (src.map U) (by simp) (by
    intro j u hj;have hj2:j<src.length:=by have:=(List.getElem?_eq_some_iff.1 hj).1;simpa using this
    obtain ⟨b,off,_,e,hc⟩:=hR (by intro e;subst e;simp at hj2)
    rw [hao] at e
    cases e
    have hadd:(⟨b,off,none⟩:Addr).add j=⟨b,off+j,none⟩:=by unfold Addr.add;split <;> simp_all
    rw [hadd,hc j hj2];simp [hj2,U] at hj;simp [hj2,←hj]) (by
    intro u hu;obtain ⟨x,_,rfl⟩:=List.mem_map.1 hu
    rfl) (by unfold maxLen;omega) (by omega) hlo
   exact ⟨v',w',h1,by rw [List.map_append];exact h2,h3⟩
theorem wpList_append_run {w:World}{ops:Array Oper}{rest:List Oper}{o:Oper}{a:Act}{Q:Exit→Act→World→Prop}(hgd:o.guard=none) (s x:Operand)
 (ho:o.op=.call { callee:=.builtin .append,args:=#[s,x],argTypes:=#[45,45] }) (v u:Value) (hs:a.eval s=v) (hx:a.eval x=u) (v':Value) (w':World)
 (hrun:(Builtin.append_ #[45,45] o.type #[v,u]).run Tryz.prog w=.ok v' w') (h:wpList Tryz.prog ops Q rest (a.put o.dst v') w'):wpList Tryz.prog ops Q (o::rest) a w:=by
 refine wpList_plain hgd fun K hK=>?_
 unfold Oper.wp;simp [execOp,ho,resolve,invoke,builtin,hs,hx,hrun,Result.andThen];exact hK _ _ h
theorem rNorm_any (xs:List Nat) (ao:Option Addr) (n cap B:Nat) (w:World) (hn:n=xs.length) (hc:n≤cap) (hm:n≤35184372088832) (hx:Wf xs) (hR:Rd B w ao xs) (hnil:ao=none→cap=0) :
 Calls Tryz.prog 120 #[.slice ao n cap] w fun r w'=>∃ v,r=.returned v∧Nt w.heap.size w' v (val xs)∧Below w.heap.size w w':=by
 have S:=hid (size_any xs ao n cap B w hn (by omega) hR)
 have hl:=nl_le xs;have hf:=form_eq xs hx;obtain ⟨v',w',hap,hown,hgrow⟩:=append_words w w.heap.size (.slice none 0 0) 0 [] (xs.take (nl xs)) ao (nl xs) cap B 45 (World.ownsRow_nil _ _ _ _) (by rw [List.length_take];omega) (hR.take _) hnil (by omega) (Nat.le_refl _)
 have hN:Nt w.heap.size w' v' (val xs):=by
  unfold Nt;rw [←hf];simpa [Nat.min_eq_left hl] using hown
 have hb:Below w.heap.size w w':=(Below.refl _ _).grown hgrow (Nat.le_refl _) (fun k hk=>by simp [Value.ownBlock] at hk)
 have HN:=(qsd (ai hN hb));obtain ⟨k,hk⟩:∃ k,nl xs=k:=⟨_,rfl⟩;rw [hk] at S hap hl;have hkn:k≤n:=by omega
 have HZ:Aside (n=0→val xs=0):=by intro h0;have:xs=[]:=List.length_eq_zero_iff.1 (by omega);rw [this];rfl
 clear hN hb hown hgrow hf hl hn hx hR hk
 rcases hao:ao with _|a
 · have hc0:=hnil hao
   subst hc0;subst hao;obtain rfl:n=0:=by omega
   obtain rfl:k=0:=by omega
   go_enter Tryz.func120,Tryz.ntmps120
   go_wp2_with fail
   refine S.out.mono ?_;rintro r w1 ⟨rfl,rfl⟩;go_wp2;go_ret;rw [HZ.out (by trivial)]
   exact ⟨_,rfl,Nt.nil _ _,Below.refl _ _⟩
 · subst hao
   go_enter Tryz.func120,Tryz.ntmps120
   go_wp2_with fail
   refine S.out.mono ?_;rintro r w1 ⟨rfl,rfl⟩;have HAP:=hid hap;clear hap
   go_wp2_with (at_builtin;refine wpList_append_run rfl (.tmp 4) (.tmp 8) rfl _ _ rfl rfl _ _ HAP.out ?_)
   go_ret;exact ⟨_,rfl,HN.out.1,HN.out.2⟩
theorem bl_half (x:Nat) (h:x≠0):bl x=bl (x/2)+1:=by
 by_cases h1:x=1
 · subst h1;decide
 · have hx2:x/2≠0:=by omega
   obtain ⟨c,hc⟩:∃ c,bl (x/2)=c+1:=⟨bl (x/2)-1,by have:=bl_pos _ hx2;omega⟩
   have a:=bl_ge _ hx2;have b:=bl_lt (x/2);rw [hc] at a b ⊢;rw [Nat.add_sub_cancel] at a;exact bl_eq x (c+1) (by rw [Nat.pow_succ];omega) (by rw [Nat.pow_succ];omega)
theorem rLen_any (xs:List Nat) (ao:Option Addr) (n cap B:Nat) (w:World) (hn:n=xs.length) (hm:n≤70368744177664) (hx:Wf xs) (hR:Rd B w ao xs) :
 Calls Tryz.prog 124 #[.slice ao n cap] w fun r w'=>r=.returned (.int .i64 (bl (val xs):Nat))∧w'=w:=by
 have H:=hid (size_any xs ao n cap B w hn (by omega) hR)
 have hl:=nl_le xs
 rcases hk:nl xs with _|k
 · rw [(nl_zero_iff xs).1 hk,bl_zero]
   rw [hk] at H;clear hk hl hn hx hR;go_enter Tryz.func124,Tryz.ntmps124
   go_wp2_with fail
   refine H.out.mono ?_;rintro r w1 ⟨rfl,rfl⟩;go_wp2;go_ret;exact ⟨rfl,rfl⟩
 · have hbw:=bl_words xs hx k hk
   rw [hk] at H hl;obtain ⟨e,hlt,h0,hl2⟩:=form_top xs hx k hk;obtain ⟨b,off,hB,rfl,hcell⟩:=hR (by intro e;subst e;simp at hl)
   have hck:=hcell k hl2;obtain ⟨t,ht⟩:∃ t,xs.getD k 0=t:=⟨_,rfl⟩;have htl:t<4294967296:=ht ▸ hx.get k;rw [ht] at hck hbw;have hb:=bl_le32 t htl;have hkn:k<n:=by omega
   have HB:=(qsd (ai hbw hb));clear hk hl hn hx hR e hlt h0 hl2 hcell ht hbw hb;go_enter Tryz.func124,Tryz.ntmps124
   go_wp2_with fail
   refine H.out.mono ?_;rintro r w1 ⟨rfl,rfl⟩;go_wp2
   go_loopg [4,5] t (fun gk bv xv wr=>∃ c:Nat,bv=.int .i64 (c:Nat)∧xv=.int .u32 (gk:Nat)∧gk≤t∧c≤32*k+32∧wr=w1∧Aside (c+bl gk=32*k+bl t))
   case atStart=>exact ⟨32*k,by first | go_num | (congr 1;omega),rfl,Nat.le_refl _,by omega,rfl,rfl⟩
   case round =>
    obtain ⟨c,rfl,rfl,hgt,hc,rfl,HA⟩:=hrel
    by_cases hg0:gk=0
    · subst hg0
      go_wp2;go_ret;have h1:=HA.out;rw [bl_zero,Nat.add_zero] at h1;rw [HB.out.1,←h1];exact ⟨rfl,rfl⟩
    · have hg1:(0:Int)<(gk:Int):=by omega
      obtain ⟨g2,hg2⟩:∃ g,g=gk/2:=⟨_,rfl⟩;have e2:(gk:Int)/2=(g2:Int):=by omega
      have HX:=(qsd (ai hg2 hg0));clear hg2 hg0;go_wp2
      go_roundg g2
      case measure=>obtain ⟨hg2,hg0⟩:=HX.out;omega
      case rel =>
       obtain ⟨hg2,hg0⟩:=HX.out;have h1:=HA.out;have h2:=bl_half gk hg0;rw [←hg2] at h2;have h3:=HB.out.2;exact ⟨c+1,by go_num,by first | rfl | rw [e2],by omega,by omega,rfl,by rw [Aside];omega⟩
end
section
open Go.RowKit
structure Arg (w:World) (a:Option Addr) (n c:Nat) (xs:List Nat):Prop where
 len:n=xs.length
 cap:n≤c
 big:n≤35184372088832
 wf:Wf xs
 rd:Rd w.heap.size w a xs
 nil:a=none→c=0
theorem Arg.below {w w':World}{a:Option Addr}{n c:Nat}{xs:List Nat}(h:Arg w a n c xs) (hb:Below w.heap.size w w'):Arg w' a n c xs :=
 ⟨h.len,h.cap,h.big,h.wf,(h.rd.below hb).mono hb.size,h.nil⟩
theorem Nt.arg {lo:Nat}{w:World}{v:Value}{X:Nat}(h:Nt lo w v X) (hs:(ws X).length≤35184372088832):∃ a c,v=.slice a (ws X).length c∧Arg w a (ws X).length c (ws X):=by
 have h':=h;obtain ⟨a,c,rfl,h1,h2,h3⟩:=h.shape;refine ⟨a,c,rfl,rfl,h1,hs,wf_ws X,h3,fun e=>?_⟩
 rcases h'.2 with ⟨e1,_⟩|⟨g,cap,cur,e1,_⟩
 · simp only [Value.slice.injEq] at e1;exact e1.2.2
 · simp only [Value.slice.injEq] at e1;rw [e1.1] at e;cases e
theorem pw_add_lt {X Y i:Nat}(h1:X<pw i) (h2:Y<pw i):X+Y<pw (i+1):=by rw [pw_succ];omega
theorem one_ok {lo:Nat}{w:World}{r:Ending}{a:Nat×Int}{V:Nat}(h:One lo w r a) (e:a=(V,0)):∃ v,r=.returned (.tuple #[v,.int .i64 0])∧Nt lo w v V:=by
 subst e;exact h
theorem Mul_arg {w:World}{a b:Option Addr}{n c m d:Nat}{xs ys:List Nat}{V:Nat}(h1:Arg w a n c xs) (h2:Arg w b m d ys) (e:mulS (val xs) (val ys)=(V,0)) :
 Calls Tryz.prog 152 #[.slice a n c,.slice b m d] w fun r w'=>∃ v,r=.returned (.tuple #[v,.int .i64 0])∧Nt w.heap.size w' v V∧Below w.heap.size w w' :=
 (Mul_any xs ys a b n c m d w.heap.size w h1.len h2.len h1.cap h2.cap (by have:=h1.big;omega) (by have:=h2.big;omega) h1.wf h2.wf h1.rd h2.rd (Nat.le_refl _)).mono
  fun r w' ⟨ho,hb⟩=>by obtain ⟨v,h3,h4⟩:=one_ok ho e;exact ⟨v,h3,h4,hb⟩
theorem Add_arg {w:World}{a b:Option Addr}{n c m d:Nat}{xs ys:List Nat}{V:Nat}(h1:Arg w a n c xs) (h2:Arg w b m d ys) (e:addS (val xs) (val ys)=(V,0)) :
 Calls Tryz.prog 194 #[.slice a n c,.slice b m d] w fun r w'=>∃ v,r=.returned (.tuple #[v,.int .i64 0])∧Nt w.heap.size w' v V∧Below w.heap.size w w' :=
 (Add_any xs ys a b n c m d w.heap.size w h1.len h2.len h1.cap h2.cap (by have:=h1.big;omega) (by have:=h2.big;omega) h1.wf h2.wf h1.rd h2.rd (Nat.le_refl _)).mono
  fun r w' ⟨ho,hb⟩=>by obtain ⟨v,h3,h4⟩:=one_ok ho e;exact ⟨v,h3,h4,hb⟩
theorem Sub_arg {w:World}{a b:Option Addr}{n c m d:Nat}{xs ys:List Nat}{V:Nat}(h1:Arg w a n c xs) (h2:Arg w b m d ys) (e:subS (val xs) (val ys)=(V,0)) :
 Calls Tryz.prog 196 #[.slice a n c,.slice b m d] w fun r w'=>∃ v,r=.returned (.tuple #[v,.int .i64 0])∧Nt w.heap.size w' v V∧Below w.heap.size w w' :=
 (Sub_any xs ys a b n c m d w.heap.size w h1.len h2.len h1.cap h2.cap (by have:=h1.big;omega) (by have:=h2.big;omega) h1.wf h2.wf h1.rd h2.rd (Nat.le_refl _)).mono
  fun r w' ⟨ho,hb⟩=>by obtain ⟨v,h3,h4⟩:=one_ok ho e;exact ⟨v,h3,h4,hb⟩
theorem Shift_arg {w:World}{a:Option Addr}{n c:Nat}{xs:List Nat}{V:Nat}(by':Int) (h1:Arg w a n c xs) (e:shiftS (val xs) by'=(V,0)) (hb0:-9223372036854775808≤by') (hb1:by'≤9223372036854775807) :
 Calls Tryz.prog 153 #[.slice a n c,.int .i64 by'] w fun r w'=>∃ v,r=.returned (.tuple #[v,.int .i64 0])∧Nt w.heap.size w' v V∧Below w.heap.size w w' :=
 (Shift_any xs a n c w.heap.size by' w h1.len h1.cap (by have:=h1.big;omega) h1.wf h1.rd (Nat.le_refl _) hb0 hb1).mono
  fun r w' ⟨ho,hb⟩=>by obtain ⟨v,h3,h4⟩:=one_ok ho e;exact ⟨v,h3,h4,hb⟩
theorem Cmp_arg {w:World}{a b:Option Addr}{n c m d:Nat}{xs ys:List Nat}(h1:Arg w a n c xs) (h2:Arg w b m d ys) (z:Int) (e:cmpI (val xs) (val ys)=z) :
 Calls Tryz.prog 195 #[.slice a n c,.slice b m d] w fun r w'=>r=.returned (.int .i64 z)∧Below w.heap.size w w':=by
 have:=cmp_any xs ys a b n c m d w.heap.size w h1.len h2.len h1.cap h2.cap (by have:=h1.big;omega) (by have:=h2.big;omega) h1.wf h2.wf h1.rd h2.rd
 rw [e] at this;exact this
theorem addS_ok {X Y V:Nat}(h3:¬ LG V) (e:X+Y=V):addS X Y=(V,0):=by subst e;unfold addS;rw [if_neg h3]
theorem subS_ok {X Y V:Nat}(h1:¬ LG X) (h2:¬ LG Y) (e:V+Y=X):subS X Y=(V,0):=by unfold subS;rw [if_neg (by simp [h1,h2]),if_neg (by omega)];congr 1;omega
end
section
open Go.RowKit
def Bl (w:World) (g T:Nat) (C:List Value):Prop:=w.heap[g]?=some (.cells C.toArray T (0,0))
theorem Bl.lt {w:World}{g T:Nat}{C:List Value}(h:Bl w g T C):g<w.heap.size:=(Array.getElem?_eq_some_iff.1 h).1
theorem Bl.cell {w:World}{g T:Nat}{C:List Value}(h:Bl w g T C) (i:Nat) (v:Value) (hv:C[i]?=some v):w.cell? ⟨g,i,none⟩=some v:=by
 unfold Bl at h;simp [World.cell?,h,hv]
theorem Bl.frozen {w:World}{g T:Nat}{C:List Value}(h:Bl w g T C) (i:Nat):w.frozen? ⟨g,i,none⟩=false:=by
 unfold Bl at h;simp [World.frozen?,h]
theorem Bl.set {w:World}{g T:Nat}{C:List Value}(h:Bl w g T C) (i:Nat) (v:Value):Bl (w.setCell ⟨g,i,none⟩ v) g T (C.set i v):=by
 unfold Bl at h ⊢;simp [World.setCell,Array.getElem?_modify,h]
theorem Bl.drew {w:World}{g T:Nat}{C:List Value}(h:Bl w g T C):Bl w.drew g T C:=h
theorem Bl.below {w w':World}{g T B:Nat}{C:List Value}(h:Bl w g T C) (hb:Below B w w') (hg:g<B):Bl w' g T C:=by
 unfold Bl at h ⊢;rw [hb.block g hg];exact h
theorem Bl.but {w w':World}{g g' T:Nat}{C:List Value}(h:Bl w g T C) (hb:But g' w w') (hg:g≠g'):Bl w' g T C:=by
 unfold Bl at h ⊢;rw [hb.block g (Bl.lt h) hg];exact h
theorem Bl.range {w:World}{g T:Nat}{C:List Value}(h:Bl w g T C) (o:Nat) (cs:List Value) (hc:∀ j v,cs[j]?=some v→C[o+j]?=some v):w.rangeAt g o cs :=
 fun j v hv=>h.cell _ _ (hc j v hv)
theorem Bl.there {w:World}{g T:Nat}{C:List Value}(h:Bl w g T C) (o n:Nat) (hn:o+n≤C.length):w.there g o n :=
 fun j hj=>⟨by rw [h.cell (o+j) _ (List.getElem?_eq_getElem (by omega))];rfl,h.frozen _⟩
theorem Bl.setCells {g T:Nat}:∀ (vs:List Value) (o:Nat) {w:World}{C:List Value}(h:Bl w g T C) (hn:o+vs.length≤C.length),Bl (w.setCells g o vs) g T (C.take o++vs++C.drop (o+vs.length))
 | [],o,w,C,h,hn=>by simpa [World.setCells] using h
 | v::r,o,w,C,h,hn=>by
   rw [World.setCells];have:=Bl.setCells r (o+1) (h.set o v) (by simp at hn ⊢;omega)
   simp only [List.length_cons] at hn
   have e:(C.set o v).take (o+1)++r++(C.set o v).drop (o+1+r.length)=C.take o++(v::r)++C.drop (o+(v::r).length):=by
    rw [List.drop_set,if_pos (by omega),List.take_succ_eq_append_getElem (by simp;omega),List.getElem_set_self,List.take_set,List.set_eq_of_length_le (by simp;omega)]
    simp [Nat.add_assoc,Nat.add_comm 1]
   rw [e] at this;exact this
theorem Bl.setAll {g T:Nat}{w:World}{C vs:List Value}(h:Bl w g T C) (hn:vs.length=C.length):Bl (w.setCells g 0 vs) g T vs:=by
 have:=Bl.setCells vs 0 h (by omega)
 rw [hn] at this;simpa using this
theorem But.setCells {g:Nat}{a:World}:∀ (vs:List Value) (o:Nat) {w:World}(h:But g a w),But g a (w.setCells g o vs)
 | [],o,w,h=>h
 | v::r,o,w,h=>by rw [World.setCells];exact But.setCells r (o+1) (h.set o v)
theorem bel_alloc (w:World) (o:Obj):Below w.heap.size w (w.alloc o):=(Below.refl _ _).alloc (Nat.le_refl _) _
theorem Bl.alloc {w:World}{g T:Nat}{C:List Value}(h:Bl w g T C) (o:Obj):Bl (w.alloc o) g T C:=by
 unfold Bl at h ⊢;rw [(bel_alloc w o).block g (Bl.lt h)];exact h
theorem Bl.new (w:World) (T:Nat) (C:List Value):Bl (w.alloc (.cells C.toArray T)) w.heap.size T C:=by
 unfold Bl;rw [heap_alloc_new]
theorem Bl.new' (w:World) (T n:Nat) (C:List Value) (hn:n=w.heap.size):Bl (w.alloc (.cells C.toArray T)) n T C:=by
 subst hn;exact Bl.new w T C
theorem Wb.bl {w:World}{g:Nat}{L:List Nat}(h:Wb w g L):Bl w g 135 (L.map U):=h
theorem Bl.wb {w:World}{g:Nat}{L:List Nat}(h:Bl w g 135 (L.map U)):Wb w g L:=h
theorem oneCell_U (L:List Nat):((L.map U).toArray).all (·.oneCell')=true:=all_oneCell_toArray fun v hv=>by
 obtain ⟨x,_,rfl⟩:=List.mem_map.1 hv;rfl
theorem Tryz.zero_words:Tryz.zeroCells135=(List.replicate 133 (Value.int .u32 0)).toArray:=by kernel_rfl
theorem Tryz.size_words:(Tryz.prog.info? 135).map (·.size)=some 133:=by kernel_rfl
theorem Tryz.desc_words:Tryz.prog.underlying 135=some (.array 133 133):=by kernel_rfl
theorem emod_add' (x y n:Int):(x%n+y)%n=(x+y)%n:=by simp
def sgn7 (ng:Bool) (T:Nat):Int:=if ng then -(T:Int) else (T:Int)
theorem sgn_zero (ng:Bool):sgn7 ng 0=0:=by cases ng <;> simp [sgn7]
theorem sgn_add (ng:Bool) (a b:Nat):sgn7 ng (a+b)=sgn7 ng a+sgn7 ng b:=by cases ng <;> simp [sgn7];omega
theorem with_step (xs:List Nat) (k p:Nat) (hk:k<xs.length):val (xs.take (k+1))*2^p=val (xs.take k)*2^p+xs.getD k 0*2^(p+32*k):=by
 rw [val_take_succ xs k hk,Nat.add_mul,pw_pow,Nat.pow_add]
 congr 1
 rw [Nat.mul_comm (2^(32*k)),Nat.mul_assoc,Nat.mul_comm (2^(32*k))]
theorem with_any (L xs:List Nat) (ao:Option Addr) (n cap p:Nat) (kd:Int) (ng:Bool) (w:World) (hl:L.length=133) (hL:Wf L) (hA:Arg w ao n cap xs) (hp:p+32*n≤4256) :
 Calls Tryz.prog 164 #[.agg (L.map U).toArray,.agg #[.int .i64 kd,.bool ng,.slice ao n cap,.int .i64 (p:Nat)]] w fun r w' =>
  ∃ M,r=.returned (.agg (M.map U).toArray)∧M.length=133∧Wf M∧(val M:Int)=((val L:Int)+sgn7 ng (val xs*2^p))%(PB:Int)∧Below w.heap.size w w':=by
 have HR:Aside (Wf L∧L.length=133∧Arg w ao n cap xs):=⟨hL,hl,hA⟩;clear hL hl hA;go_enter Tryz.func164,Tryz.ntmps164;go_wp2;obtain ⟨w3,hw3⟩:∃ w3,w3=(((w.alloc (Obj.cells (L.map U).toArray 135)).alloc (Obj.cells #[Value.int IntKind.i64 kd,Value.bool ng,Value.slice ao n cap,Value.int IntKind.i64 (p:Nat)] 140)).alloc (Obj.cells Tryz.zeroCells135 135)):=⟨_,rfl⟩;rw [←hw3]
 have H3:Aside (Below w.heap.size w w3∧Wb w3 w.heap.size L∧Bl w3 (w.heap.size+1) 140 [Value.int IntKind.i64 kd,Value.bool ng,Value.slice ao n cap,Value.int IntKind.i64 (p:Nat)]∧Bl w3 (w.heap.size+1+1) 135 (List.replicate 133 (Value.int .u32 0))∧w3.heap.size=w.heap.size+3):=by
  subst hw3;refine ⟨?_,?_,?_,?_,by simp⟩
  · exact ((bel_alloc w _).trans ((bel_alloc _ _).mono (by simp))).trans ((bel_alloc _ _).mono (by simp;omega))
  · exact (((Bl.new w 135 (L.map U)).alloc _).alloc _).wb
  · exact (Bl.new' (w.alloc (Obj.cells (L.map U).toArray 135)) 140 _ [_,_,_,_] (by simp)).alloc _
  · rw [Tryz.zero_words];exact Bl.new' _ 135 _ _ (by simp)
 clear hw3
 go_loopg [10] n (fun gk i wr=>∃ (k:Nat) (M:List Nat),gk+k=n∧i=.int .i64 (k:Nat) ∧
  Aside (Wb wr w.heap.size M∧Wf M∧M.length=133∧(val M:Int)=((val L:Int)+sgn7 ng (val (xs.take k)*2^p))%(PB:Int)∧But w.heap.size w3 wr))
 case atStart=>exact ⟨0,L,by omega,by simp,H3.out.2.1,HR.out.1,HR.out.2.1,by simp only [List.take_zero,val,Nat.zero_mul,sgn_zero,Int.add_zero];rw [Int.emod_eq_of_lt (by omega) (by have:=val_lt_PB HR.out.2.1 HR.out.1;omega)],But.refl _ _⟩
 case round =>
  obtain ⟨k,M,hgk,rfl,HA⟩:=hrel
  by_cases hk:k<n
  · obtain ⟨hL,hl,hA⟩:=HR.out
    obtain ⟨hM,hMw,hMl,hMs,hbut⟩:=HA.out;obtain ⟨b3,_,T3,Z3,s3⟩:=H3.out;obtain ⟨b,boff,hbB,rfl,hbc⟩:=hA.rd (by intro e;subst e;have:=hA.len;simp at this;omega)
    have hbk:wr.cell? ⟨b,boff+k,none⟩=some (.int .u32 ((xs.getD k 0:Nat):Int)):=by
     have h0:=b3.block b hbB;have h1:=hbut.block b (by omega) (by omega)
     exact (World.cell?_of_block (a:=⟨b,boff+k,none⟩) (h1.trans h0)).trans (hbc k (by rw [←hA.len];omega))
    have T4:=T3.but hbut (by omega)
    have c1:=T4.cell 1 _ rfl;have c3:=T4.cell 3 _ rfl;obtain ⟨y,hy⟩:∃ y:Nat,xs.getD k 0=y:=⟨_,rfl⟩;have hyl:y<4294967296:=hy ▸ hA.wf.get _;rw [hy] at hbk;have HX:Aside (xs.getD k 0=y):=hy;have HB:Aside (∀ i,i<xs.length→w.cell? ⟨b,boff+i,none⟩=some (.int .u32 ((xs.getD i 0:Nat):Int))):=hbc;clear hy hL hl hA hM hMw hMl hMs hbut b3 T3 Z3 s3 T4 hbc
    cases ng
    · go_wp2_with fail
      rw [show (p:Int)+32*(k:Int)=((p+32*k:Nat):Int) by simp]
      obtain ⟨hM,hMw,hMl,hMs,hbut⟩:=HA.out;refine (Calls.mono (wadd_any M w.heap.size y (p+32*k) wr hM hMl hMw hyl (by omega)) ?_)
      rintro r w' ⟨rfl,M',hM',hMl',hMw',hv',hb'⟩;have HA':Aside (Wb w' w.heap.size M'∧Wf M'∧M'.length=133∧val M'=(val M+y*2^(p+32*k))%PB∧But w.heap.size wr w'):=⟨hM',hMw',hMl',hv',hb'⟩;clear hM hMw hMl hMs hbut hM' hMl' hMw' hv' hb';go_wp2
      go_roundg (gk-1)
      case measure=>omega
      case rel =>
       obtain ⟨hM',hMw',hMl',hv',hb'⟩:=HA'.out;obtain ⟨hM,hMw,hMl,hMs,hbut⟩:=HA.out;refine ⟨k+1,M',by omega,by simp,hM',hMw',hMl',?_,hbut.trans hb'⟩
       rw [with_step xs k p (by rw [←HR.out.2.2.len];exact hk),HX.out,sgn_add,←Int.add_assoc,←emod_add',←hMs,hv']
       simp [sgn7]
    · go_wp2_with fail
      rw [show (p:Int)+32*(k:Int)=((p+32*k:Nat):Int) by simp]
      obtain ⟨hM,hMw,hMl,hMs,hbut⟩:=HA.out;refine (Calls.mono (wtake_any M w.heap.size y (p+32*k) wr hM hMl hMw hyl (by omega)) ?_)
      rintro r w' ⟨rfl,M',hM',hMl',hMw',hv',hb'⟩;have HA':Aside (Wb w' w.heap.size M'∧Wf M'∧M'.length=133∧(val M':Int)=((val M:Int)-((y*2^(p+32*k):Nat):Int))%(PB:Int)∧But w.heap.size wr w'):=⟨hM',hMw',hMl',hv',hb'⟩;clear hM hMw hMl hMs hbut hM' hMl' hMw' hv' hb';go_wp2
      go_roundg (gk-1)
      case measure=>omega
      case rel =>
       obtain ⟨hM',hMw',hMl',hv',hb'⟩:=HA'.out;obtain ⟨hM,hMw,hMl,hMs,hbut⟩:=HA.out;refine ⟨k+1,M',by omega,by simp,hM',hMw',hMl',?_,hbut.trans hb'⟩
       rw [with_step xs k p (by rw [←HR.out.2.2.len];exact hk),HX.out,sgn_add,←Int.add_assoc,←emod_add',←hMs,hv']
       simp only [sgn7,if_true,Int.sub_eq_add_neg]
  · obtain rfl:k=n:=by omega
    obtain ⟨hM,hMw,hMl,hMs,hbut⟩:=HA.out;obtain ⟨b3,_,T3,Z3,s3⟩:=H3.out;have HZ:Aside (Bl wr (w.heap.size+1+1) 135 (List.replicate 133 (Value.int .u32 0))):=Z3.but hbut (by omega)
    have HB:Aside (Below w.heap.size w w3∧w3.heap.size=w.heap.size+3):=⟨b3,s3⟩;clear hM hMw hMl hMs hbut b3 T3 Z3 s3
    go_wp2_with (first
     | (with_reducible refine wpList_load_mid (P:=Tryz.prog) rfl 135 (.tmp 2) rfl w.heap.size 0 rfl (M.map U) _ (HA.out.1.bl.range 0 _ (fun j v hv=>by simpa using hv)) Tryz.desc_words rfl (by simp [Tryz.size_words,HA.out.2.2.1]) ?_)
     | (with_reducible refine wpList_store_mid (P:=Tryz.prog) rfl 135 (.tmp 4) (.tmp 32) rfl (w.heap.size+1+1) 0 (M.map U).toArray rfl rfl (HZ.out.there 0 _ (by simp [HA.out.2.2.1])) (by simp [Tryz.size_words,HA.out.2.2.1]) (oneCell_U M) ?_))
    have hZ:Bl (wr.setCells (w.heap.size+1+1) 0 (M.map U)) (w.heap.size+1+1) 135 (M.map U):=HZ.out.setAll (by simp [HA.out.2.2.1])
    refine bodyPost_ret (v:=.agg (M.map U).toArray) (results_cell_row (P:=Tryz.prog) Tryz.results164 _ _ (w.heap.size+1+1) 135 _ _ _ rfl hZ Tryz.desc_words rfl (by simp [Tryz.size_words,HA.out.2.2.1])) rfl ?_
    obtain ⟨hM,hMw,hMl,hMs,hbut⟩:=HA.out;obtain ⟨b3,s3⟩:=HB.out;refine ⟨M,rfl,hMl,hMw,?_,?_⟩
    · rw [hMs,List.take_of_length_le (by rw [←HR.out.2.2.len];exact Nat.le_refl _)]
    · exact But.below (But.below b3 hbut (by omega) (Nat.le_refl _)) (But.setCells _ _ (But.refl _ _)) (by have:=hbut.size;omega) (by omega)
end
section
open Go.RowKit
def Hd (w:World) (g:Nat) (L:List Nat):Prop:=g<w.heap.size∧∀ i,i<L.length→w.cell? ⟨g,i,none⟩=some (.int .u32 ((L.getD i 0:Nat):Int))
theorem Hd.below {w w':World}{g B:Nat}{L:List Nat}(h:Hd w g L) (hb:Below B w w') (hg:g<B) (hB:B≤w.heap.size):Hd w' g L :=
 ⟨by have:=hb.size;omega,fun i hi=>(hb.cell (p:=⟨g,i,none⟩) hg).trans (h.2 i hi)⟩
theorem Bl.hd {w:World}{g T:Nat}{L:List Nat}{C:List Value}(h:Bl w g T (L.map U++C)):Hd w g L :=
 ⟨h.lt,fun i hi=>h.cell i _ (by rw [List.getElem?_append_left (by simpa using hi)];simp [U,List.getD_eq_getElem?_getD,List.getElem?_eq_getElem hi])⟩
theorem Wb.hd {w:World}{g:Nat}{L:List Nat}(h:Wb w g L):Hd w g L:=⟨h.lt,fun i hi=>h.cell i hi⟩
end
end Go.Proofs.YthfkleadcnkglaaGreatDoor
