import Derived.Test.YtblkpkgebigojaaGreatDoorS7x
import Derived.Test.YtblkpkgebigojaaGreatDoorW13x
import Derived.Test.YtblkpkgebigojaaGreatDoorW17x
import Derived.ProofKit
import Derived.OpenShut
import Derived.ChangeOld
import Derived.SizedLaws
set_option linter.unusedVariables false
set_option linter.unusedSimpArgs false
set_option maxHeartbeats 16000000
set_option maxRecDepth 20000
namespace Go.Proofs.YtblkpkgebigojaaGreatDoor
section
open Go.RowKit
theorem Zf2 (M M2 xs bs:List Nat) (k n m c y:Nat) (hMl:M.length=n+m) (hk:k<n) (hn:n=xs.length) (hm:m=bs.length) (hMs:sg M 0 (k+m)=sg xs 0 k*val bs) (hy:xs.getD k 0=y)
 (hout:Out M M2 k m) (hsum:sg M2 k m+c*pw m=sg M k m+val bs*y):sg (M2.set (k+m) c) 0 (k+1+m)=sg xs 0 (k+1)*val bs:=by
 have e1:=Zl M2 0 (k+m) c (by rw [hout.1];omega)
 rw [Nat.zero_add] at e1;have e2:=Qt M2 0 k m (by rw [hout.1];omega)
 have e3:=Qt M 0 k m (by omega)
 rw [Nat.zero_add] at e2 e3;have e4:=hout.below 0 k (by omega) (by omega)
 rw [show k+1+m=k+m+1 by omega,e1,e2,e4,Zi xs 0 k (by omega),Nat.zero_add,hy,Zbh]
 rw [e3] at hMs;rw [Nat.mul_comm c] at hsum;have:=Zgy (pw k) _ _ y _ _ c hMs;rw [←hsum] at this;rw [←this,Nat.mul_add,Nat.mul_assoc,Nat.add_assoc]
theorem Zig (xs bs:List Nat) (ao bo:Option Addr) (n cap m capb B:Nat) (w:World) (hn:n=xs.length) (hm:m=bs.length) (hc:n≤cap) (hcb:m≤capb) (hbig:n+m≤35184372088832)
 (hx:Wf xs) (hb:Wf bs) (hR:Rd B w ao xs) (hS:Rd B w bo bs) (hB:B≤w.heap.size) :
 Calls Tryz.prog 119 #[.slice ao n cap,.slice bo m capb] w fun r w'=>∃ v,r=.returned v∧Nt w.heap.size w' v (val xs*val bs)∧Below w.heap.size w w':=by
 obtain ⟨W1,hW1⟩:∃ W,W=w.alloc (.cells (madeCells #[.int .u32 0] (n+m)) 147):=⟨_,rfl⟩;have hO1:Own W1 w.heap.size (List.replicate (n+m) 0):=by rw [hW1];exact Own.made w (n+m)
 have hB1:Below w.heap.size w W1:=by rw [hW1];exact (Below.refl _ _).alloc (Nat.le_refl _) _
 have hmk:=Zt ((n:Int)+m) (n+m) (by omega) (by omega) w
 rw [←hW1] at hmk;have hR1:Rd B W1 ao xs:=hR.below (hB1.mono hB);have hS1:Rd B W1 bo bs:=hS.below (hB1.mono hB);obtain ⟨g,hg⟩:∃ g,g=w.heap.size:=⟨_,rfl⟩;rw [←hg] at hO1 hmk hB1 hB;have HR:=(qsd (ai hR1 (ai hS1 (ai hm (ai hb (ai hx (ai hn (ai hB1 hg))))))));have HO:=hid hO1;clear hn hm hx hb hR hS hO1 hB1 hW1 hR1 hS1 hg;go_enter Tryz.func119,Tryz.ntmps119;go_wp2
 go_loopg [6] n (fun gk i wr=>∃ (k:Nat) (M:List Nat),gk+k=n∧i=.int .i64 (k:Nat) ∧
  Hid (Own wr g M)∧Aside (Wf M∧M.length=n+m∧sg M 0 (k+m)=sg xs 0 k*val bs∧But g W1 wr))
 case atStart=>exact ⟨0,_,by omega,rfl,HO,Wf.zeros _,by simp,by rw [Zar,Zy];simp,But.refl _ _⟩
 case round =>
  obtain ⟨i,L,hgk,rfl,HM,HA⟩:=hrel
  by_cases hi:i<n
  · obtain ⟨hR,hS,hm,hb,hx,hn,hB1,hg⟩:=HR.out
    obtain ⟨a,aoff,haB,rfl,hac⟩:=hR (by intro e;subst e;simp at hn;omega)
    have hW1s:g≤W1.heap.size:=by have:=hB1.size;omega
    have HAC:Aside (W1.cell? ⟨a,aoff+i,none⟩=some (.int .u32 ((xs.getD i 0:Nat):Int))∧a<B∧a<W1.heap.size):=⟨hac i (by omega),haB,World.block_lt_of_cell? W1 ⟨a,aoff+i,none⟩ (hac i (by omega))⟩
    obtain ⟨q,hq⟩:∃ q:Nat,xs.getD i 0=q:=⟨_,rfl⟩;have hql:q<4294967296:=hq ▸ hx.get _;rw [hq] at HAC;have HQ:=qsd hq;clear hq hR hS hm hb hx hn hB1 hg hac;go_wp2
    go_loopg [7,8] m (fun gk c kv w2=>∃ (k cv:Nat) (M:List Nat),gk+k=m∧c=.int .u64 (cv:Nat)∧cv<4294967296∧kv=.int .i64 (k:Nat) ∧
     Hid (Own w2 g M)∧Aside (Wf M∧Out L M i k∧sg M i k+cv*pw k=sg L i k+sg bs 0 k*q∧But g W1 w2))
    case atStart=>exact ⟨0,0,L,by omega,rfl,by omega,rfl,HM,HA.out.1,Out.refl _ _ _,by simp [Zy],HA.out.2.2.2⟩
    case round =>
     obtain ⟨k,cv,M,hgk2,rfl,hcv,rfl,HN,HC⟩:=hrel
     by_cases hk:k<m
     · obtain ⟨hR,hS,hm,hb,hx,hn,hB1,hg⟩:=HR.out
       obtain ⟨hMw,hMo,hMs,hbut⟩:=HC.out;obtain ⟨hLw,hLl,_,_⟩:=HA.out;obtain ⟨b,boff,hbB,rfl,hbc⟩:=hS (by intro e;subst e;simp at hm;omega)
       have hbk:wr.cell? ⟨b,boff+k,none⟩=some (.int .u32 ((bs.getD k 0:Nat):Int)):=by
        have h1:=hbut.block b (World.block_lt_of_cell? W1 ⟨b,boff+k,none⟩ (hbc k (by omega))) (by omega)
        exact (World.cell?_of_block (a:=⟨b,boff+k,none⟩) h1).trans (hbc k (by omega))
       have hak:wr.cell? ⟨a,aoff+i,none⟩=some (.int .u32 (q:Nat)):=by
        have h1:=hbut.block a HAC.out.2.2 (by have:=HAC.out.2.1;omega)
        exact (World.cell?_of_block (a:=⟨a,aoff+i,none⟩) h1).trans HAC.out.1
       have hgc:=HN.out.cell (i+k) (by rw [hMo.1];omega)
       have hgf:=HN.out.frozen (i+k);obtain ⟨x,hxx⟩:∃ x:Nat,M.getD (i+k) 0=x:=⟨_,rfl⟩;obtain ⟨y,hyy⟩:∃ y:Nat,bs.getD k 0=y:=⟨_,rfl⟩;have hxl:x<4294967296:=hxx ▸ hMw.get _;have hyl:y<4294967296:=hyy ▸ hb.get _;rw [hxx] at hgc;rw [hyy] at hbk;have hp0:=Za8 q y hql hyl;have hp2:(q:Int)*(y:Int)≤18446744065119617025:=by rw [←Int.natCast_mul];omega
       have hp1:0≤(q:Int)*(y:Int):=by rw [←Int.natCast_mul];omega
       obtain ⟨s,hs⟩:∃ s:Nat,s=(q*y+x+cv)%4294967296:=⟨_,rfl⟩;obtain ⟨d,hd⟩:∃ d:Nat,d=(q*y+x+cv)/4294967296:=⟨_,rfl⟩;have e0:((q*y+x+cv:Nat):Int)=(q:Int)*y+x+cv:=by simp only [Int.natCast_add,Int.natCast_mul]
       have e1:((q:Int)*y+x+cv)%4294967296=(s:Int):=by rw [←e0];omega
       have e2:((q:Int)*y+x+cv)/4294967296=(d:Int):=by rw [←e0];omega
       have HX:Aside (M.getD (i+k) 0=x∧bs.getD k 0=y∧s+d*4294967296=y*q+x+cv∧s<4294967296∧d<4294967296):=⟨hxx,hyy,by rw [Nat.mul_comm y q];omega,by omega,by omega⟩
       have hik:i+k<n+m:=by omega
       clear hxx hyy hs hd hR hS hm hb hx hn hB1 hg hMw hMo hMs hbut hbc e0 hp0 hLw hLl;go_wp2
       go_quiet (fail)
       go_wp2
       go_roundg (gk-1)
       case measure=>omega
       case rel =>
        obtain ⟨hxx,hyy,he,hs,hd⟩:=HX.out;obtain ⟨hR,hS,hm,hb,hx,hn,hB1,hg⟩:=HR.out;obtain ⟨hMw,hMo,hMs,hbut⟩:=HC.out;obtain ⟨hLw,hLl,_,_⟩:=HA.out;refine ⟨k+1,d,M.set (i+k) s,by omega,by first | rfl | rw [e2],hd,by first | go_num | (congr 1;omega),HN.out.set _ _,hMw.set _ _ hs,(hMo.mono (by omega)).set _ _ (by omega) (by omega),?_,(But.drewN hbut _).set _ _⟩
        rw [Zl _ _ _ _ (by rw [hMo.1];omega),Zi L i k (by omega),Zi bs 0 k (by omega),Nat.zero_add,hyy,Zh]
        have e:L.getD (i+k) 0=x:=by rw [←hxx];exact (hMo.2 _ (by omega)).symm
        rw [e];exact Zcm _ _ _ _ _ _ _ _ _ _ hMs he
     · obtain rfl:k=m:=by omega
       obtain ⟨hLw,hLl,hLs,hLb⟩:=HA.out;have hgc:=HN.out.cell (i+k) (by rw [HC.out.2.1.1];omega)
       have hgf:=HN.out.frozen (i+k);have hik:i+k<n+k:=by omega
       have hcm:(cv:Int)%4294967296=(cv:Int):=by omega
       clear hLw hLl hLs hLb;go_wp2
       go_roundg (n-(i+1))
       case measure=>omega
       case rel =>
        obtain ⟨hR,hS,hm,hb,hx,hn,hB1,hg⟩:=HR.out;obtain ⟨hMw,hMo,hMs,hbut⟩:=HC.out;obtain ⟨hLw,hLl,hLs,hLb⟩:=HA.out;refine ⟨i+1,M.set (i+k) cv,by omega,by first | go_num | (congr 1;omega),HN.out.set _ _,hMw.set _ _ hcv,by simp [hMo.1,hLl],?_,hbut.set _ _⟩
        have e2:sg bs 0 k=val bs:=by rw [hm];exact Zr bs
        rw [e2] at hMs;exact Zf2 L M xs bs i n k cv q hLl hi hn hm hLs HQ.out hMo hMs
  · obtain rfl:i=n:=by omega
    obtain ⟨hMw,hMl,hMs,hbut⟩:=HA.out;have T:=hid (Qy L (some ⟨g,0,none⟩) (i+m) (i+m) (g+1) wr hMl.symm (Nat.le_refl _) (by omega) hMw (by simpa [hMl,List.take_of_length_le] using Rd.ofOwn HM.out 0 (i+m)) (fun e=>by cases e))
    clear hMw hMl hMs hbut
    go_wp2_with fail
    refine T.out.mono ?_;rintro r w1 ⟨v,rfl,hNt,hbb⟩;have HZ:=(qsd (ai hNt hbb));clear hNt hbb;go_wp2;go_ret;obtain ⟨hR,hS,hm,hb,hx,hn,hB1,hg⟩:=HR.out;obtain ⟨hMw,hMl,hMs,hbut⟩:=HA.out;have e1:sg L 0 (i+m)=val L:=by rw [←hMl];exact Zr L
    have e2:sg xs 0 i=val xs:=by rw [hn];exact Zr xs
    rw [e1,e2] at hMs;have hsz1:=hB1.size;have hsz2:=hbut.size;have hbel:Below g w wr:=But.below hB1 hbut (by omega) (Nat.le_refl _)
    rw [←hMs,←hg];exact ⟨v,rfl,HZ.out.1.mono (by omega),hbel.trans (HZ.out.2.mono (by omega))⟩
theorem Yi {w:World}{a b:Option Addr}{n c m d:Nat}{xs ys:List Nat}{V:Nat}(h1:Arg w a n c xs) (h2:Arg w b m d ys) (hs:n+m≤35184372088832) (e:val xs*val ys=V) :
 Calls Tryz.prog 119 #[.slice a n c,.slice b m d] w fun r w'=>∃ v,r=.returned v∧Nt w.heap.size w' v V∧Below w.heap.size w w':=by
 subst e;exact Zig xs ys a b n c m d w.heap.size w h1.len h2.len h1.cap h2.cap hs h1.wf h2.wf h1.rd h2.rd (Nat.le_refl _)
theorem Zd3 {w:World}{a b:Option Addr}{n c m d:Nat}{xs ys:List Nat}{V:Nat}(h1:Arg w a n c xs) (h2:Arg w b m d ys) (hs1:n≤35184372088000) (hs2:m≤35184372088000) (e:val xs+val ys=V) :
 Calls Tryz.prog 136 #[.slice a n c,.slice b m d] w fun r w'=>∃ v,r=.returned v∧Nt w.heap.size w' v V∧Below w.heap.size w w':=by
 subst e;exact Zlw xs ys a b n c m d w.heap.size w h1.len h2.len h1.cap h2.cap hs1 hs2 h1.wf h2.wf h1.rd h2.rd (Nat.le_refl _)
theorem Zaf {w:World}{a b:Option Addr}{n c m d:Nat}{xs ys:List Nat}{V:Nat}(h1:Arg w a n c xs) (h2:Arg w b m d ys) (hs1:n≤35184372088000) (hs2:m≤35184372088000) (e:V+val ys=val xs) :
 Calls Tryz.prog 138 #[.slice a n c,.slice b m d] w fun r w'=>∃ v,r=.returned v∧Nt w.heap.size w' v V∧Below w.heap.size w w':=by
 have h:=Zh6 xs ys a b n c m d w.heap.size w h1.len h2.len h1.cap h2.cap hs1 hs2 h1.wf h2.wf h1.rd h2.rd (Nat.le_refl _) (by omega)
 rw [show val xs-val ys=V by omega] at h
 exact h
theorem Q5 {w:World}{a b:Option Addr}{n c m d:Nat}{xs ys:List Nat}(h1:Arg w a n c xs) (h2:Arg w b m d ys) (z:Int) (e:cmpI (val xs) (val ys)=z) :
 Calls Tryz.prog 137 #[.slice a n c,.slice b m d] w fun r w'=>r=.returned (.int .i64 z)∧Below w.heap.size w w':=by
 have:=Znw xs ys a b n c m d w.heap.size w h1.len h2.len (by have:=h1.big;omega) (by have:=h2.big;omega) h1.wf h2.wf h1.rd h2.rd
 rw [e] at this;exact this
theorem Zay (w:World) (d:Nat) (hd:d<4294967296):Arg (w.alloc (.cells #[.int .u32 (d:Int)] 147)) (some ⟨w.heap.size,0,none⟩) 1 1 [d]:=by
 refine ⟨rfl,Nat.le_refl _,by omega,Wf.cons hd Wf.nil,fun _=>⟨w.heap.size,0,by simp,rfl,fun i hi=>?_⟩,fun e=>by cases e⟩
 obtain rfl:i=0:=by simpa using hi
 unfold World.cell?;simp only [heap_alloc_new];rfl
theorem Za (w:World) (o:Obj):Below w.heap.size w (w.alloc o):=(Below.refl _ _).alloc (Nat.le_refl _) _
theorem Zpf (N n:Nat) (h:N<pw n):bl N≤32*n:=by
 by_cases h0:N=0
 · rw [h0,Zu];omega
 · have h1:=Qi N h0
   rcases Nat.lt_or_ge (32*n) (bl N) with h2|h2
   · exfalso
     have h3:2^(32*n)≤2^(bl N-1):=Nat.pow_le_pow_right (by omega) (by omega)
     have h4:pw n=2^(32*n):=by unfold pw;rw [Nat.pow_mul]
     omega
   · exact h2
theorem Nt.but {lo g:Nat}{w w':World}{v:Value}{X:Nat}(h:Nt lo w v X) (hb:But g w w') (hg:g<lo):Nt lo w' v X:=by
 have h1:Rw lo w v (ws X).length ((ws X).map U):=h
 exact row_other h1 fun b hb2=>by
  obtain ⟨h2,h3⟩:=h.lt b hb2;exact hb.block b h3 (by omega)
theorem Zd4 {w:World}{a:Option Addr}{n c:Nat}{xs:List Nat}{V:Nat}(h1:Arg w a n c xs) (e:val xs=V) :
 Calls Tryz.prog 121 #[.slice a n c] w fun r w'=>∃ v,r=.returned v∧Nt w.heap.size w' v V∧Below w.heap.size w w':=by
 subst e;exact Qy xs a n c w.heap.size w h1.len h1.cap h1.big h1.wf h1.rd h1.nil
theorem Zjx {x y:Nat}(h:y≤x):0≤cmpI x y:=by unfold cmpI;split <;> (try split) <;> omega
theorem Zrg {x y:Nat}(h:x≤y):cmpI x y≤0:=by unfold cmpI;split <;> (try split) <;> omega
theorem Zmb (X Y f t:Nat) (h1:Y*f≤X) (h2:X<Y*t) (h3:f<t) (h4:t-f≤1):X/Y=f:=by
 obtain rfl:t=f+1:=by omega
 exact Nat.div_eq_of_lt_le (by rw [Nat.mul_comm];exact h1) (by rw [Nat.mul_comm];exact h2)
theorem Zmc {w:World}{a b:Option Addr}{n c m d:Nat}{xs ys:List Nat}(h1:Arg w a n c xs) (h2:Arg w b m d ys) (hm:m≤35184372088000) (hlt:val xs<val ys*4294967296) :
 Calls Tryz.prog 212 #[.slice a n c,.slice b m d] w fun r w'=>∃ v,r=.returned (.tuple #[.int .u32 ((val xs/val ys:Nat):Int),v])∧Nt w.heap.size w' v (val ys*(val xs/val ys))∧Below w.heap.size w w':=by
 have hlo:=Nat.le_refl w.heap.size;obtain ⟨X,hX⟩:∃ X,val xs=X:=⟨_,rfl⟩;obtain ⟨Y,hY⟩:∃ Y,val ys=Y:=⟨_,rfl⟩;have hYp:=val_lt ys h2.wf;rw [←h2.len,hY] at hYp;rw [hX,hY] at hlt ⊢;have HX:=(qsd (ai h1 (ai h2 (ai hX (ai hY (ai hlt hYp))))));clear h1 h2 hX hY hlt hYp;go_enter Tryz.func212,Tryz.ntmps212;go_wp2
 go_loopg [6,7,8] 4294967296 (fun gk fv tv bv wr=>∃ (f t:Nat),gk+f=t∧fv=.int .u64 (f:Nat)∧tv=.int .u64 (t:Nat)∧f<t∧t≤4294967296∧Aside (Y*f≤X∧X<Y*t∧Below w.heap.size w wr∧Nt w.heap.size wr bv (Y*f)))
 case atStart=>exact ⟨0,4294967296,by omega,rfl,rfl,by omega,by omega,by omega,HX.out.2.2.2.2.1,Below.refl _ _,by rw [Nat.mul_zero];exact Nt.nil _ _⟩
 case round =>
  obtain ⟨f,t,hgt,rfl,rfl,hft,ht,HA⟩:=hrel
  by_cases hend:t-f≤1
  · obtain ⟨p1,p2,p3,p4⟩:=HA.out
    have HQ:=qsd (Zmb X Y f t p1 p2 hft hend);obtain rfl:t=f+1:=by omega
    clear p1 p2 p3 p4;have hff:f<4294967296:=by omega
    go_wp2
    go_ret2
    rw [HQ.out];exact ⟨_,by first | rfl | (congr 1),HA.out.2.2.2,HA.out.2.2.1⟩
  · obtain ⟨mid,hmid⟩:∃ mid,mid=(f+t)/2:=⟨_,rfl⟩
    have em:((f:Int)+(t:Int))/2=(mid:Int):=by omega
    have hm1:f<mid:=by omega
    have hm2:mid<t:=by omega
    have hm3:mid<4294967296:=by omega
    have em2:(mid:Int)%4294967296=(mid:Int):=by omega
    have hgo:(1:Int)<(t:Int)-(f:Int):=by omega
    obtain ⟨h1,h2,hX,hY,hlt,hYp⟩:=HX.out;obtain ⟨p1,p2,p3,p4⟩:=HA.out;have hsz:=p3.size;have T1:=hid (Yi (V:=Y*mid) ((h2.below p3).below (Za wr _)) (Zay wr mid hm3) (by omega) (by rw [hY];simp [val]))
    have hYm:Y*mid<pw (m+1):=by rw [Zh,Nat.mul_comm 4294967296];exact Nat.mul_lt_mul'' hYp hm3
    have hwl:(ws (Y*mid)).length≤m+1:=(Zf _ _).2 hYm;clear h1 h2 hX hY hlt hYp p1 p2 p3 p4 hYm hmid
    go_wp2_with fail
    refine T1.out.mono ?_;rintro r u1 ⟨v,rfl,hN,hb⟩;obtain ⟨a1,c1,rfl,A1⟩:=hN.arg (by omega)
    obtain ⟨h1,h2,hX,hY,hlt,hYp⟩:=HX.out;obtain ⟨p1,p2,p3,p4⟩:=HA.out;have hb2:Below wr.heap.size wr u1:=(Za wr _).trans (hb.mono (by simp))
    have q3:Below w.heap.size w u1:=p3.trans (hb2.mono hsz);have q4:=p4.below hb2;have q5:=hN.mono (lo':=w.heap.size) (by simp;omega)
    have hs1:=hb2.size
    by_cases hle:Y*mid≤X
    · obtain ⟨z,hz⟩:∃ z,cmpI (Y*mid) X=z:=⟨_,rfl⟩
      have hz0:z≤0:=hz ▸ Zrg hle;have C1:=hid (Q5 A1 (h1.below q3) z (by rw [Zc,hX];exact hz))
      have S1:=(qsd (ai p2 (ai q3 (ai q5 hle))));clear h1 h2 hX hY hlt hYp p1 p2 p3 p4 q3 q4 q5 hN hb hb2 A1 hz hle T1 HA
      go_wp2_with fail
      refine C1.out.mono ?_;rintro r u2 ⟨rfl,hb⟩;have S2:=(qsd (ai (S1.out.2.1.trans (hb.mono (by omega))) (S1.out.2.2.1.below hb)))
      clear hb C1;go_wp2
      go_roundg (t-mid)
      case measure=>omega
      case rel=>exact ⟨mid,t,by omega,rfl,rfl,hm2,ht,S1.out.2.2.2,S1.out.1,S2.out.1,S2.out.2⟩
    · have hz:cmpI (Y*mid) X=1:=Zax (by omega)
      have C1:=hid (Q5 A1 (h1.below q3) 1 (by rw [Zc,hX];exact hz))
      have S1:=(qsd (ai p1 (ai q3 (ai q4 hle))));clear h1 h2 hX hY hlt hYp p1 p2 p3 p4 q3 q4 q5 hN hb hb2 A1 hz hle T1 HA
      go_wp2_with fail
      refine C1.out.mono ?_;rintro r u2 ⟨rfl,hb⟩;have S2:=(qsd (ai (S1.out.2.1.trans (hb.mono (by omega))) (S1.out.2.2.1.below hb)))
      clear hb C1;go_wp2
      go_roundg (mid-f)
      case measure=>omega
      case rel=>exact ⟨f,mid,by omega,rfl,rfl,hm1,by omega,S1.out.1,by have:=S1.out.2.2.2;omega,S2.out.1,S2.out.2⟩
theorem Zih (P x Y B:Nat) (hY:0<Y):(x+B*P)/Y=(x+B*(P%Y))/Y+B*(P/Y)∧(x+B*P)%Y=(x+B*(P%Y))%Y:=by
 have h:=Nat.div_add_mod P Y
 have e:x+B*P=(x+B*(P%Y))+Y*(B*(P/Y)):=by
  conv=>lhs;rw [←h]
  rw [Nat.mul_add,←Nat.mul_assoc,Nat.mul_comm B Y,Nat.mul_assoc];omega
 rw [e];exact ⟨Nat.add_mul_div_left _ _ hY,Nat.add_mul_mod_self_left _ _ _⟩
theorem Zf3 (P x Y B:Nat) (hY:0<Y) (hx:x<B):x+B*(P%Y)<Y*B:=by
 have h:=Nat.mod_lt P hY;have h1:B*(P%Y+1)≤B*Y:=Nat.mul_le_mul_left _ h;rw [Nat.mul_add] at h1;rw [Nat.mul_comm Y];omega
theorem Zem (M:List Nat) (k d:Nat) (hk:k<M.length):val ((M.set k d).drop k)=d+4294967296*val (M.drop (k+1)):=by
 rw [Zp _ k (by simpa using hk),Qb _ _ _ hk]
 rw [List.drop_set_of_lt (by omega)]
theorem Zrh {w:World}{g:Nat}{x:Nat}(h:Own w g [x]):w.ownsRow g 147 1 (.slice (some ⟨g,0,none⟩) 1 1) 1 ([x].map U) :=
 ⟨by simp,.inr ⟨g,1,_,rfl,Nat.le_refl _,h,Nat.le_refl _,by unfold maxLen;omega,by simp,by simp⟩⟩
theorem Zoh (w:World) (x:Nat):Own (w.alloc (.cells #[.int .u32 (x:Int)] 147)) w.heap.size [x]:=by
 unfold Own;rw [heap_alloc_new];rfl
set_option maxRecDepth 100000 in
theorem parts_any {w:World}{a b:Option Addr}{n c m d:Nat}{xs ys:List Nat}(h1:Arg w a n c xs) (h2:Arg w b m d ys) (hn:n≤35184372088000) (hm:m+1≤35184372088000) (hY:0<val ys) :
 Calls Tryz.prog 169 #[.slice a n c,.slice b m d] w fun r w'=>∃ v u,r=.returned (.tuple #[v,u])∧Nt w.heap.size w' v (val xs/val ys)∧Nt w.heap.size w' u (val xs%val ys)∧Below w.heap.size w w':=by
 obtain ⟨W1,hW1⟩:∃ W,W=w.alloc (.cells (madeCells #[.int .u32 0] n) 147):=⟨_,rfl⟩;have hO1:Own W1 w.heap.size (List.replicate n 0):=by rw [hW1];exact Own.made w n
 have hB1:Below w.heap.size w W1:=by rw [hW1];exact (Below.refl _ _).alloc (Nat.le_refl _) _
 have hmk:=Zt (n:Int) n rfl (by omega) w
 rw [←hW1] at hmk;obtain ⟨g,hg⟩:∃ g,g=w.heap.size:=⟨_,rfl⟩;rw [←hg] at hO1 hmk hB1;obtain ⟨Y,hYe⟩:∃ Y,val ys=Y:=⟨_,rfl⟩;have hYp:=val_lt ys h2.wf;rw [←h2.len,hYe] at hYp;rw [hYe] at hY ⊢;have hlen:=h1.len;have HX:=(qsd (ai h1 (ai h2 (ai hYe (ai hYp (ai hB1 (ai hg hlen)))))));have HO:=hid hO1;clear h1 h2 hYe hYp hB1 hO1 hW1 hg hlen;go_enter Tryz.func169,Tryz.ntmps169;go_wp2
 go_loopg [7,8] n (fun k rv iv wr=>∃ (M:List Nat),k≤n∧iv=.int .i64 ((k:Int)-1)∧Hid (Own wr g M) ∧
  Aside (Wf M∧M.length=n∧(∀ j,j<k→M.getD j 0=0)∧val (M.drop k)=val (xs.drop k)/Y∧Below g w wr∧Nt (g+1) wr rv (val (xs.drop k)%Y)))
 case atStart =>
  obtain ⟨h1,h2,hYe,hYp,hB1,hg,hlen⟩:=HX.out;refine ⟨List.replicate n 0,Nat.le_refl _,by first | rfl | go_num,HO,Wf.zeros _,by simp,fun j _=>Zcl _ _,?_,hB1,?_⟩
  · rw [List.drop_of_length_le (by simp),List.drop_of_length_le (by omega)];simp [val]
  · rw [List.drop_of_length_le (by omega)]
    simp only [val,Nat.zero_mod];exact Nt.nil _ _
 case round =>
  obtain ⟨M,hk,rfl,HM,HA⟩:=hrel
  by_cases hk0:gk=0
  · subst hk0
    obtain ⟨hMw,hMl,hMz,hMv,hbel,hNr⟩:=HA.out;rw [List.drop_zero,List.drop_zero] at hMv;rw [List.drop_zero] at hNr;have T:=hid (Qy M (some ⟨g,0,none⟩) n n (g+1) wr hMl.symm (Nat.le_refl _) (by omega) hMw (by simpa [hMl,List.take_of_length_le] using Rd.ofOwn HM.out 0 n) (fun e=>by cases e))
    rw [hMv] at T;have S:=(qsd (ai hbel hNr));have hgl:=HM.out.lt;clear hMw hMl hMz hMv hbel hNr
    go_wp2_with fail
    refine T.out.mono ?_;rintro r u1 ⟨v,rfl,hN,hb⟩;have S2:=(qsd (ai hN hb));clear hN hb;go_wp2
    go_ret2
    obtain ⟨hN,hb⟩:=S2.out;obtain ⟨hbel,hNr⟩:=S.out;obtain ⟨h1,h2,hYe,hYp,hB1,hg,hlen⟩:=HX.out;rw [←hg];exact ⟨v,_,rfl,hN.mono (by omega),(hNr.below hb).mono (by omega),hbel.trans (hb.mono (by omega))⟩
  · obtain ⟨k,rfl⟩:∃ k,gk=k+1:=⟨gk-1,by omega⟩
    obtain ⟨h1,h2,hYe,hYp,hB1,hg,hlen⟩:=HX.out;obtain ⟨hMw,hMl,hMz,hMv,hbel,hNr⟩:=HA.out;have hgl:=HM.out.lt;obtain ⟨ba,off,hBa,rfl,hcell⟩:=h1.rd (by intro e;subst e;simp at hlen;omega)
    have hxc:wr.cell? ⟨ba,off+k,none⟩=some (.int .u32 ((xs.getD k 0:Nat):Int)):=(hbel.cell (p:=⟨ba,off+k,none⟩) (by simp;omega)).trans (hcell k (by omega))
    obtain ⟨x,hx⟩:∃ x,xs.getD k 0=x:=⟨_,rfl⟩;have hxl:x<4294967296:=hx ▸ h1.wf.get k;rw [hx] at hxc;obtain ⟨P,hP⟩:∃ P,val (xs.drop (k+1))=P:=⟨_,rfl⟩;have hds:=Zp xs k (by omega)
    rw [hx,hP] at hds;rw [hP] at hMv hNr;obtain ⟨st1,st2⟩:=Zih P x Y 4294967296 hY;rw [←hds] at st1 st2;have hdl:=Zf3 P x Y 4294967296 hY hxl;obtain ⟨R,hR⟩:∃ R,P%Y=R:=⟨_,rfl⟩;have hRY:R<Y:=hR ▸ Nat.mod_lt _ hY;rw [hR] at st1 st2 hdl hNr;obtain ⟨Z,hZ⟩:∃ Z,x+4294967296*R=Z:=⟨_,rfl⟩;rw [hZ] at st1 st2 hdl;have hwR:(ws R).length≤m:=(Zf R m).2 (by omega)
    have hZp:Z<pw (m+1):=by rw [Zh];rw [Nat.mul_comm Y] at hdl;omega
    have hwZ:(ws Z).length≤m+1:=(Zf Z (m+1)).2 hZp;obtain ⟨ar,cr,rfl,AR⟩:=hNr.arg (by omega)
    have hLO:=Zoh wr x;obtain ⟨v',w2,hap,hown,hgrow⟩:=Yb (wr.alloc (.cells #[.int .u32 (x:Int)] 147)) wr.heap.size (.slice (some ⟨wr.heap.size,0,none⟩) 1 1) 1 [x] (ws R) ar (ws R).length cr wr.heap.size 60 (Zrh hLO) rfl (AR.rd.below (Za wr _)) AR.nil (by omega) (by simp)
    have hb2:Below wr.heap.size wr w2:=(Za wr _).grown hgrow (by simp) (fun k hk=>by simp [Value.ownBlock] at hk;omega)
    obtain ⟨a2,c2,rfl,hc2,hl2,hnil2,hRd2⟩:=Rw.words hown;have hval:val ([x]++ws R)=Z:=by rw [←hZ];simp [val,Zc]
    have N1:=hid (Qy ([x]++ws R) a2 (1+(ws R).length) c2 w2.heap.size w2 hl2 hc2 (by omega) (Wf.append (Wf.cons hxl Wf.nil) (Z8 R)) hRd2 hnil2)
    rw [hval] at N1;have HAP:=hid hap;have hs2:=hb2.size;have S1:=(qsd (ai hMw (ai hMl (ai hMz (ai hMv (ai (hbel.trans (hb2.mono (by omega))) (ai (HM.out.below hb2 hgl) (ai st1 (ai st2 (ai hdl hx))))))))))
    clear h1 h2 hYe hYp hB1 hg hlen hMw hMl hMz hMv hbel hNr hcell hx hP hds st1 st2 hdl hR hRY hZ hZp AR hLO hap hown hgrow hb2 hl2 hnil2 hRd2 hval HM HA
    go_wp2_with (at_builtin;refine wpList_append_run2 rfl (.tmp 27) (.tmp 28) 60 rfl _ _ rfl rfl _ _ HAP.out ?_)
    refine N1.out.mono ?_;rintro r u3 ⟨v3,rfl,hN3,hb3⟩;obtain ⟨a3,c3,rfl,A3⟩:=hN3.arg (by omega)
    obtain ⟨hMw,hMl,hMz,hMv,hbel,hOw,st1,st2,hdl,hx⟩:=S1.out;obtain ⟨h1,h2,hYe,hYp,hB1,hg,hlen⟩:=HX.out;have hs3:=hb3.size;have hbel3:Below g w u3:=hbel.trans (hb3.mono (by omega))
    have hO3:=hOw.below hb3 (by omega)
    have hbw3:Below w.heap.size w u3:=hg ▸ hbel3
    by_cases hge:Y≤Z
    · obtain ⟨z,hz⟩:∃ z,cmpI Z Y=z:=⟨_,rfl⟩
      have hz0:0≤z:=hz ▸ Zjx hge;have C1:=hid (Q5 A3 (h2.below hbw3) z (by rw [Zc,hYe];exact hz))
      have S2:=(qsd (ai hMw (ai hMl (ai hMz (ai hMv (ai hbel3 (ai hO3 (ai st1 (ai st2 (ai hdl hN3))))))))));clear hMw hMl hMz hMv hbel hOw st1 st2 hdl hx h1 h2 hYe hYp hB1 hg hlen hbel3 hO3 hbw3 hb3 hN3 A3 hz S1 N1
      go_wp2_with fail
      refine C1.out.mono ?_;rintro r u4 ⟨rfl,hb4⟩;obtain ⟨hMw,hMl,hMz,hMv,hbel,hOw,st1,st2,hdl,hN3⟩:=S2.out;obtain ⟨h1,h2,hYe,hYp,hB1,hg,hlen⟩:=HX.out;have hs4:=hb4.size;have hbel4:Below g w u4:=hbel.trans (hb4.mono (by omega))
      have hO4:=hOw.below hb4 (by omega)
      have hbw4:Below w.heap.size w u4:=hg ▸ hbel4;have hN4:=hN3.below hb4;obtain ⟨_,_,e4,A4⟩:=hN4.arg (by omega)
      cases e4
      have D0:=Zmc A4 (h2.below hbw4) (by omega) (by rw [Zc,hYe];exact hdl)
      rw [Zc,hYe] at D0;have hDl:Z/Y<4294967296:=Nat.div_lt_of_lt_mul hdl;have hmd:=Nat.mod_add_div Z Y;have hYD:Y*(Z/Y)≤Z:=by omega
      have hwD:(ws (Y*(Z/Y))).length≤m+1:=by
       have h5:=(Zf Z (m+1)).1 hwZ;exact (Zf _ (m+1)).2 (by omega)
      obtain ⟨D,hD⟩:∃ D,Z/Y=D:=⟨_,rfl⟩;rw [hD] at D0 hDl hmd hYD hwD st1;have D1:=hid D0;have S3:=(qsd (ai hMw (ai hMl (ai hMz (ai hMv (ai hbel4 (ai hO4 (ai st1 (ai st2 (ai hN4 hmd))))))))));clear hMw hMl hMz hMv hbel hOw st1 st2 hdl h1 h2 hYe hYp hB1 hg hlen hbel4 hO4 hbw4 hb4 hN3 hN4 A4 hmd hYD hD D0 S2 C1
      go_wp2_with fail
      refine D1.out.mono ?_;rintro r u5 ⟨v5,rfl,hN5,hb5⟩;obtain ⟨hMw,hMl,hMz,hMv,hbel,hOw,st1,st2,hN4,hmd⟩:=S3.out;have hs5:=hb5.size;have hbel5:Below g w u5:=hbel.trans (hb5.mono (by omega))
      have hO5:=hOw.below hb5 (by omega)
      have hgc:=hO5.cell k (by omega)
      have hgf:=hO5.frozen k;have hbt:But g u5 (u5.setCell ⟨g,k,none⟩ (.int .u32 (D:Nat))):=(But.refl g u5).set k _;have hN6:=(hN4.below hb5).but hbt (by omega)
      have hN7:=hN5.but hbt (by omega)
      obtain ⟨_,_,e6,A6⟩:=hN6.arg (by omega)
      cases e6
      obtain ⟨a7,c7,rfl,A7⟩:=hN7.arg (by omega)
      have M1:=hid (Zaf (V:=Z%Y) A6 A7 (by omega) (by omega) (by rw [Zc,Zc];exact hmd))
      have S4:=(qsd (ai hMw (ai hMl (ai hMz (ai hMv (ai hbel5 (ai hO5 (ai st1 (ai st2 hbt)))))))));clear hMw hMl hMz hMv hbel hOw st1 st2 hN4 hmd hbel5 hO5 hbt hN6 hN7 A6 A7 hN5 hb5 S3 D1
      go_wp2_with fail
      refine M1.out.mono ?_;rintro r u8 ⟨v8,rfl,hN8,hb8⟩;have S5:=(qsd (ai hN8 hb8));clear hN8 hb8 M1;go_wp2
      go_roundg k
      case measure=>omega
      case rel =>
       obtain ⟨hMw,hMl,hMz,hMv,hbel,hOw,st1,st2,hbt⟩:=S4.out;obtain ⟨hN8,hb8⟩:=S5.out;have hs8:=hb8.size;have hss:(u5.setCell ⟨g,k,none⟩ (.int .u32 (D:Nat))).heap.size=u5.heap.size:=by simp [World.setCell]
       refine ⟨M.set k D,by omega,by first | go_num | (congr 1;omega),(hOw.set k D).below hb8 (by omega),hMw.set _ _ hDl,by simp [hMl],?_,?_,?_,?_⟩
       · intro j hj
         rw [getD_set_ne _ _ _ _ (by omega)]
         exact hMz j (by omega)
       · rw [Zem M k D (by omega),hMv,st1]
       · exact (But.below hbel hbt (by omega) (Nat.le_refl _)).trans (hb8.mono (by omega))
       · rw [st2]
         exact hN8.mono (by omega)
    · have hz:cmpI Z Y=-1:=Jb (by omega)
      have C1:=hid (Q5 A3 (h2.below hbw3) (-1) (by rw [Zc,hYe];exact hz))
      have S2:=(qsd (ai hMw (ai hMl (ai hMz (ai hMv (ai hbel3 (ai hO3 (ai st1 (ai st2 (ai hdl (ai hN3 hlen)))))))))));clear hMw hMl hMz hMv hbel hOw st1 st2 hdl hx h1 h2 hYe hYp hB1 hg hlen hbel3 hO3 hbw3 hb3 hN3 A3 hz S1 N1
      go_wp2_with fail
      refine C1.out.mono ?_;rintro r u4 ⟨rfl,hb4⟩;have S3:=qsd hb4;clear hb4 C1;go_wp2
      go_roundg k
      case measure=>omega
      case rel =>
       obtain ⟨hMw,hMl,hMz,hMv,hbel,hOw,st1,st2,hdl,hN3,hlen⟩:=S2.out;have hb4:=S3.out;refine ⟨M,by omega,by first | go_num | (congr 1;omega),hOw.below hb4 (by omega),hMw,hMl,fun j hj=>hMz j (by omega),?_,hbel.trans (hb4.mono (by omega)),?_⟩
       · rw [Zp M k (by omega),hMz k (by omega),hMv,st1,Nat.div_eq_of_lt (show Z<Y by omega)]
       · rw [st2,Nat.mod_eq_of_lt (show Z<Y by omega)]
         exact (hN3.below hb4).mono (by omega)
theorem Zoi (w:World) (a b:Nat) (ha:a<4294967296) (hb:b<4294967296):Arg (w.alloc (.cells #[.int .u32 (a:Int),.int .u32 (b:Int)] 147)) (some ⟨w.heap.size,0,none⟩) 2 2 [a,b]:=by
 refine ⟨rfl,Nat.le_refl _,by omega,Wf.cons ha (Wf.cons hb Wf.nil),fun _=>⟨w.heap.size,0,by simp,rfl,fun i hi=>?_⟩,fun e=>by cases e⟩
 have hi2:i=0∨i=1:=by simp at hi;omega
 unfold World.cell?;simp only [heap_alloc_new]
 rcases hi2 with rfl|rfl <;> rfl
theorem Zca (x:Nat) (w:World) (hx:x<18446744073709551616) :
 Calls Tryz.prog 83 #[.int .u64 (x:Nat)] w fun r w'=>∃ v,r=.returned v∧Nt w.heap.size w' v x∧Below w.heap.size w w':=by
 obtain ⟨a,ha⟩:∃ a,a=x%4294967296:=⟨_,rfl⟩;obtain ⟨b,hb⟩:∃ b,b=x/4294967296:=⟨_,rfl⟩;have e1:(x:Int)%4294967296=(a:Int):=by omega
 have e2:(x:Int)/4294967296=(b:Int):=by omega
 have e3:(b:Int)%4294967296=(b:Int):=by omega
 have N1:=hid (Zd4 (V:=x) (Zoi w a b (by omega) (by omega)) (by simp [val];omega))
 have hb3:b<4294967296:=by omega
 clear ha hb;go_enter Tryz.func83,Tryz.ntmps83
 go_wp2_with fail
 refine N1.out.mono ?_;rintro r u1 ⟨v,rfl,hN,hbl⟩;have S:=(qsd (ai hN hbl));clear hN hbl;go_wp2;go_ret;exact ⟨v,rfl,S.out.1.mono (by simp),(Za w _).trans (S.out.2.mono (by simp))⟩
theorem Zaz (X:Nat) (h:X≠0):∃ m,X=2^lo X*(2*m+1):=by
 have key:∀ Y:Nat,Y≠0→∃ i m,Y=2^i*(2*m+1):=by
  intro Y
  induction Y using Nat.strongRecOn with
  | ind Y ih =>
    intro hY
    rcases Nat.mod_two_eq_zero_or_one Y with h0|h1
    · obtain ⟨i,m,e⟩:=ih (Y/2) (by omega) (by omega)
      refine ⟨i+1,m,?_⟩;rw [Nat.pow_succ,Nat.mul_comm (2^i) 2,Nat.mul_assoc,←e];omega
    · exact ⟨0,Y/2,by omega⟩
 obtain ⟨i,m,e⟩:=key X h;refine ⟨m,?_⟩;rw [e,Zj8]
theorem Zti (X:Nat) (h:X≠0):X/2^lo X%2=1:=by
 obtain ⟨m,e⟩:=Zaz X h;generalize lo X=i at e;rw [e,Nat.mul_div_cancel_left _ (Nat.pow_pos (by omega))]
 omega
theorem Zri (X j:Nat) (h:X≠0) (hj:j<lo X):X/2^j%2=0:=by
 obtain ⟨m,e⟩:=Zaz X h;generalize lo X=i at e hj;obtain ⟨d,rfl⟩:∃ d,i=j+(d+1):=⟨i-j-1,by omega⟩
 rw [e,Nat.pow_add,Nat.mul_assoc,Nat.mul_div_cancel_left _ (Nat.pow_pos (by omega)),Nat.pow_succ,Nat.mul_comm (2^d) 2,Nat.mul_assoc]
 omega
theorem Zpg (X:Nat) (h:X≠0) (n:Nat) (hp:X<pw n):lo X<32*n:=by
 obtain ⟨m,e⟩:=Zaz X h
 rcases Nat.lt_or_ge (lo X) (32*n) with h1|h1
 · exact h1
 · exfalso
   have h2:2^(32*n)≤2^lo X:=Nat.pow_le_pow_right (by omega) h1
   have h3:pw n=2^(32*n):=by unfold pw;rw [Nat.pow_mul]
   have h4:2^lo X*1≤2^lo X*(2*m+1):=Nat.mul_le_mul_left _ (by omega)
   omega
theorem Zoj (xs:List Nat) (ao:Option Addr) (n cap B:Nat) (w:World) (hn:n=xs.length) (hm:n≤70368744177664) (hx:Wf xs) (hR:Rd B w ao xs) :
 Calls Tryz.prog 122 #[.slice ao n cap] w fun r w'=>r=.returned (.int .i64 (lo (val xs):Nat))∧w'=w:=by
 have H:=hid (Jl xs ao n cap B w hn (by omega) hR)
 by_cases h0:val xs=0
 · rw [h0,Zez]
   rw [(Qu xs).2 h0] at H;clear hn hx hR h0;go_enter Tryz.func122,Tryz.ntmps122
   go_wp2_with fail
   refine H.out.mono ?_;rintro r w1 ⟨rfl,rfl⟩;go_wp2;go_ret;exact ⟨rfl,rfl⟩
 · have hnl:nl xs≠0:=fun e=>h0 ((Qu xs).1 e)
   have hv:=val_lt xs hx;rw [←hn] at hv;have hlt:=Zpg _ h0 n hv;obtain ⟨k,hk⟩:∃ k,nl xs=k:=⟨_,rfl⟩;rw [hk] at H hnl;obtain ⟨L,hL⟩:∃ L,lo (val xs)=L:=⟨_,rfl⟩;have hb1:=Zti _ h0;have hb0:=Zri (val xs) (h:=h0);rw [hL] at hb1 hb0 hlt ⊢
   have BT:Hid (∀ i:Nat,i≤9223372036854775807→∀ w1,w1=w→Calls Tryz.prog 168 #[.slice ao n cap,.int .i64 (i:Int)] w1 fun r w'=>r=.returned (.bool (decide (val xs/2^i%2=1)))∧w'=w1):=by
    intro i hi w1 hw;subst hw;exact Znx xs ao n cap B i w1 hn hx hR hi
   have HB:=(qsd (ai hb1 hb0));clear hb1 hb0 hn hx hR h0 hv hk hL;go_enter Tryz.func122,Tryz.ntmps122
   go_wp2_with fail
   refine H.out.mono ?_;rintro r w1 ⟨rfl,rfl⟩;have hkf:((k:Int)==0)=false:=by simp;omega
   go_wp2
   go_loopg [3] L (fun gk iv wr=>∃ (i:Nat),gk+i=L∧iv=.int .i64 (i:Nat)∧wr=w1)
   case atStart=>exact ⟨0,by omega,rfl,rfl⟩
   case round =>
    obtain ⟨i,hi,rfl,rfl⟩:=hrel;have B1:=BT.out i (by omega) _ rfl
    by_cases hiL:i=L
    · subst hiL
      obtain rfl:gk=0:=by omega
      rw [HB.out.1] at B1;have B2:=hid (show Calls Tryz.prog 168 #[.slice ao n cap,.int .i64 (i:Int)] wr fun r w'=>r=.returned (.bool true)∧w'=wr from B1)
      clear B1
      go_wp2_with fail
      refine B2.out.mono ?_;rintro r w2 ⟨rfl,rfl⟩;go_wp2;go_ret;exact ⟨rfl,rfl⟩
    · rw [HB.out.2 i (by omega)] at B1
      have B2:=hid (show Calls Tryz.prog 168 #[.slice ao n cap,.int .i64 (i:Int)] wr fun r w'=>r=.returned (.bool false)∧w'=wr from B1)
      clear B1
      go_wp2_with fail
      refine B2.out.mono ?_;rintro r w2 ⟨rfl,rfl⟩;go_wp2
      go_roundg (gk-1)
      case measure=>omega
      case rel=>exact ⟨i+1,by omega,by first | go_num | (congr 1;omega),rfl⟩
theorem Zam {w:World}{g:Nat}{L:List Nat}(h:Own w g L) (hm:L.length≤35184372088832):w.ownsRow g 147 1 (.slice (some ⟨g,0,none⟩) L.length L.length) L.length (L.map U) :=
 ⟨by simp,.inr ⟨g,L.length,_,rfl,Nat.le_refl _,h,Nat.le_refl _,by unfold maxLen;omega,by simp,by simp [List.take_of_length_le]⟩⟩
theorem Arg.drew' {w:World}{a:Option Addr}{n c:Nat}{xs:List Nat}(h:Arg w a n c xs):Arg w.drew a n c xs:=⟨h.len,h.cap,h.big,h.wf,h.rd,h.nil⟩
theorem Zbd (r:Nat) (hr:r<32):2^r<4294967296:=by
 have:2^r≤2^31:=Nat.pow_le_pow_right (by omega) (by omega)
 omega
theorem Zok {w:World}{a:Option Addr}{l c:Nat}{X:Nat}(k:Nat) (h1:Arg w a l c (ws X)) (hl:l≤2000000) (hk:k≤64000000) :
 Calls Tryz.prog 123 #[.slice a l c,.int .i64 (k:Nat)] w fun r w'=>∃ v,r=.returned v∧Nt w.heap.size w' v (X*2^k)∧Below w.heap.size w w':=by
 obtain ⟨q,hq⟩:∃ q,q=k/32:=⟨_,rfl⟩;obtain ⟨s,hs⟩:∃ s,s=k%32:=⟨_,rfl⟩;have e1:(k:Int)/32=(q:Int):=by omega
 have e2:(k:Int)%32=(s:Int):=by omega
 have hqb:q≤2000000:=by omega
 have hs32:s<32:=by omega
 obtain ⟨W1,hW1⟩:∃ W,W=w.alloc (.cells (madeCells #[.int .u32 0] q) 147):=⟨_,rfl⟩;have hO1:Own W1 w.heap.size (List.replicate q 0):=by rw [hW1];exact Own.made w q
 have hB1:Below w.heap.size w W1:=by rw [hW1];exact (Below.refl _ _).alloc (Nat.le_refl _) _
 have hmk:=Zt (q:Int) q rfl (by omega) w
 rw [←hW1] at hmk;have hR:=Zam hO1 (by simp;omega)
 simp only [List.length_replicate] at hR;have A1:=h1.below hB1;obtain ⟨v',w2,hap,hown,hgrow⟩:=Yb W1 w.heap.size _ q (List.replicate q 0) (ws X) a l c W1.heap.size 60 hR A1.len A1.rd A1.nil (by omega) hB1.size
 have hB2:Below w.heap.size w w2:=hB1.grown hgrow hB1.size (fun k hk=>by simp [Value.ownBlock] at hk;omega)
 obtain ⟨a2,c2,rfl,hc2,hl2,hnil2,hRd2⟩:=Rw.words hown;have AO:Arg w2 a2 (q+l) c2 (List.replicate q 0++ws X):=⟨hl2,hc2,by omega,(Wf.zeros q).append (Z8 X),hRd2,hnil2⟩
 have hval:val (List.replicate q 0++ws X)=X*pw q:=by
  rw [Qg,Yg,Zc,List.length_replicate,Nat.zero_add,Nat.mul_comm]
 have hpw:pw q*2^s=2^k:=by
  have:pw q=2^(32*q):=by unfold pw;rw [Nat.pow_mul]
  rw [this,←Nat.pow_add]
  congr 1
  omega
 have hps:=Zbd s hs32;obtain ⟨p,hp⟩:∃ p,p=2^s:=⟨_,rfl⟩
 have e3:(2:Int)^s=(p:Int):=by
  have h5:((2^s:Nat):Int)=(2:Int)^s:=by simp
  rw [←h5,←hp]
 have hpl:p<4294967296:=by omega
 have T1:=hid (Yi (V:=X*2^k) (AO.below (Za w2 _)) (Zay w2 p (by omega)) (by omega) (by rw [hval];simp only [val];rw [←hpw,hp,Nat.mul_assoc];simp))
 have HAP:=hid hap;have hs2:=hB2.size;have S1:=qsd hB2;clear hap hown hgrow hB2 hl2 hnil2 hRd2 AO hval hpw A1 hR hO1 hB1 h1 hW1 hq hs hps hp;go_enter Tryz.func123,Tryz.ntmps123
 go_wp2_with (at_builtin;refine wpList_append_run2 rfl (.tmp 39) (.tmp 40) 60 rfl _ _ rfl rfl _ _ HAP.out ?_)
 refine T1.out.mono ?_;rintro r u3 ⟨v3,rfl,hN3,hb3⟩;have S2:=(qsd (ai hN3 hb3));clear hN3 hb3;go_wp2;go_ret;obtain ⟨hN3,hb3⟩:=S2.out;exact ⟨v3,rfl,hN3.mono (by simp;omega),S1.out.trans (((Za w2 _).trans (hb3.mono (by simp))).mono hs2)⟩
theorem Zii {w:World}{b off:Nat}{l c:Nat}{X:Nat}(k:Nat) (h1:Arg w (some ⟨b,off,none⟩) l c (ws X)) (hl:l≤2000000) (hk0:0<k) (hk:k≤64000000) (hkl:k/32<l) :
 Calls Tryz.prog 123 #[.slice (some ⟨b,off,none⟩) l c,.int .i64 (-(k:Int))] w fun r w'=>∃ v,r=.returned v∧Nt w.heap.size w' v (X/2^k)∧Below w.heap.size w w':=by
 obtain ⟨q,hq⟩:∃ q,q=k/32:=⟨_,rfl⟩;obtain ⟨s,hs⟩:∃ s,s=k%32:=⟨_,rfl⟩;have e1:(k:Int)/32=(q:Int):=by omega
 have e2:(k:Int)%32=(s:Int):=by omega
 have hql:q<l:=by omega
 have hs32:s<32:=by omega
 have hcl:=h1.cap;have hqc:¬ c=q:=by omega
 obtain ⟨p,hp⟩:∃ p,p=2^s:=⟨_,rfl⟩;have hps:=Zbd s hs32
 have e3:(2:Int)^s=(p:Int):=by
  have h5:((2^s:Nat):Int)=(2:Int)^s:=by simp
  rw [←h5,←hp]
 have hpl:p<4294967296:=by omega
 have hd1:decide (l≤q)=false:=decide_eq_false (by omega)
 have hd2:decide ((-(k:Int)) < -1099511627776)=false:=decide_eq_false (by omega)
 have hd3:decide ((l:Int)≤(q:Int))=false:=decide_eq_false (by omega)
 have hvd:val ((ws X).drop q)=X/pw q:=by
  have h5:=Zx (ws X) q (by rw [←h1.len];omega)
  have h6:=val_lt ((ws X).take q) ((Z8 X).take q);rw [Zc] at h5;rw [List.length_take,Nat.min_eq_left (by rw [←h1.len];omega)] at h6
  generalize val ((ws X).drop q)=Bv at h5 ⊢;generalize val ((ws X).take q)=Av at h5 h6;rw [h5,Nat.add_mul_div_left _ _ (Qj q),Nat.div_eq_of_lt h6,Nat.zero_add]
 have hpw:X/pw q/p=X/2^k:=by
  have h5:pw q=2^(32*q):=by unfold pw;rw [Nat.pow_mul]
  rw [Nat.div_div_eq_div_mul,h5,hp,←Nat.pow_add]
  congr 2
  omega
 have hXl:(ws (X/pw q)).length≤2000000:=by
  have h5:X<pw l:=by rw [h1.len];exact Qc X
  have h6:X/pw q≤X:=Nat.div_le_self _ _;have h7:=(Zf (X/pw q) l).2 (by omega)
  omega
 have hp0:0<p:=by rw [hp];exact Nat.pow_pos (by omega)
 have HNm:Hid (∀ u,Below w.heap.size w u→Calls Tryz.prog 121 #[.slice (some ⟨b,off+q,none⟩) (l-q) (c-q)] u fun r w'=>∃ v,r=.returned v∧Nt u.heap.size w' v (X/pw q)∧Below u.heap.size u w'):=by
  intro u hu;have h5:=Qy ((ws X).drop q) (some ⟨b,off+q,none⟩) (l-q) (c-q) w.heap.size u (by rw [List.length_drop,←h1.len]) (by omega) (by omega) ((Z8 X).drop q) ((h1.rd.drop q).below hu) (fun e=>by cases e)
  rw [hvd] at h5;exact h5
 have HP:=(qsd (ai hpw hXl));have e7:IntKind.i64.wrap (k:Int)=(k:Int):=by simp [IntKind.wrap,IntKind.bits,IntKind.signed] <;> omega
 have e8:(k:Int).tmod 32=(s:Int):=by rw [Int.tmod_eq_emod_of_nonneg (by omega)];exact e2
 have e6:IntKind.u32.wrap (p:Int)=(p:Int):=by simp [IntKind.wrap,IntKind.bits,IntKind.signed] <;> omega
 clear h1 hq hs hp hvd hpw hXl hps;go_enter Tryz.func123,Tryz.ntmps123;go_wp2
 go_region_with (first
  | (go_at_call 121
     refine (HNm.out _ ((Below.refl _ _).drew)).mono ?_;rintro r u1 ⟨v1,rfl,hN1,hb1⟩;obtain ⟨a1,c1,rfl,A1⟩:=hN1.arg (by have:=HP.out.2;omega)
     have hbw:Below w.heap.size w u1:=((Below.refl w.heap.size w).drew).trans (hb1.mono (Nat.le_refl _));have S1:=(qsd (ai hbw A1));clear hN1 hb1 A1 hbw)
  | (go_at_call 121
     refine (HNm.out _ ((Za w _).drew)).mono ?_;rintro r u1 ⟨v1,rfl,hN1,hb1⟩;obtain ⟨a1,c1,rfl,A1⟩:=hN1.arg (by have:=HP.out.2;omega)
     have hbw:Below w.heap.size w u1:=((Za w _).drew).trans (hb1.mono (by simp))
     have L1:=qsd ((Arg.drew' (Zay w p hpl)).below hb1);have S1:=(qsd (ai hbw A1));clear hN1 hb1 A1 hbw)
  | (go_at_call 169
     refine (parts_any S1.out.2 L1.out (by have:=HP.out.2;omega) (by omega) (by simp [val];exact hp0)).mono ?_
     rintro r u2 ⟨v2,v3,rfl,hN2,hN3,hb2⟩;have hbw:Below w.heap.size w u2:=S1.out.1.trans (hb2.mono S1.out.1.size);have hNw:=hN2.mono (lo':=w.heap.size) S1.out.1.size;have S2:=(qsd (ai hNw hbw));clear hN2 hN3 hb2 hbw hNw)
  | (go_at_call 169
     refine (parts_any (S1.out.2.below (Za u1 _)) (Zay u1 p hpl) (by have:=HP.out.2;omega) (by omega) (by simp [val];exact hp0)).mono ?_
     rintro r u2 ⟨v2,v3,rfl,hN2,hN3,hb2⟩;have hbw:Below w.heap.size w u2:=S1.out.1.trans (((Za u1 _).trans (hb2.mono (by simp))).mono S1.out.1.size)
     have hNw:=hN2.mono (lo':=w.heap.size) (by have:=S1.out.1.size;simp;omega)
     have S2:=(qsd (ai hNw hbw));clear hN2 hN3 hb2 hbw hNw))
 all_goals (
  go_wp2;go_ret;obtain ⟨hN2,hb2⟩:=S2.out;have e5:val [p]=p:=by simp [val]
  rw [Zc,e5,HP.out.1] at hN2;exact ⟨v2,rfl,hN2,hb2⟩)
theorem Zmd (a:Option Addr) (l c k:Nat) (w:World) (hl:l≤2000000) (hk:k≤9223372036854775807) (hk0:0<k) (hkl:l≤k/32) :
 Calls Tryz.prog 123 #[.slice a l c,.int .i64 (-(k:Int))] w fun r w'=>r=.returned (.slice none 0 0)∧w'=w:=by
 obtain ⟨q,hq⟩:∃ q,q=k/32:=⟨_,rfl⟩;have e1:(k:Int)/32=(q:Int):=by omega
 have e7:IntKind.i64.wrap (k:Int)=(k:Int):=by simp [IntKind.wrap,IntKind.bits,IntKind.signed] <;> omega
 have hql:l≤q:=by omega
 clear hq hkl;go_enter Tryz.func123,Tryz.ntmps123;go_wp2;go_ret;exact ⟨rfl,rfl⟩
theorem Zf4 (a:Option Addr) (l c:Nat) (w:World) (hl:l≤2000000) :
 Calls Tryz.prog 123 #[.slice a l c,.int .i64 (-9223372036854775808)] w fun r w'=>r=.returned (.slice none 0 0)∧w'=w:=by
 go_enter Tryz.func123,Tryz.ntmps123;go_wp2
 all_goals (
  go_ret;exact ⟨rfl,rfl⟩)
theorem Zcs (X k l:Nat) (h:X<pw l) (hk:32*l≤k):X/2^k=0:=by
 apply Nat.div_eq_of_lt
 have h1:pw l=2^(32*l):=by unfold pw;rw [Nat.pow_mul]
 have h2:2^(32*l)≤2^k:=Nat.pow_le_pow_right (by omega) hk
 omega
theorem Nt.some {lo:Nat}{w:World}{v:Value}{X:Nat}(h:Nt lo w v X) (hX:X≠0):∃ g c,v=.slice (some ⟨g,0,none⟩) (ws X).length c:=by
 rcases h.2 with ⟨_,h0⟩|⟨g,cap,cur,rfl,_⟩
 · exact absurd ((Zm X).1 h0) hX
 · exact ⟨g,cap,rfl⟩
theorem J1 {w:World}{v:Value}{X lo:Nat}(hN:Nt lo w v X) (by':Int) (hb0:-9223372036854775808≤by') (hb1:by'≤64000000) (hX:X≠0) (hl:(ws X).length≤2000000) :
 Calls Tryz.prog 123 #[v,.int .i64 by'] w fun r w'=>∃ v,r=.returned v∧Nt w.heap.size w' v (if by'<0 then X/2^(-by').toNat else X*2^by'.toNat)∧Below w.heap.size w w':=by
 obtain ⟨g,c,rfl⟩:=hN.some hX;obtain ⟨_,_,e,A⟩:=hN.arg (by omega)
 cases e
 by_cases h:by'<0
 · rw [if_pos h]
   by_cases hmin:by'=-9223372036854775808
   · subst hmin
     rw [Zcs X _ (ws X).length (Qc X) (by omega)]
     exact (Zf4 _ _ _ w hl).mono fun r w' ⟨h1,h2⟩=>⟨_,h1,Nt.nil _ _,by rw [h2];exact Below.refl _ _⟩
   · obtain ⟨k,hk⟩:∃ k:Nat,by'=-(k:Int):=⟨(-by').toNat,by omega⟩
     subst hk;rw [show (- -(k:Int)).toNat=k by omega]
     by_cases hkl:k/32<(ws X).length
     · exact Zii k A hl (by omega) (by omega) hkl
     · rw [Zcs X k (ws X).length (Qc X) (by omega)]
       exact (Zmd _ _ _ k w hl (by omega) (by omega) (by omega)).mono fun r w' ⟨h1,h2⟩=>⟨_,h1,Nt.nil _ _,by rw [h2];exact Below.refl _ _⟩
 · rw [if_neg h]
   obtain ⟨k,hk⟩:∃ k:Nat,by'=(k:Int):=⟨by'.toNat,by omega⟩
   subst hk;rw [show ((k:Int)).toNat=k by omega]
   exact Zok k A hl (by omega)
def mkS (neg:Bool) (X:Nat) (e:Int):Option (Bool×Nat×Int) :=
 if X=0 then some (false,0,0)
 else if 262144<bl X-lo X∨1048576-(lo X:Int)<e∨e < -1048576-(lo X:Int) then none
 else some (neg,X/2^lo X,e+lo X)
def dN (o:Option (Bool×Nat×Int)):Bool:=(o.getD (false,0,0)).1
def dX (o:Option (Bool×Nat×Int)):Nat:=(o.getD (false,0,0)).2.1
def dE (o:Option (Bool×Nat×Int)):Int:=(o.getD (false,0,0)).2.2
def erS (o:Option (Bool×Nat×Int)):Int:=if o.isSome then 0 else 2
theorem Zbx (X m:Nat):m<bl X↔2^m≤X:=by
 constructor
 · intro h
   have h0:X≠0:=by rintro rfl;rw [Zu] at h;omega
   exact Nat.le_trans (Nat.pow_le_pow_right (by omega) (by omega:m≤bl X-1)) (Qi X h0)
 · intro h
   exact (Nat.pow_lt_pow_iff_right (by omega)).1 (Nat.lt_of_le_of_lt h (Qo X))
theorem Zix (X k m:Nat) (hm:m=32*k):k<(ws X).length↔m<bl X:=by
 rw [Zbx,hm,Nat.pow_mul];have h:=Zf X k;unfold pw at h;rw [show (2:Nat)^32=4294967296 from rfl]
 generalize 4294967296^k=P at h ⊢;omega
theorem Js (X:Nat):LG X↔262144<bl X:=Zix X 8192 262144 rfl
theorem Zag (k Y:Nat) (h:Y≠0):bl (2^k*Y)=k+bl Y:=by
 have h1:=Qo Y;have h2:=Qi Y h;have h3:=Zv Y h;have e:k+bl Y=(k+(bl Y-1))+1:=by omega
 rw [e]
 apply Zg8
 · rw [Nat.pow_add];exact Nat.mul_le_mul_left _ h2
 · rw [show k+(bl Y-1)+1=k+bl Y by omega,Nat.pow_add]
   exact Nat.mul_lt_mul_of_pos_left h1 (Nat.two_pow_pos k)
theorem Qh (X:Nat) (h:X≠0):∃ m,X=2^lo X*(2*m+1)∧X/2^lo X=2*m+1∧bl X=lo X+bl (X/2^lo X):=by
 obtain ⟨m,hm⟩:=Zaz X h
 have e:X/2^lo X=2*m+1:=by
  obtain ⟨k,hk⟩:∃ k,lo X=k:=⟨_,rfl⟩;rw [hk] at hm ⊢;rw [hm,Nat.mul_div_cancel_left _ (Nat.two_pow_pos k)]
 refine ⟨m,hm,e,?_⟩;rw [e];obtain ⟨k,hk⟩:∃ k,lo X=k:=⟨_,rfl⟩;rw [hk] at hm ⊢;rw [hm];exact Zag k _ (by omega)
theorem Zme (X:Nat) (h:X≠0):lo (2*X)=lo X+1:=by
 obtain ⟨m,hm⟩:=Zaz X h;obtain ⟨k,hk⟩:∃ k,lo X=k:=⟨_,rfl⟩;rw [hk] at hm ⊢;have e:2*X=2^(k+1)*(2*m+1):=by rw [hm,Nat.pow_succ];grind
 rw [e];exact Zj8 (k+1) m
theorem Zmf (X:Nat) (h:X≠0):bl (2*X)=bl X+1:=by
 have:=Zag 1 X h;rw [Nat.pow_one] at this;omega
theorem Zij (n:Bool) (X:Nat) (e:Int):mkS n (2*X) e=mkS n X (e+1):=by
 unfold mkS
 by_cases h:X=0
 · subst h;simp
 · rw [if_neg (by omega),if_neg h,Zme X h,Zmf X h]
   have e1:2*X/2^(lo X+1)=X/2^lo X:=by
    rw [Nat.pow_succ,Nat.mul_comm (2^lo X) 2,Nat.mul_div_mul_left _ _ (by omega)]
   rw [e1];have e2:(262144<bl X+1-(lo X+1)∨1048576-((lo X+1:Nat):Int)<e∨e < -1048576-((lo X+1:Nat):Int))↔(262144<bl X-lo X∨1048576-(lo X:Int)<e+1∨e+1 < -1048576-(lo X:Int)):=by omega
   by_cases h2:262144<bl X-lo X∨1048576-(lo X:Int)<e+1∨e+1 < -1048576-(lo X:Int)
   · rw [if_pos h2,if_pos (e2.2 h2)]
   · rw [if_neg h2,if_neg (fun h3=>h2 (e2.1 h3))]
     congr 3
     omega
theorem Z4 (n:Bool) (e:Int):mkS n 0 e=some (false,0,0):=by unfold mkS;rw [if_pos rfl]
theorem Zrj (X:Nat) (h:X%2=1):lo X=0:=by
 have:=Zo5 (X/2);rw [show 2*(X/2)+1=X by omega] at this
 exact this
theorem Zjy (n:Bool) (X:Nat) (e:Int) (h:X%2=1):mkS n X e=if 262144<bl X∨1048576<e∨e < -1048576 then none else some (n,X,e):=by
 have h0:X≠0:=by omega
 unfold mkS;rw [if_neg h0,Zrj X h];simp only [Nat.sub_zero,Nat.pow_zero,Nat.div_one]
 by_cases h2:262144<bl X∨1048576<e∨e < -1048576
 · rw [if_pos h2,if_pos (by omega)]
 · rw [if_neg h2,if_neg (by omega)]
   congr 3
   omega
structure Frm (n:Bool) (X:Nat) (e:Int):Prop where
 odd:X%2=1∨(X=0∧n=false∧e=0)
 size:bl X≤262144
 up:e≤1048576
 down:-1048576≤e
theorem Zo {n n':Bool}{X Y:Nat}{e f:Int}(h:mkS n X e=some (n',Y,f)):Frm n' Y f:=by
 unfold mkS at h
 split at h
 · cases h
   exact ⟨.inr ⟨rfl,rfl,rfl⟩,by rw [Zu];omega,by omega,by omega⟩
 · next h0 =>
   split at h
   · cases h
   · next h1 =>
     obtain ⟨m,hm,e1,hb⟩:=Qh X h0
     cases h
     refine ⟨.inl (by rw [e1];omega),by omega,by omega,by omega⟩
theorem Frm.self {n:Bool}{X:Nat}{e:Int}(h:Frm n X e):mkS n X e=some (n,X,e):=by
 rcases h.odd with h1|⟨rfl,rfl,rfl⟩
 · rw [Zjy n X e h1,if_neg]
   have:=h.size;have:=h.up;have:=h.down;omega
 · exact Z4 _ _
theorem Z0 {n:Bool}{X:Nat}{e:Int}(h:Frm n X e):(ws X).length≤8192:=by
 have h1:=Js X;have h2:=h.size;unfold LG at h1;omega
theorem Ze (n:Bool) (X:Nat) (e:Int):(ws (dX (mkS n X e))).length≤8192:=by
 unfold dX
 cases h:mkS n X e with
 | none=>simp [Zj]
 | some d =>
   obtain ⟨n',Y,f⟩:=d;exact Z0 (Zo h)
theorem Zrk (xs:List Nat) (ao:Option Addr) (n cap B i:Nat) (w:World) (hn:n=xs.length) (hm:n≤70368744177664) (hx:Wf xs) (hR:Rd B w ao xs) (hi:i<n) :
 Calls Tryz.prog 213 #[.slice ao n cap,.int .i64 (i:Nat)] w fun r w'=>r=.returned (.int .u32 ((xs.getD i 0:Nat):Int))∧w'=w:=by
 obtain ⟨b,off,hb,rfl,hc⟩:=hR (by intro e;subst e;simp at hn;omega)
 have hcell:=hc i (by omega)
 obtain ⟨x,hx2⟩:∃ x,xs.getD i 0=x:=⟨_,rfl⟩;rw [hx2] at hcell ⊢;have hi1:decide (n≤i)=false:=decide_eq_false (by omega)
 clear hc hx hn hx2;go_enter Tryz.func213,Tryz.ntmps213;go_wp2;go_ret;exact ⟨rfl,rfl⟩
theorem Zg1 (xs:List Nat) (ao:Option Addr) (n cap:Nat) (i:Int) (w:World) (hn:n=xs.length) (hm:n≤70368744177664) (hi:i<0∨(n:Int)≤i) :
 Calls Tryz.prog 213 #[.slice ao n cap,.int .i64 i] w fun r w'=>r=.returned (.int .u32 0)∧w'=w:=by
 clear hn
 rcases hi with h|h
 · go_enter Tryz.func213,Tryz.ntmps213
   go_wp2;go_ret;exact ⟨rfl,rfl⟩
 · have h0:decide (i<0)=false:=decide_eq_false (by omega)
   go_enter Tryz.func213,Tryz.ntmps213;go_wp2;go_ret;exact ⟨rfl,rfl⟩
def wd (xs:List Nat) (i:Int):Nat:=if i<0 then 0 else xs.getD i.toNat 0
theorem Zse (xs:List Nat) (hx:Wf xs) (i:Int):wd xs i<4294967296:=by
 unfold wd;split
 · omega
 · exact hx.get _
theorem Zg2 (xs:List Nat) (ao:Option Addr) (n cap B:Nat) (i:Int) (w:World) (hn:n=xs.length) (hm:n≤70368744177664) (hx:Wf xs) (hR:Rd B w ao xs) :
 Calls Tryz.prog 213 #[.slice ao n cap,.int .i64 i] w fun r w'=>r=.returned (.int .u32 ((wd xs i:Nat):Int))∧w'=w:=by
 by_cases h:i<0
 · unfold wd;rw [if_pos h];exact Zg1 xs ao n cap i w hn hm (.inl h)
 · obtain ⟨k,rfl⟩:∃ k:Nat,i=(k:Int):=⟨i.toNat,by omega⟩
   unfold wd;rw [if_neg h,Int.toNat_natCast]
   by_cases hk:k<n
   · exact Zrk xs ao n cap B k w hn hm hx hR hk
   · rw [List.getD_eq_getElem?_getD,List.getElem?_eq_none (by omega)]
     exact Zg1 xs ao n cap k w hn hm (.inr (by omega))
def win (X:Nat) (i:Int):Nat:=if i<0 then X*2^(-i).toNat%4294967296 else X/2^i.toNat%4294967296
theorem Zrl (xs:List Nat):val xs%4294967296=xs.getD 0 0%4294967296:=by
 cases xs with
 | nil=>simp [val]
 | cons x xs=>simp [val]
theorem Zol (xs:List Nat) (hx:Wf xs) (q:Nat):∃ R,val xs/pw q=xs.getD q 0+4294967296*(xs.getD (q+1) 0+4294967296*R):=by
 by_cases h:q<xs.length
 · have h1:val xs/pw q=val (xs.drop q):=by
    have h5:=Zx xs q (by omega)
    have h6:=val_lt (xs.take q) (hx.take q);rw [List.length_take,Nat.min_eq_left (by omega)] at h6
    rw [h5,Nat.add_mul_div_left _ _ (Qj q),Nat.div_eq_of_lt h6,Nat.zero_add]
   obtain ⟨R,hR⟩:∃ R,val (xs.drop (q+1))=xs.getD (q+1) 0+4294967296*R:=by
    by_cases h:q+1<xs.length
    · exact ⟨_,Zp xs (q+1) h⟩
    · refine ⟨0,?_⟩
      rw [List.drop_of_length_le (by omega),List.getD_eq_getElem?_getD,List.getElem?_eq_none (by omega)]
      rfl
   exact ⟨R,by rw [h1,Zp xs q h,hR]⟩
 · refine ⟨0,?_⟩
   have h1:=val_lt xs hx;have h2:=Yd (show xs.length≤q by omega)
   rw [Nat.div_eq_of_lt (by omega),List.getD_eq_getElem?_getD,List.getElem?_eq_none (by omega),List.getD_eq_getElem?_getD,List.getElem?_eq_none (by omega)]
   rfl
theorem Zrm (xs:List Nat) (hx:Wf xs) (q r:Nat) (hr:r<32):(xs.getD (q+1) 0*4294967296+xs.getD q 0)/2^r%4294967296=val xs/2^(32*q+r)%4294967296:=by
 rw [Jc,←Nat.div_div_eq_div_mul];obtain ⟨R,hR⟩:=Zol xs hx q;rw [hR]
 have e:xs.getD q 0+4294967296*(xs.getD (q+1) 0+4294967296*R)=(xs.getD (q+1) 0*4294967296+xs.getD q 0)+2^r*(4294967296*(2^(32-r)*R)):=by
  have h1:=Q9 r hr;have:2^r*(4294967296*(2^(32-r)*R))=4294967296*(4294967296*R):=by rw [←h1];grind
  rw [this];omega
 rw [e,Nat.add_mul_div_left _ _ (Nat.two_pow_pos _),Nat.add_mul_mod_self_left]
theorem Zjz (V k:Nat):V*2^k%4294967296=V%4294967296*2^k%4294967296:=by
 simp [Nat.mul_mod]
theorem Ztj (xs:List Nat) (hx:Wf xs) (i at':Int) (rest:Nat) (h1:at'=i/32) (h2:(rest:Int)=i%32) :
 (wd xs (at'+1)*4294967296+wd xs at')/2^rest%4294967296=win (val xs) i:=by
 have hr:rest<32:=by omega
 by_cases h:i<0
 · unfold win
   rw [if_pos h]
   by_cases h3:at'=-1
   · subst h3
     have e1:wd xs (-1)=0:=by unfold wd;rw [if_pos (by omega)]
     have e2:wd xs (-1+1)=xs.getD 0 0:=by unfold wd;rw [if_neg (by omega)];rfl
     rw [e1,e2,Nat.add_zero];obtain ⟨k,hk⟩:∃ k,(-i).toNat=k:=⟨_,rfl⟩;have e3:k=32-rest:=by omega
     rw [hk,Zjz,Zrl,←Zjz,←Q9 rest hr,e3];rw [show xs.getD 0 0*(2^rest*2^(32-rest))=2^rest*(xs.getD 0 0*2^(32-rest)) by grind,Nat.mul_div_cancel_left _ (Nat.two_pow_pos rest)]
   · have e1:wd xs at'=0:=by unfold wd;rw [if_pos (by omega)]
     have e2:wd xs (at'+1)=0:=by unfold wd;rw [if_pos (by omega)]
     rw [e1,e2];obtain ⟨k,hk⟩:∃ k,(-i).toNat=k+32:=⟨(-i).toNat-32,by omega⟩
     rw [hk,Nat.pow_add,show (2:Nat)^32=4294967296 from rfl,←Nat.mul_assoc,Nat.mul_mod_left]
     simp
 · obtain ⟨n,rfl⟩:∃ n:Nat,i=(n:Int):=⟨i.toNat,by omega⟩
   obtain ⟨q,rfl⟩:∃ q:Nat,at'=(q:Int):=⟨at'.toNat,by omega⟩
   have e1:wd xs ((q:Int)+1)=xs.getD (q+1) 0:=by unfold wd;rw [if_neg (by omega)];rfl
   have e2:wd xs (q:Int)=xs.getD q 0:=by unfold wd;rw [if_neg (by omega)];rfl
   unfold win;rw [if_neg h,e1,e2,Int.toNat_natCast,Zrm xs hx q rest hr];rw [show 32*q+rest=n by omega]
theorem Zuf (i:Int) (h0:-9223372036854775808≤i) (h1:i≤9223372036854775807):bits BinOp.and IntKind.i64 i 31=i%32:=by
 unfold bits;simp [IntKind.bits,IntKind.signed,IntKind.wrap]
 have e:(BitVec.ofInt 64 i &&& 31#64).toNat=(i%18446744073709551616).toNat%32:=by
  rw [BitVec.toNat_and,BitVec.toNat_ofInt];exact Nat.and_two_pow_sub_one_eq_mod _ 5
 show (if 9223372036854775808≤(((BitVec.ofInt 64 i &&& 31#64:BitVec 64).toNat:Nat):Int)%18446744073709551616 then (((BitVec.ofInt 64 i &&& 31#64:BitVec 64).toNat:Nat):Int)%18446744073709551616-18446744073709551616 else (((BitVec.ofInt 64 i &&& 31#64:BitVec 64).toNat:Nat):Int)%18446744073709551616)=i%32
 rw [e];generalize hz:(i%18446744073709551616).toNat=z;have hz2:(z:Int)=i%18446744073709551616:=by omega
 split <;> omega
theorem Zik (xs:List Nat) (ao:Option Addr) (n cap B:Nat) (i:Int) (w:World) (hn:n=xs.length) (hm:n≤70368744177664) (hx:Wf xs) (hR:Rd B w ao xs) (h0:-9223372036854775808≤i) (h1:i≤9223372036854775807) :
 Calls Tryz.prog 171 #[.slice ao n cap,.int .i64 i] w fun r w'=>r=.returned (.int .u32 ((win (val xs) i:Nat):Int))∧w'=w:=by
 obtain ⟨at',hat⟩:∃ a,a=i/32:=⟨_,rfl⟩;obtain ⟨rest,hrest⟩:∃ r:Nat,(r:Int)=i%32:=⟨(i%32).toNat,by omega⟩
 have hw:=Ztj xs hx i at' rest hat hrest;have W1:=hid (Zg2 xs ao n cap B (at'+1) w hn hm hx hR);have W2:=hid (Zg2 xs ao n cap B at' w hn hm hx hR);have l1:=Zse xs hx (at'+1);have l2:=Zse xs hx at';generalize wd xs (at'+1)=a at *;generalize wd xs at'=b at *;generalize win (val xs) i=v at *;have e1:i/32=at':=hat.symm;have e2:bits BinOp.and IntKind.i64 i 31=(rest:Int):=by rw [Zuf i h0 h1,hrest]
 have e3:=Jw a b l1 l2;have hr:rest<32:=by omega
 have ha0:-288230376151711744≤at':=by omega
 have ha1:at'≤288230376151711744:=by omega
 obtain ⟨t,ht⟩:∃ t:Nat,a*4294967296+b=t:=⟨_,rfl⟩;rw [ht] at e3 hw;have e4:(t:Int)/2^rest%4294967296=(v:Int):=by rw [←hw];simp
 clear hat hrest hw hn hx hR ht;go_enter Tryz.func171,Tryz.ntmps171
 go_wp2_with fail
 refine W1.out.mono ?_;rintro r w1 ⟨rfl,rfl⟩
 go_wp2_with fail
 refine W2.out.mono ?_;rintro r w2 ⟨rfl,rfl⟩;go_wp2;go_ret;exact ⟨by simp [e4],rfl⟩
theorem Zrn (Y i:Nat):(ws Y).getD i 0=Y/pw i%4294967296:=by
 induction i generalizing Y with
 | zero =>
   by_cases h:Y=0
   · subst h;simp [Zj]
   · rw [Jr Y h,Qv];simp
 | succ i ih =>
   by_cases h:Y=0
   · subst h;simp [Zj]
   · rw [Jr Y h,Zh,←Nat.div_div_eq_div_mul,←ih]
     simp
theorem Zom (X low i:Nat):win X ((low:Int)+32*(i:Int))=(ws (X/2^low)).getD i 0:=by
 rw [Zrn,Nat.div_div_eq_div_mul];unfold win;rw [if_neg (by omega),show ((low:Int)+32*(i:Int)).toNat=low+32*i by omega,Nat.pow_add,Nat.pow_mul]
 rfl
theorem Zon (Ys:List Nat) (k:Nat) (hk:k<Ys.length) :
 (Ys.take k++List.replicate (Ys.length-k) 0).set k (Ys.getD k 0)=Ys.take (k+1)++List.replicate (Ys.length-(k+1)) 0:=by
 apply List.ext_getElem?
 intro j;rw [List.getElem?_set]
 by_cases hj:k=j
 · subst hj
   rw [if_pos rfl,if_pos (by simp;omega),List.getElem?_append_left (by simp;omega)]
   simp [List.getD_eq_getElem?_getD,hk]
 · rw [if_neg hj]
   by_cases h1:j<k
   · rw [List.getElem?_append_left (by simp;omega),List.getElem?_append_left (by simp;omega)]
     simp [h1,show j<k+1 by omega]
   · rw [List.getElem?_append_right (by simp;omega),List.getElem?_append_right (by simp;omega)]
     simp only [List.getElem?_replicate,List.length_take]
     congr 1
     simp only [eq_iff_iff];omega
theorem Zro {w:World}{a:Option Addr}{n c:Nat}{xs:List Nat}(h1:Arg w a n c xs) (low size:Nat) (hle:low≤size) (hsz:size≤1125899906842624) (hlen:(size-low+31)/32=(ws (val xs/2^low)).length) :
 Calls Tryz.prog 126 #[.slice a n c,.int .i64 (low:Nat),.int .i64 (size:Nat)] w fun r w'=>∃ v,r=.returned v∧Nt w.heap.size w' v (val xs/2^low)∧Below w.heap.size w w':=by
 obtain ⟨m,hm⟩:∃ m,m=(size-low+31)/32:=⟨_,rfl⟩;rw [←hm] at hlen;have e1:((size:Int)-low+32-1)/32=(m:Int):=by omega
 have hmb:m≤35184372088832:=by omega
 obtain ⟨W1,hW1⟩:∃ W,W=w.alloc (.cells (madeCells #[.int .u32 0] m) 147):=⟨_,rfl⟩;have hO1:Own W1 w.heap.size (List.replicate m 0):=by rw [hW1];exact Own.made w m
 have hB1:Below w.heap.size w W1:=by rw [hW1];exact (Below.refl _ _).alloc (Nat.le_refl _) _
 have hmk:=Zt (m:Int) m rfl (by omega) w
 rw [←hW1] at hmk;have A1:=h1.below hB1;obtain ⟨g,hg⟩:∃ g,g=w.heap.size:=⟨_,rfl⟩;rw [←hg] at hO1 hmk;obtain ⟨Ys,hYs⟩:∃ Ys,ws (val xs/2^low)=Ys:=⟨_,rfl⟩;have hYw:Wf Ys:=hYs ▸ Z8 _;rw [hYs] at hlen
 have WN:Hid (∀ wr,But g W1 wr→∀ i:Nat,i<m→Calls Tryz.prog 171 #[.slice a n c,.int .i64 ((low:Int)+32*(i:Int))] wr fun r w'=>r=.returned (.int .u32 ((Ys.getD i 0:Nat):Int))∧w'=wr):=by
  intro wr hb i hi;have hR:Rd w.heap.size wr a xs:=(h1.rd.below hB1).but hb (by rw [hg] at *;have:=hB1.size;omega) (by omega)
  have:=Zik xs a n c w.heap.size ((low:Int)+32*(i:Int)) wr h1.len (by have:=h1.big;omega) h1.wf hR (by omega) (by omega)
  rw [Zom,hYs] at this;exact this
 have HR:=(qsd (ai hB1 (ai hg (ai hYs (ai hYw hlen)))))
 have HO:Hid (Own W1 g (Ys.take 0++List.replicate (Ys.length-0) 0)):=by
  rw [←hlen];exact hid (by simpa using hO1)
 clear hm h1 hO1 hB1 A1 hg hYs hYw hW1 hlen;go_enter Tryz.func126,Tryz.ntmps126;go_wp2
 go_loopg [18] m (fun gk iv wr=>∃ (k:Nat),gk+k=m∧iv=.int .i64 (k:Nat)∧Hid (Own wr g (Ys.take k++List.replicate (Ys.length-k) 0))∧Aside (But g W1 wr))
 case atStart=>exact ⟨0,by omega,rfl,HO,But.refl _ _⟩
 case round =>
  clear HO e1;obtain ⟨k,hgk,rfl,HM,HA⟩:=hrel
  by_cases hk:k<m
  · have hlen:=HR.out.2.2.2.2
    have hgc:=HM.out.cell k (by simp;omega)
    have hgf:=HM.out.frozen k;obtain ⟨old,hold⟩:∃ o:Nat,(Ys.take k++List.replicate (Ys.length-k) 0).getD k 0=o:=⟨_,rfl⟩;rw [hold] at hgc;obtain ⟨y,hy⟩:∃ y:Nat,Ys.getD k 0=y:=⟨_,rfl⟩;have W2:=hid (WN.out wr HA.out k hk);rw [hy] at W2;have HY:=qsd hy;clear hlen hold hy
    go_wp2_with fail
    refine W2.out.mono ?_;rintro r w2 ⟨rfl,rfl⟩;go_wp2
    go_roundg (gk-1)
    case measure=>omega
    case rel =>
     refine ⟨k+1,by omega,by first | go_num | (congr 1;omega),?_,HA.out.set _ _⟩
     rw [←Zon Ys k (by have:=HR.out.2.2.2.2;omega),HY.out]
     exact HM.out.set _ _
  · obtain rfl:k=m:=by omega
    go_wp2;go_ret;obtain ⟨hB1,hg,hYs,hYw,hlen⟩:=HR.out;have hO:=HM.out;rw [hlen,List.take_length,Nat.sub_self,List.replicate_zero,List.append_nil] at hO;have hN:=Nt.ofOwn hO (lo:=w.heap.size) (by omega) hYw (by unfold maxLen;omega)
    have e2:nl Ys=Ys.length:=by rw [←hYs];exact Zj4 _
    rw [e2,←hYs,Zc] at hN;rw [hlen,←hYs];exact ⟨_,rfl,hN,But.below hB1 HA.out hB1.size (by omega)⟩
def DAns (lo:Nat) (w:World) (r:Ending) (o:Option (Bool×Nat×Int)):Prop :=
 ∃ v,r=.returned (.tuple #[.agg #[.bool (dN o),v,.int .i64 (dE o)],.int .i64 (erS o)])∧Nt lo w v (dX o)
theorem bcell {W w1:World}(hb:Below W.heap.size W w1):(∀ b o,b<W.heap.size→w1.cell? ⟨b,o,none⟩=W.cell? ⟨b,o,none⟩)∧(∀ b o,b<W.heap.size→w1.frozen? ⟨b,o,none⟩=W.frozen? ⟨b,o,none⟩) :=
 ⟨fun b o h=>hb.cell (p:=⟨b,o,none⟩) h,fun b o h=>hb.frozen (p:=⟨b,o,none⟩) h⟩
theorem Qd (X:Nat):(ws X).length=(bl X+31)/32:=by
 by_cases h:X=0
 · subst h;simp [Zj,Zu]
 · have h1:=Zix X ((ws X).length-1) _ rfl
   have h2:=Zix X (ws X).length _ rfl;have h3:(ws X).length≠0:=fun e=>h ((Zm X).1 e)
   omega
theorem Ziy (X:Nat) (h:X≠0):(bl X-lo X+31)/32=(ws (X/2^lo X)).length:=by
 obtain ⟨m,_,_,hb⟩:=Qh X h;rw [Qd]
 congr 2
 omega
theorem Jo (g:Nat) (w:World) (x y z:Value):But g w (((w.setCell ⟨g,0,none⟩ x).setCell ⟨g,1,none⟩ y).setCell ⟨g,2,none⟩ z):=(((But.refl g w).set _ _).set _ _).set _ _
theorem Zda {w W1 w2:World}{v:Value}{Y:Nat}(hB:Below w.heap.size w W1) (hs:w.heap.size<W1.heap.size) (hN:Nt W1.heap.size w2 v Y) (hb:Below W1.heap.size W1 w2) (x y z:Value) :
 Nt w.heap.size (((w2.setCell ⟨w.heap.size,0,none⟩ x).setCell ⟨w.heap.size,1,none⟩ y).setCell ⟨w.heap.size,2,none⟩ z) v Y∧Below w.heap.size w (((w2.setCell ⟨w.heap.size,0,none⟩ x).setCell ⟨w.heap.size,1,none⟩ y).setCell ⟨w.heap.size,2,none⟩ z) :=
 ⟨(hN.but (Jo _ _ _ _ _) hs).mono (by omega),But.below (hB.trans (hb.mono (by omega))) (Jo _ _ _ _ _) (by have:=hb.size;omega) (Nat.le_refl _)⟩
theorem Z6 {w:World}{a:Option Addr}{n c:Nat}{xs:List Nat}(h1:Arg w a n c xs) (hT:Tab w) (neg:Bool) (e:Int) (he0:-9223372036854775808≤e) (he1:e≤9223372036854775807) :
 Calls Tryz.prog 86 #[.bool neg,.slice a n c,.int .i64 e] w fun r w'=>DAns w.heap.size w' r (mkS neg (val xs) e)∧Below w.heap.size w w':=by
 obtain ⟨W1,hW1⟩:∃ W,W=w.alloc (.cells #[.bool false,.slice none 0 0,.int .i64 0] 62):=⟨_,rfl⟩;have hB1:Below w.heap.size w W1:=by rw [hW1];exact (Below.refl _ _).alloc (Nat.le_refl _) _
 have A1:=h1.below hB1;have hT1:=hT.belows hB1;have hbig:=h1.big;have H1:=hid (Zaw xs a n c W1.heap.size W1 A1.len A1.cap (by omega) A1.wf A1.rd)
 have H2:=hid (Zq4 xs a n c W1.heap.size W1 A1.len (by omega) A1.wf A1.rd hT1)
 have hbl:bl (val xs)≤32*n:=by
  have:=val_lt xs h1.wf;rw [←h1.len] at this;exact Zpf _ _ this
 obtain ⟨X,hX⟩:∃ X,val xs=X:=⟨_,rfl⟩;rw [hX] at H1 H2 hbl ⊢;obtain ⟨b,hb⟩:∃ b,bl X=b:=⟨_,rfl⟩;obtain ⟨l,hl⟩:∃ l,lo X=l:=⟨_,rfl⟩;rw [hb] at H1 hbl;rw [hl] at H2;unfold mkS;rw [hb,hl]
 have hlb:l≤b:=by
  by_cases h0:X=0
  · subst h0;rw [Zez] at hl;omega
  · obtain ⟨m,_,_,hbb⟩:=Qh X h0
    omega
 have HB:=qsd hB1;have SZ:W1.heap.size=w.heap.size+1:=by rw [hW1];simp
 by_cases h0:X=0
 · have hb0:b=0:=by rw [←hb,h0,Zu]
   subst hb0;rw [if_pos h0];clear hb hl hX h0 hB1 A1 hT1 hT h1 hlb hbl SZ;subst hW1;go_enter Tryz.func86,Tryz.ntmps86
   go_wp2_with fail
   refine H1.out.mono ?_;rintro r w1 ⟨rfl,rfl⟩
   go_wp2_with fail
   refine H2.out.mono ?_;rintro r w1 ⟨rfl,rfl⟩;go_wp2;refine bodyPost_ret (v:=.tuple #[.agg #[.bool false,.slice none 0 0,.int .i64 0],.int .i64 0]) (by simp [results,Tryz.results86,go_sem]) rfl ⟨⟨_,rfl,Nt.nil _ _⟩,HB.out⟩
 · rw [if_neg h0]
   have hb0:((b:Int)==0)=false:=by have:=Zv X h0;simp;omega
   have hOD:=Zro A1 l b hlb (by omega) (by rw [hX,←hb,←hl];exact Ziy X h0)
   rw [hX] at hOD;have H3:=hid hOD
   by_cases h2:262144<b-l
   · rw [if_pos (.inl h2)]
     have h2':(262144:Int)<(b:Int)-l:=by omega
     clear hb hl hX h0 hB1 A1 hT1 hT h1 SZ H3 h2 hOD;subst hW1;go_enter Tryz.func86,Tryz.ntmps86
     go_wp2_with fail
     refine H1.out.mono ?_;rintro r w1 ⟨rfl,rfl⟩
     go_wp2_with fail
     refine H2.out.mono ?_;rintro r w1 ⟨rfl,rfl⟩;go_wp2;refine bodyPost_ret (v:=.tuple #[.agg #[.bool false,.slice none 0 0,.int .i64 0],.int .i64 2]) (by simp [results,Tryz.results86,go_sem]) rfl ⟨⟨_,rfl,Nt.nil _ _⟩,HB.out⟩
   · have h2':decide ((262144:Int)<(b:Int)-l)=false:=decide_eq_false (by omega)
     by_cases h3:1048576-(l:Int)<e
     · rw [if_pos (.inr (.inl h3))]
       clear hb hl hX h0 hB1 A1 hT1 hT h1 SZ H3 h2 hOD;subst hW1;go_enter Tryz.func86,Tryz.ntmps86
       go_wp2_with fail
       refine H1.out.mono ?_;rintro r w1 ⟨rfl,rfl⟩
       go_wp2_with fail
       refine H2.out.mono ?_;rintro r w1 ⟨rfl,rfl⟩;go_wp2;refine bodyPost_ret (v:=.tuple #[.agg #[.bool false,.slice none 0 0,.int .i64 0],.int .i64 2]) (by simp [results,Tryz.results86,go_sem]) rfl ⟨⟨_,rfl,Nt.nil _ _⟩,HB.out⟩
     · have h3':decide (1048576-(l:Int)<e)=false:=decide_eq_false h3
       by_cases h4:e < -1048576-(l:Int)
       · rw [if_pos (.inr (.inr h4))]
         clear hb hl hX h0 hB1 A1 hT1 hT h1 SZ H3 h2 hOD;subst hW1;go_enter Tryz.func86,Tryz.ntmps86
         go_wp2_with fail
         refine H1.out.mono ?_;rintro r w1 ⟨rfl,rfl⟩
         go_wp2_with fail
         refine H2.out.mono ?_;rintro r w1 ⟨rfl,rfl⟩;go_wp2;refine bodyPost_ret (v:=.tuple #[.agg #[.bool false,.slice none 0 0,.int .i64 0],.int .i64 2]) (by simp [results,Tryz.results86,go_sem]) rfl ⟨⟨_,rfl,Nt.nil _ _⟩,HB.out⟩
       · have h4':decide (e < -1048576-(l:Int))=false:=decide_eq_false h4
         rw [if_neg (by omega)]
         obtain ⟨Y,hY⟩:∃ Y,X/2^l=Y:=⟨_,rfl⟩;rw [hY] at H3 ⊢;have hs:(ws Y).length≤35184372088832:=by rw [←hY,←hl,←Ziy X h0];omega
         have h5:e+l≤1048576:=by omega
         have h6:-1048576≤e+l:=by omega
         clear hb hl hX h0 hB1 A1 hT1 hT h1 hOD h2 h3 h4;subst hW1;go_enter Tryz.func86,Tryz.ntmps86
         go_wp2_with fail
         refine H1.out.mono ?_;rintro r w1 ⟨rfl,rfl⟩
         go_wp2_with fail
         refine H2.out.mono ?_;rintro r w1 ⟨rfl,rfl⟩
         go_wp2_with fail
         refine H3.out.mono ?_;rintro r w2 ⟨v,rfl,hN,hb⟩;obtain ⟨a2,c2,rfl,_⟩:=hN.arg hs;obtain ⟨hc,hf⟩:=bcell hb;have HN:=(qsd (ai hN hb));have hz:=hb.size;clear hN hb;go_wp2;obtain ⟨q1,q2⟩:=Zda HB.out (by simp) HN.out.1 HN.out.2 (.bool neg) (.slice a2 (ws Y).length c2) (.int .i64 (e+l))
         exact bodyPost_ret (v:=.tuple #[.agg #[.bool neg,.slice a2 (ws Y).length c2,.int .i64 (e+l)],.int .i64 0]) (by simp [results,Tryz.results86,go_sem,hc]) rfl ⟨⟨_,rfl,q1⟩,q2⟩
def FAns (lo:Nat) (w:World) (r:Ending) (o:Option (Bool×Nat×Int)):Prop :=
 ∃ v,r=.returned (.tuple #[.agg #[.bool (dN o),v,.int .i64 (dE o)],.bool o.isSome])∧Nt lo w v (dX o)
theorem Zmg {w:World}{v:Value}{X lo':Nat}(hN:Nt lo' w v X) (hX:X≠0) (hl:(ws X).length≤2000000) :
 Calls Tryz.prog 123 #[v,.int .i64 (-(lo X:Int))] w fun r w'=>∃ v,r=.returned v∧Nt w.heap.size w' v (X/2^lo X)∧Below w.heap.size w w':=by
 have hb:=Zpg X hX (ws X).length (Qc X);have h:=J1 hN (-(lo X:Int)) (by omega) (by omega) hX hl
 have e:(if -(lo X:Int)<0 then X/2^(- -(lo X:Int)).toNat else X*2^(-(lo X:Int)).toNat)=X/2^lo X:=by
  by_cases h0:lo X=0
  · rw [h0];simp
  · rw [if_pos (by omega),show (- -(lo X:Int)).toNat=lo X by omega]
 rw [e] at h;exact h
theorem J4 {w:World}{a:Option Addr}{n c:Nat}{xs:List Nat}(h1:Arg w a n c xs) (hn:n≤2000000) (neg:Bool) (e:Int) (he0:-9223372036854775808≤e) (he1:e≤9223372036854775807) :
 Calls Tryz.prog 82 #[.bool neg,.slice a n c,.int .i64 e] w fun r w'=>FAns w.heap.size w' r (mkS neg (val xs) e)∧Below w.heap.size w w':=by
 have hB1:Below w.heap.size w (w.alloc (.cells #[.bool false,.slice none 0 0,.int .i64 0] 62)):=Za w _;obtain ⟨X,hX⟩:∃ X,val xs=X:=⟨_,rfl⟩;have H1:=hid (Zd4 (h1.below hB1) hX);rw [hX];have hXp:X<pw n:=by rw [←hX,h1.len];exact val_lt xs h1.wf
 have hXl:(ws X).length≤2000000:=by have:=(Zf X n).2 hXp;omega
 have HB:=qsd hB1;clear h1 hX hB1 hXp;unfold mkS
 by_cases h0:X=0
 · rw [if_pos h0]
   have hl0:(ws X).length=0:=by rw [h0,Zj];rfl
   go_enter Tryz.func82,Tryz.ntmps82
   go_wp2_with fail
   refine H1.out.mono ?_;rintro r w2 ⟨v,rfl,hN,hb⟩;obtain ⟨a2,c2,rfl,_⟩:=hN.arg (by omega)
   obtain ⟨hc,hf⟩:=bcell hb;have HN:=(qsd (ai hN hb));have hz:=hb.size;clear hN hb;rw [hl0];go_wp2;obtain ⟨q1,q2⟩:=Zda HB.out (by simp) HN.out.1 HN.out.2 (.bool false) (.slice none 0 0) (.int .i64 0)
   exact bodyPost_ret (v:=.tuple #[.agg #[.bool false,.slice none 0 0,.int .i64 0],.bool true]) (by simp [results,Tryz.results82,go_sem,hc]) rfl ⟨⟨_,rfl,Nt.nil _ _⟩,q2⟩
 · rw [if_neg h0]
   have hlo:=Zpg X h0 (ws X).length (Qc X);have hml:=Ziy X h0;have hbl:=Zv X h0
   have hL0:((((ws X).length:Nat):Int)==0)=false:=by
    have:(ws X).length≠0:=fun e=>h0 ((Zm X).1 e)
    exact beq_eq_false_iff_ne.2 (by omega)
   have H2:Hid (∀ (a2:Option Addr) (c2:Nat) (u:World),Arg u a2 (ws X).length c2 (ws X)→Calls Tryz.prog 122 #[.slice a2 (ws X).length c2] u fun r w'=>r=.returned (.int .i64 (lo X:Nat))∧w'=u):=by
    intro a2 c2 u A;have:=Zoj (ws X) a2 (ws X).length c2 u.heap.size u A.len (by omega) A.wf A.rd
    rw [Zc] at this;exact this
   have H3:Hid (∀ (lo':Nat) (v:Value) (u:World),Nt lo' u v X→Calls Tryz.prog 123 #[v,.int .i64 (-(lo X:Int))] u fun r w'=>∃ v,r=.returned v∧Nt u.heap.size w' v (X/2^lo X)∧Below u.heap.size u w') :=
    fun lo' v u hN=>Zmg hN h0 hXl
   obtain ⟨l,hl⟩:∃ l,lo X=l:=⟨_,rfl⟩;obtain ⟨b,hb⟩:∃ b,bl X=b:=⟨_,rfl⟩;obtain ⟨Y,hY⟩:∃ Y,X/2^l=Y:=⟨_,rfl⟩;rw [hl] at H2 H3 hlo hml;rw [hb] at hml hbl;rw [hY] at H3 hml;rw [hl,hb,hY];have hYl:(ws Y).length≤2000000:=by rw [←hY];have:=Zbv (Nat.div_le_self X (2^l));omega
   by_cases h3:1048576-(l:Int)<e∨e < -1048576-(l:Int)
   · rw [if_pos (.inr h3)]
     clear hml hbl hY hl hb h0
     by_cases g1:1048576<e
     · clear h3
       go_enter Tryz.func82,Tryz.ntmps82
       go_wp2_with fail
       refine H1.out.mono ?_;rintro r w2 ⟨v,rfl,hN,hb⟩;obtain ⟨a2,c2,rfl,A2⟩:=hN.arg (by omega)
       obtain ⟨hc,hf⟩:=bcell hb;have HN:=(qsd (ai hN hb));have hz:=hb.size;have H2':=hid (H2.out a2 c2 w2 A2);clear hN hb A2
       go_wp2_with fail
       refine (Calls.mono H2'.out) ?_;rintro r w3 ⟨rfl,rfl⟩;go_wp2;obtain ⟨q1,q2⟩:=Zda HB.out (by simp) HN.out.1 HN.out.2 (.bool false) (.slice none 0 0) (.int .i64 0)
       exact bodyPost_ret (v:=.tuple #[.agg #[.bool false,.slice none 0 0,.int .i64 0],.bool false]) (by simp [results,Tryz.results82,go_sem,hc]) rfl ⟨⟨_,rfl,Nt.nil _ _⟩,q2⟩
     · have g1':decide (1048576<e)=false:=decide_eq_false g1
       by_cases g2:1048576<e+(l:Int)
       · clear h3
         go_enter Tryz.func82,Tryz.ntmps82
         go_wp2_with fail
         refine H1.out.mono ?_;rintro r w2 ⟨v,rfl,hN,hb⟩;obtain ⟨a2,c2,rfl,A2⟩:=hN.arg (by omega)
         obtain ⟨hc,hf⟩:=bcell hb;have HN:=(qsd (ai hN hb));have hz:=hb.size;have H2':=hid (H2.out a2 c2 w2 A2);clear hN hb A2
         go_wp2_with fail
         refine (Calls.mono H2'.out) ?_;rintro r w3 ⟨rfl,rfl⟩;go_wp2;obtain ⟨q1,q2⟩:=Zda HB.out (by simp) HN.out.1 HN.out.2 (.bool false) (.slice none 0 0) (.int .i64 0)
         exact bodyPost_ret (v:=.tuple #[.agg #[.bool false,.slice none 0 0,.int .i64 0],.bool false]) (by simp [results,Tryz.results82,go_sem,hc]) rfl ⟨⟨_,rfl,Nt.nil _ _⟩,q2⟩
       · have g2':decide (1048576<e+(l:Int))=false:=decide_eq_false g2
         have g3:e+(l:Int) < -1048576:=by omega
         clear h3;go_enter Tryz.func82,Tryz.ntmps82
         go_wp2_with fail
         refine H1.out.mono ?_;rintro r w2 ⟨v,rfl,hN,hb⟩;obtain ⟨a2,c2,rfl,A2⟩:=hN.arg (by omega)
         obtain ⟨hc,hf⟩:=bcell hb;have HN:=(qsd (ai hN hb));have hz:=hb.size;have H2':=hid (H2.out a2 c2 w2 A2);clear hN hb A2
         go_wp2_with fail
         refine (Calls.mono H2'.out) ?_;rintro r w3 ⟨rfl,rfl⟩;go_wp2;obtain ⟨q1,q2⟩:=Zda HB.out (by simp) HN.out.1 HN.out.2 (.bool false) (.slice none 0 0) (.int .i64 0)
         exact bodyPost_ret (v:=.tuple #[.agg #[.bool false,.slice none 0 0,.int .i64 0],.bool false]) (by simp [results,Tryz.results82,go_sem,hc]) rfl ⟨⟨_,rfl,Nt.nil _ _⟩,q2⟩
   · have g1':decide (1048576<e)=false:=decide_eq_false (by omega)
     have g2':decide (1048576<e+(l:Int))=false:=decide_eq_false (by omega)
     have g3':decide (e+(l:Int) < -1048576)=false:=decide_eq_false (by omega)
     have g4:e+(l:Int)≤1048576:=by omega
     have g5:-1048576≤e+(l:Int):=by omega
     have hdec:(262144<b-l)↔8192<(ws Y).length:=by omega
     by_cases h4:262144<b-l
     · rw [if_pos (.inl h4)]
       have h5:8192<(ws Y).length:=hdec.1 h4;clear hml hbl hY hl hb h0 h3 hdec h4;go_enter Tryz.func82,Tryz.ntmps82
       go_wp2_with fail
       refine H1.out.mono ?_;rintro r w2 ⟨v,rfl,hN,hb⟩;obtain ⟨a2,c2,rfl,A2⟩:=hN.arg (by omega)
       have hz:=hb.size;have H2':=hid (H2.out a2 c2 w2 A2);have H3':=hid (H3.out _ _ w2 hN);have HN:=(qsd (ai hN hb));clear hN hb A2
       go_wp2_with fail
       refine (Calls.mono H2'.out) ?_;rintro r w3 ⟨rfl,rfl⟩
       go_wp2_with fail
       refine (Calls.mono H3'.out) ?_;rintro r w4 ⟨v4,rfl,hN4,hb4⟩;obtain ⟨a4,c4,rfl,_⟩:=hN4.arg (by omega)
       have hb:=HN.out.2.trans (hb4.mono hz);have hN5:=hN4.mono hz;obtain ⟨hc,hf⟩:=bcell hb;have HN:=(qsd (ai hN5 hb));clear hN4 hb4 hb hN5;go_wp2;obtain ⟨q1,q2⟩:=Zda HB.out (by simp) HN.out.1 HN.out.2 (.bool false) (.slice none 0 0) (.int .i64 0)
       exact bodyPost_ret (v:=.tuple #[.agg #[.bool false,.slice none 0 0,.int .i64 0],.bool false]) (by simp [results,Tryz.results82,go_sem,hc]) rfl ⟨⟨_,rfl,Nt.nil _ _⟩,q2⟩
     · rw [if_neg (by omega)]
       have h5:(ws Y).length≤8192:=by omega
       clear hml hbl hY hl hb h0 h3 hdec h4;go_enter Tryz.func82,Tryz.ntmps82
       go_wp2_with fail
       refine H1.out.mono ?_;rintro r w2 ⟨v,rfl,hN,hb⟩;obtain ⟨a2,c2,rfl,A2⟩:=hN.arg (by omega)
       have hz:=hb.size;have H2':=hid (H2.out a2 c2 w2 A2);have H3':=hid (H3.out _ _ w2 hN);have HN:=(qsd (ai hN hb));clear hN hb A2
       go_wp2_with fail
       refine (Calls.mono H2'.out) ?_;rintro r w3 ⟨rfl,rfl⟩
       go_wp2_with fail
       refine (Calls.mono H3'.out) ?_;rintro r w4 ⟨v4,rfl,hN4,hb4⟩;obtain ⟨a4,c4,rfl,_⟩:=hN4.arg (by omega)
       have hb:=HN.out.2.trans (hb4.mono hz);have hN5:=hN4.mono hz;obtain ⟨hc,hf⟩:=bcell hb;have HN:=(qsd (ai hN5 hb));clear hN4 hb4 hb hN5;go_wp2;obtain ⟨q1,q2⟩:=Zda HB.out (by simp) HN.out.1 HN.out.2 (.bool neg) (.slice a4 (ws Y).length c4) (.int .i64 (e+l))
       exact bodyPost_ret (v:=.tuple #[.agg #[.bool neg,.slice a4 (ws Y).length c4,.int .i64 (e+l)],.bool true]) (by simp [results,Tryz.results82,go_sem,hc]) rfl ⟨⟨_,rfl,q1⟩,q2⟩
theorem But.setC {g:Nat}(w:World) (i:Nat) (u:Value):But g w (w.setCell ⟨g,i,none⟩ u):=(But.refl g w).set _ _
theorem Nt.setC {lo:Nat}{w:World}{v:Value}{X:Nat}(h:Nt lo w v X) (b i:Nat) (u:Value) (hb:b<lo):Nt lo (w.setCell ⟨b,i,none⟩ u) v X:=h.but (But.setC w i u) hb
theorem Nt.allocC {lo:Nat}{w:World}{v:Value}{X:Nat}(h:Nt lo w v X) (o:Obj):Nt lo (w.alloc o) v X:=h.below (Za w o)
theorem Below.setC {lo:Nat}{w0 w:World}(h:Below lo w0 w) (b i:Nat) (u:Value) (hb:lo≤b) (hs:lo≤w.heap.size):Below lo w0 (w.setCell ⟨b,i,none⟩ u):=But.below h (But.setC w i u) hs hb
structure Fin (lo m:Nat) (w0 w:World) (v:Value) (X:Nat):Prop where
 nt:Nt m w v X
 bel:Below lo w0 w
 size:lo≤w.heap.size
theorem Fin.set {lo m:Nat}{w0 w:World}{v:Value}{X:Nat}(H:Fin lo m w0 w v X) (b i:Nat) (u:Value) (h1:lo≤b) (h2:b<m):Fin lo m w0 (w.setCell ⟨b,i,none⟩ u) v X :=
 ⟨H.nt.setC b i u h2,Below.setC H.bel b i u h1 H.size,by simpa [World.setCell] using H.size⟩
theorem Fin.alloc {lo m:Nat}{w0 w:World}{v:Value}{X:Nat}(H:Fin lo m w0 w v X) (o:Obj):Fin lo m w0 (w.alloc o) v X :=
 ⟨H.nt.allocC o,H.bel.alloc H.size o,by have:=H.size;simp;omega⟩
theorem Fin.of {lo:Nat}{w0 W1 w2:World}{v:Value}{X:Nat}(k:Nat) (hB:Below lo w0 W1) (hk:W1.heap.size=lo+k) (hN:Nt W1.heap.size w2 v X) (hb:Below W1.heap.size W1 w2):Fin lo (lo+k) w0 w2 v X :=
 ⟨hk ▸ hN,hB.trans (hb.mono (by omega)),by have:=hb.size;omega⟩
theorem Fin.dans {lo m:Nat}{w0 w:World}{n:Bool}{v:Value}{X:Nat}{e:Int}{k:Value}(H:Fin lo m w0 w v X) (h:lo≤m) :
 (∃ v',Ending.returned (.tuple #[.agg #[.bool n,v,.int .i64 e],k])=.returned (.tuple #[.agg #[.bool n,v',.int .i64 e],k])∧Nt lo w v' X)∧Below lo w0 w:=⟨⟨v,rfl,H.nt.mono h⟩,H.bel⟩
theorem Fin.dnil {lo m:Nat}{w0 w:World}{n:Bool}{v:Value}{X:Nat}{e:Int}{k:Value}(H:Fin lo m w0 w v X) :
 (∃ v',Ending.returned (.tuple #[.agg #[.bool n,.slice none 0 0,.int .i64 e],k])=.returned (.tuple #[.agg #[.bool n,v',.int .i64 e],k])∧Nt lo w v' 0)∧Below lo w0 w:=⟨⟨_,rfl,Nt.nil _ _⟩,H.bel⟩
theorem J5 {w:World}{a:Option Addr}{n c:Nat}{xs:List Nat}(h1:Arg w a n c xs) (hn:n≤2000000) (neg:Bool) (e:Int) (he0:-9223372036854775808≤e) (he1:e≤9223372036854775807) :
 Calls Tryz.prog 118 #[.bool neg,.slice a n c,.int .i64 e] w fun r w'=>DAns w.heap.size w' r (mkS neg (val xs) e)∧Below w.heap.size w w':=by
 have H1:=hid (J4 (h1.below (Za w (.cells #[.bool false,.slice none 0 0,.int .i64 0] 62))) hn neg e he0 he1);have hl:=Ze neg (val xs) e;obtain ⟨o,ho⟩:∃ o,mkS neg (val xs) e=o:=⟨_,rfl⟩;rw [ho] at H1 hl ⊢;unfold FAns at H1;unfold DAns;have HB:=qsd (Za w (.cells #[.bool false,.slice none 0 0,.int .i64 0] 62));clear h1 ho hn he0 he1
 match o with
 | none =>
   simp only [dN,dX,dE,erS,Option.isSome,Option.getD] at H1 hl ⊢;go_enter Tryz.func118,Tryz.ntmps118
   go_wp2_with fail
   refine H1.out.mono ?_;rintro r w2 ⟨⟨v,rfl,hN⟩,hb⟩;obtain ⟨a2,c2,rfl,_⟩:=hN.arg (by omega)
   obtain ⟨hc,hf⟩:=bcell hb;have HF:=qsd (Fin.of 1 HB.out (by simp) hN hb)
   have hz:w.heap.size<w2.heap.size:=by have:=hb.size;simp at this;omega
   clear hN hb;go_wp2;exact bodyPost_ret (v:=.tuple #[.agg #[.bool false,.slice none 0 0,.int .i64 0],.int .i64 2]) (by simp [results,Tryz.results118,go_sem,hc,hz]) rfl (Fin.dnil (m:=w.heap.size+1) (v:=.slice a2 (ws 0).length c2) (X:=0) (by repeat (first | exact HF.out | refine Fin.alloc ?_ _ | refine Fin.set ?_ _ _ _ (by omega) (by omega))))
 | some (dn,X,de) =>
   simp only [dN,dX,dE,erS,Option.isSome,Option.getD] at H1 hl ⊢;go_enter Tryz.func118,Tryz.ntmps118
   go_wp2_with fail
   refine H1.out.mono ?_;rintro r w2 ⟨⟨v,rfl,hN⟩,hb⟩;obtain ⟨a2,c2,rfl,_⟩:=hN.arg (by omega)
   obtain ⟨hc,hf⟩:=bcell hb;have HF:=qsd (Fin.of 1 HB.out (by simp) hN hb)
   have hz:w.heap.size<w2.heap.size:=by have:=hb.size;simp at this;omega
   clear hN hb;go_wp2;exact bodyPost_ret (v:=.tuple #[.agg #[.bool dn,.slice a2 (ws X).length c2,.int .i64 de],.int .i64 0]) (by simp [results,Tryz.results118,go_sem,hc,hz]) rfl (Fin.dans (m:=w.heap.size+1) (by repeat (first | exact HF.out | refine Fin.alloc ?_ _ | refine Fin.set ?_ _ _ _ (by omega) (by omega))) (by omega))
end
end Go.Proofs.YtblkpkgebigojaaGreatDoor
