import Derived.Test.YtjldfhecnaiinabGreatDoorZ27x
import Derived.Test.YtjldfhecnaiinabGreatDoorN2x
import Derived.Test.YtjldfhecnaiinabGreatDoorD21x
import Derived.Test.YtjldfhecnaiinabGreatDoorZ5x
import Derived.Test.YtjldfhecnaiinabGreatDoorS11ax
set_option linter.unusedVariables false
set_option linter.unusedSimpArgs false
set_option maxHeartbeats 16000000
set_option maxRecDepth 20000
namespace Go.Proofs.YtjldfhecnaiinabGreatDoor
namespace J
end J
namespace Ps
open Go.RowKit
open Go.Proofs.YtjldfhecnaiinabGreatDoor.B (f64bits f64frombits bw bcell)
attribute [local go_sem] f64bits f64frombits
theorem Sift_arg (xs:List Nat) (ao:Option Addr) (n cap:Nat) (a b:Int) (w:World) (hm:may a b=false) :
 Calls Tryz.prog 34 #[.slice ao n cap,.agg #[.int .i64 a,.int .i64 b]] w (SiftAns w a b xs):=by
 have H:=hid (May_any a b);rw [hm] at H;have HE:Aside (siftE a b xs=1):=by unfold siftE;rw [hm];rfl
 clear hm;go_enter Tryz.func34,Tryz.ntmps34
 go_wp2_with fail
 refine (H.out _).mono ?_;rintro r w1 ⟨rfl,hb⟩;have hsz:=hb.size;simp at hsz;obtain ⟨hc,hf⟩:=bcell hb;have HB:=qsd hb;clear hb;go_wp2;refine bodyPost_ret (v:=.tuple #[.slice none 0 0,.agg #[.int .i64 0,.int .i64 0,.int .i64 0,.int .i64 0,.int .i64 0,.int .i64 0],.int .i64 1]) (by simp [results,Tryz.results34,go_sem,csetm,hc]) rfl (SiftAns.no 1 HE.out (by decide) ?_)
 exact But.below ((((Below.refl _ w).alloc (Nat.le_refl _) _).alloc (by simp) _).trans (HB.out.mono (by simp;omega))) (But.set6 (But.refl (w.heap.size+1) _) _ _ _ _ _ _) (by omega) (by omega)
theorem Sift_long (xs:List Nat) (ao:Option Addr) (n cap:Nat) (a b:Int) (w:World) (hn:n=xs.length) (hm:may a b=true) (hl:65536<n) (hn2:n≤35184372088832) :
 Calls Tryz.prog 34 #[.slice ao n cap,.agg #[.int .i64 a,.int .i64 b]] w (SiftAns w a b xs):=by
 have H:=hid (May_any a b);rw [hm] at H;have HE:Aside (siftE a b xs=2):=by unfold siftE;rw [if_neg (by rw [hm];decide),if_pos (by omega),Aside]
 clear hm hn;go_enter Tryz.func34,Tryz.ntmps34
 go_wp2_with fail
 refine (H.out _).mono ?_;rintro r w1 ⟨rfl,hb⟩;have hsz:=hb.size;simp at hsz;obtain ⟨hc,hf⟩:=bcell hb;have HB:=qsd hb;clear hb;go_wp2;refine bodyPost_ret (v:=.tuple #[.slice none 0 0,.agg #[.int .i64 0,.int .i64 0,.int .i64 0,.int .i64 0,.int .i64 0,.int .i64 0],.int .i64 2]) (by simp [results,Tryz.results34,go_sem,csetm,hc]) rfl (SiftAns.no 2 HE.out (by decide) ?_)
 exact But.below ((((Below.refl _ w).alloc (Nat.le_refl _) _).alloc (by simp) _).trans (HB.out.mono (by simp;omega))) (But.set6 (But.refl (w.heap.size+1) _) _ _ _ _ _ _) (by omega) (by omega)
set_option maxRecDepth 100000 in
theorem Sift_rest (xs:List Nat) (ao:Option Addr) (n cap B:Nat) (a b:Int) (w:World) (hn:n=xs.length) (hm:may a b=true) (hl:n≤65536) (hx:Wf xs) (hR:Rd B w ao xs) (hB:B≤w.heap.size) :
 Calls Tryz.prog 34 #[.slice ao n cap,.agg #[.int .i64 a,.int .i64 b]] w (SiftAns w a b xs):=by
 have H:=hid (May_any a b);rw [hm] at H;have HE:Aside (siftE a b xs=rf (cn 5 xs:Nat) (cn 3 xs:Nat) (cn 4 xs:Nat) a b):=by unfold siftE;rw [if_neg (by rw [hm];decide),if_neg (by omega),Aside]
 have hmk:=make_room n hl;have HX:=(qsd (ai hn (ai hx (ai hR hB))));clear hm hn hx hR hB;go_enter Tryz.func34,Tryz.ntmps34
 go_wp2_with fail
 refine (H.out _).mono ?_;rintro r w1 ⟨rfl,hb⟩;have hsz:=hb.size;simp at hsz;obtain ⟨hc,hf⟩:=bcell hb;have HB:=qsd hb
 have HZ:Aside (SpB w1 (w.heap.size+1) 0 0 0 0 0 0):=by
  have h1:=SpB.made (w.alloc (.cells #[.int .i64 a,.int .i64 b] 29)) 0 0 0 0 0 0;simp only [World.size_alloc] at h1;exact h1.below hb (by simp)
 clear hb;go_wp2
 go_loopg [7,28] n (fun gk lv cv wr=>∃ (i:Nat),gk+i=n∧cv=.int .i64 (i:Nat)∧Aside (SI w1.heap.size (w1.heap.size+1) w1 xs i (n:Nat) lv wr))
 case atStart =>
  refine ⟨0,by omega,rfl,?_⟩
  have h1:=(row_made w1.heap.size w1 n hl (Nat.le_refl _)).alloc (.cells #[.int .i64 0,.int .i64 0,.int .i64 0,.int .i64 0,.int .i64 0,.int .i64 (n:Nat)] 61);have h2:=SpB.made (w1.alloc (.cells (madeCells #[.float .f64 0] n) 22)) 0 0 0 0 0 (n:Nat);simp only [World.size_alloc] at h2;exact ⟨h1,h2,((Below.refl _ _).alloc (Nat.le_refl _) _).alloc (by simp) _,by simp;omega⟩
 case round =>
  obtain ⟨i,hi,rfl,HA⟩:=hrel
  by_cases hin:i=n
  · obtain rfl:gk=0:=by omega
    obtain ⟨hn,hx,hR,hB⟩:=HX.out;have hS:=HA.out;have e:xs.take i=xs:=List.take_of_length_le (by omega)
    have hT:=hS.sp;unfold SpT at hT;rw [e] at hT;have hc0:=hT.c0;have hc1:=hT.c1;have hc2:=hT.c2;have hc3:=hT.c3;have hc4:=hT.c4;have hc5:=hT.c5;have hlt:=hT.lt;have hcb:∀ b o,b<w1.heap.size→wr.cell? ⟨b,o,none⟩=w1.cell? ⟨b,o,none⟩:=fun b o h=>hS.bel.cell (p:=⟨b,o,none⟩) h
    have hp0:wr.cell? ⟨w.heap.size,0,none⟩=some (.int .i64 a):=by rw [hcb _ _ (by omega),hc _ _ (by simp;omega)];simp [go_sem]
    have hp1:wr.cell? ⟨w.heap.size,1,none⟩=some (.int .i64 b):=by rw [hcb _ _ (by omega),hc _ _ (by simp;omega)];simp [go_sem]
    have hZ:SpB wr (w.heap.size+1) 0 0 0 0 0 0:=HZ.out.below hS.bel (by omega)
    have hbd:=fun k=>cn_bd k xs n (by omega) hl
    have HRF:=hid (fun w=>refusal_any (cn 5 xs:Nat) (cn 3 xs:Nat) (cn 4 xs:Nat) (cn 1 xs:Nat) (cn 2 xs:Nat) (n:Nat) a b w (hbd 3) (hbd 4))
    obtain ⟨ee,hee⟩:∃ ee,rf (cn 5 xs:Nat) (cn 3 xs:Nat) (cn 4 xs:Nat) a b=ee:=⟨_,rfl⟩;have HEE:Aside (siftE a b xs=ee):=by rw [Aside,HE.out,hee]
    rw [hee] at HRF;obtain ⟨c5,e5⟩:∃ c,cn 5 xs=c:=⟨_,rfl⟩;obtain ⟨c3,e3⟩:∃ c,cn 3 xs=c:=⟨_,rfl⟩;obtain ⟨c4,e4⟩:∃ c,cn 4 xs=c:=⟨_,rfl⟩;obtain ⟨c1,e1⟩:∃ c,cn 1 xs=c:=⟨_,rfl⟩;obtain ⟨c2,e2⟩:∃ c,cn 2 xs=c:=⟨_,rfl⟩;rw [e5,e3,e4,e1,e2] at hT HRF;rw [e5] at hc0;rw [e3] at hc1;rw [e4] at hc2;rw [e1] at hc3;rw [e2] at hc4;have HY:=(qsd (ai hZ (ai hT (ai e (ai e1 (ai e2 (ai e3 (ai e4 e5))))))));have hBs:=hS.size;clear hn hx hR hB hS hT e hcb hbd hee e1 e2 e3 e4 e5 hZ;subst hin
    go_wp2_with fail
    refine (HRF.out _).mono ?_;rintro r w5 ⟨rfl,hb5⟩;obtain ⟨hZ,hT,e,e1,e2,e3,e4,e5⟩:=HY.out;have hZ5:=hZ.below hb5 hZ.lt;have hT5:=hT.below hb5 hT.lt;have hr5:=HA.out.row.below hb5;have hZf:=hZ5.frozen;have hz0:=hZ5.c0;have hz1:=hZ5.c1;have hz2:=hZ5.c2;have hz3:=hZ5.c3;have hz4:=hZ5.c4;have hz5:=hZ5.c5;have ht0:=hT5.c0;have ht1:=hT5.c1;have ht2:=hT5.c2;have ht3:=hT5.c3;have ht4:=hT5.c4;have ht5:=hT5.c5;have hzl:=hZ5.lt;have hbel5:Below w.heap.size w w5:=((((Below.refl _ w).alloc (Nat.le_refl _) _).alloc (by simp) _).trans (HB.out.mono (by simp;omega))).trans ((HA.out.bel.mono (by omega)).trans (hb5.mono (by omega)))
    have HV:=(qsd (ai hbel5 (ai hr5 (ai hZ5 (ai hT5 (ai e (ai e1 (ai e2 (ai e3 (ai e4 e5))))))))));clear hZ hT e e1 e2 e3 e4 e5 hb5 hZ5 hT5 hr5 hbel5 hc0 hc1 hc2 hc3 hc4 hc5 hp0 hp1 HY
    by_cases h0:ee=0
    · subst h0
      go_wp2
      go_region
      all_goals
       go_wp2;refine bodyPost_ret (v:=.tuple #[u7,.agg #[.int .i64 (c5:Nat),.int .i64 (c3:Nat),.int .i64 (c4:Nat),.int .i64 (c1:Nat),.int .i64 (c2:Nat),.int .i64 (i:Nat)],.int .i64 0]) (by simp [results,Tryz.results34,go_sem,csetm,hz0,hz1,hz2,hz3,hz4,hz5]) rfl ?_
       obtain ⟨hbel5,hr5,hZ5,hT5,e,e1,e2,e3,e4,e5⟩:=HV.out;have hbut:But (w.heap.size+1) w5 _:=(But.set6 (But.refl (w.heap.size+1) w5) (.int .i64 (c5:Nat)) (.int .i64 (c3:Nat)) (.int .i64 (c4:Nat)) (.int .i64 (c1:Nat)) (.int .i64 (c2:Nat)) (.int .i64 (i:Nat))).drew;have hR6:=Rw.mono (Rw.but hr5 hbut (by decide) hZ5) (show w.heap.size≤w1.heap.size by omega)
       rw [e] at hR6;have hans:=SiftAns.yes HEE.out hR6 (But.below hbel5 hbut (by omega) (by omega))
       rw [←HX.out.1,e1,e2,e3,e4,e5] at hans;exact hans
    · have h0':(ee==0)=false:=by rw [beq_eq_false_iff_ne];exact h0
      go_wp2;refine bodyPost_ret (v:=.tuple #[.slice none 0 0,.agg #[.int .i64 0,.int .i64 0,.int .i64 0,.int .i64 0,.int .i64 0,.int .i64 0],.int .i64 ee]) (by simp [results,Tryz.results34,go_sem,csetm,hz0,hz1,hz2,hz3,hz4,hz5]) rfl (SiftAns.no ee HEE.out h0 ?_)
      exact But.below HV.out.1 (But.set6 (But.refl (w.heap.size+1) _) _ _ _ _ _ _) (by omega) (by omega)
  · have hil:i<n:=by omega
    obtain ⟨hn,hx,hR,hB⟩:=HX.out;have hS:=HA.out;have hbw:Below w.heap.size w wr:=((((Below.refl _ w).alloc (Nat.le_refl _) _).alloc (by simp) _).trans (HB.out.mono (by simp;omega))).trans (hS.bel.mono (by omega))
    have hRw:Rd w.heap.size wr ao xs:=(hR.mono hB).below hbw;obtain ⟨bb,off,hlt2,rfl,hcell⟩:=hRw (by intro e;rw [e] at hn;simp at hn;omega)
    have hxc:=hcell i (by omega)
    have hxw:=hx.get i;obtain ⟨x,hxx⟩:∃ x,xs.getD i 0=x:=⟨_,rfl⟩;rw [hxx] at hxc hxw;have HK:=hid (kind_any x hxw);have hk5:=kp_le x;have hk3:=kp_ge x;obtain ⟨kk,hkk⟩:∃ kk,kp (kd x)=kk:=⟨_,rfl⟩;rw [hkk] at HK hk5 hk3;have l1:(xs.take i).length≤65536:=by rw [List.length_take];omega
    have hbd:=fun k=>cn_bd k (xs.take i) 65536 l1 (Nat.le_refl _)
    have hwl:=hS.size;have HY:=(qsd (ai hxx (ai hkk (ai hk3 (ai hbd (ai hn hlt2))))));clear hn hx hR hB hS hbw hRw hcell hxx hkk hk3 hbd l1 hin
    go_wp2_with fail
    refine (HK.out _).mono ?_;rintro r w2 ⟨rfl,hb2⟩;have HS2:=qsd (SI.kind HA.out hb2 hwl);have hxc2:w2.cell? ⟨bb,off+i,none⟩=some (.float .f64 x):=by rw [hb2.cell (p:=⟨bb,off+i,none⟩) (by have:=HY.out.2.2.2.2.2;simp;omega)];exact hxc
    have hsz2:=hb2.size;have HC:=hid (count_any kk (w1.heap.size+1) _ _ _ _ _ _ w2 hk5 HS2.out.sp (HY.out.2.2.2.1 5) (HY.out.2.2.2.1 3) (HY.out.2.2.2.1 4) (HY.out.2.2.2.1 1) (HY.out.2.2.2.1 2));clear hb2 hxc
    go_wp2_with fail
    refine Calls.mono HC.out ?_;rintro r w3 ⟨rfl,hs3,hbut3⟩;obtain ⟨hxx,hkk,hk3,hbd,hn,hlt2⟩:=HY.out;have hs3':SpT w3 (w1.heap.size+1) (xs.take (i+1)) (n:Nat):=SpT.counted (w:=w2) (by omega) (by rw [hxx,hkk];exact hs3)
    have hsz3:=hbut3.size
    have hxc3:w3.cell? ⟨bb,off+i,none⟩=some (.float .f64 x):=by
     have h9:=(But.below (Below.refl w1.heap.size w2) hbut3 (by omega) (by omega)).cell (p:=⟨bb,off+i,none⟩) (by simp;omega)
     rw [h9];exact hxc2
    by_cases hk2:kd x≤2
    · have hge:(3:Int)≤(kk:Int):=by have:=hk3.2 hk2;omega
      obtain ⟨v',w4,hap,hrow4,hb4,hkeep4,hsz4⟩:=push w1.heap.size w3 u7 (fin (xs.take i)) x (SI.row2 HS2.out hbut3) (by have h1:=fin_le (xs.take i);rw [List.length_take] at h1;omega) (by omega)
      have HI:=qsd (SI.into (v':=v') HS2.out (by omega) hs3' hbut3 (by omega) (by omega) (by rw [hxx];exact hk2) (by rw [hxx];exact hrow4) hb4 hkeep4 hsz4)
      have HAP:=hid hap;clear hap hrow4 hb4 hkeep4 hsz4 hs3 hs3' hbut3 hxx hkk hk3 hbd hn hlt2 hk2 hxc2
      go_wp2_with (at_builtin;refine wpList_append_run2 rfl (.tmp 40) (.tmp 45) 24 rfl _ _ rfl rfl _ _ HAP.out ?_)
      go_roundg (n-(i+1))
      case measure=>omega
      case rel=>exact ⟨i+1,by omega,by first | go_num | (congr 1;omega),HI⟩
    · have hge:decide ((3:Int)≤(kk:Int))=false:=decide_eq_false (fun h=>hk2 (hk3.1 (by omega)))
      have HI:=qsd (SI.out HS2.out (by omega) hs3' hbut3 (by omega) (by omega) (by rw [hxx];exact hk2))
      clear hs3 hs3' hbut3 hxx hkk hk3 hbd hn hlt2 hk2 hxc2;go_wp2
      go_roundg (n-(i+1))
      case measure=>omega
      case rel=>exact ⟨i+1,by omega,by first | go_num | (congr 1;omega),HI⟩
theorem Sift_any (xs:List Nat) (ao:Option Addr) (n cap B:Nat) (a b:Int) (w:World) (hn:n=xs.length) (hm:n≤35184372088832) (hx:Wf xs) (hR:Rd B w ao xs) (hB:B≤w.heap.size) :
 Calls Tryz.prog 34 #[.slice ao n cap,.agg #[.int .i64 a,.int .i64 b]] w (SiftAns w a b xs):=by
 rcases h:may a b with _|_
 · exact Sift_arg xs ao n cap a b w h
 · by_cases hl:65536<n
   · exact Sift_long xs ao n cap a b w hn h hl hm
   · exact Sift_rest xs ao n cap B a b w hn h (by omega) hx hR hB
end Ps
section
open Go.RowKit J
def kO13 (k:Nat):Nat:=if k=5 then 1 else if k=3 then 2 else if k=4 then 3 else if k=1 then 4 else if k=2 then 5 else 0
theorem m42:max (4:Int) 2=4:=by decide
theorem m32:max (3:Int) 2=3:=by decide
theorem m02:max (0:Int) 2=2:=by decide
theorem n42:min (4:Int) 2=2:=by decide
theorem n32:min (3:Int) 2=2:=by decide
theorem n02:min (0:Int) 2=0:=by decide
theorem pK_one13 {x:Nat}(hx:x<18446744073709551616):pK x 4607182418800017408=kO13 (kd x)∧(kd x≤2↔finW x):=by
 have c1:clW 4607182418800017408=2:=by decide +kernel
 have n1:ngW 4607182418800017408=false:=by decide +kernel
 have em:magW x=x%9223372036854775808:=rfl;have en:negW x=decide (9223372036854775808≤x):=rfl;unfold pK kO13;rw [c1,n1]
 rcases Nat.lt_trichotomy 9218868437227405312 (magW x) with h|h|h
 · have hk:kd x=5:=by unfold kd;rw [if_pos (by omega)]
   rw [cl_nan h,hk];refine ⟨by unfold pk;simp [m42,m32,m02,n42,n32,n02],?_⟩
   constructor
   · intro q;omega
   · intro q;exact absurd (show magW x<9218868437227405312 from q) (by omega)
 · obtain ⟨h1,h2⟩:=cl_inf h.symm
   rw [h1,h2];have hf:¬ finW x:=fun q=>absurd (show magW x<9218868437227405312 from q) (by omega)
   by_cases hs:9223372036854775808≤x
   · have hk:kd x=4:=by unfold kd;rw [if_neg (by omega),if_pos (by omega),if_pos (by omega)]
     rw [hk,en,decide_eq_true hs];refine ⟨by unfold pk;simp [m42,m32,m02,n42,n32,n02],?_⟩
     exact ⟨fun q=>by omega,fun q=>absurd q hf⟩
   · have hk:kd x=3:=by unfold kd;rw [if_neg (by omega),if_pos (by omega),if_neg (by omega)]
     rw [hk,en,decide_eq_false hs];refine ⟨by unfold pk;simp [m42,m32,m02,n42,n32,n02],?_⟩
     exact ⟨fun q=>by omega,fun q=>absurd q hf⟩
 · have fx:finW x:=h
   obtain ⟨p1,p2,p3,p4⟩:=fin_parts hx fx;rw [p1]
   by_cases h0:magW x=0
   · rw [h0,vK_zero] at p2
     have hfr:frW x=0:=by
      rcases Nat.mul_eq_zero.1 p2.symm with q|q
      · exact q
      · have:=Nat.two_pow_pos (xpW x+1074).toNat;omega
     have hc:clW x=0:=by
      rcases p4 with q|q
      · exact q.1
      · exact absurd hfr q.2
     rw [hc]
     by_cases hs:9223372036854775808≤x
     · have hk:kd x=1:=by unfold kd;rw [if_neg (by omega),if_neg (by omega),if_pos (by omega),if_pos (by omega)]
       rw [hk,en,decide_eq_true hs];exact ⟨by unfold pk;simp [m42,m32,m02,n42,n32,n02],fun _=>fx,fun _=>by omega⟩
     · have hk:kd x=2:=by unfold kd;rw [if_neg (by omega),if_neg (by omega),if_pos (by omega),if_neg (by omega)]
       rw [hk,en,decide_eq_false hs];exact ⟨by unfold pk;simp [m42,m32,m02,n42,n32,n02],fun _=>fx,fun _=>by omega⟩
   · have hk:kd x=0:=by unfold kd;rw [if_neg (by omega),if_neg (by omega),if_neg (by omega)]
     have hfr:frW x≠0:=by
      intro q;rw [q,Nat.zero_mul] at p2;have:=grid64.mono (show 0<magW x by omega)
      omega
     have hc:clW x=1∨clW x=2:=by
      rcases p4 with q|q
      · exact absurd q.2 hfr
      · exact q.1
     rw [hk];refine ⟨?_,fun _=>fx,fun _=>by omega⟩
     rcases hc with q|q
     · rw [q,show max (1:Int) 2=2 by decide,show min (1:Int) 2=1 by decide];unfold pk;simp
     · rw [q,show max (2:Int) 2=2 by decide,show min (2:Int) 2=2 by decide];unfold pk;simp
theorem kd5 (x:Nat):kd x≤5:=by unfold kd;(repeat' split) <;> omega
theorem cnt_fold13:∀ (xs:List Nat) (s:Sp),W64 xs→xs.foldl (fun s x=>s.cnt (pK x 4607182418800017408) 1) s=⟨s.n+Ps.cn 5 xs,s.u+Ps.cn 3 xs,s.d+Ps.cn 4 xs,s.m+Ps.cn 1 xs,s.p+Ps.cn 2 xs,s.a+xs.length⟩
 | [],s,_=>by simp [Ps.cn]
 | x::xs,s,h=>by
   rw [List.foldl_cons,cnt_fold13 xs _ (fun z hz=>h z (List.mem_cons_of_mem _ hz)),(pK_one13 (h x List.mem_cons_self)).1]
   have hk:=kd5 x;unfold Sp.cnt kO13 Ps.cn;simp only [List.countP_cons,List.length_cons];obtain q|q|q|q|q|q:kd x=0∨kd x=1∨kd x=2∨kd x=3∨kd x=4∨kd x=5:=by omega
   all_goals (rw [q];simp;(repeat' constructor) <;> omega)
theorem sS_cn {xs:List Nat}(h:W64 xs):sS xs=⟨(Ps.cn 5 xs:Nat),(Ps.cn 3 xs:Nat),(Ps.cn 4 xs:Nat),(Ps.cn 1 xs:Nat),(Ps.cn 2 xs:Nat),(xs.length:Nat)⟩:=by
 unfold sS;rw [cnt_fold13 xs _ h];simp
theorem vS_fold13:∀ (xs:List Nat) (v:Int),xs.foldl (fun v x=>v+pT x 4607182418800017408) v=v+vS xs
 | [],v=>by simp [vS]
 | x::xs,v=>by
   unfold vS;rw [List.foldl_cons,List.foldl_cons,vS_fold13 xs (v+_),vS_fold13 xs (0+_)];omega
theorem vS_cons (x:Nat) (xs:List Nat):vS (x::xs)=pT x 4607182418800017408+vS xs:=by
 have:=vS_fold13 xs (0+pT x 4607182418800017408);unfold vS at this ⊢;rw [List.foldl_cons,this];omega
theorem fin_W64 {xs:List Nat}(h:W64 xs):W64 (Ps.fin xs):=fun x hx=>h x (List.mem_filter.1 hx).1
theorem fin_id {xs:List Nat}(h:W64 xs) (hf:∀ x ∈ xs,finW x):Ps.fin xs=xs:=List.filter_eq_self.2 fun x hx=>by simpa using (pK_one13 (h x hx)).2.2 (hf x hx)
theorem fin_count:∀ {xs:List Nat},((Ps.fin xs).length:Int)=(xs.length:Int)-(Ps.cn 5 xs:Nat)-(Ps.cn 3 xs:Nat)-(Ps.cn 4 xs:Nat)
 | []=>rfl
 | x::xs=>by
   have ih:=fin_count (xs:=xs);have hk:=kd5 x;unfold Ps.fin Ps.cn at ih ⊢;simp only [List.countP_cons,List.length_cons,List.filter_cons];obtain q|q|q|q|q|q:kd x=0∨kd x=1∨kd x=2∨kd x=3∨kd x=4∨kd x=5:=by omega
   all_goals (rw [q];simp;omega)
def sfE (pa pb:Int) (xs:List Nat):Int:=if may pa pb=false then 1 else if 65536<xs.length then 2 else Ps.rf (sS xs).n (sS xs).u (sS xs).d pa pb
def agg0:Value:=.agg #[.int .i64 0,.int .i64 0,.int .i64 0,.int .i64 0,.int .i64 0,.int .i64 0]
theorem ps_rd {B:Nat}{w:World}{a:Option Addr}{xs:List Nat}(h:Fs B w a xs):Ps.Rd B w a xs:=h
theorem lt_fs {lo:Nat}{w:World}{v:Value}{xs:List Nat}(h:Ps.Lt lo w v xs):∃ a c,v=.slice a xs.length c∧Fs w.heap.size w a xs∧∀ b o p,a=some ⟨b,o,p⟩→lo≤b:=by
 have h2:=h.2;unfold Ps.Lt at h
 rcases h2 with ⟨rfl,h0⟩|⟨g,cap,cur,rfl,hlo,hg,rest⟩
 · refine ⟨none,0,by rw [h0],fun hne=>absurd (List.eq_nil_of_length_eq_zero h0) hne,fun b o p h=>by cases h⟩
 · refine ⟨_,cap,rfl,fun _=>⟨g,0,(Array.getElem?_eq_some_iff.1 hg).1,rfl,fun i hi=>?_⟩,fun b o p h=>by cases h;exact hlo⟩
   have h1:=h.cells (g:=g) (by simp [Value.ownBlock]) i (.float .f64 (xs.getD i 0)) (by simp [Ps.U,hi])
   have e:(⟨g,0,none⟩:Addr).add i=⟨g,0+i,none⟩:=by unfold Addr.add;split <;> simp_all
   rw [e] at h1;exact h1
theorem Sift13 (xs:List Nat) (a:Option Addr) (n c:Nat) (pa pb:Int) (w:World) (hn:n=xs.length) (hm:n≤35184372088832) (hF:Fs w.heap.size w a xs) (hW:W64 xs) :
 Calls Tryz.prog 34 #[.slice a n c,.agg #[.int .i64 pa,.int .i64 pb]] w fun r w' =>
  ((sfE pa pb xs≠0∧∃ a' c',r=.returned (.tuple #[.slice a' 0 c',agg0,.int .i64 (sfE pa pb xs)])) ∨
   (sfE pa pb xs=0∧∃ a' c',r=.returned (.tuple #[.slice a' (Ps.fin xs).length c',(sS xs).agg,.int .i64 0])∧Fs w'.heap.size w' a' (Ps.fin xs)∧∀ b o p,a'=some ⟨b,o,p⟩→w.heap.size≤b))∧Below w.heap.size w w':=by
 have e1:Ps.siftE pa pb xs=sfE pa pb xs:=by unfold Ps.siftE sfE;rw [sS_cn hW]
 refine (Ps.Sift_any xs a n c w.heap.size pa pb w hn hm hW (ps_rd hF) (Nat.le_refl _)).mono ?_;rintro r w' ⟨v,rfl,hL,hb⟩;refine ⟨?_,hb⟩;unfold Ps.siftS;unfold Ps.siftL at hL;rw [e1] at hL ⊢
 by_cases h0:sfE pa pb xs=0
 · rw [if_pos h0] at hL ⊢
   obtain ⟨a',c',rfl,hF',hlo⟩:=lt_fs hL;exact .inr ⟨h0,a',c',by rw [h0,sS_cn hW];rfl,hF',hlo⟩
 · rw [if_neg h0] at hL ⊢
   obtain ⟨a',c',rfl,_⟩:=lt_fs hL;exact .inl ⟨h0,a',c',rfl⟩
theorem sfE_len {pa pb:Int}{xs:List Nat}(h:sfE pa pb xs=0):xs.length≤65536∧may pa pb=true:=by
 unfold sfE at h
 cases hm:may pa pb with
 | false=>rw [hm] at h;simp at h
 | true =>
   rw [hm,if_neg (by decide)] at h
   by_cases hl:65536<xs.length
   · rw [if_pos hl] at h;exact absurd h (by decide)
   · exact ⟨by omega,rfl⟩
theorem Fs.but' {B:Nat}{w w':World}{ao:Option Addr}{xs:List Nat}{g:Nat}(h:Fs B w ao xs) (hb:But g w w') (hg:∀ b o p,ao=some ⟨b,o,p⟩→b≠g):Fs B w' ao xs:=by
 intro hne;obtain ⟨b,off,h1,h2,h3⟩:=h hne;have hbg:b≠g:=hg _ _ _ h2;refine ⟨b,off,h1,h2,fun i hi=>?_⟩
 have hc:=h3 i hi
 have hlt:b<w.heap.size:=by
  rcases Nat.lt_or_ge b w.heap.size with q|q
  · exact q
  · unfold World.cell? at hc
    simp [Array.getElem?_eq_none q] at hc
 rw [World.cell?_of_block (a:=⟨b,off+i,none⟩) (hb.block b hlt hbg)];exact hc
end
section
open Go.RowKit J
attribute [local go_sem] st_float
noncomputable def meanR (xs:List Nat) (mode pa pb:Int):Nat×Int :=
 if askE mode=0 then
  if sfE pa pb xs=0 then
   if (vd (snd (sS xs).n (sS xs).u (sS xs).d (sS xs).m (sS xs).p (sS xs).a&&may pa pb) (sS xs).n (sS xs).u (sS xs).d pa pb).2=true then ((vd (snd (sS xs).n (sS xs).u (sS xs).d (sS xs).m (sS xs).p (sS xs).a&&may pa pb) (sS xs).n (sS xs).u (sS xs).d pa pb).1,0)
   else (bsd (levR (Ps.fin xs) (sS xs) mode).2 (levR (Ps.fin xs) (sS xs) mode).1,(levR (Ps.fin xs) (sS xs) mode).2)
  else (0,sfE pa pb xs)
 else (0,askE mode)
theorem bsd_zero (e:Int):bsd e 0=0:=by unfold bsd;split <;> rfl
theorem Mean13 (xs:List Nat) (a:Option Addr) (n c:Nat) (mode pa pb:Int) (w:World) (hn:n=xs.length) (hF:Fs w.heap.size w a xs) (hW:W64 xs) (hT:Tab w) (hl:n≤35184372088832) (z:Nat×Int) (hz:meanR xs mode pa pb=z) :
 Calls Tryz.prog 10 #[.slice a n c,.int .i64 mode,.agg #[.int .i64 pa,.int .i64 pb]] w fun r w'=>r=.returned (.tuple #[.float .f64 z.1,.int .i64 z.2])∧Below w.heap.size w w':=by
 obtain ⟨X,E⟩:=z;simp only;have hmf:∀ (fn:Fn) (first cap:Array Value) (w:World),(Instr.makeFunc fn first cap).run Tryz.prog w=.ok (.func fn first cap) w:=fun _ _ _ _=>rfl
 have HA:=hid (fun u:World=>asked13 mode u)
 unfold meanR at hz;obtain ⟨ea,hea⟩:∃ e,askE mode=e:=⟨_,rfl⟩;rw [hea] at HA hz;obtain ⟨W,hWW⟩:∃ W,W=((w.alloc (Obj.cells #[.int .i64 pa,.int .i64 pb] 29)).alloc (Obj.cells #[.float .f64 0] 22)).alloc (Obj.cells #[.int .i64 0] 25):=⟨_,rfl⟩;obtain ⟨gp,hgp⟩:∃ g,g=w.heap.size:=⟨_,rfl⟩;obtain ⟨gx,hgx⟩:∃ g,g=w.heap.size+1:=⟨_,rfl⟩;obtain ⟨ge,hge⟩:∃ g,g=w.heap.size+2:=⟨_,rfl⟩
 have B0:Aside (Bl W gp 29 [.int .i64 pa,.int .i64 pb]∧Bl W gx 22 [.float .f64 0]∧Bl W ge 25 [.int .i64 0]∧Below w.heap.size w W∧W.heap.size=w.heap.size+3):=by
  rw [hWW,hgp,hgx,hge];have z1:=Bl.new (w.alloc (Obj.cells #[.int .i64 pa,.int .i64 pb] 29)) 22 [.float .f64 0];have z2:=Bl.new ((w.alloc (Obj.cells #[.int .i64 pa,.int .i64 pb] 29)).alloc (Obj.cells #[.float .f64 0] 22)) 25 [.int .i64 0];rw [World.size_alloc] at z1;rw [World.size_alloc,World.size_alloc] at z2;exact ⟨((Bl.new w 29 [_,_]).below (bel_alloc _ _) (by simp)).below (bel_alloc _ _) (by simp;omega),z1.below (bel_alloc _ _) (by simp),z2,((bel_alloc _ _).trans ((bel_alloc _ _).mono (by simp))).trans ((bel_alloc _ _).mono (by simp;omega)),by simp⟩
 have HG:Aside (gp=w.heap.size∧gx=w.heap.size+1∧ge=w.heap.size+2):=⟨hgp,hgx,hge⟩;have HWW:=qsd hWW;have HX:=qsd (ai hn (ai hF (ai hW (ai hT hl))));clear hn hF hW hT hl hWW hea hgp hgx hge;go_enter_defers Tryz.func10,Tryz.ntmps10
 go_wp2_with fail
 rw [←HWW.out]
 try rw [show w.heap.size+1+1=ge by have:=HG.out.2.2;omega]
 try rw [show w.heap.size+2=ge by have:=HG.out.2.2;omega]
 try rw [show w.heap.size+1=gx by have:=HG.out.2.1;omega]
 try rw [show w.heap.size=gp by have:=HG.out.1;omega]
 clear HWW;refine (HA.out _).mono ?_;rintro r v ⟨rfl,hv⟩;rw [hv];clear hv v;have c1:=B0.out.2.2.1.cell 0 _ rfl;have f1:=B0.out.2.2.1.frozen 0;have hne:=qsd (show ge≠gx by have:=HG.out.2;omega)
 have B1:Aside (Bl (W.setCell ⟨ge,0,none⟩ (.int .i64 ea)) gp 29 [.int .i64 pa,.int .i64 pb]∧Bl (W.setCell ⟨ge,0,none⟩ (.int .i64 ea)) gx 22 [.float .f64 0]∧Bl (W.setCell ⟨ge,0,none⟩ (.int .i64 ea)) ge 25 [.int .i64 ea]∧Below w.heap.size w (W.setCell ⟨ge,0,none⟩ (.int .i64 ea))):=by
  have hb:But ge W (W.setCell ⟨ge,0,none⟩ (.int .i64 ea)):=(But.refl _ _).set 0 _;exact ⟨B0.out.1.but hb (by have:=HG.out;omega),B0.out.2.1.but hb (by have:=HG.out;omega),B0.out.2.2.1.set 0 _,But.below B0.out.2.2.2.1 hb B0.out.2.2.2.1.size (by have:=HG.out;omega)⟩
 by_cases h0:ea=0
 · subst h0
   rw [if_pos rfl] at hz;obtain ⟨V,hV⟩:∃ V,V=W.setCell ⟨ge,0,none⟩ (.int .i64 0):=⟨_,rfl⟩;rw [←hV] at B1;have HV:=qsd hV;have hTV:Tab V:=HX.out.2.2.2.1.belows B1.out.2.2.2;have HS:=hid (Sift13 xs a n c pa pb V HX.out.1 HX.out.2.2.2.2 ((HX.out.2.1.below B1.out.2.2.2).mono B1.out.2.2.2.size) HX.out.2.2.1);obtain ⟨es,hes⟩:∃ e,sfE pa pb xs=e:=⟨_,rfl⟩;rw [hes] at HS hz;have HES:=qsd hes;obtain ⟨⟨sn,su,sd,sm,sp,sa⟩,hs⟩:∃ s,sS xs=s:=⟨_,rfl⟩;rw [hs] at HS hz;simp only [Sp.agg] at HS hz;obtain ⟨fl,hfl⟩:∃ f,Ps.fin xs=f:=⟨_,rfl⟩;rw [hfl] at HS hz;have HFL:=qsd hfl;clear hs hfl;have HTV:=qsd hTV;have p0:=B1.out.1.cell 0 _ rfl;have p1:=B1.out.1.cell 1 _ rfl;have q1:=B1.out.2.2.1.cell 0 _ rfl;have q2:=B1.out.2.2.1.frozen 0;rw [hV] at p0 p1 q1 q2;clear hV HA hTV hes
   go_wp2_with fail
   rw [←HV.out] at p0 p1 q1 q2 ⊢;refine HS.out.mono ?_;rintro r v ⟨hr,hb⟩
   have B2:Aside (Bl v gp 29 [.int .i64 pa,.int .i64 pb]∧Bl v gx 22 [.float .f64 0]∧Bl v ge 25 [.int .i64 0]∧Below w.heap.size w v∧Tab v) :=
    ⟨B1.out.1.below hb B1.out.1.lt,B1.out.2.1.below hb B1.out.2.1.lt,B1.out.2.2.1.below hb B1.out.2.2.1.lt,B1.out.2.2.2.trans (hb.mono B1.out.2.2.2.size),HTV.out.belows hb⟩
   have q1:=B2.out.2.2.1.cell 0 _ rfl;have q2:=B2.out.2.2.1.frozen 0;have BVs:Aside (ge<V.heap.size∧gx<V.heap.size):=⟨B1.out.2.2.1.lt,B1.out.2.1.lt⟩;clear hb B1 HV HS p0 p1 HTV c1 f1 B0
   have BU:Aside (∀ (e:Int) (t1 t2 t3 t4 t5 t6:Int) (U:World),U=(v.setCell ⟨ge,0,none⟩ (.int .i64 e)).alloc (Obj.cells #[.int .i64 t1,.int .i64 t2,.int .i64 t3,.int .i64 t4,.int .i64 t5,.int .i64 t6] 61) →
    Bl U gp 29 [.int .i64 pa,.int .i64 pb]∧Bl U gx 22 [.float .f64 0]∧Bl U ge 25 [.int .i64 e]∧Bl U v.heap.size 61 [.int .i64 t1,.int .i64 t2,.int .i64 t3,.int .i64 t4,.int .i64 t5,.int .i64 t6]∧Below w.heap.size w U∧Tab U∧(∀ ao (ys:List Nat),Fs v.heap.size v ao ys→(∀ b o p,ao=some ⟨b,o,p⟩→b≠ge)→Fs U.heap.size U ao ys)):=by
    intro e t1 t2 t3 t4 t5 t6 U hU;have hb:But ge v (v.setCell ⟨ge,0,none⟩ (.int .i64 e)):=(But.refl _ _).set 0 _;have hbb:=But.below B2.out.2.2.2.1 hb B2.out.2.2.2.1.size (by have:=HG.out;omega)
    have hsz:(v.setCell ⟨ge,0,none⟩ (.int .i64 e)).heap.size=v.heap.size:=by simp
    have z1:=Bl.new (v.setCell ⟨ge,0,none⟩ (.int .i64 e)) 61 [.int .i64 t1,.int .i64 t2,.int .i64 t3,.int .i64 t4,.int .i64 t5,.int .i64 t6];rw [hsz] at z1;rw [hU];refine ⟨(B2.out.1.but hb (by have:=HG.out;omega)).alloc _,(B2.out.2.1.but hb (by have:=HG.out;omega)).alloc _,(B2.out.2.2.1.set 0 _).alloc _,z1,hbb.trans ((bel_alloc _ _).mono hbb.size),HX.out.2.2.2.1.belows (hbb.trans ((bel_alloc _ _).mono hbb.size)),?_⟩
    intro ao ys hF hg;exact ((hF.but' hb hg).below ((bel_alloc _ _).mono (by simp))).mono (by simp)
   rcases hr with ⟨he,a',c',rfl⟩|⟨he,a',c',rfl,hF',hlo⟩
   · have hlt:=B2.out.2.2.1.lt
     have h1:(es==0)=false:=by simp [he]
     rw [if_neg he] at hz;obtain ⟨rfl,rfl⟩:=Prod.mk.inj hz;unfold agg0;obtain ⟨U,hU⟩:∃ U,U=(v.setCell ⟨ge,0,none⟩ (.int .i64 es)).alloc (Obj.cells #[.int .i64 0,.int .i64 0,.int .i64 0,.int .i64 0,.int .i64 0,.int .i64 0] 61):=⟨_,rfl⟩;obtain ⟨u1,u2,u3,u4,u5,u6,_⟩:=BU.out _ _ _ _ _ _ _ _ hU;have B3:=(qsd (ai u2 (ai u3 u5)));have r1:=u3.cell 0 _ rfl;have HU:=qsd hU;clear u1 u2 u3 u4 u5 u6 hU BU hz
     go_upto_region 5 with fail
     rw [←HU.out];go_wp2;refine door13 Tryz.results10 ?_ (Mean1_d gx ge 0 es _ (B3.out.1.cell 0 _ rfl) (B3.out.2.1.cell 0 _ rfl) (B3.out.1.frozen 0)) rfl rfl (B3.out.1.cell 0 _ rfl) (B3.out.2.1.cell 0 _ rfl) hne.out ?_
     · simp [go_sem]
     · rw [bsd_zero]
       exact ⟨rfl,But.below B3.out.2.2 ((But.refl gx _).set 0 _) B3.out.2.2.size (by have:=HG.out;omega)⟩
   · have hlt:=B2.out.2.2.1.lt
     subst he;rw [if_pos rfl] at hz;obtain ⟨U,hU⟩:∃ U,U=(v.setCell ⟨ge,0,none⟩ (.int .i64 0)).alloc (Obj.cells #[.int .i64 sn,.int .i64 su,.int .i64 sd,.int .i64 sm,.int .i64 sp,.int .i64 sa] 61):=⟨_,rfl⟩;obtain ⟨u1,u2,u3,u4,u5,u6,u7⟩:=BU.out _ _ _ _ _ _ _ _ hU;obtain ⟨gs,hgs⟩:∃ g,v.heap.size=g:=⟨_,rfl⟩;have hlo2:∀ b o p,a'=some ⟨b,o,p⟩→b≠ge∧b≠gx:=fun b o p h=>by have:=hlo b o p h;have:=BVs.out;omega
     have B3:=(qsd (ai u1 (ai u2 (ai u3 (ai u4 (ai u5 (ai u6 (ai (u7 _ _ hF' (fun b o p h=>(hlo2 b o p h).1)) hlo2))))))))
     rw [hgs] at B3 u4;have s0:=u4.cell 0 _ rfl;have s1:=u4.cell 1 _ rfl;have s2:=u4.cell 2 _ rfl;have s3:=u4.cell 3 _ rfl;have s4:=u4.cell 4 _ rfl;have s5:=u4.cell 5 _ rfl;have p0:=u1.cell 0 _ rfl;have p1:=u1.cell 1 _ rfl;have r1:=u3.cell 0 _ rfl;have HGS:=qsd hgs;have HU:=qsd hU;clear u1 u2 u3 u4 u5 u6 u7 hU BU hF' hgs hlo hlo2
     go_upto_region 5 with fail
     rw [←HU.out,HGS.out];clear HU HGS;have HVd:=hid (fun u:World=>Verdict_any sn su sd sm sp sa pa pb u)
     obtain ⟨⟨xv,tv⟩,hvd⟩:∃ z,vd (snd sn su sd sm sp sa&&may pa pb) sn su sd pa pb=z:=⟨_,rfl⟩;rw [hvd] at HVd hz;simp only at HVd hz;clear hvd q1 q2
     go_wp2_with fail
     refine (HVd.out _).mono ?_;rintro r v2 ⟨rfl,hb⟩;obtain ⟨V3,hV3⟩:∃ V,V=v2.setCell ⟨gx,0,none⟩ (.float .f64 xv):=⟨_,rfl⟩;have B4:Aside (Bl v2 gx 22 [.float .f64 0]):=B3.out.2.1.below hb B3.out.2.1.lt
     have B5:Aside (Bl V3 gx 22 [.float .f64 xv]∧Bl V3 ge 25 [.int .i64 0]∧Bl V3 gs 61 [.int .i64 sn,.int .i64 su,.int .i64 sd,.int .i64 sm,.int .i64 sp,.int .i64 sa]∧Below w.heap.size w V3∧Tab V3∧(tv=false→Fs V3.heap.size V3 a' fl)):=by
      have hbt:But gx v2 V3:=by rw [hV3];exact (But.refl _ _).set 0 _
      have hbw:=B3.out.2.2.2.2.1.trans (hb.mono B3.out.2.2.2.2.1.size);have hb3:=But.below hbw hbt hbw.size (by have:=HG.out;omega)
      have hgsl:gx≠gs:=by
       rintro rfl;have:=B3.out.2.1.symm.trans B3.out.2.2.2.1;simp at this
      refine ⟨by rw [hV3];exact B4.out.set 0 _,(B3.out.2.2.1.below hb B3.out.2.2.1.lt).but hbt (by have:=HG.out;omega),(B3.out.2.2.2.1.below hb B3.out.2.2.2.1.lt).but hbt (fun h=>hgsl h.symm),hb3,HX.out.2.2.2.1.belows hb3,fun _=>?_⟩
      have hF3:=(((B3.out.2.2.2.2.2.2.1.below hb).mono hb.size).but' hbt (fun b o p h=>(B3.out.2.2.2.2.2.2.2 b o p h).2)).mono hbt.size
      exact hF3
     have t1:=B4.out.cell 0 _ rfl;have t2:=B4.out.frozen 0;have HV3:=qsd hV3;clear hb B3 B4 HVd hV3 s0 s1 s2 s3 s4 s5 p0 p1 r1
     cases tv with
     | true =>
       simp only [if_true] at hz;obtain ⟨hX,hE⟩:=Prod.mk.inj hz;subst hX hE;go_wp2;rw [←HV3.out];refine door13 Tryz.results10 ?_ (Mean1_d gx ge xv 0 _ (B5.out.1.cell 0 _ rfl) (B5.out.2.1.cell 0 _ rfl) (B5.out.1.frozen 0)) rfl rfl (B5.out.1.cell 0 _ rfl) (B5.out.2.1.cell 0 _ rfl) hne.out ?_
       · simp [go_sem]
       · exact ⟨rfl,But.below B5.out.2.2.2.1 ((But.refl gx _).set 0 _) B5.out.2.2.2.1.size (by have:=HG.out;omega)⟩
     | false =>
       simp only [Bool.false_eq_true,if_false] at hz;obtain ⟨⟨xl,el⟩,hl⟩:∃ z,levR fl ⟨sn,su,sd,sm,sp,sa⟩ mode=z:=⟨_,rfl⟩;rw [hl] at hz;simp only at hz;obtain ⟨hX,hE⟩:=Prod.mk.inj hz;have HL:=hid (level13 fl a' fl.length c' sn su sd sm sp sa mode V3 rfl (B5.out.2.2.2.2.2 rfl) (by rw [←HFL.out];exact fin_W64 HX.out.2.2.1) B5.out.2.2.2.2.1 (by rw [←HFL.out];exact Nat.le_trans (List.length_filter_le _ _) (sfE_len HES.out).1) (xl,el) hl)
       simp only at HL;have s0:=B5.out.2.2.1.cell 0 _ rfl;have s1:=B5.out.2.2.1.cell 1 _ rfl;have s2:=B5.out.2.2.1.cell 2 _ rfl;have s3:=B5.out.2.2.1.cell 3 _ rfl;have s4:=B5.out.2.2.1.cell 4 _ rfl;have s5:=B5.out.2.2.1.cell 5 _ rfl;have HXE:=qsd (ai hX hE);clear hz hX hE hl
       go_upto_region 7 with fail
       rw [←HV3.out];clear t1 t2
       go_wp2_with fail
       refine HL.out.mono ?_;rintro r v4 ⟨rfl,hb⟩
       have B6:Aside (Bl v4 gx 22 [.float .f64 xv]∧Bl v4 ge 25 [.int .i64 0]∧Below w.heap.size w v4) :=
        ⟨B5.out.1.below hb B5.out.1.lt,B5.out.2.1.below hb B5.out.2.1.lt,B5.out.2.2.2.1.trans (hb.mono B5.out.2.2.2.1.size)⟩
       have t1:=B6.out.1.cell 0 _ rfl;have t2:=B6.out.1.frozen 0;have t3:=B6.out.2.1.cell 0 _ rfl;have t4:=B6.out.2.1.frozen 0;have hne1:ge≠gx:=hne.out;have hne2:gx≠ge:=fun h=>hne.out h.symm
       clear hb B5 HL s0 s1 s2 s3 s4 s5 HV3;go_wp2;have bt:But gx v4 (v4.setCell ⟨gx,0,none⟩ (.float .f64 xl)):=(But.refl _ _).set 0 _;have k1:=(B6.out.1.set 0 (.float .f64 xl)).but ((But.refl ge (v4.setCell ⟨gx,0,none⟩ (.float .f64 xl))).set 0 (.int .i64 el)) hne2;have k2:=(B6.out.2.1.but bt hne1).set 0 (.int .i64 el);have k0:Below w.heap.size w (v4.setCell ⟨gx,0,none⟩ (.float .f64 xl)):=But.below B6.out.2.2 bt B6.out.2.2.size (by have:=HG.out;omega)
       have k3:Below w.heap.size w ((v4.setCell ⟨gx,0,none⟩ (.float .f64 xl)).setCell ⟨ge,0,none⟩ (.int .i64 el)):=But.below k0 ((But.refl ge (v4.setCell ⟨gx,0,none⟩ (.float .f64 xl))).set 0 (.int .i64 el)) k0.size (by have:=HG.out;omega)
       refine door13 Tryz.results10 ?_ (Mean1_d gx ge xl el _ (k1.cell 0 _ rfl) (k2.cell 0 _ rfl) (k1.frozen 0)) rfl rfl (k1.cell 0 _ rfl) (k2.cell 0 _ rfl) hne.out ?_
       · simp [go_sem]
       · rw [HXE.out.1,HXE.out.2]
         have kb:But gx ((v4.setCell ⟨gx,0,none⟩ (.float .f64 xl)).setCell ⟨ge,0,none⟩ (.int .i64 el)) (((v4.setCell ⟨gx,0,none⟩ (.float .f64 xl)).setCell ⟨ge,0,none⟩ (.int .i64 el)).setCell ⟨gx,0,none⟩ (.float .f64 X)):=(But.refl gx _).set 0 _;have hgl:w.heap.size≤gx:=by have:=HG.out;omega
         first | exact ⟨rfl,But.below k3 kb k3.size hgl⟩ | (rw [HXE.out.2] at k3 kb;exact ⟨rfl,But.below k3 kb k3.size hgl⟩)
 · rw [if_neg h0] at hz
   obtain ⟨rfl,rfl⟩:=Prod.mk.inj hz;have h1:(ea==0)=false:=by simp [h0]
   clear hz HA;go_wp2;refine door13 Tryz.results10 ?_ (Mean1_d gx ge 0 ea _ (B1.out.2.1.cell 0 _ rfl) (B1.out.2.2.1.cell 0 _ rfl) (B1.out.2.1.frozen 0)) rfl rfl (B1.out.2.1.cell 0 _ rfl) (B1.out.2.2.1.cell 0 _ rfl) hne.out ?_
   · simp [go_sem]
   · rw [bsd_zero]
     exact ⟨rfl,But.below B1.out.2.2.2 ((But.refl gx _).set 0 _) B1.out.2.2.2.size (by have:=HG.out;omega)⟩
end
section
open Go.RowKit J
attribute [local go_sem] st_float
def plE (xs:List Nat):Int:=if 65536<xs.length then 2 else if 0<(sS xs).n∨0<(sS xs).u+(sS xs).d then 30 else 0
theorem sf22 (xs:List Nat):(sfE 2 2 xs=0∧plE xs=0)∨(sfE 2 2 xs=2∧plE xs=2)∨((sfE 2 2 xs=60∨sfE 2 2 xs=61)∧plE xs=30):=by
 have hm:may 2 2=true:=by decide
 unfold sfE plE Ps.rf;rw [hm,if_neg (by decide)]
 by_cases hl:65536<xs.length
 · rw [if_pos hl,if_pos hl];exact .inr (.inl ⟨rfl,rfl⟩)
 · rw [if_neg hl,if_neg hl]
   by_cases h1:0<(sS xs).n
   · rw [if_pos ⟨h1,rfl⟩,if_pos (.inl h1)];exact .inr (.inr ⟨.inl rfl,rfl⟩)
   · rw [if_neg (fun h=>h1 h.1)]
     by_cases h2:0<(sS xs).u+(sS xs).d
     · rw [if_pos ⟨h2,rfl⟩,if_pos (.inr h2)];exact .inr (.inr ⟨.inr rfl,rfl⟩)
     · rw [if_neg (fun h=>h2 h.1),if_neg (by omega)];exact .inl ⟨rfl,rfl⟩
theorem close6 {fn:Func}{p q:Tmp}(hfn:fn.results=#[.cell p 61,.tmp q]) {tmps:Array Value}{w:World}{g:Nat}{t1 t2 t3 t4 t5 t6 e:Int}{R:Ending→World→Prop}
 (h1:tmps.getD p undef=.pointer (some ⟨g,0,none⟩)) (h2:tmps.getD q undef=.int .i64 e) (hB:Bl w g 61 [.int .i64 t1,.int .i64 t2,.int .i64 t3,.int .i64 t4,.int .i64 t5,.int .i64 t6])
 (hR:R (.returned (.tuple #[.agg #[.int .i64 t1,.int .i64 t2,.int .i64 t3,.int .i64 t4,.int .i64 t5,.int .i64 t6],.int .i64 e])) w) :
 bodyPost Tryz.prog fn R .ret ⟨tmps,[]⟩ w:=by
 have c0:=hB.cell 0 _ rfl;have c1:=hB.cell 1 _ rfl;have c2:=hB.cell 2 _ rfl;have c3:=hB.cell 3 _ rfl;have c4:=hB.cell 4 _ rfl;have c5:=hB.cell 5 _ rfl;rw [Array.getD_eq_getD_getElem?] at h1 h2;exact bodyPost_ret (v:=.tuple #[.agg #[.int .i64 t1,.int .i64 t2,.int .i64 t3,.int .i64 t4,.int .i64 t5,.int .i64 t6],.int .i64 e]) (by simp [results,hfn,go_sem,Ps.csetm,h1,h2,c0,c1,c2,c3,c4,c5]) rfl hR
theorem plain13 (xs:List Nat) (a:Option Addr) (n c:Nat) (w:World) (hn:n=xs.length) (hF:Fs w.heap.size w a xs) (hW:W64 xs) (hl:n≤35184372088832) :
 Calls Tryz.prog 45 #[.slice a n c] w fun r w'=>((plE xs≠0∧r=.returned (.tuple #[agg0,.int .i64 (plE xs)]))∨(plE xs=0∧r=.returned (.tuple #[(sS xs).agg,.int .i64 0])))∧Below w.heap.size w w':=by
 obtain ⟨W,hWW⟩:∃ W,W=w.alloc (Obj.cells #[.int .i64 0,.int .i64 0,.int .i64 0,.int .i64 0,.int .i64 0,.int .i64 0] 61):=⟨_,rfl⟩
 have B0:Aside (Bl W w.heap.size 61 [.int .i64 0,.int .i64 0,.int .i64 0,.int .i64 0,.int .i64 0,.int .i64 0]∧Below w.heap.size w W):=by
  rw [hWW];exact ⟨Bl.new _ 61 [_,_,_,_,_,_],bel_alloc _ _⟩
 have HS:=hid (Sift13 xs a n c 2 2 W hn hl ((hF.below B0.out.2).mono B0.out.2.size) hW);have hsf:=sf22 xs;obtain ⟨es,hes⟩:∃ e,sfE 2 2 xs=e:=⟨_,rfl⟩;obtain ⟨ep,hep⟩:∃ e,plE xs=e:=⟨_,rfl⟩;obtain ⟨⟨sn,su,sd,sm,sp,sa⟩,hs⟩:∃ s,sS xs=s:=⟨_,rfl⟩;obtain ⟨fl,hfl⟩:∃ f,Ps.fin xs=f:=⟨_,rfl⟩;rw [hs,hes,hfl] at HS;rw [hes,hep] at hsf;rw [hep,hs];simp only [Sp.agg] at HS ⊢;have HSF:=qsd hsf;have HWW:=qsd hWW;clear hn hF hW hl hWW hes hep hs hfl hsf;go_enter Tryz.func45,Tryz.ntmps45
 go_wp2_with fail
 rw [←HWW.out];clear HWW;refine HS.out.mono ?_;rintro r v ⟨hr,hb⟩;have B1:Aside (Bl v w.heap.size 61 [.int .i64 0,.int .i64 0,.int .i64 0,.int .i64 0,.int .i64 0,.int .i64 0]∧Below w.heap.size w v):=⟨B0.out.1.below hb B0.out.1.lt,B0.out.2.trans (hb.mono B0.out.2.size)⟩
 have BU:Aside (∀ (t1 t2 t3 t4 t5 t6:Int) (U:World),U=v.alloc (Obj.cells #[.int .i64 t1,.int .i64 t2,.int .i64 t3,.int .i64 t4,.int .i64 t5,.int .i64 t6] 61) →
  Bl U w.heap.size 61 [.int .i64 0,.int .i64 0,.int .i64 0,.int .i64 0,.int .i64 0,.int .i64 0]∧Bl U v.heap.size 61 [.int .i64 t1,.int .i64 t2,.int .i64 t3,.int .i64 t4,.int .i64 t5,.int .i64 t6]∧Below w.heap.size w U∧w.heap.size<v.heap.size):=by
  intro t1 t2 t3 t4 t5 t6 U hU;rw [hU];exact ⟨B1.out.1.alloc _,Bl.new _ 61 [_,_,_,_,_,_],B1.out.2.trans ((bel_alloc _ _).mono B1.out.2.size),B1.out.1.lt⟩
 clear hb B0 HS
 rcases hr with ⟨he,a',c',rfl⟩|⟨he,a',c',rfl,hF',hlo⟩
 · unfold agg0
   obtain ⟨U,hU⟩:∃ U,U=v.alloc (Obj.cells #[.int .i64 0,.int .i64 0,.int .i64 0,.int .i64 0,.int .i64 0,.int .i64 0] 61):=⟨_,rfl⟩;obtain ⟨u1,u2,u3,u4⟩:=BU.out _ _ _ _ _ _ _ hU;obtain ⟨gs,hgs⟩:∃ g,v.heap.size=g:=⟨_,rfl⟩;rw [hgs] at u2 u4;have B3:=(qsd (ai u1 (ai u2 (ai u3 u4))));have s0:=u2.cell 0 _ rfl;have s1:=u2.cell 1 _ rfl;have s2:=u2.cell 2 _ rfl;have s3:=u2.cell 3 _ rfl;have s4:=u2.cell 4 _ rfl;have s5:=u2.cell 5 _ rfl;have z0:=u1.cell 0 _ rfl;have z1:=u1.cell 1 _ rfl;have z2:=u1.cell 2 _ rfl;have z3:=u1.cell 3 _ rfl;have z4:=u1.cell 4 _ rfl;have z5:=u1.cell 5 _ rfl;have y0:=u1.frozen 0;have y1:=u1.frozen 1;have y2:=u1.frozen 2;have y3:=u1.frozen 3;have y4:=u1.frozen 4;have y5:=u1.frozen 5;have HGS:=qsd hgs;have HU:=qsd hU;clear u1 u2 u3 u4 hU BU hgs
   go_upto_region 2 with fail
   rw [←HU.out,HGS.out];clear HU HGS;obtain ⟨h1,h2⟩|⟨h1,h2⟩|⟨h1|h1,h2⟩:=HSF.out
   · exact absurd h1 he
   all_goals
    subst h1 h2;clear he HSF;go_wp2;refine close6 Tryz.results45 ?_ ?_ ((((((B3.out.1.set 0 _).set 1 _).set 2 _).set 3 _).set 4 _).set 5 _) ⟨by first | exact .inl ⟨by decide,rfl⟩ | rfl,?_⟩
    · rfl
    · rfl
    · exact But.below B3.out.2.2.1 (Ps.But.set6 (But.refl w.heap.size _) _ _ _ _ _ _) B3.out.2.2.1.size (Nat.le_refl _)
 · subst he
   obtain rfl:ep=0:=by rcases HSF.out with ⟨h1,h2⟩|⟨h1,h2⟩|⟨h1|h1,h2⟩ <;> omega
   obtain ⟨U,hU⟩:∃ U,U=v.alloc (Obj.cells #[.int .i64 sn,.int .i64 su,.int .i64 sd,.int .i64 sm,.int .i64 sp,.int .i64 sa] 61):=⟨_,rfl⟩;obtain ⟨u1,u2,u3,u4⟩:=BU.out _ _ _ _ _ _ _ hU;obtain ⟨gs,hgs⟩:∃ g,v.heap.size=g:=⟨_,rfl⟩;rw [hgs] at u2 u4;have B3:=(qsd (ai u1 (ai u2 (ai u3 u4))));have s0:=u2.cell 0 _ rfl;have s1:=u2.cell 1 _ rfl;have s2:=u2.cell 2 _ rfl;have s3:=u2.cell 3 _ rfl;have s4:=u2.cell 4 _ rfl;have s5:=u2.cell 5 _ rfl;have z0:=u1.cell 0 _ rfl;have z1:=u1.cell 1 _ rfl;have z2:=u1.cell 2 _ rfl;have z3:=u1.cell 3 _ rfl;have z4:=u1.cell 4 _ rfl;have z5:=u1.cell 5 _ rfl;have y0:=u1.frozen 0;have y1:=u1.frozen 1;have y2:=u1.frozen 2;have y3:=u1.frozen 3;have y4:=u1.frozen 4;have y5:=u1.frozen 5;have HGS:=qsd hgs;have HU:=qsd hU;clear u1 u2 u3 u4 hU BU hgs hF' hlo
   go_upto_region 2 with fail
   rw [←HU.out,HGS.out];clear HU HGS HSF;go_wp2;refine close6 Tryz.results45 ?_ ?_ ((((((B3.out.1.set 0 _).set 1 _).set 2 _).set 3 _).set 4 _).set 5 _) ⟨by first | exact .inr ⟨rfl,rfl⟩ | rfl,?_⟩
   · rfl
   · rfl
   · exact But.below B3.out.2.2.1 (Ps.But.set6 (But.refl w.heap.size _) _ _ _ _ _ _) B3.out.2.2.1.size (Nat.le_refl _)
end
section
open Go.RowKit J
attribute [local go_sem] st_float
abbrev ClD (f:FuncId):Prop:=∀ (gx ge x:Nat) (e:Int) (w:World),w.cell? ⟨gx,0,none⟩=some (.float .f64 x)→w.cell? ⟨ge,0,none⟩=some (.int .i64 e)→w.frozen? ⟨gx,0,none⟩=false→∀ (u:FrameMode),
 CallsD Tryz.prog f #[.pointer (some ⟨ge,0,none⟩),.pointer (some ⟨gx,0,none⟩)] u w fun r u' w'=>u'=u∧(r=.returned (.tuple #[])∧w'=w.setCell ⟨gx,0,none⟩ (.float .f64 (bsd e x)))
theorem early13 {fn:Func}{f:FuncId}{px pe:Tmp}(hres:fn.results=#[.cell px 22,.cell pe 25]) (HC:ClD f) {tmps:Array Value}{gx ge x X:Nat}{e E:Int}{w v:World}
 (b1:Bl v gx 22 [.float .f64 x]) (b2:Bl v ge 25 [.int .i64 e]) (hb:Below w.heap.size w v) (hgx:w.heap.size≤gx) (hne:ge≠gx) (hX:bsd e x=X) (hE:e=E)
 (hi:(callFunc f #[.pointer (some ⟨ge,0,none⟩),.pointer (some ⟨gx,0,none⟩)]).run Tryz.prog v=.ok (.enter f #[.pointer (some ⟨ge,0,none⟩),.pointer (some ⟨gx,0,none⟩)]) v)
 (h1:tmps.getD px undef=.pointer (some ⟨gx,0,none⟩)) (h2:tmps.getD pe undef=.pointer (some ⟨ge,0,none⟩)) :
 Leaves Tryz.prog fn tmps (fun r w'=>r=.returned (.tuple #[.float .f64 X,.int .i64 E])∧Below w.heap.size w w') [{ target:=.fn (.func f) #[.pointer (some ⟨ge,0,none⟩),.pointer (some ⟨gx,0,none⟩)],args:=#[] }] .returning v:=by
 subst hX hE;refine door13 hres hi (HC gx ge x e v (b1.cell 0 _ rfl) (b2.cell 0 _ rfl) (b1.frozen 0)) h1 h2 (b1.cell 0 _ rfl) (b2.cell 0 _ rfl) hne ?_;have kb:But gx v (v.setCell ⟨gx,0,none⟩ (.float .f64 (bsd e x))):=(But.refl gx _).set 0 _;exact ⟨rfl,But.below hb kb hb.size hgx⟩
theorem finish13 {fn:Func}{f:FuncId}{px pe:Tmp}(hres:fn.results=#[.cell px 22,.cell pe 25]) (HC:ClD f) {tmps:Array Value}{gx ge x0 x X:Nat}{e0 e E:Int}{w v:World}
 (b1:Bl v gx 22 [.float .f64 x0]) (b2:Bl v ge 25 [.int .i64 e0]) (hb:Below w.heap.size w v) (hgx:w.heap.size≤gx) (hge:w.heap.size≤ge) (hne:ge≠gx) (hX:bsd e x=X) (hE:e=E)
 (hi:∀ v:World,(callFunc f #[.pointer (some ⟨ge,0,none⟩),.pointer (some ⟨gx,0,none⟩)]).run Tryz.prog v=.ok (.enter f #[.pointer (some ⟨ge,0,none⟩),.pointer (some ⟨gx,0,none⟩)]) v)
 (h1:tmps.getD px undef=.pointer (some ⟨gx,0,none⟩)) (h2:tmps.getD pe undef=.pointer (some ⟨ge,0,none⟩)) :
 Leaves Tryz.prog fn tmps (fun r w'=>r=.returned (.tuple #[.float .f64 X,.int .i64 E])∧Below w.heap.size w w') [{ target:=.fn (.func f) #[.pointer (some ⟨ge,0,none⟩),.pointer (some ⟨gx,0,none⟩)],args:=#[] }] .returning ((v.setCell ⟨gx,0,none⟩ (.float .f64 x)).setCell ⟨ge,0,none⟩ (.int .i64 e)):=by
 have bt:But gx v (v.setCell ⟨gx,0,none⟩ (.float .f64 x)):=(But.refl _ _).set 0 _;have be:But ge (v.setCell ⟨gx,0,none⟩ (.float .f64 x)) ((v.setCell ⟨gx,0,none⟩ (.float .f64 x)).setCell ⟨ge,0,none⟩ (.int .i64 e)):=(But.refl _ _).set 0 _;have k0:=But.below hb bt hb.size hgx;exact early13 hres HC ((b1.set 0 (.float .f64 x)).but be (fun h=>hne h.symm)) ((b2.but bt hne).set 0 (.int .i64 e)) (But.below k0 be k0.size hge) hgx hne hX hE (hi _) h1 h2
theorem two13 (w:World):Bl ((w.alloc (Obj.cells #[.float .f64 0] 22)).alloc (Obj.cells #[.int .i64 0] 25)) w.heap.size 22 [.float .f64 0]∧Bl ((w.alloc (Obj.cells #[.float .f64 0] 22)).alloc (Obj.cells #[.int .i64 0] 25)) (w.heap.size+1) 25 [.int .i64 0]∧Below w.heap.size w ((w.alloc (Obj.cells #[.float .f64 0] 22)).alloc (Obj.cells #[.int .i64 0] 25)):=by
 have z2:=Bl.new (w.alloc (Obj.cells #[.float .f64 0] 22)) 25 [.int .i64 0];rw [World.size_alloc] at z2;exact ⟨(Bl.new w 22 [_]).below (bel_alloc _ _) (by simp),z2,(bel_alloc _ _).trans ((bel_alloc _ _).mono (by simp))⟩
theorem seterr13 {w v:World}{gx ge x:Nat}{e0:Int}(e:Int) (b1:Bl v gx 22 [.float .f64 x]) (b2:Bl v ge 25 [.int .i64 e0]) (hb:Below w.heap.size w v) (hge:w.heap.size≤ge) (hne:ge≠gx) :
 Bl (v.setCell ⟨ge,0,none⟩ (.int .i64 e)) gx 22 [.float .f64 x]∧Bl (v.setCell ⟨ge,0,none⟩ (.int .i64 e)) ge 25 [.int .i64 e]∧Below w.heap.size w (v.setCell ⟨ge,0,none⟩ (.int .i64 e)):=by
 have be:But ge v (v.setCell ⟨ge,0,none⟩ (.int .i64 e)):=(But.refl _ _).set 0 _;exact ⟨b1.but be (fun h=>hne h.symm),b2.set 0 _,But.below hb be hb.size hge⟩
theorem stored13 {w v:World}{gx ge x:Nat}{e0:Int}{ao:Option Addr}{xs:List Nat}(b1:Bl v gx 22 [.float .f64 x]) (b2:Bl v ge 25 [.int .i64 e0]) (hb:Below w.heap.size w v) (hge:w.heap.size≤ge) (hne:ge≠gx) (hT:Tab w) (hF:Fs v.heap.size v ao xs) (hg:∀ b o p,ao=some ⟨b,o,p⟩→b≠ge) (e t1 t2 t3 t4 t5 t6:Int) (Z:World) (hZ:Z=(v.setCell ⟨ge,0,none⟩ (.int .i64 e)).alloc (Obj.cells #[.int .i64 t1,.int .i64 t2,.int .i64 t3,.int .i64 t4,.int .i64 t5,.int .i64 t6] 61)) :
 Bl Z gx 22 [.float .f64 x]∧Bl Z ge 25 [.int .i64 e]∧Bl Z v.heap.size 61 [.int .i64 t1,.int .i64 t2,.int .i64 t3,.int .i64 t4,.int .i64 t5,.int .i64 t6]∧Below w.heap.size w Z∧Tab Z∧Fs Z.heap.size Z ao xs:=by
 obtain ⟨k1,k2,k3⟩:=seterr13 (w:=w) e b1 b2 hb hge hne;have be:But ge v (v.setCell ⟨ge,0,none⟩ (.int .i64 e)):=(But.refl _ _).set 0 _;have hsz:(v.setCell ⟨ge,0,none⟩ (.int .i64 e)).heap.size=v.heap.size:=by simp
 have z1:=Bl.new (v.setCell ⟨ge,0,none⟩ (.int .i64 e)) 61 [.int .i64 t1,.int .i64 t2,.int .i64 t3,.int .i64 t4,.int .i64 t5,.int .i64 t6];rw [hsz] at z1;rw [hZ];have hbb:=k3.trans ((bel_alloc (v.setCell ⟨ge,0,none⟩ (.int .i64 e)) (Obj.cells #[.int .i64 t1,.int .i64 t2,.int .i64 t3,.int .i64 t4,.int .i64 t5,.int .i64 t6] 61)).mono k3.size);exact ⟨k1.alloc _,k2.alloc _,z1,hbb,hT.belows hbb,((hF.but' be hg).below ((bel_alloc _ _).mono (by simp))).mono (by simp)⟩
noncomputable def plnR (xs:List Nat) (mode:Int):Nat×Int:=if plE xs=0 then (bsd (levR xs (sS xs) mode).2 (levR xs (sS xs) mode).1,(levR xs (sS xs) mode).2) else (0,plE xs)
noncomputable def midR (x y:Nat) (mode:Int):Nat×Int:=if askE mode=0 then plnR [x,y] mode else (0,askE mode)
theorem fs_two (w:World) (x y:Nat):Fs (w.alloc (Obj.cells #[.float .f64 x,.float .f64 y] 22)).heap.size (w.alloc (Obj.cells #[.float .f64 x,.float .f64 y] 22)) (some ⟨w.heap.size,0,none⟩) [x,y]:=by
 intro _;refine ⟨w.heap.size,0,by simp,rfl,fun i hi=>?_⟩
 have hB:=Bl.new w 22 [.float .f64 x,.float .f64 y]
 match i,hi with
 | 0,_=>exact hB.cell 0 _ rfl
 | 1,_=>exact hB.cell 1 _ rfl
theorem Middle13 (x y:Nat) (hx:x<18446744073709551616) (hy:y<18446744073709551616) (mode:Int) (w:World) (hT:Tab w) (z:Nat×Int) (hz:midR x y mode=z) :
 Calls Tryz.prog 19 #[.float .f64 x,.float .f64 y,.int .i64 mode] w fun r w'=>r=.returned (.tuple #[.float .f64 z.1,.int .i64 z.2])∧Below w.heap.size w w':=by
 obtain ⟨X,E⟩:=z;simp only;have hmf:∀ (fn:Fn) (first cap:Array Value) (w:World),(Instr.makeFunc fn first cap).run Tryz.prog w=.ok (.func fn first cap) w:=fun _ _ _ _=>rfl
 have HA:=hid (fun u:World=>asked13 mode u)
 unfold midR at hz;obtain ⟨ea,hea⟩:∃ e,askE mode=e:=⟨_,rfl⟩;rw [hea] at HA hz;obtain ⟨W,hWW⟩:∃ W,W=(w.alloc (Obj.cells #[.float .f64 0] 22)).alloc (Obj.cells #[.int .i64 0] 25):=⟨_,rfl⟩;obtain ⟨gx,hgx⟩:∃ g,g=w.heap.size:=⟨_,rfl⟩;obtain ⟨ge,hge⟩:∃ g,g=w.heap.size+1:=⟨_,rfl⟩;have HG:Aside (gx=w.heap.size∧ge=w.heap.size+1∧w.heap.size≤gx∧w.heap.size≤ge∧ge≠gx):=⟨hgx,hge,by omega,by omega,by omega⟩
 have B0:=two13 w;rw [←hWW,←hge] at B0;have B1:=qsd (seterr13 ea (show Bl W gx 22 [.float .f64 0] by rw [hgx];exact B0.1) B0.2.1 B0.2.2 HG.out.2.2.2.1 HG.out.2.2.2.2)
 have c1:=B0.2.1.cell 0 _ rfl;have f1:=B0.2.1.frozen 0;have HWW:=qsd hWW;have HX:=qsd (ai hx (ai hy hT));clear hx hy hT hWW hea hgx hge B0;go_enter_defers Tryz.func19,Tryz.ntmps19
 go_wp2_with fail
 rw [←HWW.out]
 try rw [show w.heap.size+1=ge by have:=HG.out;omega]
 try rw [show w.heap.size=gx by have:=HG.out;omega]
 clear HWW;refine (HA.out _).mono ?_;rintro r v ⟨rfl,hv⟩;rw [hv];clear hv v
 by_cases h0:ea=0
 · subst h0
   rw [if_pos rfl] at hz;obtain ⟨V,hV⟩:∃ V,V=W.setCell ⟨ge,0,none⟩ (.int .i64 0):=⟨_,rfl⟩;rw [←hV] at B1;have r1:=B1.out.2.1.cell 0 _ rfl;obtain ⟨U,hU⟩:∃ U,U=V.alloc (Obj.cells #[.float .f64 x,.float .f64 y] 22):=⟨_,rfl⟩;obtain ⟨ga,hga⟩:∃ g,V.heap.size=g:=⟨_,rfl⟩
   have B2:Aside (Bl U gx 22 [.float .f64 0]∧Bl U ge 25 [.int .i64 0]∧Below w.heap.size w U∧Fs U.heap.size U (some ⟨ga,0,none⟩) [x,y]∧Tab U∧W64 [x,y]):=by
    have hbU:Below w.heap.size w U:=by rw [hU];exact B1.out.2.2.trans ((bel_alloc _ _).mono B1.out.2.2.size)
    refine ⟨by rw [hU];exact B1.out.1.alloc _,by rw [hU];exact B1.out.2.1.alloc _,hbU,by rw [hU,←hga];exact fs_two V x y,HX.out.2.2.belows hbU,?_⟩
    intro q hq;simp at hq
    rcases hq with rfl|rfl
    · exact HX.out.1
    · exact HX.out.2.1
   have HP:=hid (plain13 [x,y] (some ⟨ga,0,none⟩) 2 2 U rfl B2.out.2.2.2.1 B2.out.2.2.2.2.2 (by decide))
   have HW2:=qsd B2.out.2.2.2.2.2;have HGN:Aside (ga≠ge):=by have:=B1.out.2.1.lt;rw [Aside,←hga];omega
   obtain ⟨ep,hep⟩:∃ e,plE [x,y]=e:=⟨_,rfl⟩;obtain ⟨⟨sn,su,sd,sm,sp,sa⟩,hs⟩:∃ s,sS [x,y]=s:=⟨_,rfl⟩;unfold plnR at hz;rw [hep,hs] at HP hz;simp only [Sp.agg] at HP;have HV:=qsd hV;have HU:=qsd hU;have HGA:=qsd hga;clear hV hU hga hep hs HA
   go_upto_region 3 with fail
   rw [←HV.out];clear HV
   go_upto_region 5 with fail
   rw [←HU.out,HGA.out];clear HU HGA
   go_wp2_with fail
   refine HP.out.mono ?_;rintro r v ⟨hr,hb⟩;have B3:Aside (Bl v gx 22 [.float .f64 0]∧Bl v ge 25 [.int .i64 0]∧Below w.heap.size w v∧Fs v.heap.size v (some ⟨ga,0,none⟩) [x,y]∧ga≠ge):=⟨B2.out.1.below hb B2.out.1.lt,B2.out.2.1.below hb B2.out.2.1.lt,B2.out.2.2.1.trans (hb.mono B2.out.2.2.1.size),(B2.out.2.2.2.1.below hb).mono hb.size,HGN.out⟩;have q1:=B3.out.2.1.cell 0 _ rfl;have q2:=B3.out.2.1.frozen 0;have hlt:=B3.out.2.1.lt;have BU:=qsd (stored13 B3.out.1 B3.out.2.1 B3.out.2.2.1 HG.out.2.2.2.1 HG.out.2.2.2.2 HX.out.2.2 B3.out.2.2.2.1 (fun b o p h=>by cases h;exact B3.out.2.2.2.2))
   clear hb HP B2
   rcases hr with ⟨he,rfl⟩|⟨he,rfl⟩
   · unfold agg0
     rw [if_neg he] at hz;have HXE:=qsd (Prod.mk.inj hz);have h1:(ep==0)=false:=by simp [he]
     obtain ⟨Z,hZ⟩:∃ U,U=(v.setCell ⟨ge,0,none⟩ (.int .i64 ep)).alloc (Obj.cells #[.int .i64 0,.int .i64 0,.int .i64 0,.int .i64 0,.int .i64 0,.int .i64 0] 61):=⟨_,rfl⟩;have B4:=qsd (BU.out _ _ _ _ _ _ _ _ hZ);have r1:=B4.out.2.1.cell 0 _ rfl;have HZ:=qsd hZ;clear hZ BU hz
     go_upto_region 6 with fail
     rw [←HZ.out];clear HZ;go_wp2;refine early13 Tryz.results19 Middle1_d B4.out.1 B4.out.2.1 B4.out.2.2.2.1 HG.out.2.2.1 HG.out.2.2.2.2 ((bsd_zero _).trans HXE.out.1) HXE.out.2 (by simp [go_sem]) ?_ ?_ <;> rfl
   · subst he
     rw [if_pos rfl] at hz;obtain ⟨Z,hZ⟩:∃ U,U=(v.setCell ⟨ge,0,none⟩ (.int .i64 0)).alloc (Obj.cells #[.int .i64 sn,.int .i64 su,.int .i64 sd,.int .i64 sm,.int .i64 sp,.int .i64 sa] 61):=⟨_,rfl⟩;have B4:=qsd (BU.out _ _ _ _ _ _ _ _ hZ);obtain ⟨gs,hgs⟩:∃ g,v.heap.size=g:=⟨_,rfl⟩;rw [hgs] at B4;have r1:=B4.out.2.1.cell 0 _ rfl;have s0:=B4.out.2.2.1.cell 0 _ rfl;have s1:=B4.out.2.2.1.cell 1 _ rfl;have s2:=B4.out.2.2.1.cell 2 _ rfl;have s3:=B4.out.2.2.1.cell 3 _ rfl;have s4:=B4.out.2.2.1.cell 4 _ rfl;have s5:=B4.out.2.2.1.cell 5 _ rfl;obtain ⟨⟨xl,el⟩,hl⟩:∃ z,levR [x,y] ⟨sn,su,sd,sm,sp,sa⟩ mode=z:=⟨_,rfl⟩;rw [hl] at hz;have hz1:(bsd el xl,el)=(X,E):=hz;obtain ⟨hX,hE⟩:=Prod.mk.inj hz1;have HL:=hid (level13 [x,y] (some ⟨ga,0,none⟩) 2 2 sn su sd sm sp sa mode Z rfl B4.out.2.2.2.2.2 HW2.out B4.out.2.2.2.2.1 (by decide) (xl,el) hl)
     simp only at HL;have HXE:=qsd (ai hX hE);have HZ:=qsd hZ;have HGS:=qsd hgs;clear hZ BU hz hz1 hX hE hl hgs
     go_upto_region 6 with fail
     rw [←HZ.out,HGS.out];clear HZ HGS q1 q2 hlt
     go_wp2_with fail
     refine HL.out.mono ?_;rintro r v4 ⟨rfl,hb⟩
     have B6:Aside (Bl v4 gx 22 [.float .f64 0]∧Bl v4 ge 25 [.int .i64 0]∧Below w.heap.size w v4) :=
      ⟨B4.out.1.below hb B4.out.1.lt,B4.out.2.1.below hb B4.out.2.1.lt,B4.out.2.2.2.1.trans (hb.mono B4.out.2.2.2.1.size)⟩
     have t1:=B6.out.1.cell 0 _ rfl;have t2:=B6.out.1.frozen 0;have t3:=B6.out.2.1.cell 0 _ rfl;have t4:=B6.out.2.1.frozen 0;have hne1:ge≠gx:=HG.out.2.2.2.2;have hne2:gx≠ge:=fun h=>HG.out.2.2.2.2 h.symm
     clear hb B4 HL s0 s1 s2 s3 s4 s5;go_wp2;refine finish13 Tryz.results19 Middle1_d B6.out.1 B6.out.2.1 B6.out.2.2 HG.out.2.2.1 HG.out.2.2.2.1 HG.out.2.2.2.2 HXE.out.1 HXE.out.2 (fun _=>by simp [go_sem]) ?_ ?_ <;> rfl
 · rw [if_neg h0] at hz
   have HXE:=qsd (Prod.mk.inj hz);have h1:(ea==0)=false:=by simp [h0]
   clear hz HA;go_wp2;refine early13 Tryz.results19 Middle1_d B1.out.1 B1.out.2.1 B1.out.2.2 HG.out.2.2.1 HG.out.2.2.2.2 ((bsd_zero _).trans HXE.out.1) HXE.out.2 (by simp [go_sem]) ?_ ?_ <;> rfl
end
section
open Go.RowKit J
attribute [local go_sem] st_float
theorem calm13 {P:Program}{c:Code}{K:Act→World→Prop}{Q:Exit→Act→World→Prop}{a:Act}{w:World}(h:c.wp P (Exit.then K (fun _ _ _=>False)) a w):c.wp P (Exit.then K Q) a w :=
 wp_mono h (fun e a w h=>by cases e <;> first | exact h | exact False.elim h)
end
section
open Go.RowKit J
attribute [local go_sem] st_float
def pI13 (xs ys:List Nat):List (Nat×Int):=List.zipWith (fun x y=>(pK x y,pT x y)) xs ys
theorem pI13_take (xs ys:List Nat) (k:Nat) (h1:k<xs.length) (h2:k<ys.length):pI13 (xs.take (k+1)) (ys.take (k+1))=pI13 (xs.take k) (ys.take k)++[(pK (xs.getD k 0) (ys.getD k 0),pT (xs.getD k 0) (ys.getD k 0))]:=by
 unfold pI13;rw [take_snoc10 xs k h1,take_snoc10 ys k h2,List.zipWith_append (by simp;omega)]
 rfl
theorem pI13_len (xs ys:List Nat):(pI13 xs ys).length=min xs.length ys.length:=by unfold pI13;simp
theorem pI13_ip:∀ {xs ys:List Nat},W64 xs→W64 ys→∀ p ∈ pI13 xs ys,Ip p
 | [],_,_,_,p,hp=>by simp [pI13] at hp
 | _::_,[],_,_,p,hp=>by simp [pI13] at hp
 | x::xs,y::ys,h1,h2,p,hp=>by
   unfold pI13 at hp;rw [List.zipWith_cons_cons,List.mem_cons] at hp
   rcases hp with rfl|hp
   · exact ip_prod (h1 x List.mem_cons_self) (h2 y List.mem_cons_self)
   · exact pI13_ip (xs:=xs) (ys:=ys) (fun z hz=>h1 z (List.mem_cons_of_mem _ hz)) (fun z hz=>h2 z (List.mem_cons_of_mem _ hz)) p hp
def wS (xs ys:List Nat):Int:=vI (pI13 xs ys)
theorem wS_bd {xs ys:List Nat}(h1:W64 xs) (h2:W64 ys) (hl:xs.length≤65536):∃ k:Nat,k=4238∧(wS xs ys).natAbs<2^k:=by
 obtain ⟨k,hk,e⟩:=HB13;refine ⟨k,hk,?_⟩;rw [←e];have a1:=vI_bd _ (pI13_ip h1 h2);have a2:=pI13_len xs ys;have a3:(pI13 xs ys).length*QB≤65536*QB:=Nat.mul_le_mul_right _ (by omega)
 have a4:=QB_HB;have a5:=QB_pos;unfold wS;omega
theorem wS_fm {xs ys:List Nat}(h1:W64 xs) (h2:W64 ys) (hl:xs.length≤65536):Fm (exV (wS xs ys)):=by
 obtain ⟨k,hk,h⟩:=wS_bd h1 h2 hl;exact ex_fm _ k (by omega) h
theorem products13 (xs ys:List Nat) (a b:Option Addr) (n c d:Nat) (w:World) (hn:n=xs.length) (hn2:n=ys.length) (hF:Fs w.heap.size w a xs) (hG:Fs w.heap.size w b ys) (hW:W64 xs) (hV:W64 ys) (hT:Tab w) (hl:n≤65536) :
 Calls Tryz.prog 39 #[.slice a n c,.slice b n d] w fun r w'=>∃ v,r=.returned (.agg #[.bool (dN (exV (wS xs ys))),v,.int .i64 (dE (exV (wS xs ys)))])∧Nt w.heap.size w' v (dX (exV (wS xs ys)))∧Below w.heap.size w w':=by
 have HX:=qsd (ai hn (ai hn2 (ai hF (ai hG (ai hW (ai hV (ai hT hl)))))));obtain ⟨o,ho⟩:∃ o,o=exV (wS xs ys):=⟨_,rfl⟩;rw [←ho];have HO:=qsd ho;clear hn hn2 hF hG hW hV hT ho;obtain ⟨W1,hW1⟩:∃ W,W=w.alloc (.cells #[.bool false,.slice none 0 0,.int .i64 0] 43):=⟨_,rfl⟩
 have H1:Aside (Below w.heap.size w W1∧Bl W1 w.heap.size 43 [.bool false,.slice none 0 0,.int .i64 0]∧W1.heap.size=w.heap.size+1):=by
  subst hW1;exact ⟨bel_alloc _ _,Bl.new _ 43 [_,_,_],by simp⟩
 go_enter Tryz.func39,Tryz.ntmps39
 go_wp2_with fail
 rw [←hW1];clear hW1;refine (New7 W1).mono ?_;rintro r w2 ⟨rfl,hA,hb2⟩;obtain ⟨g,hg⟩:∃ g,g=W1.heap.size:=⟨_,rfl⟩;rw [←hg] at hA ⊢
 have P2:Aside (Bl w2 w.heap.size 43 [.bool false,.slice none 0 0,.int .i64 0]∧Below w.heap.size w w2∧w.heap.size<g∧At12 w2 g (pI13 (xs.take 0) (ys.take 0))) :=
  ⟨H1.out.2.1.below hb2 (by have:=H1.out.2.2;omega),H1.out.1.trans (hb2.mono (by have:=H1.out.2.2;omega)),by have:=H1.out.2.2;omega,hA,fun p hp=>by simp [pI13] at hp⟩
 clear hb2 hA hg H1;go_wp2
 go_loopg [11] n (fun gk i wr=>∃ k:Nat,gk+k=n∧i=.int .i64 (k:Nat)∧Aside (At12 wr g (pI13 (xs.take k) (ys.take k))∧Bl wr w.heap.size 43 [.bool false,.slice none 0 0,.int .i64 0]∧Below w.heap.size w wr))
 case atStart=>exact ⟨0,by omega,by simp,P2.out.2.2.2,P2.out.1,P2.out.2.1⟩
 case round =>
  obtain ⟨k,hgk,rfl,HA⟩:=hrel
  by_cases hk:k<n
  · obtain ⟨b1,off1,rfl,hc⟩:=HX.out.2.2.1.at HA.out.2.2 k (by rw [←HX.out.1];exact hk)
    obtain ⟨b2,off2,rfl,hd⟩:=HX.out.2.2.2.1.at HA.out.2.2 k (by rw [←HX.out.2.1];exact hk)
    have C:Hid (Calls Tryz.prog 81 #[.pointer (some ⟨g,0,none⟩),.float .f64 (xs.getD k 0),.float .f64 (ys.getD k 0)] wr fun r w'=>r=.returned (.int .i64 0)∧At12 w' g (pI13 (xs.take (k+1)) (ys.take (k+1)))∧But g wr w'):=by
     rw [pI13_take xs ys k (by rw [←HX.out.1];exact hk) (by rw [←HX.out.2.1];exact hk)]
     exact addP12 g _ _ _ wr HA.out.1 (by rw [pI13_len,List.length_take];have:=HX.out.2.2.2.2.2.2.2;omega) (HX.out.2.2.2.2.1.get k) (HX.out.2.2.2.2.2.1.get k)
    obtain ⟨x,hx⟩:∃ x,x=xs.getD k 0:=⟨_,rfl⟩;obtain ⟨y,hy⟩:∃ y,y=ys.getD k 0:=⟨_,rfl⟩;rw [←hx] at hc C;rw [←hy] at hd C;have hkb:k<4611686018427387904:=by have:=HX.out.2.2.2.2.2.2.2;omega
    clear hx hy
    go_wp2_with fail
    refine (C.out).mono ?_;rintro r w3 ⟨rfl,hA3,hbut⟩;have H3:=qsd (ai hA3 (ai (HA.out.2.1.but hbut (by have:=P2.out.2.2.1;omega)) (But.below HA.out.2.2 hbut HA.out.2.2.size (by have:=P2.out.2.2.1;omega))))
    clear hA3 hbut C hc hd;go_wp2
    go_roundg (gk-1)
    case measure=>omega
    case rel=>exact ⟨k+1,by omega,by first | rfl | simp,H3.out⟩
  · obtain rfl:n=k:=by omega
    have hd:decide ((n:Int)<n)=false:=by simp
    have C:Hid (Calls Tryz.prog 18 #[.pointer (some ⟨g,0,none⟩)] wr fun r w'=>∃ v,r=.returned (.agg #[.bool (dN o),v,.int .i64 (dE o)])∧Nt wr.heap.size w' v (dX o)∧Below wr.heap.size wr w'):=by
     have e1:xs.take n=xs:=by rw [List.take_of_length_le];rw [←HX.out.1];omega
     have e2:ys.take n=ys:=by rw [List.take_of_length_le];rw [←HX.out.2.1];omega
     have hA:=HA.out.1;rw [e1,e2] at hA;rw [HO.out];exact Exact7 g _ _ wr hA.1 (HX.out.2.2.2.2.2.2.1.belows HA.out.2.2)
    have HL:=qsd (HA.out.2.1.lt)
    go_wp2_with fail
    refine (C.out).mono ?_;rintro r w3 ⟨v,rfl,hN,hb3⟩;obtain ⟨a9,c9,rfl,_⟩:=Lo.shape (q:=o) (by rw [HO.out];exact wS_fm HX.out.2.2.2.2.1 HX.out.2.2.2.2.2.1 (by rw [←HX.out.1];exact HX.out.2.2.2.2.2.2.2)) hN
    have B3:=qsd (ai (HA.out.2.1.below hb3 HL.out) (ai (HA.out.2.2.trans (hb3.mono HA.out.2.2.size)) hN));have z0:=B3.out.1.cell 0 _ rfl;have z1:=B3.out.1.cell 1 _ rfl;have z2:=B3.out.1.cell 2 _ rfl;have f0:=B3.out.1.frozen 0;have f1:=B3.out.1.frozen 1;have f2:=B3.out.1.frozen 2;clear hb3 C hN;go_wp2;refine close13 Tryz.results39 ?_ B3.out.1 B3.out.2.1 B3.out.2.2 (HL.out);rfl
def prE (xs ys:List Nat):Int:=if 65536<xs.length∨65536<ys.length then 2 else if xs.length≠ys.length then 4 else if plE xs≠0 then plE xs else if plE ys≠0 then plE ys else if xs=[] then 3 else 0
theorem paired13 (xs ys:List Nat) (a b:Option Addr) (n m c d:Nat) (w:World) (hn:n=xs.length) (hm:m=ys.length) (hF:Fs w.heap.size w a xs) (hG:Fs w.heap.size w b ys) (hW:W64 xs) (hV:W64 ys) (E:Int) (hE:prE xs ys=E) :
 Calls Tryz.prog 38 #[.slice a n c,.slice b m d] w fun r w'=>r=.returned (.int .i64 E)∧Below w.heap.size w w':=by
 unfold prE at hE;rw [←hn,←hm] at hE
 by_cases h1:65536<n
 · rw [if_pos (.inl h1)] at hE
   have d1:decide ((65536:Int)<(n:Nat))=true:=by simp;omega
   subst hE;clear hn hm hF hG hW hV;go_enter Tryz.func38,Tryz.ntmps38;go_wp2;go_ret;exact ⟨rfl,Below.refl _ _⟩
 · have d1:decide ((65536:Int)<(n:Nat))=false:=by simp;omega
   by_cases h2:65536<m
   · rw [if_pos (.inr h2)] at hE
     have d2:decide ((65536:Int)<(m:Nat))=true:=by simp;omega
     subst hE;clear hn hm hF hG hW hV;go_enter Tryz.func38,Tryz.ntmps38;go_wp2;go_ret;exact ⟨rfl,Below.refl _ _⟩
   · have d2:decide ((65536:Int)<(m:Nat))=false:=by simp;omega
     rw [if_neg (by omega)] at hE
     by_cases h3:n=m
     · subst h3
       rw [if_neg (by simp)] at hE
       have HPx:=hid (fun (u:World) (hb:Below w.heap.size w u)=>plain13 xs a n c u hn ((hF.below hb).mono hb.size) hW (by omega))
       have HPy:=hid (fun (u:World) (hb:Below w.heap.size w u)=>plain13 ys b n d u hm ((hG.below hb).mono hb.size) hV (by omega))
       obtain ⟨ex,hex⟩:∃ e,plE xs=e:=⟨_,rfl⟩;obtain ⟨ey,hey⟩:∃ e,plE ys=e:=⟨_,rfl⟩;obtain ⟨⟨x1,x2,x3,x4,x5,x6⟩,hsx⟩:∃ s,sS xs=s:=⟨_,rfl⟩;obtain ⟨⟨y1,y2,y3,y4,y5,y6⟩,hsy⟩:∃ s,sS ys=s:=⟨_,rfl⟩;rw [hex,hsx] at HPx;rw [hey,hsy] at HPy;rw [hex,hey] at hE;simp only [Sp.agg] at HPx HPy;have HE:=qsd hE;have HN:=qsd hn;have hn6:n≤65536:=by omega
       obtain ⟨W,hWW⟩:∃ W,W=w.alloc (Obj.cells #[.slice a n c,.slice b n d] 24):=⟨_,rfl⟩
       have B0:Aside (Bl W w.heap.size 24 [.slice a n c,.slice b n d]∧Below w.heap.size w W):=by
        rw [hWW];exact ⟨Bl.new _ 24 [_,_],bel_alloc _ _⟩
       have HWW:=qsd hWW;clear hn hm hF hG hW hV hex hey hsx hsy hE hWW h1 h2;go_enter Tryz.func38,Tryz.ntmps38;go_wp2;rw [←HWW.out];clear HWW
       go_loopg [28] 2 (fun gk i wr=>∃ k:Nat,gk+k=2∧i=.int .i64 (k:Nat)∧Aside (Bl wr w.heap.size 24 [.slice a n c,.slice b n d]∧Below w.heap.size w wr∧(1≤k→ex=0)∧(2≤k→ey=0)))
       case atStart=>exact ⟨0,by omega,by simp,B0.out.1,B0.out.2,fun h=>absurd h (by decide),fun h=>absurd h (by decide)⟩
       case round =>
        obtain ⟨k,hgk,rfl,HA⟩:=hrel;clear B0;obtain hk|hk|hk:k=0∨k=1∨k=2:=by omega
        · subst hk
          have c0:=HA.out.1.cell 0 _ rfl;have C:=hid (HPx.out wr HA.out.2.1);have HA2:=HA;clear HPy
          go_wp2_with fail
          refine C.out.mono ?_;rintro r v ⟨hr,hb⟩;have B1:Aside (Bl v w.heap.size 24 [.slice a n c,.slice b n d]∧Below w.heap.size w v):=⟨HA.out.1.below hb HA.out.1.lt,HA.out.2.1.trans (hb.mono HA.out.2.1.size)⟩;clear hb C
          rcases hr with ⟨he,rfl⟩|⟨he,rfl⟩
          · unfold agg0
            have q1:(ex==0)=false:=by simp [he]
            have HEE:Aside (ex=E):=by have:=HE.out;rw [if_pos he] at this;exact this
            clear he;go_wp2;go_ret;exact ⟨congrArg (fun z=>Ending.returned (Value.int .i64 z)) HEE.out,B1.out.2.trans ((bel_alloc _ _).mono B1.out.2.size)⟩
          · have H3:Aside (∀ (t1 t2 t3 t4 t5 t6:Int),Bl (v.alloc (Obj.cells #[.int .i64 t1,.int .i64 t2,.int .i64 t3,.int .i64 t4,.int .i64 t5,.int .i64 t6] 61)) w.heap.size 24 [.slice a n c,.slice b n d]∧Below w.heap.size w (v.alloc (Obj.cells #[.int .i64 t1,.int .i64 t2,.int .i64 t3,.int .i64 t4,.int .i64 t5,.int .i64 t6] 61))):=fun _ _ _ _ _ _=>⟨B1.out.1.alloc _,B1.out.2.trans ((bel_alloc _ _).mono B1.out.2.size)⟩
            have HK:Aside (ex=0):=he;clear he;go_wp2
            go_roundg (gk-1)
            case measure=>omega
            case rel=>exact ⟨1,by omega,by first | rfl | simp,(H3.out _ _ _ _ _ _).1,(H3.out _ _ _ _ _ _).2,fun _=>HK.out,fun h=>absurd h (by decide)⟩
        · subst hk
          have c1:=HA.out.1.cell 1 _ rfl;have C:=hid (HPy.out wr HA.out.2.1);have HA2:=HA;clear HPx
          go_wp2_with fail
          refine C.out.mono ?_;rintro r v ⟨hr,hb⟩;have B1:Aside (Bl v w.heap.size 24 [.slice a n c,.slice b n d]∧Below w.heap.size w v):=⟨HA.out.1.below hb HA.out.1.lt,HA.out.2.1.trans (hb.mono HA.out.2.1.size)⟩;clear hb C
          rcases hr with ⟨he,rfl⟩|⟨he,rfl⟩
          · unfold agg0
            have q1:(ey==0)=false:=by simp [he]
            have HEE:Aside (ey=E):=by have:=HE.out;rw [if_neg (by rw [HA.out.2.2.1 (by decide)];decide),if_pos he] at this;exact this
            clear he;go_wp2;go_ret;exact ⟨congrArg (fun z=>Ending.returned (Value.int .i64 z)) HEE.out,B1.out.2.trans ((bel_alloc _ _).mono B1.out.2.size)⟩
          · have H3:Aside (∀ (t1 t2 t3 t4 t5 t6:Int),Bl (v.alloc (Obj.cells #[.int .i64 t1,.int .i64 t2,.int .i64 t3,.int .i64 t4,.int .i64 t5,.int .i64 t6] 61)) w.heap.size 24 [.slice a n c,.slice b n d]∧Below w.heap.size w (v.alloc (Obj.cells #[.int .i64 t1,.int .i64 t2,.int .i64 t3,.int .i64 t4,.int .i64 t5,.int .i64 t6] 61))):=fun _ _ _ _ _ _=>⟨B1.out.1.alloc _,B1.out.2.trans ((bel_alloc _ _).mono B1.out.2.size)⟩
            have HK:Aside (ey=0):=he;clear he;go_wp2
            go_roundg (gk-1)
            case measure=>omega
            case rel=>exact ⟨2,by omega,by first | rfl | simp,(H3.out _ _ _ _ _ _).1,(H3.out _ _ _ _ _ _).2,HA2.out.2.2.1 ∘ (fun _=>by decide),fun _=>HK.out⟩
        · subst hk
          have z1:=HA.out.2.2.1 (by decide)
          have z2:=HA.out.2.2.2 (by decide)
          have hE:=HE.out;rw [if_neg (by simp [z1]),if_neg (by simp [z2])] at hE
          clear HPx HPy z1 z2
          by_cases hn0:n=0
          · have hx0:xs=[]:=List.eq_nil_of_length_eq_zero (by have:=HN.out;omega)
            rw [if_pos hx0] at hE;have d5:((n:Int)==0)=true:=by simp [hn0]
            have HEE:=qsd hE;clear hE HE HN hx0;go_wp2;go_ret;exact ⟨congrArg (fun z=>Ending.returned (Value.int .i64 z)) HEE.out,HA.out.2.1⟩
          · have hx0:xs≠[]:=by rintro rfl;have:=HN.out;simp at this;omega
            rw [if_neg hx0] at hE;have d5:((n:Int)==0)=false:=by simp [hn0]
            have HEE:=qsd hE;clear hE HE HN hx0;go_wp2;go_ret;exact ⟨congrArg (fun z=>Ending.returned (Value.int .i64 z)) HEE.out,HA.out.2.1⟩
     · rw [if_pos h3] at hE
       have d3:((n:Int)==(m:Int))=false:=by simp;omega
       subst hE;clear hn hm hF hG hW hV;go_enter Tryz.func38,Tryz.ntmps38;go_wp2;go_ret;exact ⟨rfl,Below.refl _ _⟩
end
end Go.Proofs.YtjldfhecnaiinabGreatDoor
