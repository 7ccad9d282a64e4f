import Derived.Test.YtaofncmoehebmaaDoorH27x
import Derived.Test.YtaofncmoehebmaaDoorD4x
set_option linter.unusedVariables false
set_option linter.unusedSimpArgs false
set_option maxHeartbeats 16000000
set_option maxRecDepth 20000
namespace Go.Proofs.YtaofncmoehebmaaDoor
namespace J
end J
section
open Go.RowKit J
attribute [local go_sem] st_float B.f64bits B.f64frombits
theorem Ldexp1000 (w:World):Calls Tryd.prog 5 #[.float .f64 4607182418800017408,.int .i64 1000] w fun r w'=>r=.returned (.float .f64 9110782046170513408)∧w'=w:=by
 have H:=hid (ldexp_pow10 1023 2023 1000 w (by decide) (by decide) (by decide) (by decide) (by decide) (by decide) (by decide))
 rw [show B.bw false 1023 0=4607182418800017408 by decide,show B.bw false 2023 0=9110782046170513408 by decide] at H
 go_enter Tryd.func5,Tryd.ntmps5
 go_wp2_with fail
 refine H.out.mono ?_;rintro r w1 ⟨rfl,rfl⟩;go_wp2;go_ret;exact ⟨rfl,rfl⟩
theorem bwT {x:Nat}(hx:x<18446744073709551616):∃ s e f,e<2048∧f<4503599627370496∧x=B.bw s e f∧magW x=B.bw false e f:=by
 have hm:magW x<9223372036854775808:=by unfold magW;omega
 refine ⟨negW x,magW x/4503599627370496,magW x%4503599627370496,by omega,by omega,?_,?_⟩
 · unfold B.bw negW magW at *
   by_cases h:9223372036854775808≤x
   · rw [decide_eq_true h];simp only [Bool.toNat_true];omega
   · rw [decide_eq_false h];simp only [Bool.toNat_false];omega
 · unfold B.bw
   simp only [Bool.toNat_false];omega
theorem absT {x:Nat}(hx:x<18446744073709551616) (w:World):Calls Tryd.prog 4 #[.float .f64 x] w fun r w'=>r=.returned (.float .f64 (magW x))∧w'=w:=by
 obtain ⟨s,e,f,h1,h2,h3,h4⟩:=bwT hx;have:=B.abs_any s e f h1 h2 w;rw [←h3,←h4] at this;exact this
def smT (x:Nat):Bool:=decide (magW x≤9110782046170513408)
theorem leT {m:Nat}(hm:m<9223372036854775808):(FloatKind.f64.format.order m 9110782046170513408==some .lt || FloatKind.f64.format.order m 9110782046170513408==some .eq)=decide (m≤9110782046170513408):=by
 by_cases hn:m≤9218868437227405312
 · have h1:=lt64 false false m 9110782046170513408 hn (by decide)
   have h2:=eq64 false false m 9110782046170513408 hn (by decide)
   have e:∀ k,k<9223372036854775808→wd64 false k=k:=fun k hk=>by unfold wd64;simp
   rw [e m hm,e _ (by decide)] at h1 h2
   rw [h1,h2];unfold sK;simp only [Bool.false_eq_true,if_false];rw [←Bool.decide_or];exact decide_eq_decide.2 (by omega)
 · have hmm:magW m=m:=by unfold magW;omega
   obtain ⟨s,t,hr⟩:=read_nanW m (by rw [hmm];omega)
   have ho:FloatKind.f64.format.order m 9110782046170513408=none:=by
    show Ieee.Datum.order (Ieee.double.read m) (Ieee.double.read 9110782046170513408)=none
    rw [hr];rfl
   rw [ho,decide_eq_false (by omega)]
   rfl
def kpT (zs:List Nat):List Nat:=4602678819172646912::zs.filter smT
theorem kpT_take {zs:List Nat}{k:Nat}(h:k<zs.length):kpT (zs.take (k+1))=if smT (zs.getD k 0) then kpT (zs.take k)++[zs.getD k 0] else kpT (zs.take k):=by
 unfold kpT;rw [take_snocT zs k h,List.filter_append];generalize zs.getD k 0=y
 cases hs:smT y <;> simp [hs]
theorem kpT_len (zs:List Nat):(kpT zs).length≤zs.length+1:=by
 unfold kpT;rw [List.length_cons];have:=List.length_filter_le smT zs;omega
theorem kpT_mem {zs:List Nat}(hW:W64 zs) {x:Nat}(hx:x ∈ kpT zs):x<18446744073709551616∧magW x≤9110782046170513408:=by
 unfold kpT at hx
 rcases List.mem_cons.1 hx with rfl|h
 · decide
 · obtain ⟨h1,h2⟩:=List.mem_filter.1 h
   exact ⟨hW x h1,of_decide_eq_true h2⟩
theorem pairs_all {zs:List Nat}(hW:W64 zs) (hl:zs.length≤4096) {K:List Nat}(hK:K=kpT zs) :
 (∀ k,k≤K.length→Wd (stF (K.take k)).1∧FinL (stF (K.take k)).2∧(stF (K.take k)).2.length=k)∧(stF K).1=runF K ∧
 vS ((stF K).2++[(stF K).1])=vS K∧((sS ((stF K).2++[(stF K).1])).n=0∧(sS ((stF K).2++[(stF K).1])).u=0∧(sS ((stF K).2++[(stF K).1])).d=0)∧((sS K).n=0∧(sS K).u=0∧(sS K).d=0):=by
 have hm:∀ x ∈ K,x<18446744073709551616∧magW x≤9110782046170513408:=fun x hx=>kpT_mem hW (by rw [←hK];exact hx)
 have hF:FinL K:=fun x hx=>⟨(hm x hx).1,by show magW x<_;have:=(hm x hx).2;omega⟩
 have hlen:K.length≤8000:=by rw [hK];have:=kpT_len zs;omega
 have hpos:0<K.length:=by rw [hK];unfold kpT;simp
 obtain ⟨e,he⟩:∃ e:Nat,e=2044:=⟨_,rfl⟩;obtain ⟨j,hj⟩:∃ e:Nat,e=1074:=⟨_,rfl⟩
 have hG:4503599627370496*2^e≤QQ:=by
  rw [Q_eq,show (4503599627370496:Nat)=2^52 by decide,←Nat.pow_add]
  exact Nat.pow_le_pow_right (by decide) (by have:EQ=2096:=rfl;omega)
 have hMv:vK 9110782046170513408=1073741824*2^e:=by subst he;decide +kernel
 have hM:8192*(vK 9110782046170513408+2^e)≤4503599627370496*2^e:=by rw [hMv];have:=Nat.two_pow_pos e;omega
 have hb:∀ x ∈ K,(fvW x).natAbs≤vK 9110782046170513408:=fun x hx=>by
  have h1:(fvW x).natAbs=vK (magW x):=by unfold fvW B.sg;cases negW x <;> simp
  rw [h1]
  rcases Nat.lt_or_ge (magW x) 9110782046170513408 with q|q
  · exact Nat.le_of_lt (vK_lt.2 q)
  · rw [show magW x=9110782046170513408 by have:=(hm x hx).2;omega];exact Nat.le_refl _
 have S:=st_ok (2^e) (vK 9110782046170513408) hG hM K hF hb hlen;have SK:=S K.length (Nat.le_refl _);rw [List.take_length] at SK;refine ⟨fun k hk=>⟨(S k hk).w,(S k hk).fl,by rw [(S k hk).len,List.length_take];omega⟩,?_,?_,?_,(vS_all j hj K hF).2⟩
 · have h0:K.getD 0 0=4602678819172646912:=by rw [hK];rfl
   have:=st_run K h0 hpos (K.length-1) (by omega)
   rw [show K.length-1+1=K.length by omega,List.take_length] at this
   exact this
 · have hF2:FinL ((stF K).2++[(stF K).1]):=SK.fl.append (fun y hy=>by rw [List.mem_singleton.1 hy];exact ⟨SK.w,SK.f⟩)
   rw [(vS_all j hj _ hF2).1,(vS_all j hj K hF).1,fvL_append,fvL_one]
   congr 1
   have:=SK.val;omega
 · have hF2:FinL ((stF K).2++[(stF K).1]):=SK.fl.append (fun y hy=>by rw [List.mem_singleton.1 hy];exact ⟨SK.w,SK.f⟩)
   exact (vS_all j hj _ hF2).2
theorem vS_snocT (L:List Nat) (x:Nat):vS (L++[x])=vS L+pT x 4607182418800017408∧sS (L++[x])=(sS L).cnt (pK x 4607182418800017408) 1:=by
 unfold vS sS;rw [List.foldl_append,List.foldl_append];exact ⟨rfl,rfl⟩
theorem addT (L:List Nat) (x g:Nat) (w:World) (hA:Acc7 w g (vS L) (sS L)) (hW:W64 L) (hx:x<18446744073709551616) (hl:L.length≤60000) :
 Calls Tryd.prog 8 #[.pointer (some ⟨g,0,none⟩),.float .f64 x] w (Did g w (0,vS (L++[x]),sS (L++[x]))):=by
 obtain ⟨p1,p2⟩:=sS_pos L L.length (Nat.le_refl _);obtain ⟨v1,v2⟩:=vS_bound L hW L.length (Nat.le_refl _);rw [List.take_length] at p1 p2 v1 v2;have hsm:=pT_small x 4607182418800017408 hx (by decide)
 have hkq:L.length*QB≤65536*QB:=Nat.mul_le_mul_right _ (by omega)
 have hQ:=QB_HB;have hqp:=QB_pos;have C:=Add7 g (vS L) (sS L) x w hA (p1.ok (by omega)) hx
 rw [put_ok _ _ _ _ (by omega) (by omega) (by omega)] at C
 rw [(vS_snocT L x).1,(vS_snocT L x).2];exact C
theorem fs_takeT {B:Nat}{w:World}{a:Option Addr}{xs:List Nat}(h:Fs B w a xs) (k:Nat):Fs B w a (xs.take k):=by
 intro hne;obtain ⟨b,off,h1,h2,h3⟩:=h (by rintro rfl;simp at hne)
 refine ⟨b,off,h1,h2,fun i hi=>?_⟩
 rw [List.length_take] at hi;rw [h3 i (by omega),List.getD_eq_getElem?_getD,List.getD_eq_getElem?_getD,List.getElem?_take,if_pos (by omega)]
theorem walk2_TopPairs (a1:Option Addr) (n1 c1:Nat) (xs:List Nat) (mode:Int) (w:World) (hT:Tab w) (hC:CameF w a1 n1 c1 xs) (hm1:n1≤17592186043904) :
 Calls Tryd.prog 3 #[.slice a1 n1 c1,.int .i64 mode] w fun r w'=>r=.returned (.bool true)∧Below w.heap.size w w':=by
 obtain ⟨hl1,hcap1,hW1,hF1,hnil1⟩:=hC;obtain ⟨zs,hzs⟩:∃ zs,zs=xs.take 4096:=⟨_,rfl⟩;have hzl:zs.length=min 4096 n1:=by rw [hzs,List.length_take,hl1]
 have hzW:W64 zs:=fun x hx=>hW1 x (by rw [hzs] at hx;exact List.mem_of_mem_take hx)
 have hzF:Fs w.heap.size w a1 zs:=by rw [hzs];exact fs_takeT hF1 4096
 obtain ⟨K,hK⟩:∃ K,K=kpT zs:=⟨_,rfl⟩;have hall:=pairs_all hzW (by omega) hK
 have hKl:K.length≤4097:=by rw [hK];have:=kpT_len zs;omega
 have hKW:W64 K:=fun x hx=>(kpT_mem hzW (by rw [←hK];exact hx)).1
 have HX:=(qsd (ai hzl (ai hzW (ai hzF (ai hK (ai hKl (ai hKW (ai hT hall))))))));have HC1:=qsd hcap1;have z0:(FloatKind.f64.format.order 0 0==some .eq)=true:=by decide +kernel
 have z1:(FloatKind.f64.format.order 9223372036854775808 0==some .eq)=true:=by decide +kernel
 have z0':FloatKind.f64.format.order 0 0=some .eq:=by decide +kernel
 have z1':FloatKind.f64.format.order 9223372036854775808 0=some .eq:=by decide +kernel
 have hn1b:n1<4611686018427387904:=by omega
 clear hl1 hcap1 hW1 hF1 hnil1 hzs hzl hzW hzF hK hall hKl hKW hT hm1
 by_cases hbad:mode<0
 · have d1:decide (mode<0)=true:=by simp [hbad]
   by_cases h3:4096<n1
   · have d3:decide ((4096:Int)<(n1:Nat))=true:=by simp;omega
     have hle:4096≤c1:=by have:=HC1.out;omega
     go_enter Tryd.func3,Tryd.ntmps3;have HZ:Aside (zs.length=4096):=by have:=HX.out.1;first | exact this | (show zs.length=_;omega)
     have hM0:(0:Int)≤0:=by omega
     have hM4:0≤(4:Int):=by omega
     have O0:Aside (Rf w.heap.size (w.alloc (Obj.cells #[.float .f64 4602678819172646912] 23)) (.slice (some ⟨w.heap.size,0,none⟩) 1 1) (kpT (zs.take 0))∧Below w.heap.size w (w.alloc (Obj.cells #[.float .f64 4602678819172646912] 23))) :=
      ⟨⟨rfl,.inr ⟨w.heap.size,1,#[.float .f64 4602678819172646912],rfl,Nat.le_refl _,heap_alloc_new w _,Nat.le_refl _,by decide,rfl,rfl⟩⟩,(Below.refl _ _).alloc (Nat.le_refl _) _⟩
     go_wp2
     go_loopg [5,31] 4096 (fun gk kv iv wr=>∃ (k:Nat) (v:Value),gk+k=4096∧iv=.int .i64 (k:Nat)∧kv=v∧Aside (Rf w.heap.size wr v (kpT (zs.take k))∧Below w.heap.size w wr))
     case atStart=>exact ⟨0,_,by omega,by simp,rfl,O0.out⟩
     case round =>
      clear O0;obtain ⟨k,v,hgk,rfl,hv,HA⟩:=hrel;have hv':=hv.symm;clear hv;subst hv'
      by_cases hk:k<4096
      · have hkz:k<zs.length:=by rw [HZ.out];exact hk
        obtain ⟨b,off,rfl,hc⟩:=HX.out.2.2.1.at HA.out.2 k hkz;obtain ⟨x,hx⟩:∃ x,x=zs.getD k 0:=⟨_,rfl⟩;rw [←hx] at hc;have hx64:x<18446744073709551616:=by rw [hx];exact HX.out.2.1.get k
        have CA:=hid (fun u:World=>absT hx64 u)
        have CL:=hid (fun u:World=>Ldexp1000 u)
        have hd:decide ((k:Int)<(4096:Nat))=true:=by simp;omega
        have hle:=leT (m:=magW x) (by unfold magW;omega)
        have hkt:=kpT_take hkz;rw [←hx] at hkt;have hkb:k<4611686018427387904:=by omega
        obtain ⟨mx,hmx⟩:∃ m,m=magW x:=⟨_,rfl⟩;rw [←hmx] at CA hle
        cases hs:smT x
        · rw [hs,if_neg (by decide)] at hkt
          have hle2:(FloatKind.f64.format.order mx 9110782046170513408==some .lt || FloatKind.f64.format.order mx 9110782046170513408==some .eq)=false:=by
           rw [hle,hmx];exact hs
          have HN:Aside (Rf w.heap.size wr v (kpT (zs.take (k+1)))∧Below w.heap.size w wr):=by rw [hkt];exact HA.out
          clear hle hkt hs hx hmx HA hkz
          go_wp2_with (first | (go_at_call 4;refine (CA.out _).mono ?_;rintro r u1 ⟨rfl,hu⟩;rw [hu];clear hu) | (go_at_call 5;refine (CL.out _).mono ?_;rintro r u1 ⟨rfl,hu⟩;rw [hu];clear hu))
          go_roundg (gk-1)
          case measure=>omega
          case rel=>exact ⟨k+1,_,by omega,by first | rfl | simp,rfl,HN.out⟩
        · rw [hs,if_pos rfl] at hkt
          have hle2:(FloatKind.f64.format.order mx 9110782046170513408==some .lt || FloatKind.f64.format.order mx 9110782046170513408==some .eq)=true:=by
           rw [hle,hmx];exact hs
          obtain ⟨v2,W2,hrun0,hO2,hg2,hb2⟩:=append_flts (wr.alloc (Obj.cells #[.float .f64 x] 23)) w.heap.size v (kpT (zs.take k)) [x] (some ⟨wr.heap.size,0,none⟩) 1 1 22 (HA.out.1.alloc _) rfl
           (fun _=>⟨wr.heap.size,0,rfl,fun i hi=>by
            obtain rfl:i=0:=by simp at hi;omega
            unfold World.cell?;simp only [heap_alloc_new];rfl⟩) (by simp) (by have:=kpT_len (zs.take k);rw [List.length_take] at this;omega) (by have:=HA.out.2.size;simp;omega)
          have HN:Aside (Rf w.heap.size W2 v2 (kpT (zs.take (k+1)))∧Below w.heap.size w W2):=by
           rw [hkt];exact ⟨hO2,(HA.out.2.alloc HA.out.2.size _).grown hg2 (by have:=HA.out.2.size;simp;omega) (fun k e=>(HA.out.1.lt k e).1)⟩
          have HJ:=qsd hrun0;clear hle hkt hs hx hmx HA hkz hrun0 hO2 hg2 hb2
          go_wp2_with (first | (go_at_call 4;refine (CA.out _).mono ?_;rintro r u1 ⟨rfl,hu⟩;rw [hu];clear hu) | (go_at_call 5;refine (CL.out _).mono ?_;rintro r u1 ⟨rfl,hu⟩;rw [hu];clear hu) | (at_builtin;refine wpList_append_flt rfl _ _ rfl _ _ rfl rfl v2 W2 HJ.out ?_))
          go_roundg (gk-1)
          case measure=>omega
          case rel=>exact ⟨k+1,_,by omega,by first | rfl | simp,rfl,HN.out⟩
      · obtain rfl:k=4096:=by omega
        have hd:decide (((4096:Nat):Int)<(4096:Nat))=false:=by simp
        obtain ⟨Wk,hWk⟩:∃ W,W=wr:=⟨_,rfl⟩;subst hWk;obtain ⟨ao,co,rfl,hco⟩:=HA.out.1.shape0
        have P1:Aside (Fs Wk.heap.size Wk ao K∧Below w.heap.size w Wk):=by
         have h:=HA.out.1.fs;rw [show zs.take 4096=zs from List.take_of_length_le (by rw [HZ.out];exact Nat.le_refl _),←HX.out.2.2.2.1] at h
         exact ⟨h,HA.out.2⟩
        have hKe:(kpT (zs.take 4096)).length=K.length:=by rw [show zs.take 4096=zs from List.take_of_length_le (by rw [HZ.out];exact Nat.le_refl _),←HX.out.2.2.2.1]
        rw [hKe] at hco ⊢;clear HA hKe;obtain ⟨N,hN⟩:∃ N,N=K.length:=⟨_,rfl⟩;rw [←hN] at hco ⊢;have HN:=qsd hN;have hNb:N<4611686018427387904:=by have:=HX.out.2.2.2.2.1;omega
        clear hN
        go_wp2_with fail
        refine (New7 _).mono ?_;rintro r u5 ⟨rfl,hA,hb⟩;obtain ⟨g,hg⟩:∃ g,g=Wk.heap.size:=⟨_,rfl⟩;rw [←hg] at hA ⊢;have P5:Aside (Acc7 u5 g 0 ⟨0,0,0,0,0,0⟩∧Below Wk.heap.size Wk u5∧Wk.heap.size≤g):=⟨hA,hb,by rw [hg];exact Nat.le_refl _⟩
        clear hb hA hg;go_wp2
        go_loopg [9,49] N (fun gk sv iv wr=>∃ (k:Nat),gk+k=N∧iv=.int .i64 (k:Nat)∧sv=.float .f64 (stF (K.take k)).1∧Aside (Acc7 wr g (vS (stF (K.take k)).2) (sS (stF (K.take k)).2)∧Below Wk.heap.size Wk wr))
        case atStart=>exact ⟨0,by omega,by simp,by simp [stF],by simpa [vS,sS,stF] using P5.out.1,P5.out.2.1⟩
        case round =>
         obtain ⟨k,hgk,rfl,rfl,HA⟩:=hrel;have HG:=qsd P5.out.2.2;clear P5
         by_cases hk:k<N
         · have hkK:k<K.length:=by rw [←HN.out];exact hk
           obtain ⟨b,off,rfl,hc⟩:=P1.out.1.at HA.out.2 k hkK;obtain ⟨x,hx⟩:∃ x,x=K.getD k 0:=⟨_,rfl⟩;rw [←hx] at hc;obtain ⟨s,hs⟩:∃ s,s=(stF (K.take k)).1:=⟨_,rfl⟩;rw [←hs];obtain ⟨q1,q2,q3⟩:=HX.out.2.2.2.2.2.2.2.1 k (by omega)
           obtain ⟨_,r2,_⟩:=HX.out.2.2.2.2.2.2.2.1 (k+1) (by omega)
           have est:=stF_snoc (K.take k) x;rw [hx,←take_snocT K k hkK,←hx,←hs] at est;obtain ⟨hi,hhi⟩:∃ z,z=(sumP s x).1:=⟨_,rfl⟩;obtain ⟨lo,hlo⟩:∃ z,z=(sumP s x).2:=⟨_,rfl⟩;rw [←hhi,←hlo] at est
           have hlo64:lo<18446744073709551616:=by
            have:lo ∈ (stF (K.take (k+1))).2:=by rw [est];simp
            exact (r2 lo this).1
           have CS:=hid (fun u:World=>Sum_all s x u)
           rw [←hhi,←hlo] at CS;have HQ:=(qsd (ai q2 (ai q3 (ai hlo64 est))));have hd:decide ((k:Int)<(N:Nat))=true:=by simp;omega
           have hkb:k<4611686018427387904:=by omega
           clear q1 q2 q3 r2 est hhi hlo hlo64 hx hs hkK
           go_wp2_with fail
           refine (CS.out _).mono ?_;rintro r u6 ⟨rfl,hb⟩;have C:=hid (addT (stF (K.take k)).2 lo g (u6.alloc (Obj.cells #[.float .f64 hi,.float .f64 lo] 29)) ((HA.out.1.below hb HA.out.1.lt).below (below_alloc _ _) (Nat.lt_of_lt_of_le HA.out.1.lt hb.size)) (fun y hy=>(HQ.out.1 y hy).1) HQ.out.2.2.1 (by rw [HQ.out.2.1];have:=HX.out.2.2.2.2.1;have:=HN.out;omega))
           have B6:Aside (Below Wk.heap.size Wk (u6.alloc (Obj.cells #[.float .f64 hi,.float .f64 lo] 29))):=(HA.out.2.trans (hb.mono HA.out.2.size)).trans ((below_alloc _ _).mono (HA.out.2.trans (hb.mono HA.out.2.size)).size);clear hb CS HA
           go_wp2_with fail
           refine C.out.mono ?_;rintro r u7 ⟨rfl,hA3,hbut⟩
           have H3:Aside (Acc7 u7 g (vS (stF (K.take (k+1))).2) (sS (stF (K.take (k+1))).2)∧Below Wk.heap.size Wk u7):=by
            rw [HQ.out.2.2.2];exact ⟨hA3,But.below B6.out hbut B6.out.size HG.out⟩
           have HS:Aside ((stF (K.take (k+1))).1=hi):=by rw [HQ.out.2.2.2];rfl
           clear hA3 hbut C B6;go_wp2
           go_roundg (gk-1)
           case measure=>omega
           case rel=>exact ⟨k+1,by omega,by first | rfl | simp,by rw [HS.out],H3.out⟩
         · obtain rfl:N=k:=by omega
           have hd:decide ((N:Int)<(N:Nat))=false:=by simp
           have eK:K.take N=K:=List.take_of_length_le (by rw [HN.out];exact Nat.le_refl _)
           rw [eK] at HA ⊢;obtain ⟨q1,q2,q3⟩:=HX.out.2.2.2.2.2.2.2.1 N (by rw [HN.out];exact Nat.le_refl _)
           rw [eK] at q1 q2 q3;obtain ⟨s,hs⟩:∃ s,s=(stF K).1:=⟨_,rfl⟩;obtain ⟨Ls,hLs⟩:∃ L,L=(stF K).2:=⟨_,rfl⟩;obtain ⟨_,e1,e2,e3,e4⟩:=HX.out.2.2.2.2.2.2.2;rw [←hs] at e1 e2 e3 q1 ⊢;rw [←hLs] at HA e2 e3 q2 q3;have hbd:=vS_bound K HX.out.2.2.2.2.2.1 K.length (Nat.le_refl _);rw [List.take_length] at hbd
           have hHB:-(HB:Int)<vS K∧vS K<(HB:Int):=by
            have h3:K.length*QB≤65536*QB:=Nat.mul_le_mul_right _ (by have:=HX.out.2.2.2.2.1;omega)
            have h4:=QB_HB;have h5:=QB_pos;omega
           obtain ⟨d1,d2,d3⟩:=rd_same (mode:=0) hHB.1 hHB.2 e3 e4 hM0 hM4;obtain ⟨p1,p2⟩:=sS_pos (Ls++[s]) (Ls++[s]).length (Nat.le_refl _);rw [List.take_length] at p1 p2;have hok:(sS (Ls++[s])).ok:=p1.ok (by rw [p2,List.length_append,q3];have:=HX.out.2.2.2.2.1;have:=HN.out;simp;omega)
           have CA:=hid (addT Ls s g wr HA.out.1 (fun y hy=>(q2 y hy).1) q1 (by rw [q3];have:=HX.out.2.2.2.2.1;have:=HN.out;omega))
           have CR:=hid (fun (u:World) (hb:Below Wk.heap.size Wk u)=>Running10 K ao N co u HN.out ((P1.out.1.below hb).mono hb.size) HX.out.2.2.2.2.2.1 hco (by omega))
           rw [←e1] at CR;have CQ:=hid (fun (u:World) (hA:Acc7 u g (vS (Ls++[s])) (sS (Ls++[s]))) (hT:Tab u)=>Round10 g (vS (Ls++[s])) (sS (Ls++[s])) 0 0 0 u hA hok hT hM0 hM4 (by decide))
           have CE:=hid (fun (u:World) (hb:Below Wk.heap.size Wk u) (hT:Tab u)=>Exact10_any K ao N co 0 0 0 u HN.out ((P1.out.1.below hb).mono hb.size) HX.out.2.2.2.2.2.1 hT hM0 hM4 (by decide) (by have:=HX.out.2.2.2.2.1;have:=HN.out;omega))
           have CQ2:Hid (∀ (u:World) (hA:Acc7 u g (vS (Ls++[s])) (sS (Ls++[s]))) (hT:Tab u),Calls Tryd.prog 11 #[.pointer (some ⟨g,0,none⟩),.int .i64 0,.agg #[.int .i64 0,.int .i64 0]] u fun r w'=>r=.returned (.tuple #[.float .f64 (rd10 (vS K) (sS (Ls++[s])) 0 0 0).1,.int .i64 (rd10 (vS K) (sS (Ls++[s])) 0 0 0).2])∧Below u.heap.size u w'):=by
            intro u hA hT;have:=CQ.out u hA hT;rw [e2] at this;exact this
           obtain ⟨X,hX⟩:∃ X,X=(rd10 (vS K) (sS (Ls++[s])) 0 0 0).1:=⟨_,rfl⟩;obtain ⟨Y,hY⟩:∃ Y,Y=(rd10 (vS K) (sS K) 0 0 0).1:=⟨_,rfl⟩;rw [d1,←hX] at CQ2;rw [d2,←hY] at CE;rw [←hX,←hY] at d3;have HD:=qsd d3;have BA:=qsd HA.out.2;have HTb:=qsd (fun (u:World) (hb:Below Wk.heap.size Wk u)=>HX.out.2.2.2.2.2.2.1.belows (P1.out.2.trans (hb.mono P1.out.2.size)))
           clear CQ d1 d2 d3 hX hY e1 e2 e3 e4 q1 q2 q3 hbd hHB p1 p2 hok eK hs hLs HA
           go_wp2_with fail
           refine CA.out.mono ?_;rintro r u8 ⟨rfl,hA8,hbut⟩;have B8:=(qsd (ai hA8 ((But.below BA.out hbut BA.out.size HG.out))));clear hA8 hbut CA BA;have C:=hid (CR.out u8 B8.out.2);clear CR
           go_wp2_with (go_at_call 10;refine C.out.mono ?_;rintro r u9 ⟨rfl,hb⟩;have B9:=(qsd (ai ((B8.out.1.below hb B8.out.1.lt)) ((B8.out.2.trans (hb.mono B8.out.2.size)))));clear hb)
           have C2:=hid (CQ2.out u9 B9.out.1 (HTb.out u9 B9.out.2));clear CQ2;refine C2.out.mono ?_;rintro r v1 ⟨rfl,hb⟩;have B10:=qsd (B9.out.2.trans (hb.mono B9.out.2.size));clear hb C2;have C3:=hid (CE.out v1 B10.out (HTb.out v1 B10.out));clear CE
           go_wp2_with fail
           refine C3.out.mono ?_;rintro r v2 ⟨rfl,hb⟩;have B11:=qsd (P1.out.2.trans ((B10.out.trans (hb.mono B10.out.size)).mono P1.out.2.size));clear hb C3
           rcases HD.out with e|⟨e|e,f|f⟩
           · rw [e]
             go_wp2;go_ret;exact ⟨rfl,B11.out⟩
           · rw [e,f]
             go_wp2;go_ret;exact ⟨rfl,B11.out⟩
           · rw [e,f]
             go_wp2;go_ret;exact ⟨rfl,B11.out⟩
           · rw [e,f]
             go_wp2;go_ret;exact ⟨rfl,B11.out⟩
           · rw [e,f]
             go_wp2;go_ret;exact ⟨rfl,B11.out⟩
   · have d3:decide ((4096:Int)<(n1:Nat))=false:=by simp;omega
     go_enter Tryd.func3,Tryd.ntmps3;have HZ:Aside (zs.length=n1):=by have:=HX.out.1;first | exact this | (show zs.length=_;omega)
     have hM0:(0:Int)≤0:=by omega
     have hM4:0≤(4:Int):=by omega
     have O0:Aside (Rf w.heap.size (w.alloc (Obj.cells #[.float .f64 4602678819172646912] 23)) (.slice (some ⟨w.heap.size,0,none⟩) 1 1) (kpT (zs.take 0))∧Below w.heap.size w (w.alloc (Obj.cells #[.float .f64 4602678819172646912] 23))) :=
      ⟨⟨rfl,.inr ⟨w.heap.size,1,#[.float .f64 4602678819172646912],rfl,Nat.le_refl _,heap_alloc_new w _,Nat.le_refl _,by decide,rfl,rfl⟩⟩,(Below.refl _ _).alloc (Nat.le_refl _) _⟩
     go_wp2
     go_loopg [5,31] n1 (fun gk kv iv wr=>∃ (k:Nat) (v:Value),gk+k=n1∧iv=.int .i64 (k:Nat)∧kv=v∧Aside (Rf w.heap.size wr v (kpT (zs.take k))∧Below w.heap.size w wr))
     case atStart=>exact ⟨0,_,by omega,by simp,rfl,O0.out⟩
     case round =>
      clear O0;obtain ⟨k,v,hgk,rfl,hv,HA⟩:=hrel;have hv':=hv.symm;clear hv;subst hv'
      by_cases hk:k<n1
      · have hkz:k<zs.length:=by rw [HZ.out];exact hk
        obtain ⟨b,off,rfl,hc⟩:=HX.out.2.2.1.at HA.out.2 k hkz;obtain ⟨x,hx⟩:∃ x,x=zs.getD k 0:=⟨_,rfl⟩;rw [←hx] at hc;have hx64:x<18446744073709551616:=by rw [hx];exact HX.out.2.1.get k
        have CA:=hid (fun u:World=>absT hx64 u)
        have CL:=hid (fun u:World=>Ldexp1000 u)
        have hd:decide ((k:Int)<(n1:Nat))=true:=by simp;omega
        have hle:=leT (m:=magW x) (by unfold magW;omega)
        have hkt:=kpT_take hkz;rw [←hx] at hkt;have hkb:k<4611686018427387904:=by omega
        obtain ⟨mx,hmx⟩:∃ m,m=magW x:=⟨_,rfl⟩;rw [←hmx] at CA hle
        cases hs:smT x
        · rw [hs,if_neg (by decide)] at hkt
          have hle2:(FloatKind.f64.format.order mx 9110782046170513408==some .lt || FloatKind.f64.format.order mx 9110782046170513408==some .eq)=false:=by
           rw [hle,hmx];exact hs
          have HN:Aside (Rf w.heap.size wr v (kpT (zs.take (k+1)))∧Below w.heap.size w wr):=by rw [hkt];exact HA.out
          clear hle hkt hs hx hmx HA hkz
          go_wp2_with (first | (go_at_call 4;refine (CA.out _).mono ?_;rintro r u1 ⟨rfl,hu⟩;rw [hu];clear hu) | (go_at_call 5;refine (CL.out _).mono ?_;rintro r u1 ⟨rfl,hu⟩;rw [hu];clear hu))
          go_roundg (gk-1)
          case measure=>omega
          case rel=>exact ⟨k+1,_,by omega,by first | rfl | simp,rfl,HN.out⟩
        · rw [hs,if_pos rfl] at hkt
          have hle2:(FloatKind.f64.format.order mx 9110782046170513408==some .lt || FloatKind.f64.format.order mx 9110782046170513408==some .eq)=true:=by
           rw [hle,hmx];exact hs
          obtain ⟨v2,W2,hrun0,hO2,hg2,hb2⟩:=append_flts (wr.alloc (Obj.cells #[.float .f64 x] 23)) w.heap.size v (kpT (zs.take k)) [x] (some ⟨wr.heap.size,0,none⟩) 1 1 22 (HA.out.1.alloc _) rfl
           (fun _=>⟨wr.heap.size,0,rfl,fun i hi=>by
            obtain rfl:i=0:=by simp at hi;omega
            unfold World.cell?;simp only [heap_alloc_new];rfl⟩) (by simp) (by have:=kpT_len (zs.take k);rw [List.length_take] at this;omega) (by have:=HA.out.2.size;simp;omega)
          have HN:Aside (Rf w.heap.size W2 v2 (kpT (zs.take (k+1)))∧Below w.heap.size w W2):=by
           rw [hkt];exact ⟨hO2,(HA.out.2.alloc HA.out.2.size _).grown hg2 (by have:=HA.out.2.size;simp;omega) (fun k e=>(HA.out.1.lt k e).1)⟩
          have HJ:=qsd hrun0;clear hle hkt hs hx hmx HA hkz hrun0 hO2 hg2 hb2
          go_wp2_with (first | (go_at_call 4;refine (CA.out _).mono ?_;rintro r u1 ⟨rfl,hu⟩;rw [hu];clear hu) | (go_at_call 5;refine (CL.out _).mono ?_;rintro r u1 ⟨rfl,hu⟩;rw [hu];clear hu) | (at_builtin;refine wpList_append_flt rfl _ _ rfl _ _ rfl rfl v2 W2 HJ.out ?_))
          go_roundg (gk-1)
          case measure=>omega
          case rel=>exact ⟨k+1,_,by omega,by first | rfl | simp,rfl,HN.out⟩
      · obtain rfl:n1=k:=by omega
        have hd:decide (((n1:Nat):Int)<(n1:Nat))=false:=by simp
        obtain ⟨Wk,hWk⟩:∃ W,W=wr:=⟨_,rfl⟩;subst hWk;obtain ⟨ao,co,rfl,hco⟩:=HA.out.1.shape0
        have P1:Aside (Fs Wk.heap.size Wk ao K∧Below w.heap.size w Wk):=by
         have h:=HA.out.1.fs;rw [show zs.take n1=zs from List.take_of_length_le (by rw [HZ.out];exact Nat.le_refl _),←HX.out.2.2.2.1] at h
         exact ⟨h,HA.out.2⟩
        have hKe:(kpT (zs.take n1)).length=K.length:=by rw [show zs.take n1=zs from List.take_of_length_le (by rw [HZ.out];exact Nat.le_refl _),←HX.out.2.2.2.1]
        rw [hKe] at hco ⊢;clear HA hKe;obtain ⟨N,hN⟩:∃ N,N=K.length:=⟨_,rfl⟩;rw [←hN] at hco ⊢;have HN:=qsd hN;have hNb:N<4611686018427387904:=by have:=HX.out.2.2.2.2.1;omega
        clear hN
        go_wp2_with fail
        refine (New7 _).mono ?_;rintro r u5 ⟨rfl,hA,hb⟩;obtain ⟨g,hg⟩:∃ g,g=Wk.heap.size:=⟨_,rfl⟩;rw [←hg] at hA ⊢;have P5:Aside (Acc7 u5 g 0 ⟨0,0,0,0,0,0⟩∧Below Wk.heap.size Wk u5∧Wk.heap.size≤g):=⟨hA,hb,by rw [hg];exact Nat.le_refl _⟩
        clear hb hA hg;go_wp2
        go_loopg [9,49] N (fun gk sv iv wr=>∃ (k:Nat),gk+k=N∧iv=.int .i64 (k:Nat)∧sv=.float .f64 (stF (K.take k)).1∧Aside (Acc7 wr g (vS (stF (K.take k)).2) (sS (stF (K.take k)).2)∧Below Wk.heap.size Wk wr))
        case atStart=>exact ⟨0,by omega,by simp,by simp [stF],by simpa [vS,sS,stF] using P5.out.1,P5.out.2.1⟩
        case round =>
         obtain ⟨k,hgk,rfl,rfl,HA⟩:=hrel;have HG:=qsd P5.out.2.2;clear P5
         by_cases hk:k<N
         · have hkK:k<K.length:=by rw [←HN.out];exact hk
           obtain ⟨b,off,rfl,hc⟩:=P1.out.1.at HA.out.2 k hkK;obtain ⟨x,hx⟩:∃ x,x=K.getD k 0:=⟨_,rfl⟩;rw [←hx] at hc;obtain ⟨s,hs⟩:∃ s,s=(stF (K.take k)).1:=⟨_,rfl⟩;rw [←hs];obtain ⟨q1,q2,q3⟩:=HX.out.2.2.2.2.2.2.2.1 k (by omega)
           obtain ⟨_,r2,_⟩:=HX.out.2.2.2.2.2.2.2.1 (k+1) (by omega)
           have est:=stF_snoc (K.take k) x;rw [hx,←take_snocT K k hkK,←hx,←hs] at est;obtain ⟨hi,hhi⟩:∃ z,z=(sumP s x).1:=⟨_,rfl⟩;obtain ⟨lo,hlo⟩:∃ z,z=(sumP s x).2:=⟨_,rfl⟩;rw [←hhi,←hlo] at est
           have hlo64:lo<18446744073709551616:=by
            have:lo ∈ (stF (K.take (k+1))).2:=by rw [est];simp
            exact (r2 lo this).1
           have CS:=hid (fun u:World=>Sum_all s x u)
           rw [←hhi,←hlo] at CS;have HQ:=(qsd (ai q2 (ai q3 (ai hlo64 est))));have hd:decide ((k:Int)<(N:Nat))=true:=by simp;omega
           have hkb:k<4611686018427387904:=by omega
           clear q1 q2 q3 r2 est hhi hlo hlo64 hx hs hkK
           go_wp2_with fail
           refine (CS.out _).mono ?_;rintro r u6 ⟨rfl,hb⟩;have C:=hid (addT (stF (K.take k)).2 lo g (u6.alloc (Obj.cells #[.float .f64 hi,.float .f64 lo] 29)) ((HA.out.1.below hb HA.out.1.lt).below (below_alloc _ _) (Nat.lt_of_lt_of_le HA.out.1.lt hb.size)) (fun y hy=>(HQ.out.1 y hy).1) HQ.out.2.2.1 (by rw [HQ.out.2.1];have:=HX.out.2.2.2.2.1;have:=HN.out;omega))
           have B6:Aside (Below Wk.heap.size Wk (u6.alloc (Obj.cells #[.float .f64 hi,.float .f64 lo] 29))):=(HA.out.2.trans (hb.mono HA.out.2.size)).trans ((below_alloc _ _).mono (HA.out.2.trans (hb.mono HA.out.2.size)).size);clear hb CS HA
           go_wp2_with fail
           refine C.out.mono ?_;rintro r u7 ⟨rfl,hA3,hbut⟩
           have H3:Aside (Acc7 u7 g (vS (stF (K.take (k+1))).2) (sS (stF (K.take (k+1))).2)∧Below Wk.heap.size Wk u7):=by
            rw [HQ.out.2.2.2];exact ⟨hA3,But.below B6.out hbut B6.out.size HG.out⟩
           have HS:Aside ((stF (K.take (k+1))).1=hi):=by rw [HQ.out.2.2.2];rfl
           clear hA3 hbut C B6;go_wp2
           go_roundg (gk-1)
           case measure=>omega
           case rel=>exact ⟨k+1,by omega,by first | rfl | simp,by rw [HS.out],H3.out⟩
         · obtain rfl:N=k:=by omega
           have hd:decide ((N:Int)<(N:Nat))=false:=by simp
           have eK:K.take N=K:=List.take_of_length_le (by rw [HN.out];exact Nat.le_refl _)
           rw [eK] at HA ⊢;obtain ⟨q1,q2,q3⟩:=HX.out.2.2.2.2.2.2.2.1 N (by rw [HN.out];exact Nat.le_refl _)
           rw [eK] at q1 q2 q3;obtain ⟨s,hs⟩:∃ s,s=(stF K).1:=⟨_,rfl⟩;obtain ⟨Ls,hLs⟩:∃ L,L=(stF K).2:=⟨_,rfl⟩;obtain ⟨_,e1,e2,e3,e4⟩:=HX.out.2.2.2.2.2.2.2;rw [←hs] at e1 e2 e3 q1 ⊢;rw [←hLs] at HA e2 e3 q2 q3;have hbd:=vS_bound K HX.out.2.2.2.2.2.1 K.length (Nat.le_refl _);rw [List.take_length] at hbd
           have hHB:-(HB:Int)<vS K∧vS K<(HB:Int):=by
            have h3:K.length*QB≤65536*QB:=Nat.mul_le_mul_right _ (by have:=HX.out.2.2.2.2.1;omega)
            have h4:=QB_HB;have h5:=QB_pos;omega
           obtain ⟨d1,d2,d3⟩:=rd_same (mode:=0) hHB.1 hHB.2 e3 e4 hM0 hM4;obtain ⟨p1,p2⟩:=sS_pos (Ls++[s]) (Ls++[s]).length (Nat.le_refl _);rw [List.take_length] at p1 p2;have hok:(sS (Ls++[s])).ok:=p1.ok (by rw [p2,List.length_append,q3];have:=HX.out.2.2.2.2.1;have:=HN.out;simp;omega)
           have CA:=hid (addT Ls s g wr HA.out.1 (fun y hy=>(q2 y hy).1) q1 (by rw [q3];have:=HX.out.2.2.2.2.1;have:=HN.out;omega))
           have CR:=hid (fun (u:World) (hb:Below Wk.heap.size Wk u)=>Running10 K ao N co u HN.out ((P1.out.1.below hb).mono hb.size) HX.out.2.2.2.2.2.1 hco (by omega))
           rw [←e1] at CR;have CQ:=hid (fun (u:World) (hA:Acc7 u g (vS (Ls++[s])) (sS (Ls++[s]))) (hT:Tab u)=>Round10 g (vS (Ls++[s])) (sS (Ls++[s])) 0 0 0 u hA hok hT hM0 hM4 (by decide))
           have CE:=hid (fun (u:World) (hb:Below Wk.heap.size Wk u) (hT:Tab u)=>Exact10_any K ao N co 0 0 0 u HN.out ((P1.out.1.below hb).mono hb.size) HX.out.2.2.2.2.2.1 hT hM0 hM4 (by decide) (by have:=HX.out.2.2.2.2.1;have:=HN.out;omega))
           have CQ2:Hid (∀ (u:World) (hA:Acc7 u g (vS (Ls++[s])) (sS (Ls++[s]))) (hT:Tab u),Calls Tryd.prog 11 #[.pointer (some ⟨g,0,none⟩),.int .i64 0,.agg #[.int .i64 0,.int .i64 0]] u fun r w'=>r=.returned (.tuple #[.float .f64 (rd10 (vS K) (sS (Ls++[s])) 0 0 0).1,.int .i64 (rd10 (vS K) (sS (Ls++[s])) 0 0 0).2])∧Below u.heap.size u w'):=by
            intro u hA hT;have:=CQ.out u hA hT;rw [e2] at this;exact this
           obtain ⟨X,hX⟩:∃ X,X=(rd10 (vS K) (sS (Ls++[s])) 0 0 0).1:=⟨_,rfl⟩;obtain ⟨Y,hY⟩:∃ Y,Y=(rd10 (vS K) (sS K) 0 0 0).1:=⟨_,rfl⟩;rw [d1,←hX] at CQ2;rw [d2,←hY] at CE;rw [←hX,←hY] at d3;have HD:=qsd d3;have BA:=qsd HA.out.2;have HTb:=qsd (fun (u:World) (hb:Below Wk.heap.size Wk u)=>HX.out.2.2.2.2.2.2.1.belows (P1.out.2.trans (hb.mono P1.out.2.size)))
           clear CQ d1 d2 d3 hX hY e1 e2 e3 e4 q1 q2 q3 hbd hHB p1 p2 hok eK hs hLs HA
           go_wp2_with fail
           refine CA.out.mono ?_;rintro r u8 ⟨rfl,hA8,hbut⟩;have B8:=(qsd (ai hA8 ((But.below BA.out hbut BA.out.size HG.out))));clear hA8 hbut CA BA;have C:=hid (CR.out u8 B8.out.2);clear CR
           go_wp2_with (go_at_call 10;refine C.out.mono ?_;rintro r u9 ⟨rfl,hb⟩;have B9:=(qsd (ai ((B8.out.1.below hb B8.out.1.lt)) ((B8.out.2.trans (hb.mono B8.out.2.size)))));clear hb)
           have C2:=hid (CQ2.out u9 B9.out.1 (HTb.out u9 B9.out.2));clear CQ2;refine C2.out.mono ?_;rintro r v1 ⟨rfl,hb⟩;have B10:=qsd (B9.out.2.trans (hb.mono B9.out.2.size));clear hb C2;have C3:=hid (CE.out v1 B10.out (HTb.out v1 B10.out));clear CE
           go_wp2_with fail
           refine C3.out.mono ?_;rintro r v2 ⟨rfl,hb⟩;have B11:=qsd (P1.out.2.trans ((B10.out.trans (hb.mono B10.out.size)).mono P1.out.2.size));clear hb C3
           rcases HD.out with e|⟨e|e,f|f⟩
           · rw [e]
             go_wp2;go_ret;exact ⟨rfl,B11.out⟩
           · rw [e,f]
             go_wp2;go_ret;exact ⟨rfl,B11.out⟩
           · rw [e,f]
             go_wp2;go_ret;exact ⟨rfl,B11.out⟩
           · rw [e,f]
             go_wp2;go_ret;exact ⟨rfl,B11.out⟩
           · rw [e,f]
             go_wp2;go_ret;exact ⟨rfl,B11.out⟩
 · have d1:decide (mode<0)=false:=by simp;omega
   by_cases hbad2:4<mode
   · have d2:decide (4<mode)=true:=by simp [hbad2]
     by_cases h3:4096<n1
     · have d3:decide ((4096:Int)<(n1:Nat))=true:=by simp;omega
       have hle:4096≤c1:=by have:=HC1.out;omega
       go_enter Tryd.func3,Tryd.ntmps3;have HZ:Aside (zs.length=4096):=by have:=HX.out.1;first | exact this | (show zs.length=_;omega)
       have hM0:(0:Int)≤0:=by omega
       have hM4:0≤(4:Int):=by omega
       have O0:Aside (Rf w.heap.size (w.alloc (Obj.cells #[.float .f64 4602678819172646912] 23)) (.slice (some ⟨w.heap.size,0,none⟩) 1 1) (kpT (zs.take 0))∧Below w.heap.size w (w.alloc (Obj.cells #[.float .f64 4602678819172646912] 23))) :=
        ⟨⟨rfl,.inr ⟨w.heap.size,1,#[.float .f64 4602678819172646912],rfl,Nat.le_refl _,heap_alloc_new w _,Nat.le_refl _,by decide,rfl,rfl⟩⟩,(Below.refl _ _).alloc (Nat.le_refl _) _⟩
       go_wp2
       go_loopg [5,31] 4096 (fun gk kv iv wr=>∃ (k:Nat) (v:Value),gk+k=4096∧iv=.int .i64 (k:Nat)∧kv=v∧Aside (Rf w.heap.size wr v (kpT (zs.take k))∧Below w.heap.size w wr))
       case atStart=>exact ⟨0,_,by omega,by simp,rfl,O0.out⟩
       case round =>
        clear O0;obtain ⟨k,v,hgk,rfl,hv,HA⟩:=hrel;have hv':=hv.symm;clear hv;subst hv'
        by_cases hk:k<4096
        · have hkz:k<zs.length:=by rw [HZ.out];exact hk
          obtain ⟨b,off,rfl,hc⟩:=HX.out.2.2.1.at HA.out.2 k hkz;obtain ⟨x,hx⟩:∃ x,x=zs.getD k 0:=⟨_,rfl⟩;rw [←hx] at hc;have hx64:x<18446744073709551616:=by rw [hx];exact HX.out.2.1.get k
          have CA:=hid (fun u:World=>absT hx64 u)
          have CL:=hid (fun u:World=>Ldexp1000 u)
          have hd:decide ((k:Int)<(4096:Nat))=true:=by simp;omega
          have hle:=leT (m:=magW x) (by unfold magW;omega)
          have hkt:=kpT_take hkz;rw [←hx] at hkt;have hkb:k<4611686018427387904:=by omega
          obtain ⟨mx,hmx⟩:∃ m,m=magW x:=⟨_,rfl⟩;rw [←hmx] at CA hle
          cases hs:smT x
          · rw [hs,if_neg (by decide)] at hkt
            have hle2:(FloatKind.f64.format.order mx 9110782046170513408==some .lt || FloatKind.f64.format.order mx 9110782046170513408==some .eq)=false:=by
             rw [hle,hmx];exact hs
            have HN:Aside (Rf w.heap.size wr v (kpT (zs.take (k+1)))∧Below w.heap.size w wr):=by rw [hkt];exact HA.out
            clear hle hkt hs hx hmx HA hkz
            go_wp2_with (first | (go_at_call 4;refine (CA.out _).mono ?_;rintro r u1 ⟨rfl,hu⟩;rw [hu];clear hu) | (go_at_call 5;refine (CL.out _).mono ?_;rintro r u1 ⟨rfl,hu⟩;rw [hu];clear hu))
            go_roundg (gk-1)
            case measure=>omega
            case rel=>exact ⟨k+1,_,by omega,by first | rfl | simp,rfl,HN.out⟩
          · rw [hs,if_pos rfl] at hkt
            have hle2:(FloatKind.f64.format.order mx 9110782046170513408==some .lt || FloatKind.f64.format.order mx 9110782046170513408==some .eq)=true:=by
             rw [hle,hmx];exact hs
            obtain ⟨v2,W2,hrun0,hO2,hg2,hb2⟩:=append_flts (wr.alloc (Obj.cells #[.float .f64 x] 23)) w.heap.size v (kpT (zs.take k)) [x] (some ⟨wr.heap.size,0,none⟩) 1 1 22 (HA.out.1.alloc _) rfl
             (fun _=>⟨wr.heap.size,0,rfl,fun i hi=>by
              obtain rfl:i=0:=by simp at hi;omega
              unfold World.cell?;simp only [heap_alloc_new];rfl⟩) (by simp) (by have:=kpT_len (zs.take k);rw [List.length_take] at this;omega) (by have:=HA.out.2.size;simp;omega)
            have HN:Aside (Rf w.heap.size W2 v2 (kpT (zs.take (k+1)))∧Below w.heap.size w W2):=by
             rw [hkt];exact ⟨hO2,(HA.out.2.alloc HA.out.2.size _).grown hg2 (by have:=HA.out.2.size;simp;omega) (fun k e=>(HA.out.1.lt k e).1)⟩
            have HJ:=qsd hrun0;clear hle hkt hs hx hmx HA hkz hrun0 hO2 hg2 hb2
            go_wp2_with (first | (go_at_call 4;refine (CA.out _).mono ?_;rintro r u1 ⟨rfl,hu⟩;rw [hu];clear hu) | (go_at_call 5;refine (CL.out _).mono ?_;rintro r u1 ⟨rfl,hu⟩;rw [hu];clear hu) | (at_builtin;refine wpList_append_flt rfl _ _ rfl _ _ rfl rfl v2 W2 HJ.out ?_))
            go_roundg (gk-1)
            case measure=>omega
            case rel=>exact ⟨k+1,_,by omega,by first | rfl | simp,rfl,HN.out⟩
        · obtain rfl:k=4096:=by omega
          have hd:decide (((4096:Nat):Int)<(4096:Nat))=false:=by simp
          obtain ⟨Wk,hWk⟩:∃ W,W=wr:=⟨_,rfl⟩;subst hWk;obtain ⟨ao,co,rfl,hco⟩:=HA.out.1.shape0
          have P1:Aside (Fs Wk.heap.size Wk ao K∧Below w.heap.size w Wk):=by
           have h:=HA.out.1.fs;rw [show zs.take 4096=zs from List.take_of_length_le (by rw [HZ.out];exact Nat.le_refl _),←HX.out.2.2.2.1] at h
           exact ⟨h,HA.out.2⟩
          have hKe:(kpT (zs.take 4096)).length=K.length:=by rw [show zs.take 4096=zs from List.take_of_length_le (by rw [HZ.out];exact Nat.le_refl _),←HX.out.2.2.2.1]
          rw [hKe] at hco ⊢;clear HA hKe;obtain ⟨N,hN⟩:∃ N,N=K.length:=⟨_,rfl⟩;rw [←hN] at hco ⊢;have HN:=qsd hN;have hNb:N<4611686018427387904:=by have:=HX.out.2.2.2.2.1;omega
          clear hN
          go_wp2_with fail
          refine (New7 _).mono ?_;rintro r u5 ⟨rfl,hA,hb⟩;obtain ⟨g,hg⟩:∃ g,g=Wk.heap.size:=⟨_,rfl⟩;rw [←hg] at hA ⊢;have P5:Aside (Acc7 u5 g 0 ⟨0,0,0,0,0,0⟩∧Below Wk.heap.size Wk u5∧Wk.heap.size≤g):=⟨hA,hb,by rw [hg];exact Nat.le_refl _⟩
          clear hb hA hg;go_wp2
          go_loopg [9,49] N (fun gk sv iv wr=>∃ (k:Nat),gk+k=N∧iv=.int .i64 (k:Nat)∧sv=.float .f64 (stF (K.take k)).1∧Aside (Acc7 wr g (vS (stF (K.take k)).2) (sS (stF (K.take k)).2)∧Below Wk.heap.size Wk wr))
          case atStart=>exact ⟨0,by omega,by simp,by simp [stF],by simpa [vS,sS,stF] using P5.out.1,P5.out.2.1⟩
          case round =>
           obtain ⟨k,hgk,rfl,rfl,HA⟩:=hrel;have HG:=qsd P5.out.2.2;clear P5
           by_cases hk:k<N
           · have hkK:k<K.length:=by rw [←HN.out];exact hk
             obtain ⟨b,off,rfl,hc⟩:=P1.out.1.at HA.out.2 k hkK;obtain ⟨x,hx⟩:∃ x,x=K.getD k 0:=⟨_,rfl⟩;rw [←hx] at hc;obtain ⟨s,hs⟩:∃ s,s=(stF (K.take k)).1:=⟨_,rfl⟩;rw [←hs];obtain ⟨q1,q2,q3⟩:=HX.out.2.2.2.2.2.2.2.1 k (by omega)
             obtain ⟨_,r2,_⟩:=HX.out.2.2.2.2.2.2.2.1 (k+1) (by omega)
             have est:=stF_snoc (K.take k) x;rw [hx,←take_snocT K k hkK,←hx,←hs] at est;obtain ⟨hi,hhi⟩:∃ z,z=(sumP s x).1:=⟨_,rfl⟩;obtain ⟨lo,hlo⟩:∃ z,z=(sumP s x).2:=⟨_,rfl⟩;rw [←hhi,←hlo] at est
             have hlo64:lo<18446744073709551616:=by
              have:lo ∈ (stF (K.take (k+1))).2:=by rw [est];simp
              exact (r2 lo this).1
             have CS:=hid (fun u:World=>Sum_all s x u)
             rw [←hhi,←hlo] at CS;have HQ:=(qsd (ai q2 (ai q3 (ai hlo64 est))));have hd:decide ((k:Int)<(N:Nat))=true:=by simp;omega
             have hkb:k<4611686018427387904:=by omega
             clear q1 q2 q3 r2 est hhi hlo hlo64 hx hs hkK
             go_wp2_with fail
             refine (CS.out _).mono ?_;rintro r u6 ⟨rfl,hb⟩;have C:=hid (addT (stF (K.take k)).2 lo g (u6.alloc (Obj.cells #[.float .f64 hi,.float .f64 lo] 29)) ((HA.out.1.below hb HA.out.1.lt).below (below_alloc _ _) (Nat.lt_of_lt_of_le HA.out.1.lt hb.size)) (fun y hy=>(HQ.out.1 y hy).1) HQ.out.2.2.1 (by rw [HQ.out.2.1];have:=HX.out.2.2.2.2.1;have:=HN.out;omega))
             have B6:Aside (Below Wk.heap.size Wk (u6.alloc (Obj.cells #[.float .f64 hi,.float .f64 lo] 29))):=(HA.out.2.trans (hb.mono HA.out.2.size)).trans ((below_alloc _ _).mono (HA.out.2.trans (hb.mono HA.out.2.size)).size);clear hb CS HA
             go_wp2_with fail
             refine C.out.mono ?_;rintro r u7 ⟨rfl,hA3,hbut⟩
             have H3:Aside (Acc7 u7 g (vS (stF (K.take (k+1))).2) (sS (stF (K.take (k+1))).2)∧Below Wk.heap.size Wk u7):=by
              rw [HQ.out.2.2.2];exact ⟨hA3,But.below B6.out hbut B6.out.size HG.out⟩
             have HS:Aside ((stF (K.take (k+1))).1=hi):=by rw [HQ.out.2.2.2];rfl
             clear hA3 hbut C B6;go_wp2
             go_roundg (gk-1)
             case measure=>omega
             case rel=>exact ⟨k+1,by omega,by first | rfl | simp,by rw [HS.out],H3.out⟩
           · obtain rfl:N=k:=by omega
             have hd:decide ((N:Int)<(N:Nat))=false:=by simp
             have eK:K.take N=K:=List.take_of_length_le (by rw [HN.out];exact Nat.le_refl _)
             rw [eK] at HA ⊢;obtain ⟨q1,q2,q3⟩:=HX.out.2.2.2.2.2.2.2.1 N (by rw [HN.out];exact Nat.le_refl _)
             rw [eK] at q1 q2 q3;obtain ⟨s,hs⟩:∃ s,s=(stF K).1:=⟨_,rfl⟩;obtain ⟨Ls,hLs⟩:∃ L,L=(stF K).2:=⟨_,rfl⟩;obtain ⟨_,e1,e2,e3,e4⟩:=HX.out.2.2.2.2.2.2.2;rw [←hs] at e1 e2 e3 q1 ⊢;rw [←hLs] at HA e2 e3 q2 q3;have hbd:=vS_bound K HX.out.2.2.2.2.2.1 K.length (Nat.le_refl _);rw [List.take_length] at hbd
             have hHB:-(HB:Int)<vS K∧vS K<(HB:Int):=by
              have h3:K.length*QB≤65536*QB:=Nat.mul_le_mul_right _ (by have:=HX.out.2.2.2.2.1;omega)
              have h4:=QB_HB;have h5:=QB_pos;omega
             obtain ⟨d1,d2,d3⟩:=rd_same (mode:=0) hHB.1 hHB.2 e3 e4 hM0 hM4;obtain ⟨p1,p2⟩:=sS_pos (Ls++[s]) (Ls++[s]).length (Nat.le_refl _);rw [List.take_length] at p1 p2;have hok:(sS (Ls++[s])).ok:=p1.ok (by rw [p2,List.length_append,q3];have:=HX.out.2.2.2.2.1;have:=HN.out;simp;omega)
             have CA:=hid (addT Ls s g wr HA.out.1 (fun y hy=>(q2 y hy).1) q1 (by rw [q3];have:=HX.out.2.2.2.2.1;have:=HN.out;omega))
             have CR:=hid (fun (u:World) (hb:Below Wk.heap.size Wk u)=>Running10 K ao N co u HN.out ((P1.out.1.below hb).mono hb.size) HX.out.2.2.2.2.2.1 hco (by omega))
             rw [←e1] at CR;have CQ:=hid (fun (u:World) (hA:Acc7 u g (vS (Ls++[s])) (sS (Ls++[s]))) (hT:Tab u)=>Round10 g (vS (Ls++[s])) (sS (Ls++[s])) 0 0 0 u hA hok hT hM0 hM4 (by decide))
             have CE:=hid (fun (u:World) (hb:Below Wk.heap.size Wk u) (hT:Tab u)=>Exact10_any K ao N co 0 0 0 u HN.out ((P1.out.1.below hb).mono hb.size) HX.out.2.2.2.2.2.1 hT hM0 hM4 (by decide) (by have:=HX.out.2.2.2.2.1;have:=HN.out;omega))
             have CQ2:Hid (∀ (u:World) (hA:Acc7 u g (vS (Ls++[s])) (sS (Ls++[s]))) (hT:Tab u),Calls Tryd.prog 11 #[.pointer (some ⟨g,0,none⟩),.int .i64 0,.agg #[.int .i64 0,.int .i64 0]] u fun r w'=>r=.returned (.tuple #[.float .f64 (rd10 (vS K) (sS (Ls++[s])) 0 0 0).1,.int .i64 (rd10 (vS K) (sS (Ls++[s])) 0 0 0).2])∧Below u.heap.size u w'):=by
              intro u hA hT;have:=CQ.out u hA hT;rw [e2] at this;exact this
             obtain ⟨X,hX⟩:∃ X,X=(rd10 (vS K) (sS (Ls++[s])) 0 0 0).1:=⟨_,rfl⟩;obtain ⟨Y,hY⟩:∃ Y,Y=(rd10 (vS K) (sS K) 0 0 0).1:=⟨_,rfl⟩;rw [d1,←hX] at CQ2;rw [d2,←hY] at CE;rw [←hX,←hY] at d3;have HD:=qsd d3;have BA:=qsd HA.out.2;have HTb:=qsd (fun (u:World) (hb:Below Wk.heap.size Wk u)=>HX.out.2.2.2.2.2.2.1.belows (P1.out.2.trans (hb.mono P1.out.2.size)))
             clear CQ d1 d2 d3 hX hY e1 e2 e3 e4 q1 q2 q3 hbd hHB p1 p2 hok eK hs hLs HA
             go_wp2_with fail
             refine CA.out.mono ?_;rintro r u8 ⟨rfl,hA8,hbut⟩;have B8:=(qsd (ai hA8 ((But.below BA.out hbut BA.out.size HG.out))));clear hA8 hbut CA BA;have C:=hid (CR.out u8 B8.out.2);clear CR
             go_wp2_with (go_at_call 10;refine C.out.mono ?_;rintro r u9 ⟨rfl,hb⟩;have B9:=(qsd (ai ((B8.out.1.below hb B8.out.1.lt)) ((B8.out.2.trans (hb.mono B8.out.2.size)))));clear hb)
             have C2:=hid (CQ2.out u9 B9.out.1 (HTb.out u9 B9.out.2));clear CQ2;refine C2.out.mono ?_;rintro r v1 ⟨rfl,hb⟩;have B10:=qsd (B9.out.2.trans (hb.mono B9.out.2.size));clear hb C2;have C3:=hid (CE.out v1 B10.out (HTb.out v1 B10.out));clear CE
             go_wp2_with fail
             refine C3.out.mono ?_;rintro r v2 ⟨rfl,hb⟩;have B11:=qsd (P1.out.2.trans ((B10.out.trans (hb.mono B10.out.size)).mono P1.out.2.size));clear hb C3
             rcases HD.out with e|⟨e|e,f|f⟩
             · rw [e]
               go_wp2;go_ret;exact ⟨rfl,B11.out⟩
             · rw [e,f]
               go_wp2;go_ret;exact ⟨rfl,B11.out⟩
             · rw [e,f]
               go_wp2;go_ret;exact ⟨rfl,B11.out⟩
             · rw [e,f]
               go_wp2;go_ret;exact ⟨rfl,B11.out⟩
             · rw [e,f]
               go_wp2;go_ret;exact ⟨rfl,B11.out⟩
     · have d3:decide ((4096:Int)<(n1:Nat))=false:=by simp;omega
       go_enter Tryd.func3,Tryd.ntmps3;have HZ:Aside (zs.length=n1):=by have:=HX.out.1;first | exact this | (show zs.length=_;omega)
       have hM0:(0:Int)≤0:=by omega
       have hM4:0≤(4:Int):=by omega
       have O0:Aside (Rf w.heap.size (w.alloc (Obj.cells #[.float .f64 4602678819172646912] 23)) (.slice (some ⟨w.heap.size,0,none⟩) 1 1) (kpT (zs.take 0))∧Below w.heap.size w (w.alloc (Obj.cells #[.float .f64 4602678819172646912] 23))) :=
        ⟨⟨rfl,.inr ⟨w.heap.size,1,#[.float .f64 4602678819172646912],rfl,Nat.le_refl _,heap_alloc_new w _,Nat.le_refl _,by decide,rfl,rfl⟩⟩,(Below.refl _ _).alloc (Nat.le_refl _) _⟩
       go_wp2
       go_loopg [5,31] n1 (fun gk kv iv wr=>∃ (k:Nat) (v:Value),gk+k=n1∧iv=.int .i64 (k:Nat)∧kv=v∧Aside (Rf w.heap.size wr v (kpT (zs.take k))∧Below w.heap.size w wr))
       case atStart=>exact ⟨0,_,by omega,by simp,rfl,O0.out⟩
       case round =>
        clear O0;obtain ⟨k,v,hgk,rfl,hv,HA⟩:=hrel;have hv':=hv.symm;clear hv;subst hv'
        by_cases hk:k<n1
        · have hkz:k<zs.length:=by rw [HZ.out];exact hk
          obtain ⟨b,off,rfl,hc⟩:=HX.out.2.2.1.at HA.out.2 k hkz;obtain ⟨x,hx⟩:∃ x,x=zs.getD k 0:=⟨_,rfl⟩;rw [←hx] at hc;have hx64:x<18446744073709551616:=by rw [hx];exact HX.out.2.1.get k
          have CA:=hid (fun u:World=>absT hx64 u)
          have CL:=hid (fun u:World=>Ldexp1000 u)
          have hd:decide ((k:Int)<(n1:Nat))=true:=by simp;omega
          have hle:=leT (m:=magW x) (by unfold magW;omega)
          have hkt:=kpT_take hkz;rw [←hx] at hkt;have hkb:k<4611686018427387904:=by omega
          obtain ⟨mx,hmx⟩:∃ m,m=magW x:=⟨_,rfl⟩;rw [←hmx] at CA hle
          cases hs:smT x
          · rw [hs,if_neg (by decide)] at hkt
            have hle2:(FloatKind.f64.format.order mx 9110782046170513408==some .lt || FloatKind.f64.format.order mx 9110782046170513408==some .eq)=false:=by
             rw [hle,hmx];exact hs
            have HN:Aside (Rf w.heap.size wr v (kpT (zs.take (k+1)))∧Below w.heap.size w wr):=by rw [hkt];exact HA.out
            clear hle hkt hs hx hmx HA hkz
            go_wp2_with (first | (go_at_call 4;refine (CA.out _).mono ?_;rintro r u1 ⟨rfl,hu⟩;rw [hu];clear hu) | (go_at_call 5;refine (CL.out _).mono ?_;rintro r u1 ⟨rfl,hu⟩;rw [hu];clear hu))
            go_roundg (gk-1)
            case measure=>omega
            case rel=>exact ⟨k+1,_,by omega,by first | rfl | simp,rfl,HN.out⟩
          · rw [hs,if_pos rfl] at hkt
            have hle2:(FloatKind.f64.format.order mx 9110782046170513408==some .lt || FloatKind.f64.format.order mx 9110782046170513408==some .eq)=true:=by
             rw [hle,hmx];exact hs
            obtain ⟨v2,W2,hrun0,hO2,hg2,hb2⟩:=append_flts (wr.alloc (Obj.cells #[.float .f64 x] 23)) w.heap.size v (kpT (zs.take k)) [x] (some ⟨wr.heap.size,0,none⟩) 1 1 22 (HA.out.1.alloc _) rfl
             (fun _=>⟨wr.heap.size,0,rfl,fun i hi=>by
              obtain rfl:i=0:=by simp at hi;omega
              unfold World.cell?;simp only [heap_alloc_new];rfl⟩) (by simp) (by have:=kpT_len (zs.take k);rw [List.length_take] at this;omega) (by have:=HA.out.2.size;simp;omega)
            have HN:Aside (Rf w.heap.size W2 v2 (kpT (zs.take (k+1)))∧Below w.heap.size w W2):=by
             rw [hkt];exact ⟨hO2,(HA.out.2.alloc HA.out.2.size _).grown hg2 (by have:=HA.out.2.size;simp;omega) (fun k e=>(HA.out.1.lt k e).1)⟩
            have HJ:=qsd hrun0;clear hle hkt hs hx hmx HA hkz hrun0 hO2 hg2 hb2
            go_wp2_with (first | (go_at_call 4;refine (CA.out _).mono ?_;rintro r u1 ⟨rfl,hu⟩;rw [hu];clear hu) | (go_at_call 5;refine (CL.out _).mono ?_;rintro r u1 ⟨rfl,hu⟩;rw [hu];clear hu) | (at_builtin;refine wpList_append_flt rfl _ _ rfl _ _ rfl rfl v2 W2 HJ.out ?_))
            go_roundg (gk-1)
            case measure=>omega
            case rel=>exact ⟨k+1,_,by omega,by first | rfl | simp,rfl,HN.out⟩
        · obtain rfl:n1=k:=by omega
          have hd:decide (((n1:Nat):Int)<(n1:Nat))=false:=by simp
          obtain ⟨Wk,hWk⟩:∃ W,W=wr:=⟨_,rfl⟩;subst hWk;obtain ⟨ao,co,rfl,hco⟩:=HA.out.1.shape0
          have P1:Aside (Fs Wk.heap.size Wk ao K∧Below w.heap.size w Wk):=by
           have h:=HA.out.1.fs;rw [show zs.take n1=zs from List.take_of_length_le (by rw [HZ.out];exact Nat.le_refl _),←HX.out.2.2.2.1] at h
           exact ⟨h,HA.out.2⟩
          have hKe:(kpT (zs.take n1)).length=K.length:=by rw [show zs.take n1=zs from List.take_of_length_le (by rw [HZ.out];exact Nat.le_refl _),←HX.out.2.2.2.1]
          rw [hKe] at hco ⊢;clear HA hKe;obtain ⟨N,hN⟩:∃ N,N=K.length:=⟨_,rfl⟩;rw [←hN] at hco ⊢;have HN:=qsd hN;have hNb:N<4611686018427387904:=by have:=HX.out.2.2.2.2.1;omega
          clear hN
          go_wp2_with fail
          refine (New7 _).mono ?_;rintro r u5 ⟨rfl,hA,hb⟩;obtain ⟨g,hg⟩:∃ g,g=Wk.heap.size:=⟨_,rfl⟩;rw [←hg] at hA ⊢;have P5:Aside (Acc7 u5 g 0 ⟨0,0,0,0,0,0⟩∧Below Wk.heap.size Wk u5∧Wk.heap.size≤g):=⟨hA,hb,by rw [hg];exact Nat.le_refl _⟩
          clear hb hA hg;go_wp2
          go_loopg [9,49] N (fun gk sv iv wr=>∃ (k:Nat),gk+k=N∧iv=.int .i64 (k:Nat)∧sv=.float .f64 (stF (K.take k)).1∧Aside (Acc7 wr g (vS (stF (K.take k)).2) (sS (stF (K.take k)).2)∧Below Wk.heap.size Wk wr))
          case atStart=>exact ⟨0,by omega,by simp,by simp [stF],by simpa [vS,sS,stF] using P5.out.1,P5.out.2.1⟩
          case round =>
           obtain ⟨k,hgk,rfl,rfl,HA⟩:=hrel;have HG:=qsd P5.out.2.2;clear P5
           by_cases hk:k<N
           · have hkK:k<K.length:=by rw [←HN.out];exact hk
             obtain ⟨b,off,rfl,hc⟩:=P1.out.1.at HA.out.2 k hkK;obtain ⟨x,hx⟩:∃ x,x=K.getD k 0:=⟨_,rfl⟩;rw [←hx] at hc;obtain ⟨s,hs⟩:∃ s,s=(stF (K.take k)).1:=⟨_,rfl⟩;rw [←hs];obtain ⟨q1,q2,q3⟩:=HX.out.2.2.2.2.2.2.2.1 k (by omega)
             obtain ⟨_,r2,_⟩:=HX.out.2.2.2.2.2.2.2.1 (k+1) (by omega)
             have est:=stF_snoc (K.take k) x;rw [hx,←take_snocT K k hkK,←hx,←hs] at est;obtain ⟨hi,hhi⟩:∃ z,z=(sumP s x).1:=⟨_,rfl⟩;obtain ⟨lo,hlo⟩:∃ z,z=(sumP s x).2:=⟨_,rfl⟩;rw [←hhi,←hlo] at est
             have hlo64:lo<18446744073709551616:=by
              have:lo ∈ (stF (K.take (k+1))).2:=by rw [est];simp
              exact (r2 lo this).1
             have CS:=hid (fun u:World=>Sum_all s x u)
             rw [←hhi,←hlo] at CS;have HQ:=(qsd (ai q2 (ai q3 (ai hlo64 est))));have hd:decide ((k:Int)<(N:Nat))=true:=by simp;omega
             have hkb:k<4611686018427387904:=by omega
             clear q1 q2 q3 r2 est hhi hlo hlo64 hx hs hkK
             go_wp2_with fail
             refine (CS.out _).mono ?_;rintro r u6 ⟨rfl,hb⟩;have C:=hid (addT (stF (K.take k)).2 lo g (u6.alloc (Obj.cells #[.float .f64 hi,.float .f64 lo] 29)) ((HA.out.1.below hb HA.out.1.lt).below (below_alloc _ _) (Nat.lt_of_lt_of_le HA.out.1.lt hb.size)) (fun y hy=>(HQ.out.1 y hy).1) HQ.out.2.2.1 (by rw [HQ.out.2.1];have:=HX.out.2.2.2.2.1;have:=HN.out;omega))
             have B6:Aside (Below Wk.heap.size Wk (u6.alloc (Obj.cells #[.float .f64 hi,.float .f64 lo] 29))):=(HA.out.2.trans (hb.mono HA.out.2.size)).trans ((below_alloc _ _).mono (HA.out.2.trans (hb.mono HA.out.2.size)).size);clear hb CS HA
             go_wp2_with fail
             refine C.out.mono ?_;rintro r u7 ⟨rfl,hA3,hbut⟩
             have H3:Aside (Acc7 u7 g (vS (stF (K.take (k+1))).2) (sS (stF (K.take (k+1))).2)∧Below Wk.heap.size Wk u7):=by
              rw [HQ.out.2.2.2];exact ⟨hA3,But.below B6.out hbut B6.out.size HG.out⟩
             have HS:Aside ((stF (K.take (k+1))).1=hi):=by rw [HQ.out.2.2.2];rfl
             clear hA3 hbut C B6;go_wp2
             go_roundg (gk-1)
             case measure=>omega
             case rel=>exact ⟨k+1,by omega,by first | rfl | simp,by rw [HS.out],H3.out⟩
           · obtain rfl:N=k:=by omega
             have hd:decide ((N:Int)<(N:Nat))=false:=by simp
             have eK:K.take N=K:=List.take_of_length_le (by rw [HN.out];exact Nat.le_refl _)
             rw [eK] at HA ⊢;obtain ⟨q1,q2,q3⟩:=HX.out.2.2.2.2.2.2.2.1 N (by rw [HN.out];exact Nat.le_refl _)
             rw [eK] at q1 q2 q3;obtain ⟨s,hs⟩:∃ s,s=(stF K).1:=⟨_,rfl⟩;obtain ⟨Ls,hLs⟩:∃ L,L=(stF K).2:=⟨_,rfl⟩;obtain ⟨_,e1,e2,e3,e4⟩:=HX.out.2.2.2.2.2.2.2;rw [←hs] at e1 e2 e3 q1 ⊢;rw [←hLs] at HA e2 e3 q2 q3;have hbd:=vS_bound K HX.out.2.2.2.2.2.1 K.length (Nat.le_refl _);rw [List.take_length] at hbd
             have hHB:-(HB:Int)<vS K∧vS K<(HB:Int):=by
              have h3:K.length*QB≤65536*QB:=Nat.mul_le_mul_right _ (by have:=HX.out.2.2.2.2.1;omega)
              have h4:=QB_HB;have h5:=QB_pos;omega
             obtain ⟨d1,d2,d3⟩:=rd_same (mode:=0) hHB.1 hHB.2 e3 e4 hM0 hM4;obtain ⟨p1,p2⟩:=sS_pos (Ls++[s]) (Ls++[s]).length (Nat.le_refl _);rw [List.take_length] at p1 p2;have hok:(sS (Ls++[s])).ok:=p1.ok (by rw [p2,List.length_append,q3];have:=HX.out.2.2.2.2.1;have:=HN.out;simp;omega)
             have CA:=hid (addT Ls s g wr HA.out.1 (fun y hy=>(q2 y hy).1) q1 (by rw [q3];have:=HX.out.2.2.2.2.1;have:=HN.out;omega))
             have CR:=hid (fun (u:World) (hb:Below Wk.heap.size Wk u)=>Running10 K ao N co u HN.out ((P1.out.1.below hb).mono hb.size) HX.out.2.2.2.2.2.1 hco (by omega))
             rw [←e1] at CR;have CQ:=hid (fun (u:World) (hA:Acc7 u g (vS (Ls++[s])) (sS (Ls++[s]))) (hT:Tab u)=>Round10 g (vS (Ls++[s])) (sS (Ls++[s])) 0 0 0 u hA hok hT hM0 hM4 (by decide))
             have CE:=hid (fun (u:World) (hb:Below Wk.heap.size Wk u) (hT:Tab u)=>Exact10_any K ao N co 0 0 0 u HN.out ((P1.out.1.below hb).mono hb.size) HX.out.2.2.2.2.2.1 hT hM0 hM4 (by decide) (by have:=HX.out.2.2.2.2.1;have:=HN.out;omega))
             have CQ2:Hid (∀ (u:World) (hA:Acc7 u g (vS (Ls++[s])) (sS (Ls++[s]))) (hT:Tab u),Calls Tryd.prog 11 #[.pointer (some ⟨g,0,none⟩),.int .i64 0,.agg #[.int .i64 0,.int .i64 0]] u fun r w'=>r=.returned (.tuple #[.float .f64 (rd10 (vS K) (sS (Ls++[s])) 0 0 0).1,.int .i64 (rd10 (vS K) (sS (Ls++[s])) 0 0 0).2])∧Below u.heap.size u w'):=by
              intro u hA hT;have:=CQ.out u hA hT;rw [e2] at this;exact this
             obtain ⟨X,hX⟩:∃ X,X=(rd10 (vS K) (sS (Ls++[s])) 0 0 0).1:=⟨_,rfl⟩;obtain ⟨Y,hY⟩:∃ Y,Y=(rd10 (vS K) (sS K) 0 0 0).1:=⟨_,rfl⟩;rw [d1,←hX] at CQ2;rw [d2,←hY] at CE;rw [←hX,←hY] at d3;have HD:=qsd d3;have BA:=qsd HA.out.2;have HTb:=qsd (fun (u:World) (hb:Below Wk.heap.size Wk u)=>HX.out.2.2.2.2.2.2.1.belows (P1.out.2.trans (hb.mono P1.out.2.size)))
             clear CQ d1 d2 d3 hX hY e1 e2 e3 e4 q1 q2 q3 hbd hHB p1 p2 hok eK hs hLs HA
             go_wp2_with fail
             refine CA.out.mono ?_;rintro r u8 ⟨rfl,hA8,hbut⟩;have B8:=(qsd (ai hA8 ((But.below BA.out hbut BA.out.size HG.out))));clear hA8 hbut CA BA;have C:=hid (CR.out u8 B8.out.2);clear CR
             go_wp2_with (go_at_call 10;refine C.out.mono ?_;rintro r u9 ⟨rfl,hb⟩;have B9:=(qsd (ai ((B8.out.1.below hb B8.out.1.lt)) ((B8.out.2.trans (hb.mono B8.out.2.size)))));clear hb)
             have C2:=hid (CQ2.out u9 B9.out.1 (HTb.out u9 B9.out.2));clear CQ2;refine C2.out.mono ?_;rintro r v1 ⟨rfl,hb⟩;have B10:=qsd (B9.out.2.trans (hb.mono B9.out.2.size));clear hb C2;have C3:=hid (CE.out v1 B10.out (HTb.out v1 B10.out));clear CE
             go_wp2_with fail
             refine C3.out.mono ?_;rintro r v2 ⟨rfl,hb⟩;have B11:=qsd (P1.out.2.trans ((B10.out.trans (hb.mono B10.out.size)).mono P1.out.2.size));clear hb C3
             rcases HD.out with e|⟨e|e,f|f⟩
             · rw [e]
               go_wp2;go_ret;exact ⟨rfl,B11.out⟩
             · rw [e,f]
               go_wp2;go_ret;exact ⟨rfl,B11.out⟩
             · rw [e,f]
               go_wp2;go_ret;exact ⟨rfl,B11.out⟩
             · rw [e,f]
               go_wp2;go_ret;exact ⟨rfl,B11.out⟩
             · rw [e,f]
               go_wp2;go_ret;exact ⟨rfl,B11.out⟩
   · have d2:decide (4<mode)=false:=by simp;omega
     by_cases h3:4096<n1
     · have d3:decide ((4096:Int)<(n1:Nat))=true:=by simp;omega
       have hle:4096≤c1:=by have:=HC1.out;omega
       go_enter Tryd.func3,Tryd.ntmps3;have HZ:Aside (zs.length=4096):=by have:=HX.out.1;first | exact this | (show zs.length=_;omega)
       have hM0:(0:Int)≤mode:=by omega
       have hM4:mode≤(4:Int):=by omega
       have O0:Aside (Rf w.heap.size (w.alloc (Obj.cells #[.float .f64 4602678819172646912] 23)) (.slice (some ⟨w.heap.size,0,none⟩) 1 1) (kpT (zs.take 0))∧Below w.heap.size w (w.alloc (Obj.cells #[.float .f64 4602678819172646912] 23))) :=
        ⟨⟨rfl,.inr ⟨w.heap.size,1,#[.float .f64 4602678819172646912],rfl,Nat.le_refl _,heap_alloc_new w _,Nat.le_refl _,by decide,rfl,rfl⟩⟩,(Below.refl _ _).alloc (Nat.le_refl _) _⟩
       go_wp2
       go_loopg [5,31] 4096 (fun gk kv iv wr=>∃ (k:Nat) (v:Value),gk+k=4096∧iv=.int .i64 (k:Nat)∧kv=v∧Aside (Rf w.heap.size wr v (kpT (zs.take k))∧Below w.heap.size w wr))
       case atStart=>exact ⟨0,_,by omega,by simp,rfl,O0.out⟩
       case round =>
        clear O0;obtain ⟨k,v,hgk,rfl,hv,HA⟩:=hrel;have hv':=hv.symm;clear hv;subst hv'
        by_cases hk:k<4096
        · have hkz:k<zs.length:=by rw [HZ.out];exact hk
          obtain ⟨b,off,rfl,hc⟩:=HX.out.2.2.1.at HA.out.2 k hkz;obtain ⟨x,hx⟩:∃ x,x=zs.getD k 0:=⟨_,rfl⟩;rw [←hx] at hc;have hx64:x<18446744073709551616:=by rw [hx];exact HX.out.2.1.get k
          have CA:=hid (fun u:World=>absT hx64 u)
          have CL:=hid (fun u:World=>Ldexp1000 u)
          have hd:decide ((k:Int)<(4096:Nat))=true:=by simp;omega
          have hle:=leT (m:=magW x) (by unfold magW;omega)
          have hkt:=kpT_take hkz;rw [←hx] at hkt;have hkb:k<4611686018427387904:=by omega
          obtain ⟨mx,hmx⟩:∃ m,m=magW x:=⟨_,rfl⟩;rw [←hmx] at CA hle
          cases hs:smT x
          · rw [hs,if_neg (by decide)] at hkt
            have hle2:(FloatKind.f64.format.order mx 9110782046170513408==some .lt || FloatKind.f64.format.order mx 9110782046170513408==some .eq)=false:=by
             rw [hle,hmx];exact hs
            have HN:Aside (Rf w.heap.size wr v (kpT (zs.take (k+1)))∧Below w.heap.size w wr):=by rw [hkt];exact HA.out
            clear hle hkt hs hx hmx HA hkz
            go_wp2_with (first | (go_at_call 4;refine (CA.out _).mono ?_;rintro r u1 ⟨rfl,hu⟩;rw [hu];clear hu) | (go_at_call 5;refine (CL.out _).mono ?_;rintro r u1 ⟨rfl,hu⟩;rw [hu];clear hu))
            go_roundg (gk-1)
            case measure=>omega
            case rel=>exact ⟨k+1,_,by omega,by first | rfl | simp,rfl,HN.out⟩
          · rw [hs,if_pos rfl] at hkt
            have hle2:(FloatKind.f64.format.order mx 9110782046170513408==some .lt || FloatKind.f64.format.order mx 9110782046170513408==some .eq)=true:=by
             rw [hle,hmx];exact hs
            obtain ⟨v2,W2,hrun0,hO2,hg2,hb2⟩:=append_flts (wr.alloc (Obj.cells #[.float .f64 x] 23)) w.heap.size v (kpT (zs.take k)) [x] (some ⟨wr.heap.size,0,none⟩) 1 1 22 (HA.out.1.alloc _) rfl
             (fun _=>⟨wr.heap.size,0,rfl,fun i hi=>by
              obtain rfl:i=0:=by simp at hi;omega
              unfold World.cell?;simp only [heap_alloc_new];rfl⟩) (by simp) (by have:=kpT_len (zs.take k);rw [List.length_take] at this;omega) (by have:=HA.out.2.size;simp;omega)
            have HN:Aside (Rf w.heap.size W2 v2 (kpT (zs.take (k+1)))∧Below w.heap.size w W2):=by
             rw [hkt];exact ⟨hO2,(HA.out.2.alloc HA.out.2.size _).grown hg2 (by have:=HA.out.2.size;simp;omega) (fun k e=>(HA.out.1.lt k e).1)⟩
            have HJ:=qsd hrun0;clear hle hkt hs hx hmx HA hkz hrun0 hO2 hg2 hb2
            go_wp2_with (first | (go_at_call 4;refine (CA.out _).mono ?_;rintro r u1 ⟨rfl,hu⟩;rw [hu];clear hu) | (go_at_call 5;refine (CL.out _).mono ?_;rintro r u1 ⟨rfl,hu⟩;rw [hu];clear hu) | (at_builtin;refine wpList_append_flt rfl _ _ rfl _ _ rfl rfl v2 W2 HJ.out ?_))
            go_roundg (gk-1)
            case measure=>omega
            case rel=>exact ⟨k+1,_,by omega,by first | rfl | simp,rfl,HN.out⟩
        · obtain rfl:k=4096:=by omega
          have hd:decide (((4096:Nat):Int)<(4096:Nat))=false:=by simp
          obtain ⟨Wk,hWk⟩:∃ W,W=wr:=⟨_,rfl⟩;subst hWk;obtain ⟨ao,co,rfl,hco⟩:=HA.out.1.shape0
          have P1:Aside (Fs Wk.heap.size Wk ao K∧Below w.heap.size w Wk):=by
           have h:=HA.out.1.fs;rw [show zs.take 4096=zs from List.take_of_length_le (by rw [HZ.out];exact Nat.le_refl _),←HX.out.2.2.2.1] at h
           exact ⟨h,HA.out.2⟩
          have hKe:(kpT (zs.take 4096)).length=K.length:=by rw [show zs.take 4096=zs from List.take_of_length_le (by rw [HZ.out];exact Nat.le_refl _),←HX.out.2.2.2.1]
          rw [hKe] at hco ⊢;clear HA hKe;obtain ⟨N,hN⟩:∃ N,N=K.length:=⟨_,rfl⟩;rw [←hN] at hco ⊢;have HN:=qsd hN;have hNb:N<4611686018427387904:=by have:=HX.out.2.2.2.2.1;omega
          clear hN
          go_wp2_with fail
          refine (New7 _).mono ?_;rintro r u5 ⟨rfl,hA,hb⟩;obtain ⟨g,hg⟩:∃ g,g=Wk.heap.size:=⟨_,rfl⟩;rw [←hg] at hA ⊢;have P5:Aside (Acc7 u5 g 0 ⟨0,0,0,0,0,0⟩∧Below Wk.heap.size Wk u5∧Wk.heap.size≤g):=⟨hA,hb,by rw [hg];exact Nat.le_refl _⟩
          clear hb hA hg;go_wp2
          go_loopg [9,49] N (fun gk sv iv wr=>∃ (k:Nat),gk+k=N∧iv=.int .i64 (k:Nat)∧sv=.float .f64 (stF (K.take k)).1∧Aside (Acc7 wr g (vS (stF (K.take k)).2) (sS (stF (K.take k)).2)∧Below Wk.heap.size Wk wr))
          case atStart=>exact ⟨0,by omega,by simp,by simp [stF],by simpa [vS,sS,stF] using P5.out.1,P5.out.2.1⟩
          case round =>
           obtain ⟨k,hgk,rfl,rfl,HA⟩:=hrel;have HG:=qsd P5.out.2.2;clear P5
           by_cases hk:k<N
           · have hkK:k<K.length:=by rw [←HN.out];exact hk
             obtain ⟨b,off,rfl,hc⟩:=P1.out.1.at HA.out.2 k hkK;obtain ⟨x,hx⟩:∃ x,x=K.getD k 0:=⟨_,rfl⟩;rw [←hx] at hc;obtain ⟨s,hs⟩:∃ s,s=(stF (K.take k)).1:=⟨_,rfl⟩;rw [←hs];obtain ⟨q1,q2,q3⟩:=HX.out.2.2.2.2.2.2.2.1 k (by omega)
             obtain ⟨_,r2,_⟩:=HX.out.2.2.2.2.2.2.2.1 (k+1) (by omega)
             have est:=stF_snoc (K.take k) x;rw [hx,←take_snocT K k hkK,←hx,←hs] at est;obtain ⟨hi,hhi⟩:∃ z,z=(sumP s x).1:=⟨_,rfl⟩;obtain ⟨lo,hlo⟩:∃ z,z=(sumP s x).2:=⟨_,rfl⟩;rw [←hhi,←hlo] at est
             have hlo64:lo<18446744073709551616:=by
              have:lo ∈ (stF (K.take (k+1))).2:=by rw [est];simp
              exact (r2 lo this).1
             have CS:=hid (fun u:World=>Sum_all s x u)
             rw [←hhi,←hlo] at CS;have HQ:=(qsd (ai q2 (ai q3 (ai hlo64 est))));have hd:decide ((k:Int)<(N:Nat))=true:=by simp;omega
             have hkb:k<4611686018427387904:=by omega
             clear q1 q2 q3 r2 est hhi hlo hlo64 hx hs hkK
             go_wp2_with fail
             refine (CS.out _).mono ?_;rintro r u6 ⟨rfl,hb⟩;have C:=hid (addT (stF (K.take k)).2 lo g (u6.alloc (Obj.cells #[.float .f64 hi,.float .f64 lo] 29)) ((HA.out.1.below hb HA.out.1.lt).below (below_alloc _ _) (Nat.lt_of_lt_of_le HA.out.1.lt hb.size)) (fun y hy=>(HQ.out.1 y hy).1) HQ.out.2.2.1 (by rw [HQ.out.2.1];have:=HX.out.2.2.2.2.1;have:=HN.out;omega))
             have B6:Aside (Below Wk.heap.size Wk (u6.alloc (Obj.cells #[.float .f64 hi,.float .f64 lo] 29))):=(HA.out.2.trans (hb.mono HA.out.2.size)).trans ((below_alloc _ _).mono (HA.out.2.trans (hb.mono HA.out.2.size)).size);clear hb CS HA
             go_wp2_with fail
             refine C.out.mono ?_;rintro r u7 ⟨rfl,hA3,hbut⟩
             have H3:Aside (Acc7 u7 g (vS (stF (K.take (k+1))).2) (sS (stF (K.take (k+1))).2)∧Below Wk.heap.size Wk u7):=by
              rw [HQ.out.2.2.2];exact ⟨hA3,But.below B6.out hbut B6.out.size HG.out⟩
             have HS:Aside ((stF (K.take (k+1))).1=hi):=by rw [HQ.out.2.2.2];rfl
             clear hA3 hbut C B6;go_wp2
             go_roundg (gk-1)
             case measure=>omega
             case rel=>exact ⟨k+1,by omega,by first | rfl | simp,by rw [HS.out],H3.out⟩
           · obtain rfl:N=k:=by omega
             have hd:decide ((N:Int)<(N:Nat))=false:=by simp
             have eK:K.take N=K:=List.take_of_length_le (by rw [HN.out];exact Nat.le_refl _)
             rw [eK] at HA ⊢;obtain ⟨q1,q2,q3⟩:=HX.out.2.2.2.2.2.2.2.1 N (by rw [HN.out];exact Nat.le_refl _)
             rw [eK] at q1 q2 q3;obtain ⟨s,hs⟩:∃ s,s=(stF K).1:=⟨_,rfl⟩;obtain ⟨Ls,hLs⟩:∃ L,L=(stF K).2:=⟨_,rfl⟩;obtain ⟨_,e1,e2,e3,e4⟩:=HX.out.2.2.2.2.2.2.2;rw [←hs] at e1 e2 e3 q1 ⊢;rw [←hLs] at HA e2 e3 q2 q3;have hbd:=vS_bound K HX.out.2.2.2.2.2.1 K.length (Nat.le_refl _);rw [List.take_length] at hbd
             have hHB:-(HB:Int)<vS K∧vS K<(HB:Int):=by
              have h3:K.length*QB≤65536*QB:=Nat.mul_le_mul_right _ (by have:=HX.out.2.2.2.2.1;omega)
              have h4:=QB_HB;have h5:=QB_pos;omega
             obtain ⟨d1,d2,d3⟩:=rd_same (mode:=mode) hHB.1 hHB.2 e3 e4 hM0 hM4;obtain ⟨p1,p2⟩:=sS_pos (Ls++[s]) (Ls++[s]).length (Nat.le_refl _);rw [List.take_length] at p1 p2;have hok:(sS (Ls++[s])).ok:=p1.ok (by rw [p2,List.length_append,q3];have:=HX.out.2.2.2.2.1;have:=HN.out;simp;omega)
             have CA:=hid (addT Ls s g wr HA.out.1 (fun y hy=>(q2 y hy).1) q1 (by rw [q3];have:=HX.out.2.2.2.2.1;have:=HN.out;omega))
             have CR:=hid (fun (u:World) (hb:Below Wk.heap.size Wk u)=>Running10 K ao N co u HN.out ((P1.out.1.below hb).mono hb.size) HX.out.2.2.2.2.2.1 hco (by omega))
             rw [←e1] at CR;have CQ:=hid (fun (u:World) (hA:Acc7 u g (vS (Ls++[s])) (sS (Ls++[s]))) (hT:Tab u)=>Round10 g (vS (Ls++[s])) (sS (Ls++[s])) mode 0 0 u hA hok hT hM0 hM4 (by decide))
             have CE:=hid (fun (u:World) (hb:Below Wk.heap.size Wk u) (hT:Tab u)=>Exact10_any K ao N co mode 0 0 u HN.out ((P1.out.1.below hb).mono hb.size) HX.out.2.2.2.2.2.1 hT hM0 hM4 (by decide) (by have:=HX.out.2.2.2.2.1;have:=HN.out;omega))
             have CQ2:Hid (∀ (u:World) (hA:Acc7 u g (vS (Ls++[s])) (sS (Ls++[s]))) (hT:Tab u),Calls Tryd.prog 11 #[.pointer (some ⟨g,0,none⟩),.int .i64 mode,.agg #[.int .i64 0,.int .i64 0]] u fun r w'=>r=.returned (.tuple #[.float .f64 (rd10 (vS K) (sS (Ls++[s])) mode 0 0).1,.int .i64 (rd10 (vS K) (sS (Ls++[s])) mode 0 0).2])∧Below u.heap.size u w'):=by
              intro u hA hT;have:=CQ.out u hA hT;rw [e2] at this;exact this
             obtain ⟨X,hX⟩:∃ X,X=(rd10 (vS K) (sS (Ls++[s])) mode 0 0).1:=⟨_,rfl⟩;obtain ⟨Y,hY⟩:∃ Y,Y=(rd10 (vS K) (sS K) mode 0 0).1:=⟨_,rfl⟩;rw [d1,←hX] at CQ2;rw [d2,←hY] at CE;rw [←hX,←hY] at d3;have HD:=qsd d3;have BA:=qsd HA.out.2;have HTb:=qsd (fun (u:World) (hb:Below Wk.heap.size Wk u)=>HX.out.2.2.2.2.2.2.1.belows (P1.out.2.trans (hb.mono P1.out.2.size)))
             clear CQ d1 d2 d3 hX hY e1 e2 e3 e4 q1 q2 q3 hbd hHB p1 p2 hok eK hs hLs HA
             go_wp2_with fail
             refine CA.out.mono ?_;rintro r u8 ⟨rfl,hA8,hbut⟩;have B8:=(qsd (ai hA8 ((But.below BA.out hbut BA.out.size HG.out))));clear hA8 hbut CA BA;have C:=hid (CR.out u8 B8.out.2);clear CR
             go_wp2_with (go_at_call 10;refine C.out.mono ?_;rintro r u9 ⟨rfl,hb⟩;have B9:=(qsd (ai ((B8.out.1.below hb B8.out.1.lt)) ((B8.out.2.trans (hb.mono B8.out.2.size)))));clear hb)
             have C2:=hid (CQ2.out u9 B9.out.1 (HTb.out u9 B9.out.2));clear CQ2;refine C2.out.mono ?_;rintro r v1 ⟨rfl,hb⟩;have B10:=qsd (B9.out.2.trans (hb.mono B9.out.2.size));clear hb C2;have C3:=hid (CE.out v1 B10.out (HTb.out v1 B10.out));clear CE
             go_wp2_with fail
             refine C3.out.mono ?_;rintro r v2 ⟨rfl,hb⟩;have B11:=qsd (P1.out.2.trans ((B10.out.trans (hb.mono B10.out.size)).mono P1.out.2.size));clear hb C3
             rcases HD.out with e|⟨e|e,f|f⟩
             · rw [e]
               go_wp2;go_ret;exact ⟨rfl,B11.out⟩
             · rw [e,f]
               go_wp2;go_ret;exact ⟨rfl,B11.out⟩
             · rw [e,f]
               go_wp2;go_ret;exact ⟨rfl,B11.out⟩
             · rw [e,f]
               go_wp2;go_ret;exact ⟨rfl,B11.out⟩
             · rw [e,f]
               go_wp2;go_ret;exact ⟨rfl,B11.out⟩
     · have d3:decide ((4096:Int)<(n1:Nat))=false:=by simp;omega
       go_enter Tryd.func3,Tryd.ntmps3;have HZ:Aside (zs.length=n1):=by have:=HX.out.1;first | exact this | (show zs.length=_;omega)
       have hM0:(0:Int)≤mode:=by omega
       have hM4:mode≤(4:Int):=by omega
       have O0:Aside (Rf w.heap.size (w.alloc (Obj.cells #[.float .f64 4602678819172646912] 23)) (.slice (some ⟨w.heap.size,0,none⟩) 1 1) (kpT (zs.take 0))∧Below w.heap.size w (w.alloc (Obj.cells #[.float .f64 4602678819172646912] 23))) :=
        ⟨⟨rfl,.inr ⟨w.heap.size,1,#[.float .f64 4602678819172646912],rfl,Nat.le_refl _,heap_alloc_new w _,Nat.le_refl _,by decide,rfl,rfl⟩⟩,(Below.refl _ _).alloc (Nat.le_refl _) _⟩
       go_wp2
       go_loopg [5,31] n1 (fun gk kv iv wr=>∃ (k:Nat) (v:Value),gk+k=n1∧iv=.int .i64 (k:Nat)∧kv=v∧Aside (Rf w.heap.size wr v (kpT (zs.take k))∧Below w.heap.size w wr))
       case atStart=>exact ⟨0,_,by omega,by simp,rfl,O0.out⟩
       case round =>
        clear O0;obtain ⟨k,v,hgk,rfl,hv,HA⟩:=hrel;have hv':=hv.symm;clear hv;subst hv'
        by_cases hk:k<n1
        · have hkz:k<zs.length:=by rw [HZ.out];exact hk
          obtain ⟨b,off,rfl,hc⟩:=HX.out.2.2.1.at HA.out.2 k hkz;obtain ⟨x,hx⟩:∃ x,x=zs.getD k 0:=⟨_,rfl⟩;rw [←hx] at hc;have hx64:x<18446744073709551616:=by rw [hx];exact HX.out.2.1.get k
          have CA:=hid (fun u:World=>absT hx64 u)
          have CL:=hid (fun u:World=>Ldexp1000 u)
          have hd:decide ((k:Int)<(n1:Nat))=true:=by simp;omega
          have hle:=leT (m:=magW x) (by unfold magW;omega)
          have hkt:=kpT_take hkz;rw [←hx] at hkt;have hkb:k<4611686018427387904:=by omega
          obtain ⟨mx,hmx⟩:∃ m,m=magW x:=⟨_,rfl⟩;rw [←hmx] at CA hle
          cases hs:smT x
          · rw [hs,if_neg (by decide)] at hkt
            have hle2:(FloatKind.f64.format.order mx 9110782046170513408==some .lt || FloatKind.f64.format.order mx 9110782046170513408==some .eq)=false:=by
             rw [hle,hmx];exact hs
            have HN:Aside (Rf w.heap.size wr v (kpT (zs.take (k+1)))∧Below w.heap.size w wr):=by rw [hkt];exact HA.out
            clear hle hkt hs hx hmx HA hkz
            go_wp2_with (first | (go_at_call 4;refine (CA.out _).mono ?_;rintro r u1 ⟨rfl,hu⟩;rw [hu];clear hu) | (go_at_call 5;refine (CL.out _).mono ?_;rintro r u1 ⟨rfl,hu⟩;rw [hu];clear hu))
            go_roundg (gk-1)
            case measure=>omega
            case rel=>exact ⟨k+1,_,by omega,by first | rfl | simp,rfl,HN.out⟩
          · rw [hs,if_pos rfl] at hkt
            have hle2:(FloatKind.f64.format.order mx 9110782046170513408==some .lt || FloatKind.f64.format.order mx 9110782046170513408==some .eq)=true:=by
             rw [hle,hmx];exact hs
            obtain ⟨v2,W2,hrun0,hO2,hg2,hb2⟩:=append_flts (wr.alloc (Obj.cells #[.float .f64 x] 23)) w.heap.size v (kpT (zs.take k)) [x] (some ⟨wr.heap.size,0,none⟩) 1 1 22 (HA.out.1.alloc _) rfl
             (fun _=>⟨wr.heap.size,0,rfl,fun i hi=>by
              obtain rfl:i=0:=by simp at hi;omega
              unfold World.cell?;simp only [heap_alloc_new];rfl⟩) (by simp) (by have:=kpT_len (zs.take k);rw [List.length_take] at this;omega) (by have:=HA.out.2.size;simp;omega)
            have HN:Aside (Rf w.heap.size W2 v2 (kpT (zs.take (k+1)))∧Below w.heap.size w W2):=by
             rw [hkt];exact ⟨hO2,(HA.out.2.alloc HA.out.2.size _).grown hg2 (by have:=HA.out.2.size;simp;omega) (fun k e=>(HA.out.1.lt k e).1)⟩
            have HJ:=qsd hrun0;clear hle hkt hs hx hmx HA hkz hrun0 hO2 hg2 hb2
            go_wp2_with (first | (go_at_call 4;refine (CA.out _).mono ?_;rintro r u1 ⟨rfl,hu⟩;rw [hu];clear hu) | (go_at_call 5;refine (CL.out _).mono ?_;rintro r u1 ⟨rfl,hu⟩;rw [hu];clear hu) | (at_builtin;refine wpList_append_flt rfl _ _ rfl _ _ rfl rfl v2 W2 HJ.out ?_))
            go_roundg (gk-1)
            case measure=>omega
            case rel=>exact ⟨k+1,_,by omega,by first | rfl | simp,rfl,HN.out⟩
        · obtain rfl:n1=k:=by omega
          have hd:decide (((n1:Nat):Int)<(n1:Nat))=false:=by simp
          obtain ⟨Wk,hWk⟩:∃ W,W=wr:=⟨_,rfl⟩;subst hWk;obtain ⟨ao,co,rfl,hco⟩:=HA.out.1.shape0
          have P1:Aside (Fs Wk.heap.size Wk ao K∧Below w.heap.size w Wk):=by
           have h:=HA.out.1.fs;rw [show zs.take n1=zs from List.take_of_length_le (by rw [HZ.out];exact Nat.le_refl _),←HX.out.2.2.2.1] at h
           exact ⟨h,HA.out.2⟩
          have hKe:(kpT (zs.take n1)).length=K.length:=by rw [show zs.take n1=zs from List.take_of_length_le (by rw [HZ.out];exact Nat.le_refl _),←HX.out.2.2.2.1]
          rw [hKe] at hco ⊢;clear HA hKe;obtain ⟨N,hN⟩:∃ N,N=K.length:=⟨_,rfl⟩;rw [←hN] at hco ⊢;have HN:=qsd hN;have hNb:N<4611686018427387904:=by have:=HX.out.2.2.2.2.1;omega
          clear hN
          go_wp2_with fail
          refine (New7 _).mono ?_;rintro r u5 ⟨rfl,hA,hb⟩;obtain ⟨g,hg⟩:∃ g,g=Wk.heap.size:=⟨_,rfl⟩;rw [←hg] at hA ⊢;have P5:Aside (Acc7 u5 g 0 ⟨0,0,0,0,0,0⟩∧Below Wk.heap.size Wk u5∧Wk.heap.size≤g):=⟨hA,hb,by rw [hg];exact Nat.le_refl _⟩
          clear hb hA hg;go_wp2
          go_loopg [9,49] N (fun gk sv iv wr=>∃ (k:Nat),gk+k=N∧iv=.int .i64 (k:Nat)∧sv=.float .f64 (stF (K.take k)).1∧Aside (Acc7 wr g (vS (stF (K.take k)).2) (sS (stF (K.take k)).2)∧Below Wk.heap.size Wk wr))
          case atStart=>exact ⟨0,by omega,by simp,by simp [stF],by simpa [vS,sS,stF] using P5.out.1,P5.out.2.1⟩
          case round =>
           obtain ⟨k,hgk,rfl,rfl,HA⟩:=hrel;have HG:=qsd P5.out.2.2;clear P5
           by_cases hk:k<N
           · have hkK:k<K.length:=by rw [←HN.out];exact hk
             obtain ⟨b,off,rfl,hc⟩:=P1.out.1.at HA.out.2 k hkK;obtain ⟨x,hx⟩:∃ x,x=K.getD k 0:=⟨_,rfl⟩;rw [←hx] at hc;obtain ⟨s,hs⟩:∃ s,s=(stF (K.take k)).1:=⟨_,rfl⟩;rw [←hs];obtain ⟨q1,q2,q3⟩:=HX.out.2.2.2.2.2.2.2.1 k (by omega)
             obtain ⟨_,r2,_⟩:=HX.out.2.2.2.2.2.2.2.1 (k+1) (by omega)
             have est:=stF_snoc (K.take k) x;rw [hx,←take_snocT K k hkK,←hx,←hs] at est;obtain ⟨hi,hhi⟩:∃ z,z=(sumP s x).1:=⟨_,rfl⟩;obtain ⟨lo,hlo⟩:∃ z,z=(sumP s x).2:=⟨_,rfl⟩;rw [←hhi,←hlo] at est
             have hlo64:lo<18446744073709551616:=by
              have:lo ∈ (stF (K.take (k+1))).2:=by rw [est];simp
              exact (r2 lo this).1
             have CS:=hid (fun u:World=>Sum_all s x u)
             rw [←hhi,←hlo] at CS;have HQ:=(qsd (ai q2 (ai q3 (ai hlo64 est))));have hd:decide ((k:Int)<(N:Nat))=true:=by simp;omega
             have hkb:k<4611686018427387904:=by omega
             clear q1 q2 q3 r2 est hhi hlo hlo64 hx hs hkK
             go_wp2_with fail
             refine (CS.out _).mono ?_;rintro r u6 ⟨rfl,hb⟩;have C:=hid (addT (stF (K.take k)).2 lo g (u6.alloc (Obj.cells #[.float .f64 hi,.float .f64 lo] 29)) ((HA.out.1.below hb HA.out.1.lt).below (below_alloc _ _) (Nat.lt_of_lt_of_le HA.out.1.lt hb.size)) (fun y hy=>(HQ.out.1 y hy).1) HQ.out.2.2.1 (by rw [HQ.out.2.1];have:=HX.out.2.2.2.2.1;have:=HN.out;omega))
             have B6:Aside (Below Wk.heap.size Wk (u6.alloc (Obj.cells #[.float .f64 hi,.float .f64 lo] 29))):=(HA.out.2.trans (hb.mono HA.out.2.size)).trans ((below_alloc _ _).mono (HA.out.2.trans (hb.mono HA.out.2.size)).size);clear hb CS HA
             go_wp2_with fail
             refine C.out.mono ?_;rintro r u7 ⟨rfl,hA3,hbut⟩
             have H3:Aside (Acc7 u7 g (vS (stF (K.take (k+1))).2) (sS (stF (K.take (k+1))).2)∧Below Wk.heap.size Wk u7):=by
              rw [HQ.out.2.2.2];exact ⟨hA3,But.below B6.out hbut B6.out.size HG.out⟩
             have HS:Aside ((stF (K.take (k+1))).1=hi):=by rw [HQ.out.2.2.2];rfl
             clear hA3 hbut C B6;go_wp2
             go_roundg (gk-1)
             case measure=>omega
             case rel=>exact ⟨k+1,by omega,by first | rfl | simp,by rw [HS.out],H3.out⟩
           · obtain rfl:N=k:=by omega
             have hd:decide ((N:Int)<(N:Nat))=false:=by simp
             have eK:K.take N=K:=List.take_of_length_le (by rw [HN.out];exact Nat.le_refl _)
             rw [eK] at HA ⊢;obtain ⟨q1,q2,q3⟩:=HX.out.2.2.2.2.2.2.2.1 N (by rw [HN.out];exact Nat.le_refl _)
             rw [eK] at q1 q2 q3;obtain ⟨s,hs⟩:∃ s,s=(stF K).1:=⟨_,rfl⟩;obtain ⟨Ls,hLs⟩:∃ L,L=(stF K).2:=⟨_,rfl⟩;obtain ⟨_,e1,e2,e3,e4⟩:=HX.out.2.2.2.2.2.2.2;rw [←hs] at e1 e2 e3 q1 ⊢;rw [←hLs] at HA e2 e3 q2 q3;have hbd:=vS_bound K HX.out.2.2.2.2.2.1 K.length (Nat.le_refl _);rw [List.take_length] at hbd
             have hHB:-(HB:Int)<vS K∧vS K<(HB:Int):=by
              have h3:K.length*QB≤65536*QB:=Nat.mul_le_mul_right _ (by have:=HX.out.2.2.2.2.1;omega)
              have h4:=QB_HB;have h5:=QB_pos;omega
             obtain ⟨d1,d2,d3⟩:=rd_same (mode:=mode) hHB.1 hHB.2 e3 e4 hM0 hM4;obtain ⟨p1,p2⟩:=sS_pos (Ls++[s]) (Ls++[s]).length (Nat.le_refl _);rw [List.take_length] at p1 p2;have hok:(sS (Ls++[s])).ok:=p1.ok (by rw [p2,List.length_append,q3];have:=HX.out.2.2.2.2.1;have:=HN.out;simp;omega)
             have CA:=hid (addT Ls s g wr HA.out.1 (fun y hy=>(q2 y hy).1) q1 (by rw [q3];have:=HX.out.2.2.2.2.1;have:=HN.out;omega))
             have CR:=hid (fun (u:World) (hb:Below Wk.heap.size Wk u)=>Running10 K ao N co u HN.out ((P1.out.1.below hb).mono hb.size) HX.out.2.2.2.2.2.1 hco (by omega))
             rw [←e1] at CR;have CQ:=hid (fun (u:World) (hA:Acc7 u g (vS (Ls++[s])) (sS (Ls++[s]))) (hT:Tab u)=>Round10 g (vS (Ls++[s])) (sS (Ls++[s])) mode 0 0 u hA hok hT hM0 hM4 (by decide))
             have CE:=hid (fun (u:World) (hb:Below Wk.heap.size Wk u) (hT:Tab u)=>Exact10_any K ao N co mode 0 0 u HN.out ((P1.out.1.below hb).mono hb.size) HX.out.2.2.2.2.2.1 hT hM0 hM4 (by decide) (by have:=HX.out.2.2.2.2.1;have:=HN.out;omega))
             have CQ2:Hid (∀ (u:World) (hA:Acc7 u g (vS (Ls++[s])) (sS (Ls++[s]))) (hT:Tab u),Calls Tryd.prog 11 #[.pointer (some ⟨g,0,none⟩),.int .i64 mode,.agg #[.int .i64 0,.int .i64 0]] u fun r w'=>r=.returned (.tuple #[.float .f64 (rd10 (vS K) (sS (Ls++[s])) mode 0 0).1,.int .i64 (rd10 (vS K) (sS (Ls++[s])) mode 0 0).2])∧Below u.heap.size u w'):=by
              intro u hA hT;have:=CQ.out u hA hT;rw [e2] at this;exact this
             obtain ⟨X,hX⟩:∃ X,X=(rd10 (vS K) (sS (Ls++[s])) mode 0 0).1:=⟨_,rfl⟩;obtain ⟨Y,hY⟩:∃ Y,Y=(rd10 (vS K) (sS K) mode 0 0).1:=⟨_,rfl⟩;rw [d1,←hX] at CQ2;rw [d2,←hY] at CE;rw [←hX,←hY] at d3;have HD:=qsd d3;have BA:=qsd HA.out.2;have HTb:=qsd (fun (u:World) (hb:Below Wk.heap.size Wk u)=>HX.out.2.2.2.2.2.2.1.belows (P1.out.2.trans (hb.mono P1.out.2.size)))
             clear CQ d1 d2 d3 hX hY e1 e2 e3 e4 q1 q2 q3 hbd hHB p1 p2 hok eK hs hLs HA
             go_wp2_with fail
             refine CA.out.mono ?_;rintro r u8 ⟨rfl,hA8,hbut⟩;have B8:=(qsd (ai hA8 ((But.below BA.out hbut BA.out.size HG.out))));clear hA8 hbut CA BA;have C:=hid (CR.out u8 B8.out.2);clear CR
             go_wp2_with (go_at_call 10;refine C.out.mono ?_;rintro r u9 ⟨rfl,hb⟩;have B9:=(qsd (ai ((B8.out.1.below hb B8.out.1.lt)) ((B8.out.2.trans (hb.mono B8.out.2.size)))));clear hb)
             have C2:=hid (CQ2.out u9 B9.out.1 (HTb.out u9 B9.out.2));clear CQ2;refine C2.out.mono ?_;rintro r v1 ⟨rfl,hb⟩;have B10:=qsd (B9.out.2.trans (hb.mono B9.out.2.size));clear hb C2;have C3:=hid (CE.out v1 B10.out (HTb.out v1 B10.out));clear CE
             go_wp2_with fail
             refine C3.out.mono ?_;rintro r v2 ⟨rfl,hb⟩;have B11:=qsd (P1.out.2.trans ((B10.out.trans (hb.mono B10.out.size)).mono P1.out.2.size));clear hb C3
             rcases HD.out with e|⟨e|e,f|f⟩
             · rw [e]
               go_wp2;go_ret;exact ⟨rfl,B11.out⟩
             · rw [e,f]
               go_wp2;go_ret;exact ⟨rfl,B11.out⟩
             · rw [e,f]
               go_wp2;go_ret;exact ⟨rfl,B11.out⟩
             · rw [e,f]
               go_wp2;go_ret;exact ⟨rfl,B11.out⟩
             · rw [e,f]
               go_wp2;go_ret;exact ⟨rfl,B11.out⟩
end
end Go.Proofs.YtaofncmoehebmaaDoor
