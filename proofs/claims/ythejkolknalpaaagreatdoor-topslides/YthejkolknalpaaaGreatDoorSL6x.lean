import Derived.Test.YthejkolknalpaaaGreatDoorD30x
import Derived.Test.YthejkolknalpaaaGreatDoorD21x
import Derived.Test.YthejkolknalpaaaGreatDoorS11ax
import Derived.Test.YthejkolknalpaaaGreatDoorM1x
set_option linter.unusedVariables false
set_option linter.unusedSimpArgs false
set_option maxHeartbeats 16000000
set_option maxRecDepth 20000
namespace Go.Proofs.YthejkolknalpaaaGreatDoor
namespace J
end J
section
open Go.RowKit J
attribute [local go_sem] st_float
theorem told20 (K:Nat→Int) (g gl n sl cl b T o s c:Nat) (L R xs:List Nat) (C:List Value) (w:World) (hC:Bl w g T C) (l0:C[0]?=some (.slice (some ⟨gl,0,none⟩) n n)) (l2:C[2]?=some (I20 c)) (c0:C[o]?=some (.slice (some ⟨b,0,none⟩) n n)) (c1:C[o+1]?=some (I20 sl)) (c2:C[o+2]?=some (I20 cl)) (hL:Bl w gl 28 (L.map Fw10)) (hR:Bl w b 3 (R.map I20)) (hlL:L.length=n) (hl:R.length=n) (hs:s<n) (hsl:sl<n) (hn:n≤4096) (hc:xs.length=c) (hcn:c≤n) (hcl:cl≤n)
 (hA:IsAt L s n xs) (hJ:rg R sl cl=plc20 s n (stL K xs)) (z:Nat×Int) (hz:endR K xs=z) :
 Calls Tryz.prog 49 #[.pointer (some ⟨g,o,none⟩),.pointer (some ⟨g,0,none⟩)] w fun r w'=>r=.returned (.tuple #[.float .f64 z.1,.int .i64 z.2])∧∃ k,w'=w.drewN k:=by
 have jl:(stL K xs).length=cl:=by have:=congrArg List.length hJ;rw [rg_len] at this;simpa using this.symm
 have e0:=hC.cell _ _ l0;have e2:=hC.cell _ _ l2;have d0:=hC.cell _ _ c0;have d1:=hC.cell _ _ c1;have d2:=hC.cell _ _ c2;have HF:=hid (fun j:Nat=>firstI g n n sl b o R (w.drewN j) d0 d1 hR hl hsl)
 have HN:=hid (fun u:World=>B.nan_any u)
 unfold endR at hz
 rcases Nat.eq_zero_or_pos c with ec|ec
 · have:xs=[]:=List.eq_nil_of_length_eq_zero (by omega)
   rw [if_pos this] at hz;subst hz;have q:w.cell? ⟨g,2,none⟩=some (.int .i64 0):=by rw [e2,ec];rfl
   clear hC l0 l2 c0 c1 c2 hL hR e0 e2 d0 d1 d2 hA hJ HF HN jl this;go_enter Tryz.func49,Tryz.ntmps49;go_wp2;refine bodyPost_ret (v:=.tuple #[.float .f64 0,.int .i64 3]) (by simp [results,Tryz.results49,go_sem]) rfl ?_
   exact ⟨rfl,0,rfl⟩
 · have hx:xs≠[]:=by rintro rfl;simp at hc;omega
   rw [if_neg hx] at hz;have q0:((c:Int)==0)=false:=by simp;omega
   have q1:(c:Int)≠0:=by omega
   have q2:c≠0:=by omega
   have e2':w.cell? ⟨g,2,none⟩=some (.int .i64 (c:Nat)):=e2
   rcases Nat.eq_zero_or_pos cl with el|el
   · have h0:stL K xs=[]:=List.eq_nil_of_length_eq_zero (by omega)
     rw [if_pos h0] at hz;subst hz;have q:w.cell? ⟨g,o+2,none⟩=some (.int .i64 0):=by rw [d2,el];rfl
     clear hC l0 l2 c0 c1 c2 hL hR e0 e2 d0 d1 d2 hA hJ HF jl hx h0 ec;go_enter Tryz.func49,Tryz.ntmps49
     go_wp2_with (go_at_call 37;refine (HN.out _).mono ?_;rintro r v ⟨rfl,rfl⟩)
     refine bodyPost_ret (v:=.tuple #[.float .f64 9221120237041090560,.int .i64 0]) (by simp [results,Tryz.results49,go_sem]) rfl ?_
     exact ⟨rfl,0,rfl⟩
   · have h0:stL K xs≠[]:=by intro h;rw [h] at jl;simp at jl;omega
     rw [if_neg h0] at hz;subst hz;have p0:((cl:Int)==0)=false:=by simp;omega
     have p1:(cl:Int)≠0:=by omega
     have p2:cl≠0:=by omega
     have d2':w.cell? ⟨g,o+2,none⟩=some (.int .i64 (cl:Nat)):=d2;obtain ⟨k,hk⟩:∃ k,cl=k+1:=⟨cl-1,by omega⟩
     obtain ⟨v,hv⟩:∃ v,v=R.getD sl 0:=⟨_,rfl⟩
     have ev:v=(s+(stL K xs).getD 0 0)%n:=by
      have h1:=plc_get (s:=s) (n:=n) (J:=stL K xs) (t:=0) (by omega)
      rw [←hJ,hk,rg_first (by omega)] at h1
      rw [hv];exact h1
     have hvn:v<n:=by rw [ev];exact Nat.mod_lt _ (by omega)
     have ex:=elF hL v (by omega)
     have hA0:=hA _ (end_nn h0).1;rw [←ev] at hA0;rw [hA0] at ex;obtain ⟨y,hy⟩:∃ y,y=xs.getD ((stL K xs).getD 0 0) 0:=⟨_,rfl⟩;rw [←hy] at ex ⊢;rw [←hv] at HF;have s1:(v:Int)<(n:Int):=by omega
     have s0:¬ ((v:Int)<0):=by omega
     clear hC l0 l2 c0 c1 c2 hL hR e2 d0 d1 d2 hA hJ jl hx h0 ec HN hv ev hA0 hy hk el;go_enter Tryz.func49,Tryz.ntmps49
     go_wp2_with fail
     go_quiet (first | (go_at_call 86;exact Calls.quiet_of (HF.out _)))
     go_wp2;refine bodyPost_ret (v:=.tuple #[.float .f64 y,.int .i64 0]) (by simp [results,Tryz.results49,go_sem]) rfl ?_
     exact ⟨rfl,_,rfl⟩
end
section
open Go.RowKit J
attribute [local go_sem] st_float
theorem rg_take {R:List Nat}{s c m:Nat}(h:m≤c):rg R s m=(rg R s c).take m:=by
 unfold rg;rw [←List.map_take,List.take_range,Nat.min_eq_left h]
theorem set_same20 {C:List Value}{i:Nat}{v:Value}(h:C[i]?=some v):C.set i v=C:=by
 obtain ⟨h1,q⟩:=List.getElem?_eq_some_iff.1 h;rw [←q];exact List.set_getElem_self h1
theorem enter20 (K:Nat→Int) (side:Int) (g gl n sl cl b T o s c x:Nat) (L R xs:List Nat) (C:List Value) (w:World) (hK:∀ a b:Nat,B.oc (tk20 a) (tk20 b)=side↔K a<K b)
 (hC:Bl w g T C) (l0:C[0]?=some (.slice (some ⟨gl,0,none⟩) n n)) (c0:C[o]?=some (.slice (some ⟨b,0,none⟩) n n)) (c1:C[o+1]?=some (I20 sl)) (c2:C[o+2]?=some (I20 cl)) (c3:C[o+3]?=some (.int .i64 side)) (hL:Bl w gl 28 (L.map Fw10)) (hR:Bl w b 3 (R.map I20)) (hlL:L.length=n) (hl:R.length=n) (hgb:g≠b) (hgl:g≠gl) (hbl:b≠gl) (hs:s<n) (hsl:sl<n) (hn:n≤4096) (hc:xs.length=c) (hcn:c<n)
 (hW:W64 (xs++[x])) (hA:IsAt L s n (xs++[x])) (hJ:rg R sl cl=plc20 s n (stL K xs)) :
 Calls Tryz.prog 58 #[.pointer (some ⟨g,o,none⟩),.pointer (some ⟨g,0,none⟩),.int .i64 (((s+c)%n:Nat):Int)] w fun r w'=>r=.returned (.tuple #[])∧∃ (R':List Nat) (cl':Nat),Bl w' g T (C.set (o+2) (I20 cl'))∧Bl w' b 3 (R'.map I20)∧R'.length=n∧cl'≤n∧rg R' sl cl'=plc20 s n (stL K (xs++[x]))∧Ch2 g b w w':=by
 have jl:(stL K xs).length=cl:=by have:=congrArg List.length hJ;rw [rg_len] at this;simpa using this.symm
 have hcl:cl≤c:=by rw [←jl,←hc];exact stL_len K xs
 have hx:x<18446744073709551616:=hW x (by simp)
 have hp:(s+c)%n<n:=Nat.mod_lt _ (by omega)
 have ex:=elF hL ((s+c)%n) (by omega)
 have eA:L.getD ((s+c)%n) 0=x:=by
  have:=hA c (by simp;omega)
  rw [this,←hc];exact getD_last20 xs x
 rw [eA] at ex;have e0:=hC.cell _ _ l0;obtain ⟨p,hpp⟩:∃ p,p=(s+c)%n:=⟨_,rfl⟩;rw [←hpp] at ex hp ⊢;have s1:(p:Int)<(n:Int):=by omega
 have s0:¬ ((p:Int)<0):=by omega
 have HCL:=hid (fun u:World=>class20 hx u)
 have hls:(stL K (xs++[x])).length≤n:=by have:=stL_len K (xs++[x]);simp at this;omega
 cases hnx:nanW x
 case true =>
  rw [hnx] at HCL;have HX:=(qsd (ai hJ (ai (stL_nan (K:=K) (xs:=xs) hnx) (ai hC (ai hR (ai hl (set_same20 c2)))))));have HZ:=(qsd (ai hcl hcn));clear hC l0 c0 c1 c2 c3 hL hR hA hJ eA hpp hls hnx hK hW hcl hcn jl hc;go_enter Tryz.func58,Tryz.ntmps58
  go_wp2_with fail
  refine (HCL.out _).mono ?_;rintro r v ⟨⟨k,rfl,hk⟩,hb⟩;go_wp2;refine bodyPost_ret (v:=.tuple #[]) (by simp [results,Tryz.results58,go_sem]) rfl ?_
  obtain ⟨x1,x2,x3,x4,x5,x6⟩:=HX.out;refine ⟨rfl,R,cl,by rw [x6];exact x3.below hb x3.lt,x4.below hb x4.lt,x5,by have:=HZ.out;omega,by rw [x2];exact x1,(Ch2.refl g b w).below hb⟩
 case false =>
 rw [hnx] at HCL;have HG:=(qsd (ai hK (ai hC (ai l0 (ai c0 (ai c1 (ai c2 (ai c3 (ai hL (ai hR (ai hlL hl)))))))))));have HG2:=(qsd (ai hJ (ai hA (ai hW (ai jl (ai hpp (ai hnx (ai hc (ai hcn hcl)))))))));clear hC l0 c0 c1 c2 c3 hL hR hA hJ eA hpp hls hnx hK hW hcl jl hcn hc;go_enter Tryz.func58,Tryz.ntmps58
 go_wp2_with fail
 refine (HCL.out _).mono ?_;rintro r W ⟨⟨k,rfl,hk⟩,hb⟩;have HB:=qsd hb;clear hb HCL
 go_wp2_with fail
 clear hk ex e0 s1 s0
 go_loopg [] cl (fun gk wr=>∃ m:Nat,gk=m∧m≤cl∧Aside (Bl wr g T (C.set (o+2) (I20 m))∧But g W wr∧∀ t,m≤t→t<cl→¬ K (xs.getD ((stL K xs).getD t 0) 0)<K x))
 case atStart =>
  exact ⟨cl,rfl,Nat.le_refl _,qsd ⟨by rw [set_same20 HG.out.2.2.2.2.2.1];exact HG.out.2.1.below HB.out HG.out.2.1.lt,But.refl _ _,fun t h1 h2=>absurd h1 (by omega)⟩⟩
 case round =>
  obtain ⟨m,hgk,hm,HI⟩:=hrel;obtain ⟨hK,hC,l0,c0,c1,c2,c3,hL,hR,hlL,hl⟩:=HG.out;obtain ⟨hJ,hA,hW,jl,hpp,hnx,hc,hcn,hcl⟩:=HG2.out;obtain ⟨i1,i2,i3⟩:=HI.out;have d0:wr.cell? ⟨g,o,none⟩=some (.slice (some ⟨b,0,none⟩) n n):=i1.cell _ _ (by rw [List.getElem?_set_ne (by omega)];exact c0)
  have d1:wr.cell? ⟨g,o+1,none⟩=some (.int .i64 (sl:Nat)):=i1.cell _ _ (by rw [List.getElem?_set_ne (by omega)];exact c1)
  have d3:wr.cell? ⟨g,o+3,none⟩=some (.int .i64 side):=i1.cell _ _ (by rw [List.getElem?_set_ne (by omega)];exact c3)
  have hlen:o+2<C.length:=(List.getElem?_eq_some_iff.1 c2).1;have d2:wr.cell? ⟨g,o+2,none⟩=some (I20 m):=i1.cell _ _ (by rw [List.getElem?_set_self hlen])
  have z0:wr.cell? ⟨g,0,none⟩=some (.slice (some ⟨gl,0,none⟩) n n):=i1.cell _ _ (by rw [List.getElem?_set_ne (by omega)];exact l0)
  have hLr:Bl wr gl 28 (L.map Fw10):=(hL.below HB.out hL.lt).but i2 (Ne.symm hgl);have hRr:Bl wr b 3 (R.map I20):=(hR.below HB.out hR.lt).but i2 (Ne.symm hgb);have HPU:=hid (fun j:Nat=>pushI g n n sl m T b p o R (C.set (o+2) (I20 m)) (wr.drewN j) i1 (by rw [List.getElem?_set_ne (by omega)];exact c0) (by rw [List.getElem?_set_ne (by omega)];exact c1) (by rw [List.getElem?_set_self hlen]) hRr hl hgb hsl hn (by omega))
  have HPOST:Aside ((m=0∨K (xs.getD ((stL K xs).getD (m-1) 0) 0)<K x)→∀ (v V:World),Bl v g T ((C.set (o+2) (I20 m)).set (o+2) (I20 (m+1)))→Bl v b 3 ((R.map I20).set ((sl+m)%n) (.int .i64 (p:Nat)))→But b wr V→But g V v→∃ (R':List Nat) (cl':Nat),Bl v g T (C.set (o+2) (I20 cl'))∧Bl v b 3 (R'.map I20)∧R'.length=n∧cl'≤n∧rg R' sl cl'=plc20 s n (stL K (xs++[x]))∧Ch2 g b w v):=by
   intro hk v V h1 h2 h3 h4;refine ⟨R.set ((sl+m)%n) p,m+1,by rw [List.set_set] at h1;exact h1,by rw [List.map_set];exact h2,by rw [List.length_set];exact hl,by omega,?_,?_⟩
   · have:=rg_set (R:=R) (s:=sl) (c:=m) p (by omega) (by omega)
     rw [hl] at this;rw [this,stL_pop hnx (by omega) (fun t a b=>i3 t a (by omega)) hk,rg_take (c:=cl) hm,hJ,hc,hpp]
     simp [plc20,List.map_take]
   · have q1:Ch2 g b w W:=(Ch2.refl g b w).below HB.out
     exact ((q1.trans i2.ch2).trans h3.ch2').trans h4.ch2
  clear hJ hA hW hL hR hC l0 c0 c1 c2 c3 hlen
  rcases Nat.eq_zero_or_pos m with em|em
  · subst em
    have d2':wr.cell? ⟨g,o+2,none⟩=some (.int .i64 0):=d2;clear d2 HI i1 i2 i3 hLr hRr hK hgk hm jl hpp hnx hc hcn hcl hl hlL HG HG2 HB
    go_wp2_with fail
    go_quiet (fail)
    go_wp2_with fail
    refine (HPU.out _).mono ?_;rintro r v ⟨rfl,h1,h2,V,h3,h4⟩;have HE:=qsd (HPOST.out (by first | exact .inl rfl | exact .inl trivial) v V h1 h2 ⟨h3.os,h3.tape,h3.output,h3.size,h3.block⟩ h4)
    clear h1 h2 h3 h4 HPU HPOST;go_wp2;refine bodyPost_end (v:=.tuple #[]) (by simp [results,Tryz.results58,go_sem]) rfl ?_
    exact ⟨rfl,HE.out⟩
  · obtain ⟨m1,hm1⟩:∃ q,m=q+1:=⟨m-1,by omega⟩
    have hJ:=HG2.out.1;have hA:=HG2.out.2.1;have hW:=HG2.out.2.2.1;obtain ⟨y,hy⟩:∃ y,y=xs.getD ((stL K xs).getD m1 0) 0:=⟨_,rfl⟩;obtain ⟨pv,hpv⟩:∃ q,q=R.getD ((sl+m1)%n) 0:=⟨_,rfl⟩
    have e1:pv=(s+(stL K xs).getD m1 0)%n:=by
     have a1:=plc_get (s:=s) (n:=n) (J:=stL K xs) (t:=m1) (by omega)
     rw [←hJ,rg_get (by omega),hl] at a1
     rw [hpv];exact a1
    have hjm:(stL K xs).getD m1 0<xs.length:=by
     have hm2:m1<(stL K xs).length:=by omega
     rw [List.getD_eq_getElem?_getD,List.getElem?_eq_getElem hm2]
     exact (stL_mem.1 (List.getElem_mem hm2)).1
    have hpn:pv<n:=by rw [e1];exact Nat.mod_lt _ (by omega)
    have e2:L.getD pv 0=y:=by
     rw [e1,hA _ (by rw [List.length_append];omega),getD_snoc20 _ _ _ hjm,hy]
    have ey:=elF hLr pv (by omega)
    rw [e2] at ey
    have hyW:y<18446744073709551616:=by
     rw [hy,←getD_snoc20 xs x _ hjm];exact hW.get _
    have HLS:=hid (fun j:Nat=>lastI g n n sl m1 b o R (wr.drewN j) d0 d1 (by rw [hm1] at d2;exact d2) hRr hl hsl hn (by omega))
    rw [←hpv] at HLS;have HO:=hid (fun u:World=>order20 hyW hx u)
    have hKy:=hK y x;have HDL:=hid (fun j:Nat=>dropLastI g m1 T o (C.set (o+2) (I20 m)) (wr.drewN j) i1 (by rw [List.getElem?_set_self (List.getElem?_eq_some_iff.1 HG.out.2.2.2.2.2.1).1,hm1]) (by omega))
    obtain ⟨oc,hoc⟩:∃ q,q=B.oc (tk20 y) (tk20 x):=⟨_,rfl⟩;rw [←hoc] at HO hKy;have d2':wr.cell? ⟨g,o+2,none⟩=some (.int .i64 (m:Nat)):=d2;have p1:decide ((0:Int)<(m:Int))=true:=by simp;omega
    have p2:(0:Int)<(m:Int):=by omega
    have p3:0<m:=by omega
    have s1:(pv:Int)<(n:Int):=by omega
    have s0:¬ ((pv:Int)<0):=by omega
    have HQ:Aside (m=m1+1∧m≤cl∧y=xs.getD ((stL K xs).getD m1 0) 0∧But g W wr∧(∀ t,m≤t→t<cl→¬ K (xs.getD ((stL K xs).getD t 0) 0)<K x)∧gk=m):=qsd ⟨hm1,hm,hy,i2,i3,hgk⟩;clear hJ hA hW d2 HI i1 i2 i3 hLr hRr hK hgk hm jl hpp hnx hc hcn hcl hl hlL HG HG2 HB hy hpv e1 hjm e2 hyW hm1 hoc em
    by_cases hd:K y<K x
    · have eo:oc=side:=hKy.2 hd
      have t1:(oc==side)=true:=by simp [eo]
      rw [eo] at HO;have HK:Aside (K (xs.getD ((stL K xs).getD (m-1) 0) 0)<K x):=qsd (by rw [HQ.out.1,Nat.add_sub_cancel,←HQ.out.2.2.1];exact hd)
      clear hKy HDL hd t1 eo HQ
      go_wp2_with fail
      go_quiet (first | (go_at_call 92;exact Calls.quiet_of (HLS.out _)) | (go_at_call 5;exact Calls.quiet_of_same (HO.out _)))
      clear HLS HO
      go_wp2_with fail
      refine (HPU.out _).mono ?_;rintro r v ⟨rfl,h1,h2,V,h3,h4⟩;have HE:=qsd (HPOST.out (.inr HK.out) v V h1 h2 ⟨h3.os,h3.tape,h3.output,h3.size,h3.block⟩ h4);clear h1 h2 h3 h4 HPU HPOST;go_wp2;refine bodyPost_end (v:=.tuple #[]) (by simp [results,Tryz.results58,go_sem]) rfl ?_
      exact ⟨rfl,HE.out⟩
    · have eo:oc≠side:=fun h=>hd (hKy.1 h)
      have t1:(oc==side)=false:=by simp [eo]
      have HK:Aside (∀ t,m1≤t→t<cl→¬ K (xs.getD ((stL K xs).getD t 0) 0)<K x):=qsd (fun t a b=>by
       rcases Nat.lt_or_ge t m with q|q
       · obtain rfl:t=m1:=by have:=HQ.out.1;omega
         rw [←HQ.out.2.2.1];exact hd
       · exact HQ.out.2.2.2.2.1 t q b)
      clear hKy hd HPU HPOST
      go_wp2_with fail
      go_quiet (first | (go_at_call 92;exact Calls.quiet_of (HLS.out _)) | (go_at_call 5;exact Calls.quiet_of_same (HO.out _)))
      clear HLS HO
      go_wp2_with fail
      refine (HDL.out _).mono ?_;rintro r v ⟨rfl,h1,h2⟩;have HE:=qsd (ai h1 h2);clear h1 h2 HDL;go_wp2
      go_roundg m1
      case measure=>have:=HQ.out;omega
      case rel =>
       have q:=HE.out;rw [List.set_set] at q;have q2:=q.2;exact ⟨m1,rfl,by have:=HQ.out;omega,qsd ⟨q.1,HQ.out.2.2.2.1.trans ⟨q2.os,q2.tape,q2.output,q2.size,q2.block⟩,HK.out⟩⟩
end
section
open Go.RowKit J
theorem Tryz.und_ints20:Tryz.prog.underlying 46=some (.slice 3):=by kernel_rfl
theorem Tryz.info_int20:(Tryz.prog.info? 3).map (fun i=>(i.zero,i.size,i.bytes))=some (some (.int .i64 0),1,8):=by kernel_rfl
theorem make_ints20 (z:Int) (n:Nat) (hz:z=(n:Int)) (hn:n≤17592186044416) (w:World) :
 (Instr.makeSlice 46 (.int .i64 z) (.int .i64 z)).run Tryz.prog w=.ok (.slice (some ⟨w.heap.size,0,none⟩) n n) (w.alloc (.cells (madeCells #[.int .i64 0] n) 3)):=by
 subst hz;exact run_make_row' 46 3 (.int .i64 0) 8 Tryz.und_ints20 Tryz.info_int20 rfl .i64 .i64 n (by omega) (by omega) w
theorem made_ints20 (w:World) (n:Nat):Bl (w.alloc (.cells (madeCells #[.int .i64 0] n) 3)) w.heap.size 3 ((List.replicate n 0).map I20):=by
 unfold Bl;rw [heap_alloc_new w (.cells (madeCells #[.int .i64 0] n) 3)]
 congr 2
 apply Array.toList_inj.1
 rw [toList_madeCells_one];simp [I20]
theorem Tryz.row_rf:∃ d:TypeDesc,Tryz.prog.underlying 44=some d∧d.isRow=true:=by
 have h:(Tryz.prog.underlying 44).any (·.isRow)=true:=by kernel_rfl
 obtain ⟨d,h1,h2⟩:=(Option.any_eq_true _ _).1 h;exact ⟨d,h1,h2⟩
theorem Tryz.row_ri:∃ d:TypeDesc,Tryz.prog.underlying 48=some d∧d.isRow=true:=by
 have h:(Tryz.prog.underlying 48).any (·.isRow)=true:=by kernel_rfl
 obtain ⟨d,h1,h2⟩:=(Option.any_eq_true _ _).1 h;exact ⟨d,h1,h2⟩
theorem Tryz.row_ed:∃ d:TypeDesc,Tryz.prog.underlying 50=some d∧d.isRow=true:=by
 have h:(Tryz.prog.underlying 50).any (·.isRow)=true:=by kernel_rfl
 obtain ⟨d,h1,h2⟩:=(Option.any_eq_true _ _).1 h;exact ⟨d,h1,h2⟩
theorem ring_close {fn:Func}{p:Tmp}{ty:TypeId}(hfn:fn.results=#[.cell p ty]) {w base:World}{tmps:Array Value}{x y z a b c:Value}(h2:tmps.getD p undef=.pointer (some ⟨w.heap.size,0,none⟩)) (hZ:Bl base w.heap.size ty [x,y,z])
 (hdr:∃ d:TypeDesc,Tryz.prog.underlying ty=some d∧d.isRow=true) (hi:(Tryz.prog.info? ty).map (·.size)=some 3) {R:Ending→World→Prop} (hR:∀ W,But w.heap.size base W→R (.returned (.agg #[a,b,c])) W) :
 bodyPost Tryz.prog fn R .ret ⟨tmps,[]⟩ (((base.setCell ⟨w.heap.size,0,none⟩ a).setCell ⟨w.heap.size,1,none⟩ b).setCell ⟨w.heap.size,2,none⟩ c) :=
 bodyPost_ret (v:=.agg #[a,b,c]) (row_result hfn _ _ w.heap.size [a,b,c] h2 (((hZ.set 0 _).set 1 _).set 2 _) hdr hi) rfl (hR _ ((((But.refl _ _).set 0 _).set 1 _).set 2 _))
theorem edge_close {fn:Func}{p:Tmp}{ty:TypeId}(hfn:fn.results=#[.cell p ty]) {w base:World}{tmps:Array Value}{x y z u a b c d:Value}(h2:tmps.getD p undef=.pointer (some ⟨w.heap.size,0,none⟩)) (hZ:Bl base w.heap.size ty [x,y,z,u])
 (hdr:∃ d:TypeDesc,Tryz.prog.underlying ty=some d∧d.isRow=true) (hi:(Tryz.prog.info? ty).map (·.size)=some 4) {R:Ending→World→Prop} (hR:∀ W,But w.heap.size base W→R (.returned (.agg #[a,b,c,d])) W) :
 bodyPost Tryz.prog fn R .ret ⟨tmps,[]⟩ ((((base.setCell ⟨w.heap.size,0,none⟩ a).setCell ⟨w.heap.size,1,none⟩ b).setCell ⟨w.heap.size,2,none⟩ c).setCell ⟨w.heap.size,3,none⟩ d) :=
 bodyPost_ret (v:=.agg #[a,b,c,d]) (row_result hfn _ _ w.heap.size [a,b,c,d] h2 ((((hZ.set 0 _).set 1 _).set 2 _).set 3 _) hdr hi) rfl (hR _ (((((But.refl _ _).set 0 _).set 1 _).set 2 _).set 3 _))
theorem newRingF (n:Nat) (hn:n≤4096) (w:World) :
 Calls Tryz.prog 19 #[.int .i64 (n:Nat)] w fun r w'=>∃ b,r=.returned (.agg #[.slice (some ⟨b,0,none⟩) n n,.int .i64 0,.int .i64 0])∧w.heap.size≤b∧b<w'.heap.size∧Bl w' b 28 ((List.replicate n 0).map Fw10)∧Below w.heap.size w w':=by
 have hmk:=make_floats ((n:Nat):Int) n rfl (by omega)
 obtain ⟨W,hWW⟩:∃ W,W=w.alloc (Obj.cells #[.slice none 0 0,.int .i64 0,.int .i64 0] 44):=⟨_,rfl⟩;have sW:W.heap.size=w.heap.size+1:=by rw [hWW];simp
 have F:Aside (Bl W w.heap.size 44 [.slice none 0 0,.int .i64 0,.int .i64 0]∧Below w.heap.size w W∧W.heap.size=w.heap.size+1):=⟨by rw [hWW];exact Bl.new w 44 [_,_,_],by rw [hWW];exact bel_alloc _ _,sW⟩
 obtain ⟨V,hV⟩:∃ V,V=W.alloc (.cells (madeCells #[.float .f64 0] n) 28):=⟨_,rfl⟩
 have F2:Aside (Bl V W.heap.size 28 ((List.replicate n 0).map Fw10)∧Below W.heap.size W V∧Bl V w.heap.size 44 [.slice none 0 0,.int .i64 0,.int .i64 0]∧V.heap.size=W.heap.size+1):=by
  have hb:Below W.heap.size W V:=by rw [hV];exact bel_alloc _ _
  exact ⟨by rw [hV];exact OwnF.made W n,hb,F.out.1.below hb (by omega),by rw [hV];simp⟩
 have HW:=(qsd (ai hWW hV));clear hWW hV sW;go_enter Tryz.func19,Tryz.ntmps19
 go_upto_region 1 with fail
 rw [←HW.out.1];have sz:w.heap.size≠W.heap.size:=by have:=F.out;omega
 have g0:V.cell? ⟨w.heap.size,0,none⟩=some (.slice none 0 0):=F2.out.2.2.1.cell 0 _ rfl;have g1:V.cell? ⟨w.heap.size,1,none⟩=some (.int .i64 0):=F2.out.2.2.1.cell 1 _ rfl;have g2:V.cell? ⟨w.heap.size,2,none⟩=some (.int .i64 0):=F2.out.2.2.1.cell 2 _ rfl;have f0:=F2.out.2.2.1.frozen 0;have f1:=F2.out.2.2.1.frozen 1;have f2:=F2.out.2.2.1.frozen 2;have hmk':(Instr.makeSlice 22 (.int .i64 ((n:Nat):Int)) (.int .i64 ((n:Nat):Int))).run Tryz.prog W=.ok (.slice (some ⟨W.heap.size,0,none⟩) n n) V:=by rw [hmk,HW.out.2]
 clear hmk;go_wp2;refine ring_close Tryz.results19 (by simp) F2.out.2.2.1 Tryz.row_rf (by kernel_rfl) ?_
 intro U hU;have q:=F.out;have q2:=F2.out;exact ⟨W.heap.size,rfl,by omega,by have:=hU.size;omega,q2.1.but hU (by omega),(But.below (q.2.1.trans (q2.2.1.mono (by omega))) hU (by omega) (Nat.le_refl _))⟩
theorem newRingI (n:Nat) (hn:n≤4096) (w:World) :
 Calls Tryz.prog 50 #[.int .i64 (n:Nat)] w fun r w'=>∃ b,r=.returned (.agg #[.slice (some ⟨b,0,none⟩) n n,.int .i64 0,.int .i64 0])∧w.heap.size≤b∧b<w'.heap.size∧Bl w' b 3 ((List.replicate n 0).map I20)∧Below w.heap.size w w':=by
 have hmk:=make_ints20 ((n:Nat):Int) n rfl (by omega)
 obtain ⟨W,hWW⟩:∃ W,W=w.alloc (Obj.cells #[.slice none 0 0,.int .i64 0,.int .i64 0] 48):=⟨_,rfl⟩;have sW:W.heap.size=w.heap.size+1:=by rw [hWW];simp
 have F:Aside (Bl W w.heap.size 48 [.slice none 0 0,.int .i64 0,.int .i64 0]∧Below w.heap.size w W∧W.heap.size=w.heap.size+1):=⟨by rw [hWW];exact Bl.new w 48 [_,_,_],by rw [hWW];exact bel_alloc _ _,sW⟩
 obtain ⟨V,hV⟩:∃ V,V=W.alloc (.cells (madeCells #[.int .i64 0] n) 3):=⟨_,rfl⟩
 have F2:Aside (Bl V W.heap.size 3 ((List.replicate n 0).map I20)∧Below W.heap.size W V∧Bl V w.heap.size 48 [.slice none 0 0,.int .i64 0,.int .i64 0]∧V.heap.size=W.heap.size+1):=by
  have hb:Below W.heap.size W V:=by rw [hV];exact bel_alloc _ _
  exact ⟨by rw [hV];exact made_ints20 W n,hb,F.out.1.below hb (by omega),by rw [hV];simp⟩
 have HW:=(qsd (ai hWW hV));clear hWW hV sW;go_enter Tryz.func50,Tryz.ntmps50
 go_upto_region 1 with fail
 rw [←HW.out.1];have sz:w.heap.size≠W.heap.size:=by have:=F.out;omega
 have g0:V.cell? ⟨w.heap.size,0,none⟩=some (.slice none 0 0):=F2.out.2.2.1.cell 0 _ rfl;have g1:V.cell? ⟨w.heap.size,1,none⟩=some (.int .i64 0):=F2.out.2.2.1.cell 1 _ rfl;have g2:V.cell? ⟨w.heap.size,2,none⟩=some (.int .i64 0):=F2.out.2.2.1.cell 2 _ rfl;have f0:=F2.out.2.2.1.frozen 0;have f1:=F2.out.2.2.1.frozen 1;have f2:=F2.out.2.2.1.frozen 2;have hmk':(Instr.makeSlice 46 (.int .i64 ((n:Nat):Int)) (.int .i64 ((n:Nat):Int))).run Tryz.prog W=.ok (.slice (some ⟨W.heap.size,0,none⟩) n n) V:=by rw [hmk,HW.out.2]
 clear hmk;go_wp2;refine ring_close Tryz.results50 (by simp) F2.out.2.2.1 Tryz.row_ri (by kernel_rfl) ?_
 intro U hU;have q:=F.out;have q2:=F2.out;exact ⟨W.heap.size,rfl,by omega,by have:=hU.size;omega,q2.1.but hU (by omega),(But.below (q.2.1.trans (q2.2.1.mono (by omega))) hU (by omega) (Nat.le_refl _))⟩
theorem newEdge20 (n:Nat) (side:Int) (hn:n≤4096) (w:World) :
 Calls Tryz.prog 20 #[.int .i64 (n:Nat),.int .i64 side] w fun r w'=>∃ b,r=.returned (.agg #[.slice (some ⟨b,0,none⟩) n n,.int .i64 0,.int .i64 0,.int .i64 side])∧w.heap.size≤b∧b<w'.heap.size∧Bl w' b 3 ((List.replicate n 0).map I20)∧Below w.heap.size w w':=by
 obtain ⟨W,hWW⟩:∃ W,W=w.alloc (Obj.cells #[.slice none 0 0,.int .i64 0,.int .i64 0,.int .i64 0] 50):=⟨_,rfl⟩;have sW:W.heap.size=w.heap.size+1:=by rw [hWW];simp
 have F:Aside (Bl W w.heap.size 50 [.slice none 0 0,.int .i64 0,.int .i64 0,.int .i64 0]∧Below w.heap.size w W∧W.heap.size=w.heap.size+1):=⟨by rw [hWW];exact Bl.new w 50 [_,_,_,_],by rw [hWW];exact bel_alloc _ _,sW⟩
 have HR:=hid (newRingI n hn W);have HW:=qsd hWW;clear hWW sW;go_enter Tryz.func20,Tryz.ntmps20
 go_upto_region 1 with fail
 rw [←HW.out]
 go_wp2_with fail
 refine HR.out.mono ?_;rintro r V ⟨b,rfl,h1,h2,h3,h4⟩;have hE:Bl V w.heap.size 50 [.slice none 0 0,.int .i64 0,.int .i64 0,.int .i64 0]:=F.out.1.below h4 (by have:=F.out;omega)
 have g0:V.cell? ⟨w.heap.size,0,none⟩=some (.slice none 0 0):=hE.cell 0 _ rfl;have g1:V.cell? ⟨w.heap.size,1,none⟩=some (.int .i64 0):=hE.cell 1 _ rfl;have g2:V.cell? ⟨w.heap.size,2,none⟩=some (.int .i64 0):=hE.cell 2 _ rfl;have g3:V.cell? ⟨w.heap.size,3,none⟩=some (.int .i64 0):=hE.cell 3 _ rfl;have f0:=hE.frozen 0;have f1:=hE.frozen 1;have f2:=hE.frozen 2;have f3:=hE.frozen 3;have HX:=(qsd (ai h1 (ai h2 (ai h3 (ai h4 hE)))));clear h1 h2 h3 h4 hE HR;go_wp2;obtain ⟨h1,h2,h3,h4,hE⟩:=HX.out;refine edge_close Tryz.results20 (by simp) hE Tryz.row_ed (by kernel_rfl) ?_
 intro U hU;have q:=F.out;exact ⟨b,rfl,by omega,by have:=hU.size;omega,h3.but hU (by omega),(But.below (q.2.1.trans (h4.mono (by omega))) hU (by have:=h4.size;omega) (Nat.le_refl _))⟩
abbrev cs20 (gl b1 b2 gs gq n s c s1 c1 s2 c2:Nat):List Value:=[.slice (some ⟨gl,0,none⟩) n n,I20 s,I20 c,.slice (some ⟨b1,0,none⟩) n n,I20 s1,I20 c1,.int .i64 (-1),.slice (some ⟨b2,0,none⟩) n n,I20 s2,I20 c2,.int .i64 1,.pointer (some ⟨gs,0,none⟩),.pointer (some ⟨gq,0,none⟩)]
abbrev aI20 (xs:List Nat):List (Nat×Int):=xs.map fun x=>(pK x 4607182418800017408,pT x 4607182418800017408)
abbrev qI20 (xs:List Nat):List (Nat×Int):=xs.map fun x=>(pK x x,pT x x)
abbrev hk20 (x:Nat):Int:=-tk20 x
structure Sv (w:World) (lo hi g gl b1 b2 gs gq n s s1 c1 s2 c2:Nat) (L R1 R2 xs:List Nat):Prop where
 bl:Bl w g 55 (cs20 gl b1 b2 gs gq n s xs.length s1 c1 s2 c2)
 hL:Bl w gl 28 (L.map Fw10)
 h1:Bl w b1 3 (R1.map I20)
 h2:Bl w b2 3 (R2.map I20)
 nL:L.length=n
 n1:R1.length=n
 n2:R2.length=n
 hs:s<n
 hs1:s1<n
 hs2:s2<n
 hn:n≤4096
 hx:rg L s xs.length=xs
 hc:xs.length≤n
 e1:rg R1 s1 c1=plc20 s n (stL tk20 xs)
 e2:rg R2 s2 c2=plc20 s n (stL hk20 xs)
 hS:At12 w gs (aI20 xs)
 hQ:At12 w gq (qI20 xs)
 hW:W64 xs
 ord:lo≤gl∧gl<b1∧b1<b2∧b2<gs∧gs<gq∧gq<g∧g<hi
def Sl (w:World) (lo hi g n:Nat) (xs:List Nat):Prop:=∃ gl b1 b2 gs gq s s1 c1 s2 c2 L R1 R2,Sv w lo hi g gl b1 b2 gs gq n s s1 c1 s2 c2 L R1 R2 xs
structure Fr20 (lo hi:Nat) (w w':World):Prop where
 os:w'.os=w.os
 tape:w'.tape=w.tape
 output:w'.output=w.output
 size:w.heap.size≤w'.heap.size
 block:∀ k,k<w.heap.size→¬ (lo≤k∧k<hi)→w'.heap[k]?=w.heap[k]?
theorem Fr20.trans {lo hi:Nat}{a b c:World}(p:Fr20 lo hi a b) (q:Fr20 lo hi b c):Fr20 lo hi a c :=
 ⟨q.os.trans p.os,q.tape.trans p.tape,q.output.trans p.output,Nat.le_trans p.size q.size,fun k hk h1=>(q.block k (Nat.lt_of_lt_of_le hk p.size) h1).trans (p.block k hk h1)⟩
theorem But.fr20 {lo hi g:Nat}{a b:World}(p:But g a b) (h0:lo≤g) (h1:g<hi):Fr20 lo hi a b:=⟨p.os,p.tape,p.output,p.size,fun k hk h=>p.block k hk (by rintro rfl;exact h ⟨h0,h1⟩)⟩
theorem Ch2.fr20 {lo hi g h:Nat}{a b:World}(p:Ch2 g h a b) (h0:lo≤g) (h1:g<hi) (h2:lo≤h) (h3:h<hi):Fr20 lo hi a b:=⟨p.os,p.tape,p.output,p.size,fun k hk q=>p.block k hk (by rintro rfl;exact q ⟨h0,h1⟩) (by rintro rfl;exact q ⟨h2,h3⟩)⟩
theorem Fr20.below {lo hi B:Nat}{a w w':World}(p:Below B a w) (q:Fr20 lo hi w w') (hB:B≤w.heap.size) (h:B≤lo):Below B a w' :=
 ⟨q.os.trans p.os,q.tape.trans p.tape,q.output.trans p.output,Nat.le_trans p.size q.size,fun k hk=>(q.block k (by omega) (by omega)).trans (p.block k hk)⟩
theorem At12.blk {w w':World}{g:Nat}{I:List (Nat×Int)}(h:At12 w g I) (hg:w'.heap[g]?=w.heap[g]?):At12 w' g I:=by
 obtain ⟨⟨L,a1,a2,a3,a4,a5,a6⟩,b⟩:=h;refine ⟨⟨L,a1,a2,a3,a4,a5,?_⟩,b⟩;unfold Ac Bl at a6 ⊢;rw [hg];exact a6
theorem At12.but {w w':World}{g g':Nat}{I:List (Nat×Int)}(h:At12 w g I) (hb:But g' w w') (hg:g≠g'):At12 w' g I:=h.blk (hb.block g h.lt hg)
theorem Bl.blk {w w':World}{g T:Nat}{C:List Value}(h:Bl w g T C) (hg:w'.heap[g]?=w.heap[g]?):Bl w' g T C:=by
 unfold Bl at h ⊢;rw [hg];exact h
theorem Sl.keep {w w':World}{lo hi g n:Nat}{xs:List Nat}(h:Sl w lo hi g n xs) (hb:∀ k,lo≤k→k<hi→k<w.heap.size→w'.heap[k]?=w.heap[k]?):Sl w' lo hi g n xs:=by
 obtain ⟨gl,b1,b2,gs,gq,s,s1,c1,s2,c2,L,R1,R2,h⟩:=h;have o:=h.ord;exact ⟨gl,b1,b2,gs,gq,s,s1,c1,s2,c2,L,R1,R2,h.bl.blk (hb _ (by omega) (by omega) h.bl.lt),h.hL.blk (hb _ (by omega) (by omega) h.hL.lt),h.h1.blk (hb _ (by omega) (by omega) h.h1.lt),h.h2.blk (hb _ (by omega) (by omega) h.h2.lt),h.nL,h.n1,h.n2,h.hs,h.hs1,h.hs2,h.hn,h.hx,h.hc,h.e1,h.e2,h.hS.blk (hb _ (by omega) (by omega) h.hS.lt),h.hQ.blk (hb _ (by omega) (by omega) h.hQ.lt),h.hW,h.ord⟩
theorem Sl.bel {w w':World}{lo hi g n:Nat}{xs:List Nat}(h:Sl w lo hi g n xs) (hb:Below w.heap.size w w'):Sl w' lo hi g n xs:=h.keep fun k _ _ hk=>hb.block k hk
theorem New20 (n:Nat) (h0:1≤n) (hn:n≤4096) (w:World) :
 Calls Tryz.prog 4 #[.int .i64 (n:Nat)] w fun r w'=>∃ g,r=.returned (.pointer (some ⟨g,0,none⟩))∧Sl w' w.heap.size w'.heap.size g n []∧Below w.heap.size w w':=by
 have HR:=hid (fun u:World=>newRingF n hn u)
 have HE:=hid (fun (sd:Int) (u:World)=>newEdge20 n sd hn u)
 have HN:=hid (fun u:World=>New7 u)
 have d1:decide ((n:Int)<1)=false:=by simp;omega
 have d2:decide ((4096:Int)<(n:Int))=false:=by simp;omega
 have d3:¬ ((n:Int)<1):=by omega
 have d4:¬ ((4096:Int)<(n:Int)):=by omega
 have HH:=(qsd (ai h0 hn));clear h0 hn;go_enter Tryz.func4,Tryz.ntmps4
 go_wp2_with fail
 refine (HR.out _).mono ?_;rintro r w1 ⟨gl,rfl,a1,a2,a3,a4⟩;have A:=(qsd (ai a1 (ai a2 (ai a3 a4))));clear a1 a2 a3 a4
 go_wp2_with fail
 refine (HE.out _ _).mono ?_;rintro r w2 ⟨b1,rfl,a1,a2,a3,a4⟩;have E1:=(qsd (ai a1 (ai a2 (ai a3 a4))));clear a1 a2 a3 a4
 go_wp2_with fail
 refine (HE.out _ _).mono ?_;rintro r w3 ⟨b2,rfl,a1,a2,a3,a4⟩;have E2:=(qsd (ai a1 (ai a2 (ai a3 a4))));clear a1 a2 a3 a4
 go_wp2_with fail
 refine (HN.out _).mono ?_;rintro r w4 ⟨rfl,a1,a2⟩;have N1:=(qsd (ai a1 a2));clear a1 a2;obtain ⟨gs,hgs⟩:∃ g,g=w3.heap.size:=⟨_,rfl⟩;rw [←hgs];have HGS:=qsd hgs;clear hgs
 go_wp2_with fail
 refine (HN.out _).mono ?_;rintro r w5 ⟨rfl,a1,a2⟩;have N2:=(qsd (ai a1 a2));clear a1 a2;obtain ⟨gq,hgq⟩:∃ g,g=w4.heap.size:=⟨_,rfl⟩;rw [←hgq];have HGQ:=qsd hgq;clear hgq HR HE HN;go_wp2;refine bodyPost_ret (v:=.pointer (some ⟨w5.heap.size,0,none⟩)) (by simp [results,Tryz.results4,go_sem]) rfl ?_
 obtain ⟨p1,p2,p3,p4⟩:=A.out;obtain ⟨q1,q2,q3,q4⟩:=E1.out;obtain ⟨r1,r2,r3,r4⟩:=E2.out;obtain ⟨s1,s2⟩:=N1.out;obtain ⟨t1,t2⟩:=N2.out;have hgs:=HGS.out;have hgq:=HGQ.out;rw [←hgs] at s1;rw [←hgq] at t1;have z1:=p4.size;have z2:=q4.size;have z3:=r4.size;have z4:=s2.size;have z5:=t2.size;have l4:=s1.lt;have l5:=t1.lt;obtain ⟨U,hU⟩:∃ U,U=w5.alloc (Obj.cells (cs20 gl b1 b2 gs gq n 0 0 0 0 0 0).toArray 55):=⟨_,rfl⟩;have u0:Below w5.heap.size w5 U:=by rw [hU];exact bel_alloc _ _
 have u1:Bl U w5.heap.size 55 (cs20 gl b1 b2 gs gq n 0 0 0 0 0 0):=by rw [hU];exact Bl.new _ _ _
 have u2:U.heap.size=w5.heap.size+1:=by rw [hU];simp
 refine ⟨w5.heap.size,rfl,?_,?_⟩
 · show Sl (w5.alloc (Obj.cells (cs20 gl b1 b2 gs gq n 0 0 0 0 0 0).toArray 55)) w.heap.size (w5.alloc (Obj.cells (cs20 gl b1 b2 gs gq n 0 0 0 0 0 0).toArray 55)).heap.size w5.heap.size n []
   rw [←hU];refine ⟨gl,b1,b2,gs,gq,0,0,0,0,0,List.replicate n 0,List.replicate n 0,List.replicate n 0,u1,?_,?_,?_,List.length_replicate,List.length_replicate,List.length_replicate,HH.out.1,HH.out.1,HH.out.1,HH.out.2,rfl,Nat.zero_le _,rfl,rfl,?_,?_,?_,?_⟩
   · exact ((((p3.below q4 (by omega)).below r4 (by omega)).below s2 (by omega)).below t2 (by omega)).below u0 (by omega)
   · exact (((q3.below r4 (by omega)).below s2 (by omega)).below t2 (by omega)).below u0 (by omega)
   · exact ((r3.below s2 (by omega)).below t2 (by omega)).below u0 (by omega)
   · exact ⟨(s1.below t2 (by omega)).below u0 (by omega),fun p hp=>absurd hp (by simp)⟩
   · exact ⟨t1.below u0 (by omega),fun p hp=>absurd hp (by simp)⟩
   · intro x hx;simp at hx
   · omega
 · show Below w.heap.size w (w5.alloc (Obj.cells (cs20 gl b1 b2 gs gq n 0 0 0 0 0 0).toArray 55))
   rw [←hU];exact ((((p4.trans (q4.mono (by omega))).trans (r4.mono (by omega))).trans (s2.mono (by omega))).trans (t2.mono (by omega))).trans (u0.mono (by omega))
theorem leave_math {K:Nat→Int}{x:Nat}{ys:List Nat}(s n:Nat):plc20 s n (if (stL K (x::ys)).head?=some 0 then (stL K (x::ys)).tail else stL K (x::ys))=plc20 ((s+1)%n) n (stL K ys):=by
 have e:(if (stL K (x::ys)).head?=some 0 then (stL K (x::ys)).tail else stL K (x::ys))=(stL K ys).map (·+1):=by
  rw [stL_cons]
  by_cases h:okB K (x::ys) 0=true
  · rw [if_pos h];rfl
  · rw [if_neg h,List.nil_append,if_neg]
    cases stL K ys with
    | nil=>simp
    | cons a t=>simp
 rw [e];simp only [plc20,List.map_map]
 apply List.map_congr_left
 intro i _;simp only [Function.comp];rw [Nat.mod_add_mod,show s+(i+1)=s+1+i by omega]
theorem stL_lt {K:Nat→Int}{xs:List Nat}{n:Nat}(h:xs.length≤n):∀ i ∈ stL K xs,i<n:=fun i hi=>Nat.lt_of_lt_of_le (stL_mem.1 hi).1 h
theorem leaveS20 {w:World}{lo hi g gl b1 b2 gs gq n s s1 c1 s2 c2 x:Nat}{L R1 R2 ys:List Nat}(h:Sv w lo hi g gl b1 b2 gs gq n s s1 c1 s2 c2 L R1 R2 (x::ys)) :
 Calls Tryz.prog 26 #[.pointer (some ⟨g,0,none⟩)] w fun r w'=>r=.returned (.tuple #[])∧Sl w' lo hi g n ys∧Fr20 lo hi w w':=by
 obtain ⟨bl,hL,h1,h2,nL,n1,n2,hs,hs1,hs2,hn,hx,hc,e1,e2,hS,hQ,hW,o⟩:=h;simp only [List.length_cons] at bl hx hc;have hxx:=hx;rw [rg_first (by omega)] at hxx
 obtain ⟨x0,x1⟩:=List.cons.inj hxx;have l1:c1≤n:=by have:=congrArg List.length e1;rw [rg_len,List.length_map] at this;have:=stL_len tk20 (x::ys);simp only [List.length_cons] at this;omega
 have l2:c2≤n:=by have:=congrArg List.length e2;rw [rg_len,List.length_map] at this;have:=stL_len hk20 (x::ys);simp only [List.length_cons] at this;omega
 have hxW:x<18446744073709551616:=hW x List.mem_cons_self;have HF:=hid (fun j:Nat=>firstF g n n s gl L (w.drewN j) (bl.cell 0 _ rfl) (bl.cell 1 _ rfl) hL nL hs)
 rw [x0] at HF;have d1:w.cell? ⟨g,1,none⟩=some (.int .i64 (s:Nat)):=bl.cell 1 _ rfl;have d11:w.cell? ⟨g,11,none⟩=some (.pointer (some ⟨gs,0,none⟩)):=bl.cell 11 _ rfl;have HX:=(qsd (ai bl (ai hL (ai h1 (ai h2 (ai nL (ai n1 (ai n2 (ai hs (ai hs1 (ai hs2 (ai hn (ai x1 (ai hc (ai e1 (ai e2 (ai hS (ai hQ (ai hW (ai o (ai l1 (ai l2 hxW))))))))))))))))))))));clear bl hL h1 h2 nL n1 n2 hs hs1 hs2 hn x1 x0 hxx hx hc e1 e2 hS hQ hW o l1 l2;go_enter Tryz.func26,Tryz.ntmps26
 go_wp2_with fail
 go_quiet (first | (go_at_call 51;exact Calls.quiet_of (HF.out _)))
 obtain ⟨bl,hL,h1,h2,nL,n1,n2,hs,hs1,hs2,hn,x1,hc,e1,e2,hS,hQ,hW,o,l1,l2,hxW'⟩:=HX.out;obtain ⟨w0,hw0⟩:∃ u,u=w.drewN nq:=⟨_,rfl⟩;have F0:Fr20 lo hi w w0:=by rw [hw0];exact ⟨rfl,rfl,rfl,Nat.le_refl _,fun _ _ _=>rfl⟩
 have bl0:Bl w0 g 55 (cs20 gl b1 b2 gs gq n s (ys.length+1) s1 c1 s2 c2):=by rw [hw0];exact bl
 have hL0:Bl w0 gl 28 (L.map Fw10):=by rw [hw0];exact hL
 have h10:Bl w0 b1 3 (R1.map I20):=by rw [hw0];exact h1
 have h20:Bl w0 b2 3 (R2.map I20):=by rw [hw0];exact h2
 have hS0:At12 w0 gs (aI20 (x::ys)):=by rw [hw0];exact hS
 have hQ0:At12 w0 gq (qI20 (x::ys)):=by rw [hw0];exact hQ
 have C1:=hid (take20 gs (aI20 ys) x w0 hS0 (by simp;omega) hxW)
 have k11:w0.cell? ⟨g,11,none⟩=some (.pointer (some ⟨gs,0,none⟩)):=bl0.cell 11 _ rfl;have HY:=(qsd (ai F0 (ai bl0 (ai hL0 (ai h10 (ai h20 hQ0))))));rw [←hw0];clear hw0 F0 bl0 hL0 h10 h20 hS0 hQ0 bl hL h1 h2 nL n1 n2 hs hs1 hs2 hn x1 hc e1 e2 hS hQ hW o l1 l2 hxW' d1 d11 HF
 go_wp2_with fail
 refine C1.out.mono ?_;rintro r w1 ⟨rfl,hS1,q1⟩;obtain ⟨F0,bl0,hL0,h10,h20,hQ0⟩:=HY.out;obtain ⟨bl,hL,h1,h2,nL,n1,n2,hs,hs1,hs2,hn,x1,hc,e1,e2,hS,hQ,hW,o,l1,l2,hxW'⟩:=HX.out;have F1:Fr20 lo hi w w1:=F0.trans (q1.fr20 (by omega) (by omega))
 have bl1:=bl0.but q1 (by omega)
 have hL1:=hL0.but q1 (by omega)
 have h11:=h10.but q1 (by omega)
 have h21:=h20.but q1 (by omega)
 have hQ1:=hQ0.but q1 (by omega)
 have C2:=hid (takeP20 gq (qI20 ys) x x w1 hQ1 (by simp;omega) hxW hxW)
 have k12:w1.cell? ⟨g,12,none⟩=some (.pointer (some ⟨gq,0,none⟩)):=bl1.cell 12 _ rfl;have HZ:=(qsd (ai F1 (ai bl1 (ai hL1 (ai h11 (ai h21 hS1))))));clear C1 k11 HY F0 bl0 hL0 h10 h20 hQ0 bl hL h1 h2 nL n1 n2 hs hs1 hs2 hn x1 hc e1 e2 hS hQ hW o l1 l2 hxW' F1 bl1 hL1 h11 h21 hS1 q1 hQ1
 go_wp2_with fail
 refine C2.out.mono ?_;rintro r w2 ⟨rfl,hQ2,q2⟩;obtain ⟨F1,bl1,hL1,h11,h21,hS1⟩:=HZ.out;obtain ⟨bl,hL,h1,h2,nL,n1,n2,hs,hs1,hs2,hn,x1,hc,e1,e2,hS,hQ,hW,o,l1,l2,hxW'⟩:=HX.out;have F2:Fr20 lo hi w w2:=F1.trans (q2.fr20 (by omega) (by omega))
 have bl2:=bl1.but q2 (by omega)
 have hL2:=hL1.but q2 (by omega)
 have h12:=h11.but q2 (by omega)
 have h22:=h21.but q2 (by omega)
 have hS2:=hS1.but q2 (by omega)
 have C3:=hid (leave20 g n s1 c1 b1 55 3 s R1 _ _ _ w2 bl2 rfl rfl rfl h12 n1 (by omega) hs hs1 hn l1 e1 (stL_lt (by simp only [List.length_cons];omega)) rfl)
 rw [leave_math] at C3;have HY:=(qsd (ai F2 (ai bl2 (ai hL2 (ai h12 (ai h22 (ai hS2 hQ2)))))));clear C2 k12 HZ F1 bl1 hL1 h11 h21 hS1 bl hL h1 h2 nL n1 n2 hs hs1 hs2 hn x1 hc e1 e2 hS hQ hW o l1 l2 hxW' F2 bl2 hL2 h12 h22 hS2 q2 hQ2
 go_wp2_with fail
 refine C3.out.mono ?_;rintro r w3 ⟨rfl,t1,d1,hb3,q3,u1,u2,u3⟩;obtain ⟨F2,bl2,hL2,h12,h22,hS2,hQ2⟩:=HY.out;obtain ⟨bl,hL,h1,h2,nL,n1,n2,hs,hs1,hs2,hn,x1,hc,e1,e2,hS,hQ,hW,o,l1,l2,hxW'⟩:=HX.out;have F3:Fr20 lo hi w w3:=F2.trans (q3.fr20 (by omega) (by omega))
 have bl3:Bl w3 g 55 (cs20 gl b1 b2 gs gq n s (ys.length+1) t1 d1 s2 c2):=hb3;have hL3:=hL2.but q3 (by omega)
 have h13:=h12.but q3 (by omega)
 have h23:=h22.but q3 (by omega)
 have hS3:=hS2.but q3 (by omega)
 have hQ3:=hQ2.but q3 (by omega)
 have C4:=hid (leave20 g n s2 c2 b2 55 7 s R2 _ _ _ w3 bl3 rfl rfl rfl h23 n2 (by omega) hs hs2 hn l2 e2 (stL_lt (by simp only [List.length_cons];omega)) rfl)
 rw [leave_math] at C4;have HZ:=(qsd (ai F3 (ai bl3 (ai hL3 (ai h13 (ai h23 (ai hS3 (ai hQ3 (ai u1 u3)))))))));clear C3 HY F2 bl2 hL2 h12 h22 hS2 hQ2 bl hL h1 h2 nL n1 n2 hs hs1 hs2 hn x1 hc e1 e2 hS hQ hW o l1 l2 hxW' F3 bl3 hL3 h13 h23 hS3 q3 hQ3 hb3 u1 u2 u3
 go_wp2_with fail
 refine C4.out.mono ?_;rintro r w4 ⟨rfl,t2,d2,hb4,q4,v1,v2,v3⟩;obtain ⟨F3,bl3,hL3,h13,h23,hS3,hQ3,u1,u3⟩:=HZ.out;obtain ⟨bl,hL,h1,h2,nL,n1,n2,hs,hs1,hs2,hn,x1,hc,e1,e2,hS,hQ,hW,o,l1,l2,hxW'⟩:=HX.out;have F4:Fr20 lo hi w w4:=F3.trans (q4.fr20 (by omega) (by omega))
 have bl4:Bl w4 g 55 (cs20 gl b1 b2 gs gq n s (ys.length+1) t1 d1 t2 d2):=hb4;have hL4:=hL3.but q4 (by omega)
 have h14:=h13.but q4 (by omega)
 have h24:=h23.but q4 (by omega)
 have hS4:=hS3.but q4 (by omega)
 have hQ4:=hQ3.but q4 (by omega)
 have C5:=hid (dropFirstF g n n s ys.length 55 (some ⟨gl,0,none⟩) _ w4 bl4 rfl rfl rfl hs hn (by omega))
 have HY:=(qsd (ai F4 (ai hL4 (ai h14 (ai h24 (ai hS4 (ai hQ4 (ai u1 (ai u3 (ai v1 v3))))))))));clear C4 HZ F3 bl3 hL3 h13 h23 hS3 hQ3 bl hL h1 h2 nL n1 n2 hs hs1 hs2 hn x1 hc e1 e2 hS hQ hW o l1 l2 hxW' F4 bl4 hL4 h14 h24 hS4 q4 hQ4 hb4 u1 u3 v1 v2 v3
 go_wp2_with fail
 refine C5.out.mono ?_;rintro r w5 ⟨rfl,hb5,q5⟩;have H5:=(qsd (ai hb5 q5));clear hb5 q5 C5;go_wp2;refine bodyPost_end (v:=.tuple #[]) (by simp [results,Tryz.results26,go_sem]) rfl ?_
 obtain ⟨hb5,q5⟩:=H5.out;obtain ⟨F4,hL4,h14,h24,hS4,hQ4,u1,u3,v1,v3⟩:=HY.out;obtain ⟨bl,hL,h1,h2,nL,n1,n2,hs,hs1,hs2,hn,x1,hc,e1,e2,hS,hQ,hW,o,l1,l2,hxW'⟩:=HX.out;refine ⟨rfl,⟨gl,b1,b2,gs,gq,(s+1)%n,t1,d1,t2,d2,L,R1,R2,hb5,hL4.but q5 (by omega),h14.but q5 (by omega),h24.but q5 (by omega),nL,n1,n2,Nat.mod_lt _ (by omega),u1,v1,hn,by rw [nL] at x1;exact x1,by omega,u3,v3,hS4.but q5 (by omega),hQ4.but q5 (by omega),fun y hy=>hW y (List.mem_cons_of_mem _ hy),o⟩,F4.trans (q5.fr20 (by omega) (by omega))⟩
theorem low_key (a b:Nat):B.oc (tk20 a) (tk20 b)=-1↔tk20 a<tk20 b:=by
 unfold B.oc;repeat' split
 all_goals constructor <;> intro h <;> first | omega | rfl | (exfalso;revert h;decide)
theorem high_key (a b:Nat):B.oc (tk20 a) (tk20 b)=1↔hk20 a<hk20 b:=by
 unfold B.oc hk20;repeat' split
 all_goals constructor <;> intro h <;> first | omega | rfl | (exfalso;revert h;decide)
theorem enterS20 {w:World}{lo hi g gl b1 b2 gs gq n s s1 c1 s2 c2:Nat}{L R1 R2 xs:List Nat}(x:Nat) (h:Sv w lo hi g gl b1 b2 gs gq n s s1 c1 s2 c2 L R1 R2 xs) (hr:xs.length<n) (hxW:x<18446744073709551616) :
 Calls Tryz.prog 27 #[.pointer (some ⟨g,0,none⟩),.float .f64 x] w fun r w'=>r=.returned (.tuple #[])∧Sl w' lo hi g n (xs++[x])∧Fr20 lo hi w w':=by
 obtain ⟨bl,hL,h1,h2,nL,n1,n2,hs,hs1,hs2,hn,hx,hc,e1,e2,hS,hQ,hW,o⟩:=h;obtain ⟨c,hcc⟩:∃ c,c=xs.length:=⟨_,rfl⟩;rw [←hcc] at bl hx hc hr;have C1:=hid (pushF g n n s c 55 gl x L _ w bl rfl rfl rfl hL nL (by omega) hs hn (by omega))
 obtain ⟨p,hp⟩:∃ p,p=(s+c)%n:=⟨_,rfl⟩;rw [←hp] at C1;have HX:=(qsd (ai hL (ai nL (ai n1 (ai n2 (ai hs (ai hs1 (ai hs2 (ai hn (ai hx (ai hc (ai e1 (ai e2 (ai hS (ai hQ (ai hW (ai o (ai h1 (ai h2 (ai hcc (ai hr hp)))))))))))))))))))));clear bl hL h1 h2 nL n1 n2 hs hs1 hs2 hn hx hc e1 e2 hS hQ hW o hr hcc hp;go_enter Tryz.func27,Tryz.ntmps27
 go_wp2_with fail
 refine C1.out.mono ?_;rintro r w1 ⟨rfl,bl1,hL1,V,qa,qb⟩;obtain ⟨hL,nL,n1,n2,hs,hs1,hs2,hn,hx,hc,e1,e2,hS,hQ,hW,o,h1,h2,hcc,hr,hp⟩:=HX.out;have F1:Fr20 lo hi w w1:=(qa.fr20 (by omega) (by omega)).trans (qb.fr20 (by omega) (by omega))
 have h11:=(h1.but qa (by omega)).but qb (by omega)
 have h21:=(h2.but qa (by omega)).but qb (by omega)
 have hS1:=(hS.but qa (by omega)).but qb (by omega)
 have hQ1:=(hQ.but qa (by omega)).but qb (by omega)
 have blA:Bl w1 g 55 (cs20 gl b1 b2 gs gq n s (c+1) s1 c1 s2 c2):=bl1;have hLA:Bl w1 gl 28 ((L.set p x).map Fw10):=by rw [List.map_set];exact hL1
 have C2:=hid (add20 gs (aI20 xs) x w1 hS1 (by simp;omega) hxW)
 have k11:w1.cell? ⟨g,11,none⟩=some (.pointer (some ⟨gs,0,none⟩)):=blA.cell 11 _ rfl;have HY:=(qsd (ai F1 (ai blA (ai hLA (ai h11 (ai h21 hQ1))))));clear C1 bl1 hL1 qa qb F1 h11 h21 hS1 hQ1 blA hLA hL nL n1 n2 hs hs1 hs2 hn hx hc e1 e2 hS hQ hW o h1 h2 hcc hr hp
 go_wp2_with fail
 refine C2.out.mono ?_;rintro r w2 ⟨rfl,hS2,q2⟩;obtain ⟨F1,bl1,hL1,h11,h21,hQ1⟩:=HY.out;obtain ⟨hL,nL,n1,n2,hs,hs1,hs2,hn,hx,hc,e1,e2,hS,hQ,hW,o,h1,h2,hcc,hr,hp⟩:=HX.out;have F2:Fr20 lo hi w w2:=F1.trans (q2.fr20 (by omega) (by omega))
 have bl2:=bl1.but q2 (by omega)
 have hL2:=hL1.but q2 (by omega)
 have h12:=h11.but q2 (by omega)
 have h22:=h21.but q2 (by omega)
 have hQ2:=hQ1.but q2 (by omega)
 have C3:=hid (addP12 gq (qI20 xs) x x w2 hQ2 (by simp;omega) hxW hxW)
 have k12:w2.cell? ⟨g,12,none⟩=some (.pointer (some ⟨gq,0,none⟩)):=bl2.cell 12 _ rfl;have HZ:=(qsd (ai F2 (ai bl2 (ai hL2 (ai h12 (ai h22 hS2))))));clear C2 k11 HY F1 bl1 hL1 h11 h21 hQ1 F2 bl2 hL2 h12 h22 hS2 q2 hQ2 hL nL n1 n2 hs hs1 hs2 hn hx hc e1 e2 hS hQ hW o h1 h2 hcc hr hp
 go_wp2_with fail
 refine C3.out.mono ?_;rintro r w3 ⟨rfl,hQ3,q3⟩;obtain ⟨F2,bl2,hL2,h12,h22,hS2⟩:=HZ.out;obtain ⟨hL,nL,n1,n2,hs,hs1,hs2,hn,hx,hc,e1,e2,hS,hQ,hW,o,h1,h2,hcc,hr,hp⟩:=HX.out;have F3:Fr20 lo hi w w3:=F2.trans (q3.fr20 (by omega) (by omega))
 have bl3:=bl2.but q3 (by omega)
 have hL3:=hL2.but q3 (by omega)
 have h13:=h12.but q3 (by omega)
 have h23:=h22.but q3 (by omega)
 have hS3:=hS2.but q3 (by omega)
 have hset:rg (L.set p x) s (c+1)=xs++[x]:=by
  have:=rg_set (R:=L) (s:=s) (c:=c) x (by omega) (by omega)
  rw [nL,←hp] at this;rw [this,hx]
 have hAt:IsAt (L.set p x) s n (xs++[x]):=by
  intro i hi;have hi2:i<c+1:=by rw [List.length_append,List.length_singleton] at hi;omega
  rw [←hset,rg_get hi2,List.length_set,nL]
 have hWx:W64 (xs++[x]):=by
  intro y hy
  rcases List.mem_append.1 hy with a|a
  · exact hW y a
  · rw [List.mem_singleton.1 a];exact hxW
 have nL':(L.set p x).length=n:=by rw [List.length_set];exact nL
 have C4:=hid (fun (u:World) (hu:Below w3.heap.size w3 u)=>enter20 tk20 (-1) g gl n s1 c1 b1 55 3 s c x (L.set p x) R1 xs _ u low_key (bl3.below hu bl3.lt) rfl rfl rfl rfl rfl (hL3.below hu hL3.lt) (h13.below hu h13.lt) nL' n1 (by omega) (by omega) (by omega) hs hs1 hn hcc.symm hr hWx hAt e1)
 rw [←hp] at C4;have HY:=(qsd (ai F3 (ai bl3 (ai hL3 (ai h13 (ai h23 (ai hS3 (ai hQ3 (ai hset (ai hAt (ai hWx nL')))))))))));have HB0:Aside (Below w3.heap.size w3 w3.drew):=(Below.refl _ _).drew;clear C3 k12 HZ F2 bl2 hL2 h12 h22 hS2 F3 bl3 hL3 h13 h23 hS3 q3 hQ3 hL nL n1 n2 hs hs1 hs2 hn hx hc e1 e2 hS hQ hW o h1 h2 hcc hr hp hset hAt hWx nL'
 go_wp2_with fail
 go_region_with (go_at_call 58;refine (C4.out _ HB0.out).mono ?_;rintro r w4 ⟨rfl,R1',d1,bl4,h14,n14,l4,e14,q4⟩)
 obtain ⟨F3,bl3,hL3,h13,h23,hS3,hQ3,hset,hAt,hWx,nL'⟩:=HY.out;obtain ⟨hL,nL,n1,n2,hs,hs1,hs2,hn,hx,hc,e1,e2,hS,hQ,hW,o,h1,h2,hcc,hr,hp⟩:=HX.out;have hu:=HB0.out;have F4:Fr20 lo hi w w4:=(F3.trans ⟨hu.os,hu.tape,hu.output,hu.size,fun k hk _=>hu.block k hk⟩).trans (q4.fr20 (by omega) (by omega) (by omega) (by omega))
 have blB:Bl w4 g 55 (cs20 gl b1 b2 gs gq n s (c+1) s1 d1 s2 c2):=bl4;have hL4:=(hL3.below hu hL3.lt).ch2 q4 (by omega) (by omega)
 have h24:=(h23.below hu h23.lt).ch2 q4 (by omega) (by omega)
 have hS4:=(hS3.bel hu).blk (q4.block gs (by have:=hS3.lt;have:=hu.size;omega) (by omega) (by omega))
 have hQ4:=(hQ3.bel hu).blk (q4.block gq (by have:=hQ3.lt;have:=hu.size;omega) (by omega) (by omega))
 have C5:=hid (fun (u:World) (hu:Below w4.heap.size w4 u)=>enter20 hk20 1 g gl n s2 c2 b2 55 7 s c x (L.set p x) R2 xs _ u high_key (blB.below hu blB.lt) rfl rfl rfl rfl rfl (hL4.below hu hL4.lt) (h24.below hu h24.lt) nL' n2 (by omega) (by omega) (by omega) hs hs2 hn hcc.symm hr hWx hAt e2)
 rw [←hp] at C5;have HZ:=(qsd (ai F4 (ai blB (ai hL4 (ai h14 (ai h24 (ai hS4 (ai hQ4 (ai n14 (ai l4 e14))))))))));have HB1:Aside (Below w4.heap.size w4 w4.drew):=(Below.refl _ _).drew;clear C4 F3 bl3 hL3 h13 h23 hS3 hQ3 hset hAt hWx nL' F4 blB hL4 h14 h24 hS4 hQ4 q4 bl4 hu n14 l4 e14 hL nL n1 n2 hs hs1 hs2 hn hx hc e1 e2 hS hQ hW o h1 h2 hcc hr hp HB0
 go_wp2_with fail
 go_region_with (go_at_call 58;refine (C5.out _ HB1.out).mono ?_;rintro r w5 ⟨rfl,R2',d2,bl5,h25,n25,l5,e25,q5⟩)
 have H5:=(qsd (ai bl5 (ai h25 (ai n25 (ai l5 (ai e25 q5))))));clear bl5 h25 n25 l5 e25 q5 C5;go_wp2;refine bodyPost_end (v:=.tuple #[]) (by simp [results,Tryz.results27,go_sem]) rfl ?_
 obtain ⟨bl5,h25,n25,l5,e25,q5⟩:=H5.out;obtain ⟨F4,blB,hL4,h14,h24,hS4,hQ4,n14,l4,e14⟩:=HZ.out;obtain ⟨F3,bl3,hL3,h13,h23,hS3,hQ3,hset,hAt,hWx,nL'⟩:=HY.out;obtain ⟨hL,nL,n1,n2,hs,hs1,hs2,hn,hx,hc,e1,e2,hS,hQ,hW,o,h1,h2,hcc,hr,hp⟩:=HX.out;have hu:=HB1.out;have hl:(xs++[x]).length=c+1:=by rw [List.length_append,List.length_singleton,hcc]
 refine ⟨rfl,⟨gl,b1,b2,gs,gq,s,s1,d1,s2,d2,L.set p x,R1',R2',by rw [hl];exact bl5,(hL4.below hu hL4.lt).ch2 q5 (by omega) (by omega),(h14.below hu h14.lt).ch2 q5 (by omega) (by omega),h25,nL',n14,n25,hs,hs1,hs2,hn,by rw [hl];exact hset,by omega,e14,e25,?_,?_,hWx,o⟩,?_⟩
 · have:=(hS4.bel hu).blk (q5.block gs (by have:=hS4.lt;have:=hu.size;omega) (by omega) (by omega))
   simpa [aI20] using this
 · have:=(hQ4.bel hu).blk (q5.block gq (by have:=hQ4.lt;have:=hu.size;omega) (by omega) (by omega))
   simpa [qI20] using this
 · exact (F4.trans ⟨hu.os,hu.tape,hu.output,hu.size,fun k hk _=>hu.block k hk⟩).trans (q5.fr20 (by omega) (by omega) (by omega) (by omega))
def psh (n:Nat) (xs:List Nat) (x:Nat):List Nat:=(if xs.length=n then xs.tail else xs)++[x]
theorem Push20 {w:World}{lo hi g n:Nat}{xs:List Nat}(x:Nat) (h:Sl w lo hi g n xs) (hxW:x<18446744073709551616) (h1:1≤n) :
 Calls Tryz.prog 7 #[.pointer (some ⟨g,0,none⟩),.float .f64 x] w fun r w'=>r=.returned (.tuple #[])∧Sl w' lo hi g n (psh n xs x)∧Fr20 lo hi w w':=by
 obtain ⟨gl,b1,b2,gs,gq,s,s1,c1,s2,c2,L,R1,R2,hv⟩:=h;have HF:=hid (fullF g n n xs.length (some ⟨gl,0,none⟩) w (hv.bl.cell 0 _ rfl) (hv.bl.cell 2 _ rfl))
 by_cases e:xs.length=n
 · obtain ⟨y,ys,rfl⟩:∃ y ys,xs=y::ys:=by
    cases xs with
    | nil=>simp at e;omega
    | cons y ys=>exact ⟨y,ys,rfl⟩
   have C1:=hid (fun j:Nat=>leaveS20 (w:=w.drewN j) (lo:=lo) (hi:=hi) ⟨hv.bl,hv.hL,hv.h1,hv.h2,hv.nL,hv.n1,hv.n2,hv.hs,hv.hs1,hv.hs2,hv.hn,hv.hx,hv.hc,hv.e1,hv.e2,hv.hS,hv.hQ,hv.hW,hv.ord⟩)
   have ep:psh n (y::ys) x=ys++[x]:=by unfold psh;rw [if_pos e];rfl
   rw [decide_eq_true e] at HF;rw [ep];have HL:Aside (ys.length+1=n):=e;clear hv e ep;go_enter Tryz.func7,Tryz.ntmps7
   go_wp2_with fail
   refine HF.out.mono ?_;rintro r v ⟨rfl,j,rfl⟩
   go_wp2_with fail
   refine (C1.out j).mono ?_;rintro r v2 ⟨rfl,⟨gl',b1',b2',gs',gq',s',s1',c1',s2',c2',L',R1',R2',hv2⟩,f2⟩;have C2:=hid (enterS20 x hv2 (by have:=HL.out;omega) hxW)
   have H2:=qsd f2;clear f2 hv2 C1 HF
   go_wp2_with fail
   refine C2.out.mono ?_;rintro r v3 ⟨rfl,k1,k2⟩;have HK:=(qsd (ai k1 k2));clear k1 k2 C2;go_wp2;refine bodyPost_end (v:=.tuple #[]) (by simp [results,Tryz.results7,go_sem]) rfl ?_
   have q:=H2.out;exact ⟨rfl,HK.out.1,(Fr20.trans ⟨q.os,q.tape,q.output,q.size,q.block⟩ HK.out.2)⟩
 · have ep:psh n xs x=xs++[x]:=by unfold psh;rw [if_neg e]
   rw [decide_eq_false e] at HF;rw [ep];have hc:=hv.hc;have C2:=hid (fun j:Nat=>enterS20 (w:=w.drewN j) (lo:=lo) (hi:=hi) x ⟨hv.bl,hv.hL,hv.h1,hv.h2,hv.nL,hv.n1,hv.n2,hv.hs,hv.hs1,hv.hs2,hv.hn,hv.hx,hv.hc,hv.e1,hv.e2,hv.hS,hv.hQ,hv.hW,hv.ord⟩ (by omega) hxW)
   clear hv e ep hc;go_enter Tryz.func7,Tryz.ntmps7
   go_wp2_with fail
   refine HF.out.mono ?_;rintro r v ⟨rfl,j,rfl⟩
   go_wp2_with fail
   refine (C2.out j).mono ?_;rintro r v3 ⟨rfl,k1,k2⟩;have HK:=(qsd (ai k1 k2));clear k1 k2 C2 HF;go_wp2;refine bodyPost_end (v:=.tuple #[]) (by simp [results,Tryz.results7,go_sem]) rfl ?_
   have q:=HK.out.2;exact ⟨rfl,HK.out.1,⟨q.os,q.tape,q.output,q.size,q.block⟩⟩
theorem Len20 {w:World}{lo hi g n:Nat}{xs:List Nat}(h:Sl w lo hi g n xs) :
 Calls Tryz.prog 14 #[.pointer (some ⟨g,0,none⟩)] w fun r w'=>r=.returned (.int .i64 (xs.length:Nat))∧w'=w:=by
 obtain ⟨gl,b1,b2,gs,gq,s,s1,c1,s2,c2,L,R1,R2,hv⟩:=h;have c:w.cell? ⟨g,2,none⟩=some (.int .i64 (xs.length:Nat)):=hv.bl.cell 2 _ rfl;clear hv;go_enter Tryz.func14,Tryz.ntmps14;go_wp2;go_ret;exact ⟨rfl,rfl⟩
end
section
open Go.RowKit
theorem ahead10 (g:Nat) (V:Int) (s:Sp) (mode a b:Int) (w:World) (hA:Acc7 w g V s) (hs:s.ok) (hm0:0≤mode) (hm1:mode≤4) (hab:may a b=true) (ha:¬ (0<s.n∧a=2)) (hb:¬ (0<s.u+s.d∧b=2)) :
 Calls Tryz.prog 59 #[.pointer (some ⟨g,0,none⟩),.int .i64 mode,.agg #[.int .i64 a,.int .i64 b]] w fun r w'=>r=.returned (.tuple #[.float .f64 (ahd V s mode a b).1,.bool (ahd V s mode a b).2.1,.int .i64 (ahd V s mode a b).2.2])∧Below w.heap.size w w':=by
 obtain ⟨⟨X,tl,er⟩,hX⟩:∃ X,X=ahd V s mode a b:=⟨_,rfl⟩;rw [←hX];simp only;obtain ⟨L,a1,a2,a3,a4,a5,a6⟩:=hA;have hz:=zero_words L V a1 a2 a3 a4 a5;obtain ⟨n,u,d,m,p,l⟩:=s;have HM:=hid (fun u:World=>May_any a b u)
 rw [hab] at HM;have HV:=hid (fun w:World=>Verdict_any n u d m p l a b w)
 have HN:=hid (fun w:World=>Nought_any n u d m p l mode w)
 obtain ⟨⟨vx,vt⟩,hvd⟩:∃ v,v=vd (snd n u d m p l&&may a b) n u d a b:=⟨_,rfl⟩;obtain ⟨nx,hnt⟩:∃ v,v=nt (snd n u d m p l) n u d m p l mode:=⟨_,rfl⟩;rw [←hvd] at HV;rw [←hnt] at HN;simp only at HV;simp only [ahd] at hX;rw [←hvd,←hnt] at hX;simp only at hX;have HX:=qsd hX;have HA:=qsd (ai a1 (ai a6 hz));have hlt:=a6.lt;have hne:g≠w.heap.size:=Nat.ne_of_lt hlt;have hne1:g≠w.heap.size+1:=by omega
 have c0:=a6.cell a1 0 _ rfl;have c1:=a6.cell a1 1 _ rfl;have c2:=a6.cell a1 2 _ rfl;have c3:=a6.cell a1 3 _ rfl;have c4:=a6.cell a1 4 _ rfl;have c5:=a6.cell a1 5 _ rfl;obtain ⟨h0,h1,h2,h3,h4,h5⟩:=hs;have ha1:¬ (0<n∧a=2):=ha;have hb1:¬ (0<u+d∧b=2):=hb;have b0:decide (mode<0)=false:=by simp;omega
 have b1:decide (4<mode)=false:=by simp;omega
 clear a1 a2 a3 a4 a5 a6 hX hvd hnt hab ha hb hz;go_enter Tryz.func59,Tryz.ntmps59
 go_wp2_with fail
 refine (HM.out _).mono ?_;rintro r w1 ⟨rfl,hb1⟩;have hz1:w.heap.size+1<w1.heap.size:=by have:=hb1.size;simp at this;omega
 have B1:=qsd hb1
 have P1:Aside (Bl w1 w.heap.size 24 [.int .i64 a,.int .i64 b]∧Bl w1 (w.heap.size+1) 59 [.int .i64 n,.int .i64 u,.int .i64 d,.int .i64 m,.int .i64 p,.int .i64 l]∧Below w.heap.size w w1∧Ac w1 g L ⟨n,u,d,m,p,l⟩):=by
  have e0:=(bel_alloc w (Obj.cells #[.int .i64 a,.int .i64 b] 24)).trans ((bel_alloc (w.alloc (Obj.cells #[.int .i64 a,.int .i64 b] 24)) (Obj.cells #[.int .i64 n,.int .i64 u,.int .i64 d,.int .i64 m,.int .i64 p,.int .i64 l] 59)).mono (by simp))
  have e1:=e0.trans (hb1.mono e0.size);exact ⟨(((Bl.new w 24 [_,_]).alloc _).below hb1 (by simp;omega)),((Bl.new' (w.alloc _) 59 _ [_,_,_,_,_,_] (by simp)).below hb1 (by simp)),e1,HA.out.2.1.below e1 HA.out.2.1.lt⟩
 clear hb1 c0 c1 c2 c3 c4 c5;have q0:=P1.out.1.cell 0 _ rfl;have q1:=P1.out.1.cell 1 _ rfl;have s0:=P1.out.2.1.cell 0 _ rfl;have s1:=P1.out.2.1.cell 1 _ rfl;have s2:=P1.out.2.1.cell 2 _ rfl;have s3:=P1.out.2.1.cell 3 _ rfl;have s4:=P1.out.2.1.cell 4 _ rfl;have s5:=P1.out.2.1.cell 5 _ rfl
 have hca:(0<n∧(a==2)=false)∨n≤0:=by
  by_cases h:0<n
  · exact .inl ⟨h,by simp;intro e;exact ha1 ⟨h,e⟩⟩
  · exact .inr (by omega)
 have hcb:(0<u+d∧(b==2)=false)∨u+d≤0:=by
  by_cases h:0<u+d
  · exact .inl ⟨h,by simp;intro e;exact hb1 ⟨h,e⟩⟩
  · exact .inr (by omega)
 clear ha1 hb1
 rcases hca with ⟨hn,ha'⟩|hn <;> rcases hcb with ⟨hu,hb'⟩|hu
 all_goals (
  go_wp2_with fail
  refine (HV.out _).mono ?_;rintro r w2 ⟨rfl,hb2⟩
  have P2:Aside (Bl w2 (w.heap.size+1) 59 [.int .i64 n,.int .i64 u,.int .i64 d,.int .i64 m,.int .i64 p,.int .i64 l]∧Below w.heap.size w w2∧Ac w2 g L ⟨n,u,d,m,p,l⟩) :=
   ⟨P1.out.2.1.below hb2 P1.out.2.1.lt,P1.out.2.2.1.trans (hb2.mono P1.out.2.2.1.size),P1.out.2.2.2.below hb2 P1.out.2.2.2.lt⟩
  clear hb2 q0 q1 s0 s1 s2 s3 s4 s5 hn hu
  cases vt
  · have s0:=P2.out.1.cell 0 _ rfl
    have s1:=P2.out.1.cell 1 _ rfl;have s2:=P2.out.1.cell 2 _ rfl;have s3:=P2.out.1.cell 3 _ rfl;have s4:=P2.out.1.cell 4 _ rfl;have s5:=P2.out.1.cell 5 _ rfl
    go_wp2_with (first | (with_reducible refine wpList_load_mid (P:=Tryz.prog) rfl 91 (.tmp 57) rfl g 0 rfl (L.map U) _ P2.out.2.2.range Tryz.desc_words rfl (by simp [Tryz.size_words,HA.out.1]) ?_))
    rw [Tryz.nought_words,eq_words L _ w2 HA.out.1 (by simp),HA.out.2.2]
    generalize (List.replicate 133 0).map U=zz
    by_cases hV:V=0
    · rw [decide_eq_true hV]
      simp only [Result.andThen_ok,Oper.upon];have HX2:=qsd (show (X,tl,er)=(nx,true,0) by rw [HX.out,if_neg (by decide),if_pos hV])
      clear hV
      go_wp2_with fail
      refine (HN.out _).mono ?_;rintro r w3 ⟨rfl,hb3⟩;have B3:=qsd hb3;clear hb3;go_wp2;refine bodyPost_ret (v:=.tuple #[.float .f64 nx,.bool true,.int .i64 0]) (by simp [results,Tryz.results59,go_sem]) rfl ?_
      have e:=HX2.out
      cases e
      exact ⟨rfl,P2.out.2.1.trans (B3.out.mono P2.out.2.1.size)⟩
    · rw [decide_eq_false hV]
      simp only [Result.andThen_ok,Oper.upon];have HX2:=qsd (show (X,tl,er)=(0,false,0) by rw [HX.out,if_neg (by decide),if_neg hV])
      clear hV;go_wp2;refine bodyPost_ret (v:=.tuple #[.float .f64 0,.bool false,.int .i64 0]) (by simp [results,Tryz.results59,go_sem]) rfl ?_
      have e:=HX2.out
      cases e
      exact ⟨rfl,P2.out.2.1⟩
  · go_wp2
    refine bodyPost_ret (v:=.tuple #[.float .f64 vx,.bool true,.int .i64 0]) (by simp [results,Tryz.results59,go_sem]) rfl ?_
    have e:=HX.out;rw [if_pos trivial] at e
    cases e
    exact ⟨rfl,P2.out.2.1⟩)
theorem ahead10_nan (g:Nat) (V:Int) (s:Sp) (mode a b:Int) (w:World) (hA:Acc7 w g V s) (hs:s.ok) (hm0:0≤mode) (hm1:mode≤4) (hab:may a b=true) (hx:0<s.n∧a=2) :
 Calls Tryz.prog 59 #[.pointer (some ⟨g,0,none⟩),.int .i64 mode,.agg #[.int .i64 a,.int .i64 b]] w fun r w'=>r=.returned (.tuple #[.float .f64 0,.bool false,.int .i64 60])∧Below w.heap.size w w':=by
 obtain ⟨L,a1,a2,a3,a4,a5,a6⟩:=hA;obtain ⟨n,u,d,m,p,l⟩:=s;have HM:=hid (fun u:World=>May_any a b u)
 rw [hab] at HM;have HA:=qsd (ai a1 a6);have hlt:=a6.lt;have hne:g≠w.heap.size:=Nat.ne_of_lt hlt;have hne1:g≠w.heap.size+1:=by omega
 have c0:=a6.cell a1 0 _ rfl;have c1:=a6.cell a1 1 _ rfl;have c2:=a6.cell a1 2 _ rfl;have c3:=a6.cell a1 3 _ rfl;have c4:=a6.cell a1 4 _ rfl;have c5:=a6.cell a1 5 _ rfl;obtain ⟨h0,h1,h2,h3,h4,h5⟩:=hs;have b0:decide (mode<0)=false:=by simp;omega
 have b1:decide (4<mode)=false:=by simp;omega
 have hn:0<n:=hx.1;have ha2:(a==2)=true:=by simpa using hx.2
 clear hx;clear a1 a2 a3 a4 a5 a6 hab;go_enter Tryz.func59,Tryz.ntmps59
 go_wp2_with fail
 refine (HM.out _).mono ?_;rintro r w1 ⟨rfl,hb1⟩
 have P1:Aside (Bl w1 w.heap.size 24 [.int .i64 a,.int .i64 b]∧Bl w1 (w.heap.size+1) 59 [.int .i64 n,.int .i64 u,.int .i64 d,.int .i64 m,.int .i64 p,.int .i64 l]∧Below w.heap.size w w1):=by
  have e0:=(bel_alloc w (Obj.cells #[.int .i64 a,.int .i64 b] 24)).trans ((bel_alloc (w.alloc (Obj.cells #[.int .i64 a,.int .i64 b] 24)) (Obj.cells #[.int .i64 n,.int .i64 u,.int .i64 d,.int .i64 m,.int .i64 p,.int .i64 l] 59)).mono (by simp))
  have e1:=e0.trans (hb1.mono e0.size);exact ⟨(((Bl.new w 24 [_,_]).alloc _).below hb1 (by simp;omega)),((Bl.new' (w.alloc _) 59 _ [_,_,_,_,_,_] (by simp)).below hb1 (by simp)),e1⟩
 clear hb1 c0 c1 c2 c3 c4 c5;have q0:=P1.out.1.cell 0 _ rfl;have q1:=P1.out.1.cell 1 _ rfl;have s0:=P1.out.2.1.cell 0 _ rfl;have s1:=P1.out.2.1.cell 1 _ rfl;have s2:=P1.out.2.1.cell 2 _ rfl;have s3:=P1.out.2.1.cell 3 _ rfl;have s4:=P1.out.2.1.cell 4 _ rfl;have s5:=P1.out.2.1.cell 5 _ rfl
 all_goals
  go_wp2;refine bodyPost_ret (v:=.tuple #[.float .f64 0,.bool false,.int .i64 60]) (by simp [results,Tryz.results59,go_sem]) rfl ?_
  exact ⟨rfl,P1.out.2.2⟩
theorem ahead10_inf (g:Nat) (V:Int) (s:Sp) (mode a b:Int) (w:World) (hA:Acc7 w g V s) (hs:s.ok) (hm0:0≤mode) (hm1:mode≤4) (hab:may a b=true) (hn:¬ (0<s.n∧a=2)) (hx:0<s.u+s.d∧b=2) :
 Calls Tryz.prog 59 #[.pointer (some ⟨g,0,none⟩),.int .i64 mode,.agg #[.int .i64 a,.int .i64 b]] w fun r w'=>r=.returned (.tuple #[.float .f64 0,.bool false,.int .i64 61])∧Below w.heap.size w w':=by
 obtain ⟨L,a1,a2,a3,a4,a5,a6⟩:=hA;obtain ⟨n,u,d,m,p,l⟩:=s;have HM:=hid (fun u:World=>May_any a b u)
 rw [hab] at HM;have HA:=qsd (ai a1 a6);have hlt:=a6.lt;have hne:g≠w.heap.size:=Nat.ne_of_lt hlt;have hne1:g≠w.heap.size+1:=by omega
 have c0:=a6.cell a1 0 _ rfl;have c1:=a6.cell a1 1 _ rfl;have c2:=a6.cell a1 2 _ rfl;have c3:=a6.cell a1 3 _ rfl;have c4:=a6.cell a1 4 _ rfl;have c5:=a6.cell a1 5 _ rfl;obtain ⟨h0,h1,h2,h3,h4,h5⟩:=hs;have b0:decide (mode<0)=false:=by simp;omega
 have b1:decide (4<mode)=false:=by simp;omega
 have hu:0<u+d:=hx.1;have hb2:(b==2)=true:=by simpa using hx.2
 have hca:(0<n∧(a==2)=false)∨n≤0:=by
  by_cases h:0<n
  · exact .inl ⟨h,by simp;intro e;exact hn ⟨h,e⟩⟩
  · exact .inr (by omega)
 clear hx hn;clear a1 a2 a3 a4 a5 a6 hab;go_enter Tryz.func59,Tryz.ntmps59
 go_wp2_with fail
 refine (HM.out _).mono ?_;rintro r w1 ⟨rfl,hb1⟩
 have P1:Aside (Bl w1 w.heap.size 24 [.int .i64 a,.int .i64 b]∧Bl w1 (w.heap.size+1) 59 [.int .i64 n,.int .i64 u,.int .i64 d,.int .i64 m,.int .i64 p,.int .i64 l]∧Below w.heap.size w w1):=by
  have e0:=(bel_alloc w (Obj.cells #[.int .i64 a,.int .i64 b] 24)).trans ((bel_alloc (w.alloc (Obj.cells #[.int .i64 a,.int .i64 b] 24)) (Obj.cells #[.int .i64 n,.int .i64 u,.int .i64 d,.int .i64 m,.int .i64 p,.int .i64 l] 59)).mono (by simp))
  have e1:=e0.trans (hb1.mono e0.size);exact ⟨(((Bl.new w 24 [_,_]).alloc _).below hb1 (by simp;omega)),((Bl.new' (w.alloc _) 59 _ [_,_,_,_,_,_] (by simp)).below hb1 (by simp)),e1⟩
 clear hb1 c0 c1 c2 c3 c4 c5;have q0:=P1.out.1.cell 0 _ rfl;have q1:=P1.out.1.cell 1 _ rfl;have s0:=P1.out.2.1.cell 0 _ rfl;have s1:=P1.out.2.1.cell 1 _ rfl;have s2:=P1.out.2.1.cell 2 _ rfl;have s3:=P1.out.2.1.cell 3 _ rfl;have s4:=P1.out.2.1.cell 4 _ rfl;have s5:=P1.out.2.1.cell 5 _ rfl
 rcases hca with ⟨hn,ha2⟩|hn
 all_goals
  go_wp2;refine bodyPost_ret (v:=.tuple #[.float .f64 0,.bool false,.int .i64 61]) (by simp [results,Tryz.results59,go_sem]) rfl ?_
  exact ⟨rfl,P1.out.2.2⟩
def rd10 (V:Int) (s:Sp) (mode a b:Int):Nat×Int:=if 0<s.n∧a=2 then (0,60) else if 0<s.u+s.d∧b=2 then (0,61) else rd7 V s mode a b
theorem round10_ok (g:Nat) (V:Int) (s:Sp) (mode a b:Int) (w:World) (hA:Acc7 w g V s) (hs:s.ok) (hT:Tab w) (hm0:0≤mode) (hm1:mode≤4) (hab:may a b=true) (ha:¬ (0<s.n∧a=2)) (hb:¬ (0<s.u+s.d∧b=2)) :
 Calls Tryz.prog 28 #[.pointer (some ⟨g,0,none⟩),.int .i64 mode,.agg #[.int .i64 a,.int .i64 b]] w fun r w'=>r=.returned (.tuple #[.float .f64 (rd7 V s mode a b).1,.int .i64 (rd7 V s mode a b).2])∧Below w.heap.size w w':=by
 obtain ⟨⟨X,er⟩,hX⟩:∃ X,X=rd7 V s mode a b:=⟨_,rfl⟩;rw [←hX];simp only;have hb0:=bel_alloc w (Obj.cells #[.int .i64 a,.int .i64 b] 24);have HH:=hid (ahead10 g V s mode a b _ (hA.bel hb0) hs hm0 hm1 hab ha hb);have her:=ahd_er V s mode a b;unfold rd7 at hX;obtain ⟨⟨ax,at',ae⟩,hAh⟩:∃ Y,Y=ahd V s mode a b:=⟨_,rfl⟩;rw [←hAh] at HH her hX;simp only at HH her hX;subst her;have HX:=qsd hX;have HA:=qsd (ai hA (ai hT hb0));clear hA hT hb0 hX hAh hs hab ha hb;go_enter Tryz.func28,Tryz.ntmps28
 go_wp2_with fail
 refine HH.out.mono ?_;rintro r w1 ⟨rfl,hb1⟩;have B1:=qsd (HA.out.2.2.trans (hb1.mono HA.out.2.2.size));clear hb1
 cases at'
 · go_wp2_with fail
   refine (Exact7 g V s w1 (HA.out.1.bel B1.out) (HA.out.2.1.belows B1.out)).mono ?_;rintro r w2 ⟨v,rfl,hN,hb2⟩;obtain ⟨L,_,_,_,h0,h1,_⟩:=HA.out.1;obtain ⟨ad,c,rfl,AV⟩:=hN.arg (Nat.le_trans (dX_small h0 h1) (by decide))
   have HR:=hid (Round_any AV (HA.out.2.1.belows (B1.out.trans (hb2.mono B1.out.size))) (dN (exV V)) (dE (exV V)) mode (dE_small V).1 (dE_small V).2);rw [val_ws] at HR;have HX2:=HX.out;rw [if_neg (by decide)] at HX2
   rw [←HX2] at HR;simp only at HR;have B2:=qsd (B1.out.trans (hb2.mono B1.out.size));clear hN hb2 AV h0 h1 HX2
   go_wp2_with fail
   refine HR.out.mono ?_;rintro r w3 ⟨rfl,hb3⟩;have B3:=qsd hb3;clear hb3;go_wp2;refine bodyPost_ret (v:=.tuple #[.float .f64 X,.int .i64 er]) (by simp [results,Tryz.results28,go_sem]) rfl ?_
   exact ⟨rfl,B2.out.trans (B3.out.mono B2.out.size)⟩
 · go_wp2
   have HX2:=HX.out;rw [if_pos trivial] at HX2
   cases HX2
   refine bodyPost_ret (v:=.tuple #[.float .f64 X,.int .i64 0]) (by simp [results,Tryz.results28,go_sem]) rfl ?_
   exact ⟨rfl,B1.out⟩
theorem round10_nan (g:Nat) (mode a b:Int) (w:World)
 (HH:Hid (∀ u:World,Below w.heap.size w u→Calls Tryz.prog 59 #[.pointer (some ⟨g,0,none⟩),.int .i64 mode,.agg #[.int .i64 a,.int .i64 b]] u fun r w'=>r=.returned (.tuple #[.float .f64 0,.bool false,.int .i64 60])∧Below u.heap.size u w')) :
 Calls Tryz.prog 28 #[.pointer (some ⟨g,0,none⟩),.int .i64 mode,.agg #[.int .i64 a,.int .i64 b]] w fun r w'=>r=.returned (.tuple #[.float .f64 0,.int .i64 60])∧Below w.heap.size w w':=by
 have hb0:=qsd (bel_alloc w (Obj.cells #[.int .i64 a,.int .i64 b] 24));go_enter Tryz.func28,Tryz.ntmps28
 go_wp2_with fail
 refine (HH.out _ hb0.out).mono ?_;rintro r w1 ⟨rfl,hb1⟩;have B1:=qsd (hb0.out.trans (hb1.mono hb0.out.size));clear hb1 HH;go_wp2;refine bodyPost_ret (v:=.tuple #[.float .f64 0,.int .i64 60]) (by simp [results,Tryz.results28,go_sem]) rfl ?_
 exact ⟨rfl,B1.out⟩
theorem round10_inf (g:Nat) (mode a b:Int) (w:World)
 (HH:Hid (∀ u:World,Below w.heap.size w u→Calls Tryz.prog 59 #[.pointer (some ⟨g,0,none⟩),.int .i64 mode,.agg #[.int .i64 a,.int .i64 b]] u fun r w'=>r=.returned (.tuple #[.float .f64 0,.bool false,.int .i64 61])∧Below u.heap.size u w')) :
 Calls Tryz.prog 28 #[.pointer (some ⟨g,0,none⟩),.int .i64 mode,.agg #[.int .i64 a,.int .i64 b]] w fun r w'=>r=.returned (.tuple #[.float .f64 0,.int .i64 61])∧Below w.heap.size w w':=by
 have hb0:=qsd (bel_alloc w (Obj.cells #[.int .i64 a,.int .i64 b] 24));go_enter Tryz.func28,Tryz.ntmps28
 go_wp2_with fail
 refine (HH.out _ hb0.out).mono ?_;rintro r w1 ⟨rfl,hb1⟩;have B1:=qsd (hb0.out.trans (hb1.mono hb0.out.size));clear hb1 HH;go_wp2;refine bodyPost_ret (v:=.tuple #[.float .f64 0,.int .i64 61]) (by simp [results,Tryz.results28,go_sem]) rfl ?_
 exact ⟨rfl,B1.out⟩
theorem Round10 (g:Nat) (V:Int) (s:Sp) (mode a b:Int) (w:World) (hA:Acc7 w g V s) (hs:s.ok) (hT:Tab w) (hm0:0≤mode) (hm1:mode≤4) (hab:may a b=true) :
 Calls Tryz.prog 28 #[.pointer (some ⟨g,0,none⟩),.int .i64 mode,.agg #[.int .i64 a,.int .i64 b]] w fun r w'=>r=.returned (.tuple #[.float .f64 (rd10 V s mode a b).1,.int .i64 (rd10 V s mode a b).2])∧Below w.heap.size w w':=by
 unfold rd10
 by_cases h1:0<s.n∧a=2
 · rw [if_pos h1]
   exact round10_nan g mode a b w (hid fun u hb=>ahead10_nan g V s mode a b u (hA.bel hb) hs hm0 hm1 hab h1)
 · rw [if_neg h1]
   by_cases h2:0<s.u+s.d∧b=2
   · rw [if_pos h2]
     exact round10_inf g mode a b w (hid fun u hb=>ahead10_inf g V s mode a b u (hA.bel hb) hs hm0 hm1 hab h1 h2)
   · rw [if_neg h2]
     exact round10_ok g V s mode a b w hA hs hT hm0 hm1 hab h1 h2
theorem Exact10_any (xs:List Nat) (a:Option Addr) (n c:Nat) (mode pa pb:Int) (w:World) (hn:n=xs.length) (hF:Fs w.heap.size w a xs) (hW:W64 xs) (hT:Tab w) (hm0:0≤mode) (hm1:mode≤4) (hab:may pa pb=true) (hl:n≤65536) :
 Calls Tryz.prog 11 #[.slice a n c,.int .i64 mode,.agg #[.int .i64 pa,.int .i64 pb]] w fun r w'=>r=.returned (.tuple #[.float .f64 (rd10 (vS xs) (sS xs) mode pa pb).1,.int .i64 (rd10 (vS xs) (sS xs) mode pa pb).2])∧Below w.heap.size w w' :=
 exact_core xs a n c mode pa pb _ _ w hn hF hW hT hm0 hm1 hab hl (hid fun g u hA hs hT=>Round10 g (vS xs) (sS xs) mode pa pb u hA hs hT hm0 hm1 hab)
theorem Exact10_arg (a:Option Addr) (n c:Nat) (mode pa pb:Int) (w:World) (h:mode<0∨4<mode∨may pa pb=false) :
 Calls Tryz.prog 11 #[.slice a n c,.int .i64 mode,.agg #[.int .i64 pa,.int .i64 pb]] w fun r w'=>r=.returned (.tuple #[.float .f64 0,.int .i64 1])∧Below w.heap.size w w':=by
 have HM:=hid (fun u:World=>May_any pa pb u)
 by_cases h0:mode<0
 · have b0:decide (mode<0)=true:=by simpa using h0
   clear h h0 HM;go_enter Tryz.func11,Tryz.ntmps11;go_wp2
   go_ret2
   exact ⟨rfl,bel_alloc _ _⟩
 · have b0:decide (mode<0)=false:=by simp;omega
   by_cases h1:4<mode
   · have b1:decide (4<mode)=true:=by simpa using h1
     clear h h0 h1 HM;go_enter Tryz.func11,Tryz.ntmps11;go_wp2
     go_ret2
     exact ⟨rfl,bel_alloc _ _⟩
   · have b1:decide (4<mode)=false:=by simp;omega
     have hab:may pa pb=false:=by
      rcases h with h|h|h
      · exact absurd h h0
      · exact absurd h h1
      · exact h
     rw [hab] at HM;clear h h0 h1 hab;go_enter Tryz.func11,Tryz.ntmps11
     go_wp2_with fail
     refine (HM.out _).mono ?_;rintro r w1 ⟨rfl,hb1⟩;have B1:=qsd ((bel_alloc w (Obj.cells #[.int .i64 pa,.int .i64 pb] 24)).trans (hb1.mono (by simp)))
     clear hb1 HM;go_wp2
     go_ret2
     exact ⟨rfl,B1.out⟩
end
section
open Go.RowKit J
theorem absSg (s:Bool) (v:Nat):(B.sg s v).natAbs=v:=by unfold B.sg;cases s <;> simp
abbrev Wd (x:Nat):Prop:=x<18446744073709551616
abbrev finW (x:Nat):Prop:=magW x<9218868437227405312
def fvW (x:Nat):Int:=B.sg (negW x) (vK (magW x))
theorem sg_abs (s:Bool) (v:Nat):(B.sg s v).natAbs=v:=absSg s v
theorem fin_parts {x:Nat}(hx:x<18446744073709551616) (fx:finW x):ngW x=negW x∧vK (magW x)=frW x*2^(xpW x+1074).toNat∧-1074≤xpW x∧((clW x=0∧frW x=0)∨((clW x=1∨clW x=2)∧frW x≠0)):=by
 have hm:magW x=eW x*4503599627370496+fW x:=by unfold magW eW fW;omega
 have he:eW x<2047:=by have h:magW x<9218868437227405312:=fx;omega
 have hf:fW x<4503599627370496:=Nat.mod_lt _ (by decide)
 refine ⟨by unfold ngW B.ng;rw [if_neg (by omega)];rfl,?_⟩
 by_cases h0:eW x=0
 · have hfr:frW x=fW x:=by unfold frW B.fr;rw [if_neg (by omega),if_pos h0];simp
   have hxp:xpW x=-1074:=by unfold xpW B.xp;rw [if_neg (by omega),if_pos h0]
   have hv:vK (magW x)=fW x:=by
    have:=vK_word 0 (fW x) (.inl rfl) (by omega)
    rw [hm,h0];simpa using this
   refine ⟨by rw [hv,hfr,hxp];simp,by omega,?_⟩
   by_cases hz:fW x=0
   · exact .inl ⟨by unfold clW B.cls;rw [if_neg (by omega),if_pos h0,if_pos hz],by omega⟩
   · exact .inr ⟨.inl (by unfold clW B.cls;rw [if_neg (by omega),if_pos h0,if_neg hz]),by omega⟩
 · have hfr:frW x=fW x+4503599627370496:=by unfold frW B.fr;rw [if_neg (by omega),if_neg h0];omega
   have hxp:xpW x=(eW x:Int)-1075:=by unfold xpW B.xp;rw [if_neg (by omega),if_neg h0]
   have hv:vK (magW x)=(fW x+4503599627370496)*2^(eW x-1):=by
    have:=vK_word (eW x-1) (fW x+4503599627370496) (.inr (by omega)) (by omega)
    rw [←this,hm,show eW x*4503599627370496+fW x=(eW x-1)*4503599627370496+(fW x+4503599627370496) by omega]
   refine ⟨by rw [hv,hfr,hxp,show ((eW x:Int)-1075+1074).toNat=eW x-1 by omega],by omega,.inr ⟨.inr (by unfold clW B.cls;rw [if_neg (by omega),if_neg h0]),by omega⟩⟩
theorem sg_prod (a b:Bool) (f g i j:Nat):sgn7 (!(a==b)) (f*g*2^(i+j))=B.sg a (f*2^i)*B.sg b (g*2^j):=by
 have e:f*g*2^(i+j)=(f*2^i)*(g*2^j):=by
  rw [Nat.pow_add,Nat.mul_mul_mul_comm]
 rw [e];generalize f*2^i=P;generalize g*2^j=Q;unfold sgn7 B.sg
 cases a <;> cases b <;> simp [Int.neg_mul,Int.mul_neg]
theorem pT_mul {x y:Nat}(hx:x<18446744073709551616) (hy:y<18446744073709551616) (fx:finW x) (fy:finW y):pT x y=fvW x*fvW y∧(pK x y=0∨pK x y=4∨pK x y=5):=by
 obtain ⟨n1,v1,x1,c1⟩:=fin_parts hx fx;obtain ⟨n2,v2,x2,c2⟩:=fin_parts hy fy;unfold pT pK fvW;rw [n1,n2,v1,v2]
 by_cases hz:clW x=0∨clW y=0
 · have hmin:min (clW x) (clW y)=0:=by omega
   have hmax:max (clW x) (clW y)≤2:=by omega
   have hpk:pk (max (clW x) (clW y)) (min (clW x) (clW y)) (!negW x==negW y)=4∨pk (max (clW x) (clW y)) (min (clW x) (clW y)) (!negW x==negW y)=5:=by
    unfold pk;rw [hmin,if_neg (by omega),if_neg (by omega),if_pos rfl]
    split
    · exact .inl rfl
    · exact .inr rfl
   refine ⟨?_,.inr hpk⟩;rw [pv7_no (by omega)]
   rcases c1 with ⟨_,f1⟩|⟨k1,_⟩
   · rw [f1];simp [B.sg]
   · rcases c2 with ⟨_,f2⟩ | ⟨k2,_⟩
     · rw [f2];simp [B.sg]
     · omega
 · have hpk:pk (max (clW x) (clW y)) (min (clW x) (clW y)) (!negW x==negW y)=0:=by
    unfold pk;rw [if_neg (by omega),if_neg (by omega),if_neg (by omega)]
   refine ⟨?_,.inl hpk⟩;rw [pv7_yes hpk,show (xpW x+xpW y+2148).toNat=(xpW x+1074).toNat+(xpW y+1074).toNat by omega]
   have e:(!negW x==negW y)=!(negW x==negW y):=by cases negW x <;> cases negW y <;> rfl
   rw [e];exact sg_prod _ _ _ _ _ _
theorem cl_nan {x:Nat}(h:9218868437227405312<magW x):clW x=4:=by
 have hm:magW x=eW x*4503599627370496+fW x:=by unfold magW eW fW;omega
 have hf:fW x<4503599627370496:=Nat.mod_lt _ (by decide)
 have he:eW x<2048:=by have:magW x<9223372036854775808:=Nat.mod_lt _ (by decide);omega
 unfold clW B.cls;rw [if_pos (by omega),if_neg (by omega)]
theorem cl_inf {x:Nat}(h:magW x=9218868437227405312):clW x=3∧ngW x=negW x:=by
 have hm:magW x=eW x*4503599627370496+fW x:=by unfold magW eW fW;omega
 have hf:fW x<4503599627370496:=Nat.mod_lt _ (by decide)
 unfold clW B.cls ngW B.ng;rw [if_pos (by omega),if_pos (by omega),if_neg (by omega)]
 exact ⟨rfl,rfl⟩
theorem cl_range (x:Nat):0≤clW x∧clW x≤4:=by unfold clW B.cls;(repeat' split) <;> omega
theorem pT_odd {x y:Nat}(h:¬ (finW x∧finW y)):pT x y=0∧(pK x y=1∨pK x y=2∨pK x y=3):=by
 have h3:3≤max (clW x) (clW y):=by
  have aux:∀ z:Nat,¬ finW z→3≤clW z:=fun z hz=>by
   rcases Nat.lt_or_ge 9218868437227405312 (magW z) with q|q
   · rw [cl_nan q];omega
   · have:magW z=9218868437227405312:=by
      have:¬ magW z<9218868437227405312:=hz;omega
     rw [(cl_inf this).1];omega
  by_cases hx:finW x
  · have:=aux y (fun hy=>h ⟨hx,hy⟩);omega
  · have:=aux x hx;omega
 have h4:=cl_range x;have h5:=cl_range y
 have hpk:pK x y=1∨pK x y=2∨pK x y=3:=by
  unfold pK pk
  split
  · exact .inl rfl
  · rw [if_pos (by omega)]
    split
    · exact .inr (.inr rfl)
    · exact .inr (.inl rfl)
 refine ⟨?_,hpk⟩;unfold pT
 exact pv7_no (by have:pK x y≠0:=by omega
                  exact this)
end
section
open Go.RowKit
structure Grid (v:Nat→Nat) (top:Nat):Prop where
 one:1<top
 zero:v 0=0
 mono:∀ {k l},k<l→v k<v l
 step:∀ k,k<top→∃ c j,v k=c*2^j∧v (k+1)=(c+1)*2^j∧c<9007199254740992∧j≤2045
def cutS (Y size:Nat):Nat:=bl Y+size-262144
def higS (Y size:Nat):Nat:=Y/2^cutS Y size
def byS (X Y size:Nat):Int:=(bl (higS Y size):Int)+size-bl X
def levS (X Y size:Nat):Nat:=if byS X Y size<0 then X/2^(-byS X Y size).toNat else X*2^(byS X Y size).toNat
def who0 (X Y size:Nat):Nat:=levS X Y size/higS Y size
def lefS (X Y size:Nat):Nat:=levS X Y size%higS Y size
def lowS (Y size:Nat):Nat:=Y-higS Y size*2^cutS Y size
def hasS (X Y size:Nat):Nat:=lefS X Y size*2^cutS Y size
def takS (X Y size:Nat):Nat:=who0 X Y size*lowS Y size
def whoS (X Y size:Nat):Nat:=if hasS X Y size<takS X Y size then who0 X Y size-1 else who0 X Y size
def atS (X Y size:Nat):Bool:=decide (hasS X Y size=takS X Y size)&&decide (0≤byS X Y size)
structure DivS (X Y size:Nat):Prop where
 one:atS X Y size=true→X*2^((byS X Y size).toNat+cutS Y size)=whoS X Y size*Y*2^(-byS X Y size).toNat
 low:atS X Y size=false→whoS X Y size*Y*2^(-byS X Y size).toNat<X*2^((byS X Y size).toNat+cutS Y size)
 high:atS X Y size=false→X*2^((byS X Y size).toNat+cutS Y size)<(whoS X Y size+1)*Y*2^(-byS X Y size).toNat
 least:X≠0→2^(size-1)≤whoS X Y size+1
 most:whoS X Y size<2^(size+1)
 less:hasS X Y size<takS X Y size→1≤who0 X Y size
 hig:higS Y size≠0
 low':higS Y size*2^cutS Y size≤Y
 lowlt:lowS Y size<2^cutS Y size
 w0:who0 X Y size<2^(size+1)
 blh:bl (higS Y size)=bl Y-cutS Y size
 lev:levS X Y size<2^(bl (higS Y size)+size)
 lef:lefS X Y size<higS Y size
theorem bl_unique {X k:Nat}(h1:2^k≤X) (h2:X<2^(k+1)):bl X=k+1:=by
 have h0:X≠0:=by have:=Nat.two_pow_pos k;omega
 have a:=bl_lt X;have b:=bl_ge X h0;have c:=bl_pos X h0;have d1:=(Nat.pow_lt_pow_iff_right (a:=2) (by decide)).1 (Nat.lt_of_le_of_lt h1 a)
 have d2:=(Nat.pow_lt_pow_iff_right (a:=2) (by decide)).1 (Nat.lt_of_le_of_lt b h2)
 omega
theorem divS_facts (X Y size:Nat) (hX:X=0∨X%2=1) (hY:Y≠0) (hs0:1≤size) (hs:size≤1000) (hbX:bl X≤262144) (hbY:bl Y≤262144):DivS X Y size:=by
 obtain ⟨cut,ecut⟩:∃ c,cutS Y size=c:=⟨_,rfl⟩;obtain ⟨H,eH⟩:∃ c,higS Y size=c:=⟨_,rfl⟩;have eH':Y/2^cut=H:=by rw [←eH,←ecut];rfl
 have hD:0<2^cut:=Nat.two_pow_pos cut;have hYlt:=bl_lt Y;have hYge:=bl_ge Y hY;have hYpos:=bl_pos Y hY;have hcut:cut<bl Y∧(0<cut→cut=bl Y+size-262144):=by unfold cutS at ecut;omega
 have hH1:2^(bl Y-1-cut)≤H:=by
  rw [←eH',Nat.le_div_iff_mul_le hD,←Nat.pow_add,show bl Y-1-cut+cut=bl Y-1 by omega];exact hYge
 have hH2:H<2^(bl Y-1-cut+1):=by
  rw [←eH',Nat.div_lt_iff_lt_mul hD,←Nat.pow_add,show bl Y-1-cut+1+cut=bl Y by omega];exact hYlt
 have hblH:bl H=bl Y-cut:=by rw [bl_unique hH1 hH2];omega
 have hH0:0<H:=Nat.lt_of_lt_of_le (Nat.two_pow_pos _) hH1;have hHD:H*2^cut≤Y:=by rw [←eH'];exact Nat.div_mul_le_self _ _
 have hYdm:H*2^cut+Y%2^cut=Y:=by rw [←eH',Nat.mul_comm];exact Nat.div_add_mod Y _
 have hYm:=Nat.mod_lt Y hD;obtain ⟨Lo,eLo⟩:∃ c,lowS Y size=c:=⟨_,rfl⟩;have eLo':Y-H*2^cut=Lo:=by rw [←eLo];unfold lowS;rw [eH,ecut]
 have hLo:Lo<2^cut:=by omega
 have hYs:Y=H*2^cut+Lo:=by omega
 obtain ⟨b,eb⟩:∃ b,byS X Y size=b:=⟨_,rfl⟩;have eb':(bl H:Int)+size-bl X=b:=by rw [←eb];unfold byS;rw [eH]
 obtain ⟨lev,elev⟩:∃ c,levS X Y size=c:=⟨_,rfl⟩;have elev':(if b<0 then X/2^(-b).toNat else X*2^b.toNat)=lev:=by rw [←elev];unfold levS;rw [eb]
 obtain ⟨W0,eW0⟩:∃ c,who0 X Y size=c:=⟨_,rfl⟩;have eW0':lev/H=W0:=by rw [←eW0];unfold who0;rw [elev,eH]
 obtain ⟨Lf,eLf⟩:∃ c,lefS X Y size=c:=⟨_,rfl⟩;have eLf':lev%H=Lf:=by rw [←eLf];unfold lefS;rw [elev,eH]
 have hdm:H*W0+Lf=lev:=by rw [←eW0',←eLf'];exact Nat.div_add_mod lev H
 have hLf:Lf<H:=by rw [←eLf'];exact Nat.mod_lt _ hH0
 have eHas:hasS X Y size=Lf*2^cut:=by unfold hasS;rw [eLf,ecut]
 have eTak:takS X Y size=W0*Lo:=by unfold takS;rw [eW0,eLo]
 have hXlt:=bl_lt X
 have hlevlt:lev<2^(bl H+size):=by
  rw [←elev']
  split
  · rename_i hb
    rw [Nat.div_lt_iff_lt_mul (Nat.two_pow_pos _),←Nat.pow_add,show bl H+size+(-b).toNat=bl X by omega];exact hXlt
  · rename_i hb
    refine Nat.lt_of_lt_of_le (Nat.mul_lt_mul_of_pos_right hXlt (Nat.two_pow_pos _)) ?_;rw [←Nat.pow_add];exact Nat.pow_le_pow_right (by decide) (by omega)
 have hW0lt:W0<2^(size+1):=by
  rw [←eW0',Nat.div_lt_iff_lt_mul hH0];refine Nat.lt_of_lt_of_le hlevlt ?_;have:2^(size+1)*2^(bl Y-1-cut)≤2^(size+1)*H:=Nat.mul_le_mul_left _ hH1;rw [←Nat.pow_add,show size+1+(bl Y-1-cut)=bl H+size by omega] at this
  exact this
 have hW0ge:X≠0→2^(size-1)≤W0:=by
  intro h0;have hXge:=bl_ge X h0;have hXp:=bl_pos X h0
  have hl:2^(bl H+size-1)≤lev:=by
   rw [←elev']
   split
   · rename_i hb
     rw [Nat.le_div_iff_mul_le (Nat.two_pow_pos _),←Nat.pow_add,show bl H+size-1+(-b).toNat=bl X-1 by omega];exact hXge
   · rename_i hb
     refine Nat.le_trans ?_ (Nat.mul_le_mul_right _ hXge);rw [←Nat.pow_add];exact Nat.pow_le_pow_right (by decide) (by omega)
  rw [←eW0',Nat.le_div_iff_mul_le hH0];refine Nat.le_trans ?_ hl;have:2^(size-1)*H≤2^(size-1)*2^(bl H):=Nat.mul_le_mul_left _ (Nat.le_of_lt (bl_lt H));rw [←Nat.pow_add,show size-1+bl H=bl H+size-1 by omega] at this
  exact this
 -- whole times the low end is below Y
 have hWL:W0*Lo<Y:=by
  by_cases hc:cut=0
  · subst hc
    have:Lo=0:=by simpa using hLo
    rw [this,Nat.mul_zero];omega
  · have h1:W0*Lo<2^(size+1)*2^cut:=Nat.mul_lt_mul'' hW0lt hLo
    rw [←Nat.pow_add] at h1;refine Nat.lt_of_lt_of_le h1 (Nat.le_trans ?_ hYge);exact Nat.pow_le_pow_right (by decide) (by omega)
 -- what the level is,by whole
 have hsum:lev*2^cut+W0*Lo=W0*Y+Lf*2^cut:=by
  rw [←hdm,hYs,Nat.add_mul,Nat.mul_add,Nat.mul_comm H W0,Nat.mul_assoc];omega
 have hLfD:Lf*2^cut<Y:=Nat.lt_of_lt_of_le (Nat.mul_lt_mul_of_pos_right hLf hD) hHD
 have hless:hasS X Y size<takS X Y size→1≤W0:=by
  intro h;rw [eHas,eTak] at h
  rcases Nat.eq_zero_or_pos W0 with q|q
  · rw [q,Nat.zero_mul] at h;omega
  · exact q
 have eWho:whoS X Y size=if Lf*2^cut<W0*Lo then W0-1 else W0:=by unfold whoS;rw [eHas,eTak,eW0]
 have eAt:atS X Y size=(decide (Lf*2^cut=W0*Lo)&&decide (0≤b)):=by unfold atS;rw [eHas,eTak,eb]
 have key:(atS X Y size=true→X*2^(b.toNat+cut)=whoS X Y size*Y*2^(-b).toNat)∧(atS X Y size=false→whoS X Y size*Y*2^(-b).toNat<X*2^(b.toNat+cut)∧X*2^(b.toNat+cut)<(whoS X Y size+1)*Y*2^(-b).toNat):=by
  rw [eAt,eWho]
  by_cases hb:b<0
  · have hc0:cut=0:=by omega
    have hX0:X≠0:=by intro h;rw [h,bl_zero] at eb';omega
    have hXo:X%2=1:=by omega
    rw [if_pos hb] at elev';subst hc0;have hL0:Lo=0:=by simpa using hLo
    have hb1:b.toNat=0:=by omega
    rw [hL0,Nat.mul_zero,if_neg (by omega),hb1,Nat.add_zero,Nat.pow_zero,Nat.mul_one]
    rw [hL0,Nat.pow_zero,Nat.mul_one,Nat.mul_one,Nat.mul_zero] at hsum;rw [decide_eq_false (show ¬ 0≤b by omega),Bool.and_false]
    refine ⟨fun h=>(by cases h),fun _=>?_⟩
    obtain ⟨k,hk⟩:∃ k,(-b).toNat=k:=⟨_,rfl⟩;have hk0:0<k:=by omega
    rw [hk] at elev' ⊢;have hP:=Nat.two_pow_pos k;have hxm:2^k*lev+X%2^k=X:=by rw [←elev'];exact Nat.div_add_mod X _
    have hxl:=Nat.mod_lt X hP
    have hx0:X%2^k≠0:=by
     intro h;rw [h] at hxm;rw [show k=k-1+1 by omega,Nat.pow_succ,Nat.mul_comm _ 2,Nat.mul_assoc] at hxm
     omega
    have h1:W0*Y≤lev:=by omega
    have h2:lev+1≤(W0+1)*Y:=by
     rw [Nat.add_mul,Nat.one_mul];rw [Nat.pow_zero,Nat.mul_one] at hLfD;omega
    have h3:=Nat.mul_le_mul_right (2^k) h1;have h4:=Nat.mul_le_mul_right (2^k) h2;rw [Nat.add_mul,Nat.one_mul] at h4;rw [Nat.mul_comm] at hxm;omega
  · rw [if_neg hb] at elev'
    have hb1:(-b).toNat=0:=by omega
    rw [hb1,Nat.pow_zero,Nat.mul_one,Nat.mul_one,decide_eq_true (show 0≤b by omega),Bool.and_true]
    have e1:X*2^(b.toNat+cut)=lev*2^cut:=by rw [Nat.pow_add,←Nat.mul_assoc,elev']
    rw [e1];generalize lev*2^cut=L at *;generalize Lf*2^cut=A at *;generalize hT:W0*Lo=T at *
    by_cases hlt:A<T
    · rw [if_pos hlt]
      have hW1:1≤W0:=hless (by rw [eHas,eTak];exact hlt)
      obtain ⟨W,rfl⟩:∃ W,W0=W+1:=⟨W0-1,by omega⟩
      rw [Nat.add_sub_cancel];rw [Nat.add_mul,Nat.one_mul] at hsum ⊢;refine ⟨fun h=>?_,fun _=>by omega⟩
      have:=of_decide_eq_true h;omega
    · rw [if_neg hlt]
      rw [Nat.add_mul,Nat.one_mul];refine ⟨fun h=>?_,fun h=>?_⟩
      · have:=of_decide_eq_true h;omega
      · have:=of_decide_eq_false h;omega
 refine ⟨?_,?_,?_,?_,?_,?_,?_,?_,?_,?_,?_,?_,?_⟩
 · rw [eb,ecut];exact key.1
 · rw [eb,ecut];exact fun h=>(key.2 h).1
 · rw [eb,ecut];exact fun h=>(key.2 h).2
 · intro h
   have:=hW0ge h;rw [eWho];split <;> omega
 · rw [eWho];split <;> omega
 · rw [eW0];exact hless
 · rw [eH];omega
 · rw [eH,ecut];exact hHD
 · rw [eLo,ecut];exact hLo
 · rw [eW0];exact hW0lt
 · rw [eH,ecut];exact hblH
 · rw [elev,eH];exact hlevlt
 · rw [eLf,eH];exact hLf
def clampE (h:Int):Int:=min (max (h-1) (-4096)) 4096
end
end Go.Proofs.YthejkolknalpaaaGreatDoor
