import Derived.Test.YtffeldkheibccaaGreatDoorHI10x
import Derived.Test.YtffeldkheibccaaGreatDoorHI5x
import Derived.Test.YtffeldkheibccaaGreatDoorD6x
import Derived.OwnWalk
import Derived.Maps.AppendAt
set_option linter.unusedVariables false
set_option linter.unusedSimpArgs false
set_option maxHeartbeats 16000000
set_option maxRecDepth 20000
namespace Go.Proofs.YtffeldkheibccaaGreatDoor
namespace J
end J
section
open Go Go.RowKit J
open Go.Proofs.YtffeldkheibccaaGreatDoor.B (f64bits f64frombits)
attribute [local go_sem] st_float f64bits f64frombits
theorem May17 (xs:List Nat) (ao:Option Addr) (n cap:Nat) (w:World) (hF:Fs w.heap.size w ao xs) (hn:n=xs.length) (hb:n≤17592186044416) (hW:W64 xs) :
 Calls Tryz.prog 54 #[.slice ao n cap] w fun r w'=>(∃ b:Bool,r=.returned (.bool b)∧(b=true↔Edg xs))∧Below w.heap.size w w':=by
 by_cases h2:n<2
 · have d1:decide ((n:Int)<2)=true:=by simp;omega
   have HE:Aside (¬ Edg xs):=qsd (fun e=>by have:=e.1;omega)
   clear hF hn hW;go_enter Tryz.func54,Tryz.ntmps54;go_wp2;go_ret;exact ⟨⟨false,rfl,fun h=>absurd h (by decide),fun h=>absurd h HE.out⟩,Below.refl _ _⟩
 · have d1:decide ((n:Int)<2)=false:=by simp;omega
   by_cases h3:1024<n
   · have d2:decide ((1024:Int)<(n:Int))=true:=by simp;omega
     have HE:Aside (¬ Edg xs):=qsd (fun e=>by have:=e.2.1;omega)
     clear hF hn hW;go_enter Tryz.func54,Tryz.ntmps54;go_wp2;go_ret;exact ⟨⟨false,rfl,fun h=>absurd h (by decide),fun h=>absurd h HE.out⟩,Below.refl _ _⟩
   · have d2:decide ((1024:Int)<(n:Int))=false:=by simp;omega
     have HN:=(qsd (ai hn (ai hW hF)));clear hF hn hW;go_enter Tryz.func54,Tryz.ntmps54;go_wp2
     go_loopg [3] n (fun gk iv wr=>∃ k:Nat,gk+k=n∧iv=.int .i64 (k:Nat)∧Aside ((∀ i,i<k→finW (xs.getD i 0))∧(∀ i,i+1<k→sP (xs.getD i 0)<sP (xs.getD (i+1) 0))∧Below w.heap.size w wr))
     case atStart=>exact ⟨0,by omega,by first | rfl | simp,fun i hi=>by omega,fun i hi=>by omega,Below.refl _ _⟩
     case round =>
      obtain ⟨k,hgk,rfl,HA⟩:=hrel
      by_cases hk:k<n
      · have hdk:decide ((k:Int)<(n:Int))=true:=by simp;omega
        have bk:(k:Int)<(n:Int):=by omega
        obtain ⟨k1,hk1⟩:∃ x,x=k+1:=⟨_,rfl⟩;have wk:IntKind.i64.wrap ((k:Int)+1)=(k1:Int):=wrapY (by omega) (by omega)
        obtain ⟨hn,hW,hF⟩:=HN.out;obtain ⟨b,off,rfl,c2⟩:=hF.at HA.out.2.2 k (by omega)
        have hy:=hW.get k;have C:=hid (finite17 hy wr);have CY:=hid (fun u=>key17 hy u)
        obtain ⟨y,hyy⟩:∃ x,x=xs.getD k 0:=⟨_,rfl⟩;rw [←hyy] at c2 C CY;have HK:=(qsd (ai hk1 hyy));clear hy hyy hk1
        by_cases hfin:magW y<9218868437227405312
        · rw [decide_eq_true hfin] at C
          by_cases h0:0<k
          case neg =>
           have hd0:decide ((0:Int)<(k:Int))=false:=by simp;omega
           have HZ:Aside (k=0):=qsd (by omega)
           have HB:=qsd (fun q=>below_drewN17 HA.out.2.2 q)
           clear hn hW hF
           go_wp2_with fail
           refine C.out.mono ?_;rintro r v ⟨rfl,rfl⟩;clear C
           go_wp2_with fail
           go_quiet (first | (go_at_call 89;exact Calls.quiet_of_same (CY.out _)))
           go_wp2
           go_roundg (n-k1)
           case measure=>have:=HK.out;omega
           case rel=>exact ⟨k1,by have:=HK.out;omega,by first | rfl | simp,fun i hi=>by
            have:=HK.out;have h9:=HZ.out;obtain rfl:i=k:=by omega
            rw [←this.2];exact hfin,fun i hi=>by have:=HK.out;have h9:=HZ.out;omega,HB.out _⟩
          case pos =>
           have hd0:decide ((0:Int)<(k:Int))=true:=by simp;omega
           obtain ⟨k0,hk0⟩:∃ y,k=y+1:=⟨k-1,by omega⟩
           have wk0:IntKind.i64.wrap ((k:Int)-1)=(k0:Int):=wrapY (by omega) (by omega)
           have b0:(k0:Int)<(n:Int):=by omega
           have c1:=hF.cell HA.out.2.2 k0 (by omega)
           have hx:=hW.get k0;have CX:=hid (fun u=>key17 hx u)
           obtain ⟨x,hxx⟩:∃ x,x=xs.getD k0 0:=⟨_,rfl⟩;rw [←hxx] at c1 CX;have HK2:=(qsd (ai hk0 hxx));obtain ⟨p,hp⟩:∃ p,p=sP x:=⟨_,rfl⟩;obtain ⟨q,hq⟩:∃ p,p=sP y:=⟨_,rfl⟩;rw [←hp] at CX;rw [←hq] at CY;have HPQ:=(qsd (ai hp hq));have HB:=qsd (fun q=>below_drewN17 HA.out.2.2 q)
           clear hn hW hF hx hxx hk0 hp hq
           by_cases hlt:p<q
           · have dlt:decide (q≤p)=false:=by simp;omega
             go_wp2_with fail
             refine C.out.mono ?_;rintro r v ⟨rfl,rfl⟩;clear C
             go_wp2_with fail
             go_quiet (first | (go_at_call_of 89 (Value.float FloatKind.f64 x);exact Calls.quiet_of_same (CX.out _)) | (go_at_call_of 89 (Value.float FloatKind.f64 y);exact Calls.quiet_of_same (CY.out _)))
             go_wp2
             go_roundg (n-k1)
             case measure=>have:=HK.out;omega
             case rel=>exact ⟨k1,by have:=HK.out;omega,by first | rfl | simp,fun i hi=>by
              by_cases e:i<k
              · exact HA.out.1 i e
              · have:=HK.out
                obtain rfl:i=k:=by omega
                rw [←this.2];exact hfin,fun i hi=>by
              by_cases e:i+1<k
              · exact HA.out.2.1 i e
              · have:=HK.out
                have h9:=HK2.out;obtain rfl:i=k0:=by omega
                rw [←h9.2,←h9.1,←this.2,←HPQ.out.1,←HPQ.out.2];exact hlt,HB.out _⟩
           · have dlt:decide (q≤p)=true:=by simp;omega
             have HE:Aside (¬ Edg xs):=qsd (fun e=>by
              have h9:=HK2.out;have h8:=e.2.2.2 k0 (by have:=HN.out.1;omega)
              rw [←h9.1,←h9.2,←HK.out.2,←HPQ.out.1,←HPQ.out.2] at h8
              omega)
             go_wp2_with fail
             refine C.out.mono ?_;rintro r v ⟨rfl,rfl⟩;clear C
             go_wp2_with fail
             go_quiet (first | (go_at_call_of 89 (Value.float FloatKind.f64 x);exact Calls.quiet_of_same (CX.out _)) | (go_at_call_of 89 (Value.float FloatKind.f64 y);exact Calls.quiet_of_same (CY.out _)))
             go_wp2;refine bodyPost_ret (v:=.bool false) (by simp [results,Tryz.results54,go_sem]) rfl ?_
             exact ⟨⟨false,rfl,fun h=>absurd h (by decide),fun h=>absurd h HE.out⟩,HB.out _⟩
        · rw [decide_eq_false hfin] at C
          have HE:Aside (¬ Edg xs):=qsd (fun e=>by
           have:=e.2.2.1 _ (getD_mem17 (show k<xs.length by omega))
           rw [←HK.out.2] at this;exact hfin this)
          have HB:=qsd (fun q=>below_drewN17 HA.out.2.2 q)
          clear hn hW hF
          go_wp2_with fail
          refine C.out.mono ?_;rintro r v ⟨rfl,rfl⟩;clear C
          go_wp2_with fail
          go_quiet (first | (go_at_call 89;exact Calls.quiet_of_same (CY.out _)))
          go_wp2;refine bodyPost_ret (v:=.bool false) (by simp [results,Tryz.results54,go_sem]) rfl ?_
          exact ⟨⟨false,rfl,fun h=>absurd h (by decide),fun h=>absurd h HE.out⟩,HB.out _⟩
      · obtain rfl:k=n:=by omega
        have hdk:decide ((k:Int)<(k:Int))=false:=by simp
        have HE:Aside (Edg xs):=qsd ⟨by have:=HN.out.1;omega,by have:=HN.out.1;omega,fun x hx=>by
         obtain ⟨i,hi,rfl⟩:=List.getElem_of_mem hx;have:=HA.out.1 i (by have:=HN.out.1;omega)
         rw [List.getD_eq_getElem?_getD,List.getElem?_eq_getElem hi] at this
         exact this,fun i hi=>HA.out.2.1 i (by have:=HN.out.1;omega)⟩
        go_wp2;refine bodyPost_ret (v:=.bool true) (by simp [results,Tryz.results54,go_sem]) rfl ?_
        exact ⟨⟨true,rfl,fun _=>HE.out,fun _=>rfl⟩,HA.out.2.2⟩
end
section
open Go Go.RowKit J
structure Rm (w:World) (g gE gC cE:Nat) (E:List Nat) (s:Hs):Prop where
 bl:Bl w g 90 [.slice (some ⟨gE,0,none⟩) E.length cE,.slice (some ⟨gC,0,none⟩) s.C.length s.C.length,.int .i64 (s.b:Nat),.int .i64 (s.a:Nat),.int .i64 (s.o:Nat)]
 cs:OwnI w gC s.C
 es:Fs w.heap.size w (some ⟨gE,0,none⟩) E
 n1:g≠gC
 n2:gE≠g
 n3:gE≠gC
 ed:Edg E
 wE:W64 E
 le:s.C.length+1=E.length
 mx:s.all≤1099511627776
theorem Rm.below {w w':World}{g gE gC cE:Nat}{E:List Nat}{s:Hs}(h:Rm w g gE gC cE E s) (hb:Below w.heap.size w w'):Rm w' g gE gC cE E s where
 bl:=h.bl.below hb h.bl.lt
 cs:=h.cs.below hb h.cs.lt
 es:=(h.es.below hb).mono hb.size
 n1:=h.n1
 n2:=h.n2
 n3:=h.n3
 ed:=h.ed
 wE:=h.wE
 le:=h.le
 mx:=h.mx
theorem Rm.keep {w w':World}{g gE gC cE g' gC':Nat}{E:List Nat}{s:Hs}(h:Rm w g gE gC cE E s) (hb:But2 g' gC' w w') (h1:g≠g'∧g≠gC') (h2:gC≠g'∧gC≠gC') (h3:gE≠g'∧gE≠gC'):Rm w' g gE gC cE E s where
 bl:=by have:=h.bl;unfold Bl at this ⊢;rw [hb.block g (Array.getElem?_eq_some_iff.1 this).1 h1.1 h1.2];exact this
 cs:=by have:=h.cs;unfold OwnI at this ⊢;rw [hb.block gC (Array.getElem?_eq_some_iff.1 this).1 h2.1 h2.2];exact this
 es:=h.es.re17 hb.size (fun hl=>hb.block gE hl h3.1 h3.2)
 n1:=h.n1
 n2:=h.n2
 n3:=h.n3
 ed:=h.ed
 wE:=h.wE
 le:=h.le
 mx:=h.mx
theorem rAll17 {w:World}{g gE gC cE:Nat}{E:List Nat}{s:Hs}(h:Rm w g gE gC cE E s) :
 Calls Tryz.prog 58 #[.pointer (some ⟨g,0,none⟩)] w fun r w'=>r=.returned (.int .i64 (s.all:Nat))∧∃ k,w'=w.drewN k:=by
 have c1:=h.bl.cell 1 _ rfl;have c2:=h.bl.cell 2 _ rfl;have c3:=h.bl.cell 3 _ rfl;have c4:=h.bl.cell 4 _ rfl;have hmx:=h.mx;have hle:s.C.length≤1024:=by have:=h.le;have:=h.ed.2.1;omega
 have HC:=qsd h.cs;obtain ⟨nC,hnC⟩:∃ n,n=s.C.length:=⟨_,rfl⟩;rw [←hnC] at c1 hle;obtain ⟨b,hb⟩:∃ n,n=s.b:=⟨_,rfl⟩;obtain ⟨a,ha⟩:∃ n,n=s.a:=⟨_,rfl⟩;obtain ⟨o,ho⟩:∃ n,n=s.o:=⟨_,rfl⟩;have hall:s.all=b+a+o+s.C.sum:=by rw [hb,ha,ho];rfl
 rw [←hb] at c2;rw [←ha] at c3;rw [←ho] at c4;rw [hall] at hmx ⊢;have w1:IntKind.i64.wrap ((b:Int)+(a:Int))=((b+a:Nat):Int):=wrapY (by omega) (by omega)
 obtain ⟨t1,ht1⟩:∃ t,t=b+a:=⟨_,rfl⟩;rw [←ht1] at w1;have w2:IntKind.i64.wrap ((t1:Int)+(o:Int))=((t1+o:Nat):Int):=wrapY (by omega) (by omega)
 obtain ⟨t2,ht2⟩:∃ t,t=t1+o:=⟨_,rfl⟩;rw [←ht2] at w2;rw [←ht1,←ht2] at hmx ⊢;have HN:=(qsd hnC);have HW:Aside (∀ k:Nat,(w.drewN k).cell? ⟨g,1,none⟩=some (.slice (some ⟨gC,0,none⟩) nC nC)):=fun k=>c1
 clear h hb ha ho hall ht1 ht2 hnC;go_enter Tryz.func58,Tryz.ntmps58
 go_wp2_with fail
 go_quiet (fail)
 go_wp2
 go_loopg [3,4] nC (fun gk nv iv wr=>∃ k:Nat,gk+k=nC∧nv=.int .i64 ((t2+(s.C.take k).sum:Nat):Int)∧iv=.int .i64 (k:Nat)∧Aside (∃ q,wr=w.drewN q))
 case atStart=>exact ⟨0,by omega,by first | rfl | simp,by first | rfl | simp,_,rfl⟩
 case round =>
  obtain ⟨k,hgk,hnv,rfl,HQ⟩:=hrel;have d1:wr.cell? ⟨g,1,none⟩=some (.slice (some ⟨gC,0,none⟩) nC nC):=by obtain ⟨q,rfl⟩:=HQ.out;exact HW.out q
  by_cases hk:k<nC
  · have hdk:decide ((k:Int)<(nC:Int))=true:=by simp;omega
    have bk:(k:Int)<(nC:Int):=by omega
    have bk0:(0:Int)≤(k:Int):=by omega
    obtain ⟨k1,hk1⟩:∃ x,x=k+1:=⟨_,rfl⟩;have wk:IntKind.i64.wrap ((k:Int)+1)=(k1:Int):=wrapY (by omega) (by omega)
    have x1:wr.cell? ⟨gC,k,none⟩=some (.int .i64 ((s.C.getD k 0:Nat):Int)):=by obtain ⟨q,rfl⟩:=HQ.out;exact HC.out.cell k (by have:=HN.out;omega)
    have hs:=take_sum17 (C:=s.C) (k:=k) (by have:=HN.out;omega)
    have hl1:=take_le17 s.C (k+1);obtain ⟨p,hp⟩:∃ p,p=s.C.getD k 0:=⟨_,rfl⟩;obtain ⟨q,hq⟩:∃ p,p=t2+(s.C.take k).sum:=⟨_,rfl⟩;rw [←hp] at x1 hs;rw [←hq] at hnv;subst hnv;have wp:IntKind.i64.wrap ((q:Int)+(p:Int))=((q+p:Nat):Int):=wrapY (by omega) (by omega)
    obtain ⟨qp,hqp⟩:∃ z,z=q+p:=⟨_,rfl⟩;rw [←hqp] at wp;have HK:Aside (k1=k+1∧qp=t2+(s.C.take k1).sum):=⟨hk1,by rw [hk1,hs];omega⟩
    clear hk1 hs hl1 hp hq hqp;go_wp2
    go_roundg (nC-k1)
    case measure=>have:=HK.out.1;omega
    case rel=>exact ⟨k1,by have:=HK.out.1;omega,by rw [HK.out.2],by first | rfl | simp,HQ.out⟩
  · obtain rfl:k=nC:=by omega
    have hdk:decide ((k:Int)<(k:Int))=false:=by simp
    have hfull:(s.C.take k).sum=s.C.sum:=by rw [List.take_of_length_le (by have:=HN.out;omega)]
    rw [hfull] at hnv;subst hnv;clear hfull;go_wp2;refine bodyPost_ret (v:=.int .i64 ((t2+s.C.sum:Nat):Int)) (by simp [results,Tryz.results58,go_sem]) rfl ?_
    exact ⟨rfl,HQ.out⟩
end
section
open Go Go.RowKit J
theorem Rm.outs {w wx:World}{g gE gC cE x:Nat}{E:List Nat}{s:Hs}(h:Rm w g gE gC cE E s) (hf:¬ 1099511627776≤s.all) {k:Nat}(hk:k=kd17 (E.getD 0 0) (E.getD (E.length-1) 0) x) (hk3:k≠3)
 (hb:Bl wx g 90 [.slice (some ⟨gE,0,none⟩) E.length cE,.slice (some ⟨gC,0,none⟩) s.C.length s.C.length,.int .i64 ((if k=1 then s.b+1 else s.b:Nat):Int),.int .i64 ((if k=2 then s.a+1 else s.a:Nat):Int),.int .i64 ((if k=0 then s.o+1 else s.o:Nat):Int)]) (hbt:But g w wx):Rm wx g gE gC cE E (s.put E x):=by
 have e:s.put E x=⟨s.C,if k=1 then s.b+1 else s.b,if k=2 then s.a+1 else s.a,if k=0 then s.o+1 else s.o⟩:=by
  unfold Hs.put;rw [←hk,if_neg hk3]
 have ha:(s.put E x).all=s.all+1:=put_all (.inr (by rw [←hk];exact hk3))
 refine ⟨?_,?_,h.es.re17 hbt.size (fun hl=>hbt.block gE hl h.n2),h.n1,h.n2,h.n3,h.ed,h.wE,?_,?_⟩
 · rw [e];exact hb
 · rw [e]
   have:=h.cs;unfold OwnI at this ⊢;rw [hbt.block gC (Array.getElem?_eq_some_iff.1 this).1 (Ne.symm h.n1)];exact this
 · rw [e];exact h.le
 · rw [ha];omega
theorem Rm.ins {w wy:World}{g gE gC cE x:Nat}{E:List Nat}{s:Hs}(h:Rm w g gE gC cE E s) (hf:¬ 1099511627776≤s.all) (hk:kd17 (E.getD 0 0) (E.getD (E.length-1) 0) x=3)
 (hy:wy=w.setCell ⟨gC,bk E x,none⟩ (.int .i64 ((s.C.getD (bk E x) 0+1:Nat):Int))):Rm wy g gE gC cE E (s.put E x)∧But2 g gC w wy:=by
 have e:s.put E x=⟨s.C.set (bk E x) (s.C.getD (bk E x) 0+1),s.b,s.a,s.o⟩:=by
  unfold Hs.put;rw [hk];rfl
 have hl:bk E x<s.C.length:=by have:=bk_lt h.ed x;have:=h.le;omega
 have ha:(s.put E x).all=s.all+1:=put_all (.inl hl);have b2:But gC w wy:=by rw [hy];exact (But.refl gC w).set _ _
 refine ⟨⟨?_,?_,h.es.re17 b2.size (fun hl=>b2.block gE hl h.n3),h.n1,h.n2,h.n3,h.ed,h.wE,?_,?_⟩,b2.two2⟩
 · rw [e]
   simp only [List.length_set];exact h.bl.but b2 h.n1
 · rw [e,hy]
   exact h.cs.set _ _
 · rw [put_len];exact h.le
 · rw [ha];omega
theorem inK_iff' {E:List Nat}(hE:Edg E) {x:Nat}(a:kd17 (E.getD 0 0) (E.getD (E.length-1) 0) x=3):inB E (bk E x) x=true:=by
 obtain ⟨n1,n2,n3⟩:=kd_in a
 -- some bin has it
 have hs:=hE.2.2.2
 have hex:∃ m,m+1<E.length∧inB E m x=true:=by
  have key:∀ d,d+1≤E.length→1≤d→sP x<sP (E.getD d 0)∨(d+1=E.length)→∃ m,m+1<E.length∧inB E m x=true:=by
   intro d
   induction d with
   | zero=>intro _ h _;omega
   | succ d ih =>
     intro h1 h2 h3
     by_cases q:sP (E.getD d 0)≤sP x
     · refine ⟨d,by omega,?_⟩
       rw [inB_iff];refine ⟨q,?_⟩
       rcases h3 with h3|h3
       · exact .inl h3
       · have e2:E.length-1=d+1:=by omega
         rw [e2] at n3
         rcases Int.lt_or_eq_of_le n3 with h4|h4
         · exact .inl h4
         · exact .inr ⟨by omega,h4⟩
     · rcases Nat.eq_zero_or_pos d with e | e
       · subst e;exact absurd n2 q
       · exact ih (by omega) e (.inl (by omega))
  exact key (E.length-1) (by have:=hE.1;omega) (by have:=hE.1;omega) (.inr (by have:=hE.1;omega))
 obtain ⟨m,hm,hin⟩:=hex;have:=bk_eq hE hm hin;rw [this];exact hin
theorem rAdd17 {w:World}{g gE gC cE x:Nat}{E:List Nat}{s:Hs}(h:Rm w g gE gC cE E s) (hx:x<18446744073709551616) :
 Calls Tryz.prog 55 #[.pointer (some ⟨g,0,none⟩),.float .f64 x] w fun r w'=>r=.returned (.int .i64 (if 1099511627776≤s.all then 2 else 0))∧Rm w' g gE gC cE E (if 1099511627776≤s.all then s else s.put E x)∧But2 g gC w w':=by
 have C:=hid (rAll17 h);have CN:=hid (fun u=>isOdd17 hx u)
 have CX:=hid (fun u=>key17 hx u)
 have h1:=h.ed.1;have hE2:=h.ed.2.1;have C0:=hid (fun u=>key17 (h.wE.get 0) u)
 have CM:=hid (fun u=>key17 (h.wE.get (E.length-1)) u)
 have HH:=qsd h;obtain ⟨er,her⟩:∃ e:Int,e=(if 1099511627776≤s.all then 2 else 0):=⟨_,rfl⟩
 obtain ⟨S,hS⟩:∃ S:Hs,S=(if 1099511627776≤s.all then s else s.put E x):=⟨_,rfl⟩
 rw [←her,←hS];obtain ⟨n,hn⟩:∃ n,n=s.all:=⟨_,rfl⟩;rw [←hn] at C her hS;have HR:=(qsd (ai her (ai hS hn)));obtain ⟨nE,hnE⟩:∃ n,n=E.length:=⟨_,rfl⟩;obtain ⟨nC,hnC⟩:∃ n,n=s.C.length:=⟨_,rfl⟩;have hle:nC+1=nE:=by rw [hnE,hnC];exact h.le
 have hnCE:nC=E.length-1:=by omega
 rw [←hnCE] at CM;rw [←hnE] at h1 hE2;obtain ⟨E0,hE0⟩:∃ y,y=E.getD 0 0:=⟨_,rfl⟩;obtain ⟨Em,hEm⟩:∃ y,y=E.getD nC 0:=⟨_,rfl⟩;rw [←hE0] at C0;rw [←hEm] at CM;have HL:=(qsd (ai hnE (ai hnC (ai hE0 (ai hEm hnCE)))));clear h her hS hn hnE hnC hE0 hEm hnCE;go_enter Tryz.func55,Tryz.ntmps55
 go_wp2_with fail
 refine C.out.mono ?_;rintro r v1 ⟨rfl,hv1⟩
 have K1:Aside (Rm v1 g gE gC cE E s∧Below w.heap.size w v1):=by
  obtain ⟨k,rfl⟩:=hv1;exact ⟨HH.out.below (below_drewN17 (Below.refl _ _) _),below_drewN17 (Below.refl _ _) _⟩
 clear C hv1 HH
 by_cases hf:1099511627776≤n
 · have d:decide ((1099511627776:Int)≤(n:Int))=true:=by simp;omega
   have HZ:Aside (er=2∧S=s):=⟨by rw [HR.out.1,if_pos hf],by rw [HR.out.2.1,if_pos hf]⟩
   clear HR;go_wp2;go_ret;exact ⟨by rw [HZ.out.1];rfl,by rw [HZ.out.2];exact K1.out.1,Below.two K1.out.2⟩
 · have d:decide ((1099511627776:Int)≤(n:Int))=false:=by simp;omega
   have HZ:Aside (er=0∧S=s.put E x∧¬ 1099511627776≤s.all):=⟨by rw [HR.out.1,if_neg hf],by rw [HR.out.2.1,if_neg hf],by rw [←HR.out.2.2];exact hf⟩
   have hsz:s.b<4000000000000∧s.a<4000000000000∧s.o<4000000000000∧s.C.sum<4000000000000:=by
    have:=HR.out.2.2;unfold Hs.all at this;omega
   clear HR;have y1:=K1.out.1.bl.cell 1 _ rfl;rw [←HL.out.2.1] at y1;have y4:=K1.out.1.bl.cell 4 _ rfl;have f4:=K1.out.1.bl.frozen 4;have C:=hid (CN.out v1);have wo:IntKind.i64.wrap ((s.o:Int)+1)=((s.o+1:Nat):Int):=wrapY (by omega) (by omega)
   by_cases hnan:9218868437227405312<magW x
   · rw [decide_eq_true hnan] at C
     have hk0:kd17 (E.getD 0 0) (E.getD (E.length-1) 0) x=0:=by
      unfold kd17;rw [if_pos (by unfold nanW;rw [decide_eq_true_eq];exact hnan)]
     obtain ⟨o1,ho1⟩:∃ z,z=s.o+1:=⟨_,rfl⟩;rw [←ho1] at wo
     have HF:Aside (Rm (v1.setCell ⟨g,4,none⟩ (.int .i64 (o1:Nat))) g gE gC cE E (s.put E x)∧But2 g gC w (v1.setCell ⟨g,4,none⟩ (.int .i64 (o1:Nat)))):=by
      have hbt:But g v1 (v1.setCell ⟨g,4,none⟩ (.int .i64 (o1:Nat))):=(But.refl g v1).set 4 _;refine ⟨K1.out.1.outs HZ.out.2.2 hk0.symm (by decide) ?_ hbt,(Below.two K1.out.2).trans hbt.two1⟩
      rw [if_neg (by decide),if_neg (by decide),if_pos rfl,←ho1]
      exact K1.out.1.bl.set 4 _
     obtain ⟨so,hso⟩:∃ z,z=s.o:=⟨_,rfl⟩;rw [←hso] at y4 wo;clear hk0 ho1 hso hsz K1
     go_wp2_with fail
     refine C.out.mono ?_;rintro r v2 ⟨rfl,rfl⟩;go_wp2;go_ret;exact ⟨by rw [HZ.out.1];rfl,by rw [HZ.out.2.1];exact HF.out⟩
   · rw [decide_eq_false hnan] at C
     have hnw:¬ nanW x=true:=by unfold nanW;rw [decide_eq_true_eq];exact hnan
     have hkd:kd17 (E.getD 0 0) (E.getD (E.length-1) 0) x=if sP x<sP E0 then 1 else if sP Em<sP x then 2 else 3:=by
      unfold kd17;rw [if_neg hnw,←HL.out.2.2.1,←HL.out.2.2.2.2,←HL.out.2.2.2.1]
     have y0:=K1.out.1.bl.cell 0 _ rfl;rw [←HL.out.1] at y0;have z0:=K1.out.1.es.cell (Below.refl _ _) 0 (by rw [←HL.out.1];omega)
     rw [Nat.zero_add,←HL.out.2.2.1] at z0;have bn0:(0:Int)<(nE:Int):=by omega
     clear y4 f4 wo
     go_wp2_with fail
     refine C.out.mono ?_;rintro r v2 ⟨rfl,hu⟩;rw [hu];clear hu C
     go_upto_region 11 with fail
     go_cut [50] from 51 to 60 (fun v wx=>v=.bool (decide (sP x<sP E0))∧Aside (∃ k,wx=v1.drewN k))
     case first =>
      go_quiet (first | (go_at_call_of 89 (Value.float FloatKind.f64 x);exact Calls.quiet_of_same (CX.out _)) | (go_at_call_of 89 (Value.float FloatKind.f64 E0);exact Calls.quiet_of_same (C0.out _)))
      go_wp2_with fail
      go_meet
      case rel=>exact ⟨by first | rfl | simp,_,rfl⟩
     obtain ⟨hcv,HQ⟩:=hcut;obtain ⟨V2,hW⟩:∃ W,W=wc:=⟨_,rfl⟩;subst hW
     have K2:Aside (Rm V2 g gE gC cE E s∧But2 g gC w V2):=by
      obtain ⟨k,rfl⟩:=HQ.out;exact ⟨K1.out.1.below (below_drewN17 (Below.refl _ _) _),Below.two (below_drewN17 K1.out.2 _)⟩
     clear HQ K1 y0 y1 z0;have f0:=K2.out.1.bl.frozen 2;have y2:=K2.out.1.bl.cell 2 _ rfl
     by_cases hlt:sP x<sP E0
     · rw [decide_eq_true hlt] at hcv
       subst hcv;rw [if_pos hlt] at hkd;have wb:IntKind.i64.wrap ((s.b:Int)+1)=((s.b+1:Nat):Int):=wrapY (by omega) (by omega)
       obtain ⟨b1,hb1⟩:∃ z,z=s.b+1:=⟨_,rfl⟩;rw [←hb1] at wb
       have HF:Aside (Rm (V2.setCell ⟨g,2,none⟩ (.int .i64 (b1:Nat))) g gE gC cE E (s.put E x)∧But2 g gC w (V2.setCell ⟨g,2,none⟩ (.int .i64 (b1:Nat)))):=by
        have hbt:But g V2 (V2.setCell ⟨g,2,none⟩ (.int .i64 (b1:Nat))):=(But.refl g V2).set 2 _;refine ⟨K2.out.1.outs HZ.out.2.2 hkd.symm (by decide) ?_ hbt,K2.out.2.trans hbt.two1⟩
        rw [if_pos rfl,if_neg (by decide),if_neg (by decide),←hb1]
        exact K2.out.1.bl.set 2 _
       obtain ⟨sb,hsb⟩:∃ z,z=s.b:=⟨_,rfl⟩;rw [←hsb] at y2 wb;clear hkd hb1 hsb hsz K2;go_wp2;go_ret;exact ⟨by rw [HZ.out.1];rfl,by rw [HZ.out.2.1];exact HF.out⟩
     · rw [decide_eq_false hlt] at hcv
       subst hcv;rw [if_neg hlt] at hkd;clear f0 y2;have y0:=K2.out.1.bl.cell 0 _ rfl;rw [←HL.out.1] at y0;have z0:=K2.out.1.es.cell (Below.refl _ _) nC (by rw [←HL.out.1];omega)
       rw [Nat.zero_add,←HL.out.2.2.2.1] at z0;have bnC:(nC:Int)<(nE:Int):=by omega
       have bnC0:(0:Int)≤(nC:Int):=by omega
       go_upto_region 13 with fail
       go_cut [68] from 69 to 79 (fun v wx=>v=.bool (decide (sP Em<sP x))∧Aside (∃ k,wx=V2.drewN k))
       case first =>
        go_quiet (first | (go_at_call_of 89 (Value.float FloatKind.f64 x);exact Calls.quiet_of_same (CX.out _)) | (go_at_call_of 89 (Value.float FloatKind.f64 Em);exact Calls.quiet_of_same (CM.out _)))
        go_wp2_with fail
        go_meet
        case rel=>exact ⟨by first | rfl | simp,_,rfl⟩
       obtain ⟨hcv,HQ⟩:=hcut;obtain ⟨V3,hW⟩:∃ W,W=wc:=⟨_,rfl⟩;subst hW
       have K3:Aside (Rm V3 g gE gC cE E s∧But2 g gC w V3):=by
        obtain ⟨k,rfl⟩:=HQ.out;exact ⟨K2.out.1.below (below_drewN17 (Below.refl _ _) _),K2.out.2.trans (Below.two (below_drewN17 (Below.refl _ _) _))⟩
       clear HQ K2 y0 z0;have f0:=K3.out.1.bl.frozen 3;have y2:=K3.out.1.bl.cell 3 _ rfl
       by_cases hgt:sP Em<sP x
       · rw [decide_eq_true hgt] at hcv
         subst hcv;rw [if_pos hgt] at hkd;have wa:IntKind.i64.wrap ((s.a:Int)+1)=((s.a+1:Nat):Int):=wrapY (by omega) (by omega)
         obtain ⟨b1,hb1⟩:∃ z,z=s.a+1:=⟨_,rfl⟩;rw [←hb1] at wa
         have HF:Aside (Rm (V3.setCell ⟨g,3,none⟩ (.int .i64 (b1:Nat))) g gE gC cE E (s.put E x)∧But2 g gC w (V3.setCell ⟨g,3,none⟩ (.int .i64 (b1:Nat)))):=by
          have hbt:But g V3 (V3.setCell ⟨g,3,none⟩ (.int .i64 (b1:Nat))):=(But.refl g V3).set 3 _;refine ⟨K3.out.1.outs HZ.out.2.2 hkd.symm (by decide) ?_ hbt,K3.out.2.trans hbt.two1⟩
          rw [if_neg (by decide),if_pos rfl,if_neg (by decide),←hb1]
          exact K3.out.1.bl.set 3 _
         obtain ⟨sa,hsa⟩:∃ z,z=s.a:=⟨_,rfl⟩;rw [←hsa] at y2 wa;clear hkd hb1 hsa hsz K3;go_wp2;go_ret;exact ⟨by rw [HZ.out.1];rfl,by rw [HZ.out.2.1];exact HF.out⟩
       · rw [decide_eq_false hgt] at hcv
         subst hcv;rw [if_neg hgt] at hkd;clear f0 y2;have y0:=K3.out.1.bl.cell 0 _ rfl;rw [←HL.out.1] at y0;have z0:=K3.out.1.es.cell (Below.refl _ _) nC (by rw [←HL.out.1];omega)
         rw [Nat.zero_add,←HL.out.2.2.2.1] at z0;have hin:=kd_in hkd
         go_upto_region 15 with fail
         go_cut [87] from 88 to 98 (fun v wx=>v=.bool (sP x==sP Em)∧Aside (∃ k,wx=V3.drewN k))
         case first =>
          go_quiet (first | (go_at_call_of 89 (Value.float FloatKind.f64 x);exact Calls.quiet_of_same (CX.out _)) | (go_at_call_of 89 (Value.float FloatKind.f64 Em);exact Calls.quiet_of_same (CM.out _)))
          go_wp2_with fail
          go_meet
          case rel=>exact ⟨by first | rfl | simp,_,rfl⟩
         obtain ⟨hcv,HQ⟩:=hcut;obtain ⟨V4,hW⟩:∃ W,W=wc:=⟨_,rfl⟩;subst hW
         have K4:Aside (Rm V4 g gE gC cE E s∧But2 g gC w V4):=by
          obtain ⟨k,rfl⟩:=HQ.out;exact ⟨K3.out.1.below (below_drewN17 (Below.refl _ _) _),K3.out.2.trans (Below.two (below_drewN17 (Below.refl _ _) _))⟩
         clear HQ K3 y0 z0;have hbl:=bk_lt K4.out.1.ed x
         have hinB:inB E (bk E x) x=true:=by
          have q:=(inK_iff' K4.out.1.ed hkd);exact q
         have y1:=K4.out.1.bl.cell 1 _ rfl;rw [←HL.out.2.1] at y1;have hbC:bk E x<s.C.length:=by have:=K4.out.1.le;omega
         have z1:=K4.out.1.cs.cell (bk E x) hbC;have z2:=K4.out.1.cs.frozen (bk E x);have hcb:=get_le_sum17 s.C (bk E x);have HI:=qsd (fun wy hy=>K4.out.1.ins (wy:=wy) HZ.out.2.2 hkd hy)
         have hbE:bk E x<nC:=by rw [HL.out.2.1];exact hbC
         have HNB:=qsd (ai hbl (ai hinB hcb));obtain ⟨kb,hkb⟩:∃ z,z=bk E x:=⟨_,rfl⟩;rw [←hkb] at z1 z2 hcb HI hbE;obtain ⟨ck,hck⟩:∃ z,z=s.C.getD kb 0:=⟨_,rfl⟩;rw [←hck] at z1 hcb HI;obtain ⟨c1,hc1⟩:∃ z,z=ck+1:=⟨_,rfl⟩;rw [←hc1] at HI;have wc:IntKind.i64.wrap ((ck:Int)+1)=(c1:Int):=wrapY (by omega) (by omega)
         have bk1:(kb:Int)<(nC:Int):=by omega
         have bk0:(0:Int)≤(kb:Int):=by omega
         have HKB:=qsd hkb;clear hck hc1 hkb hbl hinB hbC
         by_cases heq:sP x=sP Em
         · have hq:(sP x==sP Em)=true:=by simp [heq]
           rw [hq] at hcv;subst hcv
           have hlast:kb=nC-1:=by
            rw [HKB.out];refine bk_eq K4.out.1.ed (by rw [←HL.out.1];omega) ?_
            rw [inB_iff];have hr:=K4.out.1.ed.2.2.2 (nC-1) (by rw [←HL.out.1];omega)
            rw [show nC-1+1=nC by omega] at hr ⊢
            rw [←HL.out.2.2.2.1] at hr ⊢;exact ⟨by omega,.inr ⟨by rw [←HL.out.1];omega,heq⟩⟩
           have wl:IntKind.i64.wrap ((nC:Int)-1)=(kb:Int):=wrapY (by omega) (by omega)
           have HF:Aside (Rm (V4.setCell ⟨gC,kb,none⟩ (.int .i64 (c1:Nat))) g gE gC cE E (s.put E x)∧But2 g gC w (V4.setCell ⟨gC,kb,none⟩ (.int .i64 (c1:Nat)))):=by
            have q:=HI.out _ rfl;exact ⟨q.1,K4.out.2.trans q.2⟩
           clear hlast HI K4 hq heq hin;go_wp2;go_ret;exact ⟨by rw [HZ.out.1];rfl,by rw [HZ.out.2.1];exact HF.out⟩
         · have hq:(sP x==sP Em)=false:=by simp [heq]
           rw [hq] at hcv;subst hcv
           have HF:Aside (Rm (V4.setCell ⟨gC,kb,none⟩ (.int .i64 (c1:Nat))) g gE gC cE E (s.put E x)∧But2 g gC w (V4.setCell ⟨gC,kb,none⟩ (.int .i64 (c1:Nat)))):=by
            have q:=HI.out _ rfl;exact ⟨q.1,K4.out.2.trans q.2⟩
           have y0:=K4.out.1.bl.cell 0 _ rfl;rw [←HL.out.1] at y0;have HEQ:=(qsd (ai heq hin));clear HI hq heq hin;go_wp2
           go_loopg [7] kb (fun gk iv wr=>∃ k:Nat,gk+k=kb∧iv=.int .i64 (k:Nat)∧wr=V4)
           case atStart=>exact ⟨0,by omega,by first | rfl | simp,rfl⟩
           case round =>
            obtain ⟨k,hgk,rfl,rfl⟩:=hrel;obtain ⟨k1,hk1⟩:∃ z,z=k+1:=⟨_,rfl⟩;have wk:IntKind.i64.wrap ((k:Int)+1)=(k1:Int):=wrapY (by omega) (by omega)
            have bkk:(k1:Int)<(nE:Int):=by omega
            have bkk0:(0:Int)≤(k1:Int):=by omega
            have hx1:=K4.out.1.es.cell (Below.refl _ _) k1 (by rw [←HL.out.1];omega)
            rw [Nat.zero_add] at hx1;have CK:=hid (fun u=>key17 (K4.out.1.wE.get k1) u)
            have hinB:=HNB.out.2.1;rw [←HKB.out,inB_iff] at hinB
            have hcmp:(k<kb→sP (E.getD k1 0)≤sP x)∧(k=kb→¬ sP (E.getD k1 0)≤sP x):=by
             constructor
             · intro q
               have:=rise_le K4.out.1.ed.2.2.2 (show k1≤kb by omega) (by rw [←HL.out.1];omega)
               omega
             · intro q
               rw [hk1,q]
               rcases hinB.2 with e|⟨e1,e2⟩
               · omega
               · exfalso
                 rw [show kb+1=nC by rw [←HL.out.1] at e1;omega,←HL.out.2.2.2.1] at e2
                 exact HEQ.out.1 e2
            obtain ⟨y,hy⟩:∃ y,y=E.getD k1 0:=⟨_,rfl⟩;rw [←hy] at hx1 CK hcmp;obtain ⟨p,hp⟩:∃ p,p=sP y:=⟨_,rfl⟩;obtain ⟨q,hqq⟩:∃ p,p=sP x:=⟨_,rfl⟩;have C1:=hid (CK.out wr);have C2:=hid (CX.out wr);rw [←hp] at C1 hcmp;rw [←hqq] at C2 hcmp;have HK:=qsd hk1;clear hinB hy hp hqq hk1 CK
            by_cases hlt':k<kb
            · have dl:decide (p≤q)=true:=decide_eq_true (hcmp.1 hlt')
              clear hcmp
              go_wp2_with fail
              refine C1.out.mono ?_;rintro r v5 ⟨rfl,hu⟩;rw [hu];clear hu C1
              go_wp2_with fail
              refine C2.out.mono ?_;rintro r v5 ⟨rfl,hu⟩;rw [hu];clear hu C2;go_wp2
              go_roundg (kb-k1)
              case measure=>have:=HK.out;omega
              case rel=>exact ⟨k1,by have:=HK.out;omega,by first | rfl | simp,rfl⟩
            · obtain rfl:k=kb:=by omega
              have dl:decide (p≤q)=false:=decide_eq_false (hcmp.2 rfl);clear hcmp
              go_wp2_with fail
              refine C1.out.mono ?_;rintro r v5 ⟨rfl,hu⟩;rw [hu];clear hu C1
              go_wp2_with fail
              refine C2.out.mono ?_;rintro r v5 ⟨rfl,hu⟩;rw [hu];clear hu C2 K4;go_wp2;refine bodyPost_ret (v:=.int .i64 0) (by simp [results,Tryz.results55,go_sem]) rfl ?_
              exact ⟨by rw [HZ.out.1],by rw [HZ.out.2.1];exact HF.out⟩
end
section
open Go Go.RowKit J
attribute [local go_sem] st_float
theorem rNewNo17 (xs:List Nat) (ao:Option Addr) (n cap:Nat) (w:World) (hF:Fs w.heap.size w ao xs) (hn:n=xs.length) (hb':n≤17592186043904) (hW:W64 xs) (hE:¬ Edg xs) :
 Calls Tryz.prog 13 #[.slice ao n cap] w fun r w'=>r=.returned (.tuple #[.pointer none,.int .i64 170])∧Below w.heap.size w w':=by
 have C:=hid (May17 xs ao n cap w hF hn (by omega) hW)
 have HX:=qsd hE;clear hF hn hW hE;go_enter Tryz.func13,Tryz.ntmps13
 go_wp2_with fail
 refine C.out.mono ?_;rintro r v ⟨⟨b,rfl,hbe⟩,hbw⟩
 obtain rfl:b=false:=by
  cases b
  · rfl
  · exact absurd (hbe.1 rfl) HX.out
 have HV:=qsd hbw;clear C hbe hbw;go_wp2;refine bodyPost_ret (v:=.tuple #[.pointer none,.int .i64 170]) (by simp [results,Tryz.results13,go_sem]) rfl ?_
 exact ⟨rfl,HV.out⟩
theorem rNew17 (xs:List Nat) (ao:Option Addr) (n cap:Nat) (w:World) (hF:Fs w.heap.size w ao xs) (hn:n=xs.length) (hb':n≤17592186043904) (hW:W64 xs) (hE:Edg xs) :
 Calls Tryz.prog 13 #[.slice ao n cap] w fun r w'=>(∃ g gE gC cE,r=.returned (.tuple #[.pointer (some ⟨g,0,none⟩),.int .i64 0])∧Rm w' g gE gC cE xs ⟨List.replicate (n-1) 0,0,0,0⟩∧w.heap.size≤g∧w.heap.size≤gE∧w.heap.size≤gC)∧Below w.heap.size w w':=by
 have C:=hid (May17 xs ao n cap w hF hn (by omega) hW)
 have hE1:=hE.1;have hE2:=hE.2.1;have HX:=(qsd (ai hF (ai hn (ai hW hE))));obtain ⟨m,hm⟩:∃ m,m=n-1:=⟨_,rfl⟩;rw [←hm];have wm:IntKind.i64.wrap ((n:Int)-1)=(m:Int):=wrapY (by omega) (by omega)
 have HM:Aside (m+1=xs.length∧n≤1024):=⟨by rw [←hn];show m+1=n;omega,by omega⟩
 clear hF hn hW hE hm hE1 hE2;go_enter Tryz.func13,Tryz.ntmps13
 go_wp2_with fail
 refine C.out.mono ?_;rintro r v ⟨⟨b,rfl,hbe⟩,hbw⟩;obtain rfl:b=true:=hbe.2 HX.out.2.2.2;obtain ⟨W1,hW1⟩:∃ W,W=v.alloc (Obj.cells #[.slice none 0 0,.slice none 0 0,.int .i64 0,.int .i64 0,.int .i64 0] 90):=⟨_,rfl⟩;obtain ⟨g,hg⟩:∃ g,g=v.heap.size:=⟨_,rfl⟩;have hB1:Bl W1 g 90 [.slice none 0 0,.slice none 0 0,.int .i64 0,.int .i64 0,.int .i64 0]:=by rw [hW1,hg];exact Bl.new _ _ [_,_,_,_,_]
 have hbw1:Below w.heap.size w W1:=by rw [hW1];exact hbw.trans ((below_alloc _ _).mono hbw.size)
 have hF1:=(HX.out.1.below hbw1).mono hbw1.size;have hg1:g+1=W1.heap.size:=by rw [hW1,hg,World.size_alloc]
 obtain ⟨ad,hao⟩:∃ ad,ao=some ad:=by
  obtain ⟨b,off,_,e,_⟩:=hF1 (by intro e;rw [e] at HM;have:=HM.out.1;simp at this)
  exact ⟨_,e⟩
 obtain ⟨vE,W2,hrun,hR,hgr,hoc⟩:=append_flts W1 W1.heap.size (.slice none 0 0) [] xs ao n cap 22 (Rf.nil _ _) HX.out.2.1 (fun hne=>by
  obtain ⟨b,off,_,e,hc⟩:=hF1 hne;exact ⟨b,off,e,hc⟩) (by rw [hao];simp) (by have:=HM.out.2;simp;omega) (Nat.le_refl _)
 rw [List.nil_append] at hR;obtain ⟨gE,cE,rfl,hgE,hgE2,hFE⟩:=Rf.fs17 hR (by have:=HM.out.1;omega)
 have hB2:Bl W2 g 90 [.slice none 0 0,.slice none 0 0,.int .i64 0,.int .i64 0,.int .i64 0]:=by
  unfold Bl at hB1 ⊢;rw [hgr.block g (by omega) (by simp [Value.ownBlock])]
  exact hB1
 have hbw2:Below w.heap.size w W2:=hbw1.grown hgr hbw1.size (fun k e=>by simp [Value.ownBlock] at e)
 obtain ⟨W3,hW3⟩:∃ W,W=W2.setCell ⟨g,0,none⟩ (.slice (some ⟨gE,0,none⟩) xs.length cE):=⟨_,rfl⟩;have hbt3:But g W2 W3:=by rw [hW3];exact (But.refl g W2).set 0 _
 have hB3:Bl W3 g 90 [.slice (some ⟨gE,0,none⟩) xs.length cE,.slice none 0 0,.int .i64 0,.int .i64 0,.int .i64 0]:=by rw [hW3];exact hB2.set 0 _
 have hFE3:Fs W3.heap.size W3 (some ⟨gE,0,none⟩) xs:=hFE.re17 hbt3.size (fun hl=>hbt3.block gE hl (by omega))
 obtain ⟨W4,hW4⟩:∃ W,W=W3.alloc (.cells (madeCells #[.int .i64 0] m) 3):=⟨_,rfl⟩;obtain ⟨gC,hgC⟩:∃ g,g=W3.heap.size:=⟨_,rfl⟩;have hmk:(Instr.makeSlice 57 (.int .i64 (m:Nat)) (.int .i64 (m:Nat))).run Tryz.prog W3=.ok (.slice (some ⟨gC,0,none⟩) m m) W4:=by rw [hgC,hW4];exact make_ints17 ((m:Nat):Int) m rfl (by have:=HM.out;have:=HX.out.2.1;omega) W3
 have al:=below_alloc W3 (.cells (madeCells #[.int .i64 0] m) 3);rw [←hW4] at al;have hB4:=hB3.below al hB3.lt;have hlt3:=hB3.lt;have hbw3:Below w.heap.size w W3:=But.below hbw2 hbt3 hbw2.size (by rw [hg];exact hbw.size)
 have HF:Aside (Rm (W4.setCell ⟨g,1,none⟩ (.slice (some ⟨gC,0,none⟩) m m)) g gE gC cE xs ⟨List.replicate m 0,0,0,0⟩∧w.heap.size≤g∧w.heap.size≤gE∧w.heap.size≤gC∧Below w.heap.size w (W4.setCell ⟨g,1,none⟩ (.slice (some ⟨gC,0,none⟩) m m))):=by
  have hbt5:But g W4 (W4.setCell ⟨g,1,none⟩ (.slice (some ⟨gC,0,none⟩) m m)):=(But.refl g W4).set 1 _;have hO4:OwnI W4 gC (List.replicate m 0):=by rw [hW4,hgC];exact OwnI.made17 W3 m
  have hgEl:=Fs.lt17 hFE3 (by intro e;rw [e] at HM;have:=HM.out.1;simp at this)
  have hbw4:=hbw3.trans (al.mono hbw3.size);have hwg:w.heap.size≤g:=by rw [hg];exact hbw.size
  refine ⟨⟨?_,?_,((hFE3.below al).mono al.size).re17 hbt5.size (fun hl=>hbt5.block gE hl (by omega)),by omega,by omega,by omega,HX.out.2.2.2,HX.out.2.2.1,by simpa using HM.out.1,by rw [zero_all17];omega⟩,hwg,by omega,by omega,But.below hbw4 hbt5 hbw4.size hwg⟩
  · have q:=hB4.set 1 (.slice (some ⟨gC,0,none⟩) m m)
    show Bl _ g _ [.slice (some ⟨gE,0,none⟩) xs.length cE,.slice (some ⟨gC,0,none⟩) (List.replicate m 0).length (List.replicate m 0).length,.int .i64 0,.int .i64 0,.int .i64 0]
    rw [List.length_replicate];exact q
  · have:=hO4
    unfold OwnI at this ⊢;rw [hbt5.block gC (Array.getElem?_eq_some_iff.1 this).1 (by omega)]
    exact this
 have k0:W1.cell? ⟨g,0,none⟩=some (.slice none 0 0):=hB1.cell 0 _ rfl;have q0:W2.cell? ⟨g,0,none⟩=some (.slice none 0 0):=hB2.cell 0 _ rfl;have q1:=hB2.frozen 0;have r0:W4.cell? ⟨g,1,none⟩=some (.slice none 0 0):=hB4.cell 1 _ rfl;have r1:=hB4.frozen 1;have HR:=qsd hrun;have HW:=(qsd (ai hW1 hg));have HW3:=qsd hW3;clear C hbe hbw hW1 hg hB1 hbw1 hF1 hg1 hao hrun hR hgr hoc hgE hgE2 hFE hB2 hbw2 hbt3 hB3 hFE3 hW4 hgC al hB4 hlt3 hbw3 hW3 HX HM
 go_upto_region 5 with fail
 rw [←HW.out.1,←HW.out.2];clear HW
 go_upto_region 6 with (at_builtin;refine wpList_append_flt rfl _ _ rfl _ _ rfl rfl _ _ HR.out ?_)
 rw [←HW3.out];clear HW3 k0 q0 q1;go_wp2;refine bodyPost_ret (v:=.tuple #[.pointer (some ⟨g,0,none⟩),.int .i64 0]) (by simp [results,Tryz.results13,go_sem]) rfl ?_
 exact ⟨⟨g,gE,gC,cE,rfl,HF.out.1,HF.out.2.1,HF.out.2.2.1,HF.out.2.2.2.1⟩,HF.out.2.2.2.2⟩
end
section
open Go Go.RowKit J
theorem map_ne17 {E F:List Nat}{i:Nat}(h1:i<E.length) (h2:i<F.length) (h:sP (E.getD i 0)≠sP (F.getD i 0)):¬ E.map sP=F.map sP:=fun e=>by
 have e2:=congrArg (fun l=>l[i]?) e
 simp only [List.getElem?_map] at e2;rw [List.getElem?_eq_getElem h1,List.getElem?_eq_getElem h2] at e2
 rw [List.getD_eq_getElem?_getD,List.getD_eq_getElem?_getD,List.getElem?_eq_getElem h1,List.getElem?_eq_getElem h2] at h
 exact h (Option.some.inj e2)
theorem map_eq17 {E F:List Nat}(hl:E.length=F.length) (h:∀ i,i<E.length→sP (E.getD i 0)=sP (F.getD i 0)):E.map sP=F.map sP:=by
 refine List.ext_getElem (by simp [hl]) fun i h1 h2=>?_
 simp at h1 h2;have:=h i h1;rw [List.getD_eq_getElem?_getD,List.getD_eq_getElem?_getD,List.getElem?_eq_getElem h1,List.getElem?_eq_getElem h2] at this
 simpa using this
theorem rMerge17 {w:World}{g gE gC cE g2 gF gD cF:Nat}{E F:List Nat}{s t:Hs}(h:Rm w g gE gC cE E s) (h2:Rm w g2 gF gD cF F t) (q1:g2≠g∧g2≠gC) (q2:gD≠g∧gD≠gC) (q3:gF≠g∧gF≠gC) :
 Calls Tryz.prog 56 #[.pointer (some ⟨g,0,none⟩),.pointer (some ⟨g2,0,none⟩)] w fun r w'=>r=.returned (.int .i64 (if ¬ E.map sP=F.map sP then 170 else if 1099511627776<s.all+t.all then 2 else 0))∧Rm w' g gE gC cE E (if ¬ E.map sP=F.map sP then s else if 1099511627776<s.all+t.all then s else s.mrg t)∧But2 g gC w w':=by
 obtain ⟨er,her⟩:∃ e:Int,e=(if ¬ E.map sP=F.map sP then 170 else if 1099511627776<s.all+t.all then 2 else 0):=⟨_,rfl⟩
 obtain ⟨S,hS⟩:∃ S:Hs,S=(if ¬ E.map sP=F.map sP then s else if 1099511627776<s.all+t.all then s else s.mrg t):=⟨_,rfl⟩
 rw [←her,←hS];have HR:=(qsd (ai her hS));have HH:=(qsd (ai h (ai h2 (ai q1 (ai q2 q3)))));have y0:=h.bl.cell 0 _ rfl;have z0:=h2.bl.cell 0 _ rfl;obtain ⟨nE,hnE⟩:∃ n,n=E.length:=⟨_,rfl⟩;obtain ⟨nF,hnF⟩:∃ n,n=F.length:=⟨_,rfl⟩;rw [←hnE] at y0;rw [←hnF] at z0;have hE2:nE≤1024:=by rw [hnE];exact h.ed.2.1
 have HL:=(qsd (ai hnE hnF));clear her hS h h2 q1 q2 q3 hnE hnF;go_enter Tryz.func56,Tryz.ntmps56
 go_upto_region 1 with fail
 go_cut [17] from 7 to 16 (fun v wx=>v=.bool ((nE:Int) != (nF:Int))∧Aside (∃ k,wx=w.drewN k))
 case first =>
  go_quiet (fail)
  go_wp2_with fail
  go_meet
  case rel=>exact ⟨by first | rfl | simp,_,rfl⟩
 obtain ⟨hcv,HQ⟩:=hcut;obtain ⟨V,hV⟩:∃ W,W=wc:=⟨_,rfl⟩;subst hV;clear y0 z0
 by_cases hnn:nE=nF
 · have hq:((nE:Int) != (nF:Int))=false:=by simp [hnn]
   rw [hq] at hcv;subst hcv;clear hq;go_wp2
   go_loopg [5] nE (fun gk iv wr=>∃ k:Nat,gk+k=nE∧iv=.int .i64 (k:Nat)∧Aside ((∀ i,i<k→sP (E.getD i 0)=sP (F.getD i 0))∧∃ q,wr=w.drewN q))
   case atStart=>exact ⟨0,by omega,by first | rfl | simp,fun i hi=>by omega,HQ.out⟩
   case round =>
    clear HQ;obtain ⟨k,hgk,rfl,HA⟩:=hrel;have hbel:Below w.heap.size w wr:=by obtain ⟨q,e⟩:=HA.out.2;rw [e];exact below_drewN17 (Below.refl _ _) _
    have K1:=qsd (HH.out.1.below hbel);have K2:=qsd (HH.out.2.1.below hbel);have KB:=qsd hbel;clear hbel;have y0:=K1.out.bl.cell 0 _ rfl;rw [←HL.out.1] at y0
    by_cases hk:k<nE
    · have hdk:decide ((k:Int)<(nE:Int))=true:=by simp;omega
      have bk:(k:Int)<(nE:Int):=by omega
      have bk0:(0:Int)≤(k:Int):=by omega
      obtain ⟨k1,hk1⟩:∃ x,x=k+1:=⟨_,rfl⟩;have wk:IntKind.i64.wrap ((k:Int)+1)=(k1:Int):=wrapY (by omega) (by omega)
      have z0:=K2.out.bl.cell 0 _ rfl;rw [←HL.out.2] at z0;have bkF:(k:Int)<(nF:Int):=by omega
      have e1:=K1.out.es.cell (Below.refl _ _) k (by rw [←HL.out.1];exact hk)
      have e2:=K2.out.es.cell (Below.refl _ _) k (by rw [←HL.out.2];omega)
      rw [Nat.zero_add] at e1 e2;have C1:=hid (fun u=>key17 (K1.out.wE.get k) u)
      have C2:=hid (fun u=>key17 (K2.out.wE.get k) u)
      obtain ⟨x,hx⟩:∃ x,x=E.getD k 0:=⟨_,rfl⟩;obtain ⟨y,hy⟩:∃ x,x=F.getD k 0:=⟨_,rfl⟩;rw [←hx] at e1 C1;rw [←hy] at e2 C2;have HXY:=(qsd (ai hx (ai hy hk1)));clear hx hy hk1
      go_upto_region 6 with fail
      go_cut [43] from 27 to 42 (fun v wx=>v=.bool (sP x != sP y)∧Aside (∃ q,wx=wr.drewN q))
      case first =>
       go_quiet (first | (go_at_call_of 89 (Value.float FloatKind.f64 x);exact Calls.quiet_of_same (C1.out _)) | (go_at_call_of 89 (Value.float FloatKind.f64 y);exact Calls.quiet_of_same (C2.out _)))
       go_wp2_with fail
       go_meet
       case rel=>exact ⟨by first | rfl | simp,_,rfl⟩
      obtain ⟨hcv,HQ⟩:=hcut;obtain ⟨V2,hV⟩:∃ W,W=wc:=⟨_,rfl⟩;subst hV
      have HD:Aside (∃ q,V2=w.drewN q):=by
       obtain ⟨q,e⟩:=HQ.out;obtain ⟨p,e2⟩:=HA.out.2;exact ⟨p+q,by rw [e,e2];exact drewN_drewN17 w p q⟩
      clear y0 e1 e2 C1 C2 HQ z0
      by_cases heq:sP x=sP y
      · have hq:(sP x != sP y)=false:=by simp [heq]
        rw [hq] at hcv;subst hcv;clear hq;go_wp2
        go_roundg (nE-k1)
        case measure=>have:=HXY.out.2.2;omega
        case rel=>exact ⟨k1,by have:=HXY.out.2.2;omega,by first | rfl | simp,fun i hi=>by
         by_cases e:i<k
         · exact HA.out.1 i e
         · have:=HXY.out
           obtain rfl:i=k:=by omega
           rw [←this.1,←this.2.1];exact heq,HD.out⟩
      · have hq:(sP x != sP y)=true:=by simp [heq]
        rw [hq] at hcv;subst hcv
        have HZ:Aside (er=170∧Rm V2 g gE gC cE E S∧But2 g gC w V2):=by
         have hne:¬ E.map sP=F.map sP:=map_ne17 (i:=k) (by rw [←HL.out.1];exact hk) (by rw [←HL.out.2];omega) (by rw [←HXY.out.1,←HXY.out.2.1];exact heq)
         obtain ⟨q,e⟩:=HD.out;have hbel:Below w.heap.size w V2:=by rw [e];exact below_drewN17 (Below.refl _ _) _
         exact ⟨by rw [HR.out.1,if_pos hne],by rw [HR.out.2,if_pos hne];exact HH.out.1.below hbel,Below.two hbel⟩
        clear hq HA HD;go_wp2;refine bodyPost_ret (v:=.int .i64 170) (by simp [results,Tryz.results56,go_sem]) rfl ?_
        exact ⟨by rw [HZ.out.1],HZ.out.2⟩
    · obtain rfl:k=nE:=by omega
      have hdk:decide ((k:Int)<(k:Int))=false:=by simp
      have hmap:E.map sP=F.map sP:=map_eq17 (by rw [←HL.out.1,←HL.out.2];exact hnn) (fun i hi=>HA.out.1 i (by rw [HL.out.1];exact hi))
      have HMP:=qsd hmap;clear hmap;have hlenC:s.C.length=t.C.length:=by have:=K1.out.le;have:=K2.out.le;have:=HL.out;omega
      have HLC:=qsd hlenC;obtain ⟨n,hn⟩:∃ n,n=s.all:=⟨_,rfl⟩;obtain ⟨m,hm⟩:∃ n,n=t.all:=⟨_,rfl⟩;have hmx1:=K1.out.mx;have hmx2:=K2.out.mx;have D1:=hid (rAll17 K1.out);have C2:=hid (fun q=>rAll17 (K2.out.below (below_drewN17 (Below.refl _ _) q)))
      rw [←hn] at D1 hmx1;rw [←hm] at C2 hmx2;obtain ⟨n3,hn3⟩:∃ z,z=n+m:=⟨_,rfl⟩;have wn:IntKind.i64.wrap ((n:Int)+(m:Int))=(n3:Int):=wrapY (by omega) (by omega)
      have HNN:=(qsd (ai hn (ai hm hn3)));clear hn hm hn3 hlenC
      go_wp2_with fail
      refine D1.out.mono ?_;rintro r v1 ⟨rfl,hv⟩;obtain ⟨r1,rfl⟩:∃ q,v1=wr.drewN q:=hv;clear D1 y0;have D2:=hid (C2.out r1)
      go_wp2_with fail
      refine D2.out.mono ?_;rintro r v2 ⟨rfl,hv⟩
      have K5:Aside (Rm v2 g gE gC cE E s∧Below w.heap.size w v2∧Rm v2 g2 gF gD cF F t):=by
       obtain ⟨q,rfl⟩:=hv;have b5:=below_drewN17 (below_drewN17 (Below.refl wr.heap.size wr) r1) q;exact ⟨K1.out.below b5,KB.out.trans (b5.mono KB.out.size) ,K2.out.below b5⟩
      clear D2 C2 hv K1 K2 KB HA
      by_cases hbig:1099511627776<n3
      · have dbig:decide ((1099511627776:Int)<(n3:Int))=true:=by simp;omega
        have HZ:Aside (er=2∧Rm v2 g gE gC cE E S∧But2 g gC w v2):=by
         have q:1099511627776<s.all+t.all:=by have:=HNN.out;omega
         exact ⟨by rw [HR.out.1,if_neg (not_not_intro HMP.out),if_pos q],by rw [HR.out.2,if_neg (not_not_intro HMP.out),if_pos q];exact K5.out.1,Below.two K5.out.2.1⟩
        go_wp2;go_ret;exact ⟨by rw [HZ.out.1];rfl,HZ.out.2⟩
      · have dbig:decide ((1099511627776:Int)<(n3:Int))=false:=by simp;omega
        have HZ:Aside (er=0∧S=s.mrg t):=by
         have q:¬ 1099511627776<s.all+t.all:=by have:=HNN.out;omega
         exact ⟨by rw [HR.out.1,if_neg (not_not_intro HMP.out),if_neg q],by rw [HR.out.2,if_neg (not_not_intro HMP.out),if_neg q]⟩
        obtain ⟨nC,hnC⟩:∃ n,n=s.C.length:=⟨_,rfl⟩;have hnCb:nC≤1024:=by have:=K5.out.1.le;have:=K5.out.1.ed.2.1;omega
        have HNC:=qsd hnC;clear hnC;go_wp2
        go_loopg [6] nC (fun gk iv wr=>∃ k:Nat,gk+k=nC∧iv=.int .i64 (k:Nat)∧Aside (OwnI wr gC (mgT s.C t.C k)∧But gC v2 wr))
        case atStart=>exact ⟨0,by omega,by first | rfl | simp,by rw [mgT_zero];exact K5.out.1.cs,But.refl _ _⟩
        case round =>
         obtain ⟨k',hgk',rfl,HA⟩:=hrel;have y1:=(K5.out.1.bl.but HA.out.2 K5.out.1.n1).cell 1 _ rfl;rw [←HNC.out] at y1
         by_cases hk':k'<nC
         · have hdk':decide ((k':Int)<(nC:Int))=true:=by simp;omega
           have lk:(k':Int)<(nC:Int):=by omega
           have lk0:(0:Int)≤(k':Int):=by omega
           obtain ⟨k1,hk1⟩:∃ x,x=k'+1:=⟨_,rfl⟩;have wk:IntKind.i64.wrap ((k':Int)+1)=(k1:Int):=wrapY (by omega) (by omega)
           have hkC:k'<s.C.length:=by have:=HNC.out;omega
           have x1:wr.cell? ⟨gC,k',none⟩=some (.int .i64 ((s.C.getD k' 0:Nat):Int)):=by
            have:=HA.out.1.cell k' (by rw [mgT_len HLC.out];exact hkC)
            rw [mgT_get HLC.out hkC] at this;exact this
           have x2:wr.cell? ⟨gD,k',none⟩=some (.int .i64 ((t.C.getD k' 0:Nat):Int)):=(K5.out.2.2.cs.but17 HA.out.2 HH.out.2.2.2.1.2).cell k' (by rw [←HLC.out];exact hkC)
           have z1:=(K5.out.2.2.bl.but HA.out.2 HH.out.2.2.1.2).cell 1 _ rfl;rw [←HLC.out,←HNC.out] at z1;have x4:wr.frozen? ⟨gC,k',none⟩=false:=HA.out.1.frozen k';have hset:=HA.out.1.drew.set k' (s.C.getD k' 0+t.C.getD k' 0);rw [mgT_set HLC.out hkC] at hset;have hb1:=get_le_sum17 s.C k';have hb2:=get_le_sum17 t.C k';have hb3:s.C.sum≤n∧t.C.sum≤m:=by rw [HNN.out.1,HNN.out.2.1];unfold Hs.all;omega
           obtain ⟨p,hp⟩:∃ p,p=s.C.getD k' 0:=⟨_,rfl⟩;obtain ⟨q,hq⟩:∃ p,p=t.C.getD k' 0:=⟨_,rfl⟩;rw [←hp] at x1 hset hb1;rw [←hq] at x2 hset hb2;have wp:IntKind.i64.wrap ((p:Int)+(q:Int))=((p+q:Nat):Int):=wrapY (by omega) (by omega)
           obtain ⟨pq,hpq⟩:∃ p',p'=p+q:=⟨_,rfl⟩;rw [←hpq] at wp hset;have HN:Aside (OwnI (wr.drew.setCell ⟨gC,k',none⟩ (.int .i64 (pq:Nat))) gC (mgT s.C t.C k1)∧But gC v2 (wr.drew.setCell ⟨gC,k',none⟩ (.int .i64 (pq:Nat)))):=⟨by rw [hk1];exact hset,HA.out.2.drew.set k' _⟩
           have HK:=qsd hk1;have y1':wr.cell? ⟨g,1,none⟩=some (.slice (some ⟨gC,0,none⟩) nC nC):=y1;clear hset hb1 hb2 hb3 hp hq hpq hk1 HA hkC
           go_upto_region 13 with fail
           go_region
           all_goals
            go_wp2
            go_roundg (nC-k1)
            case measure=>have:=HK.out;omega
            case rel=>exact ⟨k1,by have:=HK.out;omega,by first | rfl | simp,HN.out⟩
         · obtain rfl:k'=nC:=by omega
           have hdk':decide ((k':Int)<(k':Int))=false:=by simp
           have hO:=HA.out.1;rw [mgT_all HLC.out HNC.out] at hO;have hB1:=K5.out.1.bl.but HA.out.2 K5.out.1.n1;have hB2:=K5.out.2.2.bl.but HA.out.2 HH.out.2.2.1.2;have HQ1:=qsd HH.out.2.2.1;have hs1:s.b+s.a+s.o≤n∧t.b+t.a+t.o≤m:=by rw [HNN.out.1,HNN.out.2.1];unfold Hs.all;omega
           have HB:Aside (Bl wr g 90 [.slice (some ⟨gE,0,none⟩) E.length cE,.slice (some ⟨gC,0,none⟩) s.C.length s.C.length,.int .i64 (s.b:Nat),.int .i64 (s.a:Nat),.int .i64 (s.o:Nat)]∧Bl wr g2 90 [.slice (some ⟨gF,0,none⟩) F.length cF,.slice (some ⟨gD,0,none⟩) t.C.length t.C.length,.int .i64 (t.b:Nat),.int .i64 (t.a:Nat),.int .i64 (t.o:Nat)]∧But2 g gC v2 wr∧OwnI wr gC (List.zipWith (·+·) s.C t.C)):=⟨hB1,hB2,HA.out.2.two2,hO⟩
           clear hO hB1 hB2 HA;have c0:wr.cell? ⟨g,2,none⟩=some (.int .i64 (s.b:Nat)):=HB.out.1.cell 2 _ rfl;have e0:wr.cell? ⟨g2,2,none⟩=some (.int .i64 (t.b:Nat)):=HB.out.2.1.cell 2 _ rfl;have f0:wr.frozen? ⟨g,2,none⟩=false:=HB.out.1.frozen 2;have w0:IntKind.i64.wrap ((s.b:Int)+(t.b:Int))=((s.b+t.b:Nat):Int):=wrapY (by omega) (by omega)
           go_upto_region 14 with fail
           go_cut [] from 80 to 91 (fun wx=>Aside (Bl wx g 90 [.slice (some ⟨gE,0,none⟩) E.length cE,.slice (some ⟨gC,0,none⟩) s.C.length s.C.length,.int .i64 ((s.b+t.b:Nat):Int),.int .i64 (s.a:Nat),.int .i64 (s.o:Nat)]∧Bl wx g2 90 [.slice (some ⟨gF,0,none⟩) F.length cF,.slice (some ⟨gD,0,none⟩) t.C.length t.C.length,.int .i64 (t.b:Nat),.int .i64 (t.a:Nat),.int .i64 (t.o:Nat)]∧But2 g gC v2 wx∧OwnI wx gC (List.zipWith (·+·) s.C t.C)))
           case first =>
            go_region
            all_goals
             go_wp2_with fail
             go_meet
             case rel=>exact ⟨HB.out.1.drew.set 2 _,(HB.out.2.1.drew).but ((But.refl g wr.drew).set 2 _) HQ1.out.1,HB.out.2.2.1.trans ((But.refl g wr).drew.set 2 _).two1,HB.out.2.2.2.but17 ((But.refl g wr).drew.set 2 _) (Ne.symm K5.out.1.n1)⟩
           clear HB c0 f0 w0 e0;have HB:=hcut;obtain ⟨X14,hV⟩:∃ W,W=wc:=⟨_,rfl⟩;subst hV;clear hcut;have c0:X14.cell? ⟨g,3,none⟩=some (.int .i64 (s.a:Nat)):=HB.out.1.cell 3 _ rfl;have e0:X14.cell? ⟨g2,3,none⟩=some (.int .i64 (t.a:Nat)):=HB.out.2.1.cell 3 _ rfl;have f0:X14.frozen? ⟨g,3,none⟩=false:=HB.out.1.frozen 3;have w0:IntKind.i64.wrap ((s.a:Int)+(t.a:Int))=((s.a+t.a:Nat):Int):=wrapY (by omega) (by omega)
           go_upto_region 15 with fail
           go_cut [] from 92 to 103 (fun wx=>Aside (Bl wx g 90 [.slice (some ⟨gE,0,none⟩) E.length cE,.slice (some ⟨gC,0,none⟩) s.C.length s.C.length,.int .i64 ((s.b+t.b:Nat):Int),.int .i64 ((s.a+t.a:Nat):Int),.int .i64 (s.o:Nat)]∧Bl wx g2 90 [.slice (some ⟨gF,0,none⟩) F.length cF,.slice (some ⟨gD,0,none⟩) t.C.length t.C.length,.int .i64 (t.b:Nat),.int .i64 (t.a:Nat),.int .i64 (t.o:Nat)]∧But2 g gC v2 wx∧OwnI wx gC (List.zipWith (·+·) s.C t.C)))
           case first =>
            go_region
            all_goals
             go_wp2_with fail
             go_meet
             case rel=>exact ⟨HB.out.1.drew.set 3 _,(HB.out.2.1.drew).but ((But.refl g X14.drew).set 3 _) HQ1.out.1,HB.out.2.2.1.trans ((But.refl g X14).drew.set 3 _).two1,HB.out.2.2.2.but17 ((But.refl g X14).drew.set 3 _) (Ne.symm K5.out.1.n1)⟩
           clear HB c0 f0 w0 e0;have HB:=hcut;obtain ⟨X15,hV⟩:∃ W,W=wc:=⟨_,rfl⟩;subst hV;clear hcut;have c0:X15.cell? ⟨g,4,none⟩=some (.int .i64 (s.o:Nat)):=HB.out.1.cell 4 _ rfl;have e0:X15.cell? ⟨g2,4,none⟩=some (.int .i64 (t.o:Nat)):=HB.out.2.1.cell 4 _ rfl;have f0:X15.frozen? ⟨g,4,none⟩=false:=HB.out.1.frozen 4;have w0:IntKind.i64.wrap ((s.o:Int)+(t.o:Int))=((s.o+t.o:Nat):Int):=wrapY (by omega) (by omega)
           go_upto_region 16 with fail
           go_cut [] from 104 to 115 (fun wx=>Aside (Bl wx g 90 [.slice (some ⟨gE,0,none⟩) E.length cE,.slice (some ⟨gC,0,none⟩) s.C.length s.C.length,.int .i64 ((s.b+t.b:Nat):Int),.int .i64 ((s.a+t.a:Nat):Int),.int .i64 ((s.o+t.o:Nat):Int)]∧Bl wx g2 90 [.slice (some ⟨gF,0,none⟩) F.length cF,.slice (some ⟨gD,0,none⟩) t.C.length t.C.length,.int .i64 (t.b:Nat),.int .i64 (t.a:Nat),.int .i64 (t.o:Nat)]∧But2 g gC v2 wx∧OwnI wx gC (List.zipWith (·+·) s.C t.C)))
           case first =>
            go_region
            all_goals
             go_wp2_with fail
             go_meet
             case rel=>exact ⟨HB.out.1.drew.set 4 _,(HB.out.2.1.drew).but ((But.refl g X15.drew).set 4 _) HQ1.out.1,HB.out.2.2.1.trans ((But.refl g X15).drew.set 4 _).two1,HB.out.2.2.2.but17 ((But.refl g X15).drew.set 4 _) (Ne.symm K5.out.1.n1)⟩
           clear HB c0 f0 w0 e0;have HB:=hcut;obtain ⟨X16,hV⟩:∃ W,W=wc:=⟨_,rfl⟩;subst hV;clear hcut
           have HF:Aside (Rm X16 g gE gC cE E (s.mrg t)∧But2 g gC w X16):=by
            have bt:=HB.out.2.2.1;refine ⟨⟨?_,?_,K5.out.1.es.re17 bt.size (fun hl=>bt.block gE hl K5.out.1.n2 K5.out.1.n3),K5.out.1.n1,K5.out.1.n2,K5.out.1.n3,K5.out.1.ed,K5.out.1.wE,?_,?_⟩,(Below.two K5.out.2.1).trans bt⟩
            · rw [mrg_len HLC.out];exact HB.out.1
            · exact HB.out.2.2.2
            · rw [mrg_len HLC.out];exact K5.out.1.le
            · rw [mrg_all HLC.out];have:=HNN.out;omega
           clear HB K5;go_wp2;refine bodyPost_ret (v:=.int .i64 0) (by simp [results,Tryz.results56,go_sem]) rfl ?_
           exact ⟨by rw [HZ.out.1],by rw [HZ.out.2];exact HF.out⟩
 · have hq:((nE:Int) != (nF:Int))=true:=by simp;omega
   rw [hq] at hcv;subst hcv
   have HZ:Aside (er=170∧Rm V g gE gC cE E S∧But2 g gC w V):=by
    have hne:¬ E.map sP=F.map sP:=fun e=>hnn (by have:=congrArg List.length e;simp at this;rw [HL.out.1,HL.out.2];exact this)
    obtain ⟨k,e⟩:=HQ.out;have hbel:Below w.heap.size w V:=by rw [e];exact below_drewN17 (Below.refl _ _) _
    exact ⟨by rw [HR.out.1,if_pos hne],by rw [HR.out.2,if_pos hne];exact HH.out.1.below hbel,Below.two hbel⟩
   clear HQ;go_wp2;go_ret;exact ⟨by rw [HZ.out.1];rfl,HZ.out.2⟩
theorem rMergeSelf17 {w:World}{g gE gC cE:Nat}{E:List Nat}{s:Hs}(h:Rm w g gE gC cE E s) :
 Calls Tryz.prog 56 #[.pointer (some ⟨g,0,none⟩),.pointer (some ⟨g,0,none⟩)] w fun r w'=>r=.returned (.int .i64 (if 1099511627776<s.all+s.all then 2 else 0))∧Rm w' g gE gC cE E (if 1099511627776<s.all+s.all then s else s.mrg s)∧But2 g gC w w':=by
 obtain ⟨er,her⟩:∃ e:Int,e=(if 1099511627776<s.all+s.all then 2 else 0):=⟨_,rfl⟩
 obtain ⟨S,hS⟩:∃ S:Hs,S=(if 1099511627776<s.all+s.all then s else s.mrg s):=⟨_,rfl⟩
 rw [←her,←hS];have HR:=(qsd (ai her hS));have HH:=(qsd (ai h trivial));have y0:=h.bl.cell 0 _ rfl
 skip
 obtain ⟨nE,hnE⟩:∃ n,n=E.length:=⟨_,rfl⟩
 skip
 rw [←hnE] at y0
 skip
 have hE2:nE≤1024:=by rw [hnE];exact h.ed.2.1
 have HL:=(qsd (ai hnE trivial));clear her hS h  hnE;go_enter Tryz.func56,Tryz.ntmps56
 go_upto_region 1 with fail
 go_cut [17] from 7 to 16 (fun v wx=>v=.bool ((nE:Int) != (nE:Int))∧Aside (∃ k,wx=w.drewN k))
 case first =>
  go_quiet (fail)
  go_wp2_with fail
  go_meet
  case rel=>exact ⟨by first | rfl | simp,_,rfl⟩
 obtain ⟨hcv,HQ⟩:=hcut;obtain ⟨V,hV⟩:∃ W,W=wc:=⟨_,rfl⟩;subst hV;clear y0;have hq:((nE:Int) != (nE:Int))=false:=by simp
 rw [hq] at hcv;subst hcv;clear hq;go_wp2
 go_loopg [5] nE (fun gk iv wr=>∃ k:Nat,gk+k=nE∧iv=.int .i64 (k:Nat)∧Aside (0≤k∧∃ q,wr=w.drewN q))
 case atStart=>exact ⟨0,by omega,by first | rfl | simp,Nat.le_refl _,HQ.out⟩
 case round =>
  clear HQ;obtain ⟨k,hgk,rfl,HA⟩:=hrel;have hbel:Below w.heap.size w wr:=by obtain ⟨q,e⟩:=HA.out.2;rw [e];exact below_drewN17 (Below.refl _ _) _
  have K1:=qsd (HH.out.1.below hbel)
  skip
  have KB:=qsd hbel;clear hbel;have y0:=K1.out.bl.cell 0 _ rfl;rw [←HL.out.1] at y0
  by_cases hk:k<nE
  · have hdk:decide ((k:Int)<(nE:Int))=true:=by simp;omega
    have bk:(k:Int)<(nE:Int):=by omega
    have bk0:(0:Int)≤(k:Int):=by omega
    obtain ⟨k1,hk1⟩:∃ x,x=k+1:=⟨_,rfl⟩;have wk:IntKind.i64.wrap ((k:Int)+1)=(k1:Int):=wrapY (by omega) (by omega)
    skip
    have e1:=K1.out.es.cell (Below.refl _ _) k (by rw [←HL.out.1];exact hk)
    rw [Nat.zero_add] at e1;have C1:=hid (fun u=>key17 (K1.out.wE.get k) u)
    obtain ⟨x,hx⟩:∃ x,x=E.getD k 0:=⟨_,rfl⟩;rw [←hx] at e1 C1;have HXY:=(qsd (ai hx (ai hx hk1)));clear hx hk1
    go_upto_region 6 with fail
    go_cut [43] from 27 to 42 (fun v wx=>v=.bool (sP x != sP x)∧Aside (∃ q,wx=wr.drewN q))
    case first =>
     go_quiet (first | (go_at_call_of 89 (Value.float FloatKind.f64 x);exact Calls.quiet_of_same (C1.out _)))
     go_wp2_with fail
     go_meet
     case rel=>exact ⟨by first | rfl | simp,_,rfl⟩
    obtain ⟨hcv,HQ⟩:=hcut;obtain ⟨V2,hV⟩:∃ W,W=wc:=⟨_,rfl⟩;subst hV
    have HD:Aside (∃ q,V2=w.drewN q):=by
     obtain ⟨q,e⟩:=HQ.out;obtain ⟨p,e2⟩:=HA.out.2;exact ⟨p+q,by rw [e,e2];exact drewN_drewN17 w p q⟩
    clear y0 e1 C1 HQ
    by_cases heq:sP x=sP x
    · have hq:(sP x != sP x)=false:=by simp [heq]
      rw [hq] at hcv;subst hcv;clear hq;go_wp2
      go_roundg (nE-k1)
      case measure=>have:=HXY.out.2.2;omega
      case rel=>exact ⟨k1,by have:=HXY.out.2.2;omega,by first | rfl | simp,Nat.zero_le _,HD.out⟩
    · exact absurd rfl heq
  · obtain rfl:k=nE:=by omega
    have hdk:decide ((k:Int)<(k:Int))=false:=by simp
    skip
    have hlenC:s.C.length=s.C.length:=by rfl
    have HLC:=qsd hlenC;obtain ⟨n,hn⟩:∃ n,n=s.all:=⟨_,rfl⟩
    skip
    have hmx1:=K1.out.mx;have hmx2:=K1.out.mx;have D1:=hid (rAll17 K1.out);have C2:=hid (fun q=>rAll17 (K1.out.below (below_drewN17 (Below.refl _ _) q)))
    rw [←hn] at D1 hmx1;rw [←hn] at C2 hmx2;obtain ⟨n3,hn3⟩:∃ z,z=n+n:=⟨_,rfl⟩;have wn:IntKind.i64.wrap ((n:Int)+(n:Int))=(n3:Int):=wrapY (by omega) (by omega)
    have HNN:=(qsd (ai hn (ai hn hn3)));clear hn  hn3 hlenC
    go_wp2_with fail
    refine D1.out.mono ?_;rintro r v1 ⟨rfl,hv⟩;obtain ⟨r1,rfl⟩:∃ q,v1=wr.drewN q:=hv;clear D1 y0;have D2:=hid (C2.out r1)
    go_wp2_with fail
    refine D2.out.mono ?_;rintro r v2 ⟨rfl,hv⟩
    have K5:Aside (Rm v2 g gE gC cE E s∧Below w.heap.size w v2 ):=by
     obtain ⟨q,rfl⟩:=hv;have b5:=below_drewN17 (below_drewN17 (Below.refl wr.heap.size wr) r1) q;exact ⟨K1.out.below b5,KB.out.trans (b5.mono KB.out.size) ⟩
    clear D2 C2 hv K1  KB HA
    by_cases hbig:1099511627776<n3
    · have dbig:decide ((1099511627776:Int)<(n3:Int))=true:=by simp;omega
      have HZ:Aside (er=2∧Rm v2 g gE gC cE E S∧But2 g gC w v2):=by
       have q:1099511627776<s.all+s.all:=by have:=HNN.out;omega
       exact ⟨by rw [HR.out.1,if_pos q],by rw [HR.out.2,if_pos q];exact K5.out.1,Below.two K5.out.2⟩
      go_wp2;go_ret;exact ⟨by rw [HZ.out.1];rfl,HZ.out.2⟩
    · have dbig:decide ((1099511627776:Int)<(n3:Int))=false:=by simp;omega
      have HZ:Aside (er=0∧S=s.mrg s):=by
       have q:¬ 1099511627776<s.all+s.all:=by have:=HNN.out;omega
       exact ⟨by rw [HR.out.1,if_neg q],by rw [HR.out.2,if_neg q]⟩
      obtain ⟨nC,hnC⟩:∃ n,n=s.C.length:=⟨_,rfl⟩;have hnCb:nC≤1024:=by have:=K5.out.1.le;have:=K5.out.1.ed.2.1;omega
      have HNC:=qsd hnC;clear hnC;go_wp2
      go_loopg [6] nC (fun gk iv wr=>∃ k:Nat,gk+k=nC∧iv=.int .i64 (k:Nat)∧Aside (OwnI wr gC (mgT s.C s.C k)∧But gC v2 wr))
      case atStart=>exact ⟨0,by omega,by first | rfl | simp,by rw [mgT_zero];exact K5.out.1.cs,But.refl _ _⟩
      case round =>
       obtain ⟨k',hgk',rfl,HA⟩:=hrel;have y1:=(K5.out.1.bl.but HA.out.2 K5.out.1.n1).cell 1 _ rfl;rw [←HNC.out] at y1
       by_cases hk':k'<nC
       · have hdk':decide ((k':Int)<(nC:Int))=true:=by simp;omega
         have lk:(k':Int)<(nC:Int):=by omega
         have lk0:(0:Int)≤(k':Int):=by omega
         obtain ⟨k1,hk1⟩:∃ x,x=k'+1:=⟨_,rfl⟩;have wk:IntKind.i64.wrap ((k':Int)+1)=(k1:Int):=wrapY (by omega) (by omega)
         have hkC:k'<s.C.length:=by have:=HNC.out;omega
         have x1:wr.cell? ⟨gC,k',none⟩=some (.int .i64 ((s.C.getD k' 0:Nat):Int)):=by
          have:=HA.out.1.cell k' (by rw [mgT_len (rfl:s.C.length=s.C.length)];exact hkC)
          rw [mgT_get (rfl:s.C.length=s.C.length) hkC] at this;exact this
         skip
         have x4:wr.frozen? ⟨gC,k',none⟩=false:=HA.out.1.frozen k';have hset:=HA.out.1.drew.set k' (s.C.getD k' 0+s.C.getD k' 0);rw [mgT_set (rfl:s.C.length=s.C.length) hkC] at hset;have hb1:=get_le_sum17 s.C k';have hb2:=get_le_sum17 s.C k';have hb3:s.C.sum≤n∧s.C.sum≤n:=by rw [HNN.out.1];unfold Hs.all;omega
         obtain ⟨p,hp⟩:∃ p,p=s.C.getD k' 0:=⟨_,rfl⟩
         skip
         rw [←hp] at x1 hset hb1;rw [←hp] at hb2;have wp:IntKind.i64.wrap ((p:Int)+(p:Int))=((p+p:Nat):Int):=wrapY (by omega) (by omega)
         obtain ⟨pq,hpq⟩:∃ p',p'=p+p:=⟨_,rfl⟩;rw [←hpq] at wp hset;have HN:Aside (OwnI (wr.drew.setCell ⟨gC,k',none⟩ (.int .i64 (pq:Nat))) gC (mgT s.C s.C k1)∧But gC v2 (wr.drew.setCell ⟨gC,k',none⟩ (.int .i64 (pq:Nat)))):=⟨by rw [hk1];exact hset,HA.out.2.drew.set k' _⟩
         have HK:=qsd hk1;have y1':wr.cell? ⟨g,1,none⟩=some (.slice (some ⟨gC,0,none⟩) nC nC):=y1;clear hset hb1 hb2 hb3 hp  hpq hk1 HA hkC
         go_upto_region 13 with fail
         go_region
         all_goals
          go_wp2
          go_roundg (nC-k1)
          case measure=>have:=HK.out;omega
          case rel=>exact ⟨k1,by have:=HK.out;omega,by first | rfl | simp,HN.out⟩
       · obtain rfl:k'=nC:=by omega
         have hdk':decide ((k':Int)<(k':Int))=false:=by simp
         have hO:=HA.out.1;rw [mgT_all (rfl:s.C.length=s.C.length) HNC.out] at hO;have hB1:=K5.out.1.bl.but HA.out.2 K5.out.1.n1
         skip
         have hs1:s.b+s.a+s.o≤n∧s.b+s.a+s.o≤n:=by rw [HNN.out.1];unfold Hs.all;omega
         have HB:Aside (Bl wr g 90 [.slice (some ⟨gE,0,none⟩) E.length cE,.slice (some ⟨gC,0,none⟩) s.C.length s.C.length,.int .i64 (s.b:Nat),.int .i64 (s.a:Nat),.int .i64 (s.o:Nat)] ∧But2 g gC v2 wr∧OwnI wr gC (List.zipWith (·+·) s.C s.C)):=⟨hB1, HA.out.2.two2,hO⟩
         clear hO hB1  HA;have c0:wr.cell? ⟨g,2,none⟩=some (.int .i64 (s.b:Nat)):=HB.out.1.cell 2 _ rfl;have f0:wr.frozen? ⟨g,2,none⟩=false:=HB.out.1.frozen 2;have w0:IntKind.i64.wrap ((s.b:Int)+(s.b:Int))=((s.b+s.b:Nat):Int):=wrapY (by omega) (by omega)
         go_upto_region 14 with fail
         go_cut [] from 80 to 91 (fun wx=>Aside (Bl wx g 90 [.slice (some ⟨gE,0,none⟩) E.length cE,.slice (some ⟨gC,0,none⟩) s.C.length s.C.length,.int .i64 ((s.b+s.b:Nat):Int),.int .i64 (s.a:Nat),.int .i64 (s.o:Nat)]∧But2 g gC v2 wx∧OwnI wx gC (List.zipWith (·+·) s.C s.C)))
         case first =>
          go_region
          all_goals
           go_wp2_with fail
           go_meet
           case rel=>exact ⟨HB.out.1.drew.set 2 _,HB.out.2.1.trans ((But.refl g wr).drew.set 2 _).two1,HB.out.2.2.but17 ((But.refl g wr).drew.set 2 _) (Ne.symm K5.out.1.n1)⟩
         clear HB c0 f0 w0;have HB:=hcut;obtain ⟨X14,hV⟩:∃ W,W=wc:=⟨_,rfl⟩;subst hV;clear hcut;have c0:X14.cell? ⟨g,3,none⟩=some (.int .i64 (s.a:Nat)):=HB.out.1.cell 3 _ rfl;have f0:X14.frozen? ⟨g,3,none⟩=false:=HB.out.1.frozen 3;have w0:IntKind.i64.wrap ((s.a:Int)+(s.a:Int))=((s.a+s.a:Nat):Int):=wrapY (by omega) (by omega)
         go_upto_region 15 with fail
         go_cut [] from 92 to 103 (fun wx=>Aside (Bl wx g 90 [.slice (some ⟨gE,0,none⟩) E.length cE,.slice (some ⟨gC,0,none⟩) s.C.length s.C.length,.int .i64 ((s.b+s.b:Nat):Int),.int .i64 ((s.a+s.a:Nat):Int),.int .i64 (s.o:Nat)]∧But2 g gC v2 wx∧OwnI wx gC (List.zipWith (·+·) s.C s.C)))
         case first =>
          go_region
          all_goals
           go_wp2_with fail
           go_meet
           case rel=>exact ⟨HB.out.1.drew.set 3 _,HB.out.2.1.trans ((But.refl g X14).drew.set 3 _).two1,HB.out.2.2.but17 ((But.refl g X14).drew.set 3 _) (Ne.symm K5.out.1.n1)⟩
         clear HB c0 f0 w0;have HB:=hcut;obtain ⟨X15,hV⟩:∃ W,W=wc:=⟨_,rfl⟩;subst hV;clear hcut;have c0:X15.cell? ⟨g,4,none⟩=some (.int .i64 (s.o:Nat)):=HB.out.1.cell 4 _ rfl;have f0:X15.frozen? ⟨g,4,none⟩=false:=HB.out.1.frozen 4;have w0:IntKind.i64.wrap ((s.o:Int)+(s.o:Int))=((s.o+s.o:Nat):Int):=wrapY (by omega) (by omega)
         go_upto_region 16 with fail
         go_cut [] from 104 to 115 (fun wx=>Aside (Bl wx g 90 [.slice (some ⟨gE,0,none⟩) E.length cE,.slice (some ⟨gC,0,none⟩) s.C.length s.C.length,.int .i64 ((s.b+s.b:Nat):Int),.int .i64 ((s.a+s.a:Nat):Int),.int .i64 ((s.o+s.o:Nat):Int)]∧But2 g gC v2 wx∧OwnI wx gC (List.zipWith (·+·) s.C s.C)))
         case first =>
          go_region
          all_goals
           go_wp2_with fail
           go_meet
           case rel=>exact ⟨HB.out.1.drew.set 4 _,HB.out.2.1.trans ((But.refl g X15).drew.set 4 _).two1,HB.out.2.2.but17 ((But.refl g X15).drew.set 4 _) (Ne.symm K5.out.1.n1)⟩
         clear HB c0 f0 w0;have HB:=hcut;obtain ⟨X16,hV⟩:∃ W,W=wc:=⟨_,rfl⟩;subst hV;clear hcut
         have HF:Aside (Rm X16 g gE gC cE E (s.mrg s)∧But2 g gC w X16):=by
          have bt:=HB.out.2.1;refine ⟨⟨?_,?_,K5.out.1.es.re17 bt.size (fun hl=>bt.block gE hl K5.out.1.n2 K5.out.1.n3),K5.out.1.n1,K5.out.1.n2,K5.out.1.n3,K5.out.1.ed,K5.out.1.wE,?_,?_⟩,(Below.two K5.out.2).trans bt⟩
          · rw [mrg_len (rfl:s.C.length=s.C.length)];exact HB.out.1
          · exact HB.out.2.2
          · rw [mrg_len (rfl:s.C.length=s.C.length)];exact K5.out.1.le
          · rw [mrg_all (rfl:s.C.length=s.C.length)];have:=HNN.out;omega
         clear HB K5;go_wp2;refine bodyPost_ret (v:=.int .i64 0) (by simp [results,Tryz.results56,go_sem]) rfl ?_
         exact ⟨by rw [HZ.out.1],by rw [HZ.out.2];exact HF.out⟩
end
section
open Go Go.RowKit J
def Rj17 (lo:Nat) (w:World) (v:Value) (R:List Nat):Prop:=w.ownsRow lo 3 1 v R.length (R.map Iw15)
theorem Rj17.one (w:World) (x:Nat):Rj17 w.heap.size (w.alloc (.cells #[.int .i64 (x:Nat)] 3)) (.slice (some ⟨w.heap.size,0,none⟩) 1 1) [x] :=
 ⟨by simp,.inr ⟨w.heap.size,1,_,rfl,Nat.le_refl _,heap_alloc_new w _,Nat.le_refl _,by unfold maxLen;omega,rfl,rfl⟩⟩
theorem Rj17.shape {lo:Nat}{w:World}{v:Value}{R:List Nat}(h:Rj17 lo w v R) (hR:0<R.length):∃ g cap,v=.slice (some ⟨g,0,none⟩) R.length cap∧lo≤g∧g<w.heap.size∧R.length≤cap∧∀ i,i<R.length→w.cell? ⟨g,i,none⟩=some (.int .i64 ((R.getD i 0:Nat):Int)):=by
 have h':=h
 rcases h.2 with ⟨_,h0⟩|⟨g,cap,cur,rfl,hlo,hg,hn,hm,hs,ht⟩
 · omega
 · refine ⟨g,cap,rfl,hlo,(Array.getElem?_eq_some_iff.1 hg).1,hn,fun i hi=>?_⟩
   have:=World.ownsRow.cellAt h' i (by omega)
   rw [this,List.getElem?_map,List.getElem?_eq_getElem hi,List.getD_eq_getElem?_getD,List.getElem?_eq_getElem hi]
   rfl
theorem append_j17 (lo:Nat) (v:Value) (K:List Nat) (x:Nat) (w:World) (hb:Rj17 lo w v K) (hlo:lo≤w.heap.size) (hk:K.length≤1000000) :
 ∃ v' w',(Builtin.append_ #[57,57] 57 #[v,.slice (some ⟨w.heap.size,0,none⟩) 1 1]).run Tryz.prog (w.alloc (.cells #[.int .i64 (x:Nat)] 3))=.ok v' w'∧Rj17 lo w' v' (K++[x])∧Below lo w w':=by
 obtain ⟨i0,hi,hz0,hz1,hz2⟩:=info_parts Tryz.info_int17;obtain ⟨W,hW⟩:∃ W,W=w.alloc (.cells #[.int .i64 (x:Nat)] 3):=⟨_,rfl⟩;have hcx:W.cell? ⟨w.heap.size,0,none⟩=some (.int .i64 (x:Nat)):=by subst hW;unfold World.cell?;simp only [heap_alloc_new];rfl
 have hWb:W.ownsRow lo 3 1 v K.length (K.map Iw15):=by subst hW;exact World.ownsRow.alloc hb _
 have hWs:w.heap.size≤W.heap.size:=by subst hW;simp
 obtain ⟨v',w',r1,r2,r3,_,r5⟩:=run_append_own_at (P:=Tryz.prog) W lo 57 57 3 i0 (.int .i64 0) 1 8 Tryz.und_ints17 hi hz0 hz1 hz2 rfl (by decide) v K.length (K.map Iw15) hWb ⟨w.heap.size,0,none⟩ 1 1 [.int .i64 (x:Nat)] rfl (by
  intro j u hj
  match j,hj with
  | 0,hj=>simp at hj;subst hj;simpa [Addr.add] using hcx) (by intro u hu;simp at hu;subst hu;rfl) (by unfold maxLen;omega) (by omega) (by omega)
 rw [←hW];refine ⟨v',w',r1,?_,?_⟩
 · unfold Rj17;rw [List.length_append,List.map_append];exact r2
 · have hlw:Below lo w W:=by subst hW;exact (Below.refl _ _).alloc hlo _
   refine ⟨r3.os.trans hlw.os,r3.tape.trans hlw.tape,r3.output.trans hlw.output,Nat.le_trans hlw.size r3.size,fun k hkl=>?_⟩
   rw [r3.block k (by omega) (fun e=>by
    rcases hWb.2 with ⟨e2,_⟩|⟨g,cap,cur,e2,hlo2,_⟩
    · rw [e2] at e;simp [Value.ownBlock] at e
    · rw [e2] at e;simp [Value.ownBlock] at e;omega)]
   exact hlw.block k hkl
theorem wp_append_j17 {w:World}{o:Oper}{a:Act}{K:Act→World→Prop}{Q:Exit→Act→World→Prop}(s x:Operand)
 (ho:o.op=.call { callee:=.builtin .append,args:=#[s,x],argTypes:=#[57,57] }) (v u:Value) (hs:a.eval s=v) (hx:a.eval x=u) (v':Value) (w':World)
 (hrun:(Builtin.append_ #[57,57] o.type #[v,u]).run Tryz.prog w=.ok v' w') (h:K (a.put o.dst v') w'):Oper.wp Tryz.prog o a w K Q:=by
 unfold Oper.wp;simp [execOp,ho,resolve,invoke,builtin,hs,hx,hrun,Result.andThen];exact h
def pr17 (b:Nat) (C:List Nat) (k:Nat):List Nat:=(List.range (k+1)).map (fun j=>b+(C.take j).sum)
theorem pr17_len (b:Nat) (C:List Nat) (k:Nat):(pr17 b C k).length=k+1:=by simp [pr17]
theorem pr17_get (b:Nat) (C:List Nat) (k:Nat):(pr17 b C k).getD k 0=b+(C.take k).sum:=by
 unfold pr17;rw [List.getD_eq_getElem?_getD,List.getElem?_map,List.getElem?_range (by omega)]
 rfl
theorem pr17_next {b:Nat}{C:List Nat}{k:Nat}(hk:k<C.length):pr17 b C k++[b+(C.take k).sum+C.getD k 0]=pr17 b C (k+1):=by
 unfold pr17;rw [List.range_succ (n:=k+1),List.map_append];simp only [List.map_cons,List.map_nil];rw [take_sum17 hk,Nat.add_assoc]
theorem pr17_all (b:Nat) (C:List Nat):pr17 b C C.length=runL b C:=rfl
theorem rRunning17 {w:World}{g gE gC cE:Nat}{E:List Nat}{s:Hs}(h:Rm w g gE gC cE E s) :
 Calls Tryz.prog 57 #[.pointer (some ⟨g,0,none⟩)] w fun r w'=>(∃ v,r=.returned v∧Rj17 w.heap.size w' v (runL s.b s.C))∧Below w.heap.size w w':=by
 have c2:=h.bl.cell 2 _ rfl;have hmx:s.b+s.C.sum≤1099511627776:=by have:=h.mx;unfold Hs.all at this;omega
 have hle:s.C.length≤1024:=by have:=h.le;have:=h.ed.2.1;omega
 obtain ⟨nC,hnC⟩:∃ n,n=s.C.length:=⟨_,rfl⟩;obtain ⟨sb,hsb⟩:∃ n,n=s.b:=⟨_,rfl⟩
 have HC:Aside (∀ u,Below w.heap.size w u→u.cell? ⟨g,1,none⟩=some (.slice (some ⟨gC,0,none⟩) nC nC)∧OwnI u gC s.C):=fun u hu=>by
  rw [hnC];exact ⟨(h.below hu).bl.cell 1 _ rfl,(h.below hu).cs⟩
 rw [←hnC] at hle;rw [←hsb] at c2 hmx ⊢;have HN:=(qsd (ai hnC (ai h.bl.lt h.cs.lt)))
 have H0:Aside (Rj17 w.heap.size (w.alloc (.cells #[.int .i64 (sb:Nat)] 3)) (.slice (some ⟨w.heap.size,0,none⟩) 1 1) (pr17 sb s.C 0)∧Below w.heap.size w (w.alloc (.cells #[.int .i64 (sb:Nat)] 3))):=by
  refine ⟨?_,below_alloc _ _⟩;have e:pr17 sb s.C 0=[sb]:=by simp [pr17]
  rw [e];exact Rj17.one w sb
 clear h hnC hsb;go_enter Tryz.func57,Tryz.ntmps57
 go_wp2_with fail
 clear c2
 go_loopg [3,4] nC (fun gk sv iv wr=>∃ (k:Nat) (rv:Value),gk+k=nC∧rv=sv∧iv=.int .i64 (k:Nat)∧Aside (Rj17 w.heap.size wr rv (pr17 sb s.C k)∧Below w.heap.size w wr))
 case atStart=>exact ⟨0,_,by omega,rfl,by first | rfl | simp,H0.out⟩
 case round =>
  obtain ⟨k,rv,hgk,rfl,rfl,HA⟩:=hrel;clear H0;have d1:=(HC.out wr HA.out.2).1
  by_cases hk:k<nC
  · have hdk:decide ((k:Int)<(nC:Int))=true:=by simp;omega
    have lk:(k:Int)<(nC:Int):=by omega
    have lk0:(0:Int)≤(k:Int):=by omega
    have lkp:(k:Int)<((k+1:Nat):Int):=by omega
    obtain ⟨k1,hk1⟩:∃ x,x=k+1:=⟨_,rfl⟩;have wk:IntKind.i64.wrap ((k:Int)+1)=(k1:Int):=wrapY (by omega) (by omega)
    have hkC:k<s.C.length:=by have:=HN.out.1;omega
    obtain ⟨gl,cap,hrv,hlo,hlt,hcp,hce⟩:=HA.out.1.shape (by rw [pr17_len];omega)
    rw [pr17_len] at hrv hce hcp;rw [←hk1] at hrv lkp hcp;have x1:=hce k (by omega)
    rw [pr17_get] at x1;have x2:=(HC.out wr HA.out.2).2.cell k hkC;have hb1:=get_le_sum17 s.C k;have hb2:=take_le17 s.C (k+1);rw [take_sum17 hkC] at hb2;have hnx:=pr17_next (b:=sb) hkC;obtain ⟨p,hp⟩:∃ p,p=sb+(s.C.take k).sum:=⟨_,rfl⟩;obtain ⟨q,hq⟩:∃ p,p=s.C.getD k 0:=⟨_,rfl⟩;rw [←hp] at x1 hnx;rw [←hq] at x2 hb1 hb2 hnx;have wp:IntKind.i64.wrap ((p:Int)+(q:Int))=((p+q:Nat):Int):=wrapY (by omega) (by omega)
    obtain ⟨v',W,hrun,hR,hbl⟩:=append_j17 w.heap.size rv (pr17 sb s.C k) (p+q) wr.drew (by exact HA.out.1) HA.out.2.size (by rw [pr17_len];omega)
    rw [hnx,←hk1] at hR;obtain ⟨pq,hpq⟩:∃ p',p'=p+q:=⟨_,rfl⟩;rw [←hpq] at wp hrun;subst hrv;have HR:=qsd hrun;have HJ:Aside (Rj17 w.heap.size W v' (pr17 sb s.C k1)∧Below w.heap.size w W):=⟨hR,HA.out.2.drew.trans hbl⟩;have kS:Aside (wr.drew.cell? ⟨gl,k,none⟩=some (.int .i64 (p:Nat))∧wr.drew.cell? ⟨g,1,none⟩=some (.slice (some ⟨gC,0,none⟩) nC nC)∧wr.drew.cell? ⟨gC,k,none⟩=some (.int .i64 (q:Nat))):=⟨x1,d1,x2⟩;have HK:=(qsd (ai hk1 (ai hlo hlt)))
    have HS:Aside (∀ o,(wr.drew.alloc o).cell? ⟨gl,k,none⟩=some (.int .i64 (p:Nat))∧(wr.drew.alloc o).cell? ⟨g,1,none⟩=some (.slice (some ⟨gC,0,none⟩) nC nC)∧(wr.drew.alloc o).cell? ⟨gC,k,none⟩=some (.int .i64 (q:Nat))):=fun o=>by
     have hb9:=below_alloc wr.drew o;have hsz:w.heap.size≤wr.heap.size:=HA.out.2.size;refine ⟨(World.cell?_of_block (a:=⟨gl,k,none⟩) (hb9.block gl hlt)).trans x1,(World.cell?_of_block (a:=⟨g,1,none⟩) (hb9.block g (by have:=HN.out.2.1;show g<wr.heap.size;omega))).trans d1,(World.cell?_of_block (a:=⟨gC,k,none⟩) (hb9.block gC (by have:=HN.out.2.2;show gC<wr.heap.size;omega))).trans x2⟩
    clear hrun hR hbl hnx hp hq hpq hk1 hkC hlo hlt hce x1 x2 hb1 hb2 HA hk
    go_upto_region 5 with fail
    refine until_region (fun u=>u.cell? ⟨gl,k,none⟩=some (.int .i64 (p:Nat))∧u.cell? ⟨g,1,none⟩=some (.slice (some ⟨gC,0,none⟩) nC nC)∧u.cell? ⟨gC,k,none⟩=some (.int .i64 (q:Nat))) 14 (by kernel_rfl) ?_
    refine until_take (i:=0) [] (v:=?_) rfl (by kernel_rfl) (by kernel_rfl) (by kernel_rfl) (by kernel_rfl) (by kernel_rfl) (fun _ _ _ h=>h) (Or.inl ⟨by rfl,?_⟩) kS.out ?_
    rotate_left
    · intro u hSu
      try dsimp only at hSu
      obtain ⟨y1,y2,y3⟩:=hSu
      first | (go_simp;done) | (go_simp;with_reducible rfl)
    try simp only [Act.put,List.setIfInBounds_toArray,List.set_cons_zero,List.set_cons_succ]
    refine until_take (i:=1) [3,4,12,13] (v:=?_) rfl (by kernel_rfl) (by kernel_rfl) (by kernel_rfl) (by kernel_rfl) (by kernel_rfl) (fun _ _ _ h=>h) (Or.inl ⟨by rfl,?_⟩) kS.out ?_
    rotate_left
    · intro u hSu
      try dsimp only at hSu
      obtain ⟨y1,y2,y3⟩:=hSu
      first | (go_simp;done) | (go_simp;with_reducible rfl)
    try simp only [Act.put,List.setIfInBounds_toArray,List.set_cons_zero,List.set_cons_succ]
    refine until_take (i:=2) [3,4,12,13] (v:=?_) rfl (by kernel_rfl) (by kernel_rfl) (by kernel_rfl) (by kernel_rfl) (by kernel_rfl) (fun _ _ _ h=>h) (Or.inl ⟨by rfl,?_⟩) kS.out ?_
    rotate_left
    · intro u hSu
      try dsimp only at hSu
      obtain ⟨y1,y2,y3⟩:=hSu
      first | (go_simp;done) | (go_simp;with_reducible rfl)
    try simp only [Act.put,List.setIfInBounds_toArray,List.set_cons_zero,List.set_cons_succ]
    refine until_take (i:=3) [4,12,13] (v:=?_) rfl (by kernel_rfl) (by kernel_rfl) (by kernel_rfl) (by kernel_rfl) (by kernel_rfl) (fun _ _ _ h=>h) (Or.inl ⟨by rfl,?_⟩) kS.out ?_
    rotate_left
    · intro u hSu
      try dsimp only at hSu
      obtain ⟨y1,y2,y3⟩:=hSu
      first | (go_simp;done) | (go_simp;with_reducible rfl)
    try simp only [Act.put,List.setIfInBounds_toArray,List.set_cons_zero,List.set_cons_succ]
    refine until_take (i:=4) [12,13] (v:=?_) rfl (by kernel_rfl) (by kernel_rfl) (by kernel_rfl) (by kernel_rfl) (by kernel_rfl) (fun _ _ _ h=>h) (Or.inl ⟨by rfl,?_⟩) kS.out ?_
    rotate_left
    · intro u hSu
      try dsimp only at hSu
      obtain ⟨y1,y2,y3⟩:=hSu
      first | (go_simp;done) | (go_simp;with_reducible rfl)
    try simp only [Act.put,List.setIfInBounds_toArray,List.set_cons_zero,List.set_cons_succ]
    refine until_take (i:=5) [6,7,8,10,11,12,13] (v:=?_) rfl (by kernel_rfl) (by kernel_rfl) (by kernel_rfl) (by kernel_rfl) (by kernel_rfl) (fun _ _ _ h=>h) (Or.inl ⟨by rfl,?_⟩) kS.out ?_
    rotate_left
    · intro u hSu
      try dsimp only at hSu
      obtain ⟨y1,y2,y3⟩:=hSu
      first | (go_simp;done) | (go_simp;with_reducible rfl)
    try simp only [Act.put,List.setIfInBounds_toArray,List.set_cons_zero,List.set_cons_succ]
    refine until_take (i:=6) [7,8,10,11,12,13] (v:=?_) rfl (by kernel_rfl) (by kernel_rfl) (by kernel_rfl) (by kernel_rfl) (by kernel_rfl) (fun _ _ _ h=>h) (Or.inl ⟨by rfl,?_⟩) kS.out ?_
    rotate_left
    · intro u hSu
      try dsimp only at hSu
      obtain ⟨y1,y2,y3⟩:=hSu
      first | (go_simp;done) | (go_simp;with_reducible rfl)
    try simp only [Act.put,List.setIfInBounds_toArray,List.set_cons_zero,List.set_cons_succ]
    refine until_take (i:=7) [8,10,11,12,13] (v:=?_) rfl (by kernel_rfl) (by kernel_rfl) (by kernel_rfl) (by kernel_rfl) (by kernel_rfl) (fun _ _ _ h=>h) (Or.inl ⟨by rfl,?_⟩) kS.out ?_
    rotate_left
    · intro u hSu
      try dsimp only at hSu
      obtain ⟨y1,y2,y3⟩:=hSu
      first | (go_simp;done) | (go_simp;with_reducible rfl)
    try simp only [Act.put,List.setIfInBounds_toArray,List.set_cons_zero,List.set_cons_succ]
    refine until_take (i:=8) [10,11,12,13] (v:=?_) rfl (by kernel_rfl) (by kernel_rfl) (by kernel_rfl) (by kernel_rfl) (by kernel_rfl) (fun _ _ _ h=>h) (Or.inl ⟨by rfl,?_⟩) kS.out ?_
    rotate_left
    · intro u hSu
      try dsimp only at hSu
      obtain ⟨y1,y2,y3⟩:=hSu
      first | (go_simp;done) | (go_simp;with_reducible rfl)
    try simp only [Act.put,List.setIfInBounds_toArray,List.set_cons_zero,List.set_cons_succ]
    refine until_take (i:=9) [10,11,12,13] (v:=?_) rfl (by kernel_rfl) (by kernel_rfl) (by kernel_rfl) (by kernel_rfl) (by kernel_rfl) (fun _ _ _ h=>h) (Or.inl ⟨by rfl,?_⟩) kS.out ?_
    rotate_left
    · intro u hSu
      try dsimp only at hSu
      obtain ⟨y1,y2,y3⟩:=hSu
      first | (go_simp;done) | (go_simp;with_reducible rfl)
    try simp only [Act.put,List.setIfInBounds_toArray,List.set_cons_zero,List.set_cons_succ]
    refine until_take (i:=10) [11,12,13] (v:=?_) rfl (by kernel_rfl) (by kernel_rfl) (by kernel_rfl) (by kernel_rfl) (by kernel_rfl) (fun _ _ _ h=>h) (Or.inl ⟨by rfl,?_⟩) kS.out ?_
    rotate_left
    · intro u hSu
      try dsimp only at hSu
      obtain ⟨y1,y2,y3⟩:=hSu
      first | (go_simp;done) | (go_simp;with_reducible rfl)
    try simp only [Act.put,List.setIfInBounds_toArray,List.set_cons_zero,List.set_cons_succ]
    refine until_take (i:=11) [12,13] (v:=?_) rfl (by kernel_rfl) (by kernel_rfl) (by kernel_rfl) (by kernel_rfl) (by kernel_rfl) (fun _ _ _ h=>h) (Or.inl ⟨by rfl,?_⟩) kS.out ?_
    rotate_left
    · intro u hSu
      try dsimp only at hSu
      obtain ⟨y1,y2,y3⟩:=hSu
      first | (go_simp;done) | (go_simp;with_reducible rfl)
    try simp only [Act.put,List.setIfInBounds_toArray,List.set_cons_zero,List.set_cons_succ]
    refine until_take (i:=12) [13] (v:=?_) rfl (by kernel_rfl) (by kernel_rfl) (by kernel_rfl) (by kernel_rfl) (by kernel_rfl) (fun _ _ _ h=>h) (Or.inl ⟨by rfl,?_⟩) kS.out ?_
    rotate_left
    · intro u hSu
      try dsimp only at hSu
      obtain ⟨y1,y2,y3⟩:=hSu
      first | (go_simp;done) | (go_simp;with_reducible rfl)
    try simp only [Act.put,List.setIfInBounds_toArray,List.set_cons_zero,List.set_cons_succ]
    refine until_one (i:=13) (by kernel_rfl) rfl (fun K' hK=>?_)
    go_simp
    refine hK.out _ _ (fun _=>HS.out _) ?_
    clear hK K'
    try simp only [Act.put,List.setIfInBounds_toArray,List.set_cons_zero,List.set_cons_succ]
    refine until_one (i:=14) (by kernel_rfl) rfl (fun K' hK=>?_)
    rw [if_pos (by rfl)]
    refine wp_append_j17 _ _ rfl _ _ rfl rfl v' W HR.out ?_;refine hK.out _ _ (fun hh=>absurd hh (by decide)) ?_
    clear hK K'
    try simp only [Act.put,List.setIfInBounds_toArray,List.set_cons_zero,List.set_cons_succ]
    refine until_one (i:=15) (by kernel_rfl) rfl (fun K' hK=>?_)
    go_simp
    refine hK.out _ _ (fun hh=>absurd hh (by decide)) ?_
    clear hK K';refine until_done (by kernel_rfl) ?_ _
    clear kS HS HR;go_wp2
    go_roundg (nC-k1)
    case measure=>have:=HK.out.1;omega
    case rel=>exact ⟨k1,v',by have:=HK.out.1;omega,rfl,by first | rfl | simp,HJ.out⟩
  · obtain rfl:k=nC:=by omega
    have hdk:decide ((k:Int)<(k:Int))=false:=by simp
    have HF:Aside (Rj17 w.heap.size wr rv (runL sb s.C)∧Below w.heap.size w wr):=by
     refine ⟨?_,HA.out.2⟩;have:=HA.out.1;rw [HN.out.1,pr17_all] at this;exact this
    clear HA;go_wp2;go_ret;exact ⟨⟨_,rfl,HF.out.1⟩,HF.out.2⟩
end
end Go.Proofs.YtffeldkheibccaaGreatDoor
