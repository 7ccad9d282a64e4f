import Derived.Test.YtihjfhpoiheomaaGreatDoorW25x
set_option linter.unusedVariables false
set_option linter.unusedSimpArgs false
set_option maxHeartbeats 16000000
set_option maxRecDepth 20000
namespace Go.Proofs.YtihjfhpoiheomaaGreatDoor
namespace J
end J
section
open Go.RowKit J
theorem mem15 {L L':List Nat}{a b n k:Nat}(hL:∀ x ∈ L,x<n) (h:Pm a b L L') (hk:k<L'.length):L'.getD k 0<n :=
 hL _ (h.perm.mem_iff.1 (by rw [List.getD_eq_getElem?_getD,List.getElem?_eq_getElem hk];exact List.getElem_mem _))
theorem wrapZ {x:Int}{q:Nat}(h:x=(q:Int)) (hq:q<4611686018427387904):IntKind.i64.wrap x=(q:Int):=by rw [h];exact wrap15 hq
theorem siftDown15 (K:Nat→Nat) (n g f lo hi cap:Nat) (L:List Nat) (recv:Value) (w:World) (hO:OwnI w g L) (hL:∀ x ∈ L,x<n) (hl:f+hi≤L.length) (hlo:lo<1152921504606846976) (hbig:L.length<1152921504606846976) (hC:Cmp15 K n g recv w) (hH:Hp K f (lo+1) hi L) :
 Calls Tryz.prog 122 #[.slice (some ⟨g,0,none⟩) L.length cap,.int .i64 (lo:Nat),.int .i64 (hi:Nat),.int .i64 (f:Nat),.func (.func 49) #[recv] #[]] w fun r w'=>r=.returned (.tuple #[])∧∃ L',OwnI w' g L'∧Pm (f+lo) (f+hi) L L'∧Hp K f lo hi L'∧But g w w':=by
 obtain ⟨N,hN⟩:∃ N,N=L.length:=⟨_,rfl⟩;have HX:=(qsd (ai hN (ai hL hC)));have B0:Aside (∃ L',OwnI w g L'∧Pm (f+lo) (f+hi) L L'∧Sf K f lo hi lo L'∧But g w w):=⟨L,hO,Pm.refl _ _ _,Sf.start hH,But.refl _ _⟩;rw [←hN] at hl hbig ⊢;clear hN hL hC hO hH;go_enter Tryz.func122,Tryz.ntmps122;go_wp2
 go_loopg [10] (hi-lo) (fun gk rv wr=>∃ r:Nat,gk=hi-r∧(r<hi∨r=lo)∧lo≤r∧rv=.int .i64 (r:Nat)∧Aside (∃ L',OwnI wr g L'∧Pm (f+lo) (f+hi) L L'∧Sf K f lo hi r L'∧But g w wr))
 case atStart=>exact ⟨lo,rfl,.inr rfl,Nat.le_refl _,by simp,B0.out⟩
 case round =>
  clear B0;obtain ⟨r,hgk,hr,hlr,rfl,HA⟩:=hrel;have hrb:r<1152921504606846976:=by omega
  obtain ⟨c,hc⟩:∃ c,c=2*r+1:=⟨_,rfl⟩;have w1:IntKind.i64.wrap (2*(r:Int))=2*(r:Int):=by rw [wrapZ (q:=2*r) (by omega) (by omega)];omega
  have w2:IntKind.i64.wrap (2*(r:Int)+1)=(c:Int):=wrapZ (by omega) (by omega)
  by_cases h1:hi≤c
  · have d1:decide ((hi:Int)≤(c:Nat))=true:=by simp;omega
    have HN:Aside (∃ L',OwnI wr g L'∧Pm (f+lo) (f+hi) L L'∧Hp K f lo hi L'∧But g w wr):=by
     obtain ⟨L',o1,o2,o3,o4⟩:=HA.out;exact ⟨L',o1,o2,o3.done (fun k k1 k2 k3=>by omega),o4⟩
    have HQ:=qsd hc;clear HA hc;go_wp2;refine bodyPost_end (v:=.tuple #[]) (by simp [results,Tryz.results122,go_sem]) rfl ?_
    exact ⟨rfl,HN.out⟩
  · have d1:decide ((hi:Int)≤(c:Nat))=false:=by simp;omega
    obtain ⟨c1,hc1⟩:∃ x,x=c+1:=⟨_,rfl⟩;obtain ⟨pr,hpr⟩:∃ x,x=f+r:=⟨_,rfl⟩;obtain ⟨p1,hp1⟩:∃ x,x=f+c:=⟨_,rfl⟩;obtain ⟨p2,hp2⟩:∃ x,x=f+c1:=⟨_,rfl⟩;have w3:IntKind.i64.wrap ((c:Int)+1)=(c1:Int):=wrapZ (by omega) (by omega)
    have w4:IntKind.i64.wrap ((f:Int)+(r:Int))=(pr:Int):=wrapZ (by omega) (by omega)
    have w5:IntKind.i64.wrap ((f:Int)+(c:Int))=(p1:Int):=wrapZ (by omega) (by omega)
    have w6:IntKind.i64.wrap ((f:Int)+(c1:Int))=(p2:Int):=wrapZ (by omega) (by omega)
    have w7:IntKind.i64.wrap ((p1:Int)+1)=(p2:Int):=wrapZ (by omega) (by omega)
    have b1:(pr:Int)<(N:Int):=by omega
    have b2:(p1:Int)<(N:Int):=by omega
    have b3:pr<N:=by omega
    have b4:p1<N:=by omega
    by_cases h2:c1<hi
    · have d2:decide ((c1:Int)<(hi:Nat))=true:=by simp;omega
      have b5:(p2:Int)<(N:Int):=by omega
      have b6:p2<N:=by omega
      have HQ:=(qsd (ai hc (ai hc1 (ai hpr (ai hp1 hp2)))));clear hc hc1 hpr hp1 hp2
      go_upto_region 3 with fail
      go_cut [40] from 19 to 39 (fun v wx=>∃ t:Bool,v=.bool t∧Aside (∃ L',OwnI wx g L'∧Pm (f+lo) (f+hi) L L'∧Sf K f lo hi r L'∧But g w wx∧(t=true↔ky K L' p1<ky K L' p2)))
      case first =>
       obtain ⟨L',o1,o2,o3,o4⟩:=HA.out;have hlen:L'.length=N:=by rw [o2.len,←HX.out.1]
       have hdr:=(Below.refl wr.heap.size wr).drew;have oD:=o1.below hdr o1.lt;have m1:=mem15 HX.out.2.1 o2 (k:=p1) (by omega)
       have m2:=mem15 HX.out.2.1 o2 (k:=p2) (by omega)
       have c1':=oD.cell p1 (by omega)
       have c2':=oD.cell p2 (by omega)
       obtain ⟨x,hx⟩:∃ x,x=L'.getD p1 0:=⟨_,rfl⟩;obtain ⟨y,hy⟩:∃ y,y=L'.getD p2 0:=⟨_,rfl⟩;rw [←hx] at c1' m1;rw [←hy] at c2' m2;obtain ⟨z,hz,C0⟩:=HX.out.2.2 _ x y (o4.of_bel15 hdr) m1 m2;have C:=hid C0
       have HF:Aside (∀ v:World,Below wr.drew.heap.size wr.drew v→∃ L',OwnI v g L'∧Pm (f+lo) (f+hi) L L'∧Sf K f lo hi r L'∧But g w v∧(decide (z<0)=true↔ky K L' p1<ky K L' p2)):=fun v hv =>
        ⟨L',oD.below hv oD.lt,o2,o3,(o4.of_bel15 hdr).of_bel15 hv,by rw [decide_eq_true_iff,hz];unfold ky;rw [←hx,←hy]⟩
       have kS:=qsd (ai c1' c2');clear HA o1 o2 o3 o4 hlen hdr oD m1 m2 hx hy hz C0 c1' c2'
       go_region_held3 (fun w'=>w'.cell? ⟨g,p1,none⟩=some (.int .i64 (x:Nat))∧w'.cell? ⟨g,p2,none⟩=some (.int .i64 (y:Nat))) (with_reducible exact kS.out) (first
        | (go_at_call 49
           with_reducible refine C.out.mono ?_
           rintro r v ⟨rfl,hb⟩;have G:=qsd (HF.out v hb);have kS:Aside (v.cell? ⟨g,p1,none⟩=some (.int .i64 (x:Nat))∧v.cell? ⟨g,p2,none⟩=some (.int .i64 (y:Nat))):=⟨(hb.cell (p:=⟨g,p1,none⟩) (lt_of_cell15 kS.out.1)).trans kS.out.1,(hb.cell (p:=⟨g,p2,none⟩) (lt_of_cell15 kS.out.2)).trans kS.out.2⟩;clear hb))
       all_goals
        go_wp2_with fail
        go_meet
        case rel=>exact ⟨decide (z<0),rfl,G.out⟩
      clear HA;obtain ⟨t,rfl,HA⟩:=hcut;obtain ⟨W3,hW3⟩:∃ W,W=wc:=⟨_,rfl⟩;subst hW3
      cases t
      · replace HA:Aside (∃ L',OwnI W3 g L'∧Pm (f+lo) (f+hi) L L'∧Sf K f lo hi r L'∧But g w W3∧(∀ k,0<k→k<hi→(k-1)/2=r→ky K L' (f+k)≤ky K L' (f+c))):=by
         obtain ⟨L',o1,o2,o3,o4,o5⟩:=HA.out;obtain ⟨hc,hc1,hpr,hp1,hp2⟩:=HQ.out;refine ⟨L',o1,o2,o3,o4,fun k k1 k2 k3=>?_⟩
         have e:ky K L' p2≤ky K L' p1:=Nat.le_of_not_lt (fun q=>absurd (o5.2 q) (by decide))
         by_cases q:k=c
         · rw [q];exact Nat.le_refl _
         · rw [show f+k=p2 by omega,←hp1];exact e
        go_upto_region 5 with fail
        go_cut [58] from 43 to 57 (fun v wx=>∃ t:Bool,v=.bool (!t)∧Aside (∃ L',OwnI wx g L'∧Pm (f+lo) (f+hi) L L'∧Sf K f lo hi r L'∧But g w wx∧(∀ k,0<k→k<hi→(k-1)/2=r→ky K L' (f+k)≤ky K L' (f+c))∧(t=true↔ky K L' pr<ky K L' p1)))
        case first =>
         obtain ⟨L',o1,o2,o3,o4,o5⟩:=HA.out;have hlen:L'.length=N:=by rw [o2.len,←HX.out.1]
         have hdr:=(Below.refl W3.heap.size W3).drew;have oD:=o1.below hdr o1.lt;have m1:=mem15 HX.out.2.1 o2 (k:=pr) (by omega)
         have m2:=mem15 HX.out.2.1 o2 (k:=p1) (by omega)
         have c1':=oD.cell pr (by omega)
         have c2':=oD.cell p1 (by omega)
         obtain ⟨x,hx⟩:∃ x,x=L'.getD pr 0:=⟨_,rfl⟩;obtain ⟨y,hy⟩:∃ y,y=L'.getD p1 0:=⟨_,rfl⟩;rw [←hx] at c1' m1;rw [←hy] at c2' m2;obtain ⟨z,hz,C0⟩:=HX.out.2.2 _ x y (o4.of_bel15 hdr) m1 m2;have C:=hid C0
         have HF:Aside (∀ v:World,Below W3.drew.heap.size W3.drew v→∃ L',OwnI v g L'∧Pm (f+lo) (f+hi) L L'∧Sf K f lo hi r L'∧But g w v∧(∀ k,0<k→k<hi→(k-1)/2=r→ky K L' (f+k)≤ky K L' (f+c))∧(decide (z<0)=true↔ky K L' pr<ky K L' p1)):=fun v hv =>
          ⟨L',oD.below hv oD.lt,o2,o3,(o4.of_bel15 hdr).of_bel15 hv,o5,by rw [decide_eq_true_iff,hz];unfold ky;rw [←hx,←hy]⟩
         have kS:=qsd (ai c1' c2');clear HA o1 o2 o3 o4 o5 hlen hdr oD m1 m2 hx hy hz C0 c1' c2'
         go_region_held3 (fun w'=>w'.cell? ⟨g,pr,none⟩=some (.int .i64 (x:Nat))∧w'.cell? ⟨g,p1,none⟩=some (.int .i64 (y:Nat))) (with_reducible exact kS.out) (first
          | (go_at_call 49
             with_reducible refine C.out.mono ?_
             rintro r v ⟨rfl,hb⟩;have G:=qsd (HF.out v hb);have kS:Aside (v.cell? ⟨g,pr,none⟩=some (.int .i64 (x:Nat))∧v.cell? ⟨g,p1,none⟩=some (.int .i64 (y:Nat))):=⟨(hb.cell (p:=⟨g,pr,none⟩) (lt_of_cell15 kS.out.1)).trans kS.out.1,(hb.cell (p:=⟨g,p1,none⟩) (lt_of_cell15 kS.out.2)).trans kS.out.2⟩;clear hb))
         all_goals
          go_wp2_with fail
          go_meet
          case rel=>exact ⟨decide (z<0),rfl,G.out⟩
        clear HA;obtain ⟨t,rfl,HA⟩:=hcut;obtain ⟨W5,hW5⟩:∃ W,W=wc:=⟨_,rfl⟩;subst hW5
        cases t
        · have HN:Aside (∃ L',OwnI W5 g L'∧Pm (f+lo) (f+hi) L L'∧Hp K f lo hi L'∧But g w W5):=by
           obtain ⟨L',o1,o2,o3,o4,o5,o6⟩:=HA.out;refine ⟨L',o1,o2,o3.done (fun k k1 k2 k3=>?_),o4⟩
           have:=o5 k k1 k2 k3;have e:ky K L' p1≤ky K L' pr:=Nat.le_of_not_lt (fun q=>absurd (o6.2 q) (by decide))
           have hq:=HQ.out;rw [show f+r=pr by omega]
           rw [show f+c=p1 by omega] at this
           omega
          clear HA;go_wp2;refine bodyPost_ret (v:=.tuple #[]) (by simp [results,Tryz.results122,go_sem]) rfl ?_
          exact ⟨rfl,HN.out⟩
        · have hne:pr≠p1:=by have:=HQ.out;omega
          have hne':p1≠pr:=by have:=HQ.out;omega
          go_upto_region 6 with fail
          go_cut [11] from 59 to 80 (fun v wx=>v=.int .i64 (c:Nat)∧Aside (∃ L',OwnI wx g L'∧Pm (f+lo) (f+hi) L L'∧Sf K f lo hi c L'∧But g w wx))
          case first =>
           obtain ⟨L',o1,o2,o3,o4,o5,o6⟩:=HA.out;have hlen:L'.length=N:=by rw [o2.len,←HX.out.1]
           have hdr:=(Below.refl W5.heap.size W5).drew;have oD:=o1.below hdr o1.lt;have c1':=o1.cell pr (by omega)
           have c2':=o1.cell p1 (by omega)
           have z1:=o1.frozen pr;have z2:=o1.frozen p1
           have HF:Aside (∀ v:World,(v=(W5.drew.setCell ⟨g,pr,none⟩ (.int .i64 (L'.getD p1 0:Nat))).setCell ⟨g,p1,none⟩ (.int .i64 (L'.getD pr 0:Nat))∨v=(W5.drew.setCell ⟨g,p1,none⟩ (.int .i64 (L'.getD pr 0:Nat))).setCell ⟨g,pr,none⟩ (.int .i64 (L'.getD p1 0:Nat)))→∃ L',OwnI v g L'∧Pm (f+lo) (f+hi) L L'∧Sf K f lo hi c L'∧But g w v):=fun v hv=>by
            have hq:=HQ.out;refine ⟨sw L' pr p1,?_,o2.trans (Pm.swap (by omega) (by omega) (by omega) (by omega) (by omega)),?_,?_⟩
            · rcases hv with rfl | rfl
              · exact oD.sw pr p1
              · have:=(oD.set p1 (L'.getD pr 0)).set pr (L'.getD p1 0)
                unfold sw;rw [List.set_comm _ _ hne];exact this
            · have e1:pr=f+r:=by omega
              have e2:p1=f+c:=by omega
              have:=o6.1 rfl;rw [e1,e2] at this ⊢;exact o3.step (by omega) (by omega) (by omega) this o5
            · rcases hv with rfl | rfl
              · exact ((o4.of_bel15 hdr).set _ _).set _ _
              · exact ((o4.of_bel15 hdr).set _ _).set _ _
           obtain ⟨x,hx⟩:∃ x,x=L'.getD pr 0:=⟨_,rfl⟩;obtain ⟨y,hy⟩:∃ y,y=L'.getD p1 0:=⟨_,rfl⟩;rw [←hx] at c1' HF;rw [←hy] at c2' HF;clear HA o1 o2 o3 o4 o5 o6 hlen hdr oD hx hy
           go_region
           all_goals
            go_wp2_with fail
            go_meet
            case rel=>exact ⟨rfl,HF.out _ (by first | exact .inl rfl | exact .inr rfl)⟩
          clear HA;obtain ⟨rfl,HA⟩:=hcut;go_wp2
          go_roundg (hi-c)
          case measure=>have:=HQ.out;omega
          case rel=>exact ⟨c,rfl,.inl (by have:=HQ.out;omega),by have:=HQ.out;omega,by first | rfl | simp,HA.out⟩
      · replace HA:Aside (∃ L',OwnI W3 g L'∧Pm (f+lo) (f+hi) L L'∧Sf K f lo hi r L'∧But g w W3∧(∀ k,0<k→k<hi→(k-1)/2=r→ky K L' (f+k)≤ky K L' (f+c1))):=by
         obtain ⟨L',o1,o2,o3,o4,o5⟩:=HA.out;obtain ⟨hc,hc1,hpr,hp1,hp2⟩:=HQ.out;refine ⟨L',o1,o2,o3,o4,fun k k1 k2 k3=>?_⟩
         have e:=o5.1 rfl
         by_cases q:k=c1
         · rw [q];exact Nat.le_refl _
         · rw [show f+k=p1 by omega,←hp2];exact Nat.le_of_lt e
        go_upto_region 5 with fail
        go_cut [58] from 43 to 57 (fun v wx=>∃ t:Bool,v=.bool (!t)∧Aside (∃ L',OwnI wx g L'∧Pm (f+lo) (f+hi) L L'∧Sf K f lo hi r L'∧But g w wx∧(∀ k,0<k→k<hi→(k-1)/2=r→ky K L' (f+k)≤ky K L' (f+c1))∧(t=true↔ky K L' pr<ky K L' p2)))
        case first =>
         obtain ⟨L',o1,o2,o3,o4,o5⟩:=HA.out;have hlen:L'.length=N:=by rw [o2.len,←HX.out.1]
         have hdr:=(Below.refl W3.heap.size W3).drew;have oD:=o1.below hdr o1.lt;have m1:=mem15 HX.out.2.1 o2 (k:=pr) (by omega)
         have m2:=mem15 HX.out.2.1 o2 (k:=p2) (by omega)
         have c1':=oD.cell pr (by omega)
         have c2':=oD.cell p2 (by omega)
         obtain ⟨x,hx⟩:∃ x,x=L'.getD pr 0:=⟨_,rfl⟩;obtain ⟨y,hy⟩:∃ y,y=L'.getD p2 0:=⟨_,rfl⟩;rw [←hx] at c1' m1;rw [←hy] at c2' m2;obtain ⟨z,hz,C0⟩:=HX.out.2.2 _ x y (o4.of_bel15 hdr) m1 m2;have C:=hid C0
         have HF:Aside (∀ v:World,Below W3.drew.heap.size W3.drew v→∃ L',OwnI v g L'∧Pm (f+lo) (f+hi) L L'∧Sf K f lo hi r L'∧But g w v∧(∀ k,0<k→k<hi→(k-1)/2=r→ky K L' (f+k)≤ky K L' (f+c1))∧(decide (z<0)=true↔ky K L' pr<ky K L' p2)):=fun v hv =>
          ⟨L',oD.below hv oD.lt,o2,o3,(o4.of_bel15 hdr).of_bel15 hv,o5,by rw [decide_eq_true_iff,hz];unfold ky;rw [←hx,←hy]⟩
         have kS:=qsd (ai c1' c2');clear HA o1 o2 o3 o4 o5 hlen hdr oD m1 m2 hx hy hz C0 c1' c2'
         go_region_held3 (fun w'=>w'.cell? ⟨g,pr,none⟩=some (.int .i64 (x:Nat))∧w'.cell? ⟨g,p2,none⟩=some (.int .i64 (y:Nat))) (with_reducible exact kS.out) (first
          | (go_at_call 49
             with_reducible refine C.out.mono ?_
             rintro r v ⟨rfl,hb⟩;have G:=qsd (HF.out v hb);have kS:Aside (v.cell? ⟨g,pr,none⟩=some (.int .i64 (x:Nat))∧v.cell? ⟨g,p2,none⟩=some (.int .i64 (y:Nat))):=⟨(hb.cell (p:=⟨g,pr,none⟩) (lt_of_cell15 kS.out.1)).trans kS.out.1,(hb.cell (p:=⟨g,p2,none⟩) (lt_of_cell15 kS.out.2)).trans kS.out.2⟩;clear hb))
         all_goals
          go_wp2_with fail
          go_meet
          case rel=>exact ⟨decide (z<0),rfl,G.out⟩
        clear HA;obtain ⟨t,rfl,HA⟩:=hcut;obtain ⟨W5,hW5⟩:∃ W,W=wc:=⟨_,rfl⟩;subst hW5
        cases t
        · have HN:Aside (∃ L',OwnI W5 g L'∧Pm (f+lo) (f+hi) L L'∧Hp K f lo hi L'∧But g w W5):=by
           obtain ⟨L',o1,o2,o3,o4,o5,o6⟩:=HA.out;refine ⟨L',o1,o2,o3.done (fun k k1 k2 k3=>?_),o4⟩
           have:=o5 k k1 k2 k3;have e:ky K L' p2≤ky K L' pr:=Nat.le_of_not_lt (fun q=>absurd (o6.2 q) (by decide))
           have hq:=HQ.out;rw [show f+r=pr by omega]
           rw [show f+c1=p2 by omega] at this
           omega
          clear HA;go_wp2;refine bodyPost_ret (v:=.tuple #[]) (by simp [results,Tryz.results122,go_sem]) rfl ?_
          exact ⟨rfl,HN.out⟩
        · have hne:pr≠p2:=by have:=HQ.out;omega
          have hne':p2≠pr:=by have:=HQ.out;omega
          go_upto_region 6 with fail
          go_cut [11] from 59 to 80 (fun v wx=>v=.int .i64 (c1:Nat)∧Aside (∃ L',OwnI wx g L'∧Pm (f+lo) (f+hi) L L'∧Sf K f lo hi c1 L'∧But g w wx))
          case first =>
           obtain ⟨L',o1,o2,o3,o4,o5,o6⟩:=HA.out;have hlen:L'.length=N:=by rw [o2.len,←HX.out.1]
           have hdr:=(Below.refl W5.heap.size W5).drew;have oD:=o1.below hdr o1.lt;have c1':=o1.cell pr (by omega)
           have c2':=o1.cell p2 (by omega)
           have z1:=o1.frozen pr;have z2:=o1.frozen p2
           have HF:Aside (∀ v:World,(v=(W5.drew.setCell ⟨g,pr,none⟩ (.int .i64 (L'.getD p2 0:Nat))).setCell ⟨g,p2,none⟩ (.int .i64 (L'.getD pr 0:Nat))∨v=(W5.drew.setCell ⟨g,p2,none⟩ (.int .i64 (L'.getD pr 0:Nat))).setCell ⟨g,pr,none⟩ (.int .i64 (L'.getD p2 0:Nat)))→∃ L',OwnI v g L'∧Pm (f+lo) (f+hi) L L'∧Sf K f lo hi c1 L'∧But g w v):=fun v hv=>by
            have hq:=HQ.out;refine ⟨sw L' pr p2,?_,o2.trans (Pm.swap (by omega) (by omega) (by omega) (by omega) (by omega)),?_,?_⟩
            · rcases hv with rfl | rfl
              · exact oD.sw pr p2
              · have:=(oD.set p2 (L'.getD pr 0)).set pr (L'.getD p2 0)
                unfold sw;rw [List.set_comm _ _ hne];exact this
            · have e1:pr=f+r:=by omega
              have e2:p2=f+c1:=by omega
              have:=o6.1 rfl;rw [e1,e2] at this ⊢;exact o3.step (by omega) (by omega) (by omega) this o5
            · rcases hv with rfl | rfl
              · exact ((o4.of_bel15 hdr).set _ _).set _ _
              · exact ((o4.of_bel15 hdr).set _ _).set _ _
           obtain ⟨x,hx⟩:∃ x,x=L'.getD pr 0:=⟨_,rfl⟩;obtain ⟨y,hy⟩:∃ y,y=L'.getD p2 0:=⟨_,rfl⟩;rw [←hx] at c1' HF;rw [←hy] at c2' HF;clear HA o1 o2 o3 o4 o5 o6 hlen hdr oD hx hy
           go_region
           all_goals
            go_wp2_with fail
            go_meet
            case rel=>exact ⟨rfl,HF.out _ (by first | exact .inl rfl | exact .inr rfl)⟩
          clear HA;obtain ⟨rfl,HA⟩:=hcut;go_wp2
          go_roundg (hi-c1)
          case measure=>have:=HQ.out;omega
          case rel=>exact ⟨c1,rfl,.inl (by have:=HQ.out;omega),by have:=HQ.out;omega,by first | rfl | simp,HA.out⟩
    · have d2:decide ((c1:Int)<(hi:Nat))=false:=by simp;omega
      have HQ:=(qsd (ai hc (ai hc1 (ai hpr (ai hp1 hp2)))))
      have HD:Aside (∃ L',OwnI wr.drew g L'∧Pm (f+lo) (f+hi) L L'∧Sf K f lo hi r L'∧But g w wr.drew∧(∀ k,0<k→k<hi→(k-1)/2=r→ky K L' (f+k)≤ky K L' (f+c))):=by
       obtain ⟨L',o1,o2,o3,o4⟩:=HA.out;refine ⟨L',o1,o2,o3,o4.drew,fun k k1 k2 k3=>?_⟩
       rw [show k=c by omega];exact Nat.le_refl _
      clear HA hc hc1 hpr hp1 hp2
      go_upto_region 3 with fail
      go_cut [40] from 19 to 39 (fun v wx=>v=.bool false∧wx=wr.drew)
      case first =>
       go_region
       all_goals
        go_wp2_with fail
        go_meet
        case rel=>exact ⟨rfl,rfl⟩
      obtain ⟨rfl,hwx⟩:=hcut;rw [←hwx] at HD;clear hwx;have HA:=HD;clear HD;obtain ⟨W3,hW3⟩:∃ W,W=wc:=⟨_,rfl⟩;subst hW3
      go_upto_region 5 with fail
      go_cut [58] from 43 to 57 (fun v wx=>∃ t:Bool,v=.bool (!t)∧Aside (∃ L',OwnI wx g L'∧Pm (f+lo) (f+hi) L L'∧Sf K f lo hi r L'∧But g w wx∧(∀ k,0<k→k<hi→(k-1)/2=r→ky K L' (f+k)≤ky K L' (f+c))∧(t=true↔ky K L' pr<ky K L' p1)))
      case first =>
       obtain ⟨L',o1,o2,o3,o4,o5⟩:=HA.out;have hlen:L'.length=N:=by rw [o2.len,←HX.out.1]
       have hdr:=(Below.refl W3.heap.size W3).drew;have oD:=o1.below hdr o1.lt;have m1:=mem15 HX.out.2.1 o2 (k:=pr) (by omega)
       have m2:=mem15 HX.out.2.1 o2 (k:=p1) (by omega)
       have c1':=oD.cell pr (by omega)
       have c2':=oD.cell p1 (by omega)
       obtain ⟨x,hx⟩:∃ x,x=L'.getD pr 0:=⟨_,rfl⟩;obtain ⟨y,hy⟩:∃ y,y=L'.getD p1 0:=⟨_,rfl⟩;rw [←hx] at c1' m1;rw [←hy] at c2' m2;obtain ⟨z,hz,C0⟩:=HX.out.2.2 _ x y (o4.of_bel15 hdr) m1 m2;have C:=hid C0
       have HF:Aside (∀ v:World,Below W3.drew.heap.size W3.drew v→∃ L',OwnI v g L'∧Pm (f+lo) (f+hi) L L'∧Sf K f lo hi r L'∧But g w v∧(∀ k,0<k→k<hi→(k-1)/2=r→ky K L' (f+k)≤ky K L' (f+c))∧(decide (z<0)=true↔ky K L' pr<ky K L' p1)):=fun v hv =>
        ⟨L',oD.below hv oD.lt,o2,o3,(o4.of_bel15 hdr).of_bel15 hv,o5,by rw [decide_eq_true_iff,hz];unfold ky;rw [←hx,←hy]⟩
       have kS:=qsd (ai c1' c2');clear HA o1 o2 o3 o4 o5 hlen hdr oD m1 m2 hx hy hz C0 c1' c2'
       go_region_held3 (fun w'=>w'.cell? ⟨g,pr,none⟩=some (.int .i64 (x:Nat))∧w'.cell? ⟨g,p1,none⟩=some (.int .i64 (y:Nat))) (with_reducible exact kS.out) (first
        | (go_at_call 49
           with_reducible refine C.out.mono ?_
           rintro r v ⟨rfl,hb⟩;have G:=qsd (HF.out v hb);have kS:Aside (v.cell? ⟨g,pr,none⟩=some (.int .i64 (x:Nat))∧v.cell? ⟨g,p1,none⟩=some (.int .i64 (y:Nat))):=⟨(hb.cell (p:=⟨g,pr,none⟩) (lt_of_cell15 kS.out.1)).trans kS.out.1,(hb.cell (p:=⟨g,p1,none⟩) (lt_of_cell15 kS.out.2)).trans kS.out.2⟩;clear hb))
       all_goals
        go_wp2_with fail
        go_meet
        case rel=>exact ⟨decide (z<0),rfl,G.out⟩
      clear HA;obtain ⟨t,rfl,HA⟩:=hcut;obtain ⟨W5,hW5⟩:∃ W,W=wc:=⟨_,rfl⟩;subst hW5
      cases t
      · have HN:Aside (∃ L',OwnI W5 g L'∧Pm (f+lo) (f+hi) L L'∧Hp K f lo hi L'∧But g w W5):=by
         obtain ⟨L',o1,o2,o3,o4,o5,o6⟩:=HA.out;refine ⟨L',o1,o2,o3.done (fun k k1 k2 k3=>?_),o4⟩
         have:=o5 k k1 k2 k3;have e:ky K L' p1≤ky K L' pr:=Nat.le_of_not_lt (fun q=>absurd (o6.2 q) (by decide))
         have hq:=HQ.out;rw [show f+r=pr by omega]
         rw [show f+c=p1 by omega] at this
         omega
        clear HA;go_wp2;refine bodyPost_ret (v:=.tuple #[]) (by simp [results,Tryz.results122,go_sem]) rfl ?_
        exact ⟨rfl,HN.out⟩
      · have hne:pr≠p1:=by have:=HQ.out;omega
        have hne':p1≠pr:=by have:=HQ.out;omega
        go_upto_region 6 with fail
        go_cut [11] from 59 to 80 (fun v wx=>v=.int .i64 (c:Nat)∧Aside (∃ L',OwnI wx g L'∧Pm (f+lo) (f+hi) L L'∧Sf K f lo hi c L'∧But g w wx))
        case first =>
         obtain ⟨L',o1,o2,o3,o4,o5,o6⟩:=HA.out;have hlen:L'.length=N:=by rw [o2.len,←HX.out.1]
         have hdr:=(Below.refl W5.heap.size W5).drew;have oD:=o1.below hdr o1.lt;have c1':=o1.cell pr (by omega)
         have c2':=o1.cell p1 (by omega)
         have z1:=o1.frozen pr;have z2:=o1.frozen p1
         have HF:Aside (∀ v:World,(v=(W5.drew.setCell ⟨g,pr,none⟩ (.int .i64 (L'.getD p1 0:Nat))).setCell ⟨g,p1,none⟩ (.int .i64 (L'.getD pr 0:Nat))∨v=(W5.drew.setCell ⟨g,p1,none⟩ (.int .i64 (L'.getD pr 0:Nat))).setCell ⟨g,pr,none⟩ (.int .i64 (L'.getD p1 0:Nat)))→∃ L',OwnI v g L'∧Pm (f+lo) (f+hi) L L'∧Sf K f lo hi c L'∧But g w v):=fun v hv=>by
          have hq:=HQ.out;refine ⟨sw L' pr p1,?_,o2.trans (Pm.swap (by omega) (by omega) (by omega) (by omega) (by omega)),?_,?_⟩
          · rcases hv with rfl | rfl
            · exact oD.sw pr p1
            · have:=(oD.set p1 (L'.getD pr 0)).set pr (L'.getD p1 0)
              unfold sw;rw [List.set_comm _ _ hne];exact this
          · have e1:pr=f+r:=by omega
            have e2:p1=f+c:=by omega
            have:=o6.1 rfl;rw [e1,e2] at this ⊢;exact o3.step (by omega) (by omega) (by omega) this o5
          · rcases hv with rfl | rfl
            · exact ((o4.of_bel15 hdr).set _ _).set _ _
            · exact ((o4.of_bel15 hdr).set _ _).set _ _
         obtain ⟨x,hx⟩:∃ x,x=L'.getD pr 0:=⟨_,rfl⟩;obtain ⟨y,hy⟩:∃ y,y=L'.getD p1 0:=⟨_,rfl⟩;rw [←hx] at c1' HF;rw [←hy] at c2' HF;clear HA o1 o2 o3 o4 o5 o6 hlen hdr oD hx hy
         go_region
         all_goals
          go_wp2_with fail
          go_meet
          case rel=>exact ⟨rfl,HF.out _ (by first | exact .inl rfl | exact .inr rfl)⟩
        clear HA;obtain ⟨rfl,HA⟩:=hcut;go_wp2
        go_roundg (hi-c)
        case measure=>have:=HQ.out;omega
        case rel=>exact ⟨c,rfl,.inl (by have:=HQ.out;omega),by have:=HQ.out;omega,by first | rfl | simp,HA.out⟩
end
section
open Go.RowKit J
def Sx15 (n g N:Nat) (w wr:World) (S:List Nat→Prop):Prop:=∃ L,OwnI wr g L∧L.length=N∧(∀ k,k<N→L.getD k 0<n)∧But g w wr∧S L
theorem Sx15.below {n g N:Nat}{w wr v:World}{S:List Nat→Prop}(h:Sx15 n g N w wr S) (hb:Below wr.heap.size wr v):Sx15 n g N w v S:=by
 obtain ⟨L,h1,h2,h3,h4,h5⟩:=h;exact ⟨L,h1.below hb h1.lt,h2,h3,h4.of_bel15 hb,h5⟩
theorem Sx15.drew {n g N:Nat}{w wr:World}{S:List Nat→Prop}(h:Sx15 n g N w wr S):Sx15 n g N w wr.drew S:=h.below (Below.refl wr.heap.size wr).drew
theorem Sx15.imp {n g N:Nat}{w wr:World}{S T:List Nat→Prop}(h:Sx15 n g N w wr S) (f:∀ L,L.length=N→S L→T L):Sx15 n g N w wr T:=by
 obtain ⟨L,h1,h2,h3,h4,h5⟩:=h;exact ⟨L,h1,h2,h3,h4,f L h2 h5⟩
theorem Sx15.lt {n g N:Nat}{w wr:World}{S:List Nat→Prop}(h:Sx15 n g N w wr S):g<wr.heap.size:=by
 obtain ⟨L,h1,h2,h3,h4,h5⟩:=h;exact h1.lt
theorem Sx15.cmp {K:Nat→Nat}{n g N:Nat}{recv:Value}{w wr:World}{S:List Nat→Prop}(h:Sx15 n g N w wr S) (hC:Cmp15 K n g recv w) (i j:Nat) (hi:i<N) (hj:j<N) :
 ∃ (x y:Nat) (z:Int),wr.cell? ⟨g,i,none⟩=some (.int .i64 (x:Nat))∧wr.cell? ⟨g,j,none⟩=some (.int .i64 (y:Nat)) ∧
   Calls Tryz.prog 49 #[recv,.int .i64 (x:Nat),.int .i64 (y:Nat)] wr (fun r w'=>r=.returned (.int .i64 z)∧Below wr.heap.size wr w') ∧
   (∀ v:World,Below wr.heap.size wr v→Sx15 n g N w v (fun L=>S L∧(decide (z<0)=true↔ky K L i<ky K L j))):=by
 obtain ⟨L,h1,h2,h3,h4,h5⟩:=h;obtain ⟨z,hz,C⟩:=hC wr (L.getD i 0) (L.getD j 0) h4 (h3 i hi) (h3 j hj);refine ⟨_,_,z,h1.cell i (by omega),h1.cell j (by omega),C,fun v hv=>⟨L,h1.below hv h1.lt,h2,h3,h4.of_bel15 hv,h5,?_⟩⟩
 rw [decide_eq_true_iff,hz];rfl
theorem Sx15.cmpd {K:Nat→Nat}{n g N:Nat}{recv:Value}{w wr:World}{S:List Nat→Prop}(h:Sx15 n g N w wr S) (hC:Cmp15 K n g recv w) (i j:Nat) (hi:i<N) (hj:j<N) :
 ∃ (x y:Nat) (z:Int),wr.drew.cell? ⟨g,i,none⟩=some (.int .i64 (x:Nat))∧wr.drew.cell? ⟨g,j,none⟩=some (.int .i64 (y:Nat)) ∧
   Calls Tryz.prog 49 #[recv,.int .i64 (x:Nat),.int .i64 (y:Nat)] wr.drew (fun r w'=>r=.returned (.int .i64 z)∧Below wr.drew.heap.size wr.drew w') ∧
   (∀ v:World,Below wr.drew.heap.size wr.drew v→Sx15 n g N w v (fun L=>S L∧(decide (z<0)=true↔ky K L i<ky K L j))):=h.drew.cmp hC i j hi hj
theorem sw_comm15 (L:List Nat) (i j:Nat):(L.set j (L.getD i 0)).set i (L.getD j 0)=sw L i j:=by
 unfold sw
 by_cases h:i=j
 · subst h;rfl
 · rw [List.set_comm _ _ h]
theorem Sx15.swap {n g N:Nat}{w wr:World}{S:List Nat→Prop}(h:Sx15 n g N w wr S) (i j:Nat) (hi:i<N) (hj:j<N) :
 ∃ (x y:Nat),wr.cell? ⟨g,i,none⟩=some (.int .i64 (x:Nat))∧wr.cell? ⟨g,j,none⟩=some (.int .i64 (y:Nat))∧wr.frozen? ⟨g,i,none⟩=false∧wr.frozen? ⟨g,j,none⟩=false ∧
   (∀ v:World,(v=(wr.drew.setCell ⟨g,i,none⟩ (.int .i64 (y:Nat))).setCell ⟨g,j,none⟩ (.int .i64 (x:Nat))∨v=(wr.drew.setCell ⟨g,j,none⟩ (.int .i64 (x:Nat))).setCell ⟨g,i,none⟩ (.int .i64 (y:Nat)))→Sx15 n g N w v (fun L=>∃ M,S M∧M.length=N∧L=sw M i j)):=by
 obtain ⟨L,h1,h2,h3,h4,h5⟩:=h;have hdr:=(Below.refl wr.heap.size wr).drew;have oD:=h1.below hdr h1.lt;refine ⟨_,_,h1.cell i (by omega),h1.cell j (by omega),h1.frozen i,h1.frozen j,fun v hv=>⟨sw L i j,?_,by rw [sw_len,h2],fun k hk=>?_,?_,L,h5,h2,rfl⟩⟩
 · rcases hv with rfl | rfl
   · exact oD.sw i j
   · rw [←sw_comm15]
     exact (oD.set j (L.getD i 0)).set i (L.getD j 0)
 · rw [sw_get (by omega) (by omega)]
   split
   · exact h3 i hi
   · split
     · exact h3 j hj
     · exact h3 k hk
 · rcases hv with rfl | rfl
   · exact ((h4.of_bel15 hdr).set _ _).set _ _
   · exact ((h4.of_bel15 hdr).set _ _).set _ _
theorem Sx15.use {n g N:Nat}{w wr:World}{S:List Nat→Prop}(h:Sx15 n g N w wr S):∃ L,S L∧L.length=N∧Sx15 n g N wr wr (fun M=>M=L)∧But g w wr:=by
 obtain ⟨L,h1,h2,h3,h4,h5⟩:=h;exact ⟨L,h5,h2,⟨L,h1,h2,h3,But.refl _ _,rfl⟩,h4⟩
theorem Sx15.re {n g N:Nat}{w wr v:World}{S:List Nat→Prop}(h:Sx15 n g N wr v S) (hB:But g w wr):Sx15 n g N w v S:=by
 obtain ⟨L,h1,h2,h3,h4,h5⟩:=h;exact ⟨L,h1,h2,h3,hB.trans h4,h5⟩
theorem Cmp15.at {K:Nat→Nat}{n g:Nat}{recv:Value}{w wr:World}(h:Cmp15 K n g recv w) (hB:But g w wr):Cmp15 K n g recv wr:=fun u x y hu hx hy=>h u x y (hB.trans hu) hx hy
theorem siftX (K:Nat→Nat) (n g N f lo hi cap:Nat) (L:List Nat) (recv:Value) (w:World) (hS:Sx15 n g N w w (fun M=>M=L)) (hC:Cmp15 K n g recv w) (hl:f+hi≤N) (hlo:lo<1152921504606846976) (hbig:N<1152921504606846976) (hH:Hp K f (lo+1) hi L) :
 Calls Tryz.prog 122 #[.slice (some ⟨g,0,none⟩) N cap,.int .i64 (lo:Nat),.int .i64 (hi:Nat),.int .i64 (f:Nat),.func (.func 49) #[recv] #[]] w fun r w'=>r=.returned (.tuple #[])∧Sx15 n g N w w' (fun M=>Pm (f+lo) (f+hi) L M∧Hp K f lo hi M):=by
 obtain ⟨M,h1,h2,h3,h4,rfl⟩:=hS;subst h2
 have hL:∀ x ∈ M,x<n:=fun x hx=>by
  obtain ⟨k,hk,rfl⟩:=List.mem_iff_getElem.1 hx;have:=h3 k hk;rw [List.getD_eq_getElem?_getD,List.getElem?_eq_getElem hk] at this
  exact this
 refine (siftDown15 K n g f lo hi cap M recv w h1 hL hl hlo hbig hC hH).mono ?_;rintro r v ⟨rfl,L',k1,k2,k3,k4⟩;exact ⟨rfl,L',k1,k2.len,fun k hk=>hL _ (k2.perm.mem_iff.1 (by rw [List.getD_eq_getElem?_getD,List.getElem?_eq_getElem (by rw [k2.len];exact hk)];exact List.getElem_mem _)),k4,k2,k3⟩
theorem insX (K:Nat→Nat) (n g N a b cap:Nat) (L:List Nat) (recv:Value) (w:World) (hS:Sx15 n g N w w (fun M=>M=L)) (hC:Cmp15 K n g recv w) (hab:a≤b) (hb:b≤N) (hbig:N<1152921504606846976) :
 Calls Tryz.prog 87 #[.slice (some ⟨g,0,none⟩) N cap,.int .i64 (a:Nat),.int .i64 (b:Nat),.func (.func 49) #[recv] #[]] w fun r w'=>r=.returned (.tuple #[])∧Sx15 n g N w w' (fun M=>Pm a b L M∧Up K a b M):=by
 obtain ⟨M,h1,h2,h3,h4,rfl⟩:=hS;subst h2
 have hL:∀ x ∈ M,x<n:=fun x hx=>by
  obtain ⟨k,hk,rfl⟩:=List.mem_iff_getElem.1 hx;have:=h3 k hk;rw [List.getD_eq_getElem?_getD,List.getElem?_eq_getElem hk] at this
  exact this
 refine (insertion15 K n g a b cap M recv w h1 hL hab hb (by omega) hC).mono ?_
 rintro r v ⟨rfl,L',k1,k2,k3,k4⟩;exact ⟨rfl,L',k1,k2.len,fun k hk=>hL _ (k2.perm.mem_iff.1 (by rw [List.getD_eq_getElem?_getD,List.getElem?_eq_getElem (by rw [k2.len];exact hk)];exact List.getElem_mem _)),k4,k2,k3⟩
end
section
open Go.RowKit J
theorem not_iff15 {b:Bool}{p:Prop}(h:b=true↔p):(!b)=true↔¬ p:=by
 cases b <;> simp_all
theorem and_iff15 {b:Bool}{g p:Prop}(hg:g) (h:b=true↔p):b=true↔(g∧p):=h.trans ⟨fun e=>⟨hg,e⟩,fun e=>e.2⟩
theorem and_no15 {g p:Prop}(hg:¬ g):false=true↔(g∧p):=⟨fun e=>absurd e (by decide),fun e=>absurd e.1 hg⟩
theorem heap15 (K:Nat→Nat) (n g N a b cap:Nat) (L:List Nat) (recv:Value) (w:World) (hS:Sx15 n g N w w (fun M=>M=L)) (hC:Cmp15 K n g recv w) (hab:a<b) (hb:b≤N) (hbig:N<1152921504606846976) :
 Calls Tryz.prog 88 #[.slice (some ⟨g,0,none⟩) N cap,.int .i64 (a:Nat),.int .i64 (b:Nat),.func (.func 49) #[recv] #[]] w fun r w'=>r=.returned (.tuple #[])∧Sx15 n g N w w' (fun M=>Pm a b L M∧Up K a b M):=by
 obtain ⟨m,hm⟩:∃ m,m=b-a:=⟨_,rfl⟩;obtain ⟨m1,hm1⟩:∃ m1,m1=m-1:=⟨_,rfl⟩;obtain ⟨q0,hq0⟩:∃ q0,q0=m1/2:=⟨_,rfl⟩;have HC:=qsd hC
 have HA:Aside (Sx15 n g N w w (fun M=>Pm a b L M∧Hp K a (q0+1) m M)):=(hS.imp (fun M _ e=>by
  subst e;exact ⟨Pm.refl _ _ _,fun c c1 c2 c3=>by omega⟩):Sx15 n g N w w _)
 have w1:IntKind.i64.wrap ((b:Int)-(a:Int))=(m:Int):=wrapZ (by omega) (by omega)
 have w2:IntKind.i64.wrap ((m:Int)-1)=(m1:Int):=wrapZ (by omega) (by omega)
 have w3:Int.tdiv (m1:Int) 2=(q0:Int):=by rw [hq0];rfl
 have w4:IntKind.i64.wrap (q0:Int)=(q0:Int):=wrapZ rfl (by omega)
 have HQ:=(qsd (ai hm (ai hm1 hq0)));clear hm hm1 hq0 hS hC;go_enter Tryz.func88,Tryz.ntmps88;go_wp2
 go_loopg [11] (q0+1) (fun gk iv wr=>∃ t:Nat,gk=t∧t≤q0+1∧iv=.int .i64 ((t:Int)-1)∧Aside (Sx15 n g N w wr (fun M=>Pm a b L M∧Hp K a t m M)))
 case atStart=>exact ⟨q0+1,rfl,Nat.le_refl _,by simp,HA.out⟩
 case round =>
  clear HA;obtain ⟨t,hgk,htq,hiv,HA⟩:=hrel
  rcases Nat.eq_zero_or_pos t with h0|h0
  · subst h0
    have hd:decide ((0:Int)≤-1)=false:=by decide
    rw [show ((0:Nat):Int)-1=-1 by rfl] at hiv
    subst hiv;replace HA:Aside (Sx15 n g N w wr (fun M=>Pm a b L M∧H2 K a m m M)):=(HA.out.imp (fun M _ q=>⟨q.1,H2.start q.2⟩):Sx15 n g N w wr _)
    go_wp2
    go_loopg [12] m (fun gk iv wr=>∃ t:Nat,gk=t∧t≤m∧iv=.int .i64 ((t:Int)-1)∧Aside (Sx15 n g N w wr (fun M=>Pm a b L M∧H2 K a m t M)))
    case atStart=>exact ⟨m,rfl,Nat.le_refl _,by have:=HQ.out;simp;omega,HA.out⟩
    case round =>
     clear HA;obtain ⟨t,hgk2,htm,hiv,HA⟩:=hrel
     rcases Nat.eq_zero_or_pos t with h1|h1
     · subst h1
       rw [show ((0:Nat):Int)-1=-1 by rfl] at hiv
       subst hiv;go_wp2;refine bodyPost_end (v:=.tuple #[]) (by simp [results,Tryz.results88,go_sem]) rfl ?_
       refine ⟨rfl,HA.out.imp (fun M _ q=>⟨q.1,?_⟩)⟩
       have:=q.2.done;rw [show a+m=b by have:=HQ.out;omega] at this
       exact this
     · obtain ⟨s,hs⟩:∃ s,s=t-1:=⟨_,rfl⟩
       obtain ⟨p,hp⟩:∃ p,p=a+s:=⟨_,rfl⟩;rw [show (t:Int)-1=(s:Int) by omega] at hiv
       subst hiv;have hd:decide ((0:Int)≤(s:Int))=true:=by simp
       have w5:IntKind.i64.wrap ((a:Int)+(s:Int))=(p:Int):=wrapZ (by omega) (by have:=HQ.out;omega)
       have w6:IntKind.i64.wrap ((s:Int)-1)=(s:Int)-1:=by
        have:=HQ.out;simp [IntKind.wrap,IntKind.bits,IntKind.signed];omega
       have b1:(a:Int)<(N:Int):=by omega
       have b2:(p:Int)<(N:Int):=by have:=HQ.out;omega
       have b3:a<N:=by omega
       have b4:p<N:=by have:=HQ.out;omega
       have HT:=(qsd (ai hs (ai hp (ai htm (ai h1 hgk2)))));clear hs hp htm h1 hgk2 hgk htq
       go_upto_region 10 with fail
       go_cut [8] from 36 to 53 (fun v wx=>v=.int .i64 (a:Nat)∧Aside (Sx15 n g N w wx (fun M=>∃ M0,(fun M=>Pm a b L M∧H2 K a m t M) M0∧M0.length=N∧M=sw M0 a p)))
       case first =>
        obtain ⟨x,y,c1',c2',z1,z2,HF0⟩:=HA.out.swap a p (by omega) (by omega)
        have HF:=qsd HF0;clear HA HF0
        by_cases hse:a=p
        · subst hse
          have hxy:x=y:=by
           have h2:(x:Int)=(y:Int):=by (have:=c1'.symm.trans c2';simpa using this)
           omega
          subst hxy;clear c2' z2
          go_region
          all_goals
           go_wp2_with fail
           go_meet
           case rel=>exact ⟨rfl,HF.out _ (by first | exact .inl rfl | exact .inr rfl)⟩
        · have hse':p≠a:=fun e=>hse e.symm
          go_region
          all_goals
           go_wp2_with fail
           go_meet
           case rel=>exact ⟨rfl,HF.out _ (by first | exact .inl rfl | exact .inr rfl)⟩
       clear HA;obtain ⟨rfl,HA⟩:=hcut;obtain ⟨W1,hW⟩:∃ W,W=wc:=⟨_,rfl⟩;subst hW;obtain ⟨L1,s1,s2,s3,s4⟩:=HA.out.use
       have C:=hid (siftX K n g N a 0 s cap L1 recv W1 s3 (HC.out.at s4) (by have:=HQ.out;have:=HT.out;omega) (by omega) hbig (by
        obtain ⟨M0,k1,k2,rfl⟩:=s1;obtain ⟨hs,hp,htm,h1,_⟩:=HT.out;have:=HQ.out;have e:=k1.2;rw [show t=s+1 by omega] at e
        rw [hp];exact e.mid (by omega)))
       have HF:Aside (∀ v,Sx15 n g N W1 v (fun M=>Pm (a+0) (a+s) L1 M∧Hp K a 0 s M)→Sx15 n g N w v (fun M=>Pm a b L M∧H2 K a m s M)):=fun v hv=>(hv.re s4).imp (fun M _ q=>by
        obtain ⟨M0,k1,k2,rfl⟩:=s1;obtain ⟨hs,hp,htm,h1,_⟩:=HT.out;have:=HQ.out;have e:=k1.2;rw [show t=s+1 by omega] at e
        have q1:=q.1;rw [hp,Nat.add_zero] at q1;exact ⟨(k1.1.trans (Pm.swap (by omega) (by omega) (by omega) (by omega) (by omega))).trans (q1.mono (by omega) (by omega)),e.step (by omega) q1 q.2⟩)
       clear HA s1 s2 s3 s4
       go_wp2_with fail
       refine C.out.mono ?_;rintro r v ⟨rfl,hv⟩;have HA:=qsd (HF.out v hv);clear C HF hv;go_wp2
       go_roundg s
       case measure=>have:=HT.out;omega
       case rel=>exact ⟨s,rfl,by have:=HT.out;omega,by first | rfl | simp,HA.out⟩
  · obtain ⟨s,hs⟩:∃ s,s=t-1:=⟨_,rfl⟩
    rw [show (t:Int)-1=(s:Int) by omega] at hiv
    subst hiv;have hd:decide ((0:Int)≤(s:Int))=true:=by simp
    have w6:IntKind.i64.wrap ((s:Int)-1)=(s:Int)-1:=by
     have:=HQ.out;simp [IntKind.wrap,IntKind.bits,IntKind.signed];omega
    obtain ⟨L1,s1,s2,s3,s4⟩:=HA.out.use
    have C:=hid (siftX K n g N a s m cap L1 recv wr s3 (HC.out.at s4) (by have:=HQ.out;omega) (by have:=HQ.out;omega) hbig (by
     have e:=s1.2;rw [show t=s+1 by omega] at e
     exact e))
    have HF:Aside (∀ v,Sx15 n g N wr v (fun M=>Pm (a+s) (a+m) L1 M∧Hp K a s m M)→Sx15 n g N w v (fun M=>Pm a b L M∧Hp K a s m M)):=fun v hv=>(hv.re s4).imp (fun M _ q=>⟨s1.1.trans (q.1.mono (by omega) (by have:=HQ.out;omega)),q.2⟩)
    have HT:=(qsd (ai hs (ai htq (ai h0 hgk))));clear HA s1 s2 s3 s4 hs htq h0 hgk
    go_wp2_with fail
    refine C.out.mono ?_;rintro r v ⟨rfl,hv⟩;have HA:=qsd (HF.out v hv);clear C HF hv;go_wp2
    go_roundg s
    case measure=>have:=HT.out;omega
    case rel=>exact ⟨s,rfl,by have:=HT.out;omega,by first | rfl | simp,HA.out⟩
end
section
open Go.RowKit J
theorem partition15 (K:Nat→Nat) (n g N a b pv cap:Nat) (L:List Nat) (recv:Value) (w:World) (hS:Sx15 n g N w w (fun M=>M=L)) (hC:Cmp15 K n g recv w) (hab:a+1<b) (hb:b≤N) (hp1:a≤pv) (hp2:pv<b) (hbig:N<1152921504606846976) :
 Calls Tryz.prog 94 #[.slice (some ⟨g,0,none⟩) N cap,.int .i64 (a:Nat),.int .i64 (b:Nat),.int .i64 (pv:Nat),.func (.func 49) #[recv] #[]] w fun r w'=>∃ (m:Nat) (t:Bool),r=.returned (.tuple #[.int .i64 (m:Nat),.bool t])∧a≤m∧m<b∧Sx15 n g N w w' (fun M=>Pm a b L M∧Prt K a b m M):=by
 obtain ⟨i0,hi0⟩:∃ x,x=a+1:=⟨_,rfl⟩;obtain ⟨j0,hj0⟩:∃ x,x=b-1:=⟨_,rfl⟩;obtain ⟨p0,hp0⟩:∃ x,x=ky K L pv:=⟨_,rfl⟩;have HC:=qsd hC;have HA:=qsd hS;have w1:IntKind.i64.wrap ((a:Int)+1)=(i0:Int):=wrapZ (by omega) (by omega)
 have w2:IntKind.i64.wrap ((b:Int)-1)=(j0:Int):=wrapZ (by omega) (by omega)
 have b1:(a:Int)<(N:Int):=by omega
 have b2:(pv:Int)<(N:Int):=by omega
 have b3:a<N:=by omega
 have b4:pv<N:=by omega
 have c1:a<i0:=by omega
 have c2:i0≤j0:=by omega
 have c3:j0<b:=by omega
 have HQ:=(qsd (ai hi0 (ai hj0 hp0)));clear hi0 hj0 hp0 hS hC;go_enter Tryz.func94,Tryz.ntmps94
 go_upto_region 1 with fail
 go_cut [1] from 14 to 27 (fun v wx=>v=.int .i64 (a:Nat)∧Aside (Sx15 n g N w wx (fun M=>∃ M0,(fun M=>M=L) M0∧M0.length=N∧M=sw M0 a pv)))
 case first =>
  obtain ⟨x,y,c1',c2',z1,z2,HF0⟩:=HA.out.swap a pv (by omega) (by omega)
  have HF:=qsd HF0;clear HA HF0
  by_cases hse:a=pv
  · subst hse
    have hxy:x=y:=by
     have h2:(x:Int)=(y:Int):=by (have:=c1'.symm.trans c2';simpa using this)
     omega
    subst hxy;clear c2' z2
    go_region
    all_goals
     go_wp2_with fail
     go_meet
     case rel=>exact ⟨rfl,HF.out _ (by first | exact .inl rfl | exact .inr rfl)⟩
  · have hse':pv≠a:=fun e=>hse e.symm
    go_region
    all_goals
     go_wp2_with fail
     go_meet
     case rel=>exact ⟨rfl,HF.out _ (by first | exact .inl rfl | exact .inr rfl)⟩
 clear HA;obtain ⟨rfl,HA⟩:=hcut;obtain ⟨W0,hW⟩:∃ W,W=wc:=⟨_,rfl⟩;subst hW
 replace HA:Aside (Sx15 n g N w W0 (fun M=>Pm a b L M∧Pt K a b i0 j0 p0 M)):=(HA.out.imp (fun M _ q=>by
  obtain ⟨M0,rfl,q2,rfl⟩:=q;obtain ⟨hi0,hj0,hp0⟩:=HQ.out;rw [hi0,hj0,hp0];exact ⟨Pm.swap (by omega) (by omega) (by omega) (by omega) (by omega),Pt.start (by omega) (by omega) hp1 hp2⟩):Sx15 n g N w W0 _)
 go_wp2
 go_loopg [12] (j0+1-i0) (fun gk iv wr=>∃ i:Nat,gk=j0+1-i∧a<i∧i0≤i∧i≤j0+1∧iv=.int .i64 (i:Nat)∧Aside (Sx15 n g N w wr (fun M=>Pm a b L M∧Pt K a b i j0 p0 M)))
 case atStart=>exact ⟨i0,rfl,by omega,by omega,by omega,by first | rfl | simp,HA.out⟩
 case round =>
  clear HA;obtain ⟨i,hgk,hai,hii,hij,rfl,HA⟩:=hrel;obtain ⟨i',hi'⟩:∃ x,x=i+1:=⟨_,rfl⟩;have wi:IntKind.i64.wrap ((i:Int)+1)=(i':Int):=wrapZ (by omega) (by omega)
  replace hi':=qsd hi'
  go_upto_region 3 with fail
  go_cut [47] from 32 to 46 (fun v wx=>∃ t:Bool,v=.bool t∧Aside (Sx15 n g N w wx (fun M=>(fun M=>Pm a b L M∧Pt K a b i j0 p0 M) M∧(t=true↔(i≤j0∧ky K M i<ky K M a)))))
  case first =>
   by_cases hgd:i≤j0
   · have hgdec:decide ((i:Int)≤(j0:Int))=true:=by simp;omega
     obtain ⟨x,y,z,c1',c2',C0,HF0⟩:=HA.out.cmpd HC.out i a (by omega) (by omega)
     have C:=hid C0;have HF:=qsd HF0;have kS:=qsd (ai c1' c2');clear HA C0 HF0 c1' c2';have bi:(i:Int)<(N:Int):=by omega
     have bi':i<N:=by omega
     go_region_held3 (fun w'=>w'.cell? ⟨g,i,none⟩=some (.int .i64 (x:Nat))∧w'.cell? ⟨g,a,none⟩=some (.int .i64 (y:Nat))) (with_reducible exact kS.out) (first
      | (go_at_call 49
         with_reducible refine C.out.mono ?_
         rintro r v ⟨rfl,hb⟩;have G:=qsd (HF.out v hb);have kS:Aside (v.cell? ⟨g,i,none⟩=some (.int .i64 (x:Nat))∧v.cell? ⟨g,a,none⟩=some (.int .i64 (y:Nat))):=⟨(hb.cell (p:=⟨g,i,none⟩) (lt_of_cell15 kS.out.1)).trans kS.out.1,(hb.cell (p:=⟨g,a,none⟩) (lt_of_cell15 kS.out.2)).trans kS.out.2⟩;clear hb))
     all_goals
      go_wp2_with fail
      go_meet
      case rel=>exact ⟨decide (z<0),rfl,G.out.imp (fun M _ q=>⟨q.1,and_iff15 hgd (q.2)⟩)⟩
   · have hgdec:decide ((i:Int)≤(j0:Int))=false:=by simp;omega
     have HD:=qsd (HA.out.drew);clear HA
     go_region
     all_goals
      go_wp2_with fail
      go_meet
      case rel=>exact ⟨false,rfl,HD.out.imp (fun M _ q=>⟨q,and_no15 hgd⟩)⟩
  clear HA;obtain ⟨t,rfl,HA⟩:=hcut;obtain ⟨WC,hW⟩:∃ W,W=wc:=⟨_,rfl⟩;subst hW
  cases t
  · replace HA:Aside (Sx15 n g N w WC (fun M=>Pm a b L M∧Pt K a b i j0 p0 M∧(i≤j0→ky K M a≤ky K M i))):=(HA.out.imp (fun M _ q=>⟨q.1.1,q.1.2,fun e=>Nat.le_of_not_lt (fun h=>absurd (q.2.2 ⟨e,h⟩) (by decide))⟩):Sx15 n g N w WC _)
    clear wi hi';go_wp2
    go_loopg [13] (j0+1-i) (fun gk jv wr=>∃ j:Nat,gk=j+1-i∧j≤j0∧i≤j+1∧jv=.int .i64 (j:Nat)∧Aside (Sx15 n g N w wr (fun M=>Pm a b L M∧Pt K a b i j p0 M∧(i≤j→ky K M a≤ky K M i))))
    case atStart=>exact ⟨j0,rfl,by omega,by omega,by first | rfl | simp,HA.out⟩
    case round =>
     clear HA;obtain ⟨j,hgk,hjj,hij,rfl,HA⟩:=hrel;have bj:(j:Int)<(N:Int):=by omega
     have bj':j<N:=by omega
     go_upto_region 5 with fail
     go_cut [66] from 50 to 65 (fun v wx=>∃ t:Bool,v=.bool t∧Aside (Sx15 n g N w wx (fun M=>(fun M=>Pm a b L M∧Pt K a b i j p0 M∧(i≤j→ky K M a≤ky K M i)) M∧(t=true↔(i≤j∧¬ ky K M j<ky K M a)))))
     case first =>
      by_cases hgd:i≤j
      · have hgdec:decide ((i:Int)≤(j:Int))=true:=by simp;omega
        obtain ⟨x,y,z,c1',c2',C0,HF0⟩:=HA.out.cmpd HC.out j a (by omega) (by omega)
        have C:=hid C0;have HF:=qsd HF0;have kS:=qsd (ai c1' c2');clear HA C0 HF0 c1' c2'
        go_region_held3 (fun w'=>w'.cell? ⟨g,j,none⟩=some (.int .i64 (x:Nat))∧w'.cell? ⟨g,a,none⟩=some (.int .i64 (y:Nat))) (with_reducible exact kS.out) (first
         | (go_at_call 49
            with_reducible refine C.out.mono ?_
            rintro r v ⟨rfl,hb⟩;have G:=qsd (HF.out v hb);have kS:Aside (v.cell? ⟨g,j,none⟩=some (.int .i64 (x:Nat))∧v.cell? ⟨g,a,none⟩=some (.int .i64 (y:Nat))):=⟨(hb.cell (p:=⟨g,j,none⟩) (lt_of_cell15 kS.out.1)).trans kS.out.1,(hb.cell (p:=⟨g,a,none⟩) (lt_of_cell15 kS.out.2)).trans kS.out.2⟩;clear hb))
        all_goals
         go_wp2_with fail
         go_meet
         case rel=>exact ⟨!decide (z<0),rfl,G.out.imp (fun M _ q=>⟨q.1,and_iff15 hgd (not_iff15 q.2)⟩)⟩
      · have hgdec:decide ((i:Int)≤(j:Int))=false:=by simp;omega
        have HD:=qsd (HA.out.drew);clear HA
        go_region
        all_goals
         go_wp2_with fail
         go_meet
         case rel=>exact ⟨false,rfl,HD.out.imp (fun M _ q=>⟨q,and_no15 hgd⟩)⟩
     clear HA;obtain ⟨t,rfl,HA⟩:=hcut;obtain ⟨WC,hW⟩:∃ W,W=wc:=⟨_,rfl⟩;subst hW
     cases t
     · replace HA:Aside (Sx15 n g N w WC (fun M=>Pm a b L M∧Pt K a b i j p0 M∧(i≤j→ky K M a≤ky K M i)∧(i≤j→ky K M j<ky K M a))):=(HA.out.imp (fun M _ q=>⟨q.1.1,q.1.2.1,q.1.2.2,fun e=>Nat.lt_of_not_le (fun h=>absurd (q.2.2 ⟨e,Nat.not_lt.2 h⟩) (by decide))⟩):Sx15 n g N w WC _)
       by_cases hgt:i≤j
       · have hdg:decide ((j:Int)<(i:Int))=false:=by simp;omega
         go_upto_region 10 with fail
         go_cut [12] from 69 to 100 (fun v wx=>v=.int .i64 (i:Nat)∧Aside (Sx15 n g N w wx (fun M=>∃ M0,(fun M=>Pm a b L M∧Pt K a b i j p0 M∧(i≤j→ky K M a≤ky K M i)∧(i≤j→ky K M j<ky K M a)) M0∧M0.length=N∧M=sw M0 i j)))
         case first =>
          obtain ⟨x,y,c1',c2',z1,z2,HF0⟩:=HA.out.swap i j (by omega) (by omega)
          have HF:=qsd HF0;clear HA HF0;have bi:(i:Int)<(N:Int):=by omega
          have bi':i<N:=by omega
          by_cases hse:i=j
          · subst hse
            have hxy:x=y:=by
             have h2:(x:Int)=(y:Int):=by (have:=c1'.symm.trans c2';simpa using this)
             omega
            subst hxy;clear c2' z2
            go_region
            all_goals
             go_wp2_with fail
             go_meet
             case rel=>exact ⟨rfl,HF.out _ (by first | exact .inl rfl | exact .inr rfl)⟩
          · have hse':j≠i:=fun e=>hse e.symm
            go_region
            all_goals
             go_wp2_with fail
             go_meet
             case rel=>exact ⟨rfl,HF.out _ (by first | exact .inl rfl | exact .inr rfl)⟩
         clear HA;obtain ⟨rfl,HA⟩:=hcut;obtain ⟨W8,hW⟩:∃ W,W=wc:=⟨_,rfl⟩;subst hW;obtain ⟨i1,hi1⟩:∃ x,x=i+1:=⟨_,rfl⟩;obtain ⟨j1,hj1⟩:∃ x,x=j-1:=⟨_,rfl⟩;have wi1:IntKind.i64.wrap ((i:Int)+1)=(i1:Int):=wrapZ (by omega) (by omega)
         have wj1:IntKind.i64.wrap ((j:Int)-1)=(j1:Int):=wrapZ (by omega) (by omega)
         have hne9:i≠j:=by
          obtain ⟨_,_,_,_,_,M0,q1,q2,q3⟩:=HA.out;intro e;have e1:=q1.2.2.1 hgt;have e2:=q1.2.2.2 hgt;rw [e] at e1;omega
         replace HA:Aside (Sx15 n g N w W8 (fun M=>Pm a b L M∧Pt K a b i1 j1 p0 M)):=(HA.out.imp (fun M _ q=>by
          obtain ⟨M0,q1,q2,rfl⟩:=q;have:=q1.2.1.ai;have:=q1.2.1.jb;rw [hi1,hj1];exact ⟨q1.1.trans (Pm.swap (by omega) (by omega) (by omega) (by omega) (by omega)),q1.2.1.swap (by omega) hgt (q1.2.2.1 hgt) (q1.2.2.2 hgt)⟩):Sx15 n g N w W8 _)
         have d1:a<i1:=by omega
         have d2:i1≤j1+1:=by omega
         have d3:j1<b:=by omega
         have d4:j1+1-i1<j+1-i:=by omega
         have HE:=qsd (ai hi1 hj1);clear hi1 hj1;clear d4;go_wp2
         go_loopg [12,13] (j1+1-i1) (fun gk iv jv wr=>∃ i j:Nat,gk=j+1-i∧a<i∧i≤j+1∧j<b∧iv=.int .i64 (i:Nat)∧jv=.int .i64 (j:Nat)∧Aside (Sx15 n g N w wr (fun M=>Pm a b L M∧Pt K a b i j p0 M)))
         case atStart=>exact ⟨i1,j1,rfl,d1,d2,d3,by first | rfl | simp,by first | rfl | simp,HA.out⟩
         case round =>
          clear HA d1 d2 d3;obtain ⟨ui,vj,hgk9,d1,d2,d3,rfl,rfl,HA⟩:=hrel;go_wp2
          go_loopg [12] (vj+1-ui) (fun gk iv wr=>∃ i:Nat,gk=vj+1-i∧a<i∧ui≤i∧i≤vj+1∧iv=.int .i64 (i:Nat)∧Aside (Sx15 n g N w wr (fun M=>Pm a b L M∧Pt K a b i vj p0 M)))
          case atStart=>exact ⟨ui,rfl,by omega,by omega,by omega,by first | rfl | simp,HA.out⟩
          case round =>
           clear HA;obtain ⟨k,hgk,hai,hii,hij,rfl,HA⟩:=hrel;obtain ⟨k',hi'⟩:∃ x,x=k+1:=⟨_,rfl⟩;have wi:IntKind.i64.wrap ((k:Int)+1)=(k':Int):=wrapZ (by omega) (by omega)
           replace hi':=qsd hi'
           go_upto_region 13 with fail
           go_cut [120] from 105 to 119 (fun v wx=>∃ t:Bool,v=.bool t∧Aside (Sx15 n g N w wx (fun M=>(fun M=>Pm a b L M∧Pt K a b k vj p0 M) M∧(t=true↔(k≤vj∧ky K M k<ky K M a)))))
           case first =>
            by_cases hgd:k≤vj
            · have hgdec:decide ((k:Int)≤(vj:Int))=true:=by simp;omega
              obtain ⟨x,y,z,c1',c2',C0,HF0⟩:=HA.out.cmpd HC.out k a (by omega) (by omega)
              have C:=hid C0;have HF:=qsd HF0;have kS:=qsd (ai c1' c2');clear HA C0 HF0 c1' c2';have bi:(k:Int)<(N:Int):=by omega
              have bi':k<N:=by omega
              go_region_held3 (fun w'=>w'.cell? ⟨g,k,none⟩=some (.int .i64 (x:Nat))∧w'.cell? ⟨g,a,none⟩=some (.int .i64 (y:Nat))) (with_reducible exact kS.out) (first
               | (go_at_call 49
                  with_reducible refine C.out.mono ?_
                  rintro r v ⟨rfl,hb⟩;have G:=qsd (HF.out v hb);have kS:Aside (v.cell? ⟨g,k,none⟩=some (.int .i64 (x:Nat))∧v.cell? ⟨g,a,none⟩=some (.int .i64 (y:Nat))):=⟨(hb.cell (p:=⟨g,k,none⟩) (lt_of_cell15 kS.out.1)).trans kS.out.1,(hb.cell (p:=⟨g,a,none⟩) (lt_of_cell15 kS.out.2)).trans kS.out.2⟩;clear hb))
              all_goals
               go_wp2_with fail
               go_meet
               case rel=>exact ⟨decide (z<0),rfl,G.out.imp (fun M _ q=>⟨q.1,and_iff15 hgd (q.2)⟩)⟩
            · have hgdec:decide ((k:Int)≤(vj:Int))=false:=by simp;omega
              have HD:=qsd (HA.out.drew);clear HA
              go_region
              all_goals
               go_wp2_with fail
               go_meet
               case rel=>exact ⟨false,rfl,HD.out.imp (fun M _ q=>⟨q,and_no15 hgd⟩)⟩
           clear HA;obtain ⟨t,rfl,HA⟩:=hcut;obtain ⟨WC,hW⟩:∃ W,W=wc:=⟨_,rfl⟩;subst hW
           cases t
           · replace HA:Aside (Sx15 n g N w WC (fun M=>Pm a b L M∧Pt K a b k vj p0 M∧(k≤vj→ky K M a≤ky K M k))):=(HA.out.imp (fun M _ q=>⟨q.1.1,q.1.2,fun e=>Nat.le_of_not_lt (fun h=>absurd (q.2.2 ⟨e,h⟩) (by decide))⟩):Sx15 n g N w WC _)
             clear wi hi';go_wp2
             go_loopg [13] (vj+1-k) (fun gk jv wr=>∃ j:Nat,gk=j+1-k∧j≤vj∧k≤j+1∧jv=.int .i64 (j:Nat)∧Aside (Sx15 n g N w wr (fun M=>Pm a b L M∧Pt K a b k j p0 M∧(k≤j→ky K M a≤ky K M k))))
             case atStart=>exact ⟨vj,rfl,by omega,by omega,by first | rfl | simp,HA.out⟩
             case round =>
              clear HA;obtain ⟨l,hgk,hjj,hij,rfl,HA⟩:=hrel;have bj:(l:Int)<(N:Int):=by omega
              have bj':l<N:=by omega
              go_upto_region 15 with fail
              go_cut [139] from 123 to 138 (fun v wx=>∃ t:Bool,v=.bool t∧Aside (Sx15 n g N w wx (fun M=>(fun M=>Pm a b L M∧Pt K a b k l p0 M∧(k≤l→ky K M a≤ky K M k)) M∧(t=true↔(k≤l∧¬ ky K M l<ky K M a)))))
              case first =>
               by_cases hgd:k≤l
               · have hgdec:decide ((k:Int)≤(l:Int))=true:=by simp;omega
                 obtain ⟨x,y,z,c1',c2',C0,HF0⟩:=HA.out.cmpd HC.out l a (by omega) (by omega)
                 have C:=hid C0;have HF:=qsd HF0;have kS:=qsd (ai c1' c2');clear HA C0 HF0 c1' c2'
                 go_region_held3 (fun w'=>w'.cell? ⟨g,l,none⟩=some (.int .i64 (x:Nat))∧w'.cell? ⟨g,a,none⟩=some (.int .i64 (y:Nat))) (with_reducible exact kS.out) (first
                  | (go_at_call 49
                     with_reducible refine C.out.mono ?_
                     rintro r v ⟨rfl,hb⟩;have G:=qsd (HF.out v hb);have kS:Aside (v.cell? ⟨g,l,none⟩=some (.int .i64 (x:Nat))∧v.cell? ⟨g,a,none⟩=some (.int .i64 (y:Nat))):=⟨(hb.cell (p:=⟨g,l,none⟩) (lt_of_cell15 kS.out.1)).trans kS.out.1,(hb.cell (p:=⟨g,a,none⟩) (lt_of_cell15 kS.out.2)).trans kS.out.2⟩;clear hb))
                 all_goals
                  go_wp2_with fail
                  go_meet
                  case rel=>exact ⟨!decide (z<0),rfl,G.out.imp (fun M _ q=>⟨q.1,and_iff15 hgd (not_iff15 q.2)⟩)⟩
               · have hgdec:decide ((k:Int)≤(l:Int))=false:=by simp;omega
                 have HD:=qsd (HA.out.drew);clear HA
                 go_region
                 all_goals
                  go_wp2_with fail
                  go_meet
                  case rel=>exact ⟨false,rfl,HD.out.imp (fun M _ q=>⟨q,and_no15 hgd⟩)⟩
              clear HA;obtain ⟨t,rfl,HA⟩:=hcut;obtain ⟨WC,hW⟩:∃ W,W=wc:=⟨_,rfl⟩;subst hW
              cases t
              · replace HA:Aside (Sx15 n g N w WC (fun M=>Pm a b L M∧Pt K a b k l p0 M∧(k≤l→ky K M a≤ky K M k)∧(k≤l→ky K M l<ky K M a))):=(HA.out.imp (fun M _ q=>⟨q.1.1,q.1.2.1,q.1.2.2,fun e=>Nat.lt_of_not_le (fun h=>absurd (q.2.2 ⟨e,Nat.not_lt.2 h⟩) (by decide))⟩):Sx15 n g N w WC _)
                by_cases hgt:k≤l
                · have hdg:decide ((l:Int)<(k:Int))=false:=by simp;omega
                  go_upto_region 18 with fail
                  go_cut [12] from 142 to 158 (fun v wx=>v=.int .i64 (k:Nat)∧Aside (Sx15 n g N w wx (fun M=>∃ M0,(fun M=>Pm a b L M∧Pt K a b k l p0 M∧(k≤l→ky K M a≤ky K M k)∧(k≤l→ky K M l<ky K M a)) M0∧M0.length=N∧M=sw M0 k l)))
                  case first =>
                   obtain ⟨x,y,c1',c2',z1,z2,HF0⟩:=HA.out.swap k l (by omega) (by omega)
                   have HF:=qsd HF0;clear HA HF0;have bi:(k:Int)<(N:Int):=by omega
                   have bi':k<N:=by omega
                   by_cases hse:k=l
                   · subst hse
                     have hxy:x=y:=by
                      have h2:(x:Int)=(y:Int):=by (have:=c1'.symm.trans c2';simpa using this)
                      omega
                     subst hxy;clear c2' z2
                     go_region
                     all_goals
                      go_wp2_with fail
                      go_meet
                      case rel=>exact ⟨rfl,HF.out _ (by first | exact .inl rfl | exact .inr rfl)⟩
                   · have hse':l≠k:=fun e=>hse e.symm
                     go_region
                     all_goals
                      go_wp2_with fail
                      go_meet
                      case rel=>exact ⟨rfl,HF.out _ (by first | exact .inl rfl | exact .inr rfl)⟩
                  clear HA;obtain ⟨rfl,HA⟩:=hcut;obtain ⟨W8,hW⟩:∃ W,W=wc:=⟨_,rfl⟩;subst hW;obtain ⟨i1,hi1⟩:∃ x,x=k+1:=⟨_,rfl⟩;obtain ⟨j1,hj1⟩:∃ x,x=l-1:=⟨_,rfl⟩;have wi1:IntKind.i64.wrap ((k:Int)+1)=(i1:Int):=wrapZ (by omega) (by omega)
                  have wj1:IntKind.i64.wrap ((l:Int)-1)=(j1:Int):=wrapZ (by omega) (by omega)
                  have hne9:k≠l:=by
                   obtain ⟨_,_,_,_,_,M0,q1,q2,q3⟩:=HA.out;intro e;have e1:=q1.2.2.1 hgt;have e2:=q1.2.2.2 hgt;rw [e] at e1;omega
                  replace HA:Aside (Sx15 n g N w W8 (fun M=>Pm a b L M∧Pt K a b i1 j1 p0 M)):=(HA.out.imp (fun M _ q=>by
                   obtain ⟨M0,q1,q2,rfl⟩:=q;have:=q1.2.1.ai;have:=q1.2.1.jb;rw [hi1,hj1];exact ⟨q1.1.trans (Pm.swap (by omega) (by omega) (by omega) (by omega) (by omega)),q1.2.1.swap (by omega) hgt (q1.2.2.1 hgt) (q1.2.2.2 hgt)⟩):Sx15 n g N w W8 _)
                  have d1:a<i1:=by omega
                  have d2:i1≤j1+1:=by omega
                  have d3:j1<b:=by omega
                  have d4:j1+1-i1<l+1-k:=by omega
                  have HE:=qsd (ai hi1 hj1);clear hi1 hj1;go_wp2
                  go_roundg (j1+1-i1)
                  case measure=>omega
                  case rel=>exact ⟨i1,j1,rfl,d1,d2,d3,by first | rfl | simp,by first | rfl | simp,HA.out⟩
                · replace hgt:l<k:=by omega
                  have hdg:decide ((l:Int)<(k:Int))=true:=by simp;omega
                  go_upto_region 21 with fail
                  go_cut [13] from 142 to 176 (fun v wx=>v=.int .i64 (l:Nat)∧Aside (Sx15 n g N w wx (fun M=>∃ M0,(fun M=>Pm a b L M∧Pt K a b k l p0 M∧(k≤l→ky K M a≤ky K M k)∧(k≤l→ky K M l<ky K M a)) M0∧M0.length=N∧M=sw M0 l a)))
                  case first =>
                   obtain ⟨x,y,c1',c2',z1,z2,HF0⟩:=HA.out.swap l a (by omega) (by omega)
                   have HF:=qsd HF0;clear HA HF0
                   by_cases hse:l=a
                   · subst hse
                     have hxy:x=y:=by
                      have h2:(x:Int)=(y:Int):=by (have:=c1'.symm.trans c2';simpa using this)
                      omega
                     subst hxy;clear c2' z2
                     go_region
                     all_goals
                      go_wp2_with fail
                      go_meet
                      case rel=>exact ⟨rfl,HF.out _ (by first | exact .inl rfl | exact .inr rfl)⟩
                   · have hse':a≠l:=fun e=>hse e.symm
                     go_region
                     all_goals
                      go_wp2_with fail
                      go_meet
                      case rel=>exact ⟨rfl,HF.out _ (by first | exact .inl rfl | exact .inr rfl)⟩
                  clear HA;obtain ⟨rfl,HA⟩:=hcut;obtain ⟨W9,hW⟩:∃ W,W=wc:=⟨_,rfl⟩;subst hW
                  have HR:Aside (Sx15 n g N w W9 (fun M=>Pm a b L M∧Prt K a b l M)):=(HA.out.imp (fun M _ q=>by
                   obtain ⟨M0,q1,q2,rfl⟩:=q;have:=q1.2.1.ai;have:=q1.2.1.jb;have:=q1.2.1.ij;exact ⟨q1.1.trans (Pm.swap (by omega) (by omega) (by omega) (by omega) (by omega)),q1.2.1.done (by omega) hgt⟩):Sx15 n g N w W9 _)
                  have hm:Aside (a≤l∧l<b):=⟨by omega,by omega⟩
                  clear HA;go_wp2;refine bodyPost_ret (v:=.tuple #[.int .i64 (l:Nat),.bool false]) (by simp [results,Tryz.results94,go_sem]) rfl ?_
                  exact ⟨l,false,rfl,hm.out.1,hm.out.2,HR.out⟩
              · have hlt:k≤l:=by
                 obtain ⟨_,_,_,_,_,q⟩:=HA.out;exact (q.2.1 rfl).1
                obtain ⟨l',hj'⟩:∃ x,x=l-1:=⟨_,rfl⟩;have wj:IntKind.i64.wrap ((l:Int)-1)=(l':Int):=wrapZ (by omega) (by omega)
                replace hj':=qsd hj';replace HA:Aside (Sx15 n g N w WC (fun M=>Pm a b L M∧Pt K a b k l' p0 M∧(k≤l'→ky K M a≤ky K M k))):=(HA.out.imp (fun M _ q=>⟨q.1.1,by rw [hj'.out];exact q.1.2.1.left (q.2.1 rfl).1 (Nat.le_of_not_lt (q.2.1 rfl).2),fun e=>q.1.2.2 (by have:=hj'.out;omega)⟩):Sx15 n g N w WC _)
                go_wp2
                go_roundg (l'+1-k)
                case measure=>have:=hj'.out;omega
                case rel=>exact ⟨l',rfl,by have:=hj'.out;omega,by have:=hj'.out;omega,by first | rfl | simp,HA.out⟩
           · have hlt:k≤vj:=by
              obtain ⟨_,_,_,_,_,q⟩:=HA.out;exact (q.2.1 rfl).1
             replace HA:Aside (Sx15 n g N w WC (fun M=>Pm a b L M∧Pt K a b k' vj p0 M)):=(HA.out.imp (fun M _ q=>⟨q.1.1,by rw [hi'.out];exact q.1.2.right (q.2.1 rfl).1 (q.2.1 rfl).2⟩):Sx15 n g N w WC _)
             go_wp2
             go_roundg (vj+1-k')
             case measure=>have:=hi'.out;omega
             case rel=>exact ⟨k',rfl,by have:=hi'.out;omega,by have:=hi'.out;omega,by have:=hi'.out;omega,by first | rfl | simp,HA.out⟩
       · replace hgt:j<i:=by omega
         have hdg:decide ((j:Int)<(i:Int))=true:=by simp;omega
         go_upto_region 8 with fail
         go_cut [13] from 69 to 85 (fun v wx=>v=.int .i64 (j:Nat)∧Aside (Sx15 n g N w wx (fun M=>∃ M0,(fun M=>Pm a b L M∧Pt K a b i j p0 M∧(i≤j→ky K M a≤ky K M i)∧(i≤j→ky K M j<ky K M a)) M0∧M0.length=N∧M=sw M0 j a)))
         case first =>
          obtain ⟨x,y,c1',c2',z1,z2,HF0⟩:=HA.out.swap j a (by omega) (by omega)
          have HF:=qsd HF0;clear HA HF0
          by_cases hse:j=a
          · subst hse
            have hxy:x=y:=by
             have h2:(x:Int)=(y:Int):=by (have:=c1'.symm.trans c2';simpa using this)
             omega
            subst hxy;clear c2' z2
            go_region
            all_goals
             go_wp2_with fail
             go_meet
             case rel=>exact ⟨rfl,HF.out _ (by first | exact .inl rfl | exact .inr rfl)⟩
          · have hse':a≠j:=fun e=>hse e.symm
            go_region
            all_goals
             go_wp2_with fail
             go_meet
             case rel=>exact ⟨rfl,HF.out _ (by first | exact .inl rfl | exact .inr rfl)⟩
         clear HA;obtain ⟨rfl,HA⟩:=hcut;obtain ⟨W9,hW⟩:∃ W,W=wc:=⟨_,rfl⟩;subst hW
         have HR:Aside (Sx15 n g N w W9 (fun M=>Pm a b L M∧Prt K a b j M)):=(HA.out.imp (fun M _ q=>by
          obtain ⟨M0,q1,q2,rfl⟩:=q;have:=q1.2.1.ai;have:=q1.2.1.jb;have:=q1.2.1.ij;exact ⟨q1.1.trans (Pm.swap (by omega) (by omega) (by omega) (by omega) (by omega)),q1.2.1.done (by omega) hgt⟩):Sx15 n g N w W9 _)
         have hm:Aside (a≤j∧j<b):=⟨by omega,by omega⟩
         clear HA;go_wp2;refine bodyPost_ret (v:=.tuple #[.int .i64 (j:Nat),.bool true]) (by simp [results,Tryz.results94,go_sem]) rfl ?_
         exact ⟨j,true,rfl,hm.out.1,hm.out.2,HR.out⟩
     · have hlt:i≤j:=by
        obtain ⟨_,_,_,_,_,q⟩:=HA.out;exact (q.2.1 rfl).1
       obtain ⟨j',hj'⟩:∃ x,x=j-1:=⟨_,rfl⟩;have wj:IntKind.i64.wrap ((j:Int)-1)=(j':Int):=wrapZ (by omega) (by omega)
       replace hj':=qsd hj';replace HA:Aside (Sx15 n g N w WC (fun M=>Pm a b L M∧Pt K a b i j' p0 M∧(i≤j'→ky K M a≤ky K M i))):=(HA.out.imp (fun M _ q=>⟨q.1.1,by rw [hj'.out];exact q.1.2.1.left (q.2.1 rfl).1 (Nat.le_of_not_lt (q.2.1 rfl).2),fun e=>q.1.2.2 (by have:=hj'.out;omega)⟩):Sx15 n g N w WC _)
       go_wp2
       go_roundg (j'+1-i)
       case measure=>have:=hj'.out;omega
       case rel=>exact ⟨j',rfl,by have:=hj'.out;omega,by have:=hj'.out;omega,by first | rfl | simp,HA.out⟩
  · have hlt:i≤j0:=by
     obtain ⟨_,_,_,_,_,q⟩:=HA.out;exact (q.2.1 rfl).1
    replace HA:Aside (Sx15 n g N w WC (fun M=>Pm a b L M∧Pt K a b i' j0 p0 M)):=(HA.out.imp (fun M _ q=>⟨q.1.1,by rw [hi'.out];exact q.1.2.right (q.2.1 rfl).1 (q.2.1 rfl).2⟩):Sx15 n g N w WC _)
    go_wp2
    go_roundg (j0+1-i')
    case measure=>have:=hi'.out;omega
    case rel=>exact ⟨i',rfl,by have:=hi'.out;omega,by have:=hi'.out;omega,by have:=hi'.out;omega,by first | rfl | simp,HA.out⟩
end
section
open Go.RowKit J
theorem reverse15 (n g N a b cap:Nat) (L:List Nat) (recv:Value) (w:World) (hS:Sx15 n g N w w (fun M=>M=L)) (hab:a<b) (hb:b≤N) (hbig:N<1152921504606846976) :
 Calls Tryz.prog 91 #[.slice (some ⟨g,0,none⟩) N cap,.int .i64 (a:Nat),.int .i64 (b:Nat),.func (.func 49) #[recv] #[]] w fun r w'=>r=.returned (.tuple #[])∧Sx15 n g N w w' (fun M=>Pm a b L M):=by
 obtain ⟨j0,hj0⟩:∃ x,x=b-1:=⟨_,rfl⟩;have HA:Aside (Sx15 n g N w w (fun M=>Pm a b L M)):=(hS.imp (fun M _ e=>by subst e;exact Pm.refl _ _ _):Sx15 n g N w w _)
 have w2:IntKind.i64.wrap ((b:Int)-1)=(j0:Int):=wrapZ (by omega) (by omega)
 have c1:a≤j0+1:=by omega
 have c3:j0<b:=by omega
 have HQ:=qsd hj0;clear hj0 hS;go_enter Tryz.func91,Tryz.ntmps91;go_wp2
 go_loopg [8,9] (j0+1-a) (fun gk iv jv wr=>∃ i j:Nat,gk=j+1-i∧a≤i∧i≤j+1∧j<b∧iv=.int .i64 (i:Nat)∧jv=.int .i64 (j:Nat)∧Aside (Sx15 n g N w wr (fun M=>Pm a b L M)))
 case atStart=>exact ⟨a,j0,rfl,Nat.le_refl _,c1,c3,by first | rfl | simp,by first | rfl | simp,HA.out⟩
 case round =>
  clear HA;obtain ⟨i,j,hgk,d1,d2,d3,rfl,rfl,HA⟩:=hrel
  by_cases hij:i<j
  · have hd:decide ((i:Int)<(j:Int))=true:=by simp;omega
    obtain ⟨i1,hi1⟩:∃ x,x=i+1:=⟨_,rfl⟩;obtain ⟨j1,hj1⟩:∃ x,x=j-1:=⟨_,rfl⟩;have wi1:IntKind.i64.wrap ((i:Int)+1)=(i1:Int):=wrapZ (by omega) (by omega)
    have wj1:IntKind.i64.wrap ((j:Int)-1)=(j1:Int):=wrapZ (by omega) (by omega)
    have bi:(i:Int)<(N:Int):=by omega
    have bi':i<N:=by omega
    have bj:(j:Int)<(N:Int):=by omega
    have bj':j<N:=by omega
    have HE:=qsd (ai hi1 hj1);clear hi1 hj1
    go_upto_region 3 with fail
    go_cut [8] from 13 to 29 (fun v wx=>v=.int .i64 (i:Nat)∧Aside (Sx15 n g N w wx (fun M=>∃ M0,(fun M=>Pm a b L M) M0∧M0.length=N∧M=sw M0 i j)))
    case first =>
     obtain ⟨x,y,c1',c2',z1,z2,HF0⟩:=HA.out.swap i j (by omega) (by omega)
     have HF:=qsd HF0;clear HA HF0;have hse:i≠j:=by omega
     have hse':j≠i:=by omega
     go_region
     all_goals
      go_wp2_with fail
      go_meet
      case rel=>exact ⟨rfl,HF.out _ (by first | exact .inl rfl | exact .inr rfl)⟩
    clear HA;obtain ⟨rfl,HA⟩:=hcut;obtain ⟨W8,hW⟩:∃ W,W=wc:=⟨_,rfl⟩;subst hW
    replace HA:Aside (Sx15 n g N w W8 (fun M=>Pm a b L M)):=(HA.out.imp (fun M _ q=>by
     obtain ⟨M0,q1,q2,rfl⟩:=q;exact q1.trans (Pm.swap (by omega) (by omega) (by omega) (by omega) (by omega))):Sx15 n g N w W8 _)
    go_wp2
    go_roundg (j1+1-i1)
    case measure=>have:=HE.out;omega
    case rel=>exact ⟨i1,j1,rfl,by have:=HE.out;omega,by have:=HE.out;omega,by have:=HE.out;omega,by first | rfl | simp,by first | rfl | simp,HA.out⟩
  · have hd:decide ((i:Int)<(j:Int))=false:=by simp;omega
    go_wp2;refine bodyPost_end (v:=.tuple #[]) (by simp [results,Tryz.results91,go_sem]) rfl ?_
    exact ⟨rfl,HA.out⟩
def Sq15 (n g N q:Nat) (w wr:World) (L:List Nat):Prop:=Sx15 n g N w wr (fun M=>M=L)∧w.heap.size≤q∧∃ s:Int,wr.cell? ⟨q,0,none⟩=some (.int .i64 s)∧wr.frozen? ⟨q,0,none⟩=false
theorem Sq15.below {n g N q:Nat}{w wr v:World}{L:List Nat}(h:Sq15 n g N q w wr L) (hb:Below wr.heap.size wr v):Sq15 n g N q w v L:=by
 obtain ⟨h1,h2,s,h3,h4⟩:=h;refine ⟨h1.below hb,h2,s,(hb.cell (p:=⟨q,0,none⟩) (lt_of_cell15 h3)).trans h3,?_⟩;have:=hb.block q (lt_of_cell15 h3);unfold World.frozen? at h4 ⊢;simp only at h4 ⊢;rw [this];exact h4
theorem Sq15.set {n g N q:Nat}{w wr:World}{L:List Nat}(h:Sq15 n g N q w wr L) (s:Int) (hg:g<w.heap.size):Sq15 n g N q w (wr.setCell ⟨q,0,none⟩ (.int .i64 s)) L:=by
 obtain ⟨⟨M,o1,o2,o3,o4,o5⟩,h2,s0,h3,h4⟩:=h
 have hb:∀ k,k≠q→(wr.setCell ⟨q,0,none⟩ (.int .i64 s)).heap[k]?=wr.heap[k]?:=fun k hk=>by
  simp only [World.setCell,Array.getElem?_modify];rw [if_neg (fun e=>hk e.symm)]
 refine ⟨⟨M,by unfold OwnI;rw [hb g (by omega)];exact o1,o2,o3,⟨o4.os,o4.tape,o4.output,by simpa [World.setCell] using o4.size,fun k hk hkg=>by rw [hb k (by omega)];exact o4.block k hk hkg⟩,o5⟩,h2,s,?_,?_⟩
 · exact World.cell?_setCell_same _ _ _ h3
 · rw [World.frozen?_setCell];exact h4
theorem order2_15 (K:Nat→Nat) (n g N q a b cap:Nat) (L:List Nat) (recv:Value) (w0 w:World) (hS:Sq15 n g N q w0 w L) (hC:Cmp15 K n g recv w0) (hg:g<w0.heap.size) (ha:a<N) (hb:b<N) (hbig:N<1152921504606846976) :
 Calls Tryz.prog 148 #[.slice (some ⟨g,0,none⟩) N cap,.int .i64 (a:Nat),.int .i64 (b:Nat),.pointer (some ⟨q,0,none⟩),.func (.func 49) #[recv] #[]] w fun r w'=>∃ x y:Nat,r=.returned (.tuple #[.int .i64 (x:Nat),.int .i64 (y:Nat)])∧(x=a∧y=b∨x=b∧y=a)∧Sq15 n g N q w0 w' L:=by
 have b1:(a:Int)<(N:Int):=by omega
 have b2:(b:Int)<(N:Int):=by omega
 have HC:=qsd hC;have HA:=qsd hS;clear hS hC;go_enter Tryz.func148,Tryz.ntmps148
 go_upto_region 1 with fail
 go_cut [22] from 12 to 21 (fun v wx=>∃ t:Bool,v=.bool t∧Aside (Sq15 n g N q w0 wx L))
 case first =>
  obtain ⟨x,y,z,c1',c2',C0,_⟩:=HA.out.1.cmpd HC.out b a hb ha;have C:=hid C0;have HF:Aside (∀ v,Below w.drew.heap.size w.drew v→Sq15 n g N q w0 v L):=fun v hv=>(HA.out.below (Below.refl w.heap.size w).drew).below hv
  have kS:=qsd (ai c1' c2');clear HA C0 c1' c2'
  go_region_held3 (fun w'=>w'.cell? ⟨g,b,none⟩=some (.int .i64 (x:Nat))∧w'.cell? ⟨g,a,none⟩=some (.int .i64 (y:Nat))) (with_reducible exact kS.out) (first
   | (go_at_call 49
      with_reducible refine C.out.mono ?_
      rintro r v ⟨rfl,hb⟩;have G:=qsd (HF.out v hb);have kS:Aside (v.cell? ⟨g,b,none⟩=some (.int .i64 (x:Nat))∧v.cell? ⟨g,a,none⟩=some (.int .i64 (y:Nat))):=⟨(hb.cell (p:=⟨g,b,none⟩) (lt_of_cell15 kS.out.1)).trans kS.out.1,(hb.cell (p:=⟨g,a,none⟩) (lt_of_cell15 kS.out.2)).trans kS.out.2⟩;clear hb))
  all_goals
   go_wp2_with fail
   go_meet
   case rel=>exact ⟨decide (z<0),rfl,G.out⟩
 clear HA;obtain ⟨t,rfl,HA⟩:=hcut;obtain ⟨W1,hW⟩:∃ W,W=wc:=⟨_,rfl⟩;subst hW
 cases t
 · go_wp2
   refine bodyPost_ret (v:=.tuple #[.int .i64 (a:Nat),.int .i64 (b:Nat)]) (by simp [results,Tryz.results148,go_sem]) rfl ?_
   exact ⟨a,b,rfl,.inl ⟨rfl,rfl⟩,HA.out⟩
 · obtain ⟨_,_,s,h3,h4⟩:=HA.out
   obtain ⟨s1,hs1⟩:∃ s1,s1=IntKind.i64.wrap (s+1):=⟨_,rfl⟩;have hs2:=hs1.symm;have HF:=qsd (HA.out.set s1 hg);clear HA hs1;go_wp2;refine bodyPost_ret (v:=.tuple #[.int .i64 (b:Nat),.int .i64 (a:Nat)]) (by simp [results,Tryz.results148,go_sem]) rfl ?_
   exact ⟨b,a,rfl,.inr ⟨rfl,rfl⟩,HF.out⟩
theorem median15 (K:Nat→Nat) (n g N q a b c cap:Nat) (L:List Nat) (recv:Value) (w0 w:World) (hS:Sq15 n g N q w0 w L) (hC:Cmp15 K n g recv w0) (hg:g<w0.heap.size) (ha:a<N) (hb:b<N) (hc:c<N) (hbig:N<1152921504606846976) :
 Calls Tryz.prog 126 #[.slice (some ⟨g,0,none⟩) N cap,.int .i64 (a:Nat),.int .i64 (b:Nat),.int .i64 (c:Nat),.pointer (some ⟨q,0,none⟩),.func (.func 49) #[recv] #[]] w fun r w'=>∃ x:Nat,r=.returned (.int .i64 (x:Nat))∧(x=a∨x=b∨x=c)∧Sq15 n g N q w0 w' L:=by
 have HC:=qsd hC;have C:=hid (order2_15 K n g N q a b cap L recv w0 w hS hC hg ha hb hbig);clear hS hC;go_enter Tryz.func126,Tryz.ntmps126
 go_wp2_with fail
 refine C.out.mono ?_;rintro r v1 ⟨x,y,rfl,hxy,h1⟩;have X:Aside ((x=a∨x=b)∧(y=a∨y=b)):=⟨by omega,by omega⟩
 have hx:x<N:=by omega
 have hy:y<N:=by omega
 have C2:=hid (order2_15 K n g N q y c cap L recv w0 v1 h1 HC.out hg hy hc hbig);clear C h1 hxy
 go_wp2_with fail
 refine C2.out.mono ?_;rintro r v2 ⟨x2,y2,rfl,hxy,h1⟩;have X2:Aside (x2=a∨x2=b∨x2=c):=qsd (by have:=X.out;omega)
 have hx2:x2<N:=by omega
 have C3:=hid (order2_15 K n g N q x x2 cap L recv w0 v2 h1 HC.out hg hx hx2 hbig);clear C2 h1 hxy
 go_wp2_with fail
 refine C3.out.mono ?_;rintro r v3 ⟨x3,y3,rfl,hxy,h1⟩;have X3:Aside (y3=a∨y3=b∨y3=c):=qsd (by have:=X.out;have:=X2.out;omega)
 have HR:=qsd h1;clear C3 h1 hxy;go_wp2;refine bodyPost_ret (v:=.int .i64 (y3:Nat)) (by simp [results,Tryz.results126,go_sem]) rfl ?_
 exact ⟨y3,rfl,X3.out,HR.out⟩
theorem adj15 (K:Nat→Nat) (n g N q a cap:Nat) (L:List Nat) (recv:Value) (w0 w:World) (hS:Sq15 n g N q w0 w L) (hC:Cmp15 K n g recv w0) (hg:g<w0.heap.size) (ha:0<a) (hb:a+1<N) (hbig:N<1152921504606846976) :
 Calls Tryz.prog 125 #[.slice (some ⟨g,0,none⟩) N cap,.int .i64 (a:Nat),.pointer (some ⟨q,0,none⟩),.func (.func 49) #[recv] #[]] w fun r w'=>∃ x:Nat,r=.returned (.int .i64 (x:Nat))∧a≤x+1∧x≤a+1∧Sq15 n g N q w0 w' L:=by
 obtain ⟨a1,h1⟩:∃ x,x=a-1:=⟨_,rfl⟩;obtain ⟨a2,h2⟩:∃ x,x=a+1:=⟨_,rfl⟩;have w1:IntKind.i64.wrap ((a:Int)-1)=(a1:Int):=wrapZ (by omega) (by omega)
 have w2:IntKind.i64.wrap ((a:Int)+1)=(a2:Int):=wrapZ (by omega) (by omega)
 have C:=hid (median15 K n g N q a1 a a2 cap L recv w0 w hS hC hg (by omega) (by omega) (by omega) hbig)
 have HQ:=qsd (ai h1 h2);clear hS hC h1 h2;go_enter Tryz.func125,Tryz.ntmps125
 go_wp2_with fail
 refine C.out.mono ?_;rintro r v1 ⟨x,rfl,hx,h1⟩;have X:Aside (a≤x+1∧x≤a+1):=qsd (by have:=HQ.out;omega)
 have HR:=qsd h1;clear C h1 hx;go_wp2;refine bodyPost_ret (v:=.int .i64 (x:Nat)) (by simp [results,Tryz.results125,go_sem]) rfl ?_
 exact ⟨x,rfl,X.out.1,X.out.2,HR.out⟩
end
section
open Go.RowKit J
theorem Sq15.new {n g N:Nat}{w:World}{L:List Nat}(h:Sx15 n g N w w (fun M=>M=L)):Sq15 n g N w.heap.size w (w.alloc (Obj.cells #[Value.int IntKind.i64 0] 3)) L:=by
 refine ⟨h.below ((Below.refl w.heap.size w).alloc (Nat.le_refl _) _),Nat.le_refl _,0,?_,?_⟩
 · rw [World.cell?_alloc_new];rfl
 · exact World.frozen?_alloc_new _ _ _ _
theorem choose15 (K:Nat→Nat) (n g N a b cap:Nat) (L:List Nat) (recv:Value) (w:World) (hS:Sx15 n g N w w (fun M=>M=L)) (hC:Cmp15 K n g recv w) (hab:a+8≤b) (hb:b≤N) (hbig:N<1152921504606846976) :
 Calls Tryz.prog 90 #[.slice (some ⟨g,0,none⟩) N cap,.int .i64 (a:Nat),.int .i64 (b:Nat),.func (.func 49) #[recv] #[]] w fun r w'=>∃ p h:Nat,r=.returned (.tuple #[.int .i64 (p:Nat),.int .i64 (h:Nat)])∧a≤p∧p<b∧(h=0∨h=1∨h=2)∧Sx15 n g N w w' (fun M=>M=L):=by
 obtain ⟨l,hl⟩:∃ x,x=b-a:=⟨_,rfl⟩;obtain ⟨q,hq⟩:∃ x,x=l/4:=⟨_,rfl⟩;obtain ⟨q2,hq2⟩:∃ x,x=q*2:=⟨_,rfl⟩;obtain ⟨q3,hq3⟩:∃ x,x=q*3:=⟨_,rfl⟩;obtain ⟨i,hi⟩:∃ x,x=a+q:=⟨_,rfl⟩;obtain ⟨j,hj⟩:∃ x,x=a+q2:=⟨_,rfl⟩;obtain ⟨k,hk⟩:∃ x,x=a+q3:=⟨_,rfl⟩;have w1:IntKind.i64.wrap ((b:Int)-(a:Int))=(l:Int):=wrapZ (by omega) (by omega)
 have w2:Int.tdiv (l:Int) 4=(q:Int):=by rw [hq];rfl
 have w3:IntKind.i64.wrap (q:Int)=(q:Int):=wrapZ rfl (by omega)
 have w4:IntKind.i64.wrap ((q:Int)*1)=(q:Int):=wrapZ (by omega) (by omega)
 have w5:IntKind.i64.wrap ((q:Int)*2)=(q2:Int):=wrapZ (by omega) (by omega)
 have w6:IntKind.i64.wrap ((q:Int)*3)=(q3:Int):=wrapZ (by omega) (by omega)
 have w7:IntKind.i64.wrap ((a:Int)+(q:Int))=(i:Int):=wrapZ (by omega) (by omega)
 have w8:IntKind.i64.wrap ((a:Int)+(q2:Int))=(j:Int):=wrapZ (by omega) (by omega)
 have w9:IntKind.i64.wrap ((a:Int)+(q3:Int))=(k:Int):=wrapZ (by omega) (by omega)
 have d1:decide ((8:Int)≤(l:Int))=true:=by simp;omega
 have HC:=qsd hC;have HA:=qsd hS;have HQ:=(qsd (ai hl (ai hq (ai hq2 (ai hq3 (ai hi (ai hj hk)))))));have hl8:8≤l:=by omega
 clear hl hq hq2 hq3 hi hj hk hS hC;go_enter Tryz.func90,Tryz.ntmps90
 go_upto_region 7 with fail
 have hgw:g<w.heap.size:=HA.out.lt;replace HA:=qsd (Sq15.new HA.out);obtain ⟨W1,hW1⟩:∃ W,W=w.alloc (Obj.cells #[Value.int IntKind.i64 0] 3):=⟨_,rfl⟩;rw [←hW1] at HA ⊢;clear hW1;obtain ⟨G,hG⟩:∃ G,G=w.heap.size:=⟨_,rfl⟩;rw [←hG] at HA ⊢;clear hG
 by_cases h50:50≤l
 · have d2:decide ((50:Int)≤(l:Int))=true:=by simp;omega
   have C:=hid (adj15 K n g N G i cap L recv w W1 HA.out HC.out hgw (by have:=HQ.out;omega) (by have:=HQ.out;omega) hbig)
   clear HA
   go_wp2_with fail
   refine C.out.mono ?_;rintro r v1 ⟨i',rfl,e1,e2,h1⟩;have C2:=hid (adj15 K n g N G j cap L recv w v1 h1 HC.out hgw (by have:=HQ.out;omega) (by have:=HQ.out;omega) hbig)
   have E1:=qsd (ai e1 e2);clear C h1 e1 e2
   go_wp2_with fail
   refine C2.out.mono ?_;rintro r v2 ⟨j',rfl,e3,e4,h1⟩;have C3:=hid (adj15 K n g N G k cap L recv w v2 h1 HC.out hgw (by have:=HQ.out;omega) (by have:=HQ.out;omega) hbig)
   have E2:=qsd (ai e3 e4);clear C2 h1 e3 e4
   go_wp2_with fail
   refine C3.out.mono ?_;rintro r v3 ⟨k',rfl,e5,e6,h1⟩;have r1:Aside (a≤i'∧i'<b∧a≤j'∧j'<b∧a≤k'∧k'<b):=qsd (by have:=HQ.out;have:=E1.out;have:=E2.out;omega)
   have HA:=qsd h1;clear C3 h1 e5 e6;have C9:=hid (median15 K n g N G i' j' k' cap L recv w v3 HA.out HC.out hgw (by have:=r1.out;omega) (by have:=r1.out;omega) (by have:=r1.out;omega) hbig)
   clear HA
   go_wp2_with fail
   refine C9.out.mono ?_;rintro r v9 ⟨x,rfl,hx,h1⟩;have X:Aside (a≤x∧x<b):=qsd (by have:=r1.out;omega)
   have HR:=qsd h1.1;obtain ⟨_,_,s,c1,_⟩:=h1;clear C9 hx
   by_cases s0:s=0
   · subst s0
     go_wp2;refine bodyPost_ret (v:=.tuple #[.int .i64 (x:Nat),.int .i64 (1:Nat)]) (by simp [results,Tryz.results90,go_sem]) rfl ?_
     exact ⟨x,1,rfl,X.out.1,X.out.2,.inr (.inl rfl),HR.out⟩
   · have s1:(s==0)=false:=by simp [s0]
     have s1':decide (s=0)=false:=by simp [s0]
     by_cases s2:s=12
     · subst s2
       go_wp2;refine bodyPost_ret (v:=.tuple #[.int .i64 (x:Nat),.int .i64 (2:Nat)]) (by simp [results,Tryz.results90,go_sem]) rfl ?_
       exact ⟨x,2,rfl,X.out.1,X.out.2,.inr (.inr rfl),HR.out⟩
     · have s3:(s==12)=false:=by simp [s2]
       have s3':decide (s=12)=false:=by simp [s2]
       go_wp2;refine bodyPost_ret (v:=.tuple #[.int .i64 (x:Nat),.int .i64 (0:Nat)]) (by simp [results,Tryz.results90,go_sem]) rfl ?_
       exact ⟨x,0,rfl,X.out.1,X.out.2,.inl rfl,HR.out⟩
 · have d2:decide ((50:Int)≤(l:Int))=false:=by simp;omega
   have r1:Aside (a≤i∧i<b∧a≤j∧j<b∧a≤k∧k<b):=qsd (by have:=HQ.out;omega)
   have C9:=hid (median15 K n g N G i j k cap L recv w W1 HA.out HC.out hgw (by have:=r1.out;omega) (by have:=r1.out;omega) (by have:=r1.out;omega) hbig)
   clear HA
   go_wp2_with fail
   refine C9.out.mono ?_;rintro r v9 ⟨x,rfl,hx,h1⟩;have X:Aside (a≤x∧x<b):=qsd (by have:=r1.out;omega)
   have HR:=qsd h1.1;obtain ⟨_,_,s,c1,_⟩:=h1;clear C9 hx
   by_cases s0:s=0
   · subst s0
     go_wp2;refine bodyPost_ret (v:=.tuple #[.int .i64 (x:Nat),.int .i64 (1:Nat)]) (by simp [results,Tryz.results90,go_sem]) rfl ?_
     exact ⟨x,1,rfl,X.out.1,X.out.2,.inr (.inl rfl),HR.out⟩
   · have s1:(s==0)=false:=by simp [s0]
     have s1':decide (s=0)=false:=by simp [s0]
     by_cases s2:s=12
     · subst s2
       go_wp2;refine bodyPost_ret (v:=.tuple #[.int .i64 (x:Nat),.int .i64 (2:Nat)]) (by simp [results,Tryz.results90,go_sem]) rfl ?_
       exact ⟨x,2,rfl,X.out.1,X.out.2,.inr (.inr rfl),HR.out⟩
     · have s3:(s==12)=false:=by simp [s2]
       have s3':decide (s=12)=false:=by simp [s2]
       go_wp2;refine bodyPost_ret (v:=.tuple #[.int .i64 (x:Nat),.int .i64 (0:Nat)]) (by simp [results,Tryz.results90,go_sem]) rfl ?_
       exact ⟨x,0,rfl,X.out.1,X.out.2,.inl rfl,HR.out⟩
end
section
theorem ky_ne15 {K:Nat→Nat}{L0 L:List Nat}(hnd:L0.Nodup) (hK:∀ x ∈ L0,∀ y ∈ L0,K x=K y→x=y) (hP:L.Perm L0) (i j:Nat) (hi:i<L.length) (hj:j<L.length) (hne:i≠j):ky K L i≠ky K L j:=by
 have hn:L.Nodup:=hP.nodup_iff.2 hnd;intro h;unfold ky at h;have e1:L.getD i 0=L[i]:=by rw [List.getD_eq_getElem?_getD,List.getElem?_eq_getElem hi];rfl
 have e2:L.getD j 0=L[j]:=by rw [List.getD_eq_getElem?_getD,List.getElem?_eq_getElem hj];rfl
 rw [e1,e2] at h;have:=hK _ (hP.mem_iff.1 (List.getElem_mem hi)) _ (hP.mem_iff.1 (List.getElem_mem hj)) h
 rcases Nat.lt_or_gt_of_ne hne with q|q
 · exact (List.pairwise_iff_getElem.1 hn i j hi hj q) this
 · exact (List.pairwise_iff_getElem.1 hn j i hj hi q) this.symm
structure Pq (K:Nat→Nat) (a b c d:Nat) (L0 L:List Nat):Prop where
 ac:a≤c
 cd:c≤d
 db:d≤b
 pm:Pm a b L0 L
 fl:Fl K c d L
 go:∀ M,Pm c d L M→Up K c d M→Up K a b M
theorem Pq.start {K:Nat→Nat}{a b:Nat}{L:List Nat}(hab:a≤b) (hF:Fl K a b L):Pq K a b a b L L:=⟨Nat.le_refl _,hab,Nat.le_refl _,Pm.refl _ _ _,hF,fun _ _ h=>h⟩
theorem Pq.move {K:Nat→Nat}{a b c d:Nat}{L0 L M:List Nat}(h:Pq K a b c d L0 L) (hP:Pm c d L M):Pq K a b c d L0 M :=
 ⟨h.ac,h.cd,h.db,h.pm.trans (hP.mono h.ac h.db),h.fl.pm hP,fun X hX hU=>h.go X (hP.trans hX) hU⟩
theorem Pq.left {K:Nat→Nat}{a b c d m:Nat}{L0 L M:List Nat}(h:Pq K a b c d L0 L) (hR:Prt K c d m L) (hP:Pm c m L M) (hU:Up K c m M) (hn:∀ i j,i<d→j<d→i≠j→ky K M i≠ky K M j):Pq K a b (m+1) d L0 M:=by
 have h1:=hR.am;have h2:=hR.mb;have h3:=h.ac;have h4:=h.db;have hR':=hR.left hP;refine ⟨by omega,by omega,h4,h.pm.trans (hP.mono h3 (by omega)),hR'.fl hn,fun X hX hU2=>?_⟩
 exact h.go X ((hP.mono (Nat.le_refl _) (by omega)).trans (hX.mono (by omega) (Nat.le_refl _))) ((hR'.right hX).up (hU.out hX (.inl (by omega))) hU2)
theorem Pq.right {K:Nat→Nat}{a b c d m:Nat}{L0 L M:List Nat}(h:Pq K a b c d L0 L) (hR:Prt K c d m L) (hP:Pm (m+1) d L M) (hU:Up K (m+1) d M):Pq K a b c m L0 M:=by
 have h1:=hR.am;have h2:=hR.mb;have h3:=h.ac;have h4:=h.db;have hR':=hR.right hP;refine ⟨h3,h1,by omega,h.pm.trans (hP.mono (by omega) h4),(h.fl.pm (hP.mono (by omega) (Nat.le_refl _))).left (by omega),fun X hX hU2=>?_⟩
 exact h.go X ((hP.mono (by omega) (Nat.le_refl _)).trans (hX.mono (Nat.le_refl _) (by omega))) ((hR'.left hX).up hU2 (hU.out hX (.inr (by omega))))
theorem Pq.done {K:Nat→Nat}{a b c d:Nat}{L0 L M:List Nat}(h:Pq K a b c d L0 L) (hP:Pm c d L M) (hU:Up K c d M):Pm a b L0 M∧Up K a b M:=⟨(h.move hP).pm,h.go M hP hU⟩
theorem Up.snoc15 {K:Nat→Nat}{a i:Nat}{L:List Nat}(h:Up K a i L) (hi:a<i) (hle:ky K L (i-1)≤ky K L i):Up K a (i+1) L:=by
 intro x y h1 h2 h3
 by_cases q:y=i
 · rw [q]
   by_cases r:x=i-1
   · rw [r];exact hle
   · have:=h x (i-1) h1 (by omega) (by omega)
     omega
 · exact h x y h1 h2 (by omega)
theorem Ins.cut15 {K:Nat→Nat}{a i:Nat}{L:List Nat}(h:Up K a (i+1) L) (hl:i+1<L.length) (ha:a≤i):Ins K a i i (sw L (i+1) i):=by
 refine Ins.start (fun x y h1 h2 h3=>?_) ha
 rw [ky_sw (by omega) (by omega),ky_sw (by omega) (by omega),if_neg (by omega),if_neg (by omega),if_neg (by omega),if_neg (by omega)]
 exact h x y h1 h2 (by omega)
theorem Up.far15 {K:Nat→Nat}{a i p q:Nat}{L:List Nat}(h:Up K a i L) (hp:i≤p) (hq:i≤q) (hpl:p<L.length) (hql:q<L.length):Up K a i (sw L p q):=by
 intro x y h1 h2 h3;rw [ky_sw hpl hql,ky_sw hpl hql,if_neg (by omega),if_neg (by omega),if_neg (by omega),if_neg (by omega)]
 exact h x y h1 h2 h3
end
end Go.Proofs.YtihjfhpoiheomaaGreatDoor
