import Derived.Test.YtaejmlkaefnbhaaGreatDoorSM7x
set_option linter.unusedVariables false
set_option linter.unusedSimpArgs false
set_option maxHeartbeats 16000000
set_option maxRecDepth 20000
namespace Go.Proofs.YtaejmlkaefnbhaaGreatDoor
namespace J
end J
section
open Go.RowKit J
theorem vX{L L':List Nat}{a b n k:Nat}(hL:∀ x ∈ L,x<n)(h:Pm a b L L')(hk:k<L'.length):L'.getD k 0<n :=
 hL _ (h.perm.mem_iff.1 (by rw[aS,aY hk];exact iw _))
theorem aQ{x:Int}{q:Nat}(h:x=(q:Int))(hq:q<4611686018427387904):IntKind.i64.wrap x=(q:Int):=by rw[h];exact Kz hq
theorem j8{P:Prop}(h:P:=by
 go_wp2_with fail
 go_meet
 case rel=>exact⟨decide (z<0),rfl,G.o⟩):P:=h
theorem Xs{P:Prop}(h:P:=by
 go_region
 all_goals
  go_wp2_with fail
  go_meet
  case rel=>exact⟨rfl,HF.o _ (by first | exact .inl rfl | exact .inr rfl)⟩):P:=h
theorem ZS{P:Prop}(h:P:=by
 go_upto_region 5 with fail
 go_cut [58] from 43 to 57 (fun v wx=>∃ t:Bool,v=.bool (!t)/\Aside (∃ L',bE wx g L'/\Pm (f+lo) (f+hi) L L'/\Sf K f lo hi r L'/\But g w wx/\(∀ k,0<k->k<hi->(k-1)/2=r->ky K L' (f+k)<=ky K L' (f+c))/\(t=true↔ky K L' pr<ky K L' p1)))
 case first =>
  obtain⟨L',o1,o2,o3,o4,o5⟩:=HA.o;have hlen:L'.length=N:=by rw[o2.len,<-HX.o.1]
  have hdr:=(aG W3.heap.size W3).drew;have oD:=o1.below hdr o1.lt;have m1:=vX HX.o.2.1 o2 (k:=pr) af;have m2:=vX HX.o.2.1 o2 (k:=p1) af;have c1':=oD.cell pr af;have c2':=oD.cell p1 af;obtain⟨x,hx⟩:=ah (L'.getD pr 0);obtain⟨y,hy⟩:=ah (L'.getD p1 0);rw[<-hx] at c1' m1;rw[<-hy] at c2' m2;obtain⟨z,hz,C0⟩:=HX.o.r2 _ x y (o4.bq hdr) m1 m2;have C:=hid C0
  have HF:Aside (∀ v:World,Below W3.drew.heap.size W3.drew v->∃ L',bE v g L'/\Pm (f+lo) (f+hi) L L'/\Sf K f lo hi r L'/\But g w v/\(∀ k,0<k->k<hi->(k-1)/2=r->ky K L' (f+k)<=ky K L' (f+c))/\(decide (z<0)=true↔ky K L' pr<ky K L' p1)):=fun v hv =>
   ⟨L',oD.below hv oD.lt,o2,o3,(o4.bq hdr).bq hv,o5,by rw[decide_eq_true_iff,hz];unfold ky;rw[<-hx,<-hy]⟩
  have kS:=aT c1' c2';clear HA o1 o2 o3 o4 o5 hlen hdr oD m1 m2 hx hy hz C0 c1' c2'
  go_region_held3 (fun w'=>w'.cell? ⟨g,pr,none⟩=some (.int .i64 (x:Nat))/\w'.cell? ⟨g,p1,none⟩=some (.int .i64 (y:Nat))) (with_reducible exact kS.o) (first
   | (go_at_call 134
      with_reducible refine C.o.mono ?_
      rintro r v ⟨rfl,hb⟩;have G:=au (HF.o v hb);have kS:Aside (v.cell? ⟨g,pr,none⟩=some (.int .i64 (x:Nat))/\v.cell? ⟨g,p1,none⟩=some (.int .i64 (y:Nat))):=⟨(hb.cell (p:=⟨g,pr,none⟩) (aH kS.o.1)).trans kS.o.1,(hb.cell (p:=⟨g,p1,none⟩) (aH kS.o.2)).trans kS.o.2⟩
      clear hb))
  all_goals
   go_wp2_with fail
   go_meet
   case rel=>exact⟨decide (z<0),rfl,G.o⟩
 clear HA;obtain⟨t,rfl,HA⟩:=hcut;obtain⟨W5,Ji⟩:=ah wc;subst Ji
 cases t
 · have HN:Aside (∃ L',bE W5 g L'/\Pm (f+lo) (f+hi) L L'/\Hp K f lo hi L'/\But g w W5):=by
    obtain⟨L',o1,o2,o3,o4,o5,o6⟩:=HA.o;refine⟨L',o1,o2,o3.done (fun k k1 k2 k3=>?_),o4⟩;have:=o5 k k1 k2 k3;have e:ky K L' p1<=ky K L' pr:=lM (fun q=>absurd (o6.2 q) aA);have hq:=HQ.o;rw[show f+r=pr by omega];rw[show f+c=p1 by omega] at this;omega
   clear HA;go_wp2;refine aJ (v:=.tuple #[]) (by simp[results,Tryz.results282,go_sem]) rfl ?_;exact⟨rfl,HN.o⟩
 · have hne:pr≠p1:=by have:=HQ.o;omega
   have hne':p1≠pr:=by have:=HQ.o;omega
   go_upto_region 6 with fail
   go_cut [11] from 59 to 80 (fun v wx=>v=.int .i64 (c:Nat)/\Aside (∃ L',bE wx g L'/\Pm (f+lo) (f+hi) L L'/\Sf K f lo hi c L'/\But g w wx))
   case first =>
    obtain⟨L',o1,o2,o3,o4,o5,o6⟩:=HA.o;have hlen:L'.length=N:=by rw[o2.len,<-HX.o.1]
    have hdr:=(aG W5.heap.size W5).drew;have oD:=o1.below hdr o1.lt;have c1':=o1.cell pr af;have c2':=o1.cell p1 af;have z1:=o1.frozen pr;have z2:=o1.frozen p1
    have HF:Aside (∀ v:World,(v=(W5.drew.setCell ⟨g,pr,none⟩ (.int .i64 (L'.getD p1 0:Nat))).setCell ⟨g,p1,none⟩ (.int .i64 (L'.getD pr 0:Nat))\/v=(W5.drew.setCell ⟨g,p1,none⟩ (.int .i64 (L'.getD pr 0:Nat))).setCell ⟨g,pr,none⟩ (.int .i64 (L'.getD p1 0:Nat)))->∃ L',bE v g L'/\Pm (f+lo) (f+hi) L L'/\Sf K f lo hi c L'/\But g w v):=fun v hv=>by
     have hq:=HQ.o;refine⟨sw L' pr p1,?_,o2.trans (Pm.swap af af af af af),?_,?_⟩
     · rcases hv with rfl | rfl
       · exact oD.sw pr p1
       · have:=(oD.set p1 (L'.getD pr 0)).set pr (L'.getD p1 0);unfold sw;rw[xJ _ _ hne];exact this
     · have e1:pr=f+r:=af
       have e2:p1=f+c:=af
       have:=o6.1 rfl;rw[e1,e2] at this |-;exact o3.step af af af this o5
     · rcases hv with rfl | rfl
       · exact((o4.bq hdr).set _ _).set _ _
       · exact((o4.bq hdr).set _ _).set _ _
    obtain⟨x,hx⟩:=ah (L'.getD pr 0);obtain⟨y,hy⟩:=ah (L'.getD p1 0);rw[<-hx] at c1' HF;rw[<-hy] at c2' HF;clear HA o1 o2 o3 o4 o5 o6 hlen hdr oD hx hy
    go_region
    all_goals
     go_wp2_with fail
     go_meet
     case rel=>exact⟨rfl,HF.o _ (by first | exact .inl rfl | exact .inr rfl)⟩
   clear HA;obtain⟨rfl,HA⟩:=hcut;go_wp2;go_roundg (hi-c)
   case measure=>have:=HQ.o;omega
   case rel=>exact⟨c,rfl,.inl (by have:=HQ.o;omega),by have:=HQ.o;omega,by first | rfl | simp,HA.o⟩):P:=h
theorem KA(K:Nat->Nat)(n g f lo hi cap:Nat)(L:List Nat)(recv:Value)(w:World)(hO:bE w g L)(hL:∀ x ∈ L,x<n)(hl:f+hi<=L.length)(hlo:lo<1152921504606846976)(hbig:L.length<1152921504606846976)(hC:iQ K n g recv w)(hH:Hp K f (lo+1) hi L) :
 Calls Tryz.prog 282 #[.slice (some ⟨g,0,none⟩) L.length cap,.int .i64 (lo:Nat),.int .i64 (hi:Nat),.int .i64 (f:Nat),.func (.func 134) #[recv] #[]] w fun r w'=>r=.returned (.tuple #[])/\∃ L',bE w' g L'/\Pm (f+lo) (f+hi) L L'/\Hp K f lo hi L'/\But g w w':=by
 obtain⟨N,hN⟩:=ah (L.length);have HX:=(bM hN hL hC);have B0:Aside (∃ L',bE w g L'/\Pm (f+lo) (f+hi) L L'/\Sf K f lo hi lo L'/\But g w w):=⟨L,hO,Pm.refl _ _ _,Sf.start hH,But.refl _ _⟩;rw[<-hN] at hl hbig |-;clear hN hL hC hO hH;go_enter Tryz.func282,Tryz.ntmps282;go_wp2
 go_loopg [10] (hi-lo) (fun gk rv wr=>∃ r:Nat,gk=hi-r/\(r<hi\/r=lo)/\lo<=r/\rv=.int .i64 (r:Nat)/\Aside (∃ L',bE wr g L'/\Pm (f+lo) (f+hi) L L'/\Sf K f lo hi r L'/\But g w wr))
 case atStart=>exact⟨lo,rfl,.inr rfl,aB _,aL,B0.o⟩
 case round =>
  clear B0;obtain⟨r,iL,hr,hlr,rfl,HA⟩:=hrel;have hrb:r<1152921504606846976:=af
  obtain⟨c,hc⟩:=ah (2*r+1);have w1:IntKind.i64.wrap (2*(r:Int))=2*(r:Int):=by rw[aQ (q:=2*r) af af];omega
  have w2:IntKind.i64.wrap (2*(r:Int)+1)=(c:Int):=aQ af af
  by_cases h1:hi<=c
  · have d1:decide ((hi:Int)<=(c:Nat))=true:=by simp;omega
    have HN:Aside (∃ L',bE wr g L'/\Pm (f+lo) (f+hi) L L'/\Hp K f lo hi L'/\But g w wr):=by
     obtain⟨L',o1,o2,o3,o4⟩:=HA.o;exact⟨L',o1,o2,o3.done (fun k k1 k2 k3=>by omega),o4⟩
    have HQ:=au hc;clear HA hc;go_wp2;refine bodyPost_end (v:=.tuple #[]) (by simp[results,Tryz.results282,go_sem]) rfl ?_;exact⟨rfl,HN.o⟩
  · have d1:decide ((hi:Int)<=(c:Nat))=false:=by simp;omega
    obtain⟨c1,hc1⟩:=ah (c+1);obtain⟨pr,hpr⟩:=ah (f+r);obtain⟨p1,hp1⟩:=ah (f+c);obtain⟨p2,hp2⟩:=ah (f+c1);have w3:IntKind.i64.wrap ((c:Int)+1)=(c1:Int):=aQ af af;have w4:IntKind.i64.wrap ((f:Int)+(r:Int))=(pr:Int):=aQ af af;have w5:IntKind.i64.wrap ((f:Int)+(c:Int))=(p1:Int):=aQ af af;have w6:IntKind.i64.wrap ((f:Int)+(c1:Int))=(p2:Int):=aQ af af;have w7:IntKind.i64.wrap ((p1:Int)+1)=(p2:Int):=aQ af af;have b1:(pr:Int)<(N:Int):=af
    have b2:(p1:Int)<(N:Int):=af
    have b3:pr<N:=af
    have b4:p1<N:=af
    by_cases h2:c1<hi
    · have d2:decide ((c1:Int)<(hi:Nat))=true:=by simp;omega
      have b5:(p2:Int)<(N:Int):=af
      have b6:p2<N:=af
      have HQ:=(iq hc hc1 hpr hp1 hp2);clear hc hc1 hpr hp1 hp2
      go_upto_region 3 with fail
      go_cut [40] from 19 to 39 (fun v wx=>∃ t:Bool,v=.bool t/\Aside (∃ L',bE wx g L'/\Pm (f+lo) (f+hi) L L'/\Sf K f lo hi r L'/\But g w wx/\(t=true↔ky K L' p1<ky K L' p2)))
      case first =>
       obtain⟨L',o1,o2,o3,o4⟩:=HA.o;have hlen:L'.length=N:=by rw[o2.len,<-HX.o.1]
       have hdr:=(aG wr.heap.size wr).drew;have oD:=o1.below hdr o1.lt;have m1:=vX HX.o.2.1 o2 (k:=p1) af;have m2:=vX HX.o.2.1 o2 (k:=p2) af;have c1':=oD.cell p1 af;have c2':=oD.cell p2 af;obtain⟨x,hx⟩:=ah (L'.getD p1 0);obtain⟨y,hy⟩:=ah (L'.getD p2 0);rw[<-hx] at c1' m1;rw[<-hy] at c2' m2;obtain⟨z,hz,C0⟩:=HX.o.r2 _ x y (o4.bq hdr) m1 m2;have C:=hid C0
       have HF:Aside (∀ v:World,Below wr.drew.heap.size wr.drew v->∃ L',bE v g L'/\Pm (f+lo) (f+hi) L L'/\Sf K f lo hi r L'/\But g w v/\(decide (z<0)=true↔ky K L' p1<ky K L' p2)):=fun v hv =>
        ⟨L',oD.below hv oD.lt,o2,o3,(o4.bq hdr).bq hv,by rw[decide_eq_true_iff,hz];unfold ky;rw[<-hx,<-hy]⟩
       have kS:=aT c1' c2';clear HA o1 o2 o3 o4 hlen hdr oD m1 m2 hx hy hz C0 c1' c2'
       go_region_held3 (fun w'=>w'.cell? ⟨g,p1,none⟩=some (.int .i64 (x:Nat))/\w'.cell? ⟨g,p2,none⟩=some (.int .i64 (y:Nat))) (with_reducible exact kS.o) (first
        | (go_at_call 134
           with_reducible refine C.o.mono ?_
           rintro r v ⟨rfl,hb⟩;have G:=au (HF.o v hb);have kS:Aside (v.cell? ⟨g,p1,none⟩=some (.int .i64 (x:Nat))/\v.cell? ⟨g,p2,none⟩=some (.int .i64 (y:Nat))):=⟨(hb.cell (p:=⟨g,p1,none⟩) (aH kS.o.1)).trans kS.o.1,(hb.cell (p:=⟨g,p2,none⟩) (aH kS.o.2)).trans kS.o.2⟩
           clear hb))
       all_goals
        exact j8
      clear HA;obtain⟨t,rfl,HA⟩:=hcut;obtain⟨W3,hW3⟩:=ah wc;subst hW3
      cases t
      · replace HA:Aside (∃ L',bE W3 g L'/\Pm (f+lo) (f+hi) L L'/\Sf K f lo hi r L'/\But g w W3/\(∀ k,0<k->k<hi->(k-1)/2=r->ky K L' (f+k)<=ky K L' (f+c))):=by
         obtain⟨L',o1,o2,o3,o4,o5⟩:=HA.o;obtain⟨hc,hc1,hpr,hp1,hp2⟩:=HQ.o;refine⟨L',o1,o2,o3,o4,fun k k1 k2 k3=>?_⟩;have e:ky K L' p2<=ky K L' p1:=lM (fun q=>absurd (o5.2 q) aA)
         by_cases q:k=c
         · rw[q];exact aB _
         · rw[show f+k=p2 by omega,<-hp1];exact e
        exact ZS
      · replace HA:Aside (∃ L',bE W3 g L'/\Pm (f+lo) (f+hi) L L'/\Sf K f lo hi r L'/\But g w W3/\(∀ k,0<k->k<hi->(k-1)/2=r->ky K L' (f+k)<=ky K L' (f+c1))):=by
         obtain⟨L',o1,o2,o3,o4,o5⟩:=HA.o;obtain⟨hc,hc1,hpr,hp1,hp2⟩:=HQ.o;refine⟨L',o1,o2,o3,o4,fun k k1 k2 k3=>?_⟩;have e:=o5.1 rfl
         by_cases q:k=c1
         · rw[q];exact aB _
         · rw[show f+k=p1 by omega,<-hp2];exact nV e
        go_upto_region 5 with fail
        go_cut [58] from 43 to 57 (fun v wx=>∃ t:Bool,v=.bool (!t)/\Aside (∃ L',bE wx g L'/\Pm (f+lo) (f+hi) L L'/\Sf K f lo hi r L'/\But g w wx/\(∀ k,0<k->k<hi->(k-1)/2=r->ky K L' (f+k)<=ky K L' (f+c1))/\(t=true↔ky K L' pr<ky K L' p2)))
        case first =>
         obtain⟨L',o1,o2,o3,o4,o5⟩:=HA.o;have hlen:L'.length=N:=by rw[o2.len,<-HX.o.1]
         have hdr:=(aG W3.heap.size W3).drew;have oD:=o1.below hdr o1.lt;have m1:=vX HX.o.2.1 o2 (k:=pr) af;have m2:=vX HX.o.2.1 o2 (k:=p2) af;have c1':=oD.cell pr af;have c2':=oD.cell p2 af;obtain⟨x,hx⟩:=ah (L'.getD pr 0);obtain⟨y,hy⟩:=ah (L'.getD p2 0);rw[<-hx] at c1' m1;rw[<-hy] at c2' m2;obtain⟨z,hz,C0⟩:=HX.o.r2 _ x y (o4.bq hdr) m1 m2;have C:=hid C0
         have HF:Aside (∀ v:World,Below W3.drew.heap.size W3.drew v->∃ L',bE v g L'/\Pm (f+lo) (f+hi) L L'/\Sf K f lo hi r L'/\But g w v/\(∀ k,0<k->k<hi->(k-1)/2=r->ky K L' (f+k)<=ky K L' (f+c1))/\(decide (z<0)=true↔ky K L' pr<ky K L' p2)):=fun v hv =>
          ⟨L',oD.below hv oD.lt,o2,o3,(o4.bq hdr).bq hv,o5,by rw[decide_eq_true_iff,hz];unfold ky;rw[<-hx,<-hy]⟩
         have kS:=aT c1' c2';clear HA o1 o2 o3 o4 o5 hlen hdr oD m1 m2 hx hy hz C0 c1' c2'
         go_region_held3 (fun w'=>w'.cell? ⟨g,pr,none⟩=some (.int .i64 (x:Nat))/\w'.cell? ⟨g,p2,none⟩=some (.int .i64 (y:Nat))) (with_reducible exact kS.o) (first
          | (go_at_call 134
             with_reducible refine C.o.mono ?_
             rintro r v ⟨rfl,hb⟩;have G:=au (HF.o v hb);have kS:Aside (v.cell? ⟨g,pr,none⟩=some (.int .i64 (x:Nat))/\v.cell? ⟨g,p2,none⟩=some (.int .i64 (y:Nat))):=⟨(hb.cell (p:=⟨g,pr,none⟩) (aH kS.o.1)).trans kS.o.1,(hb.cell (p:=⟨g,p2,none⟩) (aH kS.o.2)).trans kS.o.2⟩
             clear hb))
         all_goals
          exact j8
        clear HA;obtain⟨t,rfl,HA⟩:=hcut;obtain⟨W5,Ji⟩:=ah wc;subst Ji
        cases t
        · have HN:Aside (∃ L',bE W5 g L'/\Pm (f+lo) (f+hi) L L'/\Hp K f lo hi L'/\But g w W5):=by
           obtain⟨L',o1,o2,o3,o4,o5,o6⟩:=HA.o;refine⟨L',o1,o2,o3.done (fun k k1 k2 k3=>?_),o4⟩;have:=o5 k k1 k2 k3;have e:ky K L' p2<=ky K L' pr:=lM (fun q=>absurd (o6.2 q) aA);have hq:=HQ.o;rw[show f+r=pr by omega];rw[show f+c1=p2 by omega] at this;omega
          clear HA;go_wp2;refine aJ (v:=.tuple #[]) (by simp[results,Tryz.results282,go_sem]) rfl ?_;exact⟨rfl,HN.o⟩
        · have hne:pr≠p2:=by have:=HQ.o;omega
          have hne':p2≠pr:=by have:=HQ.o;omega
          go_upto_region 6 with fail
          go_cut [11] from 59 to 80 (fun v wx=>v=.int .i64 (c1:Nat)/\Aside (∃ L',bE wx g L'/\Pm (f+lo) (f+hi) L L'/\Sf K f lo hi c1 L'/\But g w wx))
          case first =>
           obtain⟨L',o1,o2,o3,o4,o5,o6⟩:=HA.o;have hlen:L'.length=N:=by rw[o2.len,<-HX.o.1]
           have hdr:=(aG W5.heap.size W5).drew;have oD:=o1.below hdr o1.lt;have c1':=o1.cell pr af;have c2':=o1.cell p2 af;have z1:=o1.frozen pr;have z2:=o1.frozen p2
           have HF:Aside (∀ v:World,(v=(W5.drew.setCell ⟨g,pr,none⟩ (.int .i64 (L'.getD p2 0:Nat))).setCell ⟨g,p2,none⟩ (.int .i64 (L'.getD pr 0:Nat))\/v=(W5.drew.setCell ⟨g,p2,none⟩ (.int .i64 (L'.getD pr 0:Nat))).setCell ⟨g,pr,none⟩ (.int .i64 (L'.getD p2 0:Nat)))->∃ L',bE v g L'/\Pm (f+lo) (f+hi) L L'/\Sf K f lo hi c1 L'/\But g w v):=fun v hv=>by
            have hq:=HQ.o;refine⟨sw L' pr p2,?_,o2.trans (Pm.swap af af af af af),?_,?_⟩
            · rcases hv with rfl | rfl
              · exact oD.sw pr p2
              · have:=(oD.set p2 (L'.getD pr 0)).set pr (L'.getD p2 0);unfold sw;rw[xJ _ _ hne];exact this
            · have e1:pr=f+r:=af
              have e2:p2=f+c1:=af
              have:=o6.1 rfl;rw[e1,e2] at this |-;exact o3.step af af af this o5
            · exact jj
           obtain⟨x,hx⟩:=ah (L'.getD pr 0);obtain⟨y,hy⟩:=ah (L'.getD p2 0);rw[<-hx] at c1' HF;rw[<-hy] at c2' HF;clear HA o1 o2 o3 o4 o5 o6 hlen hdr oD hx hy
           exact Xs
          clear HA;obtain⟨rfl,HA⟩:=hcut;go_wp2;go_roundg (hi-c1)
          case measure=>have:=HQ.o;omega
          case rel=>exact⟨c1,rfl,.inl (by have:=HQ.o;omega),by have:=HQ.o;omega,by first | rfl | simp,HA.o⟩
    · have d2:decide ((c1:Int)<(hi:Nat))=false:=by simp;omega
      have HQ:=(iq hc hc1 hpr hp1 hp2)
      have HD:Aside (∃ L',bE wr.drew g L'/\Pm (f+lo) (f+hi) L L'/\Sf K f lo hi r L'/\But g w wr.drew/\(∀ k,0<k->k<hi->(k-1)/2=r->ky K L' (f+k)<=ky K L' (f+c))):=by
       obtain⟨L',o1,o2,o3,o4⟩:=HA.o;refine⟨L',o1,o2,o3,o4.drew,fun k k1 k2 k3=>?_⟩;rw[show k=c by omega];exact aB _
      clear HA hc hc1 hpr hp1 hp2
      go_upto_region 3 with fail
      go_cut [40] from 19 to 39 (fun v wx=>v=.bool false/\wx=wr.drew)
      case first =>
       go_region
       all_goals
        go_wp2_with fail
        go_meet
        case rel=>exact KK
      obtain⟨rfl,hwx⟩:=hcut;rw[<-hwx] at HD;clear hwx;have HA:=HD;clear HD;obtain⟨W3,hW3⟩:=ah wc;subst hW3
      exact ZS
def aK(n g N:Nat)(w wr:World)(S:List Nat->Prop):Prop:=∃ L,bE wr g L/\L.length=N/\(∀ k,k<N->L.getD k 0<n)/\But g w wr/\S L
theorem aK.below{n g N:Nat}{w wr v:World}{S:List Nat->Prop}(h:aK n g N w wr S)(hb:Below wr.heap.size wr v):aK n g N w v S:=by
 obtain⟨L,h1,h2,h3,h4,h5⟩:=h;exact⟨L,h1.below hb h1.lt,h2,h3,h4.bq hb,h5⟩
theorem aK.drew{n g N:Nat}{w wr:World}{S:List Nat->Prop}(h:aK n g N w wr S):aK n g N w wr.drew S:=h.below (aG wr.heap.size wr).drew
theorem aK.imp{n g N:Nat}{w wr:World}{S T:List Nat->Prop}(h:aK n g N w wr S)(f:∀ L,L.length=N->S L->T L):aK n g N w wr T:=by
 obtain⟨L,h1,h2,h3,h4,h5⟩:=h;exact⟨L,h1,h2,h3,h4,f L h2 h5⟩
theorem aK.lt{n g N:Nat}{w wr:World}{S:List Nat->Prop}(h:aK n g N w wr S):g<wr.heap.size:=by
 obtain⟨L,h1,h2,h3,h4,h5⟩:=h;exact h1.lt
theorem aK.cmp{K:Nat->Nat}{n g N:Nat}{recv:Value}{w wr:World}{S:List Nat->Prop}(h:aK n g N w wr S)(hC:iQ K n g recv w)(i j:Nat)(hi:i<N)(hj:j<N) :
 ∃ (x y:Nat) (z:Int),wr.cell? ⟨g,i,none⟩=some (.int .i64 (x:Nat))/\wr.cell? ⟨g,j,none⟩=some (.int .i64 (y:Nat)) /\
   Calls Tryz.prog 134 #[recv,.int .i64 (x:Nat),.int .i64 (y:Nat)] wr (fun r w'=>r=.returned (.int .i64 z)/\Below wr.heap.size wr w') /\
   (∀ v:World,Below wr.heap.size wr v->aK n g N w v (fun L=>S L/\(decide (z<0)=true↔ky K L i<ky K L j))):=by
 obtain⟨L,h1,h2,h3,h4,h5⟩:=h;obtain⟨z,hz,C⟩:=hC wr (L.getD i 0) (L.getD j 0) h4 (h3 i hi) (h3 j hj);refine⟨_,_,z,h1.cell i af,h1.cell j af,C,fun v hv=>⟨L,h1.below hv h1.lt,h2,h3,h4.bq hv,h5,?_⟩⟩;rw[decide_eq_true_iff,hz];rfl
theorem aK.zy{K:Nat->Nat}{n g N:Nat}{recv:Value}{w wr:World}{S:List Nat->Prop}(h:aK n g N w wr S)(hC:iQ K n g recv w)(i j:Nat)(hi:i<N)(hj:j<N) :
 ∃ (x y:Nat) (z:Int),wr.drew.cell? ⟨g,i,none⟩=some (.int .i64 (x:Nat))/\wr.drew.cell? ⟨g,j,none⟩=some (.int .i64 (y:Nat)) /\
   Calls Tryz.prog 134 #[recv,.int .i64 (x:Nat),.int .i64 (y:Nat)] wr.drew (fun r w'=>r=.returned (.int .i64 z)/\Below wr.drew.heap.size wr.drew w') /\
   (∀ v:World,Below wr.drew.heap.size wr.drew v->aK n g N w v (fun L=>S L/\(decide (z<0)=true↔ky K L i<ky K L j))):=h.drew.cmp hC i j hi hj
theorem Ql(L:List Nat)(i j:Nat):(L.set j (L.getD i 0)).set i (L.getD j 0)=sw L i j:=by
 unfold sw
 by_cases h:i=j
 · subst h;rfl
 · rw[xJ _ _ h]
theorem aK.swap{n g N:Nat}{w wr:World}{S:List Nat->Prop}(h:aK n g N w wr S)(i j:Nat)(hi:i<N)(hj:j<N) :
 ∃ (x y:Nat),wr.cell? ⟨g,i,none⟩=some (.int .i64 (x:Nat))/\wr.cell? ⟨g,j,none⟩=some (.int .i64 (y:Nat))/\wr.frozen? ⟨g,i,none⟩=false/\wr.frozen? ⟨g,j,none⟩=false /\
   (∀ v:World,(v=(wr.drew.setCell ⟨g,i,none⟩ (.int .i64 (y:Nat))).setCell ⟨g,j,none⟩ (.int .i64 (x:Nat))\/v=(wr.drew.setCell ⟨g,j,none⟩ (.int .i64 (x:Nat))).setCell ⟨g,i,none⟩ (.int .i64 (y:Nat)))->aK n g N w v (fun L=>∃ M,S M/\M.length=N/\L=sw M i j)):=by
 obtain⟨L,h1,h2,h3,h4,h5⟩:=h;have hdr:=(aG wr.heap.size wr).drew;have oD:=h1.below hdr h1.lt;refine⟨_,_,h1.cell i af,h1.cell j af,h1.frozen i,h1.frozen j,fun v hv=>⟨sw L i j,?_,by rw[UJ,h2],fun k hk=>?_,?_,L,h5,h2,rfl⟩⟩
 · rcases hv with rfl | rfl
   · exact oD.sw i j
   · rw[<-Ql];exact(oD.set j (L.getD i 0)).set i (L.getD j 0)
 · rw[uK af af]
   split
   · exact h3 i hi
   · split
     · exact h3 j hj
     · exact h3 k hk
 · rcases hv with rfl | rfl
   · exact((h4.bq hdr).set _ _).set _ _
   · exact((h4.bq hdr).set _ _).set _ _
theorem aK.use{n g N:Nat}{w wr:World}{S:List Nat->Prop}(h:aK n g N w wr S):∃ L,S L/\L.length=N/\aK n g N wr wr (fun M=>M=L)/\But g w wr:=by
 obtain⟨L,h1,h2,h3,h4,h5⟩:=h;exact⟨L,h5,h2,⟨L,h1,h2,h3,But.refl _ _,rfl⟩,h4⟩
theorem aK.re{n g N:Nat}{w wr v:World}{S:List Nat->Prop}(h:aK n g N wr v S)(hB:But g w wr):aK n g N w v S:=by
 obtain⟨L,h1,h2,h3,h4,h5⟩:=h;exact⟨L,h1,h2,h3,hB.trans h4,h5⟩
theorem iQ.at{K:Nat->Nat}{n g:Nat}{recv:Value}{w wr:World}(h:iQ K n g recv w)(hB:But g w wr):iQ K n g recv wr:=fun u x y hu hx hy=>h u x y (hB.trans hu) hx hy
theorem Qbm{P:Prop}(h:P:=by
 obtain⟨k,hk,rfl⟩:=xe.1 hx;have:=h3 k hk;rw[aS,aY hk] at this;exact this):P:=h
theorem Y7(K:Nat->Nat)(n g N f lo hi cap:Nat)(L:List Nat)(recv:Value)(w:World)(hS:aK n g N w w (fun M=>M=L))(hC:iQ K n g recv w)(hl:f+hi<=N)(hlo:lo<1152921504606846976)(hbig:N<1152921504606846976)(hH:Hp K f (lo+1) hi L) :
 Calls Tryz.prog 282 #[.slice (some ⟨g,0,none⟩) N cap,.int .i64 (lo:Nat),.int .i64 (hi:Nat),.int .i64 (f:Nat),.func (.func 134) #[recv] #[]] w fun r w'=>r=.returned (.tuple #[])/\aK n g N w w' (fun M=>Pm (f+lo) (f+hi) L M/\Hp K f lo hi M):=by
 obtain⟨M,h1,h2,h3,h4,rfl⟩:=hS;subst h2
 have hL:∀ x ∈ M,x<n:=fun x hx=>by
  exact Qbm
 refine(KA K n g f lo hi cap M recv w h1 hL hl hlo hbig hC hH).mono ?_;rintro r v ⟨rfl,L',k1,k2,k3,k4⟩;exact⟨rfl,L',k1,k2.len,fun k hk=>hL _ (k2.perm.mem_iff.1 (by rw[aS,aY (by rw[k2.len];exact hk)];exact iw _)),k4,k2,k3⟩
theorem insX(K:Nat->Nat)(n g N a b cap:Nat)(L:List Nat)(recv:Value)(w:World)(hS:aK n g N w w (fun M=>M=L))(hC:iQ K n g recv w)(hab:a<=b)(hb:b<=N)(hbig:N<1152921504606846976) :
 Calls Tryz.prog 257 #[.slice (some ⟨g,0,none⟩) N cap,.int .i64 (a:Nat),.int .i64 (b:Nat),.func (.func 134) #[recv] #[]] w fun r w'=>r=.returned (.tuple #[])/\aK n g N w w' (fun M=>Pm a b L M/\Up K a b M):=by
 obtain⟨M,h1,h2,h3,h4,rfl⟩:=hS;subst h2
 have hL:∀ x ∈ M,x<n:=fun x hx=>by
  exact Qbm
 refine(Io K n g a b cap M recv w h1 hL hab hb af hC).mono ?_;rintro r v ⟨rfl,L',k1,k2,k3,k4⟩;exact⟨rfl,L',k1,k2.len,fun k hk=>hL _ (k2.perm.mem_iff.1 (by rw[aS,aY (by rw[k2.len];exact hk)];exact iw _)),k4,k2,k3⟩
theorem jg{b:Bool}{p:Prop}(h:b=true↔p):(!b)=true↔¬ p:=by
 cases b <;> simp_all
theorem kR{b:Bool}{g p:Prop}(hg:g)(h:b=true↔p):b=true↔(g/\p):=h.trans ⟨fun e=>⟨hg,e⟩,fun e=>e.2⟩
theorem mV{g p:Prop}(hg:¬ g):false=true↔(g/\p):=⟨fun e=>absurd e aA,fun e=>absurd e.1 hg⟩
theorem ya{P:Prop}(h:P:=by
 have h2:(x:Int)=(y:Int):=by (have:=c1'.symm.trans c2';simpa using this)
 omega):P:=h
theorem heap15(K:Nat->Nat)(n g N a b cap:Nat)(L:List Nat)(recv:Value)(w:World)(hS:aK n g N w w (fun M=>M=L))(hC:iQ K n g recv w)(hab:a<b)(hb:b<=N)(hbig:N<1152921504606846976) :
 Calls Tryz.prog 258 #[.slice (some ⟨g,0,none⟩) N cap,.int .i64 (a:Nat),.int .i64 (b:Nat),.func (.func 134) #[recv] #[]] w fun r w'=>r=.returned (.tuple #[])/\aK n g N w w' (fun M=>Pm a b L M/\Up K a b M):=by
 obtain⟨m,hm⟩:=ah (b-a);obtain⟨m1,hm1⟩:=ah (m-1);obtain⟨q0,hq0⟩:=ah (m1/2);have HC:=au hC
 have HA:Aside (aK n g N w w (fun M=>Pm a b L M/\Hp K a (q0+1) m M)):=(hS.imp (fun M _ e=>by
  subst e
  exact⟨Pm.refl _ _ _,fun c c1 c2 c3=>by omega⟩):aK n g N w w _)
 have w1:IntKind.i64.wrap ((b:Int)-(a:Int))=(m:Int):=aQ af af;have w2:IntKind.i64.wrap ((m:Int)-1)=(m1:Int):=aQ af af;have w3:Int.tdiv (m1:Int) 2=(q0:Int):=by rw[hq0];rfl
 have w4:IntKind.i64.wrap (q0:Int)=(q0:Int):=aQ rfl af;have HQ:=(bM hm hm1 hq0);clear hm hm1 hq0 hS hC;go_enter Tryz.func258,Tryz.ntmps258;go_wp2
 go_loopg [11] (q0+1) (fun gk iv wr=>∃ t:Nat,gk=t/\t<=q0+1/\iv=.int .i64 ((t:Int)-1)/\Aside (aK n g N w wr (fun M=>Pm a b L M/\Hp K a t m M)))
 case atStart=>exact⟨q0+1,rfl,aB _,aL,HA.o⟩
 case round =>
  clear HA;obtain⟨t,iL,htq,Ya,HA⟩:=hrel;rcases rO t with h0|h0
  · subst h0;have hd:decide ((0:Int)<=-1)=false:=aA
    rw[show((0:Nat):Int)-1=-1 by rfl] at Ya;subst Ya;replace HA:Aside (aK n g N w wr (fun M=>Pm a b L M/\H2 K a m m M)):=(HA.o.imp (fun M _ q=>⟨q.1,H2.start q.2⟩):aK n g N w wr _);go_wp2
    go_loopg [12] m (fun gk iv wr=>∃ t:Nat,gk=t/\t<=m/\iv=.int .i64 ((t:Int)-1)/\Aside (aK n g N w wr (fun M=>Pm a b L M/\H2 K a m t M)))
    case atStart=>exact⟨m,rfl,aB _,by have:=HQ.o;simp;omega,HA.o⟩
    case round =>
     clear HA;obtain⟨t,hgk2,htm,Ya,HA⟩:=hrel;rcases rO t with h1|h1
     · subst h1;rw[show((0:Nat):Int)-1=-1 by rfl] at Ya;subst Ya;go_wp2;refine bodyPost_end (v:=.tuple #[]) (by simp[results,Tryz.results258,go_sem]) rfl ?_;refine⟨rfl,HA.o.imp (fun M _ q=>⟨q.1,?_⟩)⟩;have:=q.2.done;rw[show a+m=b by have:=HQ.o;omega] at this;exact this
     · obtain⟨s,hs⟩:=ah (t-1);obtain⟨p,hp⟩:=ah (a+s);rw[show(t:Int)-1=(s:Int) by omega] at Ya;subst Ya;have hd:decide ((0:Int)<=(s:Int))=true:=by simp
       have w5:IntKind.i64.wrap ((a:Int)+(s:Int))=(p:Int):=aQ af (by have:=HQ.o;omega)
       have w6:IntKind.i64.wrap ((s:Int)-1)=(s:Int)-1:=by
        have:=HQ.o;simp[IntKind.wrap,IntKind.bits,IntKind.signed];omega
       have b1:(a:Int)<(N:Int):=af
       have b2:(p:Int)<(N:Int):=by have:=HQ.o;omega
       have b3:a<N:=af
       have b4:p<N:=by have:=HQ.o;omega
       have HT:=(iq hs hp htm h1 hgk2);clear hs hp htm h1 hgk2 iL htq
       go_upto_region 10 with fail
       go_cut [8] from 36 to 53 (fun v wx=>v=.int .i64 (a:Nat)/\Aside (aK n g N w wx (fun M=>∃ M0,(fun M=>Pm a b L M/\H2 K a m t M) M0/\M0.length=N/\M=sw M0 a p)))
       case first =>
        obtain⟨x,y,c1',c2',z1,z2,ik⟩:=HA.o.swap a p af af;have HF:=au ik;clear HA ik
        by_cases hse:a=p
        · subst hse
          have hxy:x=y:=by
           exact ya
          subst hxy;clear c2' z2
          exact Xs
        · have uL:p≠a:=fun e=>hse e.symm
          exact Xs
       clear HA;obtain⟨rfl,HA⟩:=hcut;obtain⟨W1,hW⟩:=ah wc;subst hW;obtain⟨L1,s1,s2,s3,s4⟩:=HA.o.use
       have C:=hid (Y7 K n g N a 0 s cap L1 recv W1 s3 (HC.o.at s4) (by have:=HQ.o;have:=HT.o;omega) af hbig (by
        obtain⟨M0,k1,k2,rfl⟩:=s1;obtain⟨hs,hp,htm,h1,_⟩:=HT.o;have:=HQ.o;have e:=k1.2;rw[show t=s+1 by omega] at e;rw[hp]
        exact e.mid af))
       have HF:Aside (∀ v,aK n g N W1 v (fun M=>Pm (a+0) (a+s) L1 M/\Hp K a 0 s M)->aK n g N w v (fun M=>Pm a b L M/\H2 K a m s M)):=fun v hv=>(hv.re s4).imp (fun M _ q=>by
        obtain⟨M0,k1,k2,rfl⟩:=s1;obtain⟨hs,hp,htm,h1,_⟩:=HT.o;have:=HQ.o;have e:=k1.2;rw[show t=s+1 by omega] at e;have q1:=q.1;rw[hp,gU] at q1
        exact⟨(k1.1.trans (Pm.swap af af af af af)).trans (q1.mono af af),e.step af q1 q.2⟩)
       clear HA s1 s2 s3 s4;go_wp2_with fail;refine C.o.mono ?_;rintro r v ⟨rfl,hv⟩;have HA:=au (HF.o v hv);clear C HF hv;go_wp2;go_roundg s
       case measure=>have:=HT.o;omega
       case rel=>exact⟨s,rfl,by have:=HT.o;omega,by first | rfl | simp,HA.o⟩
  · obtain⟨s,hs⟩:=ah (t-1);rw[show(t:Int)-1=(s:Int) by omega] at Ya;subst Ya;have hd:decide ((0:Int)<=(s:Int))=true:=by simp
    have w6:IntKind.i64.wrap ((s:Int)-1)=(s:Int)-1:=by
     have:=HQ.o;simp[IntKind.wrap,IntKind.bits,IntKind.signed];omega
    obtain⟨L1,s1,s2,s3,s4⟩:=HA.o.use
    have C:=hid (Y7 K n g N a s m cap L1 recv wr s3 (HC.o.at s4) (by have:=HQ.o;omega) (by have:=HQ.o;omega) hbig (by
     have e:=s1.2;rw[show t=s+1 by omega] at e
     exact e))
    have HF:Aside (∀ v,aK n g N wr v (fun M=>Pm (a+s) (a+m) L1 M/\Hp K a s m M)->aK n g N w v (fun M=>Pm a b L M/\Hp K a s m M)):=fun v hv=>(hv.re s4).imp (fun M _ q=>⟨s1.1.trans (q.1.mono af (by have:=HQ.o;omega)),q.2⟩);have HT:=(mh hs htq h0 iL);clear HA s1 s2 s3 s4 hs htq h0 iL;go_wp2_with fail;refine C.o.mono ?_;rintro r v ⟨rfl,hv⟩;have HA:=au (HF.o v hv);clear C HF hv;go_wp2;go_roundg s
    case measure=>have:=HT.o;omega
    case rel=>exact⟨s,rfl,by have:=HT.o;omega,by first | rfl | simp,HA.o⟩
theorem Qbk{P:Prop}(h:P:=by
 exact⟨i1,j1,rfl,d1,d2,d3,by first | rfl | simp,by first | rfl | simp,HA.o⟩):P:=h
theorem Qa4{P:Prop}(h:P:=by
 go_wp2_with fail
 go_meet
 case rel=>exact⟨decide (z<0),rfl,G.o.imp (fun M _ q=>⟨q.1,kR hgd (q.2)⟩)⟩):P:=h
theorem Qav{P:Prop}(h:P:=by
 obtain⟨_,_,_,_,_,M0,q1,q2,q3⟩:=HA.o;intro e;have e1:=q1.2.2.1 hgt;have e2:=q1.2.2.2 hgt;rw[e] at e1;omega):P:=h
theorem yy{P:Prop}(h:P:=by
 go_wp2_with fail
 go_meet
 case rel=>exact⟨!decide (z<0),rfl,G.o.imp (fun M _ q=>⟨q.1,kR hgd (jg q.2)⟩)⟩):P:=h
theorem q7{P:Prop}(h:P:=by
 have HD:=au (HA.o.drew);clear HA
 go_region
 all_goals
  go_wp2_with fail
  go_meet
  case rel=>exact⟨false,rfl,HD.o.imp (fun M _ q=>⟨q,mV hgd⟩)⟩):P:=h
theorem Ip(K:Nat->Nat)(n g N a b pv cap:Nat)(L:List Nat)(recv:Value)(w:World)(hS:aK n g N w w (fun M=>M=L))(hC:iQ K n g recv w)(hab:a+1<b)(hb:b<=N)(hp1:a<=pv)(hp2:pv<b)(hbig:N<1152921504606846976) :
 Calls Tryz.prog 264 #[.slice (some ⟨g,0,none⟩) N cap,.int .i64 (a:Nat),.int .i64 (b:Nat),.int .i64 (pv:Nat),.func (.func 134) #[recv] #[]] w fun r w'=>∃ (m:Nat) (t:Bool),r=.returned (.tuple #[.int .i64 (m:Nat),.bool t])/\a<=m/\m<b/\aK n g N w w' (fun M=>Pm a b L M/\EI K a b m M):=by
 obtain⟨i0,hi0⟩:=ah (a+1);obtain⟨j0,hj0⟩:=ah (b-1);obtain⟨p0,hp0⟩:=ah (ky K L pv);have HC:=au hC;have HA:=au hS;have w1:IntKind.i64.wrap ((a:Int)+1)=(i0:Int):=aQ af af;have w2:IntKind.i64.wrap ((b:Int)-1)=(j0:Int):=aQ af af;have b1:(a:Int)<(N:Int):=af
 have b2:(pv:Int)<(N:Int):=af
 have b3:a<N:=af
 have b4:pv<N:=af
 have c1:a<i0:=af
 have c2:i0<=j0:=af
 have c3:j0<b:=af
 have HQ:=(bM hi0 hj0 hp0);clear hi0 hj0 hp0 hS hC;go_enter Tryz.func264,Tryz.ntmps264
 go_upto_region 1 with fail
 go_cut [1] from 14 to 27 (fun v wx=>v=.int .i64 (a:Nat)/\Aside (aK n g N w wx (fun M=>∃ M0,(fun M=>M=L) M0/\M0.length=N/\M=sw M0 a pv)))
 case first =>
  obtain⟨x,y,c1',c2',z1,z2,ik⟩:=HA.o.swap a pv af af;have HF:=au ik;clear HA ik
  by_cases hse:a=pv
  · subst hse
    have hxy:x=y:=by
     exact ya
    subst hxy;clear c2' z2
    exact Xs
  · have uL:pv≠a:=fun e=>hse e.symm
    exact Xs
 clear HA;obtain⟨rfl,HA⟩:=hcut;obtain⟨W0,hW⟩:=ah wc;subst hW
 replace HA:Aside (aK n g N w W0 (fun M=>Pm a b L M/\Pt K a b i0 j0 p0 M)):=(HA.o.imp (fun M _ q=>by
  obtain⟨M0,rfl,q2,rfl⟩:=q;obtain⟨hi0,hj0,hp0⟩:=HQ.o;rw[hi0,hj0,hp0]
  exact⟨Pm.swap af af af af af,Pt.start af af hp1 hp2⟩):aK n g N w W0 _)
 go_wp2
 go_loopg [12] (j0+1-i0) (fun gk iv wr=>∃ i:Nat,gk=j0+1-i/\a<i/\i0<=i/\i<=j0+1/\iv=.int .i64 (i:Nat)/\Aside (aK n g N w wr (fun M=>Pm a b L M/\Pt K a b i j0 p0 M)))
 case atStart=>exact⟨i0,rfl,af,af,af,by first | rfl | simp,HA.o⟩
 case round =>
  clear HA;obtain⟨i,iL,hai,hii,hij,rfl,HA⟩:=hrel;obtain⟨i',hi'⟩:∃ x,x=i+1:=⟨_,rfl⟩;have wi:IntKind.i64.wrap ((i:Int)+1)=(i':Int):=aQ af af;replace hi':=au hi'
  go_upto_region 3 with fail
  go_cut [47] from 32 to 46 (fun v wx=>∃ t:Bool,v=.bool t/\Aside (aK n g N w wx (fun M=>(fun M=>Pm a b L M/\Pt K a b i j0 p0 M) M/\(t=true↔(i<=j0/\ky K M i<ky K M a)))))
  case first =>
   by_cases hgd:i<=j0
   · have pI:decide ((i:Int)<=(j0:Int))=true:=by simp;omega
     obtain⟨x,y,z,c1',c2',C0,ik⟩:=HA.o.zy HC.o i a af af;have C:=hid C0;have HF:=au ik;have kS:=aT c1' c2';clear HA C0 ik c1' c2';have bi:(i:Int)<(N:Int):=af
     have bi':i<N:=af
     go_region_held3 (fun w'=>w'.cell? ⟨g,i,none⟩=some (.int .i64 (x:Nat))/\w'.cell? ⟨g,a,none⟩=some (.int .i64 (y:Nat))) (with_reducible exact kS.o) (first
      | (go_at_call 134
         with_reducible refine C.o.mono ?_
         rintro r v ⟨rfl,hb⟩;have G:=au (HF.o v hb);have kS:Aside (v.cell? ⟨g,i,none⟩=some (.int .i64 (x:Nat))/\v.cell? ⟨g,a,none⟩=some (.int .i64 (y:Nat))):=⟨(hb.cell (p:=⟨g,i,none⟩) (aH kS.o.1)).trans kS.o.1,(hb.cell (p:=⟨g,a,none⟩) (aH kS.o.2)).trans kS.o.2⟩
         clear hb))
     all_goals
      exact Qa4
   · have pI:decide ((i:Int)<=(j0:Int))=false:=by simp;omega
     exact q7
  clear HA;obtain⟨t,rfl,HA⟩:=hcut;obtain⟨WC,hW⟩:=ah wc;subst hW
  cases t
  · replace HA:Aside (aK n g N w WC (fun M=>Pm a b L M/\Pt K a b i j0 p0 M/\(i<=j0->ky K M a<=ky K M i))):=(HA.o.imp (fun M _ q=>⟨q.1.1,q.1.2,fun e=>lM (fun h=>absurd (q.2.2 ⟨e,h⟩) aA)⟩):aK n g N w WC _);clear wi hi';go_wp2
    go_loopg [13] (j0+1-i) (fun gk jv wr=>∃ j:Nat,gk=j+1-i/\j<=j0/\i<=j+1/\jv=.int .i64 (j:Nat)/\Aside (aK n g N w wr (fun M=>Pm a b L M/\Pt K a b i j p0 M/\(i<=j->ky K M a<=ky K M i))))
    case atStart=>exact⟨j0,rfl,af,af,by first | rfl | simp,HA.o⟩
    case round =>
     clear HA;obtain⟨j,iL,hjj,hij,rfl,HA⟩:=hrel;have bj:(j:Int)<(N:Int):=af
     have bj':j<N:=af
     go_upto_region 5 with fail
     go_cut [66] from 50 to 65 (fun v wx=>∃ t:Bool,v=.bool t/\Aside (aK n g N w wx (fun M=>(fun M=>Pm a b L M/\Pt K a b i j p0 M/\(i<=j->ky K M a<=ky K M i)) M/\(t=true↔(i<=j/\¬ ky K M j<ky K M a)))))
     case first =>
      by_cases hgd:i<=j
      · have pI:decide ((i:Int)<=(j:Int))=true:=by simp;omega
        obtain⟨x,y,z,c1',c2',C0,ik⟩:=HA.o.zy HC.o j a af af;have C:=hid C0;have HF:=au ik;have kS:=aT c1' c2';clear HA C0 ik c1' c2'
        go_region_held3 (fun w'=>w'.cell? ⟨g,j,none⟩=some (.int .i64 (x:Nat))/\w'.cell? ⟨g,a,none⟩=some (.int .i64 (y:Nat))) (with_reducible exact kS.o) (first
         | (go_at_call 134
            with_reducible refine C.o.mono ?_
            rintro r v ⟨rfl,hb⟩;have G:=au (HF.o v hb);have kS:Aside (v.cell? ⟨g,j,none⟩=some (.int .i64 (x:Nat))/\v.cell? ⟨g,a,none⟩=some (.int .i64 (y:Nat))):=⟨(hb.cell (p:=⟨g,j,none⟩) (aH kS.o.1)).trans kS.o.1,(hb.cell (p:=⟨g,a,none⟩) (aH kS.o.2)).trans kS.o.2⟩
            clear hb))
        all_goals
         exact yy
      · have pI:decide ((i:Int)<=(j:Int))=false:=by simp;omega
        exact q7
     clear HA;obtain⟨t,rfl,HA⟩:=hcut;obtain⟨WC,hW⟩:=ah wc;subst hW
     cases t
     · replace HA:Aside (aK n g N w WC (fun M=>Pm a b L M/\Pt K a b i j p0 M/\(i<=j->ky K M a<=ky K M i)/\(i<=j->ky K M j<ky K M a))):=(HA.o.imp (fun M _ q=>⟨q.1.1,q.1.2.1,q.1.2.2,fun e=>Nat.lt_of_not_le (fun h=>absurd (q.2.2 ⟨e,Nat.not_lt.2 h⟩) aA)⟩):aK n g N w WC _)
       by_cases hgt:i<=j
       · have hdg:decide ((j:Int)<(i:Int))=false:=by simp;omega
         go_upto_region 10 with fail
         go_cut [12] from 69 to 100 (fun v wx=>v=.int .i64 (i:Nat)/\Aside (aK n g N w wx (fun M=>∃ M0,(fun M=>Pm a b L M/\Pt K a b i j p0 M/\(i<=j->ky K M a<=ky K M i)/\(i<=j->ky K M j<ky K M a)) M0/\M0.length=N/\M=sw M0 i j)))
         case first =>
          obtain⟨x,y,c1',c2',z1,z2,ik⟩:=HA.o.swap i j af af;have HF:=au ik;clear HA ik;have bi:(i:Int)<(N:Int):=af
          have bi':i<N:=af
          by_cases hse:i=j
          · subst hse
            have hxy:x=y:=by
             exact ya
            subst hxy;clear c2' z2
            exact Xs
          · have uL:j≠i:=fun e=>hse e.symm
            exact Xs
         clear HA;obtain⟨rfl,HA⟩:=hcut;obtain⟨W8,hW⟩:=ah wc;subst hW;obtain⟨i1,hi1⟩:=ah (i+1);obtain⟨j1,hj1⟩:=ah (j-1);have wi1:IntKind.i64.wrap ((i:Int)+1)=(i1:Int):=aQ af af;have wj1:IntKind.i64.wrap ((j:Int)-1)=(j1:Int):=aQ af af
         have hne9:i≠j:=by
          exact Qav
         replace HA:Aside (aK n g N w W8 (fun M=>Pm a b L M/\Pt K a b i1 j1 p0 M)):=(HA.o.imp (fun M _ q=>by
          obtain⟨M0,q1,q2,rfl⟩:=q;have:=q1.2.1.ai;have:=q1.2.1.jb;rw[hi1,hj1]
          exact⟨q1.1.trans (Pm.swap af af af af af),q1.2.1.swap af hgt (q1.2.2.1 hgt) (q1.2.2.2 hgt)⟩):aK n g N w W8 _)
         have d1:a<i1:=af
         have d2:i1<=j1+1:=af
         have d3:j1<b:=af
         have d4:j1+1-i1<j+1-i:=af
         have HE:=aT hi1 hj1;clear hi1 hj1;clear d4;go_wp2
         go_loopg [12,13] (j1+1-i1) (fun gk iv jv wr=>∃ i j:Nat,gk=j+1-i/\a<i/\i<=j+1/\j<b/\iv=.int .i64 (i:Nat)/\jv=.int .i64 (j:Nat)/\Aside (aK n g N w wr (fun M=>Pm a b L M/\Pt K a b i j p0 M)))
         case atStart=>exact Qbk
         case round =>
          clear HA d1 d2 d3;obtain⟨ui,vj,hgk9,d1,d2,d3,rfl,rfl,HA⟩:=hrel;go_wp2
          go_loopg [12] (vj+1-ui) (fun gk iv wr=>∃ i:Nat,gk=vj+1-i/\a<i/\ui<=i/\i<=vj+1/\iv=.int .i64 (i:Nat)/\Aside (aK n g N w wr (fun M=>Pm a b L M/\Pt K a b i vj p0 M)))
          case atStart=>exact⟨ui,rfl,af,af,af,by first | rfl | simp,HA.o⟩
          case round =>
           clear HA;obtain⟨k,iL,hai,hii,hij,rfl,HA⟩:=hrel;obtain⟨k',hi'⟩:∃ x,x=k+1:=⟨_,rfl⟩;have wi:IntKind.i64.wrap ((k:Int)+1)=(k':Int):=aQ af af;replace hi':=au hi'
           go_upto_region 13 with fail
           go_cut [120] from 105 to 119 (fun v wx=>∃ t:Bool,v=.bool t/\Aside (aK n g N w wx (fun M=>(fun M=>Pm a b L M/\Pt K a b k vj p0 M) M/\(t=true↔(k<=vj/\ky K M k<ky K M a)))))
           case first =>
            by_cases hgd:k<=vj
            · have pI:decide ((k:Int)<=(vj:Int))=true:=by simp;omega
              obtain⟨x,y,z,c1',c2',C0,ik⟩:=HA.o.zy HC.o k a af af;have C:=hid C0;have HF:=au ik;have kS:=aT c1' c2';clear HA C0 ik c1' c2';have bi:(k:Int)<(N:Int):=af
              have bi':k<N:=af
              go_region_held3 (fun w'=>w'.cell? ⟨g,k,none⟩=some (.int .i64 (x:Nat))/\w'.cell? ⟨g,a,none⟩=some (.int .i64 (y:Nat))) (with_reducible exact kS.o) (first
               | (go_at_call 134
                  with_reducible refine C.o.mono ?_
                  rintro r v ⟨rfl,hb⟩;have G:=au (HF.o v hb);have kS:Aside (v.cell? ⟨g,k,none⟩=some (.int .i64 (x:Nat))/\v.cell? ⟨g,a,none⟩=some (.int .i64 (y:Nat))):=⟨(hb.cell (p:=⟨g,k,none⟩) (aH kS.o.1)).trans kS.o.1,(hb.cell (p:=⟨g,a,none⟩) (aH kS.o.2)).trans kS.o.2⟩
                  clear hb))
              all_goals
               exact Qa4
            · have pI:decide ((k:Int)<=(vj:Int))=false:=by simp;omega
              exact q7
           clear HA;obtain⟨t,rfl,HA⟩:=hcut;obtain⟨WC,hW⟩:=ah wc;subst hW
           cases t
           · replace HA:Aside (aK n g N w WC (fun M=>Pm a b L M/\Pt K a b k vj p0 M/\(k<=vj->ky K M a<=ky K M k))):=(HA.o.imp (fun M _ q=>⟨q.1.1,q.1.2,fun e=>lM (fun h=>absurd (q.2.2 ⟨e,h⟩) aA)⟩):aK n g N w WC _);clear wi hi';go_wp2
             go_loopg [13] (vj+1-k) (fun gk jv wr=>∃ j:Nat,gk=j+1-k/\j<=vj/\k<=j+1/\jv=.int .i64 (j:Nat)/\Aside (aK n g N w wr (fun M=>Pm a b L M/\Pt K a b k j p0 M/\(k<=j->ky K M a<=ky K M k))))
             case atStart=>exact⟨vj,rfl,af,af,by first | rfl | simp,HA.o⟩
             case round =>
              clear HA;obtain⟨l,iL,hjj,hij,rfl,HA⟩:=hrel;have bj:(l:Int)<(N:Int):=af
              have bj':l<N:=af
              go_upto_region 15 with fail
              go_cut [139] from 123 to 138 (fun v wx=>∃ t:Bool,v=.bool t/\Aside (aK n g N w wx (fun M=>(fun M=>Pm a b L M/\Pt K a b k l p0 M/\(k<=l->ky K M a<=ky K M k)) M/\(t=true↔(k<=l/\¬ ky K M l<ky K M a)))))
              case first =>
               by_cases hgd:k<=l
               · have pI:decide ((k:Int)<=(l:Int))=true:=by simp;omega
                 obtain⟨x,y,z,c1',c2',C0,ik⟩:=HA.o.zy HC.o l a af af;have C:=hid C0;have HF:=au ik;have kS:=aT c1' c2';clear HA C0 ik c1' c2'
                 go_region_held3 (fun w'=>w'.cell? ⟨g,l,none⟩=some (.int .i64 (x:Nat))/\w'.cell? ⟨g,a,none⟩=some (.int .i64 (y:Nat))) (with_reducible exact kS.o) (first
                  | (go_at_call 134
                     with_reducible refine C.o.mono ?_
                     rintro r v ⟨rfl,hb⟩;have G:=au (HF.o v hb);have kS:Aside (v.cell? ⟨g,l,none⟩=some (.int .i64 (x:Nat))/\v.cell? ⟨g,a,none⟩=some (.int .i64 (y:Nat))):=⟨(hb.cell (p:=⟨g,l,none⟩) (aH kS.o.1)).trans kS.o.1,(hb.cell (p:=⟨g,a,none⟩) (aH kS.o.2)).trans kS.o.2⟩
                     clear hb))
                 all_goals
                  exact yy
               · have pI:decide ((k:Int)<=(l:Int))=false:=by simp;omega
                 exact q7
              clear HA;obtain⟨t,rfl,HA⟩:=hcut;obtain⟨WC,hW⟩:=ah wc;subst hW
              cases t
              · replace HA:Aside (aK n g N w WC (fun M=>Pm a b L M/\Pt K a b k l p0 M/\(k<=l->ky K M a<=ky K M k)/\(k<=l->ky K M l<ky K M a))):=(HA.o.imp (fun M _ q=>⟨q.1.1,q.1.2.1,q.1.2.2,fun e=>Nat.lt_of_not_le (fun h=>absurd (q.2.2 ⟨e,Nat.not_lt.2 h⟩) aA)⟩):aK n g N w WC _)
                by_cases hgt:k<=l
                · have hdg:decide ((l:Int)<(k:Int))=false:=by simp;omega
                  go_upto_region 18 with fail
                  go_cut [12] from 142 to 158 (fun v wx=>v=.int .i64 (k:Nat)/\Aside (aK n g N w wx (fun M=>∃ M0,(fun M=>Pm a b L M/\Pt K a b k l p0 M/\(k<=l->ky K M a<=ky K M k)/\(k<=l->ky K M l<ky K M a)) M0/\M0.length=N/\M=sw M0 k l)))
                  case first =>
                   obtain⟨x,y,c1',c2',z1,z2,ik⟩:=HA.o.swap k l af af;have HF:=au ik;clear HA ik;have bi:(k:Int)<(N:Int):=af
                   have bi':k<N:=af
                   by_cases hse:k=l
                   · subst hse
                     have hxy:x=y:=by
                      exact ya
                     subst hxy;clear c2' z2
                     exact Xs
                   · have uL:l≠k:=fun e=>hse e.symm
                     exact Xs
                  clear HA;obtain⟨rfl,HA⟩:=hcut;obtain⟨W8,hW⟩:=ah wc;subst hW;obtain⟨i1,hi1⟩:=ah (k+1);obtain⟨j1,hj1⟩:=ah (l-1);have wi1:IntKind.i64.wrap ((k:Int)+1)=(i1:Int):=aQ af af;have wj1:IntKind.i64.wrap ((l:Int)-1)=(j1:Int):=aQ af af
                  have hne9:k≠l:=by
                   exact Qav
                  replace HA:Aside (aK n g N w W8 (fun M=>Pm a b L M/\Pt K a b i1 j1 p0 M)):=(HA.o.imp (fun M _ q=>by
                   obtain⟨M0,q1,q2,rfl⟩:=q;have:=q1.2.1.ai;have:=q1.2.1.jb;rw[hi1,hj1]
                   exact⟨q1.1.trans (Pm.swap af af af af af),q1.2.1.swap af hgt (q1.2.2.1 hgt) (q1.2.2.2 hgt)⟩):aK n g N w W8 _)
                  have d1:a<i1:=af
                  have d2:i1<=j1+1:=af
                  have d3:j1<b:=af
                  have d4:j1+1-i1<l+1-k:=af
                  have HE:=aT hi1 hj1;clear hi1 hj1;go_wp2;go_roundg (j1+1-i1)
                  case measure=>omega
                  case rel=>exact Qbk
                · replace hgt:l<k:=af
                  have hdg:decide ((l:Int)<(k:Int))=true:=by simp;omega
                  go_upto_region 21 with fail
                  go_cut [13] from 142 to 176 (fun v wx=>v=.int .i64 (l:Nat)/\Aside (aK n g N w wx (fun M=>∃ M0,(fun M=>Pm a b L M/\Pt K a b k l p0 M/\(k<=l->ky K M a<=ky K M k)/\(k<=l->ky K M l<ky K M a)) M0/\M0.length=N/\M=sw M0 l a)))
                  case first =>
                   obtain⟨x,y,c1',c2',z1,z2,ik⟩:=HA.o.swap l a af af;have HF:=au ik;clear HA ik
                   by_cases hse:l=a
                   · subst hse
                     have hxy:x=y:=by
                      exact ya
                     subst hxy;clear c2' z2
                     exact Xs
                   · have uL:a≠l:=fun e=>hse e.symm
                     exact Xs
                  clear HA;obtain⟨rfl,HA⟩:=hcut;obtain⟨W9,hW⟩:=ah wc;subst hW
                  have HR:Aside (aK n g N w W9 (fun M=>Pm a b L M/\EI K a b l M)):=(HA.o.imp (fun M _ q=>by
                   obtain⟨M0,q1,q2,rfl⟩:=q;have:=q1.2.1.ai;have:=q1.2.1.jb;have:=q1.2.1.ij
                   exact⟨q1.1.trans (Pm.swap af af af af af),q1.2.1.done af hgt⟩):aK n g N w W9 _)
                  have hm:Aside (a<=l/\l<b):=⟨af,af⟩;clear HA;go_wp2;refine aJ (v:=.tuple #[.int .i64 (l:Nat),.bool false]) (by simp[results,Tryz.results264,go_sem]) rfl ?_;exact⟨l,false,rfl,hm.o.1,hm.o.2,HR.o⟩
              · have hlt:k<=l:=by
                 obtain⟨_,_,_,_,_,q⟩:=HA.o;exact(q.2.1 rfl).1
                obtain⟨l',hj'⟩:∃ x,x=l-1:=⟨_,rfl⟩;have wj:IntKind.i64.wrap ((l:Int)-1)=(l':Int):=aQ af af;replace hj':=au hj';replace HA:Aside (aK n g N w WC (fun M=>Pm a b L M/\Pt K a b k l' p0 M/\(k<=l'->ky K M a<=ky K M k))):=(HA.o.imp (fun M _ q=>⟨q.1.1,by rw[hj'.o];exact q.1.2.1.left (q.2.1 rfl).1 (lM (q.2.1 rfl).2),fun e=>q.1.2.2 (by have:=hj'.o;omega)⟩):aK n g N w WC _);go_wp2;go_roundg (l'+1-k)
                case measure=>have:=hj'.o;omega
                case rel=>exact⟨l',rfl,by have:=hj'.o;omega,by have:=hj'.o;omega,by first | rfl | simp,HA.o⟩
           · have hlt:k<=vj:=by
              obtain⟨_,_,_,_,_,q⟩:=HA.o;exact(q.2.1 rfl).1
             replace HA:Aside (aK n g N w WC (fun M=>Pm a b L M/\Pt K a b k' vj p0 M)):=(HA.o.imp (fun M _ q=>⟨q.1.1,by rw[hi'.o];exact q.1.2.right (q.2.1 rfl).1 (q.2.1 rfl).2⟩):aK n g N w WC _);go_wp2;go_roundg (vj+1-k')
             case measure=>have:=hi'.o;omega
             case rel=>exact⟨k',rfl,by have:=hi'.o;omega,by have:=hi'.o;omega,by have:=hi'.o;omega,by first | rfl | simp,HA.o⟩
       · replace hgt:j<i:=af
         have hdg:decide ((j:Int)<(i:Int))=true:=by simp;omega
         go_upto_region 8 with fail
         go_cut [13] from 69 to 85 (fun v wx=>v=.int .i64 (j:Nat)/\Aside (aK n g N w wx (fun M=>∃ M0,(fun M=>Pm a b L M/\Pt K a b i j p0 M/\(i<=j->ky K M a<=ky K M i)/\(i<=j->ky K M j<ky K M a)) M0/\M0.length=N/\M=sw M0 j a)))
         case first =>
          obtain⟨x,y,c1',c2',z1,z2,ik⟩:=HA.o.swap j a af af;have HF:=au ik;clear HA ik
          by_cases hse:j=a
          · subst hse
            have hxy:x=y:=by
             exact ya
            subst hxy;clear c2' z2
            exact Xs
          · have uL:a≠j:=fun e=>hse e.symm
            exact Xs
         clear HA;obtain⟨rfl,HA⟩:=hcut;obtain⟨W9,hW⟩:=ah wc;subst hW
         have HR:Aside (aK n g N w W9 (fun M=>Pm a b L M/\EI K a b j M)):=(HA.o.imp (fun M _ q=>by
          obtain⟨M0,q1,q2,rfl⟩:=q;have:=q1.2.1.ai;have:=q1.2.1.jb;have:=q1.2.1.ij
          exact⟨q1.1.trans (Pm.swap af af af af af),q1.2.1.done af hgt⟩):aK n g N w W9 _)
         have hm:Aside (a<=j/\j<b):=⟨af,af⟩;clear HA;go_wp2;refine aJ (v:=.tuple #[.int .i64 (j:Nat),.bool true]) (by simp[results,Tryz.results264,go_sem]) rfl ?_;exact⟨j,true,rfl,hm.o.1,hm.o.2,HR.o⟩
     · have hlt:i<=j:=by
        obtain⟨_,_,_,_,_,q⟩:=HA.o;exact(q.2.1 rfl).1
       obtain⟨j',hj'⟩:∃ x,x=j-1:=⟨_,rfl⟩;have wj:IntKind.i64.wrap ((j:Int)-1)=(j':Int):=aQ af af;replace hj':=au hj';replace HA:Aside (aK n g N w WC (fun M=>Pm a b L M/\Pt K a b i j' p0 M/\(i<=j'->ky K M a<=ky K M i))):=(HA.o.imp (fun M _ q=>⟨q.1.1,by rw[hj'.o];exact q.1.2.1.left (q.2.1 rfl).1 (lM (q.2.1 rfl).2),fun e=>q.1.2.2 (by have:=hj'.o;omega)⟩):aK n g N w WC _);go_wp2;go_roundg (j'+1-i)
       case measure=>have:=hj'.o;omega
       case rel=>exact⟨j',rfl,by have:=hj'.o;omega,by have:=hj'.o;omega,by first | rfl | simp,HA.o⟩
  · have hlt:i<=j0:=by
     obtain⟨_,_,_,_,_,q⟩:=HA.o;exact(q.2.1 rfl).1
    replace HA:Aside (aK n g N w WC (fun M=>Pm a b L M/\Pt K a b i' j0 p0 M)):=(HA.o.imp (fun M _ q=>⟨q.1.1,by rw[hi'.o];exact q.1.2.right (q.2.1 rfl).1 (q.2.1 rfl).2⟩):aK n g N w WC _);go_wp2;go_roundg (j0+1-i')
    case measure=>have:=hi'.o;omega
    case rel=>exact⟨i',rfl,by have:=hi'.o;omega,by have:=hi'.o;omega,by have:=hi'.o;omega,by first | rfl | simp,HA.o⟩
theorem Qm(n g N a b cap:Nat)(L:List Nat)(recv:Value)(w:World)(hS:aK n g N w w (fun M=>M=L))(hab:a<b)(hb:b<=N)(hbig:N<1152921504606846976) :
 Calls Tryz.prog 261 #[.slice (some ⟨g,0,none⟩) N cap,.int .i64 (a:Nat),.int .i64 (b:Nat),.func (.func 134) #[recv] #[]] w fun r w'=>r=.returned (.tuple #[])/\aK n g N w w' (fun M=>Pm a b L M):=by
 obtain⟨j0,hj0⟩:=ah (b-1);have HA:Aside (aK n g N w w (fun M=>Pm a b L M)):=(hS.imp (fun M _ e=>by subst e;exact Pm.refl _ _ _):aK n g N w w _);have w2:IntKind.i64.wrap ((b:Int)-1)=(j0:Int):=aQ af af;have c1:a<=j0+1:=af
 have c3:j0<b:=af
 have HQ:=au hj0;clear hj0 hS;go_enter Tryz.func261,Tryz.ntmps261;go_wp2
 go_loopg [8,9] (j0+1-a) (fun gk iv jv wr=>∃ i j:Nat,gk=j+1-i/\a<=i/\i<=j+1/\j<b/\iv=.int .i64 (i:Nat)/\jv=.int .i64 (j:Nat)/\Aside (aK n g N w wr (fun M=>Pm a b L M)))
 case atStart=>exact⟨a,j0,rfl,aB _,c1,c3,by first | rfl | simp,by first | rfl | simp,HA.o⟩
 case round =>
  clear HA;obtain⟨i,j,iL,d1,d2,d3,rfl,rfl,HA⟩:=hrel
  by_cases hij:i<j
  · have hd:decide ((i:Int)<(j:Int))=true:=by simp;omega
    obtain⟨i1,hi1⟩:=ah (i+1);obtain⟨j1,hj1⟩:=ah (j-1);have wi1:IntKind.i64.wrap ((i:Int)+1)=(i1:Int):=aQ af af;have wj1:IntKind.i64.wrap ((j:Int)-1)=(j1:Int):=aQ af af;have bi:(i:Int)<(N:Int):=af
    have bi':i<N:=af
    have bj:(j:Int)<(N:Int):=af
    have bj':j<N:=af
    have HE:=aT hi1 hj1;clear hi1 hj1
    go_upto_region 3 with fail
    go_cut [8] from 13 to 29 (fun v wx=>v=.int .i64 (i:Nat)/\Aside (aK n g N w wx (fun M=>∃ M0,(fun M=>Pm a b L M) M0/\M0.length=N/\M=sw M0 i j)))
    case first =>
     obtain⟨x,y,c1',c2',z1,z2,ik⟩:=HA.o.swap i j af af;have HF:=au ik;clear HA ik;have hse:i≠j:=af
     have uL:j≠i:=af
     exact Xs
    clear HA;obtain⟨rfl,HA⟩:=hcut;obtain⟨W8,hW⟩:=ah wc;subst hW
    replace HA:Aside (aK n g N w W8 (fun M=>Pm a b L M)):=(HA.o.imp (fun M _ q=>by
     obtain⟨M0,q1,q2,rfl⟩:=q
     exact q1.trans (Pm.swap af af af af af)):aK n g N w W8 _)
    go_wp2;go_roundg (j1+1-i1)
    case measure=>have:=HE.o;omega
    case rel=>exact⟨i1,j1,rfl,by have:=HE.o;omega,by have:=HE.o;omega,by have:=HE.o;omega,by first | rfl | simp,by first | rfl | simp,HA.o⟩
  · have hd:decide ((i:Int)<(j:Int))=false:=by simp;omega
    go_wp2;refine bodyPost_end (v:=.tuple #[]) (by simp[results,Tryz.results261,go_sem]) rfl ?_;exact⟨rfl,HA.o⟩
def pJ(n g N q:Nat)(w wr:World)(L:List Nat):Prop:=aK n g N w wr (fun M=>M=L)/\w.heap.size<=q/\∃ s:Int,wr.cell? ⟨q,0,none⟩=some (.int .i64 s)/\wr.frozen? ⟨q,0,none⟩=false
theorem pJ.below{n g N q:Nat}{w wr v:World}{L:List Nat}(h:pJ n g N q w wr L)(hb:Below wr.heap.size wr v):pJ n g N q w v L:=by
 obtain⟨h1,h2,s,h3,h4⟩:=h;refine⟨h1.below hb,h2,s,(hb.cell (p:=⟨q,0,none⟩) (aH h3)).trans h3,?_⟩;have:=hb.block q (aH h3);unfold World.frozen? at h4 |-;simp only at h4 |-;rw[this];exact h4
theorem pJ.set{n g N q:Nat}{w wr:World}{L:List Nat}(h:pJ n g N q w wr L)(s:Int)(hg:g<w.heap.size):pJ n g N q w (wr.setCell ⟨q,0,none⟩ (.int .i64 s)) L:=by
 obtain⟨⟨M,o1,o2,o3,o4,o5⟩,h2,s0,h3,h4⟩:=h
 have hb:∀ k,k≠q->(wr.setCell ⟨q,0,none⟩ (.int .i64 s)).heap[k]?=wr.heap[k]?:=fun k hk=>by
  simp only[World.setCell,iA];rw[if_neg (fun e=>hk e.symm)]
 refine⟨⟨M,by unfold bE;rw[hb g af];exact o1,o2,o3,⟨o4.os,o4.tape,o4.output,by simpa [World.setCell] using o4.size,fun k hk hkg=>by rw[hb k af];exact o4.block k hk hkg⟩,o5⟩,h2,s,?_,?_⟩
 · exact World.cell?_setCell_same _ _ _ h3
 · rw[World.frozen?_setCell];exact h4
theorem uM(K:Nat->Nat)(n g N q a b cap:Nat)(L:List Nat)(recv:Value)(w0 w:World)(hS:pJ n g N q w0 w L)(hC:iQ K n g recv w0)(hg:g<w0.heap.size)(ha:a<N)(hb:b<N)(hbig:N<1152921504606846976) :
 Calls Tryz.prog 298 #[.slice (some ⟨g,0,none⟩) N cap,.int .i64 (a:Nat),.int .i64 (b:Nat),.pointer (some ⟨q,0,none⟩),.func (.func 134) #[recv] #[]] w fun r w'=>∃ x y:Nat,r=.returned (.tuple #[.int .i64 (x:Nat),.int .i64 (y:Nat)])/\(x=a/\y=b\/x=b/\y=a)/\pJ n g N q w0 w' L:=by
 have b1:(a:Int)<(N:Int):=af
 have b2:(b:Int)<(N:Int):=af
 have HC:=au hC;have HA:=au hS;clear hS hC;go_enter Tryz.func298,Tryz.ntmps298
 go_upto_region 1 with fail
 go_cut [22] from 12 to 21 (fun v wx=>∃ t:Bool,v=.bool t/\Aside (pJ n g N q w0 wx L))
 case first =>
  obtain⟨x,y,z,c1',c2',C0,_⟩:=HA.o.1.zy HC.o b a hb ha;have C:=hid C0;have HF:Aside (∀ v,Below w.drew.heap.size w.drew v->pJ n g N q w0 v L):=fun v hv=>(HA.o.below (aG w.heap.size w).drew).below hv;have kS:=aT c1' c2';clear HA C0 c1' c2'
  go_region_held3 (fun w'=>w'.cell? ⟨g,b,none⟩=some (.int .i64 (x:Nat))/\w'.cell? ⟨g,a,none⟩=some (.int .i64 (y:Nat))) (with_reducible exact kS.o) (first
   | (go_at_call 134
      with_reducible refine C.o.mono ?_
      rintro r v ⟨rfl,hb⟩;have G:=au (HF.o v hb);have kS:Aside (v.cell? ⟨g,b,none⟩=some (.int .i64 (x:Nat))/\v.cell? ⟨g,a,none⟩=some (.int .i64 (y:Nat))):=⟨(hb.cell (p:=⟨g,b,none⟩) (aH kS.o.1)).trans kS.o.1,(hb.cell (p:=⟨g,a,none⟩) (aH kS.o.2)).trans kS.o.2⟩
      clear hb))
  all_goals
   exact j8
 clear HA;obtain⟨t,rfl,HA⟩:=hcut;obtain⟨W1,hW⟩:=ah wc;subst hW
 cases t
 · go_wp2;refine aJ (v:=.tuple #[.int .i64 (a:Nat),.int .i64 (b:Nat)]) (by simp[results,Tryz.results298,go_sem]) rfl ?_;exact⟨a,b,rfl,.inl ⟨rfl,rfl⟩,HA.o⟩
 · obtain⟨_,_,s,h3,h4⟩:=HA.o;obtain⟨s1,hs1⟩:=ah (IntKind.i64.wrap (s+1));have hs2:=hs1.symm;have HF:=au (HA.o.set s1 hg);clear HA hs1;go_wp2;refine aJ (v:=.tuple #[.int .i64 (b:Nat),.int .i64 (a:Nat)]) (by simp[results,Tryz.results298,go_sem]) rfl ?_;exact⟨b,a,rfl,.inr ⟨rfl,rfl⟩,HF.o⟩
theorem zA(K:Nat->Nat)(n g N q a b c cap:Nat)(L:List Nat)(recv:Value)(w0 w:World)(hS:pJ n g N q w0 w L)(hC:iQ K n g recv w0)(hg:g<w0.heap.size)(ha:a<N)(hb:b<N)(hc:c<N)(hbig:N<1152921504606846976) :
 Calls Tryz.prog 286 #[.slice (some ⟨g,0,none⟩) N cap,.int .i64 (a:Nat),.int .i64 (b:Nat),.int .i64 (c:Nat),.pointer (some ⟨q,0,none⟩),.func (.func 134) #[recv] #[]] w fun r w'=>∃ x:Nat,r=.returned (.int .i64 (x:Nat))/\(x=a\/x=b\/x=c)/\pJ n g N q w0 w' L:=by
 have HC:=au hC;have C:=hid (uM K n g N q a b cap L recv w0 w hS hC hg ha hb hbig);clear hS hC;go_enter Tryz.func286,Tryz.ntmps286;go_wp2_with fail;refine C.o.mono ?_;rintro r v1 ⟨x,y,rfl,hxy,h1⟩;have X:Aside ((x=a\/x=b)/\(y=a\/y=b)):=⟨af,af⟩;have hx:x<N:=af
 have hy:y<N:=af
 have C2:=hid (uM K n g N q y c cap L recv w0 v1 h1 HC.o hg hy hc hbig);clear C h1 hxy;go_wp2_with fail;refine C2.o.mono ?_;rintro r v2 ⟨x2,y2,rfl,hxy,h1⟩;have X2:Aside (x2=a\/x2=b\/x2=c):=au (by have:=X.o;omega);have hx2:x2<N:=af
 have C3:=hid (uM K n g N q x x2 cap L recv w0 v2 h1 HC.o hg hx hx2 hbig);clear C2 h1 hxy;go_wp2_with fail;refine C3.o.mono ?_;rintro r v3 ⟨x3,y3,rfl,hxy,h1⟩;have X3:Aside (y3=a\/y3=b\/y3=c):=au (by have:=X.o;have:=X2.o;omega);have HR:=au h1;clear C3 h1 hxy;go_wp2;refine aJ (v:=.int .i64 (y3:Nat)) (by simp[results,Tryz.results286,go_sem]) rfl ?_;exact⟨y3,rfl,X3.o,HR.o⟩
theorem UK(K:Nat->Nat)(n g N q a cap:Nat)(L:List Nat)(recv:Value)(w0 w:World)(hS:pJ n g N q w0 w L)(hC:iQ K n g recv w0)(hg:g<w0.heap.size)(ha:0<a)(hb:a+1<N)(hbig:N<1152921504606846976) :
 Calls Tryz.prog 285 #[.slice (some ⟨g,0,none⟩) N cap,.int .i64 (a:Nat),.pointer (some ⟨q,0,none⟩),.func (.func 134) #[recv] #[]] w fun r w'=>∃ x:Nat,r=.returned (.int .i64 (x:Nat))/\a<=x+1/\x<=a+1/\pJ n g N q w0 w' L:=by
 obtain⟨a1,h1⟩:=ah (a-1);obtain⟨a2,h2⟩:=ah (a+1);have w1:IntKind.i64.wrap ((a:Int)-1)=(a1:Int):=aQ af af;have w2:IntKind.i64.wrap ((a:Int)+1)=(a2:Int):=aQ af af;have C:=hid (zA K n g N q a1 a a2 cap L recv w0 w hS hC hg af af af hbig);have HQ:=aT h1 h2;clear hS hC h1 h2;go_enter Tryz.func285,Tryz.ntmps285;go_wp2_with fail;refine C.o.mono ?_;rintro r v1 ⟨x,rfl,hx,h1⟩;have X:Aside (a<=x+1/\x<=a+1):=au (by have:=HQ.o;omega);have HR:=au h1;clear C h1 hx;go_wp2;refine aJ (v:=.int .i64 (x:Nat)) (by simp[results,Tryz.results285,go_sem]) rfl ?_;exact⟨x,rfl,X.o.1,X.o.2,HR.o⟩
theorem pJ.new{n g N:Nat}{w:World}{L:List Nat}(h:aK n g N w w (fun M=>M=L)):pJ n g N w.heap.size w (w.alloc (Obj.cells #[Value.int IntKind.i64 0] 3)) L:=by
 refine⟨h.below ((aG w.heap.size w).alloc (aB _) _),aB _,0,?_,?_⟩
 · rw[World.cell?_alloc_new];rfl
 · exact World.frozen?_alloc_new _ _ _ _
theorem qu{P:Prop}(h:P:=by
 clear HA;go_wp2_with fail;refine C9.o.mono ?_;rintro r v9 ⟨x,rfl,hx,h1⟩;have X:Aside (a<=x/\x<b):=au (by have:=r1.o;omega);have HR:=au h1.1;obtain⟨_,_,s,c1,_⟩:=h1;clear C9 hx
 by_cases s0:s=0
 · subst s0;go_wp2;refine aJ (v:=.tuple #[.int .i64 (x:Nat),.int .i64 (1:Nat)]) (by simp[results,Tryz.results260,go_sem]) rfl ?_;exact⟨x,1,rfl,X.o.1,X.o.2,.inr (.inl rfl),HR.o⟩
 · have s1:(s==0)=false:=by simp[s0]
   have s1':decide (s=0)=false:=by simp[s0]
   by_cases s2:s=12
   · subst s2;go_wp2;refine aJ (v:=.tuple #[.int .i64 (x:Nat),.int .i64 (2:Nat)]) (by simp[results,Tryz.results260,go_sem]) rfl ?_;exact⟨x,2,rfl,X.o.1,X.o.2,.inr (.inr rfl),HR.o⟩
   · have s3:(s==12)=false:=by simp[s2]
     have s3':decide (s=12)=false:=by simp[s2]
     go_wp2;refine aJ (v:=.tuple #[.int .i64 (x:Nat),.int .i64 (0:Nat)]) (by simp[results,Tryz.results260,go_sem]) rfl ?_;exact⟨x,0,rfl,X.o.1,X.o.2,.inl rfl,HR.o⟩):P:=h
theorem UL(K:Nat->Nat)(n g N a b cap:Nat)(L:List Nat)(recv:Value)(w:World)(hS:aK n g N w w (fun M=>M=L))(hC:iQ K n g recv w)(hab:a+8<=b)(hb:b<=N)(hbig:N<1152921504606846976) :
 Calls Tryz.prog 260 #[.slice (some ⟨g,0,none⟩) N cap,.int .i64 (a:Nat),.int .i64 (b:Nat),.func (.func 134) #[recv] #[]] w fun r w'=>∃ p h:Nat,r=.returned (.tuple #[.int .i64 (p:Nat),.int .i64 (h:Nat)])/\a<=p/\p<b/\(h=0\/h=1\/h=2)/\aK n g N w w' (fun M=>M=L):=by
 obtain⟨l,hl⟩:=ah (b-a);obtain⟨q,hq⟩:=ah (l/4);obtain⟨q2,hq2⟩:=ah (q*2);obtain⟨q3,hq3⟩:=ah (q*3);obtain⟨i,hi⟩:=ah (a+q);obtain⟨j,hj⟩:=ah (a+q2);obtain⟨k,hk⟩:=ah (a+q3);have w1:IntKind.i64.wrap ((b:Int)-(a:Int))=(l:Int):=aQ af af;have w2:Int.tdiv (l:Int) 4=(q:Int):=by rw[hq];rfl
 have w3:IntKind.i64.wrap (q:Int)=(q:Int):=aQ rfl af;have w4:IntKind.i64.wrap ((q:Int)*1)=(q:Int):=aQ af af;have w5:IntKind.i64.wrap ((q:Int)*2)=(q2:Int):=aQ af af;have w6:IntKind.i64.wrap ((q:Int)*3)=(q3:Int):=aQ af af;have w7:IntKind.i64.wrap ((a:Int)+(q:Int))=(i:Int):=aQ af af;have w8:IntKind.i64.wrap ((a:Int)+(q2:Int))=(j:Int):=aQ af af;have w9:IntKind.i64.wrap ((a:Int)+(q3:Int))=(k:Int):=aQ af af;have d1:decide ((8:Int)<=(l:Int))=true:=by simp;omega
 have HC:=au hC;have HA:=au hS;have HQ:=(EF hl hq hq2 hq3 hi hj hk);have hl8:8<=l:=af
 clear hl hq hq2 hq3 hi hj hk hS hC;go_enter Tryz.func260,Tryz.ntmps260
 go_upto_region 7 with fail
 have hgw:g<w.heap.size:=HA.o.lt;replace HA:=au (pJ.new HA.o);obtain⟨W1,hW1⟩:=ah (w.alloc (Obj.cells #[Value.int IntKind.i64 0] 3));rw[<-hW1] at HA |-;clear hW1;obtain⟨G,hG⟩:=ah (w.heap.size);rw[<-hG] at HA |-;clear hG
 by_cases h50:50<=l
 · have d2:decide ((50:Int)<=(l:Int))=true:=by simp;omega
   have C:=hid (UK K n g N G i cap L recv w W1 HA.o HC.o hgw (by have:=HQ.o;omega) (by have:=HQ.o;omega) hbig);clear HA;go_wp2_with fail;refine C.o.mono ?_;rintro r v1 ⟨i',rfl,e1,e2,h1⟩;have C2:=hid (UK K n g N G j cap L recv w v1 h1 HC.o hgw (by have:=HQ.o;omega) (by have:=HQ.o;omega) hbig);have E1:=aT e1 e2;clear C h1 e1 e2;go_wp2_with fail;refine C2.o.mono ?_;rintro r v2 ⟨j',rfl,e3,e4,h1⟩;have C3:=hid (UK K n g N G k cap L recv w v2 h1 HC.o hgw (by have:=HQ.o;omega) (by have:=HQ.o;omega) hbig);have E2:=aT e3 e4;clear C2 h1 e3 e4;go_wp2_with fail;refine C3.o.mono ?_;rintro r v3 ⟨k',rfl,e5,e6,h1⟩;have r1:Aside (a<=i'/\i'<b/\a<=j'/\j'<b/\a<=k'/\k'<b):=au (by have:=HQ.o;have:=E1.o;have:=E2.o;omega);have HA:=au h1;clear C3 h1 e5 e6;have C9:=hid (zA K n g N G i' j' k' cap L recv w v3 HA.o HC.o hgw (by have:=r1.o;omega) (by have:=r1.o;omega) (by have:=r1.o;omega) hbig);exact qu
 · have d2:decide ((50:Int)<=(l:Int))=false:=by simp;omega
   have r1:Aside (a<=i/\i<b/\a<=j/\j<b/\a<=k/\k<b):=au (by have:=HQ.o;omega);have C9:=hid (zA K n g N G i j k cap L recv w W1 HA.o HC.o hgw (by have:=r1.o;omega) (by have:=r1.o;omega) (by have:=r1.o;omega) hbig);exact qu
end
section
theorem Nc{K:Nat->Nat}{L0 L:List Nat}(hnd:L0.Nodup)(hK:∀ x ∈ L0,∀ y ∈ L0,K x=K y->x=y)(hP:L.Perm L0)(i j:Nat)(hi:i<L.length)(hj:j<L.length)(hne:i≠j):ky K L i≠ky K L j:=by
 have hn:L.Nodup:=hP.nodup_iff.2 hnd;intro h;unfold ky at h;have e1:L.getD i 0=L[i]:=by rw[aS,aY hi];rfl
 have e2:L.getD j 0=L[j]:=by rw[aS,aY hj];rfl
 rw[e1,e2] at h;have:=hK _ (hP.mem_iff.1 (iw hi)) _ (hP.mem_iff.1 (iw hj)) h;rcases Nat.lt_or_gt_of_ne hne with q|q
 · exact(Ah.1 hn i j hi hj q) this
 · exact(Ah.1 hn j i hj hi q) this.symm
structure Pq (K:Nat->Nat) (a b c d:Nat) (L0 L:List Nat):Prop where
 ac:a<=c
 cd:c<=d
 db:d<=b
 pm:Pm a b L0 L
 fl:Fl K c d L
 go:∀ M,Pm c d L M->Up K c d M->Up K a b M
theorem Pq.start{K:Nat->Nat}{a b:Nat}{L:List Nat}(hab:a<=b)(hF:Fl K a b L):Pq K a b a b L L:=⟨aB _,hab,aB _,Pm.refl _ _ _,hF,fun _ _ h=>h⟩
theorem Pq.move{K:Nat->Nat}{a b c d:Nat}{L0 L M:List Nat}(h:Pq K a b c d L0 L)(hP:Pm c d L M):Pq K a b c d L0 M :=
 ⟨h.ac,h.cd,h.db,h.pm.trans (hP.mono h.ac h.db),h.fl.pm hP,fun X hX hU=>h.go X (hP.trans hX) hU⟩
theorem Pq.left{K:Nat->Nat}{a b c d m:Nat}{L0 L M:List Nat}(h:Pq K a b c d L0 L)(hR:EI K c d m L)(hP:Pm c m L M)(hU:Up K c m M)(hn:∀ i j,i<d->j<d->i≠j->ky K M i≠ky K M j):Pq K a b (m+1) d L0 M:=by
 have h1:=hR.am;have h2:=hR.mb;have h3:=h.ac;have h4:=h.db;have hR':=hR.left hP;refine⟨af,af,h4,h.pm.trans (hP.mono h3 af),hR'.fl hn,fun X hX IE=>?_⟩;exact h.go X ((hP.mono (aB _) af).trans (hX.mono af (aB _))) ((hR'.right hX).up (hU.o hX (.inl af)) IE)
theorem Pq.right{K:Nat->Nat}{a b c d m:Nat}{L0 L M:List Nat}(h:Pq K a b c d L0 L)(hR:EI K c d m L)(hP:Pm (m+1) d L M)(hU:Up K (m+1) d M):Pq K a b c m L0 M:=by
 have h1:=hR.am;have h2:=hR.mb;have h3:=h.ac;have h4:=h.db;have hR':=hR.right hP;refine⟨h3,h1,af,h.pm.trans (hP.mono af h4),(h.fl.pm (hP.mono af (aB _))).left af,fun X hX IE=>?_⟩;exact h.go X ((hP.mono af (aB _)).trans (hX.mono (aB _) af)) ((hR'.left hX).up IE (hU.o hX (.inr af)))
theorem Pq.done{K:Nat->Nat}{a b c d:Nat}{L0 L M:List Nat}(h:Pq K a b c d L0 L)(hP:Pm c d L M)(hU:Up K c d M):Pm a b L0 M/\Up K a b M:=⟨(h.move hP).pm,h.go M hP hU⟩
theorem Up.snoc15{K:Nat->Nat}{a i:Nat}{L:List Nat}(h:Up K a i L)(hi:a<i)(hle:ky K L (i-1)<=ky K L i):Up K a (i+1) L:=by
 intro x y h1 h2 h3
 by_cases q:y=i
 · rw[q]
   by_cases r:x=i-1
   · rw[r];exact hle
   · have:=h x (i-1) h1 af af;omega
 · exact h x y h1 h2 af
theorem Ins.cut15{K:Nat->Nat}{a i:Nat}{L:List Nat}(h:Up K a (i+1) L)(hl:i+1<L.length)(ha:a<=i):Ins K a i i (sw L (i+1) i):=by
 refine Ins.start (fun x y h1 h2 h3=>?_) ha;rw[qL af af,qL af af,if_neg af,if_neg af,if_neg af,if_neg af];exact h x y h1 h2 af
theorem Up.UM{K:Nat->Nat}{a i p q:Nat}{L:List Nat}(h:Up K a i L)(hp:i<=p)(hq:i<=q)(hpl:p<L.length)(hql:q<L.length):Up K a i (sw L p q):=by
 intro x y h1 h2 h3;rw[qL hpl hql,qL hpl hql,if_neg af,if_neg af,if_neg af,if_neg af];exact h x y h1 h2 h3
end
end Go.Proofs.YtaejmlkaefnbhaaGreatDoor
