import Derived.Test.YtjppdacikihpdaaGreatDoorF2x
import Derived.Deep.CutRange
import Derived.Deep.RegionHeld3
set_option linter.unusedVariables false
set_option linter.unusedSimpArgs false
set_option maxHeartbeats 16000000
set_option maxRecDepth 20000
namespace Go.Proofs.YtjppdacikihpdaaGreatDoor
namespace J
end J
section
structure H2 (K:Nat->Nat) (f hi m:Nat) (L:List Nat):Prop where
 le:m<=hi
 hp:Hp K f 0 m L
 bt:∀x y,x<m->m<=y->y<hi->ky K L (f+x)<=ky K L (f+y)
 up:Up K (f+m) (f+hi) L
theorem H2.start{K:Nat->Nat}{f hi:Nat}{L:List Nat}(h:Hp K f 0 hi L):H2 K f hi hi L :=
 ⟨aA _,h,λx y h1 h2 h3=>by omega,λi j h1 h2 h3=>by omega⟩
theorem rQ{K:Nat->Nat}{L:List Nat}{i j:Nat}(hi:i<L.length)(hj:j<L.length)(k:Nat):ky K (sw L i j) k=if k=j then ky K L i else if k=i then ky K L j else ky K L k:=by
 unfold ky;rw[vP hi hj]
 split
 . rfl
 . split <;> rfl
theorem H2.mid{K:Nat->Nat}{f hi m:Nat}{L:List Nat}(h:H2 K f hi (m+1) L)(hl:f+hi<=L.length):Hp K f 1 m (sw L f (f+m)):=by
 have:=h.le;intro c h1 h2 h3;rw[rQ ae ae,rQ ae ae,if_neg ae,if_neg ae,if_neg ae,if_neg ae];exact h.hp c h1 ae (lD _)
theorem H2.step{K:Nat->Nat}{f hi m:Nat}{L L':List Nat}(h:H2 K f hi (m+1) L)(hl:f+hi<=L.length)(hP:Pm f (f+m) (sw L f (f+m)) L')(hH:Hp K f 0 m L'):H2 K f hi m L':=by
 have hle:=h.le;have top:=h.hp.top;have e:∀k,f+m<=k->ky K L' k=ky K (sw L f (f+m)) k:=λk hk=>by unfold ky;rw[hP.o k (.inr hk)]
 have s:∀k,ky K (sw L f (f+m)) k=if k=f+m then ky K L f else if k=f then ky K L (f+m) else ky K L k:=rQ ae ae
 have em:ky K L' (f+m)=ky K L f:=by rw[e _ (aA _),s,if_pos rfl]
 have eo:∀k,f+m<k->ky K L' k=ky K L k:=λk hk=>by rw[e _ ae,s,if_neg ae,if_neg ae]
 have X4:∀x,x<m->∃j,j<m+1/\ky K L' (f+x)=ky K L (f+j):=λx hx=>by
  obtain⟨j,j1,j2,j3⟩:=hP.X4 (f+x) ae ae;have:ky K L' (f+x)=ky K (sw L f (f+m)) j:=by unfold ky;rw[j3]
  rw[this,s,if_neg ae]
  by_cases q:j=f
  . rw[if_pos q];exact⟨m,ae,rfl⟩
  . rw[if_neg q];exact⟨j-f,ae,by rw[show f+(j-f)=j by omega]⟩
 refine⟨ae,hH,λx y h1 h2 h3=>?_,λi j h1 h2 h3=>?_⟩
 . obtain⟨j,j1,j2⟩:=X4 x h1;rw[j2]
   by_cases q:y=m
   . rw[q,em];exact top j j1
   . rw[eo _ ae];exact h.bt j y j1 ae h3
 . rw[eo j ae]
   by_cases q:i=f+m
   . rw[q,em];have:=h.bt 0 (j-f) ae ae ae;rw[show f+(j-f)=j by omega] at this;exact this
   . rw[eo i ae];exact h.up i j ae h2 h3
theorem H2.done{K:Nat->Nat}{f hi:Nat}{L:List Nat}(h:H2 K f hi 0 L):Up K f (f+hi) L:=h.up
structure Pt (K:Nat->Nat) (a b i j:Nat) (p:Nat) (L:List Nat):Prop where
 ai:a<i
 jb:j<b
 ij:i<=j+1
 pv:ky K L a=p
 lo:∀k,a<k->k<i->ky K L k<p
 hi:∀k,j<k->k<b->p<=ky K L k
theorem Pt.start{K:Nat->Nat}{a b q:Nat}{L:List Nat}(hb:b<=L.length)(hab:a+1<b)(q1:a<=q)(q2:q<b):Pt K a b (a+1) (b-1) (ky K L q) (sw L a q):=by
 refine⟨ae,ae,ae,?_,λk h1 h2=>by omega,λk h1 h2=>by omega⟩;rw[rQ ae ae]
 by_cases e:a=q
 . rw[if_pos e,e]
 . rw[if_neg e,if_pos rfl]
theorem Pt.right{K:Nat->Nat}{a b i j p:Nat}{L:List Nat}(h:Pt K a b i j p L)(hij:i<=j)(hlt:ky K L i<ky K L a):Pt K a b (i+1) j p L:=by
 have:=h.ai;refine⟨ae,h.jb,ae,h.pv,λk h1 h2=>?_,h.hi⟩
 by_cases e:k=i
 . rw[e,<-h.pv];exact hlt
 . exact h.lo k h1 ae
theorem Pt.left{K:Nat->Nat}{a b i j p:Nat}{L:List Nat}(h:Pt K a b i j p L)(hij:i<=j)(hge:ky K L a<=ky K L j):Pt K a b i (j-1) p L:=by
 have:=h.ai;have:=h.jb;refine⟨h.ai,ae,ae,h.pv,h.lo,λk h1 h2=>?_⟩
 by_cases e:k=j
 . rw[e,<-h.pv];exact hge
 . exact h.hi k ae h2
theorem Pt.swap{K:Nat->Nat}{a b i j p:Nat}{L:List Nat}(h:Pt K a b i j p L)(hb:b<=L.length)(hij:i<=j)(h1:ky K L a<=ky K L i)(h2:ky K L j<ky K L a):Pt K a b (i+1) (j-1) p (sw L i j):=by
 have a1:=h.ai;have a2:=h.jb;have hne:i≠j:=λe=>by rw[e] at h1;omega
 have s:∀k,ky K (sw L i j) k=if k=j then ky K L i else if k=i then ky K L j else ky K L k:=rQ ae ae
 have hp:=h.pv;refine⟨ae,ae,ae,?_,λk k1 k2=>?_,λk k1 k2=>?_⟩
 . rw[s,if_neg ae,if_neg ae];exact hp
 . rw[s,if_neg ae]
   by_cases e:k=i
   . rw[if_pos e,<-hp];exact h2
   . rw[if_neg e];exact h.lo k k1 ae
 . rw[s]
   by_cases e:k=j
   . rw[if_pos e,<-hp];exact h1
   . rw[if_neg e,if_neg ae];exact h.hi k ae k2
structure EF (K:Nat->Nat) (a b m:Nat) (L:List Nat):Prop where
 am:a<=m
 mb:m<b
 lo:∀k,a<=k->k<m->ky K L k<=ky K L m
 hi:∀k,m<k->k<b->ky K L m<=ky K L k
theorem Pt.done{K:Nat->Nat}{a b i j p:Nat}{L:List Nat}(h:Pt K a b i j p L)(hb:b<=L.length)(hij:j<i):EF K a b j (sw L j a):=by
 have a1:=h.ai;have a2:=h.jb;have a3:=h.ij;have s:∀k,ky K (sw L j a) k=if k=a then ky K L j else if k=j then ky K L a else ky K L k:=rQ ae ae
 have hm:ky K (sw L j a) j=p:=by
  rw[s]
  by_cases e:j=a
  . rw[if_pos e,e];exact h.pv
  . rw[if_neg e,if_pos rfl];exact h.pv
 refine⟨ae,ae,λk k1 k2=>?_,λk k1 k2=>?_⟩
 . rw[hm,s]
   by_cases e:k=a
   . rw[if_pos e];exact fU (h.lo j ae ae)
   . rw[if_neg e,if_neg ae];exact fU (h.lo k ae ae)
 . rw[hm,s,if_neg ae,if_neg ae];exact h.hi k k1 k2
theorem EF.left{K:Nat->Nat}{a b m:Nat}{L L':List Nat}(h:EF K a b m L)(hP:Pm a m L L'):EF K a b m L':=by
 have em:ky K L' m=ky K L m:=by unfold ky;rw[hP.o m (.inr (aA _))]
 refine⟨h.am,h.mb,λk k1 k2=>?_,λk k1 k2=>?_⟩
 . obtain⟨j,j1,j2,j3⟩:=hP.X4 k k1 k2;rw[em,show ky K L' k=ky K L j by unfold ky;rw[j3]];exact h.lo j j1 j2
 . rw[em,show ky K L' k=ky K L k by unfold ky;rw[hP.o k (.inr ae)]];exact h.hi k k1 k2
theorem EF.right{K:Nat->Nat}{a b m:Nat}{L L':List Nat}(h:EF K a b m L)(hP:Pm (m+1) b L L'):EF K a b m L':=by
 have em:ky K L' m=ky K L m:=by unfold ky;rw[hP.o m (.inl ae)]
 refine⟨h.am,h.mb,λk k1 k2=>?_,λk k1 k2=>?_⟩
 . rw[em,show ky K L' k=ky K L k by unfold ky;rw[hP.o k (.inl ae)]];exact h.lo k k1 k2
 . obtain⟨j,j1,j2,j3⟩:=hP.X4 k ae k2;rw[em,show ky K L' k=ky K L j by unfold ky;rw[j3]];exact h.hi j ae j2
theorem EF.up{K:Nat->Nat}{a b m:Nat}{L:List Nat}(h:EF K a b m L)(h1:Up K a m L)(h2:Up K (m+1) b L):Up K a b L:=by
 intro i j hi hij hj
 by_cases q1:j<m
 . exact h1 i j hi hij q1
 . by_cases q2:m<i
   . exact h2 i j ae hij hj
   . have e1:ky K L i<=ky K L m:=by
      by_cases q:i=m
      . rw[q];exact aA _
      . exact h.lo i hi ae
     have e2:ky K L m<=ky K L j:=by
      by_cases q:j=m
      . rw[q];exact aA _
      . exact h.hi j ae hj
     omega
theorem Up.o{K:Nat->Nat}{a b c d:Nat}{L L':List Nat}(h:Up K a b L)(hP:Pm c d L L')(hd:b<=c\/d<=a):Up K a b L':=by
 intro i j h1 h2 h3;rw[show ky K L' i=ky K L i by unfold ky;rw[hP.o i ae],show ky K L' j=ky K L j by unfold ky;rw[hP.o j ae]];exact h i j h1 h2 h3
def Fl(K:Nat->Nat)(a b:Nat)(L:List Nat):Prop:=0<a->∀k,a<=k->k<b->ky K L (a-1)<ky K L k
theorem Fl.pm{K:Nat->Nat}{a b:Nat}{L L':List Nat}(h:Fl K a b L)(hP:Pm a b L L'):Fl K a b L':=by
 intro ha k k1 k2;obtain⟨j,j1,j2,j3⟩:=hP.X4 k k1 k2;rw[show ky K L' (a-1)=ky K L (a-1) by unfold ky;rw[hP.o (a-1) (.inl ae)],show ky K L' k=ky K L j by unfold ky;rw[j3]];exact h ha j j1 j2
theorem Fl.left{K:Nat->Nat}{a b m:Nat}{L:List Nat}(h:Fl K a b L)(hm:m<=b):Fl K a m L:=λha k k1 k2=>h ha k k1 ae
theorem EF.fl{K:Nat->Nat}{a b m:Nat}{L:List Nat}(h:EF K a b m L)(hn:∀i j,i<b->j<b->i≠j->ky K L i≠ky K L j):Fl K (m+1) b L:=λ_ k k1 k2=>by
 have h1:=h.hi k ae k2;have h2:=hn m k ae k2 ae;rw[show m+1-1=m by omega];omega
end
section
open Go.RowKit J
theorem J8{q:Nat}(h:q<4611686018427387904):IntKind.i64.wrap (q:Int)=(q:Int):=by
 simp[IntKind.wrap,IntKind.bits,IntKind.signed];omega
theorem aG{u:World}{p:Addr}{v:Value}(h:u.cell? p=some v):p.block<u.heap.size:=by
 unfold World.cell? at h;rcases iE p.block u.heap.size with q|q
 . exact q
 . rw[yj q] at h;cases h
theorem yd{P:Prop}(h:P:=by
 rcases hv with rfl | rfl
 . exact((o4.bR hdr).set _ _).set _ _
 . exact((o4.bR hdr).set _ _).set _ _):P:=h
theorem GZ(K:Nat->Nat)(n g a b cap:Nat)(L:List Nat)(recv:Value)(w:World)(hO:df w g L)(hL:∀x ∈ L,x<n)(hab:a<=b)(hb:b<=L.length)(hbig:L.length<4611686018427387904)(hC:iX K n g recv w) :
 As 148 #[.slice (some ⟨g,0,none⟩) L.length cap,.int .i64 (a:Nat),.int .i64 (b:Nat),.func (.func 59) #[recv] #[]] w λr w'=>r=.returned (.tuple #[])/\∃L',df w' g L'/\Pm a b L L'/\Up K a b L'/\But g w w':=by
 obtain⟨N,hN⟩:=ah (L.length);have HX:=(gp hN hL hC);have B0:Aside (∃L',df w g L'/\Pm a b L L'/\Up K a (a+1) L'/\But g w w):=⟨L,hO,Pm.refl _ _ _,λi j h1 h2 h3=>by omega,But.refl _ _⟩;rw[<-hN] at hb hbig |-;have hab':a<4611686018427387904:=ae
 have hbb:b<4611686018427387904:=ae
 clear hN hL hC hO;go_enter Tryz.func148,Tryz.ntmps148;go_wp2
 go_loopg [8] (b-(a+1)) (λgk iv wr=>∃i:Nat,gk=b-i/\a+1<=i/\(i<=b\/i=a+1)/\iv=.int .i64 (i:Nat)/\Aside (∃L',df wr g L'/\Pm a b L L'/\Up K a i L'/\But g w wr))
 case atStart=>exact⟨a+1,rfl,aA _,.inr rfl,aN,B0.o⟩
 case round =>
  clear B0;obtain⟨i,jo,hai,hib,rfl,HA⟩:=hrel
  by_cases hi:i<b
  . have hd:decide ((i:Int)<(b:Nat))=true:=by simp;omega
    have J0:Aside (∃L',df wr g L'/\Pm a b L L'/\Ins K a i i L'/\But g w wr):=by
     obtain⟨L',h1,h2,h3,h4⟩:=HA.o;exact⟨L',h1,h2,Ins.start h3 ae,h4⟩
    clear HA;go_wp2
    go_loopg [9] i (λgk jv wr=>∃j:Nat,gk=j/\a<=j/\j<=i/\jv=.int .i64 (j:Nat)/\Aside (∃L',df wr g L'/\Pm a b L L'/\Ins K a i j L'/\But g w wr))
    case atStart=>exact⟨i,rfl,ae,aA _,aN,J0.o⟩
    case round =>
     clear J0;obtain⟨j,hgj,haj,hji,rfl,HA⟩:=hrel
     by_cases hj:a<j
     . have hd4:decide ((a:Int)<(j:Nat))=true:=by simp;omega
       go_upto_region 4 with fail
       go_cut [34] from 18 to 33 (λv wx=>∃c:Bool,v=.bool c/\Aside (∃L',df wx g L'/\Pm a b L L'/\Ins K a i j L'/\But g w wx/\(c=true↔ky K L' j<ky K L' (j-1))))
       case first =>
        obtain⟨L',o1,o2,o3,o4⟩:=HA.o;have hlen:L'.length=N:=by rw[o2.len,<-HX.o.1]
        have hjN:j<N:=ae
        have hdr:=(aD wr.heap.size wr).drew;have oD:=o1.below hdr o1.lt;have m1:L'.getD j 0<n:=HX.o.2.1 _ (o2.perm.mem_iff.1 (by rw[bF,aY ae];exact gQ _));have m2:L'.getD (j-1) 0<n:=HX.o.2.1 _ (o2.perm.mem_iff.1 (by rw[bF,aY ae];exact gQ _));have c1:=oD.cell j ae;have c2:=oD.cell (j-1) ae;obtain⟨x,hx⟩:=ah (L'.getD j 0);obtain⟨y,hy⟩:=ah (L'.getD (j-1) 0);rw[<-hx] at c1 m1;rw[<-hy] at c2 m2;have ej:((j:Int)-1)=((j-1:Nat):Int):=ae
        have hj1:j-1<N:=ae
        obtain⟨c,hc,C0⟩:=HX.o.r2 _ x y (o4.bR hdr) m1 m2;have C:=hid C0
        have HF:Aside (∀v:World,Below wr.drew.heap.size wr.drew v->∃L',df v g L'/\Pm a b L L'/\Ins K a i j L'/\But g w v/\(decide (c<0)=true↔ky K L' j<ky K L' (j-1))):=λv hv =>
         ⟨L',oD.below hv oD.lt,o2,o3,(o4.bR hdr).bR hv,by rw[decide_eq_true_iff,hc];unfold ky;rw[<-hx,<-hy]⟩
        clear HA o1 o2 o3 o4 hlen hdr oD m1 m2 hx hy hc C0;obtain⟨q,hq⟩:=ah (j-1);rw[<-hq] at c2;have hwq:IntKind.i64.wrap ((j:Int)-1)=(q:Int):=by rw[show(j:Int)-1=(q:Int) by omega];exact J8 ae
        have b1:(0:Int)<=(q:Int):=ae
        have b2:(q:Int)<(N:Int):=ae
        have b3:(j:Int)<(N:Int):=ae
        have hqN:q<N:=ae
        have kS:=bA c1 c2;have HQ:=ak hq;clear c1 c2 ej hq hj1
        go_region_held3 (λw'=>w'.cell? ⟨g,j,none⟩=some (.int .i64 (x:Nat))/\w'.cell? ⟨g,q,none⟩=some (.int .i64 (y:Nat))) (with_reducible exact kS.o) (first
         | (go_at_call 59
            with_reducible refine C.o.mono ?_
            rintro r v ⟨rfl,hb⟩;have G:=ak (HF.o v hb);have kS:Aside (v.cell? ⟨g,j,none⟩=some (.int .i64 (x:Nat))/\v.cell? ⟨g,q,none⟩=some (.int .i64 (y:Nat))):=⟨(hb.cell (p:=⟨g,j,none⟩) (aG kS.o.1)).trans kS.o.1,(hb.cell (p:=⟨g,q,none⟩) (aG kS.o.2)).trans kS.o.2⟩
            clear hb))
        all_goals
         go_wp2_with fail
         go_meet
         case rel=>exact⟨_,rfl,G.o⟩
       clear HA;obtain⟨c,rfl,HB⟩:=hcut
       cases c
       . have HN:Aside (∃L',df wc g L'/\Pm a b L L'/\Up K a (i+1) L'/\But g w wc):=by
          obtain⟨L',h1,h2,h3,h4,h5⟩:=HB.o;exact⟨L',h1,h2,h3.done (.inr (by rcases iE (ky K L' j) (ky K L' (j-1)) with q | q;exact absurd (h5.2 q) aM;exact q)),h4⟩
         clear HB;go_wp2;go_roundg (b-(i+1))
         case measure=>omega
         case rel=>exact⟨i+1,rfl,ae,.inl ae,by first | rfl | simp,HN.o⟩
       . obtain⟨q,hq⟩:=ah (j-1);have hwq:IntKind.i64.wrap ((j:Int)-1)=(q:Int):=by rw[show(j:Int)-1=(q:Int) by omega];exact J8 ae
         have b1:(0:Int)<=(q:Int):=ae
         have b2:(q:Int)<(N:Int):=ae
         have b3:(j:Int)<(N:Int):=ae
         have hqN:q<N:=ae
         have hjN:j<N:=ae
         have hne:j≠q:=ae
         have hne':q≠j:=ae
         have HQ:=ak hq;clear hq
         go_upto_region 6 with fail
         obtain⟨L',o1,o2,o3,o4,o5⟩:=HB.o;have hlen:L'.length=N:=by rw[o2.len,<-HX.o.1]
         have hdr:=(aD wc.heap.size wc).drew;have oD:=o1.below hdr o1.lt;have c1:=o1.cell j ae;have c2:=o1.cell q ae;have z1:=o1.frozen j;have z2:=o1.frozen q
         have HF:Aside (∀v:World,(v=(wc.drew.setCell ⟨g,j,none⟩ (.int .i64 (L'.getD q 0:Nat))).setCell ⟨g,q,none⟩ (.int .i64 (L'.getD j 0:Nat))\/v=(wc.drew.setCell ⟨g,q,none⟩ (.int .i64 (L'.getD j 0:Nat))).setCell ⟨g,j,none⟩ (.int .i64 (L'.getD q 0:Nat)))->∃L',df v g L'/\Pm a b L L'/\Ins K a i q L'/\But g w v):=λv hv=>by
          have hq:=HQ.o;refine⟨sw L' j q,?_,o2.trans (Pm.swap ae ae ae ae ae),?_,?_⟩
          . rcases hv with rfl | rfl
            . exact oD.sw j q
            . have:=(oD.set q (L'.getD j 0)).set j (L'.getD q 0);unfold sw;rw[yo _ _ hne];exact this
          . have:=o3.step ae hj (by rw[<-HQ.o];have:=o5.1 rfl;rw[<-HQ.o] at this;exact this);rw[<-HQ.o] at this;exact this
          . exact yd
         obtain⟨x,hx⟩:=ah (L'.getD j 0);obtain⟨y,hy⟩:=ah (L'.getD q 0);rw[<-hx] at c1 HF;rw[<-hy] at c2 HF;clear HB o1 o2 o3 o4 o5 hlen hdr oD hx hy
         go_region
         all_goals
          go_wp2;go_roundg q
          case measure=>have:=HQ.o;omega
          case rel=>exact⟨q,rfl,by have:=HQ.o;omega,by have:=HQ.o;omega,by first | rfl | simp,HF.o _ (by first | exact .inl rfl | exact .inr rfl)⟩
     . have hd4:decide ((a:Int)<(j:Nat))=false:=by simp;omega
       have HN:Aside (∃L',df wr g L'/\Pm a b L L'/\Up K a (i+1) L'/\But g w wr):=by
        obtain⟨L',h1,h2,h3,h4⟩:=HA.o;exact⟨L',h1,h2,h3.done (.inl ae),h4⟩
       clear HA
       go_upto_region 4 with fail
       go_region
       all_goals
        go_wp2;go_roundg (b-(i+1))
        case measure=>omega
        case rel=>exact⟨i+1,rfl,ae,.inl ae,by first | rfl | simp,by obtain⟨L',h1,h2,h3,h4⟩:=HN.o;exact⟨L',h1,h2,h3,h4.drew⟩⟩
  . have hd:decide ((i:Int)<(b:Nat))=false:=by simp;omega
    go_wp2;refine bodyPost_end (v:=.tuple #[]) (by simp[results,Tryz.results148,go_sem]) rfl ?_;obtain⟨L',h1,h2,h3,h4⟩:=HA.o;exact⟨rfl,L',h1,h2,λx y hx hxy hy=>h3 x y hx hxy ae,h4⟩
theorem wY{L L':List Nat}{a b n k:Nat}(hL:∀x ∈ L,x<n)(h:Pm a b L L')(hk:k<L'.length):L'.getD k 0<n :=
 hL _ (h.perm.mem_iff.1 (by rw[bF,aY hk];exact gQ _))
theorem aL{x:Int}{q:Nat}(h:x=(q:Int))(hq:q<4611686018427387904):IntKind.i64.wrap x=(q:Int):=by rw[h];exact J8 hq
theorem yW{P:Prop}(h:P:=by
 go_wp2_with fail
 go_meet
 case rel=>exact⟨decide (z<0),rfl,G.o⟩):P:=h
theorem ZS{P:Prop}(h:P:=by
 go_region
 all_goals
  go_wp2_with fail
  go_meet
  case rel=>exact⟨rfl,HF.o _ (by first | exact .inl rfl | exact .inr rfl)⟩):P:=h
theorem ZD{P:Prop}(h:P:=by
 go_upto_region 5 with fail
 go_cut [58] from 43 to 57 (λv wx=>∃t:Bool,v=.bool (!t)/\Aside (∃L',df wx g L'/\Pm (f+lo) (f+hi) L L'/\Sf K f lo hi r L'/\But g w wx/\(∀k,0<k->k<hi->(k-1)/2=r->ky K L' (f+k)<=ky K L' (f+c))/\(t=true↔ky K L' pr<ky K L' p1)))
 case first =>
  obtain⟨L',o1,o2,o3,o4,o5⟩:=HA.o;have hlen:L'.length=N:=by rw[o2.len,<-HX.o.1]
  have hdr:=(aD W3.heap.size W3).drew;have oD:=o1.below hdr o1.lt;have m1:=wY HX.o.2.1 o2 (k:=pr) ae;have m2:=wY HX.o.2.1 o2 (k:=p1) ae;have c1':=oD.cell pr ae;have c2':=oD.cell p1 ae;obtain⟨x,hx⟩:=ah (L'.getD pr 0);obtain⟨y,hy⟩:=ah (L'.getD p1 0);rw[<-hx] at c1' m1;rw[<-hy] at c2' m2;obtain⟨z,hz,C0⟩:=HX.o.r2 _ x y (o4.bR hdr) m1 m2;have C:=hid C0
  have HF:Aside (∀v:World,Below W3.drew.heap.size W3.drew v->∃L',df v g L'/\Pm (f+lo) (f+hi) L L'/\Sf K f lo hi r L'/\But g w v/\(∀k,0<k->k<hi->(k-1)/2=r->ky K L' (f+k)<=ky K L' (f+c))/\(decide (z<0)=true↔ky K L' pr<ky K L' p1)):=λv hv =>
   ⟨L',oD.below hv oD.lt,o2,o3,(o4.bR hdr).bR hv,o5,by rw[decide_eq_true_iff,hz];unfold ky;rw[<-hx,<-hy]⟩
  have kS:=bA c1' c2';clear HA o1 o2 o3 o4 o5 hlen hdr oD m1 m2 hx hy hz C0 c1' c2'
  go_region_held3 (λw'=>w'.cell? ⟨g,pr,none⟩=some (.int .i64 (x:Nat))/\w'.cell? ⟨g,p1,none⟩=some (.int .i64 (y:Nat))) (with_reducible exact kS.o) (first
   | (go_at_call 59
      with_reducible refine C.o.mono ?_
      rintro r v ⟨rfl,hb⟩;have G:=ak (HF.o v hb);have kS:Aside (v.cell? ⟨g,pr,none⟩=some (.int .i64 (x:Nat))/\v.cell? ⟨g,p1,none⟩=some (.int .i64 (y:Nat))):=⟨(hb.cell (p:=⟨g,pr,none⟩) (aG kS.o.1)).trans kS.o.1,(hb.cell (p:=⟨g,p1,none⟩) (aG kS.o.2)).trans kS.o.2⟩
      clear hb))
  all_goals
   go_wp2_with fail
   go_meet
   case rel=>exact⟨decide (z<0),rfl,G.o⟩
 clear HA;obtain⟨t,rfl,HA⟩:=hcut;obtain⟨W5,QT⟩:=ah wc;subst QT
 cases t
 . have HN:Aside (∃L',df W5 g L'/\Pm (f+lo) (f+hi) L L'/\Hp K f lo hi L'/\But g w W5):=by
    obtain⟨L',o1,o2,o3,o4,o5,o6⟩:=HA.o;refine⟨L',o1,o2,o3.done (λk k1 k2 k3=>?_),o4⟩;have:=o5 k k1 k2 k3;have e:ky K L' p1<=ky K L' pr:=mq (λq=>absurd (o6.2 q) aM);have hq:=HQ.o;rw[show f+r=pr by omega];rw[show f+c=p1 by omega] at this;omega
   clear HA;go_wp2;refine aH (v:=.tuple #[]) (by simp[results,Tryz.results189,go_sem]) rfl ?_;exact⟨rfl,HN.o⟩
 . have hne:pr≠p1:=by have:=HQ.o;omega
   have hne':p1≠pr:=by have:=HQ.o;omega
   go_upto_region 6 with fail
   go_cut [11] from 59 to 80 (λv wx=>v=.int .i64 (c:Nat)/\Aside (∃L',df wx g L'/\Pm (f+lo) (f+hi) L L'/\Sf K f lo hi c L'/\But g w wx))
   case first =>
    obtain⟨L',o1,o2,o3,o4,o5,o6⟩:=HA.o;have hlen:L'.length=N:=by rw[o2.len,<-HX.o.1]
    have hdr:=(aD W5.heap.size W5).drew;have oD:=o1.below hdr o1.lt;have c1':=o1.cell pr ae;have c2':=o1.cell p1 ae;have z1:=o1.frozen pr;have z2:=o1.frozen p1
    have HF:Aside (∀v:World,(v=(W5.drew.setCell ⟨g,pr,none⟩ (.int .i64 (L'.getD p1 0:Nat))).setCell ⟨g,p1,none⟩ (.int .i64 (L'.getD pr 0:Nat))\/v=(W5.drew.setCell ⟨g,p1,none⟩ (.int .i64 (L'.getD pr 0:Nat))).setCell ⟨g,pr,none⟩ (.int .i64 (L'.getD p1 0:Nat)))->∃L',df v g L'/\Pm (f+lo) (f+hi) L L'/\Sf K f lo hi c L'/\But g w v):=λv hv=>by
     have hq:=HQ.o;refine⟨sw L' pr p1,?_,o2.trans (Pm.swap ae ae ae ae ae),?_,?_⟩
     . rcases hv with rfl | rfl
       . exact oD.sw pr p1
       . have:=(oD.set p1 (L'.getD pr 0)).set pr (L'.getD p1 0);unfold sw;rw[yo _ _ hne];exact this
     . have e1:pr=f+r:=ae
       have e2:p1=f+c:=ae
       have:=o6.1 rfl;rw[e1,e2] at this |-;exact o3.step ae ae ae this o5
     . rcases hv with rfl | rfl
       . exact((o4.bR hdr).set _ _).set _ _
       . exact((o4.bR hdr).set _ _).set _ _
    obtain⟨x,hx⟩:=ah (L'.getD pr 0);obtain⟨y,hy⟩:=ah (L'.getD p1 0);rw[<-hx] at c1' HF;rw[<-hy] at c2' HF;clear HA o1 o2 o3 o4 o5 o6 hlen hdr oD hx hy
    go_region
    all_goals
     go_wp2_with fail
     go_meet
     case rel=>exact⟨rfl,HF.o _ (by first | exact .inl rfl | exact .inr rfl)⟩
   clear HA;obtain⟨rfl,HA⟩:=hcut;go_wp2;go_roundg (hi-c)
   case measure=>have:=HQ.o;omega
   case rel=>exact⟨c,rfl,.inl (by have:=HQ.o;omega),by have:=HQ.o;omega,by first | rfl | simp,HA.o⟩):P:=h
theorem J9(K:Nat->Nat)(n g f lo hi cap:Nat)(L:List Nat)(recv:Value)(w:World)(hO:df w g L)(hL:∀x ∈ L,x<n)(hl:f+hi<=L.length)(hlo:lo<1152921504606846976)(hbig:L.length<1152921504606846976)(hC:iX K n g recv w)(hH:Hp K f (lo+1) hi L) :
 As 189 #[.slice (some ⟨g,0,none⟩) L.length cap,.int .i64 (lo:Nat),.int .i64 (hi:Nat),.int .i64 (f:Nat),.func (.func 59) #[recv] #[]] w λr w'=>r=.returned (.tuple #[])/\∃L',df w' g L'/\Pm (f+lo) (f+hi) L L'/\Hp K f lo hi L'/\But g w w':=by
 obtain⟨N,hN⟩:=ah (L.length);have HX:=(gp hN hL hC);have B0:Aside (∃L',df w g L'/\Pm (f+lo) (f+hi) L L'/\Sf K f lo hi lo L'/\But g w w):=⟨L,hO,Pm.refl _ _ _,Sf.start hH,But.refl _ _⟩;rw[<-hN] at hl hbig |-;clear hN hL hC hO hH;go_enter Tryz.func189,Tryz.ntmps189;go_wp2
 go_loopg [10] (hi-lo) (λgk rv wr=>∃r:Nat,gk=hi-r/\(r<hi\/r=lo)/\lo<=r/\rv=.int .i64 (r:Nat)/\Aside (∃L',df wr g L'/\Pm (f+lo) (f+hi) L L'/\Sf K f lo hi r L'/\But g w wr))
 case atStart=>exact⟨lo,rfl,.inr rfl,aA _,aN,B0.o⟩
 case round =>
  clear B0;obtain⟨r,jo,hr,hlr,rfl,HA⟩:=hrel;have hrb:r<1152921504606846976:=ae
  obtain⟨c,hc⟩:=ah (2*r+1);have w1:IntKind.i64.wrap (2*(r:Int))=2*(r:Int):=by rw[aL (q:=2*r) ae ae];omega
  have w2:IntKind.i64.wrap (2*(r:Int)+1)=(c:Int):=aL ae ae
  by_cases h1:hi<=c
  . have d1:decide ((hi:Int)<=(c:Nat))=true:=by simp;omega
    have HN:Aside (∃L',df wr g L'/\Pm (f+lo) (f+hi) L L'/\Hp K f lo hi L'/\But g w wr):=by
     obtain⟨L',o1,o2,o3,o4⟩:=HA.o;exact⟨L',o1,o2,o3.done (λk k1 k2 k3=>by omega),o4⟩
    have HQ:=ak hc;clear HA hc;go_wp2;refine bodyPost_end (v:=.tuple #[]) (by simp[results,Tryz.results189,go_sem]) rfl ?_;exact⟨rfl,HN.o⟩
  . have d1:decide ((hi:Int)<=(c:Nat))=false:=by simp;omega
    obtain⟨c1,hc1⟩:=ah (c+1);obtain⟨pr,hpr⟩:=ah (f+r);obtain⟨p1,hp1⟩:=ah (f+c);obtain⟨p2,hp2⟩:=ah (f+c1);have w3:IntKind.i64.wrap ((c:Int)+1)=(c1:Int):=aL ae ae;have w4:IntKind.i64.wrap ((f:Int)+(r:Int))=(pr:Int):=aL ae ae;have w5:IntKind.i64.wrap ((f:Int)+(c:Int))=(p1:Int):=aL ae ae;have w6:IntKind.i64.wrap ((f:Int)+(c1:Int))=(p2:Int):=aL ae ae;have w7:IntKind.i64.wrap ((p1:Int)+1)=(p2:Int):=aL ae ae;have b1:(pr:Int)<(N:Int):=ae
    have b2:(p1:Int)<(N:Int):=ae
    have b3:pr<N:=ae
    have b4:p1<N:=ae
    by_cases h2:c1<hi
    . have d2:decide ((c1:Int)<(hi:Nat))=true:=by simp;omega
      have b5:(p2:Int)<(N:Int):=ae
      have b6:p2<N:=ae
      have HQ:=(gy hc hc1 hpr hp1 hp2);clear hc hc1 hpr hp1 hp2
      go_upto_region 3 with fail
      go_cut [40] from 19 to 39 (λv wx=>∃t:Bool,v=.bool t/\Aside (∃L',df wx g L'/\Pm (f+lo) (f+hi) L L'/\Sf K f lo hi r L'/\But g w wx/\(t=true↔ky K L' p1<ky K L' p2)))
      case first =>
       obtain⟨L',o1,o2,o3,o4⟩:=HA.o;have hlen:L'.length=N:=by rw[o2.len,<-HX.o.1]
       have hdr:=(aD wr.heap.size wr).drew;have oD:=o1.below hdr o1.lt;have m1:=wY HX.o.2.1 o2 (k:=p1) ae;have m2:=wY HX.o.2.1 o2 (k:=p2) ae;have c1':=oD.cell p1 ae;have c2':=oD.cell p2 ae;obtain⟨x,hx⟩:=ah (L'.getD p1 0);obtain⟨y,hy⟩:=ah (L'.getD p2 0);rw[<-hx] at c1' m1;rw[<-hy] at c2' m2;obtain⟨z,hz,C0⟩:=HX.o.r2 _ x y (o4.bR hdr) m1 m2;have C:=hid C0
       have HF:Aside (∀v:World,Below wr.drew.heap.size wr.drew v->∃L',df v g L'/\Pm (f+lo) (f+hi) L L'/\Sf K f lo hi r L'/\But g w v/\(decide (z<0)=true↔ky K L' p1<ky K L' p2)):=λv hv =>
        ⟨L',oD.below hv oD.lt,o2,o3,(o4.bR hdr).bR hv,by rw[decide_eq_true_iff,hz];unfold ky;rw[<-hx,<-hy]⟩
       have kS:=bA c1' c2';clear HA o1 o2 o3 o4 hlen hdr oD m1 m2 hx hy hz C0 c1' c2'
       go_region_held3 (λw'=>w'.cell? ⟨g,p1,none⟩=some (.int .i64 (x:Nat))/\w'.cell? ⟨g,p2,none⟩=some (.int .i64 (y:Nat))) (with_reducible exact kS.o) (first
        | (go_at_call 59
           with_reducible refine C.o.mono ?_
           rintro r v ⟨rfl,hb⟩;have G:=ak (HF.o v hb);have kS:Aside (v.cell? ⟨g,p1,none⟩=some (.int .i64 (x:Nat))/\v.cell? ⟨g,p2,none⟩=some (.int .i64 (y:Nat))):=⟨(hb.cell (p:=⟨g,p1,none⟩) (aG kS.o.1)).trans kS.o.1,(hb.cell (p:=⟨g,p2,none⟩) (aG kS.o.2)).trans kS.o.2⟩
           clear hb))
       all_goals
        exact yW
      clear HA;obtain⟨t,rfl,HA⟩:=hcut;obtain⟨W3,hW3⟩:=ah wc;subst hW3
      cases t
      . replace HA:Aside (∃L',df W3 g L'/\Pm (f+lo) (f+hi) L L'/\Sf K f lo hi r L'/\But g w W3/\(∀k,0<k->k<hi->(k-1)/2=r->ky K L' (f+k)<=ky K L' (f+c))):=by
         obtain⟨L',o1,o2,o3,o4,o5⟩:=HA.o;obtain⟨hc,hc1,hpr,hp1,hp2⟩:=HQ.o;refine⟨L',o1,o2,o3,o4,λk k1 k2 k3=>?_⟩;have e:ky K L' p2<=ky K L' p1:=mq (λq=>absurd (o5.2 q) aM)
         by_cases q:k=c
         . rw[q];exact aA _
         . rw[show f+k=p2 by omega,<-hp1];exact e
        exact ZD
      . replace HA:Aside (∃L',df W3 g L'/\Pm (f+lo) (f+hi) L L'/\Sf K f lo hi r L'/\But g w W3/\(∀k,0<k->k<hi->(k-1)/2=r->ky K L' (f+k)<=ky K L' (f+c1))):=by
         obtain⟨L',o1,o2,o3,o4,o5⟩:=HA.o;obtain⟨hc,hc1,hpr,hp1,hp2⟩:=HQ.o;refine⟨L',o1,o2,o3,o4,λk k1 k2 k3=>?_⟩;have e:=o5.1 rfl
         by_cases q:k=c1
         . rw[q];exact aA _
         . rw[show f+k=p1 by omega,<-hp2];exact fU e
        go_upto_region 5 with fail
        go_cut [58] from 43 to 57 (λv wx=>∃t:Bool,v=.bool (!t)/\Aside (∃L',df wx g L'/\Pm (f+lo) (f+hi) L L'/\Sf K f lo hi r L'/\But g w wx/\(∀k,0<k->k<hi->(k-1)/2=r->ky K L' (f+k)<=ky K L' (f+c1))/\(t=true↔ky K L' pr<ky K L' p2)))
        case first =>
         obtain⟨L',o1,o2,o3,o4,o5⟩:=HA.o;have hlen:L'.length=N:=by rw[o2.len,<-HX.o.1]
         have hdr:=(aD W3.heap.size W3).drew;have oD:=o1.below hdr o1.lt;have m1:=wY HX.o.2.1 o2 (k:=pr) ae;have m2:=wY HX.o.2.1 o2 (k:=p2) ae;have c1':=oD.cell pr ae;have c2':=oD.cell p2 ae;obtain⟨x,hx⟩:=ah (L'.getD pr 0);obtain⟨y,hy⟩:=ah (L'.getD p2 0);rw[<-hx] at c1' m1;rw[<-hy] at c2' m2;obtain⟨z,hz,C0⟩:=HX.o.r2 _ x y (o4.bR hdr) m1 m2;have C:=hid C0
         have HF:Aside (∀v:World,Below W3.drew.heap.size W3.drew v->∃L',df v g L'/\Pm (f+lo) (f+hi) L L'/\Sf K f lo hi r L'/\But g w v/\(∀k,0<k->k<hi->(k-1)/2=r->ky K L' (f+k)<=ky K L' (f+c1))/\(decide (z<0)=true↔ky K L' pr<ky K L' p2)):=λv hv =>
          ⟨L',oD.below hv oD.lt,o2,o3,(o4.bR hdr).bR hv,o5,by rw[decide_eq_true_iff,hz];unfold ky;rw[<-hx,<-hy]⟩
         have kS:=bA c1' c2';clear HA o1 o2 o3 o4 o5 hlen hdr oD m1 m2 hx hy hz C0 c1' c2'
         go_region_held3 (λw'=>w'.cell? ⟨g,pr,none⟩=some (.int .i64 (x:Nat))/\w'.cell? ⟨g,p2,none⟩=some (.int .i64 (y:Nat))) (with_reducible exact kS.o) (first
          | (go_at_call 59
             with_reducible refine C.o.mono ?_
             rintro r v ⟨rfl,hb⟩;have G:=ak (HF.o v hb);have kS:Aside (v.cell? ⟨g,pr,none⟩=some (.int .i64 (x:Nat))/\v.cell? ⟨g,p2,none⟩=some (.int .i64 (y:Nat))):=⟨(hb.cell (p:=⟨g,pr,none⟩) (aG kS.o.1)).trans kS.o.1,(hb.cell (p:=⟨g,p2,none⟩) (aG kS.o.2)).trans kS.o.2⟩
             clear hb))
         all_goals
          exact yW
        clear HA;obtain⟨t,rfl,HA⟩:=hcut;obtain⟨W5,QT⟩:=ah wc;subst QT
        cases t
        . have HN:Aside (∃L',df W5 g L'/\Pm (f+lo) (f+hi) L L'/\Hp K f lo hi L'/\But g w W5):=by
           obtain⟨L',o1,o2,o3,o4,o5,o6⟩:=HA.o;refine⟨L',o1,o2,o3.done (λk k1 k2 k3=>?_),o4⟩;have:=o5 k k1 k2 k3;have e:ky K L' p2<=ky K L' pr:=mq (λq=>absurd (o6.2 q) aM);have hq:=HQ.o;rw[show f+r=pr by omega];rw[show f+c1=p2 by omega] at this;omega
          clear HA;go_wp2;refine aH (v:=.tuple #[]) (by simp[results,Tryz.results189,go_sem]) rfl ?_;exact⟨rfl,HN.o⟩
        . have hne:pr≠p2:=by have:=HQ.o;omega
          have hne':p2≠pr:=by have:=HQ.o;omega
          go_upto_region 6 with fail
          go_cut [11] from 59 to 80 (λv wx=>v=.int .i64 (c1:Nat)/\Aside (∃L',df wx g L'/\Pm (f+lo) (f+hi) L L'/\Sf K f lo hi c1 L'/\But g w wx))
          case first =>
           obtain⟨L',o1,o2,o3,o4,o5,o6⟩:=HA.o;have hlen:L'.length=N:=by rw[o2.len,<-HX.o.1]
           have hdr:=(aD W5.heap.size W5).drew;have oD:=o1.below hdr o1.lt;have c1':=o1.cell pr ae;have c2':=o1.cell p2 ae;have z1:=o1.frozen pr;have z2:=o1.frozen p2
           have HF:Aside (∀v:World,(v=(W5.drew.setCell ⟨g,pr,none⟩ (.int .i64 (L'.getD p2 0:Nat))).setCell ⟨g,p2,none⟩ (.int .i64 (L'.getD pr 0:Nat))\/v=(W5.drew.setCell ⟨g,p2,none⟩ (.int .i64 (L'.getD pr 0:Nat))).setCell ⟨g,pr,none⟩ (.int .i64 (L'.getD p2 0:Nat)))->∃L',df v g L'/\Pm (f+lo) (f+hi) L L'/\Sf K f lo hi c1 L'/\But g w v):=λv hv=>by
            have hq:=HQ.o;refine⟨sw L' pr p2,?_,o2.trans (Pm.swap ae ae ae ae ae),?_,?_⟩
            . rcases hv with rfl | rfl
              . exact oD.sw pr p2
              . have:=(oD.set p2 (L'.getD pr 0)).set pr (L'.getD p2 0);unfold sw;rw[yo _ _ hne];exact this
            . have e1:pr=f+r:=ae
              have e2:p2=f+c1:=ae
              have:=o6.1 rfl;rw[e1,e2] at this |-;exact o3.step ae ae ae this o5
            . exact yd
           obtain⟨x,hx⟩:=ah (L'.getD pr 0);obtain⟨y,hy⟩:=ah (L'.getD p2 0);rw[<-hx] at c1' HF;rw[<-hy] at c2' HF;clear HA o1 o2 o3 o4 o5 o6 hlen hdr oD hx hy
           exact ZS
          clear HA;obtain⟨rfl,HA⟩:=hcut;go_wp2;go_roundg (hi-c1)
          case measure=>have:=HQ.o;omega
          case rel=>exact⟨c1,rfl,.inl (by have:=HQ.o;omega),by have:=HQ.o;omega,by first | rfl | simp,HA.o⟩
    . have d2:decide ((c1:Int)<(hi:Nat))=false:=by simp;omega
      have HQ:=(gy hc hc1 hpr hp1 hp2)
      have HD:Aside (∃L',df wr.drew g L'/\Pm (f+lo) (f+hi) L L'/\Sf K f lo hi r L'/\But g w wr.drew/\(∀k,0<k->k<hi->(k-1)/2=r->ky K L' (f+k)<=ky K L' (f+c))):=by
       obtain⟨L',o1,o2,o3,o4⟩:=HA.o;refine⟨L',o1,o2,o3,o4.drew,λk k1 k2 k3=>?_⟩;rw[show k=c by omega];exact aA _
      clear HA hc hc1 hpr hp1 hp2
      go_upto_region 3 with fail
      go_cut [40] from 19 to 39 (λv wx=>v=.bool false/\wx=wr.drew)
      case first =>
       go_region
       all_goals
        go_wp2_with fail
        go_meet
        case rel=>exact Xs
      obtain⟨rfl,hwx⟩:=hcut;rw[<-hwx] at HD;clear hwx;have HA:=HD;clear HD;obtain⟨W3,hW3⟩:=ah wc;subst hW3
      exact ZD
def aK(n g N:Nat)(w wr:World)(S:List Nat->Prop):Prop:=∃L,df wr g L/\L.length=N/\(∀k,k<N->L.getD k 0<n)/\But g w wr/\S L
theorem aK.below{n g N:Nat}{w wr v:World}{S:List Nat->Prop}(h:aK n g N w wr S)(hb:An wr v):aK n g N w v S:=by
 obtain⟨L,h1,h2,h3,h4,h5⟩:=h;exact⟨L,h1.below hb h1.lt,h2,h3,h4.bR hb,h5⟩
theorem aK.drew{n g N:Nat}{w wr:World}{S:List Nat->Prop}(h:aK n g N w wr S):aK n g N w wr.drew S:=h.below (aD wr.heap.size wr).drew
theorem aK.imp{n g N:Nat}{w wr:World}{S T:List Nat->Prop}(h:aK n g N w wr S)(f:∀L,L.length=N->S L->T L):aK n g N w wr T:=by
 obtain⟨L,h1,h2,h3,h4,h5⟩:=h;exact⟨L,h1,h2,h3,h4,f L h2 h5⟩
theorem aK.lt{n g N:Nat}{w wr:World}{S:List Nat->Prop}(h:aK n g N w wr S):g<wr.heap.size:=by
 obtain⟨L,h1,h2,h3,h4,h5⟩:=h;exact h1.lt
theorem aK.cmp{K:Nat->Nat}{n g N:Nat}{recv:Value}{w wr:World}{S:List Nat->Prop}(h:aK n g N w wr S)(hC:iX K n g recv w)(i j:Nat)(hi:i<N)(hj:j<N) :
 ∃(x y:Nat) (z:Int),wr.cell? ⟨g,i,none⟩=some (.int .i64 (x:Nat))/\wr.cell? ⟨g,j,none⟩=some (.int .i64 (y:Nat)) /\
   As 59 #[recv,.int .i64 (x:Nat),.int .i64 (y:Nat)] wr (λr w'=>r=.returned (.int .i64 z)/\An wr w') /\
   (∀v:World,An wr v->aK n g N w v (λL=>S L/\(decide (z<0)=true↔ky K L i<ky K L j))):=by
 obtain⟨L,h1,h2,h3,h4,h5⟩:=h;obtain⟨z,hz,C⟩:=hC wr (L.getD i 0) (L.getD j 0) h4 (h3 i hi) (h3 j hj);refine⟨_,_,z,h1.cell i ae,h1.cell j ae,C,λv hv=>⟨L,h1.below hv h1.lt,h2,h3,h4.bR hv,h5,?_⟩⟩;rw[decide_eq_true_iff,hz];rfl
theorem aK.zM{K:Nat->Nat}{n g N:Nat}{recv:Value}{w wr:World}{S:List Nat->Prop}(h:aK n g N w wr S)(hC:iX K n g recv w)(i j:Nat)(hi:i<N)(hj:j<N) :
 ∃(x y:Nat) (z:Int),wr.drew.cell? ⟨g,i,none⟩=some (.int .i64 (x:Nat))/\wr.drew.cell? ⟨g,j,none⟩=some (.int .i64 (y:Nat)) /\
   As 59 #[recv,.int .i64 (x:Nat),.int .i64 (y:Nat)] wr.drew (λr w'=>r=.returned (.int .i64 z)/\Below wr.drew.heap.size wr.drew w') /\
   (∀v:World,Below wr.drew.heap.size wr.drew v->aK n g N w v (λL=>S L/\(decide (z<0)=true↔ky K L i<ky K L j))):=h.drew.cmp hC i j hi hj
theorem PN(L:List Nat)(i j:Nat):(L.set j (L.getD i 0)).set i (L.getD j 0)=sw L i j:=by
 unfold sw
 by_cases h:i=j
 . subst h;rfl
 . rw[yo _ _ h]
theorem aK.swap{n g N:Nat}{w wr:World}{S:List Nat->Prop}(h:aK n g N w wr S)(i j:Nat)(hi:i<N)(hj:j<N) :
 ∃(x y:Nat),wr.cell? ⟨g,i,none⟩=some (.int .i64 (x:Nat))/\wr.cell? ⟨g,j,none⟩=some (.int .i64 (y:Nat))/\wr.frozen? ⟨g,i,none⟩=false/\wr.frozen? ⟨g,j,none⟩=false /\
   (∀v:World,(v=(wr.drew.setCell ⟨g,i,none⟩ (.int .i64 (y:Nat))).setCell ⟨g,j,none⟩ (.int .i64 (x:Nat))\/v=(wr.drew.setCell ⟨g,j,none⟩ (.int .i64 (x:Nat))).setCell ⟨g,i,none⟩ (.int .i64 (y:Nat)))->aK n g N w v (λL=>∃M,S M/\M.length=N/\L=sw M i j)):=by
 obtain⟨L,h1,h2,h3,h4,h5⟩:=h;have hdr:=(aD wr.heap.size wr).drew;have oD:=h1.below hdr h1.lt;refine⟨_,_,h1.cell i ae,h1.cell j ae,h1.frozen i,h1.frozen j,λv hv=>⟨sw L i j,?_,by rw[Ut,h2],λk hk=>?_,?_,L,h5,h2,rfl⟩⟩
 . rcases hv with rfl | rfl
   . exact oD.sw i j
   . rw[<-PN];exact(oD.set j (L.getD i 0)).set i (L.getD j 0)
 . rw[vP ae ae]
   split
   . exact h3 i hi
   . split
     . exact h3 j hj
     . exact h3 k hk
 . rcases hv with rfl | rfl
   . exact((h4.bR hdr).set _ _).set _ _
   . exact((h4.bR hdr).set _ _).set _ _
theorem aK.use{n g N:Nat}{w wr:World}{S:List Nat->Prop}(h:aK n g N w wr S):∃L,S L/\L.length=N/\aK n g N wr wr (λM=>M=L)/\But g w wr:=by
 obtain⟨L,h1,h2,h3,h4,h5⟩:=h;exact⟨L,h5,h2,⟨L,h1,h2,h3,But.refl _ _,rfl⟩,h4⟩
theorem aK.re{n g N:Nat}{w wr v:World}{S:List Nat->Prop}(h:aK n g N wr v S)(hB:But g w wr):aK n g N w v S:=by
 obtain⟨L,h1,h2,h3,h4,h5⟩:=h;exact⟨L,h1,h2,h3,hB.trans h4,h5⟩
theorem iX.at{K:Nat->Nat}{n g:Nat}{recv:Value}{w wr:World}(h:iX K n g recv w)(hB:But g w wr):iX K n g recv wr:=λu x y hu hx hy=>h u x y (hB.trans hu) hx hy
theorem Qby{P:Prop}(h:P:=by
 obtain⟨k,hk,rfl⟩:=CG.1 hx;have:=h3 k hk;rw[bF,aY hk] at this;exact this):P:=h
theorem Zn(K:Nat->Nat)(n g N f lo hi cap:Nat)(L:List Nat)(recv:Value)(w:World)(hS:aK n g N w w (λM=>M=L))(hC:iX K n g recv w)(hl:f+hi<=N)(hlo:lo<1152921504606846976)(hbig:N<1152921504606846976)(hH:Hp K f (lo+1) hi L) :
 As 189 #[.slice (some ⟨g,0,none⟩) N cap,.int .i64 (lo:Nat),.int .i64 (hi:Nat),.int .i64 (f:Nat),.func (.func 59) #[recv] #[]] w λr w'=>r=.returned (.tuple #[])/\aK n g N w w' (λM=>Pm (f+lo) (f+hi) L M/\Hp K f lo hi M):=by
 obtain⟨M,h1,h2,h3,h4,rfl⟩:=hS;subst h2
 have hL:∀x ∈ M,x<n:=λx hx=>by
  exact Qby
 refine(J9 K n g f lo hi cap M recv w h1 hL hl hlo hbig hC hH).mono ?_;rintro r v ⟨rfl,L',k1,k2,k3,k4⟩;exact⟨rfl,L',k1,k2.len,λk hk=>hL _ (k2.perm.mem_iff.1 (by rw[bF,aY (by rw[k2.len];exact hk)];exact gQ _)),k4,k2,k3⟩
theorem insX(K:Nat->Nat)(n g N a b cap:Nat)(L:List Nat)(recv:Value)(w:World)(hS:aK n g N w w (λM=>M=L))(hC:iX K n g recv w)(hab:a<=b)(hb:b<=N)(hbig:N<1152921504606846976) :
 As 148 #[.slice (some ⟨g,0,none⟩) N cap,.int .i64 (a:Nat),.int .i64 (b:Nat),.func (.func 59) #[recv] #[]] w λr w'=>r=.returned (.tuple #[])/\aK n g N w w' (λM=>Pm a b L M/\Up K a b M):=by
 obtain⟨M,h1,h2,h3,h4,rfl⟩:=hS;subst h2
 have hL:∀x ∈ M,x<n:=λx hx=>by
  exact Qby
 refine(GZ K n g a b cap M recv w h1 hL hab hb ae hC).mono ?_;rintro r v ⟨rfl,L',k1,k2,k3,k4⟩;exact⟨rfl,L',k1,k2.len,λk hk=>hL _ (k2.perm.mem_iff.1 (by rw[bF,aY (by rw[k2.len];exact hk)];exact gQ _)),k4,k2,k3⟩
theorem jl{b:Bool}{p:Prop}(h:b=true↔p):(!b)=true↔¬ p:=by
 cases b <;> simp_all
theorem lh{b:Bool}{g p:Prop}(hg:g)(h:b=true↔p):b=true↔(g/\p):=h.trans ⟨λe=>⟨hg,e⟩,λe=>e.2⟩
theorem nJ{g p:Prop}(hg:¬ g):false=true↔(g/\p):=⟨λe=>absurd e aM,λe=>absurd e.1 hg⟩
theorem qS{P:Prop}(h:P:=by
 have h2:(x:Int)=(y:Int):=by (have:=c1'.symm.trans c2';simpa using this)
 omega):P:=h
theorem heap15(K:Nat->Nat)(n g N a b cap:Nat)(L:List Nat)(recv:Value)(w:World)(hS:aK n g N w w (λM=>M=L))(hC:iX K n g recv w)(hab:a<b)(hb:b<=N)(hbig:N<1152921504606846976) :
 As 149 #[.slice (some ⟨g,0,none⟩) N cap,.int .i64 (a:Nat),.int .i64 (b:Nat),.func (.func 59) #[recv] #[]] w λr w'=>r=.returned (.tuple #[])/\aK n g N w w' (λM=>Pm a b L M/\Up K a b M):=by
 obtain⟨m,hm⟩:=ah (b-a);obtain⟨m1,hm1⟩:=ah (m-1);obtain⟨q0,hq0⟩:=ah (m1/2);have HC:=ak hC
 have HA:Aside (aK n g N w w (λM=>Pm a b L M/\Hp K a (q0+1) m M)):=(hS.imp (λM _ e=>by
  subst e
  exact⟨Pm.refl _ _ _,λc c1 c2 c3=>by omega⟩):aK n g N w w _)
 have w1:IntKind.i64.wrap ((b:Int)-(a:Int))=(m:Int):=aL ae ae;have w2:IntKind.i64.wrap ((m:Int)-1)=(m1:Int):=aL ae ae;have w3:Int.tdiv (m1:Int) 2=(q0:Int):=by rw[hq0];rfl
 have w4:IntKind.i64.wrap (q0:Int)=(q0:Int):=aL rfl ae;have HQ:=(gp hm hm1 hq0);clear hm hm1 hq0 hS hC;go_enter Tryz.func149,Tryz.ntmps149;go_wp2
 go_loopg [11] (q0+1) (λgk iv wr=>∃t:Nat,gk=t/\t<=q0+1/\iv=.int .i64 ((t:Int)-1)/\Aside (aK n g N w wr (λM=>Pm a b L M/\Hp K a t m M)))
 case atStart=>exact⟨q0+1,rfl,aA _,aN,HA.o⟩
 case round =>
  clear HA;obtain⟨t,jo,htq,X6,HA⟩:=hrel;rcases kG t with h0|h0
  . subst h0;have hd:decide ((0:Int)<=-1)=false:=aM
    rw[show((0:Nat):Int)-1=-1 by rfl] at X6;subst X6;replace HA:Aside (aK n g N w wr (λM=>Pm a b L M/\H2 K a m m M)):=(HA.o.imp (λM _ q=>⟨q.1,H2.start q.2⟩):aK n g N w wr _);go_wp2
    go_loopg [12] m (λgk iv wr=>∃t:Nat,gk=t/\t<=m/\iv=.int .i64 ((t:Int)-1)/\Aside (aK n g N w wr (λM=>Pm a b L M/\H2 K a m t M)))
    case atStart=>exact⟨m,rfl,aA _,by have:=HQ.o;simp;omega,HA.o⟩
    case round =>
     clear HA;obtain⟨t,Df,htm,X6,HA⟩:=hrel;rcases kG t with h1|h1
     . subst h1;rw[show((0:Nat):Int)-1=-1 by rfl] at X6;subst X6;go_wp2;refine bodyPost_end (v:=.tuple #[]) (by simp[results,Tryz.results149,go_sem]) rfl ?_;refine⟨rfl,HA.o.imp (λM _ q=>⟨q.1,?_⟩)⟩;have:=q.2.done;rw[show a+m=b by have:=HQ.o;omega] at this;exact this
     . obtain⟨s,hs⟩:=ah (t-1);obtain⟨p,hp⟩:=ah (a+s);rw[show(t:Int)-1=(s:Int) by omega] at X6;subst X6;have hd:decide ((0:Int)<=(s:Int))=true:=by simp
       have w5:IntKind.i64.wrap ((a:Int)+(s:Int))=(p:Int):=aL ae (by have:=HQ.o;omega)
       have w6:IntKind.i64.wrap ((s:Int)-1)=(s:Int)-1:=by
        have:=HQ.o;simp[IntKind.wrap,IntKind.bits,IntKind.signed];omega
       have b1:(a:Int)<(N:Int):=ae
       have b2:(p:Int)<(N:Int):=by have:=HQ.o;omega
       have b3:a<N:=ae
       have b4:p<N:=by have:=HQ.o;omega
       have HT:=(gy hs hp htm h1 Df);clear hs hp htm h1 Df jo htq
       go_upto_region 10 with fail
       go_cut [8] from 36 to 53 (λv wx=>v=.int .i64 (a:Nat)/\Aside (aK n g N w wx (λM=>∃M0,(λM=>Pm a b L M/\H2 K a m t M) M0/\M0.length=N/\M=sw M0 a p)))
       case first =>
        obtain⟨x,y,c1',c2',z1,z2,iK⟩:=HA.o.swap a p ae ae;have HF:=ak iK;clear HA iK
        by_cases hse:a=p
        . subst hse
          have hxy:x=y:=by
           exact qS
          subst hxy;clear c2' z2
          exact ZS
        . have vQ:p≠a:=λe=>hse e.symm
          exact ZS
       clear HA;obtain⟨rfl,HA⟩:=hcut;obtain⟨W1,hW⟩:=ah wc;subst hW;obtain⟨L1,s1,s2,s3,s4⟩:=HA.o.use
       have C:=hid (Zn K n g N a 0 s cap L1 recv W1 s3 (HC.o.at s4) (by have:=HQ.o;have:=HT.o;omega) ae hbig (by
        obtain⟨M0,k1,k2,rfl⟩:=s1;obtain⟨hs,hp,htm,h1,_⟩:=HT.o;have:=HQ.o;have e:=k1.2;rw[show t=s+1 by omega] at e;rw[hp]
        exact e.mid ae))
       have HF:Aside (∀v,aK n g N W1 v (λM=>Pm (a+0) (a+s) L1 M/\Hp K a 0 s M)->aK n g N w v (λM=>Pm a b L M/\H2 K a m s M)):=λv hv=>(hv.re s4).imp (λM _ q=>by
        obtain⟨M0,k1,k2,rfl⟩:=s1;obtain⟨hs,hp,htm,h1,_⟩:=HT.o;have:=HQ.o;have e:=k1.2;rw[show t=s+1 by omega] at e;have q1:=q.1;rw[hp,il] at q1
        exact⟨(k1.1.trans (Pm.swap ae ae ae ae ae)).trans (q1.mono ae ae),e.step ae q1 q.2⟩)
       clear HA s1 s2 s3 s4;go_wp2_with fail;refine C.o.mono ?_;rintro r v ⟨rfl,hv⟩;have HA:=ak (HF.o v hv);clear C HF hv;go_wp2;go_roundg s
       case measure=>have:=HT.o;omega
       case rel=>exact⟨s,rfl,by have:=HT.o;omega,by first | rfl | simp,HA.o⟩
  . obtain⟨s,hs⟩:=ah (t-1);rw[show(t:Int)-1=(s:Int) by omega] at X6;subst X6;have hd:decide ((0:Int)<=(s:Int))=true:=by simp
    have w6:IntKind.i64.wrap ((s:Int)-1)=(s:Int)-1:=by
     have:=HQ.o;simp[IntKind.wrap,IntKind.bits,IntKind.signed];omega
    obtain⟨L1,s1,s2,s3,s4⟩:=HA.o.use
    have C:=hid (Zn K n g N a s m cap L1 recv wr s3 (HC.o.at s4) (by have:=HQ.o;omega) (by have:=HQ.o;omega) hbig (by
     have e:=s1.2;rw[show t=s+1 by omega] at e
     exact e))
    have HF:Aside (∀v,aK n g N wr v (λM=>Pm (a+s) (a+m) L1 M/\Hp K a s m M)->aK n g N w v (λM=>Pm a b L M/\Hp K a s m M)):=λv hv=>(hv.re s4).imp (λM _ q=>⟨s1.1.trans (q.1.mono ae (by have:=HQ.o;omega)),q.2⟩);have HT:=(iN hs htq h0 jo);clear HA s1 s2 s3 s4 hs htq h0 jo;go_wp2_with fail;refine C.o.mono ?_;rintro r v ⟨rfl,hv⟩;have HA:=ak (HF.o v hv);clear C HF hv;go_wp2;go_roundg s
    case measure=>have:=HT.o;omega
    case rel=>exact⟨s,rfl,by have:=HT.o;omega,by first | rfl | simp,HA.o⟩
theorem Qbw{P:Prop}(h:P:=by
 exact⟨i1,j1,rfl,d1,d2,d3,by first | rfl | simp,by first | rfl | simp,HA.o⟩):P:=h
theorem Qa9{P:Prop}(h:P:=by
 go_wp2_with fail
 go_meet
 case rel=>exact⟨decide (z<0),rfl,G.o.imp (λM _ q=>⟨q.1,lh hgd (q.2)⟩)⟩):P:=h
theorem Qa5{P:Prop}(h:P:=by
 obtain⟨_,_,_,_,_,M0,q1,q2,q3⟩:=HA.o;intro e;have e1:=q1.2.2.1 hgt;have e2:=q1.2.2.2 hgt;rw[e] at e1;omega):P:=h
theorem zr{P:Prop}(h:P:=by
 go_wp2_with fail
 go_meet
 case rel=>exact⟨!decide (z<0),rfl,G.o.imp (λM _ q=>⟨q.1,lh hgd (jl q.2)⟩)⟩):P:=h
theorem KB{P:Prop}(h:P:=by
 have HD:=ak (HA.o.drew);clear HA
 go_region
 all_goals
  go_wp2_with fail
  go_meet
  case rel=>exact⟨false,rfl,HD.o.imp (λM _ q=>⟨q,nJ hgd⟩)⟩):P:=h
theorem G5(K:Nat->Nat)(n g N a b pv cap:Nat)(L:List Nat)(recv:Value)(w:World)(hS:aK n g N w w (λM=>M=L))(hC:iX K n g recv w)(hab:a+1<b)(hb:b<=N)(hp1:a<=pv)(hp2:pv<b)(hbig:N<1152921504606846976) :
 As 155 #[.slice (some ⟨g,0,none⟩) N cap,.int .i64 (a:Nat),.int .i64 (b:Nat),.int .i64 (pv:Nat),.func (.func 59) #[recv] #[]] w λr w'=>∃(m:Nat) (t:Bool),r=.returned (.tuple #[.int .i64 (m:Nat),.bool t])/\a<=m/\m<b/\aK n g N w w' (λM=>Pm a b L M/\EF K a b m M):=by
 obtain⟨i0,hi0⟩:=ah (a+1);obtain⟨j0,hj0⟩:=ah (b-1);obtain⟨p0,hp0⟩:=ah (ky K L pv);have HC:=ak hC;have HA:=ak hS;have w1:IntKind.i64.wrap ((a:Int)+1)=(i0:Int):=aL ae ae;have w2:IntKind.i64.wrap ((b:Int)-1)=(j0:Int):=aL ae ae;have b1:(a:Int)<(N:Int):=ae
 have b2:(pv:Int)<(N:Int):=ae
 have b3:a<N:=ae
 have b4:pv<N:=ae
 have c1:a<i0:=ae
 have c2:i0<=j0:=ae
 have c3:j0<b:=ae
 have HQ:=(gp hi0 hj0 hp0);clear hi0 hj0 hp0 hS hC;go_enter Tryz.func155,Tryz.ntmps155
 go_upto_region 1 with fail
 go_cut [1] from 14 to 27 (λv wx=>v=.int .i64 (a:Nat)/\Aside (aK n g N w wx (λM=>∃M0,(λM=>M=L) M0/\M0.length=N/\M=sw M0 a pv)))
 case first =>
  obtain⟨x,y,c1',c2',z1,z2,iK⟩:=HA.o.swap a pv ae ae;have HF:=ak iK;clear HA iK
  by_cases hse:a=pv
  . subst hse
    have hxy:x=y:=by
     exact qS
    subst hxy;clear c2' z2
    exact ZS
  . have vQ:pv≠a:=λe=>hse e.symm
    exact ZS
 clear HA;obtain⟨rfl,HA⟩:=hcut;obtain⟨W0,hW⟩:=ah wc;subst hW
 replace HA:Aside (aK n g N w W0 (λM=>Pm a b L M/\Pt K a b i0 j0 p0 M)):=(HA.o.imp (λM _ q=>by
  obtain⟨M0,rfl,q2,rfl⟩:=q;obtain⟨hi0,hj0,hp0⟩:=HQ.o;rw[hi0,hj0,hp0]
  exact⟨Pm.swap ae ae ae ae ae,Pt.start ae ae hp1 hp2⟩):aK n g N w W0 _)
 go_wp2
 go_loopg [12] (j0+1-i0) (λgk iv wr=>∃i:Nat,gk=j0+1-i/\a<i/\i0<=i/\i<=j0+1/\iv=.int .i64 (i:Nat)/\Aside (aK n g N w wr (λM=>Pm a b L M/\Pt K a b i j0 p0 M)))
 case atStart=>exact⟨i0,rfl,ae,ae,ae,by first | rfl | simp,HA.o⟩
 case round =>
  clear HA;obtain⟨i,jo,hai,hii,hij,rfl,HA⟩:=hrel;obtain⟨i',hi'⟩:∃x,x=i+1:=⟨_,rfl⟩;have wi:IntKind.i64.wrap ((i:Int)+1)=(i':Int):=aL ae ae;replace hi':=ak hi'
  go_upto_region 3 with fail
  go_cut [47] from 32 to 46 (λv wx=>∃t:Bool,v=.bool t/\Aside (aK n g N w wx (λM=>(λM=>Pm a b L M/\Pt K a b i j0 p0 M) M/\(t=true↔(i<=j0/\ky K M i<ky K M a)))))
  case first =>
   by_cases hgd:i<=j0
   . have qj:decide ((i:Int)<=(j0:Int))=true:=by simp;omega
     obtain⟨x,y,z,c1',c2',C0,iK⟩:=HA.o.zM HC.o i a ae ae;have C:=hid C0;have HF:=ak iK;have kS:=bA c1' c2';clear HA C0 iK c1' c2';have bi:(i:Int)<(N:Int):=ae
     have bi':i<N:=ae
     go_region_held3 (λw'=>w'.cell? ⟨g,i,none⟩=some (.int .i64 (x:Nat))/\w'.cell? ⟨g,a,none⟩=some (.int .i64 (y:Nat))) (with_reducible exact kS.o) (first
      | (go_at_call 59
         with_reducible refine C.o.mono ?_
         rintro r v ⟨rfl,hb⟩;have G:=ak (HF.o v hb);have kS:Aside (v.cell? ⟨g,i,none⟩=some (.int .i64 (x:Nat))/\v.cell? ⟨g,a,none⟩=some (.int .i64 (y:Nat))):=⟨(hb.cell (p:=⟨g,i,none⟩) (aG kS.o.1)).trans kS.o.1,(hb.cell (p:=⟨g,a,none⟩) (aG kS.o.2)).trans kS.o.2⟩
         clear hb))
     all_goals
      exact Qa9
   . have qj:decide ((i:Int)<=(j0:Int))=false:=by simp;omega
     exact KB
  clear HA;obtain⟨t,rfl,HA⟩:=hcut;obtain⟨WC,hW⟩:=ah wc;subst hW
  cases t
  . replace HA:Aside (aK n g N w WC (λM=>Pm a b L M/\Pt K a b i j0 p0 M/\(i<=j0->ky K M a<=ky K M i))):=(HA.o.imp (λM _ q=>⟨q.1.1,q.1.2,λe=>mq (λh=>absurd (q.2.2 ⟨e,h⟩) aM)⟩):aK n g N w WC _);clear wi hi';go_wp2
    go_loopg [13] (j0+1-i) (λgk jv wr=>∃j:Nat,gk=j+1-i/\j<=j0/\i<=j+1/\jv=.int .i64 (j:Nat)/\Aside (aK n g N w wr (λM=>Pm a b L M/\Pt K a b i j p0 M/\(i<=j->ky K M a<=ky K M i))))
    case atStart=>exact⟨j0,rfl,ae,ae,by first | rfl | simp,HA.o⟩
    case round =>
     clear HA;obtain⟨j,jo,hjj,hij,rfl,HA⟩:=hrel;have bj:(j:Int)<(N:Int):=ae
     have bj':j<N:=ae
     go_upto_region 5 with fail
     go_cut [66] from 50 to 65 (λv wx=>∃t:Bool,v=.bool t/\Aside (aK n g N w wx (λM=>(λM=>Pm a b L M/\Pt K a b i j p0 M/\(i<=j->ky K M a<=ky K M i)) M/\(t=true↔(i<=j/\¬ ky K M j<ky K M a)))))
     case first =>
      by_cases hgd:i<=j
      . have qj:decide ((i:Int)<=(j:Int))=true:=by simp;omega
        obtain⟨x,y,z,c1',c2',C0,iK⟩:=HA.o.zM HC.o j a ae ae;have C:=hid C0;have HF:=ak iK;have kS:=bA c1' c2';clear HA C0 iK c1' c2'
        go_region_held3 (λw'=>w'.cell? ⟨g,j,none⟩=some (.int .i64 (x:Nat))/\w'.cell? ⟨g,a,none⟩=some (.int .i64 (y:Nat))) (with_reducible exact kS.o) (first
         | (go_at_call 59
            with_reducible refine C.o.mono ?_
            rintro r v ⟨rfl,hb⟩;have G:=ak (HF.o v hb);have kS:Aside (v.cell? ⟨g,j,none⟩=some (.int .i64 (x:Nat))/\v.cell? ⟨g,a,none⟩=some (.int .i64 (y:Nat))):=⟨(hb.cell (p:=⟨g,j,none⟩) (aG kS.o.1)).trans kS.o.1,(hb.cell (p:=⟨g,a,none⟩) (aG kS.o.2)).trans kS.o.2⟩
            clear hb))
        all_goals
         exact zr
      . have qj:decide ((i:Int)<=(j:Int))=false:=by simp;omega
        exact KB
     clear HA;obtain⟨t,rfl,HA⟩:=hcut;obtain⟨WC,hW⟩:=ah wc;subst hW
     cases t
     . replace HA:Aside (aK n g N w WC (λM=>Pm a b L M/\Pt K a b i j p0 M/\(i<=j->ky K M a<=ky K M i)/\(i<=j->ky K M j<ky K M a))):=(HA.o.imp (λM _ q=>⟨q.1.1,q.1.2.1,q.1.2.2,λe=>Nat.lt_of_not_le (λh=>absurd (q.2.2 ⟨e,Nat.not_lt.2 h⟩) aM)⟩):aK n g N w WC _)
       by_cases hgt:i<=j
       . have hdg:decide ((j:Int)<(i:Int))=false:=by simp;omega
         go_upto_region 10 with fail
         go_cut [12] from 69 to 100 (λv wx=>v=.int .i64 (i:Nat)/\Aside (aK n g N w wx (λM=>∃M0,(λM=>Pm a b L M/\Pt K a b i j p0 M/\(i<=j->ky K M a<=ky K M i)/\(i<=j->ky K M j<ky K M a)) M0/\M0.length=N/\M=sw M0 i j)))
         case first =>
          obtain⟨x,y,c1',c2',z1,z2,iK⟩:=HA.o.swap i j ae ae;have HF:=ak iK;clear HA iK;have bi:(i:Int)<(N:Int):=ae
          have bi':i<N:=ae
          by_cases hse:i=j
          . subst hse
            have hxy:x=y:=by
             exact qS
            subst hxy;clear c2' z2
            exact ZS
          . have vQ:j≠i:=λe=>hse e.symm
            exact ZS
         clear HA;obtain⟨rfl,HA⟩:=hcut;obtain⟨W8,hW⟩:=ah wc;subst hW;obtain⟨i1,hi1⟩:=ah (i+1);obtain⟨j1,hj1⟩:=ah (j-1);have wi1:IntKind.i64.wrap ((i:Int)+1)=(i1:Int):=aL ae ae;have wj1:IntKind.i64.wrap ((j:Int)-1)=(j1:Int):=aL ae ae
         have hne9:i≠j:=by
          exact Qa5
         replace HA:Aside (aK n g N w W8 (λM=>Pm a b L M/\Pt K a b i1 j1 p0 M)):=(HA.o.imp (λM _ q=>by
          obtain⟨M0,q1,q2,rfl⟩:=q;have:=q1.2.1.ai;have:=q1.2.1.jb;rw[hi1,hj1]
          exact⟨q1.1.trans (Pm.swap ae ae ae ae ae),q1.2.1.swap ae hgt (q1.2.2.1 hgt) (q1.2.2.2 hgt)⟩):aK n g N w W8 _)
         have d1:a<i1:=ae
         have d2:i1<=j1+1:=ae
         have d3:j1<b:=ae
         have d4:j1+1-i1<j+1-i:=ae
         have HE:=bA hi1 hj1;clear hi1 hj1;clear d4;go_wp2
         go_loopg [12,13] (j1+1-i1) (λgk iv jv wr=>∃i j:Nat,gk=j+1-i/\a<i/\i<=j+1/\j<b/\iv=.int .i64 (i:Nat)/\jv=.int .i64 (j:Nat)/\Aside (aK n g N w wr (λM=>Pm a b L M/\Pt K a b i j p0 M)))
         case atStart=>exact Qbw
         case round =>
          clear HA d1 d2 d3;obtain⟨ui,vj,hgk9,d1,d2,d3,rfl,rfl,HA⟩:=hrel;go_wp2
          go_loopg [12] (vj+1-ui) (λgk iv wr=>∃i:Nat,gk=vj+1-i/\a<i/\ui<=i/\i<=vj+1/\iv=.int .i64 (i:Nat)/\Aside (aK n g N w wr (λM=>Pm a b L M/\Pt K a b i vj p0 M)))
          case atStart=>exact⟨ui,rfl,ae,ae,ae,by first | rfl | simp,HA.o⟩
          case round =>
           clear HA;obtain⟨k,jo,hai,hii,hij,rfl,HA⟩:=hrel;obtain⟨k',hi'⟩:∃x,x=k+1:=⟨_,rfl⟩;have wi:IntKind.i64.wrap ((k:Int)+1)=(k':Int):=aL ae ae;replace hi':=ak hi'
           go_upto_region 13 with fail
           go_cut [120] from 105 to 119 (λv wx=>∃t:Bool,v=.bool t/\Aside (aK n g N w wx (λM=>(λM=>Pm a b L M/\Pt K a b k vj p0 M) M/\(t=true↔(k<=vj/\ky K M k<ky K M a)))))
           case first =>
            by_cases hgd:k<=vj
            . have qj:decide ((k:Int)<=(vj:Int))=true:=by simp;omega
              obtain⟨x,y,z,c1',c2',C0,iK⟩:=HA.o.zM HC.o k a ae ae;have C:=hid C0;have HF:=ak iK;have kS:=bA c1' c2';clear HA C0 iK c1' c2';have bi:(k:Int)<(N:Int):=ae
              have bi':k<N:=ae
              go_region_held3 (λw'=>w'.cell? ⟨g,k,none⟩=some (.int .i64 (x:Nat))/\w'.cell? ⟨g,a,none⟩=some (.int .i64 (y:Nat))) (with_reducible exact kS.o) (first
               | (go_at_call 59
                  with_reducible refine C.o.mono ?_
                  rintro r v ⟨rfl,hb⟩;have G:=ak (HF.o v hb);have kS:Aside (v.cell? ⟨g,k,none⟩=some (.int .i64 (x:Nat))/\v.cell? ⟨g,a,none⟩=some (.int .i64 (y:Nat))):=⟨(hb.cell (p:=⟨g,k,none⟩) (aG kS.o.1)).trans kS.o.1,(hb.cell (p:=⟨g,a,none⟩) (aG kS.o.2)).trans kS.o.2⟩
                  clear hb))
              all_goals
               exact Qa9
            . have qj:decide ((k:Int)<=(vj:Int))=false:=by simp;omega
              exact KB
           clear HA;obtain⟨t,rfl,HA⟩:=hcut;obtain⟨WC,hW⟩:=ah wc;subst hW
           cases t
           . replace HA:Aside (aK n g N w WC (λM=>Pm a b L M/\Pt K a b k vj p0 M/\(k<=vj->ky K M a<=ky K M k))):=(HA.o.imp (λM _ q=>⟨q.1.1,q.1.2,λe=>mq (λh=>absurd (q.2.2 ⟨e,h⟩) aM)⟩):aK n g N w WC _);clear wi hi';go_wp2
             go_loopg [13] (vj+1-k) (λgk jv wr=>∃j:Nat,gk=j+1-k/\j<=vj/\k<=j+1/\jv=.int .i64 (j:Nat)/\Aside (aK n g N w wr (λM=>Pm a b L M/\Pt K a b k j p0 M/\(k<=j->ky K M a<=ky K M k))))
             case atStart=>exact⟨vj,rfl,ae,ae,by first | rfl | simp,HA.o⟩
             case round =>
              clear HA;obtain⟨l,jo,hjj,hij,rfl,HA⟩:=hrel;have bj:(l:Int)<(N:Int):=ae
              have bj':l<N:=ae
              go_upto_region 15 with fail
              go_cut [139] from 123 to 138 (λv wx=>∃t:Bool,v=.bool t/\Aside (aK n g N w wx (λM=>(λM=>Pm a b L M/\Pt K a b k l p0 M/\(k<=l->ky K M a<=ky K M k)) M/\(t=true↔(k<=l/\¬ ky K M l<ky K M a)))))
              case first =>
               by_cases hgd:k<=l
               . have qj:decide ((k:Int)<=(l:Int))=true:=by simp;omega
                 obtain⟨x,y,z,c1',c2',C0,iK⟩:=HA.o.zM HC.o l a ae ae;have C:=hid C0;have HF:=ak iK;have kS:=bA c1' c2';clear HA C0 iK c1' c2'
                 go_region_held3 (λw'=>w'.cell? ⟨g,l,none⟩=some (.int .i64 (x:Nat))/\w'.cell? ⟨g,a,none⟩=some (.int .i64 (y:Nat))) (with_reducible exact kS.o) (first
                  | (go_at_call 59
                     with_reducible refine C.o.mono ?_
                     rintro r v ⟨rfl,hb⟩;have G:=ak (HF.o v hb);have kS:Aside (v.cell? ⟨g,l,none⟩=some (.int .i64 (x:Nat))/\v.cell? ⟨g,a,none⟩=some (.int .i64 (y:Nat))):=⟨(hb.cell (p:=⟨g,l,none⟩) (aG kS.o.1)).trans kS.o.1,(hb.cell (p:=⟨g,a,none⟩) (aG kS.o.2)).trans kS.o.2⟩
                     clear hb))
                 all_goals
                  exact zr
               . have qj:decide ((k:Int)<=(l:Int))=false:=by simp;omega
                 exact KB
              clear HA;obtain⟨t,rfl,HA⟩:=hcut;obtain⟨WC,hW⟩:=ah wc;subst hW
              cases t
              . replace HA:Aside (aK n g N w WC (λM=>Pm a b L M/\Pt K a b k l p0 M/\(k<=l->ky K M a<=ky K M k)/\(k<=l->ky K M l<ky K M a))):=(HA.o.imp (λM _ q=>⟨q.1.1,q.1.2.1,q.1.2.2,λe=>Nat.lt_of_not_le (λh=>absurd (q.2.2 ⟨e,Nat.not_lt.2 h⟩) aM)⟩):aK n g N w WC _)
                by_cases hgt:k<=l
                . have hdg:decide ((l:Int)<(k:Int))=false:=by simp;omega
                  go_upto_region 18 with fail
                  go_cut [12] from 142 to 158 (λv wx=>v=.int .i64 (k:Nat)/\Aside (aK n g N w wx (λM=>∃M0,(λM=>Pm a b L M/\Pt K a b k l p0 M/\(k<=l->ky K M a<=ky K M k)/\(k<=l->ky K M l<ky K M a)) M0/\M0.length=N/\M=sw M0 k l)))
                  case first =>
                   obtain⟨x,y,c1',c2',z1,z2,iK⟩:=HA.o.swap k l ae ae;have HF:=ak iK;clear HA iK;have bi:(k:Int)<(N:Int):=ae
                   have bi':k<N:=ae
                   by_cases hse:k=l
                   . subst hse
                     have hxy:x=y:=by
                      exact qS
                     subst hxy;clear c2' z2
                     exact ZS
                   . have vQ:l≠k:=λe=>hse e.symm
                     exact ZS
                  clear HA;obtain⟨rfl,HA⟩:=hcut;obtain⟨W8,hW⟩:=ah wc;subst hW;obtain⟨i1,hi1⟩:=ah (k+1);obtain⟨j1,hj1⟩:=ah (l-1);have wi1:IntKind.i64.wrap ((k:Int)+1)=(i1:Int):=aL ae ae;have wj1:IntKind.i64.wrap ((l:Int)-1)=(j1:Int):=aL ae ae
                  have hne9:k≠l:=by
                   exact Qa5
                  replace HA:Aside (aK n g N w W8 (λM=>Pm a b L M/\Pt K a b i1 j1 p0 M)):=(HA.o.imp (λM _ q=>by
                   obtain⟨M0,q1,q2,rfl⟩:=q;have:=q1.2.1.ai;have:=q1.2.1.jb;rw[hi1,hj1]
                   exact⟨q1.1.trans (Pm.swap ae ae ae ae ae),q1.2.1.swap ae hgt (q1.2.2.1 hgt) (q1.2.2.2 hgt)⟩):aK n g N w W8 _)
                  have d1:a<i1:=ae
                  have d2:i1<=j1+1:=ae
                  have d3:j1<b:=ae
                  have d4:j1+1-i1<l+1-k:=ae
                  have HE:=bA hi1 hj1;clear hi1 hj1;go_wp2;go_roundg (j1+1-i1)
                  case measure=>omega
                  case rel=>exact Qbw
                . replace hgt:l<k:=ae
                  have hdg:decide ((l:Int)<(k:Int))=true:=by simp;omega
                  go_upto_region 21 with fail
                  go_cut [13] from 142 to 176 (λv wx=>v=.int .i64 (l:Nat)/\Aside (aK n g N w wx (λM=>∃M0,(λM=>Pm a b L M/\Pt K a b k l p0 M/\(k<=l->ky K M a<=ky K M k)/\(k<=l->ky K M l<ky K M a)) M0/\M0.length=N/\M=sw M0 l a)))
                  case first =>
                   obtain⟨x,y,c1',c2',z1,z2,iK⟩:=HA.o.swap l a ae ae;have HF:=ak iK;clear HA iK
                   by_cases hse:l=a
                   . subst hse
                     have hxy:x=y:=by
                      exact qS
                     subst hxy;clear c2' z2
                     exact ZS
                   . have vQ:a≠l:=λe=>hse e.symm
                     exact ZS
                  clear HA;obtain⟨rfl,HA⟩:=hcut;obtain⟨W9,hW⟩:=ah wc;subst hW
                  have HR:Aside (aK n g N w W9 (λM=>Pm a b L M/\EF K a b l M)):=(HA.o.imp (λM _ q=>by
                   obtain⟨M0,q1,q2,rfl⟩:=q;have:=q1.2.1.ai;have:=q1.2.1.jb;have:=q1.2.1.ij
                   exact⟨q1.1.trans (Pm.swap ae ae ae ae ae),q1.2.1.done ae hgt⟩):aK n g N w W9 _)
                  have hm:Aside (a<=l/\l<b):=⟨ae,ae⟩;clear HA;go_wp2;refine aH (v:=.tuple #[.int .i64 (l:Nat),.bool false]) (by simp[results,Tryz.results155,go_sem]) rfl ?_;exact⟨l,false,rfl,hm.o.1,hm.o.2,HR.o⟩
              . have hlt:k<=l:=by
                 obtain⟨_,_,_,_,_,q⟩:=HA.o;exact(q.2.1 rfl).1
                obtain⟨l',hj'⟩:∃x,x=l-1:=⟨_,rfl⟩;have wj:IntKind.i64.wrap ((l:Int)-1)=(l':Int):=aL ae ae;replace hj':=ak hj';replace HA:Aside (aK n g N w WC (λM=>Pm a b L M/\Pt K a b k l' p0 M/\(k<=l'->ky K M a<=ky K M k))):=(HA.o.imp (λM _ q=>⟨q.1.1,by rw[hj'.o];exact q.1.2.1.left (q.2.1 rfl).1 (mq (q.2.1 rfl).2),λe=>q.1.2.2 (by have:=hj'.o;omega)⟩):aK n g N w WC _);go_wp2;go_roundg (l'+1-k)
                case measure=>have:=hj'.o;omega
                case rel=>exact⟨l',rfl,by have:=hj'.o;omega,by have:=hj'.o;omega,by first | rfl | simp,HA.o⟩
           . have hlt:k<=vj:=by
              obtain⟨_,_,_,_,_,q⟩:=HA.o;exact(q.2.1 rfl).1
             replace HA:Aside (aK n g N w WC (λM=>Pm a b L M/\Pt K a b k' vj p0 M)):=(HA.o.imp (λM _ q=>⟨q.1.1,by rw[hi'.o];exact q.1.2.right (q.2.1 rfl).1 (q.2.1 rfl).2⟩):aK n g N w WC _);go_wp2;go_roundg (vj+1-k')
             case measure=>have:=hi'.o;omega
             case rel=>exact⟨k',rfl,by have:=hi'.o;omega,by have:=hi'.o;omega,by have:=hi'.o;omega,by first | rfl | simp,HA.o⟩
       . replace hgt:j<i:=ae
         have hdg:decide ((j:Int)<(i:Int))=true:=by simp;omega
         go_upto_region 8 with fail
         go_cut [13] from 69 to 85 (λv wx=>v=.int .i64 (j:Nat)/\Aside (aK n g N w wx (λM=>∃M0,(λM=>Pm a b L M/\Pt K a b i j p0 M/\(i<=j->ky K M a<=ky K M i)/\(i<=j->ky K M j<ky K M a)) M0/\M0.length=N/\M=sw M0 j a)))
         case first =>
          obtain⟨x,y,c1',c2',z1,z2,iK⟩:=HA.o.swap j a ae ae;have HF:=ak iK;clear HA iK
          by_cases hse:j=a
          . subst hse
            have hxy:x=y:=by
             exact qS
            subst hxy;clear c2' z2
            exact ZS
          . have vQ:a≠j:=λe=>hse e.symm
            exact ZS
         clear HA;obtain⟨rfl,HA⟩:=hcut;obtain⟨W9,hW⟩:=ah wc;subst hW
         have HR:Aside (aK n g N w W9 (λM=>Pm a b L M/\EF K a b j M)):=(HA.o.imp (λM _ q=>by
          obtain⟨M0,q1,q2,rfl⟩:=q;have:=q1.2.1.ai;have:=q1.2.1.jb;have:=q1.2.1.ij
          exact⟨q1.1.trans (Pm.swap ae ae ae ae ae),q1.2.1.done ae hgt⟩):aK n g N w W9 _)
         have hm:Aside (a<=j/\j<b):=⟨ae,ae⟩;clear HA;go_wp2;refine aH (v:=.tuple #[.int .i64 (j:Nat),.bool true]) (by simp[results,Tryz.results155,go_sem]) rfl ?_;exact⟨j,true,rfl,hm.o.1,hm.o.2,HR.o⟩
     . have hlt:i<=j:=by
        obtain⟨_,_,_,_,_,q⟩:=HA.o;exact(q.2.1 rfl).1
       obtain⟨j',hj'⟩:∃x,x=j-1:=⟨_,rfl⟩;have wj:IntKind.i64.wrap ((j:Int)-1)=(j':Int):=aL ae ae;replace hj':=ak hj';replace HA:Aside (aK n g N w WC (λM=>Pm a b L M/\Pt K a b i j' p0 M/\(i<=j'->ky K M a<=ky K M i))):=(HA.o.imp (λM _ q=>⟨q.1.1,by rw[hj'.o];exact q.1.2.1.left (q.2.1 rfl).1 (mq (q.2.1 rfl).2),λe=>q.1.2.2 (by have:=hj'.o;omega)⟩):aK n g N w WC _);go_wp2;go_roundg (j'+1-i)
       case measure=>have:=hj'.o;omega
       case rel=>exact⟨j',rfl,by have:=hj'.o;omega,by have:=hj'.o;omega,by first | rfl | simp,HA.o⟩
  . have hlt:i<=j0:=by
     obtain⟨_,_,_,_,_,q⟩:=HA.o;exact(q.2.1 rfl).1
    replace HA:Aside (aK n g N w WC (λM=>Pm a b L M/\Pt K a b i' j0 p0 M)):=(HA.o.imp (λM _ q=>⟨q.1.1,by rw[hi'.o];exact q.1.2.right (q.2.1 rfl).1 (q.2.1 rfl).2⟩):aK n g N w WC _);go_wp2;go_roundg (j0+1-i')
    case measure=>have:=hi'.o;omega
    case rel=>exact⟨i',rfl,by have:=hi'.o;omega,by have:=hi'.o;omega,by have:=hi'.o;omega,by first | rfl | simp,HA.o⟩
end
end Go.Proofs.YtjppdacikihpdaaGreatDoor
