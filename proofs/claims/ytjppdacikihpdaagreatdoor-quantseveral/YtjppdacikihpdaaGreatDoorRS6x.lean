import Derived.Test.YtjppdacikihpdaaGreatDoorRK5x
import Derived.Test.YtjppdacikihpdaaGreatDoorM1x
import Derived.Lib.Strings
import Derived.Lib.Slices
import Derived.Lib.Small
import Derived.Lib.Walk
import Derived.Lib.BitFns
import Derived.Lib.Tables
import Derived.Lib.ItoaNum
import Derived.Lib.TrailingZeros
import Derived.Laws.Closers25b
import Derived.Laws.Bits64b
import Derived.Deep.CutBlock
import Derived.Test.YtjppdacikihpdaaGreatDoorD39x
import Derived.Test.YtjppdacikihpdaaGreatDoorBIeeex
set_option linter.unusedVariables false
set_option linter.unusedSimpArgs false
set_option maxHeartbeats 16000000
set_option maxRecDepth 20000
namespace Go.Proofs.YtjppdacikihpdaaGreatDoor
namespace J
end J
section
open Go.RowKit J
theorem PO(n g N a b cap:Nat)(L:List Nat)(recv:Value)(w:World)(hS:aK n g N w w (λM=>M=L))(hab:a<b)(hb:b<=N)(hbig:N<1152921504606846976) :
 As 152 #[.slice (some ⟨g,0,none⟩) N cap,.int .i64 (a:Nat),.int .i64 (b:Nat),.func (.func 59) #[recv] #[]] w λr w'=>r=.returned (.tuple #[])/\aK n g N w w' (λM=>Pm a b L M):=by
 obtain⟨j0,hj0⟩:=ah (b-1);have HA:Aside (aK n g N w w (λM=>Pm a b L M)):=(hS.imp (λM _ e=>by subst e;exact Pm.refl _ _ _):aK n g N w w _);have w2:IntKind.i64.wrap ((b:Int)-1)=(j0:Int):=aL ae ae;have c1:a<=j0+1:=ae
 have c3:j0<b:=ae
 have HQ:=ak hj0;clear hj0 hS;go_enter Tryz.func152,Tryz.ntmps152;go_wp2
 go_loopg [8,9] (j0+1-a) (λgk iv jv wr=>∃i j:Nat,gk=j+1-i/\a<=i/\i<=j+1/\j<b/\iv=.int .i64 (i:Nat)/\jv=.int .i64 (j:Nat)/\Aside (aK n g N w wr (λM=>Pm a b L M)))
 case atStart=>exact⟨a,j0,rfl,aA _,c1,c3,by first | rfl | simp,by first | rfl | simp,HA.o⟩
 case round =>
  clear HA;obtain⟨i,j,jo,d1,d2,d3,rfl,rfl,HA⟩:=hrel
  by_cases hij:i<j
  . have hd:decide ((i:Int)<(j:Int))=true:=by simp;omega
    obtain⟨i1,hi1⟩:=ah (i+1);obtain⟨j1,hj1⟩:=ah (j-1);have wi1:IntKind.i64.wrap ((i:Int)+1)=(i1:Int):=aL ae ae;have wj1:IntKind.i64.wrap ((j:Int)-1)=(j1:Int):=aL ae ae;have bi:(i:Int)<(N:Int):=ae
    have bi':i<N:=ae
    have bj:(j:Int)<(N:Int):=ae
    have bj':j<N:=ae
    have HE:=bA hi1 hj1;clear hi1 hj1
    go_upto_region 3 with fail
    go_cut [8] from 13 to 29 (λv wx=>v=.int .i64 (i:Nat)/\Aside (aK n g N w wx (λM=>∃M0,(λM=>Pm a b L M) M0/\M0.length=N/\M=sw M0 i j)))
    case first =>
     obtain⟨x,y,c1',c2',z1,z2,iK⟩:=HA.o.swap i j ae ae;have HF:=ak iK;clear HA iK;have hse:i≠j:=ae
     have vQ:j≠i:=ae
     exact ZS
    clear HA;obtain⟨rfl,HA⟩:=hcut;obtain⟨W8,hW⟩:=ah wc;subst hW
    replace HA:Aside (aK n g N w W8 (λM=>Pm a b L M)):=(HA.o.imp (λM _ q=>by
     obtain⟨M0,q1,q2,rfl⟩:=q
     exact q1.trans (Pm.swap ae ae ae ae ae)):aK n g N w W8 _)
    go_wp2;go_roundg (j1+1-i1)
    case measure=>have:=HE.o;omega
    case rel=>exact⟨i1,j1,rfl,by have:=HE.o;omega,by have:=HE.o;omega,by have:=HE.o;omega,by first | rfl | simp,by first | rfl | simp,HA.o⟩
  . have hd:decide ((i:Int)<(j:Int))=false:=by simp;omega
    go_wp2;refine bodyPost_end (v:=.tuple #[]) (by simp[results,Tryz.results152,go_sem]) rfl ?_;exact⟨rfl,HA.o⟩
def ql(n g N q:Nat)(w wr:World)(L:List Nat):Prop:=aK n g N w wr (λM=>M=L)/\w.heap.size<=q/\∃s:Int,wr.cell? ⟨q,0,none⟩=some (.int .i64 s)/\wr.frozen? ⟨q,0,none⟩=false
theorem ql.below{n g N q:Nat}{w wr v:World}{L:List Nat}(h:ql n g N q w wr L)(hb:An wr v):ql n g N q w v L:=by
 obtain⟨h1,h2,s,h3,h4⟩:=h;refine⟨h1.below hb,h2,s,(hb.cell (p:=⟨q,0,none⟩) (aG h3)).trans h3,?_⟩;have:=hb.block q (aG h3);unfold World.frozen? at h4 |-;simp only at h4 |-;rw[this];exact h4
theorem ql.set{n g N q:Nat}{w wr:World}{L:List Nat}(h:ql n g N q w wr L)(s:Int)(hg:g<w.heap.size):ql n g N q w (wr.setCell ⟨q,0,none⟩ (.int .i64 s)) L:=by
 obtain⟨⟨M,o1,o2,o3,o4,o5⟩,h2,s0,h3,h4⟩:=h
 have hb:∀k,k≠q->(wr.setCell ⟨q,0,none⟩ (.int .i64 s)).heap[k]?=wr.heap[k]?:=λk hk=>by
  simp only[World.setCell,gz];rw[if_neg (λe=>hk e.symm)]
 refine⟨⟨M,by unfold df;rw[hb g ae];exact o1,o2,o3,⟨o4.os,o4.tape,o4.output,by simpa [World.setCell] using o4.size,λk hk hkg=>by rw[hb k ae];exact o4.block k hk hkg⟩,o5⟩,h2,s,?_,?_⟩
 . exact World.cell?_setCell_same _ _ _ h3
 . rw[World.frozen?_setCell];exact h4
theorem vR(K:Nat->Nat)(n g N q a b cap:Nat)(L:List Nat)(recv:Value)(w0 w:World)(hS:ql n g N q w0 w L)(hC:iX K n g recv w0)(hg:g<w0.heap.size)(ha:a<N)(hb:b<N)(hbig:N<1152921504606846976) :
 As 215 #[.slice (some ⟨g,0,none⟩) N cap,.int .i64 (a:Nat),.int .i64 (b:Nat),.pointer (some ⟨q,0,none⟩),.func (.func 59) #[recv] #[]] w λr w'=>∃x y:Nat,r=.returned (.tuple #[.int .i64 (x:Nat),.int .i64 (y:Nat)])/\(x=a/\y=b\/x=b/\y=a)/\ql n g N q w0 w' L:=by
 have b1:(a:Int)<(N:Int):=ae
 have b2:(b:Int)<(N:Int):=ae
 have HC:=ak hC;have HA:=ak hS;clear hS hC;go_enter Tryz.func215,Tryz.ntmps215
 go_upto_region 1 with fail
 go_cut [22] from 12 to 21 (λv wx=>∃t:Bool,v=.bool t/\Aside (ql n g N q w0 wx L))
 case first =>
  obtain⟨x,y,z,c1',c2',C0,_⟩:=HA.o.1.zM HC.o b a hb ha;have C:=hid C0;have HF:Aside (∀v,Below w.drew.heap.size w.drew v->ql n g N q w0 v L):=λv hv=>(HA.o.below (aD w.heap.size w).drew).below hv;have kS:=bA c1' c2';clear HA C0 c1' c2'
  go_region_held3 (λw'=>w'.cell? ⟨g,b,none⟩=some (.int .i64 (x:Nat))/\w'.cell? ⟨g,a,none⟩=some (.int .i64 (y:Nat))) (with_reducible exact kS.o) (first
   | (go_at_call 59
      with_reducible refine C.o.mono ?_
      rintro r v ⟨rfl,hb⟩;have G:=ak (HF.o v hb);have kS:Aside (v.cell? ⟨g,b,none⟩=some (.int .i64 (x:Nat))/\v.cell? ⟨g,a,none⟩=some (.int .i64 (y:Nat))):=⟨(hb.cell (p:=⟨g,b,none⟩) (aG kS.o.1)).trans kS.o.1,(hb.cell (p:=⟨g,a,none⟩) (aG kS.o.2)).trans kS.o.2⟩
      clear hb))
  all_goals
   exact yW
 clear HA;obtain⟨t,rfl,HA⟩:=hcut;obtain⟨W1,hW⟩:=ah wc;subst hW
 cases t
 . go_wp2;refine aH (v:=.tuple #[.int .i64 (a:Nat),.int .i64 (b:Nat)]) (by simp[results,Tryz.results215,go_sem]) rfl ?_;exact⟨a,b,rfl,.inl ⟨rfl,rfl⟩,HA.o⟩
 . obtain⟨_,_,s,h3,h4⟩:=HA.o;obtain⟨s1,hs1⟩:=ah (IntKind.i64.wrap (s+1));have hs2:=hs1.symm;have HF:=ak (HA.o.set s1 hg);clear HA hs1;go_wp2;refine aH (v:=.tuple #[.int .i64 (b:Nat),.int .i64 (a:Nat)]) (by simp[results,Tryz.results215,go_sem]) rfl ?_;exact⟨b,a,rfl,.inr ⟨rfl,rfl⟩,HF.o⟩
theorem zN(K:Nat->Nat)(n g N q a b c cap:Nat)(L:List Nat)(recv:Value)(w0 w:World)(hS:ql n g N q w0 w L)(hC:iX K n g recv w0)(hg:g<w0.heap.size)(ha:a<N)(hb:b<N)(hc:c<N)(hbig:N<1152921504606846976) :
 As 193 #[.slice (some ⟨g,0,none⟩) N cap,.int .i64 (a:Nat),.int .i64 (b:Nat),.int .i64 (c:Nat),.pointer (some ⟨q,0,none⟩),.func (.func 59) #[recv] #[]] w λr w'=>∃x:Nat,r=.returned (.int .i64 (x:Nat))/\(x=a\/x=b\/x=c)/\ql n g N q w0 w' L:=by
 have HC:=ak hC;have C:=hid (vR K n g N q a b cap L recv w0 w hS hC hg ha hb hbig);clear hS hC;go_enter Tryz.func193,Tryz.ntmps193;go_wp2_with fail;refine C.o.mono ?_;rintro r v1 ⟨x,y,rfl,hxy,h1⟩;have X:Aside ((x=a\/x=b)/\(y=a\/y=b)):=⟨ae,ae⟩;have hx:x<N:=ae
 have hy:y<N:=ae
 have C2:=hid (vR K n g N q y c cap L recv w0 v1 h1 HC.o hg hy hc hbig);clear C h1 hxy;go_wp2_with fail;refine C2.o.mono ?_;rintro r v2 ⟨x2,y2,rfl,hxy,h1⟩;have X2:Aside (x2=a\/x2=b\/x2=c):=ak (by have:=X.o;omega);have hx2:x2<N:=ae
 have C3:=hid (vR K n g N q x x2 cap L recv w0 v2 h1 HC.o hg hx hx2 hbig);clear C2 h1 hxy;go_wp2_with fail;refine C3.o.mono ?_;rintro r v3 ⟨x3,y3,rfl,hxy,h1⟩;have X3:Aside (y3=a\/y3=b\/y3=c):=ak (by have:=X.o;have:=X2.o;omega);have HR:=ak h1;clear C3 h1 hxy;go_wp2;refine aH (v:=.int .i64 (y3:Nat)) (by simp[results,Tryz.results193,go_sem]) rfl ?_;exact⟨y3,rfl,X3.o,HR.o⟩
theorem Uu(K:Nat->Nat)(n g N q a cap:Nat)(L:List Nat)(recv:Value)(w0 w:World)(hS:ql n g N q w0 w L)(hC:iX K n g recv w0)(hg:g<w0.heap.size)(ha:0<a)(hb:a+1<N)(hbig:N<1152921504606846976) :
 As 192 #[.slice (some ⟨g,0,none⟩) N cap,.int .i64 (a:Nat),.pointer (some ⟨q,0,none⟩),.func (.func 59) #[recv] #[]] w λr w'=>∃x:Nat,r=.returned (.int .i64 (x:Nat))/\a<=x+1/\x<=a+1/\ql n g N q w0 w' L:=by
 obtain⟨a1,h1⟩:=ah (a-1);obtain⟨a2,h2⟩:=ah (a+1);have w1:IntKind.i64.wrap ((a:Int)-1)=(a1:Int):=aL ae ae;have w2:IntKind.i64.wrap ((a:Int)+1)=(a2:Int):=aL ae ae;have C:=hid (zN K n g N q a1 a a2 cap L recv w0 w hS hC hg ae ae ae hbig);have HQ:=bA h1 h2;clear hS hC h1 h2;go_enter Tryz.func192,Tryz.ntmps192;go_wp2_with fail;refine C.o.mono ?_;rintro r v1 ⟨x,rfl,hx,h1⟩;have X:Aside (a<=x+1/\x<=a+1):=ak (by have:=HQ.o;omega);have HR:=ak h1;clear C h1 hx;go_wp2;refine aH (v:=.int .i64 (x:Nat)) (by simp[results,Tryz.results192,go_sem]) rfl ?_;exact⟨x,rfl,X.o.1,X.o.2,HR.o⟩
theorem ql.new{n g N:Nat}{w:World}{L:List Nat}(h:aK n g N w w (λM=>M=L)):ql n g N w.heap.size w (w.alloc (Obj.cells #[Value.int IntKind.i64 0] 3)) L:=by
 refine⟨h.below ((aD w.heap.size w).alloc (aA _) _),aA _,0,?_,?_⟩
 . rw[World.cell?_alloc_new];rfl
 . exact World.frozen?_alloc_new _ _ _ _
theorem Ks{P:Prop}(h:P:=by
 clear HA;go_wp2_with fail;refine C9.o.mono ?_;rintro r v9 ⟨x,rfl,hx,h1⟩;have X:Aside (a<=x/\x<b):=ak (by have:=r1.o;omega);have HR:=ak h1.1;obtain⟨_,_,s,c1,_⟩:=h1;clear C9 hx
 by_cases s0:s=0
 . subst s0;go_wp2;refine aH (v:=.tuple #[.int .i64 (x:Nat),.int .i64 (1:Nat)]) (by simp[results,Tryz.results151,go_sem]) rfl ?_;exact⟨x,1,rfl,X.o.1,X.o.2,.inr (.inl rfl),HR.o⟩
 . have s1:(s==0)=false:=by simp[s0]
   have s1':decide (s=0)=false:=by simp[s0]
   by_cases s2:s=12
   . subst s2;go_wp2;refine aH (v:=.tuple #[.int .i64 (x:Nat),.int .i64 (2:Nat)]) (by simp[results,Tryz.results151,go_sem]) rfl ?_;exact⟨x,2,rfl,X.o.1,X.o.2,.inr (.inr rfl),HR.o⟩
   . have s3:(s==12)=false:=by simp[s2]
     have s3':decide (s=12)=false:=by simp[s2]
     go_wp2;refine aH (v:=.tuple #[.int .i64 (x:Nat),.int .i64 (0:Nat)]) (by simp[results,Tryz.results151,go_sem]) rfl ?_;exact⟨x,0,rfl,X.o.1,X.o.2,.inl rfl,HR.o⟩):P:=h
theorem Uv(K:Nat->Nat)(n g N a b cap:Nat)(L:List Nat)(recv:Value)(w:World)(hS:aK n g N w w (λM=>M=L))(hC:iX K n g recv w)(hab:a+8<=b)(hb:b<=N)(hbig:N<1152921504606846976) :
 As 151 #[.slice (some ⟨g,0,none⟩) N cap,.int .i64 (a:Nat),.int .i64 (b:Nat),.func (.func 59) #[recv] #[]] w λr w'=>∃p h:Nat,r=.returned (.tuple #[.int .i64 (p:Nat),.int .i64 (h:Nat)])/\a<=p/\p<b/\(h=0\/h=1\/h=2)/\aK n g N w w' (λM=>M=L):=by
 obtain⟨l,hl⟩:=ah (b-a);obtain⟨q,hq⟩:=ah (l/4);obtain⟨q2,hq2⟩:=ah (q*2);obtain⟨q3,hq3⟩:=ah (q*3);obtain⟨i,hi⟩:=ah (a+q);obtain⟨j,hj⟩:=ah (a+q2);obtain⟨k,hk⟩:=ah (a+q3);have w1:IntKind.i64.wrap ((b:Int)-(a:Int))=(l:Int):=aL ae ae;have w2:Int.tdiv (l:Int) 4=(q:Int):=by rw[hq];rfl
 have w3:IntKind.i64.wrap (q:Int)=(q:Int):=aL rfl ae;have w4:IntKind.i64.wrap ((q:Int)*1)=(q:Int):=aL ae ae;have w5:IntKind.i64.wrap ((q:Int)*2)=(q2:Int):=aL ae ae;have w6:IntKind.i64.wrap ((q:Int)*3)=(q3:Int):=aL ae ae;have w7:IntKind.i64.wrap ((a:Int)+(q:Int))=(i:Int):=aL ae ae;have w8:IntKind.i64.wrap ((a:Int)+(q2:Int))=(j:Int):=aL ae ae;have w9:IntKind.i64.wrap ((a:Int)+(q3:Int))=(k:Int):=aL ae ae;have d1:decide ((8:Int)<=(l:Int))=true:=by simp;omega
 have HC:=ak hC;have HA:=ak hS;have HQ:=(Ew hl hq hq2 hq3 hi hj hk);have hl8:8<=l:=ae
 clear hl hq hq2 hq3 hi hj hk hS hC;go_enter Tryz.func151,Tryz.ntmps151
 go_upto_region 7 with fail
 have hgw:g<w.heap.size:=HA.o.lt;replace HA:=ak (ql.new HA.o);obtain⟨W1,hW1⟩:=ah (w.alloc (Obj.cells #[Value.int IntKind.i64 0] 3));rw[<-hW1] at HA |-;clear hW1;obtain⟨G,hG⟩:=ah (w.heap.size);rw[<-hG] at HA |-;clear hG
 by_cases h50:50<=l
 . have d2:decide ((50:Int)<=(l:Int))=true:=by simp;omega
   have C:=hid (Uu K n g N G i cap L recv w W1 HA.o HC.o hgw (by have:=HQ.o;omega) (by have:=HQ.o;omega) hbig);clear HA;go_wp2_with fail;refine C.o.mono ?_;rintro r v1 ⟨i',rfl,e1,e2,h1⟩;have C2:=hid (Uu K n g N G j cap L recv w v1 h1 HC.o hgw (by have:=HQ.o;omega) (by have:=HQ.o;omega) hbig);have E1:=bA e1 e2;clear C h1 e1 e2;go_wp2_with fail;refine C2.o.mono ?_;rintro r v2 ⟨j',rfl,e3,e4,h1⟩;have C3:=hid (Uu K n g N G k cap L recv w v2 h1 HC.o hgw (by have:=HQ.o;omega) (by have:=HQ.o;omega) hbig);have E2:=bA e3 e4;clear C2 h1 e3 e4;go_wp2_with fail;refine C3.o.mono ?_;rintro r v3 ⟨k',rfl,e5,e6,h1⟩;have r1:Aside (a<=i'/\i'<b/\a<=j'/\j'<b/\a<=k'/\k'<b):=ak (by have:=HQ.o;have:=E1.o;have:=E2.o;omega);have HA:=ak h1;clear C3 h1 e5 e6;have C9:=hid (zN K n g N G i' j' k' cap L recv w v3 HA.o HC.o hgw (by have:=r1.o;omega) (by have:=r1.o;omega) (by have:=r1.o;omega) hbig);exact Ks
 . have d2:decide ((50:Int)<=(l:Int))=false:=by simp;omega
   have r1:Aside (a<=i/\i<b/\a<=j/\j<b/\a<=k/\k<b):=ak (by have:=HQ.o;omega);have C9:=hid (zN K n g N G i j k cap L recv w W1 HA.o HC.o hgw (by have:=r1.o;omega) (by have:=r1.o;omega) (by have:=r1.o;omega) hbig);exact Ks
end
section
theorem Mo{K:Nat->Nat}{L0 L:List Nat}(hnd:L0.Nodup)(hK:∀x ∈ L0,∀y ∈ L0,K x=K y->x=y)(hP:L.Perm L0)(i j:Nat)(hi:i<L.length)(hj:j<L.length)(hne:i≠j):ky K L i≠ky K L j:=by
 have hn:L.Nodup:=hP.nodup_iff.2 hnd;intro h;unfold ky at h;have e1:L.getD i 0=L[i]:=by rw[bF,aY hi];rfl
 have e2:L.getD j 0=L[j]:=by rw[bF,aY hj];rfl
 rw[e1,e2] at h;have:=hK _ (hP.mem_iff.1 (gQ hi)) _ (hP.mem_iff.1 (gQ hj)) h;rcases Nat.lt_or_gt_of_ne hne with q|q
 . exact(yt.1 hn i j hi hj q) this
 . exact(yt.1 hn j i hj hi q) this.symm
structure Pq (K:Nat->Nat) (a b c d:Nat) (L0 L:List Nat):Prop where
 ac:a<=c
 cd:c<=d
 db:d<=b
 pm:Pm a b L0 L
 fl:Fl K c d L
 go:∀M,Pm c d L M->Up K c d M->Up K a b M
theorem Pq.start{K:Nat->Nat}{a b:Nat}{L:List Nat}(hab:a<=b)(hF:Fl K a b L):Pq K a b a b L L:=⟨aA _,hab,aA _,Pm.refl _ _ _,hF,λ_ _ h=>h⟩
theorem Pq.move{K:Nat->Nat}{a b c d:Nat}{L0 L M:List Nat}(h:Pq K a b c d L0 L)(hP:Pm c d L M):Pq K a b c d L0 M :=
 ⟨h.ac,h.cd,h.db,h.pm.trans (hP.mono h.ac h.db),h.fl.pm hP,λX hX hU=>h.go X (hP.trans hX) hU⟩
theorem Pq.left{K:Nat->Nat}{a b c d m:Nat}{L0 L M:List Nat}(h:Pq K a b c d L0 L)(hR:EF K c d m L)(hP:Pm c m L M)(hU:Up K c m M)(hn:∀i j,i<d->j<d->i≠j->ky K M i≠ky K M j):Pq K a b (m+1) d L0 M:=by
 have h1:=hR.am;have h2:=hR.mb;have h3:=h.ac;have h4:=h.db;have hR':=hR.left hP;refine⟨ae,ae,h4,h.pm.trans (hP.mono h3 ae),hR'.fl hn,λX hX dK=>?_⟩;exact h.go X ((hP.mono (aA _) ae).trans (hX.mono ae (aA _))) ((hR'.right hX).up (hU.o hX (.inl ae)) dK)
theorem Pq.right{K:Nat->Nat}{a b c d m:Nat}{L0 L M:List Nat}(h:Pq K a b c d L0 L)(hR:EF K c d m L)(hP:Pm (m+1) d L M)(hU:Up K (m+1) d M):Pq K a b c m L0 M:=by
 have h1:=hR.am;have h2:=hR.mb;have h3:=h.ac;have h4:=h.db;have hR':=hR.right hP;refine⟨h3,h1,ae,h.pm.trans (hP.mono ae h4),(h.fl.pm (hP.mono ae (aA _))).left ae,λX hX dK=>?_⟩;exact h.go X ((hP.mono ae (aA _)).trans (hX.mono (aA _) ae)) ((hR'.left hX).up dK (hU.o hX (.inr ae)))
theorem Pq.done{K:Nat->Nat}{a b c d:Nat}{L0 L M:List Nat}(h:Pq K a b c d L0 L)(hP:Pm c d L M)(hU:Up K c d M):Pm a b L0 M/\Up K a b M:=⟨(h.move hP).pm,h.go M hP hU⟩
theorem Up.snoc15{K:Nat->Nat}{a i:Nat}{L:List Nat}(h:Up K a i L)(hi:a<i)(hle:ky K L (i-1)<=ky K L i):Up K a (i+1) L:=by
 intro x y h1 h2 h3
 by_cases q:y=i
 . rw[q]
   by_cases r:x=i-1
   . rw[r];exact hle
   . have:=h x (i-1) h1 ae ae;omega
 . exact h x y h1 h2 ae
theorem Ins.cut15{K:Nat->Nat}{a i:Nat}{L:List Nat}(h:Up K a (i+1) L)(hl:i+1<L.length)(ha:a<=i):Ins K a i i (sw L (i+1) i):=by
 refine Ins.start (λx y h1 h2 h3=>?_) ha;rw[rQ ae ae,rQ ae ae,if_neg ae,if_neg ae,if_neg ae,if_neg ae];exact h x y h1 h2 ae
theorem Up.Uw{K:Nat->Nat}{a i p q:Nat}{L:List Nat}(h:Up K a i L)(hp:i<=p)(hq:i<=q)(hpl:p<L.length)(hql:q<L.length):Up K a i (sw L p q):=by
 intro x y h1 h2 h3;rw[rQ hpl hql,rQ hpl hql,if_neg ae,if_neg ae,if_neg ae,if_neg ae];exact h x y h1 h2 h3
end
section
open Go.RowKit J
theorem Zs{P:Prop}(h:P:=by
 by_cases h2r:2<=br
 . have Ux:decide ((2:Int)<=(br:Int))=true:=by simp;omega
   go_wp2
   go_loopg [12] (b-i1) (λgk jv wr=>∃j:Nat,gk=b-j/\i<j/\j<=b/\jv=.int .i64 (j:Nat)/\Aside (aK n g N w wr (λM=>Pm a b L M/\Up K a i M)))
   case atStart=>exact⟨i1,rfl,by have:=HI.o;omega,by have:=HI.o;omega,by first | rfl | simp,HA.o⟩
   case round =>
    clear HA;obtain⟨j,hgj,e1,e2,rfl,HA⟩:=hrel
    by_cases hjb:j<b
    . have hdj:decide ((j:Int)<(b:Int))=true:=by simp;omega
      obtain⟨j1,hj1⟩:=ah (j+1);obtain⟨jm,hjm⟩:=ah (j-1);have wj1:IntKind.i64.wrap ((j:Int)+1)=(j1:Int):=aL ae ae;have wjm:IntKind.i64.wrap ((j:Int)-1)=(jm:Int):=aL ae ae;have bj:(j:Int)<(N:Int):=ae
      have bj':j<N:=ae
      have bjm:(jm:Int)<(N:Int):=ae
      have bjm':jm<N:=ae
      have hne1:j≠jm:=ae
      have HJ:=bA hj1 hjm;clear hj1 hjm
      go_upto_region 22 with fail
      go_cut [124] from 112 to 123 (λv wx=>∃t:Bool,v=.bool t/\Aside (aK n g N w wx (λM=>(λM=>Pm a b L M/\Up K a i M) M/\(t=true↔(¬ ky K M j<ky K M jm)))))
      case first =>
       obtain⟨x,y,z,c1',c2',C0,iK⟩:=HA.o.zM HC.o j jm ae ae;have C:=hid C0;have HF:=ak iK;have kS:=bA c1' c2';clear HA C0 iK c1' c2'
       go_region_held3 (λw'=>w'.cell? ⟨g,j,none⟩=some (.int .i64 (x:Nat))/\w'.cell? ⟨g,jm,none⟩=some (.int .i64 (y:Nat))) (with_reducible exact kS.o) (first
        | (go_at_call 59
           with_reducible refine C.o.mono ?_
           rintro r v ⟨rfl,hb⟩;have G:=ak (HF.o v hb);have kS:Aside (v.cell? ⟨g,j,none⟩=some (.int .i64 (x:Nat))/\v.cell? ⟨g,jm,none⟩=some (.int .i64 (y:Nat))):=⟨(hb.cell (p:=⟨g,j,none⟩) (aG kS.o.1)).trans kS.o.1,(hb.cell (p:=⟨g,jm,none⟩) (aG kS.o.2)).trans kS.o.2⟩
           clear hb))
       all_goals
        go_wp2_with fail
        go_meet
        case rel=>exact⟨!decide (z<0),rfl,G.o.imp (λM _ q=>⟨q.1,jl q.2⟩)⟩
      clear HA;obtain⟨t,rfl,HA⟩:=hcut;obtain⟨W3,hW⟩:=ah wc;subst hW;replace HA:Aside (aK n g N w W3 (λM=>Pm a b L M/\Up K a i M)):=(HA.o.imp (λM _ q=>q.1):aK n g N w W3 _)
      cases t
      . go_upto_region 23 with fail
        obtain⟨x,y,c1',c2',z1,z2,iK⟩:=HA.o.swap j jm ae ae;have hse:j≠jm:=ae
        have vQ:jm≠j:=ae
        have HF:=ak (λv hv=>((iK v hv).imp (λM _ q=>by
         obtain⟨M0,q1,q2,rfl⟩:=q;have hj:=HJ.o
         exact⟨q1.1.trans (Pm.swap ae ae ae ae ae),q1.2.Uw ae ae ae ae⟩):aK n g N w v (λM=>Pm a b L M/\Up K a i M)))
        clear HA iK
        go_region
        all_goals
         go_wp2;go_roundg (b-j1)
         case measure=>have:=HJ.o;omega
         case rel=>exact⟨j1,rfl,by have:=HJ.o;omega,by have:=HJ.o;omega,by first | rfl | simp,HF.o _ (by first | exact .inl rfl | exact .inr rfl)⟩
      . go_wp2;go_roundg (5-cc)
        case measure=>have:=HG.o;omega
        case rel=>exact⟨i,cc,by have:=HG.o;omega,c1,c2,by first | rfl | simp,by first | rfl | simp,HA.o⟩
    . have hdj:decide ((j:Int)<(b:Int))=false:=by simp;omega
      go_wp2;go_roundg (5-cc)
      case measure=>have:=HG.o;omega
      case rel=>exact⟨i,cc,by have:=HG.o;omega,c1,c2,by first | rfl | simp,by first | rfl | simp,HA.o⟩
 . have Ux:decide ((2:Int)<=(br:Int))=false:=by simp;omega
   go_wp2;go_roundg (5-cc)
   case measure=>have:=HG.o;omega
   case rel=>exact⟨i,cc,by have:=HG.o;omega,c1,c2,by first | rfl | simp,by first | rfl | simp,HA.o⟩):P:=h
theorem PQ(K:Nat->Nat)(n g N a b cap:Nat)(L:List Nat)(recv:Value)(w:World)(hS:aK n g N w w (λM=>M=L))(hC:iX K n g recv w)(hF:Fl K a b L)(hab:a<b)(hb:b<=N)(hbig:N<1152921504606846976) :
 As 153 #[.slice (some ⟨g,0,none⟩) N cap,.int .i64 (a:Nat),.int .i64 (b:Nat),.func (.func 59) #[recv] #[]] w λr w'=>∃t:Bool,r=.returned (.bool t)/\aK n g N w w' (λM=>Pm a b L M/\(t=true->Up K a b M)):=by
 obtain⟨i0,hi0⟩:=ah (a+1);obtain⟨l,hl⟩:=ah (b-a);have HC:=ak hC;have HL:=ak hF;have w1:IntKind.i64.wrap ((a:Int)+1)=(i0:Int):=aL ae ae;have w2:IntKind.i64.wrap ((b:Int)-(a:Int))=(l:Int):=aL ae ae;have c1:a<i0:=ae
 have c2:i0<=b:=ae
 have HA:Aside (aK n g N w w (λM=>Pm a b L M/\Up K a i0 M)):=(hS.imp (λM _ e=>by
  subst e
  exact⟨Pm.refl _ _ _,λx y h1 h2 h3=>by omega⟩):aK n g N w w _)
 have HQ:=bA hi0 hl;clear hi0 hl hS hC hF;go_enter Tryz.func153,Tryz.ntmps153;go_wp2
 go_loopg [9,10] 5 (λgk iv cv wr=>∃i c:Nat,gk+c=5/\a<i/\i<=b/\iv=.int .i64 (i:Nat)/\cv=.int .i64 (c:Nat)/\Aside (aK n g N w wr (λM=>Pm a b L M/\Up K a i M)))
 case atStart=>exact⟨i0,0,rfl,c1,c2,by first | rfl | simp,by first | rfl | simp,HA.o⟩
 case round =>
  clear HA c1 c2;obtain⟨i9,c,hgc,c1,c2,rfl,rfl,HA⟩:=hrel
  by_cases hc5:c<5
  . have hd5:decide ((c:Int)<5)=true:=by simp;omega
    obtain⟨cc,hcc⟩:=ah (c+1);have wcc:IntKind.i64.wrap ((c:Int)+1)=(cc:Int):=aL ae ae;have HG:=(gp hgc hcc hc5);clear hgc hcc hc5;go_wp2
    go_loopg [9] (b-i9) (λgk iv wr=>∃i:Nat,gk=b-i/\a<i/\i<=b/\iv=.int .i64 (i:Nat)/\Aside (aK n g N w wr (λM=>Pm a b L M/\Up K a i M)))
    case atStart=>exact⟨i9,rfl,c1,c2,by first | rfl | simp,HA.o⟩
    case round =>
     clear HA c1 c2;obtain⟨i,jo,c1,c2,rfl,HA⟩:=hrel;obtain⟨i1,hi1⟩:=ah (i+1);obtain⟨im,him⟩:=ah (i-1);have wi1:IntKind.i64.wrap ((i:Int)+1)=(i1:Int):=aL ae ae;have wim:IntKind.i64.wrap ((i:Int)-1)=(im:Int):=aL ae ae;have bm:(im:Int)<(N:Int):=ae
     have bm':im<N:=ae
     have HI:=bA hi1 him;clear hi1 him
     go_upto_region 5 with fail
     go_cut [36] from 19 to 35 (λv wx=>∃t:Bool,v=.bool t/\Aside (aK n g N w wx (λM=>(λM=>Pm a b L M/\Up K a i M) M/\(t=true↔(i<b/\¬ ky K M i<ky K M im)))))
     case first =>
      by_cases hgd:i<b
      . have qj:decide ((i:Int)<(b:Int))=true:=by simp;omega
        obtain⟨x,y,z,c1',c2',C0,iK⟩:=HA.o.zM HC.o i im ae ae;have C:=hid C0;have HF:=ak iK;have kS:=bA c1' c2';clear HA C0 iK c1' c2';have bi:(i:Int)<(N:Int):=ae
        have bi':i<N:=ae
        go_region_held3 (λw'=>w'.cell? ⟨g,i,none⟩=some (.int .i64 (x:Nat))/\w'.cell? ⟨g,im,none⟩=some (.int .i64 (y:Nat))) (with_reducible exact kS.o) (first
         | (go_at_call 59
            with_reducible refine C.o.mono ?_
            rintro r v ⟨rfl,hb⟩;have G:=ak (HF.o v hb);have kS:Aside (v.cell? ⟨g,i,none⟩=some (.int .i64 (x:Nat))/\v.cell? ⟨g,im,none⟩=some (.int .i64 (y:Nat))):=⟨(hb.cell (p:=⟨g,i,none⟩) (aG kS.o.1)).trans kS.o.1,(hb.cell (p:=⟨g,im,none⟩) (aG kS.o.2)).trans kS.o.2⟩
            clear hb))
        all_goals
         exact zr
      . have qj:decide ((i:Int)<(b:Int))=false:=by simp;omega
        exact KB
     clear HA;obtain⟨t,rfl,HA⟩:=hcut;obtain⟨WC,hW⟩:=ah wc;subst hW
     cases t
     . replace HA:Aside (aK n g N w WC (λM=>(Pm a b L M/\Up K a i M)/\(i<b->ky K M i<ky K M im))):=(HA.o.imp (λM _ q=>⟨q.1,λe=>Classical.byContradiction (λh=>absurd (q.2.2 ⟨e,h⟩) aM)⟩):aK n g N w WC _)
       by_cases hib:i=b
       . subst hib;go_wp2;refine aH (v:=.bool true) (by simp[results,Tryz.results153,go_sem]) rfl ?_;exact⟨true,rfl,HA.o.imp (λM _ q=>⟨q.1.1,λ_=>q.1.2⟩)⟩
       . have hib1:((i:Int)==(b:Int))=false:=by simp;omega
         have hib2:decide ((i:Int)=(b:Int))=false:=by simp;omega
         have hlt:i<b:=ae
         by_cases h50:l<50
         . have hd50:decide ((l:Int)<50)=true:=by simp;omega
           go_wp2;refine aH (v:=.bool false) (by simp[results,Tryz.results153,go_sem]) rfl ?_;exact⟨false,rfl,HA.o.imp (λM _ q=>⟨q.1.1,λe=>absurd e aM⟩)⟩
         . have hd50:decide ((l:Int)<50)=false:=by simp;omega
           obtain⟨bl,hbl⟩:=ah (i-a);obtain⟨br,hbr⟩:=ah (b-i);have wbl:IntKind.i64.wrap ((i:Int)-(a:Int))=(bl:Int):=aL ae ae;have wbr:IntKind.i64.wrap ((b:Int)-(i:Int))=(br:Int):=aL ae ae;have bi:(i:Int)<(N:Int):=ae
           have bi':i<N:=ae
           have HB:=bA hbl hbr;clear hbl hbr
           go_upto_region 11 with fail
           go_cut [9] from 39 to 61 (λv wx=>v=.int .i64 (i:Nat)/\Aside (aK n g N w wx (λM=>∃M0,(λM=>(Pm a b L M/\Up K a i M)/\(i<b->ky K M i<ky K M im)) M0/\M0.length=N/\M=sw M0 i im)))
           case first =>
            obtain⟨x,y,c1',c2',z1,z2,iK⟩:=HA.o.swap i im ae ae;have HF:=ak iK;clear HA iK
            by_cases hse:i=im
            . subst hse
              have hxy:x=y:=by
               exact qS
              subst hxy;clear c2' z2
              exact ZS
            . have vQ:im≠i:=λe=>hse e.symm
              exact ZS
           clear HA;obtain⟨rfl,HA⟩:=hcut;obtain⟨W1,hW⟩:=ah wc;subst hW
           replace HA:Aside (aK n g N w W1 (λM=>Pm a b L M/\Ins K a im im M)):=(HA.o.imp (λM _ q=>by
            obtain⟨M0,q1,q2,rfl⟩:=q;have hi:=HI.o;have e:i=im+1:=ae
            have u:=q1.1.2;rw[e] at u;refine⟨q1.1.1.trans (Pm.swap ae ae ae ae ae),?_⟩;rw[e]
            exact Ins.cut15 u ae ae):aK n g N w W1 _)
           by_cases h2l:2<=bl
           . have hdl2:decide ((2:Int)<=(bl:Int))=true:=by simp;omega
             go_wp2
             go_loopg [11] im (λgk jv wr=>∃j:Nat,gk=j/\a<=j/\j<=im/\jv=.int .i64 (j:Nat)/\Aside (aK n g N w wr (λM=>Pm a b L M/\Ins K a im j M)))
             case atStart=>exact⟨im,rfl,by have:=HI.o;omega,aA _,by first | rfl | simp,HA.o⟩
             case round =>
              clear HA;obtain⟨j,hgj,e1,e2,rfl,HA⟩:=hrel
              by_cases hj1:1<=j
              . have hdj:decide ((1:Int)<=(j:Int))=true:=by simp;omega
                obtain⟨jm,hjm⟩:=ah (j-1);have wjm:IntKind.i64.wrap ((j:Int)-1)=(jm:Int):=aL ae ae;have bj:(j:Int)<(N:Int):=ae
                have bj':j<N:=ae
                have bjm:(jm:Int)<(N:Int):=ae
                have bjm':jm<N:=ae
                have hne1:j≠jm:=ae
                have HJ:=ak hjm;clear hjm
                go_upto_region 16 with fail
                go_cut [84] from 72 to 83 (λv wx=>∃t:Bool,v=.bool t/\Aside (aK n g N w wx (λM=>(λM=>Pm a b L M/\Ins K a im j M) M/\(t=true↔(¬ ky K M j<ky K M jm)))))
                case first =>
                 obtain⟨x,y,z,c1',c2',C0,iK⟩:=HA.o.zM HC.o j jm ae ae;have C:=hid C0;have HF:=ak iK;have kS:=bA c1' c2';clear HA C0 iK c1' c2'
                 go_region_held3 (λw'=>w'.cell? ⟨g,j,none⟩=some (.int .i64 (x:Nat))/\w'.cell? ⟨g,jm,none⟩=some (.int .i64 (y:Nat))) (with_reducible exact kS.o) (first
                  | (go_at_call 59
                     with_reducible refine C.o.mono ?_
                     rintro r v ⟨rfl,hb⟩;have G:=ak (HF.o v hb);have kS:Aside (v.cell? ⟨g,j,none⟩=some (.int .i64 (x:Nat))/\v.cell? ⟨g,jm,none⟩=some (.int .i64 (y:Nat))):=⟨(hb.cell (p:=⟨g,j,none⟩) (aG kS.o.1)).trans kS.o.1,(hb.cell (p:=⟨g,jm,none⟩) (aG kS.o.2)).trans kS.o.2⟩
                     clear hb))
                 all_goals
                  go_wp2_with fail
                  go_meet
                  case rel=>exact⟨!decide (z<0),rfl,G.o.imp (λM _ q=>⟨q.1,jl q.2⟩)⟩
                clear HA;obtain⟨t,rfl,HA⟩:=hcut;obtain⟨W3,hW⟩:=ah wc;subst hW
                cases t
                . have haj:a<j:=by
                   obtain⟨M,_,hlen,_,_,q⟩:=HA.o;rcases iE a j with h|h
                   . exact h
                   . exfalso;have ej:j=a:=ae
                     have hjm:=HJ.o;have hi:=HI.o;have f:=(HL.o.pm q.1.1) ae j ae ae;have k1:¬ ky K M j<ky K M jm:=by rw[hjm,ej] at *;omega
                     exact absurd (q.2.2 k1) aM
                  go_upto_region 17 with fail
                  obtain⟨x,y,c1',c2',z1,z2,iK⟩:=HA.o.swap j jm ae ae;have hse:j≠jm:=ae
                  have vQ:jm≠j:=ae
                  have HF:=ak (λv hv=>((iK v hv).imp (λM _ q=>by
                   obtain⟨M0,q1,q2,rfl⟩:=q;have hjm:=HJ.o;have hi:=HI.o;have k1:ky K M0 j<ky K M0 jm:=Classical.byContradiction (λe=>absurd (q1.2.2 e) aM);rw[hjm] at k1 |-
                   exact⟨q1.1.1.trans (Pm.swap ae ae ae ae ae),q1.1.2.step ae haj k1⟩):aK n g N w v (λM=>Pm a b L M/\Ins K a im jm M)))
                  clear HA iK
                  go_region
                  all_goals
                   go_wp2;go_roundg jm
                   case measure=>have:=HJ.o;omega
                   case rel=>exact⟨jm,rfl,by have:=HJ.o;omega,by have:=HJ.o;omega,by first | rfl | simp,HF.o _ (by first | exact .inl rfl | exact .inr rfl)⟩
                . replace HA:Aside (aK n g N w W3 (λM=>Pm a b L M/\Up K a i M)):=(HA.o.imp (λM _ q=>by
                   have hjm:=HJ.o;have hi:=HI.o;have k1:=mq (q.2.1 rfl);rw[hjm] at k1;have k2:=q.1.2.done (.inr k1);rw[show im+1=i by omega] at k2
                   exact⟨q.1.1,k2⟩):aK n g N w W3 _)
                  replace HA:Aside (aK n g N w W3 (λM=>Pm a b L M/\Up K a i M)):=HA
                  exact Zs
              . have hdj:decide ((1:Int)<=(j:Int))=false:=by simp;omega
                replace HA:Aside (aK n g N w wr (λM=>Pm a b L M/\Up K a i M)):=(HA.o.imp (λM _ q=>by
                 have hi:=HI.o;have k2:=q.2.done (.inl ae);rw[show im+1=i by omega] at k2
                 exact⟨q.1,k2⟩):aK n g N w wr _)
                replace HA:Aside (aK n g N w wr (λM=>Pm a b L M/\Up K a i M)):=HA
                exact Zs
           . have hdl2:decide ((2:Int)<=(bl:Int))=false:=by simp;omega
             replace HA:Aside (aK n g N w W1 (λM=>Pm a b L M/\Up K a i M)):=(HA.o.imp (λM _ q=>by
              have hi:=HI.o;have hb:=HB.o;have k2:=q.2.done (.inl ae);rw[show im+1=i by omega] at k2
              exact⟨q.1,k2⟩):aK n g N w W1 _)
             replace HA:Aside (aK n g N w W1 (λM=>Pm a b L M/\Up K a i M)):=HA
             exact Zs
     . have hlt:i<b:=by
        obtain⟨_,_,_,_,_,q⟩:=HA.o;exact(q.2.1 rfl).1
       replace HA:Aside (aK n g N w WC (λM=>Pm a b L M/\Up K a i1 M)):=(HA.o.imp (λM _ q=>by
        obtain⟨hi1,him⟩:=HI.o;rw[hi1];have:=mq (q.2.1 rfl).2;rw[him] at this
        exact⟨q.1.1,q.1.2.snoc15 c1 this⟩):aK n g N w WC _)
       go_wp2;go_roundg (b-i1)
       case measure=>have:=HI.o;omega
       case rel=>exact⟨i1,rfl,by have:=HI.o;omega,by have:=HI.o;omega,by first | rfl | simp,HA.o⟩
  . have hd5:decide ((c:Int)<5)=false:=by simp;omega
    go_wp2;refine aH (v:=.bool false) (by simp[results,Tryz.results153,go_sem]) rfl ?_;exact⟨false,rfl,HA.o.imp (λM _ q=>⟨q.1,λe=>absurd e aM⟩)⟩
end
section
open Go.RowKit
set_option maxRecDepth 100000 in
theorem PR(x:Int)(w:World)(h0:0<=x)(h1:x<=18446744073709551615) :
 As 156 #[.int .u64 x] w λe w'=>e=.returned (.int .i64 (Lib.bitLen x.toNat))/\w'=w:=by
 have hsz:Lib.len8tab.size=256:=Lib.len8tab_size;go_enter Tryz.func156,Tryz.ntmps156;go_wp2
 all_goals (go_ret;refine⟨congrArg (λz=>Ending.returned (Value.int IntKind.i64 z)) ?_,rfl⟩)
 . exact jX x (x/4294967296/65536/256) 56 ae ae (by rw[Lib.bitLen_shift56 x.toNat ae ae,show(x/4294967296/65536/256).toNat=x.toNat/72057594037927936 by omega]) ae ae
 . exact jX x (x/4294967296/65536) 48 ae ae (by rw[Lib.bitLen_shift48 x.toNat ae ae,show(x/4294967296/65536).toNat=x.toNat/281474976710656 by omega]) ae ae
 . exact jX x (x/4294967296/256) 40 ae ae (by rw[Lib.bitLen_shift40 x.toNat ae ae,show(x/4294967296/256).toNat=x.toNat/1099511627776 by omega]) ae ae
 . exact jX x (x/4294967296) 32 ae ae (by rw[Lib.bitLen_shift32 x.toNat ae ae,show(x/4294967296).toNat=x.toNat/4294967296 by omega]) ae ae
 . exact jX x (x/65536/256) 24 ae ae (by rw[Lib.bitLen_shift24 x.toNat ae ae,show(x/65536/256).toNat=x.toNat/16777216 by omega]) ae ae
 . exact jX x (x/65536) 16 ae ae (by rw[Lib.bitLen_shift16 x.toNat ae ae,show(x/65536).toNat=x.toNat/65536 by omega]) ae ae
 . exact jX x (x/256) 8 ae ae (by rw[Lib.bitLen_shift8 x.toNat ae ae,show(x/256).toNat=x.toNat/256 by omega]) ae ae
 . exact E8 x ae ae ae
theorem G6(x:Nat)(w:World)(h:x<18446744073709551616):As 97 #[.int .u64 (x:Int)] w λe w'=>e=.returned (.int .i64 (bl x:Nat))/\w'=w:=by
 have:=PR x w ae ae;rw[lC,AJ x ae] at this;have H:=hid this;clear this;go_enter Tryz.func97,Tryz.ntmps97;go_wp2_with fail;refine H.o.mono ?_;rintro r w1 ⟨rfl,rfl⟩;go_wp2;exact Jx
end
section
open Go.RowKit J
theorem zO(l:Nat)(h:0<l):l<2^bl l/\2^bl l<=2*l:=by
 refine⟨iT l,?_⟩;have h1:=iw l ae;have h2:=dM l ae;rw[show bl l=(bl l-1)+1 by omega,dS];omega
theorem PS(l:Nat)(w:World)(h0:0<l)(h:l<1152921504606846976):Ax 190 #[.int .i64 (l:Nat)] w (.int .u64 ((2^bl l:Nat):Int)):=by
 have C:=hid (G6 l w ae);have wl:IntKind.u64.wrap (l:Int)=(l:Int):=by simp[IntKind.wrap,IntKind.bits,IntKind.signed];omega
 have hp:=(zO l h0).2;go_enter Tryz.func190,Tryz.ntmps190;go_wp2_with fail;refine C.o.mono ?_;rintro r w1 ⟨rfl,rfl⟩;obtain⟨m,hm⟩:=ah (bl l);rw[<-hm] at hp |-;have HP:=ak hp;have HM:=ak hm;clear C hm hp;go_wp2
 have hm64:m<64:=by
  rcases iE m 64 with q|q
  . exact q
  . have:=fD (n:=2) ae q;have:=HP.o;omega
 have e:IntKind.u64.wrap (2^min m 64)=((2^m:Nat):Int):=by
  rw[iQ ae,show((2:Int)^m)=((2^m:Nat):Int) by simp];have:=HP.o;rw[kC];obtain⟨P,hP⟩:=ah (2^m);rw[<-hP] at this |-;exact wz ae ae
 rw[e,HM.o];exact Jx
theorem xo15(op:BinOp)(a b:Int):∃y:Nat,y<18446744073709551616/\bits op .u64 a b=(y:Int):=by
 have h1:=bits_lo_u64 op a b;have h2:=bits_hi_u64 op a b;exact⟨(bits op .u64 a b).toNat,ae,ae⟩
def vU(q:Nat)(w wr:World):Prop:=∃y:Nat,y<18446744073709551616/\wr.cell? ⟨q,0,none⟩=some (.int .u64 (y:Nat))/\wr.frozen? ⟨q,0,none⟩=false/\But q w wr
theorem vU.step{q y:Nat}{w wr:World}(h:vU q w wr)(hy:y<18446744073709551616):vU q w (wr.drew.setCell ⟨q,0,none⟩ (.int .u64 (y:Nat))):=by
 obtain⟨x,h1,h2,h3,h4⟩:=h;refine⟨y,hy,World.cell?_setCell_same _ _ _ (show wr.drew.cell? _=_ from h2),?_,(h4.drew).set _ _⟩;rw[World.frozen?_setCell];exact h3
theorem ye{P:Prop}(h:P:=by
 have hx0:(0:Int)<=(x:Int):=ae
 have X:=bA x1 y1;clear HA x4 x1 y1
 go_region
 all_goals
  go_wp2_with fail
  go_meet
  case rel=>exact⟨rfl,HF.o _ rfl⟩):P:=h
theorem next15(q:Nat)(w:World)(h:vU q w w):As 191 #[.pointer (some ⟨q,0,none⟩)] w λr w'=>∃y:Nat,y<18446744073709551616/\r=.returned (.int .u64 (y:Nat))/\vU q w w':=by
 have HA:=ak h;clear h;go_enter Tryz.func191,Tryz.ntmps191
 go_upto_region 1 with fail
 go_cut [0] from 3 to 11 (λv wx=>v=.pointer (some ⟨q,0,none⟩)/\Aside (vU q w wx))
 case first =>
  obtain⟨x,x1,x2,x3,x4⟩:=HA.o;obtain⟨y,y1,y2⟩:=xo15 .xor (x:Int) (IntKind.u64.wrap ((x:Int)*8192));have HF:Aside (∀v,v=(w.drew.setCell ⟨q,0,none⟩ (.int .u64 (y:Nat)))->vU q w v):=λv hv=>by rw[hv];exact HA.o.step y1
  exact ye
 clear HA;obtain⟨rfl,HA⟩:=hcut;obtain⟨W1,hW⟩:=ah wc;subst hW
 go_upto_region 2 with fail
 go_cut [0] from 12 to 20 (λv wx=>v=.pointer (some ⟨q,0,none⟩)/\Aside (vU q w wx))
 case first =>
  obtain⟨x,x1,x2,x3,x4⟩:=HA.o;obtain⟨y,y1,y2⟩:=xo15 .xor (x:Int) ((x:Int)/128);have HF:Aside (∀v,v=(W1.drew.setCell ⟨q,0,none⟩ (.int .u64 (y:Nat)))->vU q w v):=λv hv=>by rw[hv];exact HA.o.step y1
  exact ye
 clear HA;obtain⟨rfl,HA⟩:=hcut;obtain⟨W2,hW⟩:=ah wc;subst hW
 go_upto_region 3 with fail
 go_cut [0] from 21 to 29 (λv wx=>v=.pointer (some ⟨q,0,none⟩)/\Aside (vU q w wx))
 case first =>
  obtain⟨x,x1,x2,x3,x4⟩:=HA.o;obtain⟨y,y1,y2⟩:=xo15 .xor (x:Int) (IntKind.u64.wrap ((x:Int)*131072));have HF:Aside (∀v,v=(W2.drew.setCell ⟨q,0,none⟩ (.int .u64 (y:Nat)))->vU q w v):=λv hv=>by rw[hv];exact HA.o.step y1
  exact ye
 clear HA;obtain⟨rfl,HA⟩:=hcut;obtain⟨W3,hW⟩:=ah wc;subst hW;obtain⟨x,x1,x2,x3,x4⟩:=HA.o;go_wp2;refine aH (v:=.int .u64 (x:Nat)) (by simp[results,Tryz.results191,go_sem]) rfl ?_;exact⟨x,x1,rfl,HA.o⟩
def rD(n g N q:Nat)(w wr:World)(S:List Nat->Prop):Prop:=aK n g N w wr S/\w.heap.size<=q/\∃y:Nat,y<18446744073709551616/\wr.cell? ⟨q,0,none⟩=some (.int .u64 (y:Nat))/\wr.frozen? ⟨q,0,none⟩=false
theorem rD.xq{n g N q:Nat}{w wr:World}{S:List Nat->Prop}(h:rD n g N q w wr S):vU q wr wr:=by
 obtain⟨h1,h2,y,h3,h4,h5⟩:=h;exact⟨y,h3,h4,h5,But.refl _ _⟩
theorem rD.imp{n g N q:Nat}{w wr:World}{S T:List Nat->Prop}(h:rD n g N q w wr S)(f:∀L,L.length=N->S L->T L):rD n g N q w wr T:=⟨h.1.imp f,h.2⟩
theorem rD.next{n g N q:Nat}{w wr v:World}{S:List Nat->Prop}(h:rD n g N q w wr S)(hv:vU q wr v)(hg:g<w.heap.size):rD n g N q w v S:=by
 obtain⟨⟨M,o1,o2,o3,o4,o5⟩,h2,_⟩:=h;obtain⟨y,y1,y2,y3,y4⟩:=hv;refine⟨⟨M,?_,o2,o3,⟨y4.os.trans o4.os,y4.tape.trans o4.tape,y4.output.trans o4.output,dB o4.size y4.size,λk hk hkg=>?_⟩,o5⟩,h2,y,y1,y2,y3⟩
 . unfold df;rw[y4.block g o1.lt ae];exact o1
 . rw[y4.block k (gT hk o4.size) ae];exact o4.block k hk hkg
theorem rD.swap{n g N q:Nat}{w wr:World}{S:List Nat->Prop}(h:rD n g N q w wr S)(i j:Nat)(hg:g<w.heap.size)(hi:i<N)(hj:j<N) :
 ∃(x y:Nat),wr.cell? ⟨g,i,none⟩=some (.int .i64 (x:Nat))/\wr.cell? ⟨g,j,none⟩=some (.int .i64 (y:Nat))/\wr.frozen? ⟨g,i,none⟩=false/\wr.frozen? ⟨g,j,none⟩=false /\
   (∀v:World,(v=(wr.drew.setCell ⟨g,i,none⟩ (.int .i64 (y:Nat))).setCell ⟨g,j,none⟩ (.int .i64 (x:Nat))\/v=(wr.drew.setCell ⟨g,j,none⟩ (.int .i64 (x:Nat))).setCell ⟨g,i,none⟩ (.int .i64 (y:Nat)))->rD n g N q w v (λL=>∃M,S M/\M.length=N/\L=sw M i j)):=by
 obtain⟨h1,h2,z,z1,z2,z3⟩:=h;obtain⟨x,y,c1,c2,f1,f2,F⟩:=h1.swap i j hi hj;have hqg:q≠g:=ae
 refine⟨x,y,c1,c2,f1,f2,λv hv=>⟨F v hv,h2,z,z1,?_,?_⟩⟩
 . have e:∀k k' a a',((wr.drew.setCell ⟨g,k,none⟩ a).setCell ⟨g,k',none⟩ a').heap[q]?=wr.heap[q]?:=λk k' a a'=>by
    simp only[World.setCell,gz];rw[if_neg (λe=>hqg e.symm),if_neg (λe=>hqg e.symm)];rfl
   unfold World.cell? at z2 |-;rcases hv with rfl|rfl <;> rw[e] <;> exact z2
 . have e:∀k k' a a',((wr.drew.setCell ⟨g,k,none⟩ a).setCell ⟨g,k',none⟩ a').heap[q]?=wr.heap[q]?:=λk k' a a'=>by
    simp only[World.setCell,gz];rw[if_neg (λe=>hqg e.symm),if_neg (λe=>hqg e.symm)];rfl
   unfold World.frozen? at z3 |-;rcases hv with rfl|rfl <;> rw[e] <;> exact z3
theorem Kp{P:Prop}(h:P:=by
 go_upto_region 10 with fail
 obtain⟨x,y',c1',c2',z1,z2,iK⟩:=HX.o.swap i p hgw ae ae
 have HF:=ak (λu hu=>((iK u hu).imp (λM _ q=>by
  obtain⟨M0,q1,q2,rfl⟩:=q
  exact q1.trans (Pm.swap ae ae ae ae ae)):rD n g N G w u (λM=>Pm a b L M)))
 clear HA HX iK
 by_cases hse:i=p
 . subst hse
   have hxy:x=y':=by
    have h2:(x:Int)=(y':Int):=by (have:=c1'.symm.trans c2';simpa using this)
    omega
   subst hxy;clear c2' z2
   go_region
   all_goals
    go_wp2;go_roundg (i3+1-i1)
    case measure=>have:=HI.o;omega
    case rel=>exact⟨i1,by have:=HI.o;omega,rfl,by have:=HI.o;omega,by first | rfl | simp,HF.o _ (by first | exact .inl rfl | exact .inr rfl)⟩
 . have vQ:p≠i:=λe=>hse e.symm
   go_region
   all_goals
    go_wp2;go_roundg (i3+1-i1)
    case measure=>have:=HI.o;omega
    case rel=>exact⟨i1,by have:=HI.o;omega,rfl,by have:=HI.o;omega,by first | rfl | simp,HF.o _ (by first | exact .inl rfl | exact .inr rfl)⟩):P:=h
theorem X7(n g N a b cap:Nat)(L:List Nat)(recv:Value)(w:World)(hS:aK n g N w w (λM=>M=L))(hab:a+8<=b)(hb:b<=N)(hbig:N<1152921504606846976) :
 As 150 #[.slice (some ⟨g,0,none⟩) N cap,.int .i64 (a:Nat),.int .i64 (b:Nat),.func (.func 59) #[recv] #[]] w λr w'=>r=.returned (.tuple #[])/\aK n g N w w' (λM=>Pm a b L M):=by
 obtain⟨l,hl⟩:=ah (b-a);obtain⟨q,hq⟩:=ah (l/4);obtain⟨q2,hq2⟩:=ah (q*2);obtain⟨m,hm⟩:=ah (a+q2);obtain⟨i0,hi0⟩:=ah (m-1);obtain⟨i3,hi3⟩:=ah (m+1);have w1:IntKind.i64.wrap ((b:Int)-(a:Int))=(l:Int):=aL ae ae;have w2:Int.tdiv (l:Int) 4=(q:Int):=by rw[hq];rfl
 have w3:IntKind.i64.wrap (q:Int)=(q:Int):=aL rfl ae;have w5:IntKind.i64.wrap ((q:Int)*2)=(q2:Int):=aL ae ae;have w8:IntKind.i64.wrap ((a:Int)+(q2:Int))=(m:Int):=aL ae ae;have w9:IntKind.i64.wrap ((m:Int)-1)=(i0:Int):=aL ae ae;have w10:IntKind.i64.wrap ((m:Int)+1)=(i3:Int):=aL ae ae;have wl:IntKind.u64.wrap (l:Int)=(l:Int):=by simp[IntKind.wrap,IntKind.bits,IntKind.signed];omega
 have d1:decide ((8:Int)<=(l:Int))=true:=by simp;omega
 have HA:=ak hS;have HQ:=(kz hl hq hq2 hm hi0 hi3);have hl8:8<=l:=ae
 have hlb:l<1152921504606846976:=ae
 clear hl hq hq2 hm hi0 hi3 hS;go_enter Tryz.func150,Tryz.ntmps150
 go_upto_region 3 with fail
 have hgw:g<w.heap.size:=HA.o.lt;have HX:Aside (rD n g N w.heap.size w (w.alloc (Obj.cells #[Value.int IntKind.u64 (l:Nat)] 219)) (λM=>Pm a b L M)):=(⟨(HA.o.below ((aD w.heap.size w).alloc (aA _) _)).imp (λM _ e=>by subst e;exact Pm.refl _ _ _),aA _,l,ae,by rw[World.cell?_alloc_new];rfl,World.frozen?_alloc_new _ _ _ _⟩:rD n g N _ w _ _);obtain⟨W1,hW1⟩:=ah (w.alloc (Obj.cells #[Value.int IntKind.u64 (l:Nat)] 219));rw[<-hW1] at HX |-;clear hW1 HA;obtain⟨G,hG⟩:=ah (w.heap.size);rw[<-hG] at HX |-;clear hG;have C:=hid (PS l W1 ae hlb);obtain⟨P,hP⟩:=ah (2^bl l);have hp1:=(zO l ae).1;have hp2:=(zO l ae).2;rw[<-hP] at C hp1 hp2;clear hP;go_wp2_with fail;refine C.o.mono ?_;rintro r v ⟨rfl,rfl⟩;clear C;obtain⟨P1,hP1⟩:=ah (P-1)
 have em:IntKind.u64.wrap ((P:Int)-1)=(P1:Int):=by
  rw[kC,show(P:Int)-1=(P1:Int) by omega];exact wz ae ae
 have hP2:P1<2*l:=ae
 clear hP1 hp1 hp2;go_wp2
 go_loopg [11] 3 (λgk iv wr=>∃i:Nat,i0<=i/\gk=i3+1-i/\i<=i3+1/\iv=.int .i64 (i:Nat)/\Aside (rD n g N G w wr (λM=>Pm a b L M)))
 case atStart=>exact⟨i0,aA _,by have:=HQ.o;omega,by have:=HQ.o;omega,by first | rfl | simp,HX.o⟩
 case round =>
  clear HX;obtain⟨i,hii,jo,hie,rfl,HX⟩:=hrel
  by_cases hi3:i<=i3
  . have hdi:decide ((i:Int)<=(i3:Int))=true:=by simp;omega
    obtain⟨i1,hi1⟩:=ah (i+1);have wi1:IntKind.i64.wrap ((i:Int)+1)=(i1:Int):=aL ae (by have:=HQ.o;omega);have bi:(i:Int)<(N:Int):=by have:=HQ.o;omega
    have bi':i<N:=ae
    have hai:a<=i:=by have:=HQ.o;omega
    have hib:i<b:=by have:=HQ.o;omega
    have HI:=ak hi1;clear hi1;have C:=hid (next15 G wr (HX.o.xq));go_wp2_with fail;refine C.o.mono ?_;rintro r v ⟨y,hy,rfl,hv⟩;obtain⟨o,ho,eo⟩:∃o:Nat,o<=P1/\bits .and .u64 (y:Int) (P1:Int)=(o:Int):=⟨y &&& P1,Nat.and_le_right,bits_and_u64_nat y P1 hy ae⟩;have wo:IntKind.i64.wrap (o:Int)=(o:Int):=aL rfl ae;replace HX:=ak (HX.o.next hv hgw);clear C hv hy;have HA:=ak HX.o.1
    by_cases hol:l<=o
    . have hdo:decide ((l:Int)<=(o:Int))=true:=by simp;omega
      obtain⟨o1,ho1⟩:=ah (o-l);have wo1:IntKind.i64.wrap ((o:Int)-(l:Int))=(o1:Int):=aL ae ae;obtain⟨p,hp⟩:=ah (a+o1);have wp:IntKind.i64.wrap ((a:Int)+(o1:Int))=(p:Int):=aL ae ae;have hap:a<=p:=ae
      have hpb:p<b:=by have:=HQ.o;omega
      have bp:(p:Int)<(N:Int):=ae
      have bp':p<N:=ae
      clear hp ho1
      exact Kp
    . have hdo:decide ((l:Int)<=(o:Int))=false:=by simp;omega
      obtain⟨p,hp⟩:=ah (a+o);have wp:IntKind.i64.wrap ((a:Int)+(o:Int))=(p:Int):=aL ae (by have:=HQ.o;omega);have hap:a<=p:=ae
      have hpb:p<b:=by have:=HQ.o;omega
      have bp:(p:Int)<(N:Int):=ae
      have bp':p<N:=ae
      clear hp
      exact Kp
  . have hdi:decide ((i:Int)<=(i3:Int))=false:=by simp;omega
    go_wp2;refine bodyPost_end (v:=.tuple #[]) (by simp[results,Tryz.results150,go_sem]) rfl ?_;exact⟨rfl,HX.o.1⟩
theorem xo{P:Prop}(h:P:=by
 go_wp2_with fail
 go_meet
 case rel=>exact⟨_,rfl,rfl⟩):P:=h
theorem zd{P:Prop}(h:P:=by
 have HF:Aside (∀v,aK n g N wr v (λM=>Pm c e L1 M/\Up K c e M)->aK n g N w v (λM=>Pm a b L M/\Up K a b M)):=λv hv=>(hv.re s4).imp (λM _ q=>s1.done q.1 q.2);have HL:=ak hl;clear HA s1 s2 s3 s4 hl;go_wp2_with fail;refine C.o.mono ?_;rintro r v ⟨rfl,hv⟩;have HR:=ak (HF.o v hv);clear C HF hv;go_wp2;refine aH (v:=.tuple #[]) (by simp[results,Tryz.results96,go_sem]) rfl ?_;exact⟨rfl,HR.o⟩):P:=h
theorem pdq15(K:Nat->Nat)(n g N cap:Nat)(recv:Value)(hbig:N<1152921504606846976):∀(d a b lim:Nat) (L:List Nat) (w:World),b-a<=d->a<=b->b<=N->lim<1152921504606846976->aK n g N w w (λM=>M=L)->iX K n g recv w->Fl K a b L->L.Nodup->(∀x ∈ L,∀y ∈ L,K x=K y->x=y) ->
 As 96 #[.slice (some ⟨g,0,none⟩) N cap,.int .i64 (a:Nat),.int .i64 (b:Nat),.int .i64 (lim:Nat),.func (.func 59) #[recv] #[]] w λr w'=>r=.returned (.tuple #[])/\aK n g N w w' (λM=>Pm a b L M/\Up K a b M):=by
 intro d
 induction d using Nat.strongRecOn with
 | _ d ih =>
 intro a b lim L w hd hab hb hlim hS hC hF hnd hK
 have IH:Aside (∀(a b lim:Nat) (L:List Nat) (w:World),b-a<d->a<=b->b<=N->lim<1152921504606846976->aK n g N w w (λM=>M=L)->iX K n g recv w->Fl K a b L->L.Nodup->(∀x ∈ L,∀y ∈ L,K x=K y->x=y) ->
  As 96 #[.slice (some ⟨g,0,none⟩) N cap,.int .i64 (a:Nat),.int .i64 (b:Nat),.int .i64 (lim:Nat),.func (.func 59) #[recv] #[]] w λr w'=>r=.returned (.tuple #[])/\aK n g N w w' (λM=>Pm a b L M/\Up K a b M)) :=
  λa b lim L w h=>ih (b-a) h a b lim L w (aA _)
 have HC:=ak hC;have HK:=bA hnd hK;have HA:Aside (aK n g N w w (λM=>Pq K a b a b L M)):=(hS.imp (λM _ e=>by subst e;exact Pq.start hab hF):aK n g N w w _);clear ih hS hC hF hnd hK;go_enter Tryz.func96,Tryz.ntmps96;go_wp2
 go_loopg [1,2,3,10,11] (b-a) (λgk av bv lv v10 v11 wr=>∃(c e lm:Nat) (bt pt:Bool),gk=e-c/\a<=c/\c<=e/\e<=b/\lm<1152921504606846976/\av=.int .i64 (c:Nat)/\bv=.int .i64 (e:Nat)/\lv=.int .i64 (lm:Nat)/\v10=.bool bt/\v11=.bool pt/\Aside (aK n g N w wr (λM=>Pq K a b c e L M)))
 case atStart=>exact⟨a,b,lim,true,true,rfl,aA _,hab,aA _,hlim,by first | rfl | simp,by first | rfl | simp,by first | rfl | simp,by first | rfl | simp,by first | rfl | simp,HA.o⟩
 case round =>
  clear HA;obtain⟨c,e,lm,bt,pt,jo,h1,h2,h3,hlm,rfl,rfl,rfl,rfl,rfl,HA⟩:=hrel;obtain⟨l,hl⟩:=ah (e-c);have wl:IntKind.i64.wrap ((e:Int)-(c:Int))=(l:Int):=aL ae ae;have heN:e<=N:=ae
  by_cases h12:l<=12
  . have hd12:decide ((l:Int)<=12)=true:=by simp;omega
    obtain⟨L1,s1,s2,s3,s4⟩:=HA.o.use;have C:=hid (insX K n g N c e cap L1 recv wr s3 (HC.o.at s4) h2 heN hbig);exact zd
  . have hd12:decide ((l:Int)<=12)=false:=by simp;omega
    have hl13:13<=l:=ae
    by_cases hl0:lm=0
    . subst hl0;obtain⟨L1,s1,s2,s3,s4⟩:=HA.o.use;have C:=hid (heap15 K n g N c e cap L1 recv wr s3 (HC.o.at s4) ae heN hbig);exact zd
    . have hl01:((lm:Int)==0)=false:=by simp;omega
      have hl02:decide ((lm:Int)=0)=false:=by simp;omega
      obtain⟨lm1,hlm1⟩:=ah (lm-1);have wlm:IntKind.i64.wrap ((lm:Int)-1)=(lm1:Int):=aL ae ae;have hlm2:lm1<1152921504606846976:=ae
      have HL:=bA hl hlm1;have hce:c+13<=e:=ae
      clear hl hlm1
      go_upto_region 7 with fail
      go_cut [39] from 38 to 38 (λv wx=>v=.bool (!bt)/\wx=wr)
      case first =>
       go_wp2_with fail
       go_meet
       case rel=>exact Xs
      obtain⟨rfl,hW⟩:=hcut;rw[hW];clear hW
      go_upto_if 39 with fail
      go_cut [3] from 40 to 46 (λv wx=>∃lm':Nat,lm'<1152921504606846976/\v=.int .i64 (lm':Nat)/\Aside (aK n g N w wx (λM=>Pq K a b c e L M)))
      case first =>
       cases bt
       . obtain⟨L1,s1,s2,s3,s4⟩:=HA.o.use;have C:=hid (X7 n g N c e cap L1 recv wr s3 ae heN hbig);have HF:Aside (∀v,aK n g N wr v (λM=>Pm c e L1 M)->aK n g N w v (λM=>Pq K a b c e L M)):=λv hv=>(hv.re s4).imp (λM _ q=>s1.move q);clear HA s1 s2 s3 s4;go_wp2_with fail;refine C.o.mono ?_;rintro r v ⟨rfl,hv⟩;have HR:=ak (HF.o v hv);clear C HF hv;go_wp2_with fail
         go_meet
         case rel=>exact⟨lm1,hlm2,rfl,HR.o⟩
       . go_wp2_with fail
         go_meet
         case rel=>exact⟨lm,hlm,rfl,HA.o⟩
      clear HA wlm hlm2 hl01 hl02 hl0 hlm;obtain⟨lm',X8,rfl,HA⟩:=hcut;obtain⟨W1,hW⟩:=ah wc;subst hW;obtain⟨L1,s1,s2,s3,s4⟩:=HA.o.use;have C:=hid (Uv K n g N c e cap L1 recv W1 s3 (HC.o.at s4) ae heN hbig);have HF:Aside (∀v,aK n g N W1 v (λM=>M=L1)->aK n g N w v (λM=>Pq K a b c e L M)):=λv hv=>(hv.re s4).imp (λM _ q=>by rw[q];exact s1);clear HA s1 s2 s3 s4;go_wp2_with fail;refine C.o.mono ?_;rintro r W2 ⟨p,h,rfl,hp1,hp2,hh,hv⟩;have HA:=ak (HF.o W2 hv);clear C HF hv hh
      go_upto_region 11 with fail
      go_cut [56] from 55 to 55 (λv wx=>∃t:Bool,v=.bool t/\wx=W2)
      case first =>
       by_cases hh2:h=2
       . subst hh2;exact xo
       . have k1:((h:Int)==2)=false:=by simp;omega
         have k2:decide ((h:Int)=2)=false:=by simp;omega
         exact xo
      obtain⟨t,rfl,hW⟩:=hcut;rw[hW];clear hW
      go_upto_if 56 with fail
      go_cut [13,14] from 57 to 67 (λpv hv wx=>∃p' h':Nat,c<=p'/\p'<e/\pv=.int .i64 (p':Nat)/\hv=.int .i64 (h':Nat)/\Aside (aK n g N w wx (λM=>Pq K a b c e L M)))
      case first =>
       cases t
       . go_wp2_with fail
         go_meet
         case rel=>exact⟨p,h,hp1,hp2,rfl,rfl,HA.o⟩
       . obtain⟨e1,he1⟩:=ah (e-1);obtain⟨pc,hpc⟩:=ah (p-c);obtain⟨pp,hpp⟩:=ah (e1-pc);have v1:IntKind.i64.wrap ((e:Int)-1)=(e1:Int):=aL ae ae;have v2:IntKind.i64.wrap ((p:Int)-(c:Int))=(pc:Int):=aL ae ae;have v3:IntKind.i64.wrap ((e1:Int)-(pc:Int))=(pp:Int):=aL ae ae;have k1:c<=pp:=ae
         have k2:pp<e:=ae
         obtain⟨L1,s1,s2,s3,s4⟩:=HA.o.use;have C:=hid (PO n g N c e cap L1 recv W2 s3 ae heN hbig);have HF:Aside (∀v,aK n g N W2 v (λM=>Pm c e L1 M)->aK n g N w v (λM=>Pq K a b c e L M)):=λv hv=>(hv.re s4).imp (λM _ q=>s1.move q);clear HA s1 s2 s3 s4 he1 hpc hpp;go_wp2_with fail;refine C.o.mono ?_;rintro r v ⟨rfl,hv⟩;have HR:=ak (HF.o v hv);clear C HF hv;go_wp2_with fail
         go_meet
         case rel=>exact⟨pp,1,k1,k2,rfl,rfl,HR.o⟩
      clear HA hp1 hp2;obtain⟨p',h',hp1,hp2,rfl,rfl,HA⟩:=hcut;obtain⟨W3,hW⟩:=ah wc;subst hW
      go_upto_region 15 with fail
      go_cut [75] from 68 to 74 (λv wx=>∃t:Bool,v=.bool t/\wx=W3)
      case first =>
       by_cases hh1:h'=1
       . subst hh1
         cases bt <;> cases pt
         all_goals
          exact xo
       . have k1:((h':Int)==1)=false:=by simp;omega
         have k2:decide ((h':Int)=1)=false:=by simp;omega
         cases bt <;> cases pt
         all_goals
          exact xo
      obtain⟨t,rfl,hW⟩:=hcut;rw[hW];clear hW
      go_upto_if 75 with fail
      go_cut [13] from 76 to 80 (λv wx=>v=.int .i64 (p':Nat)/\Aside (aK n g N w wx (λM=>Pq K a b c e L M)))
      case first =>
       cases t
       . go_wp2_with fail
         go_meet
         case rel=>exact⟨rfl,HA.o⟩
       . obtain⟨L1,s1,s2,s3,s4⟩:=HA.o.use;have C:=hid (PQ K n g N c e cap L1 recv W3 s3 (HC.o.at s4) s1.fl ae heN hbig);have HF:Aside (∀v t,aK n g N W3 v (λM=>Pm c e L1 M/\(t=true->Up K c e M))->aK n g N w v (λM=>Pq K a b c e L M/\(t=true->Pm a b L M/\Up K a b M))):=λv t hv=>(hv.re s4).imp (λM _ q=>⟨s1.move q.1,λht=>s1.done q.1 (q.2 ht)⟩);clear HA s1 s2 s3 s4;go_wp2_with fail;refine C.o.mono ?_;rintro r v ⟨t,rfl,hv⟩;have HR:=ak (HF.o v t hv);clear C HF hv
         cases t
         . go_wp2_with fail
           go_meet
           case rel=>exact⟨rfl,HR.o.imp (λM _ q=>q.1)⟩
         . go_wp2;refine aH (v:=.tuple #[]) (by simp[results,Tryz.results96,go_sem]) rfl ?_;exact⟨rfl,HR.o.imp (λM _ q=>by first | exact q.2 rfl | exact q.2 trivial | simpa using q.2)⟩
      clear HA;obtain⟨rfl,HA⟩:=hcut;obtain⟨W4,hW⟩:=ah wc;subst hW;obtain⟨cm,hcm⟩:=ah (c-1);have bcm:(cm:Int)<(N:Int):=ae
      have bcm':cm<N:=ae
      have bp:(p':Int)<(N:Int):=ae
      have bp':p'<N:=ae
      have HM:=ak hcm;clear hcm
      go_upto_region 17 with fail
      go_cut [97] from 81 to 96 (λv wx=>∃t:Bool,v=.bool t/\Aside (aK n g N w wx (λM=>(λM=>Pq K a b c e L M) M/\(t=true↔(0<c/\¬ ky K M cm<ky K M p')))))
      case first =>
       by_cases hgd:0<c
       . have qj:decide ((0:Int)<(c:Int))=true:=by simp;omega
         obtain⟨x,y,z,c1',c2',C0,iK⟩:=HA.o.zM HC.o cm p' ae ae;have C:=hid C0;have HF:=ak iK;have kS:=bA c1' c2';clear HA C0 iK c1' c2';have wcm:IntKind.i64.wrap ((c:Int)-1)=(cm:Int):=aL (by have:=HM.o;omega) (by have:=HM.o;omega)
         go_region_held3 (λw'=>w'.cell? ⟨g,cm,none⟩=some (.int .i64 (x:Nat))/\w'.cell? ⟨g,p',none⟩=some (.int .i64 (y:Nat))) (with_reducible exact kS.o) (first
          | (go_at_call 59
             with_reducible refine C.o.mono ?_
             rintro r v ⟨rfl,hb⟩;have G:=ak (HF.o v hb);have kS:Aside (v.cell? ⟨g,cm,none⟩=some (.int .i64 (x:Nat))/\v.cell? ⟨g,p',none⟩=some (.int .i64 (y:Nat))):=⟨(hb.cell (p:=⟨g,cm,none⟩) (aG kS.o.1)).trans kS.o.1,(hb.cell (p:=⟨g,p',none⟩) (aG kS.o.2)).trans kS.o.2⟩
             clear hb))
         all_goals
          exact zr
       . have qj:decide ((0:Int)<(c:Int))=false:=by simp;omega
         exact KB
      clear HA;obtain⟨t,rfl,HA⟩:=hcut;obtain⟨W5,hW⟩:=ah wc;subst hW
      have ht:t=false:=by
       obtain⟨M,_,_,_,_,q⟩:=HA.o
       cases t
       . rfl
       . exfalso;have k:=q.2.1 rfl;have hcm:=HM.o;have f:=q.1.fl k.1 p' hp1 hp2;rw[<-hcm] at f;exact k.2 f
      subst ht;obtain⟨L1,s1,s2,s3,s4⟩:=HA.o.use;have C:=hid (G5 K n g N c e p' cap L1 recv W5 s3 (HC.o.at s4) ae heN hp1 hp2 hbig);have HF:Aside (∀m v,aK n g N W5 v (λM=>Pm c e L1 M/\EF K c e m M)->aK n g N w v (λM=>Pq K a b c e L M/\EF K c e m M)):=λm v hv=>(hv.re s4).imp (λM _ q=>⟨s1.1.move q.1,q.2⟩);clear HA s1 s2 s3 s4;go_wp2_with fail;refine C.o.mono ?_;rintro r W6 ⟨m,t,rfl,m1,m2,hv⟩;have HA:=ak (HF.o m W6 hv);clear C HF hv;obtain⟨lf,hlf⟩:=ah (m-c);obtain⟨rt,hrt⟩:=ah (e-m);obtain⟨th,hth⟩:=ah (l/8);obtain⟨mp,hmp⟩:=ah (m+1);have v1:IntKind.i64.wrap ((m:Int)-(c:Int))=(lf:Int):=aL ae ae;have v2:IntKind.i64.wrap ((e:Int)-(m:Int))=(rt:Int):=aL ae ae;have v3:Int.tdiv (l:Int) 8=(th:Int):=by rw[hth];rfl
      have v4:IntKind.i64.wrap (th:Int)=(th:Int):=aL rfl (by have:=HL.o;omega);have v5:IntKind.i64.wrap ((m:Int)+1)=(mp:Int):=aL ae ae;have HE:=(iN hlf hrt hth hmp);clear hlf hrt hth hmp
      by_cases hlr:lf<rt
      . have hdl:decide ((lf:Int)<(rt:Int))=true:=by simp;omega
        obtain⟨L2,s1,s2,s3,s4⟩:=HA.o.use;have C:=hid (IH.o c m lm' L2 W6 ae m1 ae X8 s3 (HC.o.at s4) (s1.1.fl.left ae) (s1.1.pm.perm.nodup_iff.2 HK.o.1) (λx hx y hy=>HK.o.2 x (s1.1.pm.perm.mem_iff.1 hx) y (s1.1.pm.perm.mem_iff.1 hy)))
        have HF:Aside (∀v,aK n g N W6 v (λM=>Pm c m L2 M/\Up K c m M)->aK n g N w v (λM=>Pq K a b mp e L M)):=λv hv=>(hv.re s4).imp (λM hM q=>by
         rw[HE.o.r3]
         exact s1.1.left s1.2 q.1 q.2 (λi j hi hj hne=>Mo HK.o.1 HK.o.2 (q.1.perm.trans s1.1.pm.perm) i j ae ae hne))
        clear HA s1 s2 s3 s4;go_wp2_with fail;refine C.o.mono ?_;rintro r v ⟨rfl,hv⟩;have HR:=ak (HF.o v hv);clear C HF hv;go_wp2;go_roundg (e-mp)
        case measure=>have:=HE.o;omega
        case rel=>exact⟨mp,e,lm',_,t,rfl,by have:=HE.o;omega,by have:=HE.o;omega,h3,X8,rfl,rfl,rfl,rfl,rfl,HR.o⟩
      . have hdl:decide ((lf:Int)<(rt:Int))=false:=by simp;omega
        obtain⟨L2,s1,s2,s3,s4⟩:=HA.o.use
        have C:=hid (IH.o mp e lm' L2 W6 (by have:=HE.o;omega) (by have:=HE.o;omega) ae X8 s3 (HC.o.at s4) (by
         rw[HE.o.r3]
         exact s1.2.fl (λi j hi hj hne=>Mo HK.o.1 HK.o.2 s1.1.pm.perm i j ae ae hne)) (s1.1.pm.perm.nodup_iff.2 HK.o.1) (λx hx y hy=>HK.o.2 x (s1.1.pm.perm.mem_iff.1 hx) y (s1.1.pm.perm.mem_iff.1 hy)))
        have HF:Aside (∀v,aK n g N W6 v (λM=>Pm mp e L2 M/\Up K mp e M)->aK n g N w v (λM=>Pq K a b c m L M)):=λv hv=>(hv.re s4).imp (λM hM q=>by
         rw[HE.o.r3] at q
         exact s1.1.right s1.2 q.1 q.2)
        clear HA s1 s2 s3 s4;go_wp2_with fail;refine C.o.mono ?_;rintro r v ⟨rfl,hv⟩;have HR:=ak (HF.o v hv);clear C HF hv;go_wp2;go_roundg (m-c)
        case measure=>have:=HE.o;omega
        case rel=>exact⟨c,m,lm',_,t,rfl,h1,m1,ae,X8,rfl,rfl,rfl,rfl,rfl,HR.o⟩
def Uy(z:Nat):Nat:=if ug z then oddW else z
attribute [local go_sem] B.aW B.aJ cZ
theorem BR(b:Nat)(w:World):Ax 16 #[.int .u64 (b:Nat)] w (.float .f64 b):=by
 go_enter Tryz.func16,Tryz.ntmps16;go_wp2;exact aH (v:=.float .f64 b) (by simp[results,Tryz.results16,go_sem]) rfl ⟨rfl,rfl⟩
theorem rOf10z(w:World):Ax 16 #[.int .u64 0] w (.float .f64 0):=BR 0 w
theorem rraw10(x:Nat)(w:World):Ax 21 #[.float .f64 x] w (.int .u64 (x:Nat)):=by
 go_enter Tryz.func21,Tryz.ntmps21;go_wp2;exact aH (v:=.int .u64 (x:Nat)) (by simp[results,Tryz.results21,go_sem]) rfl ⟨rfl,rfl⟩
end
end Go.Proofs.YtjppdacikihpdaaGreatDoor
