import Derived.Test.YteginbngplldaaaGreatDoorW40x
import Derived.Test.YteginbngplldaaaGreatDoorW17x
import Derived.Laws.BitsAllLaws
import Derived.WalkLawsBesides
import Derived.Deep.RegionWith
import Derived.Laws.StructEq
set_option linter.unusedVariables false
set_option linter.unusedSimpArgs false
set_option maxHeartbeats 16000000
set_option maxRecDepth 20000
namespace Go.Proofs.YteginbngplldaaaGreatDoor
section
open Go.RowKit
theorem R5(xs:List Nat)(ao:Option Addr)(n cap B i:Nat)(w:World)(hn:n=xs.length)(hm:n<=70368744177664)(hx:Wf xs)(hR:Rd B w ao xs)(hi:i<n) :
 Ax 201 #[.slice ao n cap,.int .i64 (i:Nat)] w (.int .u32 ((xs.getD i 0:Nat):Int)):=by
 obtain⟨b,off,hb,rfl,hc⟩:=hR (by intro e;subst e;simp at hn;omega);have hcell:=hc i (by omega);obtain⟨x,hx2⟩:∃ x,xs.getD i 0=x:=⟨_,rfl⟩;rw[hx2] at hcell |-;have hi1:decide (n<=i)=false:=decide_eq_false (by omega);clear hc hx hn hx2;go_enter Tryz.func201,Tryz.ntmps201;go_wp2;go_ret;exact⟨rfl,rfl⟩
theorem CQ(xs:List Nat)(ao:Option Addr)(n cap:Nat)(i:Int)(w:World)(hn:n=xs.length)(hm:n<=70368744177664)(hi:i<0\/(n:Int)<=i) :
 Ax 201 #[.slice ao n cap,.int .i64 i] w (.int .u32 0):=by
 clear hn;rcases hi with h|h
 · go_enter Tryz.func201,Tryz.ntmps201;go_wp2;go_ret;exact⟨rfl,rfl⟩
 · have h0:decide (i<0)=false:=decide_eq_false (by omega);go_enter Tryz.func201,Tryz.ntmps201;go_wp2;go_ret;exact⟨rfl,rfl⟩
def wd(xs:List Nat)(i:Int):Nat:=if i<0 then 0 else xs.getD i.toNat 0
theorem Vd(xs:List Nat)(hx:Wf xs)(i:Int):wd xs i<4294967296:=by
 unfold wd;split
 · omega
 · exact hx.get _
theorem CR(xs:List Nat)(ao:Option Addr)(n cap B:Nat)(i:Int)(w:World)(hn:n=xs.length)(hm:n<=70368744177664)(hx:Wf xs)(hR:Rd B w ao xs) :
 Ax 201 #[.slice ao n cap,.int .i64 i] w (.int .u32 ((wd xs i:Nat):Int)):=by
 by_cases h:i<0
 · unfold wd;rw[if_pos h];exact CQ xs ao n cap i w hn hm (.inl h)
 · obtain⟨k,rfl⟩:∃ k:Nat,i=(k:Int):=⟨i.toNat,by omega⟩;unfold wd;rw[if_neg h,mF]
   by_cases hk:k<n
   · exact R5 xs ao n cap B k w hn hm hx hR hk
   · rw[fP,nZ (by omega)];exact CQ xs ao n cap k w hn hm (.inr (by omega))
def win(X:Nat)(i:Int):Nat:=if i<0 then X*2^(-i).toNat%4294967296 else X/2^i.toNat%4294967296
theorem val_mod(xs:List Nat):val xs%4294967296=xs.getD 0 0%4294967296:=by
 cases xs with
 | nil=>simp[val]
 | cons x xs=>simp[val]
theorem Ot(xs:List Nat)(hx:Wf xs)(q:Nat):∃ R,val xs/pw q=xs.getD q 0+4294967296*(xs.getD (q+1) 0+4294967296*R):=by
 by_cases h:q<xs.length
 · have h1:val xs/pw q=val (xs.drop q):=by
    have h5:=fM xs q (by omega);have h6:=df (xs.take q) (hx.take q);rw[iw,jd (by omega)] at h6;rw[h5,qV _ _ (jZ q),gY h6,dK]
   obtain⟨R,hR⟩:∃ R,val (xs.drop (q+1))=xs.getD (q+1) 0+4294967296*R:=by
    by_cases h:q+1<xs.length
    · exact⟨_,dV xs (q+1) h⟩
    · refine⟨0,?_⟩;rw[yD (by omega),fP,nZ (by omega)];rfl
   exact⟨R,by rw[h1,dV xs q h,hR]⟩
 · refine⟨0,?_⟩;have h1:=df xs hx;have h2:=jK (show xs.length<=q by omega);rw[gY (by omega),fP,nZ (by omega),fP,nZ (by omega)];rfl
theorem R7(xs:List Nat)(hx:Wf xs)(q r:Nat)(hr:r<32):(xs.getD (q+1) 0*4294967296+xs.getD q 0)/2^r%4294967296=val xs/2^(32*q+r)%4294967296:=by
 rw[mg,<-nP];obtain⟨R,hR⟩:=Ot xs hx q;rw[hR]
 have e:xs.getD q 0+4294967296*(xs.getD (q+1) 0+4294967296*R)=(xs.getD (q+1) 0*4294967296+xs.getD q 0)+2^r*(4294967296*(2^(32-r)*R)):=by
  have h1:=kC r hr;have:2^r*(4294967296*(2^(32-r)*R))=4294967296*(4294967296*R):=by rw[<-h1];grind
  rw[this];omega
 rw[e,qV _ _ (bz _),zI]
theorem IE(V k:Nat):V*2^k%4294967296=V%4294967296*2^k%4294967296:=by
 simp[Nat.mul_mod]
theorem Ww(xs:List Nat)(hx:Wf xs)(i at':Int)(rest:Nat)(h1:at'=i/32)(h2:(rest:Int)=i%32) :
 (wd xs (at'+1)*4294967296+wd xs at')/2^rest%4294967296=win (val xs) i:=by
 have hr:rest<32:=by omega
 by_cases h:i<0
 · unfold win;rw[if_pos h]
   by_cases h3:at'=-1
   · subst h3;have e1:wd xs (-1)=0:=by unfold wd;rw[if_pos (by omega)]
     have e2:wd xs (-1+1)=xs.getD 0 0:=by unfold wd;rw[if_neg (by omega)];rfl
     rw[e1,e2,gW];obtain⟨k,hk⟩:∃ k,(-i).toNat=k:=⟨_,rfl⟩;have e3:k=32-rest:=by omega
     rw[hk,IE,val_mod,<-IE,<-kC rest hr,e3];rw[show xs.getD 0 0*(2^rest*2^(32-rest))=2^rest*(xs.getD 0 0*2^(32-rest)) by grind,yC _ (bz rest)]
   · have e1:wd xs at'=0:=by unfold wd;rw[if_pos (by omega)]
     have e2:wd xs (at'+1)=0:=by unfold wd;rw[if_pos (by omega)]
     rw[e1,e2];obtain⟨k,hk⟩:∃ k,(-i).toNat=k+32:=⟨(-i).toNat-32,by omega⟩;rw[hk,aL,show(2:Nat)^32=4294967296 from rfl,<-aM,Nat.mul_mod_left];simp
 · obtain⟨n,rfl⟩:∃ n:Nat,i=(n:Int):=⟨i.toNat,by omega⟩;obtain⟨q,rfl⟩:∃ q:Nat,at'=(q:Int):=⟨at'.toNat,by omega⟩;have e1:wd xs ((q:Int)+1)=xs.getD (q+1) 0:=by unfold wd;rw[if_neg (by omega)];rfl
   have e2:wd xs (q:Int)=xs.getD q 0:=by unfold wd;rw[if_neg (by omega)];rfl
   unfold win;rw[if_neg h,e1,e2,mF,R7 xs hx q rest hr];rw[show 32*q+rest=n by omega]
theorem Yu(i:Int)(h0:-9223372036854775808<=i)(h1:i<=9223372036854775807):bits BinOp.and IntKind.i64 i 31=i%32:=by
 unfold bits;simp[IntKind.bits,IntKind.signed,IntKind.wrap]
 have e:(BitVec.ofInt 64 i &&& 31#64).toNat=(i%18446744073709551616).toNat%32:=by
  rw[BitVec.toNat_and,BitVec.toNat_ofInt];exact EY _ 5
 show(if 9223372036854775808<=(((BitVec.ofInt 64 i &&& 31#64:BitVec 64).toNat:Nat):Int)%18446744073709551616 then(((BitVec.ofInt 64 i &&& 31#64:BitVec 64).toNat:Nat):Int)%18446744073709551616-18446744073709551616 else(((BitVec.ofInt 64 i &&& 31#64:BitVec 64).toNat:Nat):Int)%18446744073709551616)=i%32;rw[e];generalize hz:(i%18446744073709551616).toNat=z;have hz2:(z:Int)=i%18446744073709551616:=by omega
 split <;> omega
theorem F9(xs:List Nat)(ao:Option Addr)(n cap B:Nat)(i:Int)(w:World)(hn:n=xs.length)(hm:n<=70368744177664)(hx:Wf xs)(hR:Rd B w ao xs)(h0:-9223372036854775808<=i)(h1:i<=9223372036854775807) :
 Ax 178 #[.slice ao n cap,.int .i64 i] w (.int .u32 ((win (val xs) i:Nat):Int)):=by
 obtain⟨at',hat⟩:∃ a,a=i/32:=⟨_,rfl⟩;obtain⟨rest,hrest⟩:∃ r:Nat,(r:Int)=i%32:=⟨(i%32).toNat,by omega⟩;have hw:=Ww xs hx i at' rest hat hrest;have W1:=hid (CR xs ao n cap B (at'+1) w hn hm hx hR);have W2:=hid (CR xs ao n cap B at' w hn hm hx hR);have l1:=Vd xs hx (at'+1);have l2:=Vd xs hx at';generalize wd xs (at'+1)=a at *;generalize wd xs at'=b at *;generalize win (val xs) i=v at *;have e1:i/32=at':=hat.symm;have e2:bits BinOp.and IntKind.i64 i 31=(rest:Int):=by rw[Yu i h0 h1,hrest]
 have e3:=o9 a b l1 l2;have hr:rest<32:=by omega
 have ha0:-288230376151711744<=at':=by omega
 have ha1:at'<=288230376151711744:=by omega
 obtain⟨t,ht⟩:∃ t:Nat,a*4294967296+b=t:=⟨_,rfl⟩;rw[ht] at e3 hw;have e4:(t:Int)/2^rest%4294967296=(v:Int):=by rw[<-hw];simp
 clear hat hrest hw hn hx hR ht;go_enter Tryz.func178,Tryz.ntmps178;go_wp2_with fail;refine W1.o.mono ?_;rintro r w1 ⟨rfl,rfl⟩;go_wp2_with fail;refine W2.o.mono ?_;rintro r w2 ⟨rfl,rfl⟩;go_wp2;go_ret;exact⟨by simp[e4],rfl⟩
theorem R8(Y i:Nat):(ws Y).getD i 0=Y/pw i%4294967296:=by
 induction i generalizing Y with
 | zero =>
   by_cases h:Y=0
   · subst h;simp[aY]
   · rw[oq Y h,jo];simp
 | succ i ih =>
   by_cases h:Y=0
   · subst h;simp[aY]
   · rw[oq Y h,bU,<-nP,<-ih];simp
theorem Ou(X low i:Nat):win X ((low:Int)+32*(i:Int))=(ws (X/2^low)).getD i 0:=by
 rw[R8,nP];unfold win;rw[if_neg (by omega),show((low:Int)+32*(i:Int)).toNat=low+32*i by omega,aL,kR];rfl
theorem Ov(Ys:List Nat)(k:Nat)(hk:k<Ys.length) :
 (Ys.take k++List.replicate (Ys.length-k) 0).set k (Ys.getD k 0)=Ys.take (k+1)++List.replicate (Ys.length-(k+1)) 0:=by
 apply List.ext_getElem?;intro j;rw[List.getElem?_set]
 by_cases hj:k=j
 · subst hj;rw[if_pos rfl,if_pos (by simp;omega),zR (by simp;omega)];simp[fP,hk]
 · rw[if_neg hj]
   by_cases h1:j<k
   · rw[zR (by simp;omega),zR (by simp;omega)];simp[h1,show j<k+1 by omega]
   · rw[List.getElem?_append_right (by simp;omega),List.getElem?_append_right (by simp;omega)];simp only[List.getElem?_replicate,iw];congr 1;simp only[eq_iff_iff];omega
theorem R9{w:World}{a:Option Addr}{n c:Nat}{xs:List Nat}(h1:Arg w a n c xs)(low size:Nat)(hle:low<=size)(hsz:size<=1125899906842624)(hlen:(size-low+31)/32=(ws (val xs/2^low)).length) :
 As 144 #[.slice a n c,.int .i64 (low:Nat),.int .i64 (size:Nat)] w fun r w'=>∃ v,r=.returned v/\Nt w.heap.size w' v (val xs/2^low)/\Below w.heap.size w w':=by
 obtain⟨m,hm⟩:=af ((size-low+31)/32);rw[<-hm] at hlen;have e1:((size:Int)-low+32-1)/32=(m:Int):=by omega
 have hmb:m<=35184372088832:=by omega
 obtain⟨W1,hW1⟩:=af (w.alloc (.cells (madeCells #[.int .u32 0] m) 91));have ni:Own W1 w.heap.size (List.replicate m 0):=by rw[hW1];exact Own.made w m
 have hB1:Below w.heap.size w W1:=by rw[hW1];exact(aB _ _).alloc (aA _) _
 have hmk:=dI (m:Int) m rfl (by omega) w;rw[<-hW1] at hmk;have A1:=h1.below hB1;obtain⟨g,hg⟩:=af (w.heap.size);rw[<-hg] at ni hmk;obtain⟨Ys,hYs⟩:∃ Ys,ws (val xs/2^low)=Ys:=⟨_,rfl⟩;have hYw:Wf Ys:=hYs ▸ dm _;rw[hYs] at hlen
 have WN:Hid (∀ wr,But g W1 wr->∀ i:Nat,i<m->Ax 178 #[.slice a n c,.int .i64 ((low:Int)+32*(i:Int))] wr (.int .u32 ((Ys.getD i 0:Nat):Int))):=by
  intro wr hb i hi;have hR:Rd w.heap.size wr a xs:=(h1.rd.below hB1).but hb (by rw[hg] at *;have:=hB1.size;omega) (by omega);have:=F9 xs a n c w.heap.size ((low:Int)+32*(i:Int)) wr h1.len (by have:=h1.big;omega) h1.wf hR (by omega) (by omega);rw[Ou,hYs] at this;exact this
 have HR:=(dJ hB1 hg hYs hYw hlen)
 have HO:Hid (Own W1 g (Ys.take 0++List.replicate (Ys.length-0) 0)):=by
  rw[<-hlen];exact hid (by simpa using ni)
 clear hm h1 ni hB1 A1 hg hYs hYw hW1 hlen;go_enter Tryz.func144,Tryz.ntmps144;go_wp2
 go_loopg [18] m (fun gk iv wr=>∃ (k:Nat),gk+k=m/\iv=.int .i64 (k:Nat)/\Hid (Own wr g (Ys.take k++List.replicate (Ys.length-k) 0))/\Aside (But g W1 wr))
 case atStart=>exact⟨0,by omega,rfl,HO,But.refl _ _⟩
 case round =>
  clear HO e1;obtain⟨k,Ff,rfl,HM,HA⟩:=hrel
  by_cases hk:k<m
  · have hlen:=HR.o.r4;have hgc:=HM.o.cell k (by simp;omega);have hgf:=HM.o.frozen k;obtain⟨old,hold⟩:∃ o:Nat,(Ys.take k++List.replicate (Ys.length-k) 0).getD k 0=o:=⟨_,rfl⟩;rw[hold] at hgc;obtain⟨y,hy⟩:∃ y:Nat,Ys.getD k 0=y:=⟨_,rfl⟩;have W2:=hid (WN.o wr HA.o k hk);rw[hy] at W2;have HY:=ak hy;clear hlen hold hy;go_wp2_with fail;refine W2.o.mono ?_;rintro r w2 ⟨rfl,rfl⟩;go_wp2;go_roundg (gk-1)
    case measure=>omega
    case rel =>
     refine⟨k+1,by omega,by first | go_num | (congr 1;omega),?_,HA.o.set _ _⟩;rw[<-Ov Ys k (by have:=HR.o.r4;omega),HY.o];exact HM.o.set _ _
  · obtain rfl:k=m:=by omega
    go_wp2;go_ret;obtain⟨hB1,hg,hYs,hYw,hlen⟩:=HR.o;have hO:=HM.o;rw[hlen,List.take_length,yE,List.replicate_zero,List.append_nil] at hO;have hN:=Nt.gD hO (lo:=w.heap.size) (by omega) hYw (by unfold maxLen;omega);have e2:nl Ys=Ys.length:=by rw[<-hYs];exact H8 _
    rw[e2,<-hYs,aj] at hN;rw[hlen,<-hYs];exact⟨_,rfl,hN,But.below hB1 HA.o hB1.size (by omega)⟩
def bN(lo:Nat)(w:World)(r:Ending)(o:Option (Bool×Nat×Int)):Prop :=
 ∃ v,r=.returned (.tuple #[.agg #[.bool (dN o),v,.int .i64 (dE o)],.int .i64 (nU o)])/\Nt lo w v (dX o)
theorem aO{W w1:World}(hb:An W w1):(∀ b o,b<W.heap.size->w1.cell? ⟨b,o,none⟩=W.cell? ⟨b,o,none⟩)/\(∀ b o,b<W.heap.size->w1.frozen? ⟨b,o,none⟩=W.frozen? ⟨b,o,none⟩) :=
 ⟨fun b o h=>hb.cell (p:=⟨b,o,none⟩) h,fun b o h=>hb.frozen (p:=⟨b,o,none⟩) h⟩
theorem il(X:Nat):(ws X).length=(bl X+31)/32:=by
 by_cases h:X=0
 · subst h;simp[aY,dD]
 · have h1:=F7 X ((ws X).length-1) _ rfl;have h2:=F7 X (ws X).length _ rfl;have h3:(ws X).length≠0:=fun e=>h ((aW X).1 e);omega
theorem Ga(X:Nat)(h:X≠0):(bl X-lo X+31)/32=(ws (X/2^lo X)).length:=by
 obtain⟨m,_,_,hb⟩:=iH X h;rw[il];congr 2;omega
theorem lh(g:Nat)(w:World)(x y z:Value):But g w (((w.setCell ⟨g,0,none⟩ x).setCell ⟨g,1,none⟩ y).setCell ⟨g,2,none⟩ z):=(((But.refl g w).set _ _).set _ _).set _ _
theorem wK{w W1 w2:World}{v:Value}{Y:Nat}(hB:An w W1)(hs:w.heap.size<W1.heap.size)(hN:Nt W1.heap.size w2 v Y)(hb:An W1 w2)(x y z:Value) :
 Nt w.heap.size (((w2.setCell ⟨w.heap.size,0,none⟩ x).setCell ⟨w.heap.size,1,none⟩ y).setCell ⟨w.heap.size,2,none⟩ z) v Y/\An w (((w2.setCell ⟨w.heap.size,0,none⟩ x).setCell ⟨w.heap.size,1,none⟩ y).setCell ⟨w.heap.size,2,none⟩ z) :=
 ⟨(hN.but (lh _ _ _ _ _) hs).mono (by omega),But.below (hB.trans (hb.mono (by omega))) (lh _ _ _ _ _) (by have:=hb.size;omega) (aA _)⟩
theorem UP{P:Prop}(h:P:=by
 clear hb hl hX h0 hB1 A1 hT1 hT h1 SZ H3 h2 XP;subst hW1;go_enter Tryz.func98,Tryz.ntmps98;go_wp2_with fail;refine H1.o.mono ?_;rintro r w1 ⟨rfl,rfl⟩;go_wp2_with fail;refine H2.o.mono ?_;rintro r w1 ⟨rfl,rfl⟩;go_wp2;refine aC (v:=.tuple #[.agg #[.bool false,.slice none 0 0,.int .i64 0],.int .i64 2]) (by simp[results,Tryz.results98,go_sem]) rfl ⟨⟨_,rfl,Nt.nil _ _⟩,HB.o⟩):P:=h
theorem ic{w:World}{a:Option Addr}{n c:Nat}{xs:List Nat}(h1:Arg w a n c xs)(hT:dH w)(neg:Bool)(e:Int)(he0:-9223372036854775808<=e)(he1:e<=9223372036854775807) :
 As 98 #[.bool neg,.slice a n c,.int .i64 e] w fun r w'=>bN w.heap.size w' r (mkS neg (val xs) e)/\An w w':=by
 obtain⟨W1,hW1⟩:=af (w.alloc (.cells #[.bool false,.slice none 0 0,.int .i64 0] 37));have hB1:An w W1:=by rw[hW1];exact(aB _ _).alloc (aA _) _
 have A1:=h1.below hB1;have hT1:=hT.belows hB1;have hbig:=h1.big;have H1:=hid (pg xs a n c W1.heap.size W1 A1.len A1.cap (by omega) A1.wf A1.rd);have H2:=hid (Rp xs a n c W1.heap.size W1 A1.len (by omega) A1.wf A1.rd hT1)
 have hbl:bl (val xs)<=32*n:=by
  have:=df xs h1.wf;rw[<-h1.len] at this;exact Og _ _ this
 obtain⟨X,hX⟩:∃ X,val xs=X:=⟨_,rfl⟩;rw[hX] at H1 H2 hbl |-;obtain⟨b,hb⟩:∃ b,bl X=b:=⟨_,rfl⟩;obtain⟨l,hl⟩:∃ l,lo X=l:=⟨_,rfl⟩;rw[hb] at H1 hbl;rw[hl] at H2;unfold mkS;rw[hb,hl]
 have hlb:l<=b:=by
  by_cases h0:X=0
  · subst h0;rw[zZ] at hl;omega
  · obtain⟨m,_,_,hbb⟩:=iH X h0;omega
 have HB:=ak hB1;have SZ:W1.heap.size=w.heap.size+1:=by rw[hW1];simp
 by_cases h0:X=0
 · have hb0:b=0:=by rw[<-hb,h0,dD]
   subst hb0;rw[if_pos h0];clear hb hl hX h0 hB1 A1 hT1 hT h1 hlb hbl SZ;subst hW1;go_enter Tryz.func98,Tryz.ntmps98;go_wp2_with fail;refine H1.o.mono ?_;rintro r w1 ⟨rfl,rfl⟩;go_wp2_with fail;refine H2.o.mono ?_;rintro r w1 ⟨rfl,rfl⟩;go_wp2;refine aC (v:=.tuple #[.agg #[.bool false,.slice none 0 0,.int .i64 0],.int .i64 0]) (by simp[results,Tryz.results98,go_sem]) rfl ⟨⟨_,rfl,Nt.nil _ _⟩,HB.o⟩
 · rw[if_neg h0];have hb0:((b:Int)==0)=false:=by have:=dG X h0;simp;omega
   have XP:=R9 A1 l b hlb (by omega) (by rw[hX,<-hb,<-hl];exact Ga X h0);rw[hX] at XP;have H3:=hid XP
   by_cases h2:262144<b-l
   · rw[if_pos (.inl h2)];have h2':(262144:Int)<(b:Int)-l:=by omega
     exact UP
   · have h2':decide ((262144:Int)<(b:Int)-l)=false:=decide_eq_false (by omega)
     by_cases h3:1048576-(l:Int)<e
     · rw[if_pos (.inr (.inl h3))];exact UP
     · have h3':decide (1048576-(l:Int)<e)=false:=decide_eq_false h3
       by_cases h4:e < -1048576-(l:Int)
       · rw[if_pos (.inr (.inr h4))];exact UP
       · have h4':decide (e < -1048576-(l:Int))=false:=decide_eq_false h4;rw[if_neg (by omega)];obtain⟨Y,hY⟩:∃ Y,X/2^l=Y:=⟨_,rfl⟩;rw[hY] at H3 |-;have hs:(ws Y).length<=35184372088832:=by rw[<-hY,<-hl,<-Ga X h0];omega
         have h5:e+l<=1048576:=by omega
         have h6:-1048576<=e+l:=by omega
         clear hb hl hX h0 hB1 A1 hT1 hT h1 XP h2 h3 h4;subst hW1;go_enter Tryz.func98,Tryz.ntmps98;go_wp2_with fail;refine H1.o.mono ?_;rintro r w1 ⟨rfl,rfl⟩;go_wp2_with fail;refine H2.o.mono ?_;rintro r w1 ⟨rfl,rfl⟩;go_wp2_with fail;refine H3.o.mono ?_;rintro r w2 ⟨v,rfl,hN,hb⟩;obtain⟨a2,c2,rfl,_⟩:=hN.arg hs;obtain⟨hc,hf⟩:=aO hb;have HN:=(aJ hN hb);have hz:=hb.size;clear hN hb;go_wp2;obtain⟨q1,q2⟩:=wK HB.o (by simp) HN.o.1 HN.o.2 (.bool neg) (.slice a2 (ws Y).length c2) (.int .i64 (e+l));exact aC (v:=.tuple #[.agg #[.bool neg,.slice a2 (ws Y).length c2,.int .i64 (e+l)],.int .i64 0]) (by simp[results,Tryz.results98,go_sem,hc]) rfl ⟨⟨_,rfl,q1⟩,q2⟩
def Au(lo:Nat)(w:World)(r:Ending)(o:Option (Bool×Nat×Int)):Prop :=
 ∃ v,r=.returned (.tuple #[.agg #[.bool (dN o),v,.int .i64 (dE o)],.bool o.isSome])/\Nt lo w v (dX o)
theorem Kq{w:World}{v:Value}{X lo':Nat}(hN:Nt lo' w v X)(hX:X≠0)(hl:(ws X).length<=2000000) :
 As 91 #[v,.int .i64 (-(lo X:Int))] w fun r w'=>∃ v,r=.returned v/\Nt w.heap.size w' v (X/2^lo X)/\An w w':=by
 have hb:=Ol X hX (ws X).length (gm X);have h:=pF hN (-(lo X:Int)) (by omega) (by omega) hX hl
 have e:(if -(lo X:Int)<0 then X/2^(- -(lo X:Int)).toNat else X*2^(-(lo X:Int)).toNat)=X/2^lo X:=by
  by_cases h0:lo X=0
  · rw[h0];simp
  · rw[if_pos (by omega),show(- -(lo X:Int)).toNat=lo X by omega]
 rw[e] at h;exact h
theorem yy{P:Prop}(h:P:=by
 rw[aj] at this;exact this):P:=h
theorem XS{P:Prop}(h:P:=by
 clear h3;go_enter Tryz.func47,Tryz.ntmps47;go_wp2_with fail;refine H1.o.mono ?_;rintro r w2 ⟨v,rfl,hN,hb⟩;obtain⟨a2,c2,rfl,A2⟩:=hN.arg (by omega);obtain⟨hc,hf⟩:=aO hb;have HN:=(aJ hN hb);have hz:=hb.size;have Sa:=hid (H2.o a2 c2 w2 A2);clear hN hb A2;go_wp2_with fail;refine(fH Sa.o) ?_;rintro r w3 ⟨rfl,rfl⟩;go_wp2;obtain⟨q1,q2⟩:=wK HB.o (by simp) HN.o.1 HN.o.2 (.bool false) (.slice none 0 0) (.int .i64 0);exact aC (v:=.tuple #[.agg #[.bool false,.slice none 0 0,.int .i64 0],.bool false]) (by simp[results,Tryz.results47,go_sem,hc]) rfl ⟨⟨_,rfl,Nt.nil _ _⟩,q2⟩):P:=h
theorem pG{w:World}{a:Option Addr}{n c:Nat}{xs:List Nat}(h1:Arg w a n c xs)(hn:n<=2000000)(neg:Bool)(e:Int)(he0:-9223372036854775808<=e)(he1:e<=9223372036854775807) :
 As 47 #[.bool neg,.slice a n c,.int .i64 e] w fun r w'=>Au w.heap.size w' r (mkS neg (val xs) e)/\An w w':=by
 have hB1:An w (w.alloc (.cells #[.bool false,.slice none 0 0,.int .i64 0] 37)):=ae w _;obtain⟨X,hX⟩:∃ X,val xs=X:=⟨_,rfl⟩;have H1:=hid (yY (h1.below hB1) hX);rw[hX];have hXp:X<pw n:=by rw[<-hX,h1.len];exact df xs h1.wf
 have Fj:(ws X).length<=2000000:=by have:=(aP X n).2 hXp;omega
 have HB:=ak hB1;clear h1 hX hB1 hXp;unfold mkS
 by_cases h0:X=0
 · rw[if_pos h0];have hl0:(ws X).length=0:=by rw[h0,aY];rfl
   go_enter Tryz.func47,Tryz.ntmps47;go_wp2_with fail;refine H1.o.mono ?_;rintro r w2 ⟨v,rfl,hN,hb⟩;obtain⟨a2,c2,rfl,_⟩:=hN.arg (by omega);obtain⟨hc,hf⟩:=aO hb;have HN:=(aJ hN hb);have hz:=hb.size;clear hN hb;rw[hl0];go_wp2;obtain⟨q1,q2⟩:=wK HB.o (by simp) HN.o.1 HN.o.2 (.bool false) (.slice none 0 0) (.int .i64 0);exact aC (v:=.tuple #[.agg #[.bool false,.slice none 0 0,.int .i64 0],.bool true]) (by simp[results,Tryz.results47,go_sem,hc]) rfl ⟨⟨_,rfl,Nt.nil _ _⟩,q2⟩
 · rw[if_neg h0];have hlo:=Ol X h0 (ws X).length (gm X);have yc:=Ga X h0;have hbl:=dG X h0
   have hL0:((((ws X).length:Nat):Int)==0)=false:=by
    have:(ws X).length≠0:=fun e=>h0 ((aW X).1 e);exact beq_eq_false_iff_ne.2 (by omega)
   have H2:Hid (∀ (a2:Option Addr) (c2:Nat) (u:World),Arg u a2 (ws X).length c2 (ws X)->Ax 90 #[.slice a2 (ws X).length c2] u (.int .i64 (lo X:Nat))):=by
    intro a2 c2 u A;have:=Om (ws X) a2 (ws X).length c2 u.heap.size u A.len (by omega) A.wf A.rd;exact yy
   have H3:Hid (∀ (lo':Nat) (v:Value) (u:World),Nt lo' u v X->As 91 #[v,.int .i64 (-(lo X:Int))] u fun r w'=>∃ v,r=.returned v/\Nt u.heap.size w' v (X/2^lo X)/\An u w') :=
    fun lo' v u hN=>Kq hN h0 Fj
   obtain⟨l,hl⟩:∃ l,lo X=l:=⟨_,rfl⟩;obtain⟨b,hb⟩:∃ b,bl X=b:=⟨_,rfl⟩;obtain⟨Y,hY⟩:∃ Y,X/2^l=Y:=⟨_,rfl⟩;rw[hl] at H2 H3 hlo yc;rw[hb] at yc hbl;rw[hY] at H3 yc;rw[hl,hb,hY];have hYl:(ws Y).length<=2000000:=by rw[<-hY];have:=jh (nO X (2^l));omega
   by_cases h3:1048576-(l:Int)<e\/e < -1048576-(l:Int)
   · rw[if_pos (.inr h3)];clear yc hbl hY hl hb h0
     by_cases g1:1048576<e
     · exact XS
     · have g1':decide (1048576<e)=false:=decide_eq_false g1
       by_cases g2:1048576<e+(l:Int)
       · exact XS
       · have g2':decide (1048576<e+(l:Int))=false:=decide_eq_false g2;have g3:e+(l:Int) < -1048576:=by omega
         exact XS
   · have g1':decide (1048576<e)=false:=decide_eq_false (by omega);have g2':decide (1048576<e+(l:Int))=false:=decide_eq_false (by omega);have g3':decide (e+(l:Int) < -1048576)=false:=decide_eq_false (by omega);have g4:e+(l:Int)<=1048576:=by omega
     have g5:-1048576<=e+(l:Int):=by omega
     have hdec:(262144<b-l)↔8192<(ws Y).length:=by omega
     by_cases h4:262144<b-l
     · rw[if_pos (.inl h4)];have h5:8192<(ws Y).length:=hdec.1 h4;clear yc hbl hY hl hb h0 h3 hdec h4;go_enter Tryz.func47,Tryz.ntmps47;go_wp2_with fail;refine H1.o.mono ?_;rintro r w2 ⟨v,rfl,hN,hb⟩;obtain⟨a2,c2,rfl,A2⟩:=hN.arg (by omega);have hz:=hb.size;have Sa:=hid (H2.o a2 c2 w2 A2);have H3':=hid (H3.o _ _ w2 hN);have HN:=(aJ hN hb);clear hN hb A2;go_wp2_with fail;refine(fH Sa.o) ?_;rintro r w3 ⟨rfl,rfl⟩;go_wp2_with fail;refine(fH H3'.o) ?_;rintro r w4 ⟨v4,rfl,iD,hb4⟩;obtain⟨a4,c4,rfl,_⟩:=iD.arg (by omega);have hb:=HN.o.2.trans (hb4.mono hz);have uW:=iD.mono hz;obtain⟨hc,hf⟩:=aO hb;have HN:=(aJ uW hb);clear iD hb4 hb uW;go_wp2;obtain⟨q1,q2⟩:=wK HB.o (by simp) HN.o.1 HN.o.2 (.bool false) (.slice none 0 0) (.int .i64 0);exact aC (v:=.tuple #[.agg #[.bool false,.slice none 0 0,.int .i64 0],.bool false]) (by simp[results,Tryz.results47,go_sem,hc]) rfl ⟨⟨_,rfl,Nt.nil _ _⟩,q2⟩
     · rw[if_neg (by omega)];have h5:(ws Y).length<=8192:=by omega
       clear yc hbl hY hl hb h0 h3 hdec h4;go_enter Tryz.func47,Tryz.ntmps47;go_wp2_with fail;refine H1.o.mono ?_;rintro r w2 ⟨v,rfl,hN,hb⟩;obtain⟨a2,c2,rfl,A2⟩:=hN.arg (by omega);have hz:=hb.size;have Sa:=hid (H2.o a2 c2 w2 A2);have H3':=hid (H3.o _ _ w2 hN);have HN:=(aJ hN hb);clear hN hb A2;go_wp2_with fail;refine(fH Sa.o) ?_;rintro r w3 ⟨rfl,rfl⟩;go_wp2_with fail;refine(fH H3'.o) ?_;rintro r w4 ⟨v4,rfl,iD,hb4⟩;obtain⟨a4,c4,rfl,_⟩:=iD.arg (by omega);have hb:=HN.o.2.trans (hb4.mono hz);have uW:=iD.mono hz;obtain⟨hc,hf⟩:=aO hb;have HN:=(aJ uW hb);clear iD hb4 hb uW;go_wp2;obtain⟨q1,q2⟩:=wK HB.o (by simp) HN.o.1 HN.o.2 (.bool neg) (.slice a4 (ws Y).length c4) (.int .i64 (e+l));exact aC (v:=.tuple #[.agg #[.bool neg,.slice a4 (ws Y).length c4,.int .i64 (e+l)],.bool true]) (by simp[results,Tryz.results47,go_sem,hc]) rfl ⟨⟨_,rfl,q1⟩,q2⟩
theorem But.oJ{g:Nat}(w:World)(i:Nat)(u:Value):But g w (w.setCell ⟨g,i,none⟩ u):=(But.refl g w).set _ _
theorem Nt.oJ{lo:Nat}{w:World}{v:Value}{X:Nat}(h:Nt lo w v X)(b i:Nat)(u:Value)(hb:b<lo):Nt lo (w.setCell ⟨b,i,none⟩ u) v X:=h.but (But.oJ w i u) hb
theorem Nt.Wx{lo:Nat}{w:World}{v:Value}{X:Nat}(h:Nt lo w v X)(o:Obj):Nt lo (w.alloc o) v X:=h.below (ae w o)
theorem Below.oJ{lo:Nat}{w0 w:World}(h:Below lo w0 w)(b i:Nat)(u:Value)(hb:lo<=b)(hs:lo<=w.heap.size):Below lo w0 (w.setCell ⟨b,i,none⟩ u):=But.below h (But.oJ w i u) hs hb
structure Fin (lo m:Nat) (w0 w:World) (v:Value) (X:Nat):Prop where
 nt:Nt m w v X
 au:Below lo w0 w
 size:lo<=w.heap.size
theorem Fin.set{lo m:Nat}{w0 w:World}{v:Value}{X:Nat}(H:Fin lo m w0 w v X)(b i:Nat)(u:Value)(h1:lo<=b)(h2:b<m):Fin lo m w0 (w.setCell ⟨b,i,none⟩ u) v X :=
 ⟨H.nt.oJ b i u h2,Below.oJ H.au b i u h1 H.size,by simpa [World.setCell] using H.size⟩
theorem Fin.alloc{lo m:Nat}{w0 w:World}{v:Value}{X:Nat}(H:Fin lo m w0 w v X)(o:Obj):Fin lo m w0 (w.alloc o) v X :=
 ⟨H.nt.Wx o,H.au.alloc H.size o,by have:=H.size;simp;omega⟩
theorem Fin.of{lo:Nat}{w0 W1 w2:World}{v:Value}{X:Nat}(k:Nat)(hB:Below lo w0 W1)(hk:W1.heap.size=lo+k)(hN:Nt W1.heap.size w2 v X)(hb:An W1 w2):Fin lo (lo+k) w0 w2 v X :=
 ⟨hk ▸ hN,hB.trans (hb.mono (by omega)),by have:=hb.size;omega⟩
theorem Fin.jI{lo m:Nat}{w0 w:World}{n:Bool}{v:Value}{X:Nat}{e:Int}{k:Value}(H:Fin lo m w0 w v X)(h:lo<=m) :
 (∃ v',Ending.returned (.tuple #[.agg #[.bool n,v,.int .i64 e],k])=.returned (.tuple #[.agg #[.bool n,v',.int .i64 e],k])/\Nt lo w v' X)/\Below lo w0 w:=⟨⟨v,rfl,H.nt.mono h⟩,H.au⟩
theorem Fin.Yv{lo m:Nat}{w0 w:World}{n:Bool}{v:Value}{X:Nat}{e:Int}{k:Value}(H:Fin lo m w0 w v X) :
 (∃ v',Ending.returned (.tuple #[.agg #[.bool n,.slice none 0 0,.int .i64 e],k])=.returned (.tuple #[.agg #[.bool n,v',.int .i64 e],k])/\Nt lo w v' 0)/\Below lo w0 w:=⟨⟨_,rfl,Nt.nil _ _⟩,H.au⟩
theorem pI{w:World}{a:Option Addr}{n c:Nat}{xs:List Nat}(h1:Arg w a n c xs)(hn:n<=2000000)(neg:Bool)(e:Int)(he0:-9223372036854775808<=e)(he1:e<=9223372036854775807) :
 As 110 #[.bool neg,.slice a n c,.int .i64 e] w fun r w'=>bN w.heap.size w' r (mkS neg (val xs) e)/\An w w':=by
 have H1:=hid (pG (h1.below (ae w (.cells #[.bool false,.slice none 0 0,.int .i64 0] 37))) hn neg e he0 he1);have hl:=aI neg (val xs) e;obtain⟨o,ho⟩:∃ o,mkS neg (val xs) e=o:=⟨_,rfl⟩;rw[ho] at H1 hl |-;unfold Au at H1;unfold bN;have HB:=ak (ae w (.cells #[.bool false,.slice none 0 0,.int .i64 0] 37));clear h1 ho hn he0 he1
 match o with
 | none =>
   simp only[dN,dX,dE,nU,Option.isSome,Option.getD] at H1 hl |-;go_enter Tryz.func110,Tryz.ntmps110;go_wp2_with fail;refine H1.o.mono ?_;rintro r w2 ⟨⟨v,rfl,hN⟩,hb⟩;obtain⟨a2,c2,rfl,_⟩:=hN.arg (by omega);obtain⟨hc,hf⟩:=aO hb;have HF:=ak (Fin.of 1 HB.o (by simp) hN hb);have hz:w.heap.size<w2.heap.size:=by have:=hb.size;simp at this;omega
   clear hN hb;go_wp2;exact aC (v:=.tuple #[.agg #[.bool false,.slice none 0 0,.int .i64 0],.int .i64 2]) (by simp[results,Tryz.results110,go_sem,hc,hz]) rfl (Fin.Yv (m:=w.heap.size+1) (v:=.slice a2 (ws 0).length c2) (X:=0) (by repeat (first | exact HF.o | refine Fin.alloc ?_ _ | refine Fin.set ?_ _ _ _ (by omega) (by omega))))
 | some (dn,X,de) =>
   simp only[dN,dX,dE,nU,Option.isSome,Option.getD] at H1 hl |-;go_enter Tryz.func110,Tryz.ntmps110;go_wp2_with fail;refine H1.o.mono ?_;rintro r w2 ⟨⟨v,rfl,hN⟩,hb⟩;obtain⟨a2,c2,rfl,_⟩:=hN.arg (by omega);obtain⟨hc,hf⟩:=aO hb;have HF:=ak (Fin.of 1 HB.o (by simp) hN hb);have hz:w.heap.size<w2.heap.size:=by have:=hb.size;simp at this;omega
   clear hN hb;go_wp2;exact aC (v:=.tuple #[.agg #[.bool dn,.slice a2 (ws X).length c2,.int .i64 de],.int .i64 0]) (by simp[results,Tryz.results110,go_sem,hc,hz]) rfl (Fin.jI (m:=w.heap.size+1) (by repeat (first | exact HF.o | refine Fin.alloc ?_ _ | refine Fin.set ?_ _ _ _ (by omega) (by omega))) (by omega))
end
namespace B
theorem Ow(s t:Bool)(e f u v:Nat)(he:e<2048)(hf:f<4503599627370496)(hu:u<2048)(hv:v<4503599627370496) :
 (FloatKind.f64.format.order (bw s e f) (bw t u v)==some .lt)=(!odd e f&&(!odd u v&&decide (pl s e f<pl t u v))):=by
 rw[ord s t e f u v he hf hu hv]
 cases odd e f <;> cases odd u v <;> simp
 by_cases h:pl s e f<pl t u v
 · rw[uo.2 h];simp[h]
 · rw[decide_eq_false h]
   by_cases h2:pl t u v<pl s e f
   · rw[uq.2 h2];rfl
   · rw[uw.2 (by omega)];rfl
theorem Wy(s t:Bool)(e f u v:Nat)(he:e<2048)(hf:f<4503599627370496)(hu:u<2048)(hv:v<4503599627370496) :
 (FloatKind.f64.format.order (bw s e f) (bw t u v)==some .gt)=(!odd e f&&(!odd u v&&decide (pl t u v<pl s e f))):=by
 rw[ord s t e f u v he hf hu hv]
 cases odd e f <;> cases odd u v <;> simp
 by_cases h:pl t u v<pl s e f
 · rw[uq.2 h];simp[h]
 · rw[decide_eq_false h]
   by_cases h2:pl s e f<pl t u v
   · rw[uo.2 h2];rfl
   · rw[uw.2 (by omega)];rfl
theorem Wz(s t:Bool)(e f u v:Nat)(he:e<2048)(hf:f<4503599627370496)(hu:u<2048)(hv:v<4503599627370496) :
 (FloatKind.f64.format.order (bw s e f) (bw t u v)==some .eq)=(!odd e f&&(!odd u v&&decide (pl s e f=pl t u v))):=by
 rw[ord s t e f u v he hf hu hv]
 cases odd e f <;> cases odd u v <;> simp
 by_cases h:pl s e f<pl t u v
 · rw[uo.2 h,decide_eq_false (by omega)];rfl
 · by_cases h2:pl t u v<pl s e f
   · rw[uq.2 h2,decide_eq_false (by omega)];rfl
   · rw[uw.2 (by omega),decide_eq_true (by omega)];rfl
theorem Aw(e f:Nat)(h:e<2047):odd e f=false:=by
 have:(e==2047)=false:=by simp;omega
 simp[odd,this]
theorem Ox(e:Nat):odd e 0=false:=by simp[odd]
theorem IG:bw false 0 0=0:=rfl
theorem WA:bw false 2046 4503599627370495=9218868437227405311:=rfl
theorem WB(s:Bool)(e f:Nat)(he:e<2048)(hf:f<4503599627370496) :
 (FloatKind.f64.format.order (bw s e f) 9218868437227405311==some .gt)=(!s&&(e==2047&&f==0)):=by
 have h:=Wy s false e f 2046 4503599627370495 he hf (by omega) (by omega);rw[WA] at h;rw[h,Aw 2046 _ (by omega)]
 cases ho:odd e f
 · have:=Iw e f ho;rw[zS]
   cases s <;> simp[pl,sg] <;> omega
 · obtain⟨h1,h2⟩:=N8 e f ho;have h3:(f==0)=false:=by simp[h2]
   simp[h1,h3]
theorem II(s:Bool)(e f:Nat)(he:e<2048)(hf:f<4503599627370496) :
 (FloatKind.f64.format.order (bw s e f) 0==some .eq)=(e==0&&f==0):=by
 have h:=Wz s false e f 0 0 he hf (by omega) (by omega);rw[IG] at h;rw[h,Aw 0 _ (by omega)]
 cases ho:odd e f
 · rw[zS]
   cases s <;> simp[pl,sg] <;> omega
 · obtain⟨h1,h2⟩:=N8 e f ho;have h3:(e==0)=false:=by simp[h1]
   simp[h3]
theorem IJ(s:Bool)(e f:Nat)(he:e<2048)(hf:f<4503599627370496)(ho:odd e f=false)(hz:(e==0&&f==0)=false) :
 (FloatKind.f64.format.order (bw s e f) 0==some .lt)=s:=by
 have h:=Ow s false e f 0 0 he hf (by omega) (by omega);rw[IG] at h;rw[h,Aw 0 _ (by omega),ho];have hz':¬ (e=0/\f=0):=by rintro ⟨rfl,rfl⟩;simp at hz
 rw[zS]
 cases s <;> simp[pl,sg] <;> omega
theorem Oy(s:Bool)(e f:Nat)(he:e<2048)(hf:f<4503599627370496):bits .andNot .u64 ((bw s e f:Nat):Int) 9223372036854775808=(bw false e f:Int):=by
 have h:=u64_andNot_nat (bw s e f) 9223372036854775808 (wE s e f he hf) (by omega);rw[show(((9223372036854775808:Nat)):Int)=9223372036854775808 from rfl] at h;rw[h,show 18446744073709551615-9223372036854775808=2^63-1 from rfl,EY];congr 1;exact zd
end B
section
open Go.RowKit
open Go.Proofs.YteginbngplldaaaGreatDoor.B (bB aF bw)
attribute [local go_sem] bB aF
def kn(a:Int):Bool:=decide (0<=a)&&decide (a<=2)
def may(a b:Int):Bool:=kn a&&kn b
def ct(a:Int):Bool:=decide (0<=a)&&decide (a<=1099511627776)
theorem jx{P:Prop}(h:P:=by
 go_wp2;go_ret;exact⟨by first | rfl | simp,rfl⟩):P:=h
theorem tF(a:Int)(w:World):Ax 157 #[.int .i64 a] w (.bool (kn a)):=by
 unfold kn
 by_cases h:0<=a
 · have hd:decide (0<=a)=true:=decide_eq_true h;rw[hd];go_enter Tryz.func157,Tryz.ntmps157;exact jx
 · have hd:decide (0<=a)=false:=decide_eq_false h;rw[hd];go_enter Tryz.func157,Tryz.ntmps157;exact jx
theorem ql(a:Int)(w:World):Ax 159 #[.int .i64 a] w (.bool (ct a)):=by
 unfold ct
 by_cases h:0<=a
 · have hd:decide (0<=a)=true:=decide_eq_true h;rw[hd];go_enter Tryz.func159,Tryz.ntmps159;exact jx
 · have hd:decide (0<=a)=false:=decide_eq_false h;rw[hd];go_enter Tryz.func159,Tryz.ntmps159;exact jx
theorem vT(a b:Int)(w:World):At 118 #[.agg #[.int .i64 a,.int .i64 b]] w (.bool (may a b)):=by
 unfold may;rcases ha:kn a with _|_
 · have H:=hid (fun w=>ha ▸ tF a w);clear ha;go_enter Tryz.func118,Tryz.ntmps118;go_wp2_with fail;refine(H.o _).mono ?_;rintro r w1 ⟨rfl,rfl⟩;go_wp2;go_ret;exact⟨rfl,(aB _ _).alloc (aA _) _⟩
 · have H:=hid (fun w=>ha ▸ tF a w);have H2:=hid (fun w=>tF b w);obtain⟨kb,hkb⟩:∃ k,kn b=k:=⟨_,rfl⟩;rw[hkb] at H2 |-;clear ha hkb;go_enter Tryz.func118,Tryz.ntmps118;go_wp2_with fail;refine(H.o _).mono ?_;rintro r w1 ⟨rfl,rfl⟩;go_wp2_with fail;refine(H2.o _).mono ?_;rintro r w1 ⟨rfl,rfl⟩;go_wp2;go_ret;exact⟨by first | rfl | simp,(aB _ _).alloc (aA _) _⟩
theorem Sb(w:World):Ax 124 #[.int .i64 1] w (.float .f64 9218868437227405312):=by
 go_enter Tryz.func124,Tryz.ntmps124;exact Jx
theorem Kr(w:World):Ax 124 #[.int .i64 (-1)] w (.float .f64 18442240474082181120):=by
 go_enter Tryz.func124,Tryz.ntmps124;exact Jx
open Go.RowKit
open Go.Proofs.YteginbngplldaaaGreatDoor.B (bB aF bw aO)
attribute [local go_sem] bB aF
def snd(n u d m p a:Int):Bool:=ct n&&ct u&&ct d&&(ct m&&ct p&&ct a)&&decide (n+u+d+m+p<=a)
theorem Sc{n:Int}(h:ct n=true):0<=n/\n<=1099511627776:=by unfold ct at h;simpa using h
theorem Sd{n u d m p:Int}(i:Nat)(hi:i<5)(h:ct ([n,u,d,m,p].getD i 0)=false)(a:Int):snd n u d m p a=false:=by
 unfold snd;obtain rfl|rfl|rfl|rfl|rfl:i=0\/i=1\/i=2\/i=3\/i=4:=by omega
 all_goals (simp at h;simp[h])
def ps(L:List Int)(i:Nat):Int:=(L.take i).sum
theorem Sg(L:List Int)(i:Nat)(h:i<L.length):ps L (i+1)=ps L i+L.getD i 0:=by
 unfold ps;rw[EM h,List.sum_append,fP,jb h];simp
theorem jt{P:Prop}(h:P:=by
 rw[ha] at HA HS;clear ha;go_wp2_with fail;refine(HA.o _).mono ?_;rintro r w1 ⟨rfl,rfl⟩;go_wp2;go_ret;exact⟨by rw[HS.o];first | rfl | simp,hbel⟩):P:=h
theorem Kt(n u d m p a:Int)(w:World):At 122 #[.agg #[.int .i64 n,.int .i64 u,.int .i64 d,.int .i64 m,.int .i64 p,.int .i64 a]] w (.bool (snd n u d m p a)):=by
 obtain⟨L,hL⟩:∃ L:List Int,L=[n,u,d,m,p]:=⟨_,rfl⟩;have hlen:L.length=5:=by rw[hL];rfl
 have HL:=(aJ hL hlen);obtain⟨W,hW⟩:=af ((w.alloc (.cells #[.int .i64 n,.int .i64 u,.int .i64 d,.int .i64 m,.int .i64 p,.int .i64 a] 99)).alloc (.cells #[.int .i64 n,.int .i64 u,.int .i64 d,.int .i64 m,.int .i64 p] 164))
 have hcell:∀ i,i<5->W.cell? ⟨w.heap.size+1,i,none⟩=some (.int .i64 (L.getD i 0)):=by
  intro i hi;have h1:=gZ (w.alloc (.cells #[.int .i64 n,.int .i64 u,.int .i64 d,.int .i64 m,.int .i64 p,.int .i64 a] 99)) (.cells #[.int .i64 n,.int .i64 u,.int .i64 d,.int .i64 m,.int .i64 p] 164);rw[<-hW] at h1;simp only[dA] at h1;subst hL;simp only[World.cell?,h1];obtain rfl|rfl|rfl|rfl|rfl:i=0\/i=1\/i=2\/i=3\/i=4:=by omega
  all_goals simp
 have Yw:W.cell? ⟨w.heap.size,5,none⟩=some (.int .i64 a):=by rw[hW];simp[go_sem]
 have hbel:An w W:=by rw[hW];exact((aB _ _).alloc (aA _) _).alloc (by simp) _
 have HC:=(fE hcell hbel hW Yw);clear hL hlen hcell hbel hW Yw;have HA:=hid (ql a);go_enter Tryz.func122,Tryz.ntmps122;go_wp2
 go_loopg [4,17] 5 (fun gk sv iv wr=>∃ i:Nat,gk+i=5/\sv=.int .i64 (ps L i)/\iv=.int .i64 (i:Nat)/\wr=W/\Aside (∀ j,j<i->ct (L.getD j 0)=true)/\0<=ps L i/\ps L i<=(i:Int)*1099511627776)
 case atStart=>exact⟨0,rfl,rfl,rfl,by rw[HC.o.r2.1],fun j hj=>absurd hj (by omega),by simp[ps],by simp[ps]⟩
 case round =>
  obtain⟨i,hi,rfl,rfl,rfl,HT,hp0,hp1⟩:=hrel;obtain⟨hcell,hbel,hW,Yw⟩:=HC.o
  by_cases hi5:i=5
  · obtain rfl:gk=0:=by omega
    subst hi5
    have hs:snd n u d m p a=(ct a&&decide (ps L 5<=a)):=by
     have h0:=HT.o 0 (by omega);have h1:=HT.o 1 (by omega);have h2:=HT.o 2 (by omega);have h3:=HT.o 3 (by omega);have h4:=HT.o 4 (by omega);have e:=HL.o.1;subst e;have e2:ps [n,u,d,m,p] 5=n+u+d+m+p:=by simp[ps];omega
     rw[e2];simp at h0 h1 h2 h3 h4;unfold snd;rw[h0,h1,h2,h3,h4];simp
    obtain⟨q,hq⟩:∃ q,ps L 5=q:=⟨_,rfl⟩;rw[hq] at hp0 hp1 hs |-;have HS:=ak hs;clear hcell hW hs hq;rcases ha:ct a with _|_
    · exact jt
    · exact jt
  · have hil:i<5:=by omega
    have hci:=hcell i hil;have HK:=hid (ql (L.getD i 0));have hps:=Sg L i (by rw[HL.o.2];exact hil);obtain⟨x,hx⟩:∃ x,L.getD i 0=x:=⟨_,rfl⟩;rw[hx] at hci HK hps;rcases hc:ct x with _|_
    · rw[hc] at HK
      have HS:Aside (snd n u d m p a=false):=by
       have h1:=hc;rw[<-hx,HL.o.1] at h1;exact Sd i hil h1 a
      have HB:=ak hbel;clear hcell hbel hW Yw hps hx hc hi5 HC HL;go_wp2_with fail;refine(HK.o _).mono ?_;rintro r w1 ⟨rfl,rfl⟩;go_wp2;go_ret;exact⟨by rw[HS.o];rfl,HB.o⟩
    · rw[hc] at HK;have hb:=Sc hc;obtain⟨q,hq⟩:∃ q,ps L i=q:=⟨_,rfl⟩;obtain⟨q2,hq2⟩:∃ q,ps L (i+1)=q:=⟨_,rfl⟩;rw[hq,hq2] at hps;rw[hq] at hp0 hp1 |-;have hq3:q+x=q2:=hps.symm
      have hq4:0<=q2/\q2<=((i:Int)+1)*1099511627776:=by
       have:((i:Int)+1)*1099511627776=(i:Int)*1099511627776+1099511627776:=by omega
       omega
      have hq5:q2<=9223372036854775807:=by omega
      have hq6:-9223372036854775808<=q2:=by omega
      have HR:=(dJ hq2 hq4 hx hc hq3);clear hcell hbel hW Yw hps hx hc hi5 HC hq2 hq hp0 hp1 hb hq4;go_wp2_with fail;refine(HK.o _).mono ?_;rintro r w1 ⟨rfl,rfl⟩;go_wp2;go_roundg (5-(i+1))
      case measure=>omega
      case rel =>
       obtain⟨hq2,hq4,hx,hc,hq3⟩:=HR.o;refine⟨i+1,by omega,?_,by first | go_num | (congr 1;omega),rfl,?_,by rw[hq2];exact hq4.1,by rw[hq2];have:=hq4.2;push_cast;exact this⟩
       · first | (rw[hq2];done) | (rw[hq2,<-hq3];done)
       · intro j hj
         by_cases hji:j=i
         · subst hji;rw[hx];exact hc
         · exact HT.o j (by omega)
def vd(ok:Bool)(n u d a b:Int):Nat×Bool :=
 if ok=false then(0,false) else if 0<n/\a=0 then(9221120237041090560,true) else if ¬ b=0 then(0,false)
 else if 0<u/\0<d then(9221120237041090560,true) else if 0<u then(9218868437227405312,true) else if 0<d then(18442240474082181120,true) else(0,false)
end
section
open Go.RowKit
open Go.Proofs.YteginbngplldaaaGreatDoor.B (bB aF bw aO)
attribute [local go_sem] bB aF
theorem Z3{P:Prop}(h:P:=by
 go_ret2
 exact⟨by first | rfl | simp,((((aB _ w).alloc (aA _) _).alloc (by simp) _).trans (B1.o.mono (by simp;omega))).trans (B2.o.mono (by omega))⟩):P:=h
theorem Z1{P:Prop}(h:P:=by
 go_enter Tryz.func79,Tryz.ntmps79;go_wp2_with fail;refine(HS.o _).mono ?_;rintro r w1 ⟨rfl,hb1⟩;have hz1:=hb1.size;simp at hz1;obtain⟨hc1,hf1⟩:=aO hb1;have B1:=ak hb1;clear hb1;go_wp2_with fail;refine(HM.o _).mono ?_;rintro r w2 ⟨rfl,hb2⟩;have hz2:=hb2.size;obtain⟨hc2,hf2⟩:=aO hb2;have hc3:∀ b o,b<w.heap.size+1+1->w2.cell? ⟨b,o,none⟩=w1.cell? ⟨b,o,none⟩:=fun b o h=>hc2 b o (by omega);have B2:=ak hb2;clear hb2 hc2 hf2;go_wp2
 go_ret2
 exact⟨by first | rfl | simp,((((aB _ w).alloc (aA _) _).alloc (by simp) _).trans (B1.o.mono (by simp;omega))).trans (B2.o.mono (by omega))⟩):P:=h
theorem CS(n u d m p l a b:Int)(w:World):At 79 #[.agg #[.int .i64 n,.int .i64 u,.int .i64 d,.int .i64 m,.int .i64 p,.int .i64 l],.agg #[.int .i64 a,.int .i64 b]] w (.tuple #[.float .f64 (vd (snd n u d m p l&&may a b) n u d a b).1,.bool (vd (snd n u d m p l&&may a b) n u d a b).2]):=by
 have HS:=hid (Kt n u d m p l);have HM:=hid (vT a b);have HN:=hid (B.RO);have HU:=hid (Sb);have HD:=hid (Kr);rcases hs:snd n u d m p l with _|_
 · rw[hs] at HS;rw[nR];have hv:vd false n u d a b=(0,false):=by unfold vd;rw[if_pos rfl]
   rw[hv];clear hs hv;go_enter Tryz.func79,Tryz.ntmps79;go_wp2_with fail;refine(HS.o _).mono ?_;rintro r w1 ⟨rfl,hb1⟩;have hz1:=hb1.size;simp at hz1;obtain⟨hc1,hf1⟩:=aO hb1;have B1:=ak hb1;clear hb1;go_wp2
   go_ret2
   exact⟨by first | rfl | simp,(((aB _ w).alloc (aA _) _).alloc (by simp) _).trans (B1.o.mono (by simp;omega))⟩
 rcases hm:may a b with _|_
 · rw[hs] at HS;rw[hm] at HM;have hv:vd (true&&false) n u d a b=(0,false):=if_pos rfl;rw[hv];clear hs hm hv;exact Z1
 rw[hs] at HS;rw[hm] at HM;rw[og];clear hs hm
 have way1:0<n->a=0->At 79 #[.agg #[.int .i64 n,.int .i64 u,.int .i64 d,.int .i64 m,.int .i64 p,.int .i64 l],.agg #[.int .i64 a,.int .i64 b]] w (.tuple #[.float .f64 (vd true n u d a b).1,.bool (vd true n u d a b).2]):=by
  intro p1 p2;have hv:vd true n u d a b=(9221120237041090560,true):=by unfold vd;rw[if_neg (by decide),if_pos ⟨p1,p2⟩]
  rw[hv];clear hv;have q1:0<n:=p1;have q2:a=0:=p2;subst q2;go_enter Tryz.func79,Tryz.ntmps79;go_wp2_with fail;refine(HS.o _).mono ?_;rintro r w1 ⟨rfl,hb1⟩;have hz1:=hb1.size;simp at hz1;obtain⟨hc1,hf1⟩:=aO hb1;have B1:=ak hb1;clear hb1;go_wp2_with fail;refine(HM.o _).mono ?_;rintro r w2 ⟨rfl,hb2⟩;have hz2:=hb2.size;obtain⟨hc2,hf2⟩:=aO hb2;have hc3:∀ b o,b<w.heap.size+1+1->w2.cell? ⟨b,o,none⟩=w1.cell? ⟨b,o,none⟩:=fun b o h=>hc2 b o (by omega);have B2:=ak hb2;clear hb2 hc2 hf2;go_wp2_with fail;refine(HN.o _).mono ?_;rintro r w3 ⟨rfl,rfl⟩;go_wp2
  exact Z3
 have way2:0<n->¬ (a=0)->¬ (b=0)->At 79 #[.agg #[.int .i64 n,.int .i64 u,.int .i64 d,.int .i64 m,.int .i64 p,.int .i64 l],.agg #[.int .i64 a,.int .i64 b]] w (.tuple #[.float .f64 (vd true n u d a b).1,.bool (vd true n u d a b).2]):=by
  intro p1 p2 p3;have hv:vd true n u d a b=(0,false):=by unfold vd;rw[if_neg (by decide),if_neg (fun h=>p2 h.2),if_pos p3]
  rw[hv];clear hv;have q1:0<n:=p1;have q2:(a==0)=false:=by rw[beq_eq_false_iff_ne];exact p2
  have q3:(b==0)=false:=by rw[beq_eq_false_iff_ne];exact p3
  exact Z1
 have way3:0<n->¬ (a=0)->b=0->0<u->0<d->At 79 #[.agg #[.int .i64 n,.int .i64 u,.int .i64 d,.int .i64 m,.int .i64 p,.int .i64 l],.agg #[.int .i64 a,.int .i64 b]] w (.tuple #[.float .f64 (vd true n u d a b).1,.bool (vd true n u d a b).2]):=by
  intro p1 p2 p3 p4 p5;have hv:vd true n u d a b=(9221120237041090560,true):=by unfold vd;rw[if_neg (by decide),if_neg (fun h=>p2 h.2),if_neg (not_not_intro p3),if_pos ⟨p4,p5⟩]
  rw[hv];clear hv;have q1:0<n:=p1;have q2:(a==0)=false:=by rw[beq_eq_false_iff_ne];exact p2
  have q3:b=0:=p3;have q4:0<u:=p4;have q5:0<d:=p5;subst q3;go_enter Tryz.func79,Tryz.ntmps79;go_wp2_with fail;refine(HS.o _).mono ?_;rintro r w1 ⟨rfl,hb1⟩;have hz1:=hb1.size;simp at hz1;obtain⟨hc1,hf1⟩:=aO hb1;have B1:=ak hb1;clear hb1;go_wp2_with fail;refine(HM.o _).mono ?_;rintro r w2 ⟨rfl,hb2⟩;have hz2:=hb2.size;obtain⟨hc2,hf2⟩:=aO hb2;have hc3:∀ b o,b<w.heap.size+1+1->w2.cell? ⟨b,o,none⟩=w1.cell? ⟨b,o,none⟩:=fun b o h=>hc2 b o (by omega);have B2:=ak hb2;clear hb2 hc2 hf2;go_wp2_with fail;refine(HN.o _).mono ?_;rintro r w3 ⟨rfl,rfl⟩;go_wp2
  exact Z3
 have way4:0<n->¬ (a=0)->b=0->0<u->¬ (0<d)->At 79 #[.agg #[.int .i64 n,.int .i64 u,.int .i64 d,.int .i64 m,.int .i64 p,.int .i64 l],.agg #[.int .i64 a,.int .i64 b]] w (.tuple #[.float .f64 (vd true n u d a b).1,.bool (vd true n u d a b).2]):=by
  intro p1 p2 p3 p4 p5;have hv:vd true n u d a b=(9218868437227405312,true):=by unfold vd;rw[if_neg (by decide),if_neg (fun h=>p2 h.2),if_neg (not_not_intro p3),if_neg (fun h=>p5 h.2),if_pos p4]
  rw[hv];clear hv;have q1:0<n:=p1;have q2:(a==0)=false:=by rw[beq_eq_false_iff_ne];exact p2
  have q3:b=0:=p3;have q4:0<u:=p4;have q5:decide (0<d)=false:=decide_eq_false p5;subst q3;go_enter Tryz.func79,Tryz.ntmps79;go_wp2_with fail;refine(HS.o _).mono ?_;rintro r w1 ⟨rfl,hb1⟩;have hz1:=hb1.size;simp at hz1;obtain⟨hc1,hf1⟩:=aO hb1;have B1:=ak hb1;clear hb1;go_wp2_with fail;refine(HM.o _).mono ?_;rintro r w2 ⟨rfl,hb2⟩;have hz2:=hb2.size;obtain⟨hc2,hf2⟩:=aO hb2;have hc3:∀ b o,b<w.heap.size+1+1->w2.cell? ⟨b,o,none⟩=w1.cell? ⟨b,o,none⟩:=fun b o h=>hc2 b o (by omega);have B2:=ak hb2;clear hb2 hc2 hf2;go_wp2_with fail;refine(HU.o _).mono ?_;rintro r w3 ⟨rfl,rfl⟩;go_wp2
  exact Z3
 have way5:0<n->¬ (a=0)->b=0->¬ (0<u)->0<d->At 79 #[.agg #[.int .i64 n,.int .i64 u,.int .i64 d,.int .i64 m,.int .i64 p,.int .i64 l],.agg #[.int .i64 a,.int .i64 b]] w (.tuple #[.float .f64 (vd true n u d a b).1,.bool (vd true n u d a b).2]):=by
  intro p1 p2 p3 p4 p5;have hv:vd true n u d a b=(18442240474082181120,true):=by unfold vd;rw[if_neg (by decide),if_neg (fun h=>p2 h.2),if_neg (not_not_intro p3),if_neg (fun h=>p4 h.1),if_neg p4,if_pos p5]
  rw[hv];clear hv;have q1:0<n:=p1;have q2:(a==0)=false:=by rw[beq_eq_false_iff_ne];exact p2
  have q3:b=0:=p3;have q4:decide (0<u)=false:=decide_eq_false p4;have q5:0<d:=p5;subst q3;go_enter Tryz.func79,Tryz.ntmps79;go_wp2_with fail;refine(HS.o _).mono ?_;rintro r w1 ⟨rfl,hb1⟩;have hz1:=hb1.size;simp at hz1;obtain⟨hc1,hf1⟩:=aO hb1;have B1:=ak hb1;clear hb1;go_wp2_with fail;refine(HM.o _).mono ?_;rintro r w2 ⟨rfl,hb2⟩;have hz2:=hb2.size;obtain⟨hc2,hf2⟩:=aO hb2;have hc3:∀ b o,b<w.heap.size+1+1->w2.cell? ⟨b,o,none⟩=w1.cell? ⟨b,o,none⟩:=fun b o h=>hc2 b o (by omega);have B2:=ak hb2;clear hb2 hc2 hf2;go_wp2_with fail;refine(HD.o _).mono ?_;rintro r w3 ⟨rfl,rfl⟩;go_wp2
  exact Z3
 have way6:0<n->¬ (a=0)->b=0->¬ (0<u)->¬ (0<d)->At 79 #[.agg #[.int .i64 n,.int .i64 u,.int .i64 d,.int .i64 m,.int .i64 p,.int .i64 l],.agg #[.int .i64 a,.int .i64 b]] w (.tuple #[.float .f64 (vd true n u d a b).1,.bool (vd true n u d a b).2]):=by
  intro p1 p2 p3 p4 p5;have hv:vd true n u d a b=(0,false):=by unfold vd;rw[if_neg (by decide),if_neg (fun h=>p2 h.2),if_neg (not_not_intro p3),if_neg (fun h=>p4 h.1),if_neg p4,if_neg p5]
  rw[hv];clear hv;have q1:0<n:=p1;have q2:(a==0)=false:=by rw[beq_eq_false_iff_ne];exact p2
  have q3:b=0:=p3;have q4:decide (0<u)=false:=decide_eq_false p4;have q5:decide (0<d)=false:=decide_eq_false p5;subst q3;exact Z1
 have way7:¬ (0<n)->¬ (b=0)->At 79 #[.agg #[.int .i64 n,.int .i64 u,.int .i64 d,.int .i64 m,.int .i64 p,.int .i64 l],.agg #[.int .i64 a,.int .i64 b]] w (.tuple #[.float .f64 (vd true n u d a b).1,.bool (vd true n u d a b).2]):=by
  intro p1 p3;have hv:vd true n u d a b=(0,false):=by unfold vd;rw[if_neg (by decide),if_neg (fun h=>p1 h.1),if_pos p3]
  rw[hv];clear hv;have q1:decide (0<n)=false:=decide_eq_false p1;have q3:(b==0)=false:=by rw[beq_eq_false_iff_ne];exact p3
  exact Z1
 have way8:¬ (0<n)->b=0->0<u->0<d->At 79 #[.agg #[.int .i64 n,.int .i64 u,.int .i64 d,.int .i64 m,.int .i64 p,.int .i64 l],.agg #[.int .i64 a,.int .i64 b]] w (.tuple #[.float .f64 (vd true n u d a b).1,.bool (vd true n u d a b).2]):=by
  intro p1 p3 p4 p5;have hv:vd true n u d a b=(9221120237041090560,true):=by unfold vd;rw[if_neg (by decide),if_neg (fun h=>p1 h.1),if_neg (not_not_intro p3),if_pos ⟨p4,p5⟩]
  rw[hv];clear hv;have q1:decide (0<n)=false:=decide_eq_false p1;have q3:b=0:=p3;have q4:0<u:=p4;have q5:0<d:=p5;subst q3;go_enter Tryz.func79,Tryz.ntmps79;go_wp2_with fail;refine(HS.o _).mono ?_;rintro r w1 ⟨rfl,hb1⟩;have hz1:=hb1.size;simp at hz1;obtain⟨hc1,hf1⟩:=aO hb1;have B1:=ak hb1;clear hb1;go_wp2_with fail;refine(HM.o _).mono ?_;rintro r w2 ⟨rfl,hb2⟩;have hz2:=hb2.size;obtain⟨hc2,hf2⟩:=aO hb2;have hc3:∀ b o,b<w.heap.size+1+1->w2.cell? ⟨b,o,none⟩=w1.cell? ⟨b,o,none⟩:=fun b o h=>hc2 b o (by omega);have B2:=ak hb2;clear hb2 hc2 hf2;go_wp2_with fail;refine(HN.o _).mono ?_;rintro r w3 ⟨rfl,rfl⟩;go_wp2
  exact Z3
 have way9:¬ (0<n)->b=0->0<u->¬ (0<d)->At 79 #[.agg #[.int .i64 n,.int .i64 u,.int .i64 d,.int .i64 m,.int .i64 p,.int .i64 l],.agg #[.int .i64 a,.int .i64 b]] w (.tuple #[.float .f64 (vd true n u d a b).1,.bool (vd true n u d a b).2]):=by
  intro p1 p3 p4 p5;have hv:vd true n u d a b=(9218868437227405312,true):=by unfold vd;rw[if_neg (by decide),if_neg (fun h=>p1 h.1),if_neg (not_not_intro p3),if_neg (fun h=>p5 h.2),if_pos p4]
  rw[hv];clear hv;have q1:decide (0<n)=false:=decide_eq_false p1;have q3:b=0:=p3;have q4:0<u:=p4;have q5:decide (0<d)=false:=decide_eq_false p5;subst q3;go_enter Tryz.func79,Tryz.ntmps79;go_wp2_with fail;refine(HS.o _).mono ?_;rintro r w1 ⟨rfl,hb1⟩;have hz1:=hb1.size;simp at hz1;obtain⟨hc1,hf1⟩:=aO hb1;have B1:=ak hb1;clear hb1;go_wp2_with fail;refine(HM.o _).mono ?_;rintro r w2 ⟨rfl,hb2⟩;have hz2:=hb2.size;obtain⟨hc2,hf2⟩:=aO hb2;have hc3:∀ b o,b<w.heap.size+1+1->w2.cell? ⟨b,o,none⟩=w1.cell? ⟨b,o,none⟩:=fun b o h=>hc2 b o (by omega);have B2:=ak hb2;clear hb2 hc2 hf2;go_wp2_with fail;refine(HU.o _).mono ?_;rintro r w3 ⟨rfl,rfl⟩;go_wp2
  exact Z3
 have Yx:¬ (0<n)->b=0->¬ (0<u)->0<d->At 79 #[.agg #[.int .i64 n,.int .i64 u,.int .i64 d,.int .i64 m,.int .i64 p,.int .i64 l],.agg #[.int .i64 a,.int .i64 b]] w (.tuple #[.float .f64 (vd true n u d a b).1,.bool (vd true n u d a b).2]):=by
  intro p1 p3 p4 p5;have hv:vd true n u d a b=(18442240474082181120,true):=by unfold vd;rw[if_neg (by decide),if_neg (fun h=>p1 h.1),if_neg (not_not_intro p3),if_neg (fun h=>p4 h.1),if_neg p4,if_pos p5]
  rw[hv];clear hv;have q1:decide (0<n)=false:=decide_eq_false p1;have q3:b=0:=p3;have q4:decide (0<u)=false:=decide_eq_false p4;have q5:0<d:=p5;subst q3;go_enter Tryz.func79,Tryz.ntmps79;go_wp2_with fail;refine(HS.o _).mono ?_;rintro r w1 ⟨rfl,hb1⟩;have hz1:=hb1.size;simp at hz1;obtain⟨hc1,hf1⟩:=aO hb1;have B1:=ak hb1;clear hb1;go_wp2_with fail;refine(HM.o _).mono ?_;rintro r w2 ⟨rfl,hb2⟩;have hz2:=hb2.size;obtain⟨hc2,hf2⟩:=aO hb2;have hc3:∀ b o,b<w.heap.size+1+1->w2.cell? ⟨b,o,none⟩=w1.cell? ⟨b,o,none⟩:=fun b o h=>hc2 b o (by omega);have B2:=ak hb2;clear hb2 hc2 hf2;go_wp2_with fail;refine(HD.o _).mono ?_;rintro r w3 ⟨rfl,rfl⟩;go_wp2
  exact Z3
 have Yy:¬ (0<n)->b=0->¬ (0<u)->¬ (0<d)->At 79 #[.agg #[.int .i64 n,.int .i64 u,.int .i64 d,.int .i64 m,.int .i64 p,.int .i64 l],.agg #[.int .i64 a,.int .i64 b]] w (.tuple #[.float .f64 (vd true n u d a b).1,.bool (vd true n u d a b).2]):=by
  intro p1 p3 p4 p5;have hv:vd true n u d a b=(0,false):=by unfold vd;rw[if_neg (by decide),if_neg (fun h=>p1 h.1),if_neg (not_not_intro p3),if_neg (fun h=>p4 h.1),if_neg p4,if_neg p5]
  rw[hv];clear hv;have q1:decide (0<n)=false:=decide_eq_false p1;have q3:b=0:=p3;have q4:decide (0<u)=false:=decide_eq_false p4;have q5:decide (0<d)=false:=decide_eq_false p5;subst q3;exact Z1
 by_cases p1:0<n
 · by_cases p2:a=0
   · exact way1 p1 p2
   · by_cases p3:b=0
     · by_cases p4:0<u <;> by_cases p5:0<d
       · exact way3 p1 p2 p3 p4 p5
       · exact way4 p1 p2 p3 p4 p5
       · exact way5 p1 p2 p3 p4 p5
       · exact way6 p1 p2 p3 p4 p5
     · exact way2 p1 p2 p3
 · by_cases p3:b=0
   · by_cases p4:0<u <;> by_cases p5:0<d
     · exact way8 p1 p3 p4 p5
     · exact way9 p1 p3 p4 p5
     · exact Yx p1 p3 p4 p5
     · exact Yy p1 p3 p4 p5
   · exact way7 p1 p3
end
section
open Go.RowKit
theorem mK{w:World}{a:Option Addr}{n c:Nat}{xs:List Nat}(h1:Arg w a n c xs)(hn:n<=2000000)(neg:Bool)(e:Int)(he0:-9223372036854775808<=e)(he1:e<=9223372036854775807) :
 As 109 #[.agg #[.bool neg,.slice a n c,.int .i64 e]] w fun r w'=>Au w.heap.size w' r (mkS neg (val xs) e)/\An w w':=by
 have HB:=ak (show An w ((w.alloc (.cells #[.bool neg,.slice a n c,.int .i64 e] 37)).alloc (.cells #[.bool false,.slice none 0 0,.int .i64 0] 37)) from(((aB _ _).alloc (aA _) _).alloc (by simp) _));have H1:=hid (pG (h1.below HB.o) hn neg e he0 he1);have hl:=aI neg (val xs) e;obtain⟨o,ho⟩:∃ o,mkS neg (val xs) e=o:=⟨_,rfl⟩;rw[ho] at H1 hl |-;unfold Au at H1 |-;obtain⟨dn,hdn⟩:∃ d,dN o=d:=⟨_,rfl⟩;obtain⟨X,y8⟩:∃ d,dX o=d:=⟨_,rfl⟩;obtain⟨de,hde⟩:∃ d,dE o=d:=⟨_,rfl⟩;obtain⟨er,her⟩:∃ d,o.isSome=d:=⟨_,rfl⟩;rw[hdn,y8,hde,her] at H1 |-;rw[y8] at hl;clear h1 ho hdn y8 hde her hn he0 he1;go_enter Tryz.func109,Tryz.ntmps109;go_wp2_with fail;refine H1.o.mono ?_;rintro r w2 ⟨⟨v,rfl,hN⟩,hb⟩;obtain⟨a2,c2,rfl,_⟩:=hN.arg (by omega);obtain⟨hc,hf⟩:=aO hb;have HF:=ak (Fin.of 2 HB.o (by simp) hN hb);have hz:w.heap.size+1<w2.heap.size:=by have:=hb.size;simp at this;omega
 clear hN hb;go_wp2;exact aC (v:=.tuple #[.agg #[.bool dn,.slice a2 (ws X).length c2,.int .i64 de],.bool er]) (by simp[results,Tryz.results109,go_sem,hc]) rfl (Fin.jI (m:=w.heap.size+2) (by repeat (first | exact HF.o | refine Fin.alloc ?_ _ | refine Fin.set ?_ _ _ _ (by omega) (by omega))) (by omega))
theorem ll{w:World}{a:Option Addr}{n c:Nat}{xs:List Nat}(h1:Arg w a n c xs)(hT:dH w)(neg:Bool)(e:Int)(he0:-9223372036854775808<=e)(he1:e<=9223372036854775807) :
 As 141 #[.agg #[.bool neg,.slice a n c,.int .i64 e]] w fun r w'=>bN w.heap.size w' r (mkS neg (val xs) e)/\An w w':=by
 have HB:=ak (show An w ((w.alloc (.cells #[.bool neg,.slice a n c,.int .i64 e] 37)).alloc (.cells #[.bool false,.slice none 0 0,.int .i64 0] 37)) from(((aB _ _).alloc (aA _) _).alloc (by simp) _));have H1:=hid (ic (h1.below HB.o) (hT.belows HB.o) neg e he0 he1);have hl:=aI neg (val xs) e;obtain⟨o,ho⟩:∃ o,mkS neg (val xs) e=o:=⟨_,rfl⟩;rw[ho] at H1 hl |-;unfold bN at H1 |-;obtain⟨dn,hdn⟩:∃ d,dN o=d:=⟨_,rfl⟩;obtain⟨X,y8⟩:∃ d,dX o=d:=⟨_,rfl⟩;obtain⟨de,hde⟩:∃ d,dE o=d:=⟨_,rfl⟩;obtain⟨er,her⟩:∃ d,nU o=d:=⟨_,rfl⟩;rw[hdn,y8,hde,her] at H1 |-;rw[y8] at hl;clear h1 ho hdn y8 hde her hT he0 he1;go_enter Tryz.func141,Tryz.ntmps141;go_wp2_with fail;refine H1.o.mono ?_;rintro r w2 ⟨⟨v,rfl,hN⟩,hb⟩;obtain⟨a2,c2,rfl,_⟩:=hN.arg (by omega);obtain⟨hc,hf⟩:=aO hb;have HF:=ak (Fin.of 2 HB.o (by simp) hN hb);have hz:w.heap.size+1<w2.heap.size:=by have:=hb.size;simp at this;omega
 clear hN hb;go_wp2;exact aC (v:=.tuple #[.agg #[.bool dn,.slice a2 (ws X).length c2,.int .i64 de],.int .i64 er]) (by simp[results,Tryz.results141,go_sem,hc]) rfl (Fin.jI (m:=w.heap.size+2) (by repeat (first | exact HF.o | refine Fin.alloc ?_ _ | refine Fin.set ?_ _ _ _ (by omega) (by omega))) (by omega))
def aN(lo:Nat)(w:World)(r:Ending)(o:Option (Bool×Nat×Int)):Prop :=
 ∃ v,r=.returned (.agg #[.bool (dN o),v,.int .i64 (dE o)])/\Nt lo w v (dX o)
theorem Fin.Oz{lo m:Nat}{w0 w:World}{n:Bool}{v:Value}{X:Nat}{e:Int}(H:Fin lo m w0 w v X)(h:lo<=m) :
 (∃ v',Ending.returned (.agg #[.bool n,v,.int .i64 e])=.returned (.agg #[.bool n,v',.int .i64 e])/\Nt lo w v' X)/\Below lo w0 w:=⟨⟨v,rfl,H.nt.mono h⟩,H.au⟩
theorem wL(a:Option Addr)(n c:Nat)(neg:Bool)(e:Int)(w:World) :
 At 135 #[.agg #[.bool neg,.slice a n c,.int .i64 e]] w (.agg #[.bool (!neg),.slice a n c,.int .i64 e]):=by
 go_enter Tryz.func135,Tryz.ntmps135;go_wp2;exact aC (v:=.agg #[.bool (!neg),.slice a n c,.int .i64 e]) (by simp[results,Tryz.results135,go_sem]) rfl ⟨rfl,by repeat (first | exact aB _ _ | refine Below.alloc ?_ (by first | omega | simp) _ | refine Below.oJ ?_ _ _ _ (by omega) (by simp))⟩
theorem CU(a:Option Addr)(n c:Nat)(neg:Bool)(e:Int)(w:World) :
 At 112 #[.agg #[.bool neg,.slice a n c,.int .i64 e]] w (.agg #[.bool (!neg),.slice a n c,.int .i64 e]):=by
 go_enter Tryz.func112,Tryz.ntmps112;go_wp2;exact aC (v:=.agg #[.bool (!neg),.slice a n c,.int .i64 e]) (by simp[results,Tryz.results112,go_sem]) rfl ⟨rfl,by repeat (first | exact aB _ _ | refine Below.alloc ?_ (by first | omega | simp) _ | refine Below.oJ ?_ _ _ _ (by omega) (by simp))⟩
theorem Si{w:World}{a:Option Addr}{n c:Nat}{xs:List Nat}(h1:Arg w a n c xs)(hT:dH w)(neg:Bool)(e:Int)(he0:-9223372036854775808<=e)(he1:e<=9223372036854775807) :
 As 94 #[.agg #[.bool neg,.slice a n c,.int .i64 e]] w fun r w'=>aN w.heap.size w' r (mkS (!neg) (val xs) e)/\An w w':=by
 have HB:=ak (show An w ((w.alloc (.cells #[.bool neg,.slice a n c,.int .i64 e] 37)).alloc (.cells #[.bool false,.slice none 0 0,.int .i64 0] 37)) from(((aB _ _).alloc (aA _) _).alloc (by simp) _));have T1:=hid (wL a n c neg e ((w.alloc (.cells #[.bool neg,.slice a n c,.int .i64 e] 37)).alloc (.cells #[.bool false,.slice none 0 0,.int .i64 0] 37)))
 have F1:Hid (∀ u,An w u->As 141 #[.agg #[.bool (!neg),.slice a n c,.int .i64 e]] u fun r w'=>bN u.heap.size w' r (mkS (!neg) (val xs) e)/\An u w') :=
  fun u hu=>ll (h1.below hu) (hT.belows hu) (!neg) e he0 he1
 have hl:=aI (!neg) (val xs) e;obtain⟨o,ho⟩:∃ o,mkS (!neg) (val xs) e=o:=⟨_,rfl⟩;rw[ho] at F1 hl |-;unfold bN at F1;unfold aN;obtain⟨dn,hdn⟩:∃ d,dN o=d:=⟨_,rfl⟩;obtain⟨X,y8⟩:∃ d,dX o=d:=⟨_,rfl⟩;obtain⟨de,hde⟩:∃ d,dE o=d:=⟨_,rfl⟩;obtain⟨er,her⟩:∃ d,nU o=d:=⟨_,rfl⟩;rw[hdn,y8,hde,her] at F1;rw[hdn,y8,hde];rw[y8] at hl;clear h1 ho hdn y8 hde her hT he0 he1;go_enter Tryz.func94,Tryz.ntmps94;go_wp2_with fail;refine T1.o.mono ?_;rintro r w1 ⟨rfl,hb1⟩;have hbw:=HB.o.trans (hb1.mono (by simp;omega));have H1:=hid (F1.o w1 hbw);have hz1:w.heap.size+2<=w1.heap.size:=by have:=hb1.size;simp at this;omega
 have SB1:=(aJ hb1 hbw);clear hb1 hbw;go_wp2_with fail;refine H1.o.mono ?_;rintro r w2 ⟨⟨v,rfl,hN⟩,hb⟩;obtain⟨a2,c2,rfl,_⟩:=hN.arg (by omega);have hbb:=SB1.o.1.trans (hb.mono (by simp;omega));obtain⟨hc,hf⟩:=aO hbb;have HF:=ak (show Fin w.heap.size (w.heap.size+2) w w2 (.slice a2 (ws X).length c2) X from⟨hN.mono hz1,SB1.o.2.trans (hb.mono (by omega)),by have:=hb.size;omega⟩);have hz:w.heap.size+1<w2.heap.size:=by have:=hb.size;omega
 clear hN hb hbb;go_wp2;exact aC (v:=.agg #[.bool dn,.slice a2 (ws X).length c2,.int .i64 de]) (by simp[results,Tryz.results94,go_sem,hc,hz]) rfl (Fin.Oz (m:=w.heap.size+2) (by repeat (first | exact HF.o | refine Fin.alloc ?_ _ | refine Fin.set ?_ _ _ _ (by omega) (by omega))) (by omega))
end
namespace B
open Go.RowKit
attribute [local go_sem] bB aF
theorem IK(a c:Bool)(k l x y f g:Int)(w:World):(Op.equalIn 10000 150 (.agg #[.bool a,.int .i64 k,.int .i64 x,.int .u64 f]) (.agg #[.bool c,.int .i64 l,.int .i64 y,.int .u64 g])).run Tryz.prog w=.ok (a==c&&(k==l&&(x==y&&f==g))) w:=by
 have u3:=Tryz.underlying3;have u4:=Tryz.underlying4;have u23:=Tryz.underlying42;have hS:Tryz.prog.underlying 150=some (.struct (Tryz.prog.fieldsOf 150)):=by kernel_rfl
 have hp:Tryz.prog.stoodInHeld 150=false:=by kernel_rfl
 rw[show(10000:Nat)=9999+1 from rfl,run_equalIn_agg w 9999 150 _ _ hS hp];simp only[Program.fieldsOf,Tryz.underlying150];go_simp
 by_cases h1:a=c <;> by_cases h2:k=l <;> by_cases h3:x=y <;> by_cases h4:f=g <;> simp[h1,h2,h3,h4]
attribute [local go_sem] IK
theorem Yz(a:Bool)(k x f:Int)(w:World):(Instr.field 150 (.agg #[.bool a,.int .i64 k,.int .i64 x,.int .u64 f]) 0).run Tryz.prog w=.ok (.bool a) w:=by kernel_rfl
theorem YA(a:Bool)(k x f:Int)(w:World):(Instr.field 150 (.agg #[.bool a,.int .i64 k,.int .i64 x,.int .u64 f]) 1).run Tryz.prog w=.ok (.int .i64 k) w:=by kernel_rfl
theorem YB(a:Bool)(k x f:Int)(w:World):(Instr.field 150 (.agg #[.bool a,.int .i64 k,.int .i64 x,.int .u64 f]) 2).run Tryz.prog w=.ok (.int .i64 x) w:=by kernel_rfl
theorem YC(a:Bool)(k x f:Int)(w:World):(Instr.field 150 (.agg #[.bool a,.int .i64 k,.int .i64 x,.int .u64 f]) 3).run Tryz.prog w=.ok (.int .u64 f) w:=by kernel_rfl
attribute [local go_sem] Yz YA YB YC
end B
namespace B
open Go.RowKit
attribute [local go_sem] bB aF
theorem Ay(s:Bool)(e f:Nat)(he:e<2048)(hf:f<4503599627370496)(w:World) :
 Ax 140 #[.float .f64 (bw s e f)] w (.float .f64 (bw false e f)):=by
 have h1:=Oy s e f he hf;go_enter Tryz.func140,Tryz.ntmps140;go_wp2;go_ret;exact⟨rfl,rfl⟩
end B
end Go.Proofs.YteginbngplldaaaGreatDoor
