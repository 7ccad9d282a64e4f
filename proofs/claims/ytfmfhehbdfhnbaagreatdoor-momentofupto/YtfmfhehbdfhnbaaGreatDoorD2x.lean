import Derived.Test.YtfmfhehbdfhnbaaGreatDoorW40x
import Derived.Test.YtfmfhehbdfhnbaaGreatDoorW17x
import Derived.Laws.BitsAllLaws
import Derived.WalkLawsBesides
import Derived.Deep.RegionWith
import Derived.Laws.StructEq
set_option linter.unusedVariables false
set_option linter.unusedSimpArgs false
set_option maxHeartbeats 16000000
set_option maxRecDepth 20000
namespace Go.Proofs.YtfmfhehbdfhnbaaGreatDoor
section
open Go.RowKit
theorem QD (xs:List Nat) (ao:Option Addr) (n cap B i:Nat) (w:World) (hn:n=xs.length) (hm:n<=70368744177664) (hx:Wf xs) (hR:Rd B w ao xs) (hi:i<n) :
 Calls Tryz.prog 182 #[.slice ao n cap,.int .i64 (i:Nat)] w fun r w'=>r=.returned (.int .u32 ((xs.getD i 0:Nat):Int))/\w'=w:=by
 obtain ⟨b,off,hb,rfl,hc⟩:=hR (by intro e;subst e;simp at hn;omega);have hcell:=hc i af;obtain ⟨x,hx2⟩:∃ x,xs.getD i 0=x:=⟨_,rfl⟩;rw [hx2] at hcell |-;have hi1:decide (n<=i)=false:=decide_eq_false af;clear hc hx hn hx2;go_enter Tryz.func182,Tryz.ntmps182;go_wp2;go_ret;exact ⟨rfl,rfl⟩
theorem BR (xs:List Nat) (ao:Option Addr) (n cap:Nat) (i:Int) (w:World) (hn:n=xs.length) (hm:n<=70368744177664) (hi:i<0\/(n:Int)<=i) :
 Calls Tryz.prog 182 #[.slice ao n cap,.int .i64 i] w fun r w'=>r=.returned (.int .u32 0)/\w'=w:=by
 clear hn;rcases hi with h|h
 · go_enter Tryz.func182,Tryz.ntmps182;go_wp2;go_ret;exact ⟨rfl,rfl⟩
 · have h0:decide (i<0)=false:=decide_eq_false af;go_enter Tryz.func182,Tryz.ntmps182;go_wp2;go_ret;exact ⟨rfl,rfl⟩
def wd (xs:List Nat) (i:Int):Nat:=if i<0 then 0 else xs.getD i.toNat 0
theorem TV (xs:List Nat) (hx:Wf xs) (i:Int):wd xs i<4294967296:=by
 unfold wd;split
 · omega
 · exact hx.get _
theorem BS (xs:List Nat) (ao:Option Addr) (n cap B:Nat) (i:Int) (w:World) (hn:n=xs.length) (hm:n<=70368744177664) (hx:Wf xs) (hR:Rd B w ao xs) :
 Calls Tryz.prog 182 #[.slice ao n cap,.int .i64 i] w fun r w'=>r=.returned (.int .u32 ((wd xs i:Nat):Int))/\w'=w:=by
 by_cases h:i<0
 · unfold wd;rw [if_pos h];exact BR xs ao n cap i w hn hm (.inl h)
 · obtain ⟨k,rfl⟩:∃ k:Nat,i=(k:Int):=⟨i.toNat,af⟩;unfold wd;rw [if_neg h,ma]
   by_cases hk:k<n
   · exact QD xs ao n cap B k w hn hm hx hR hk
   · rw [eP,nR af];exact BR xs ao n cap k w hn hm (.inr af)
def win (X:Nat) (i:Int):Nat:=if i<0 then X*2^(-i).toNat%4294967296 else X/2^i.toNat%4294967296
theorem val_mod (xs:List Nat):val xs%4294967296=xs.getD 0 0%4294967296:=by
 cases xs with
 | nil=>simp [val]
 | cons x xs=>simp [val]
theorem MH (xs:List Nat) (hx:Wf xs) (q:Nat):∃ R,val xs/pw q=xs.getD q 0+4294967296*(xs.getD (q+1) 0+4294967296*R):=by
 by_cases h:q<xs.length
 · have h1:val xs/pw q=val (xs.drop q):=by
    have h5:=fJ xs q af;have h6:=dh (xs.take q) (hx.take q);rw [gz,jf af] at h6;rw [h5,qF _ _ (jQ q),gQ h6,dS]
   obtain ⟨R,hR⟩:∃ R,val (xs.drop (q+1))=xs.getD (q+1) 0+4294967296*R:=by
    by_cases h:q+1<xs.length
    · exact ⟨_,dU xs (q+1) h⟩
    · refine ⟨0,?_⟩;rw [xY af,eP,nR af];rfl
   exact ⟨R,by rw [h1,dU xs q h,hR]⟩
 · refine ⟨0,?_⟩;have h1:=dh xs hx;have h2:=jE (show xs.length<=q by omega);rw [gQ af,eP,nR af,eP,nR af];rfl
theorem QE (xs:List Nat) (hx:Wf xs) (q r:Nat) (hr:r<32):(xs.getD (q+1) 0*4294967296+xs.getD q 0)/2^r%4294967296=val xs/2^(32*q+r)%4294967296:=by
 rw [lN,<-nH];obtain ⟨R,hR⟩:=MH xs hx q;rw [hR]
 have e:xs.getD q 0+4294967296*(xs.getD (q+1) 0+4294967296*R)=(xs.getD (q+1) 0*4294967296+xs.getD q 0)+2^r*(4294967296*(2^(32-r)*R)):=by
  have h1:=jY r hr;have:2^r*(4294967296*(2^(32-r)*R))=4294967296*(4294967296*R):=by rw [<-h1];grind
  rw [this];omega
 rw [e,qF _ _ (bu _),y9]
theorem GH (V k:Nat):V*2^k%4294967296=V%4294967296*2^k%4294967296:=by
 simp [Nat.mul_mod]
theorem Vd (xs:List Nat) (hx:Wf xs) (i at':Int) (rest:Nat) (h1:at'=i/32) (h2:(rest:Int)=i%32) :
 (wd xs (at'+1)*4294967296+wd xs at')/2^rest%4294967296=win (val xs) i:=by
 have hr:rest<32:=af
 by_cases h:i<0
 · unfold win;rw [if_pos h]
   by_cases h3:at'=-1
   · subst h3;have e1:wd xs (-1)=0:=by unfold wd;rw [if_pos af]
     have e2:wd xs (-1+1)=xs.getD 0 0:=by unfold wd;rw [if_neg af];rfl
     rw [e1,e2,gM];obtain ⟨k,hk⟩:∃ k,(-i).toNat=k:=⟨_,rfl⟩;have e3:k=32-rest:=af
     rw [hk,GH,val_mod,<-GH,<-jY rest hr,e3];rw [show xs.getD 0 0*(2^rest*2^(32-rest))=2^rest*(xs.getD 0 0*2^(32-rest)) by grind,xX _ (bu rest)]
   · have e1:wd xs at'=0:=by unfold wd;rw [if_pos af]
     have e2:wd xs (at'+1)=0:=by unfold wd;rw [if_pos af]
     rw [e1,e2];obtain ⟨k,hk⟩:∃ k,(-i).toNat=k+32:=⟨(-i).toNat-32,af⟩;rw [hk,aL,show (2:Nat)^32=4294967296 from rfl,<-aN,Nat.mul_mod_left];simp
 · obtain ⟨n,rfl⟩:∃ n:Nat,i=(n:Int):=⟨i.toNat,af⟩;obtain ⟨q,rfl⟩:∃ q:Nat,at'=(q:Int):=⟨at'.toNat,af⟩;have e1:wd xs ((q:Int)+1)=xs.getD (q+1) 0:=by unfold wd;rw [if_neg af];rfl
   have e2:wd xs (q:Int)=xs.getD q 0:=by unfold wd;rw [if_neg af];rfl
   unfold win;rw [if_neg h,e1,e2,ma,QE xs hx q rest hr];rw [show 32*q+rest=n by omega]
theorem Xi (i:Int) (h0:-9223372036854775808<=i) (h1:i<=9223372036854775807):bits BinOp.and IntKind.i64 i 31=i%32:=by
 unfold bits;simp [IntKind.bits,IntKind.signed,IntKind.wrap]
 have e:(BitVec.ofInt 64 i &&& 31#64).toNat=(i%18446744073709551616).toNat%32:=by
  rw [BitVec.toNat_and,BitVec.toNat_ofInt];exact DY _ 5
 show (if 9223372036854775808<=(((BitVec.ofInt 64 i &&& 31#64:BitVec 64).toNat:Nat):Int)%18446744073709551616 then (((BitVec.ofInt 64 i &&& 31#64:BitVec 64).toNat:Nat):Int)%18446744073709551616-18446744073709551616 else (((BitVec.ofInt 64 i &&& 31#64:BitVec 64).toNat:Nat):Int)%18446744073709551616)=i%32;rw [e];generalize hz:(i%18446744073709551616).toNat=z;have hz2:(z:Int)=i%18446744073709551616:=af
 split <;> omega
theorem Ez (xs:List Nat) (ao:Option Addr) (n cap B:Nat) (i:Int) (w:World) (hn:n=xs.length) (hm:n<=70368744177664) (hx:Wf xs) (hR:Rd B w ao xs) (h0:-9223372036854775808<=i) (h1:i<=9223372036854775807) :
 Calls Tryz.prog 166 #[.slice ao n cap,.int .i64 i] w fun r w'=>r=.returned (.int .u32 ((win (val xs) i:Nat):Int))/\w'=w:=by
 obtain ⟨at',hat⟩:∃ a,a=i/32:=⟨_,rfl⟩;obtain ⟨rest,hrest⟩:∃ r:Nat,(r:Int)=i%32:=⟨(i%32).toNat,af⟩;have hw:=Vd xs hx i at' rest hat hrest;have W1:=hid (BS xs ao n cap B (at'+1) w hn hm hx hR);have W2:=hid (BS xs ao n cap B at' w hn hm hx hR);have l1:=TV xs hx (at'+1);have l2:=TV xs hx at';generalize wd xs (at'+1)=a at *;generalize wd xs at'=b at *;generalize win (val xs) i=v at *;have e1:i/32=at':=hat.symm;have e2:bits BinOp.and IntKind.i64 i 31=(rest:Int):=by rw [Xi i h0 h1,hrest]
 have e3:=oF a b l1 l2;have hr:rest<32:=af
 have ha0:-288230376151711744<=at':=af
 have ha1:at'<=288230376151711744:=af
 obtain ⟨t,ht⟩:∃ t:Nat,a*4294967296+b=t:=⟨_,rfl⟩;rw [ht] at e3 hw;have e4:(t:Int)/2^rest%4294967296=(v:Int):=by rw [<-hw];simp
 clear hat hrest hw hn hx hR ht;go_enter Tryz.func166,Tryz.ntmps166;go_wp2_with fail;refine W1.o.mono ?_;rintro r w1 ⟨rfl,rfl⟩;go_wp2_with fail;refine W2.o.mono ?_;rintro r w2 ⟨rfl,rfl⟩;go_wp2;go_ret;exact ⟨by simp [e4],rfl⟩
theorem QF (Y i:Nat):(ws Y).getD i 0=Y/pw i%4294967296:=by
 induction i generalizing Y with
 | zero =>
   by_cases h:Y=0
   · subst h;simp [bI]
   · rw [nU Y h,jg];simp
 | succ i ih =>
   by_cases h:Y=0
   · subst h;simp [bI]
   · rw [nU Y h,bK,<-nH,<-ih];simp
theorem MI (X low i:Nat):win X ((low:Int)+32*(i:Int))=(ws (X/2^low)).getD i 0:=by
 rw [QF,nH];unfold win;rw [if_neg af,show ((low:Int)+32*(i:Int)).toNat=low+32*i by omega,aL,kE];rfl
theorem MJ (Ys:List Nat) (k:Nat) (hk:k<Ys.length) :
 (Ys.take k++List.replicate (Ys.length-k) 0).set k (Ys.getD k 0)=Ys.take (k+1)++List.replicate (Ys.length-(k+1)) 0:=by
 apply List.ext_getElem?;intro j;rw [List.getElem?_set]
 by_cases hj:k=j
 · subst hj;rw [if_pos rfl,if_pos (by simp;omega),zl (by simp;omega)];simp [eP,hk]
 · rw [if_neg hj]
   by_cases h1:j<k
   · rw [zl (by simp;omega),zl (by simp;omega)];simp [h1,show j<k+1 by omega]
   · rw [List.getElem?_append_right (by simp;omega),List.getElem?_append_right (by simp;omega)];simp only [List.getElem?_replicate,gz];congr 1;simp only [eq_iff_iff];omega
theorem QG {w:World}{a:Option Addr}{n c:Nat}{xs:List Nat}(h1:Arg w a n c xs) (low size:Nat) (hle:low<=size) (hsz:size<=1125899906842624) (hlen:(size-low+31)/32=(ws (val xs/2^low)).length) :
 Calls Tryz.prog 128 #[.slice a n c,.int .i64 (low:Nat),.int .i64 (size:Nat)] w fun r w'=>∃ v,r=.returned v/\Nt w.heap.size w' v (val xs/2^low)/\Below w.heap.size w w':=by
 obtain ⟨m,hm⟩:=ah ((size-low+31)/32);rw [<-hm] at hlen;have e1:((size:Int)-low+32-1)/32=(m:Int):=af
 have hmb:m<=35184372088832:=af
 obtain ⟨W1,hW1⟩:=ah (w.alloc (.cells (madeCells #[.int .u32 0] m) 51));have mU:Own W1 w.heap.size (List.replicate m 0):=by rw [hW1];exact Own.made w m
 have hB1:Below w.heap.size w W1:=by rw [hW1];exact (aD _ _).alloc (aC _) _
 have hmk:=dw (m:Int) m rfl af w;rw [<-hW1] at hmk;have A1:=h1.below hB1;obtain ⟨g,hg⟩:=ah (w.heap.size);rw [<-hg] at mU hmk;obtain ⟨Ys,hYs⟩:∃ Ys,ws (val xs/2^low)=Ys:=⟨_,rfl⟩;have YW:Wf Ys:=hYs ▸ dz _;rw [hYs] at hlen
 have WN:Hid (∀ wr,But g W1 wr->∀ i:Nat,i<m->Calls Tryz.prog 166 #[.slice a n c,.int .i64 ((low:Int)+32*(i:Int))] wr fun r w'=>r=.returned (.int .u32 ((Ys.getD i 0:Nat):Int))/\w'=wr):=by
  intro wr hb i hi;have hR:Rd w.heap.size wr a xs:=(h1.rd.below hB1).but hb (by rw [hg] at *;have:=hB1.size;omega) af;have:=Ez xs a n c w.heap.size ((low:Int)+32*(i:Int)) wr h1.len (by have:=h1.big;omega) h1.wf hR af af;rw [MI,hYs] at this;exact this
 have HR:=(eu hB1 hg hYs YW hlen)
 have HO:Hid (Own W1 g (Ys.take 0++List.replicate (Ys.length-0) 0)):=by
  rw [<-hlen];exact hid (by simpa using mU)
 clear hm h1 mU hB1 A1 hg hYs YW hW1 hlen;go_enter Tryz.func128,Tryz.ntmps128;go_wp2
 go_loopg [18] m (fun gk iv wr=>∃ (k:Nat),gk+k=m/\iv=.int .i64 (k:Nat)/\Hid (Own wr g (Ys.take k++List.replicate (Ys.length-k) 0))/\Aside (But g W1 wr))
 case atStart=>exact ⟨0,af,rfl,HO,But.refl _ _⟩
 case round =>
  clear HO e1;obtain ⟨k,Gm,rfl,HM,HA⟩:=hrel
  by_cases hk:k<m
  · have hlen:=HR.o.r4;have hgc:=HM.o.cell k (by simp;omega);have hgf:=HM.o.frozen k;obtain ⟨old,hold⟩:∃ o:Nat,(Ys.take k++List.replicate (Ys.length-k) 0).getD k 0=o:=⟨_,rfl⟩;rw [hold] at hgc;obtain ⟨y,hy⟩:∃ y:Nat,Ys.getD k 0=y:=⟨_,rfl⟩;have W2:=hid (WN.o wr HA.o k hk);rw [hy] at W2;have HY:=ak hy;clear hlen hold hy;go_wp2_with fail;refine W2.o.mono ?_;rintro r w2 ⟨rfl,rfl⟩;go_wp2;go_roundg (gk-1)
    case measure=>omega
    case rel =>
     refine ⟨k+1,af,by first | go_num | (congr 1;omega),?_,HA.o.set _ _⟩;rw [<-MJ Ys k (by have:=HR.o.r4;omega),HY.o];exact HM.o.set _ _
  · obtain rfl:k=m:=af
    go_wp2;go_ret;obtain ⟨hB1,hg,hYs,YW,hlen⟩:=HR.o;have hO:=HM.o;rw [hlen,List.take_length,xZ,List.replicate_zero,List.append_nil] at hO;have hN:=Nt.fM hO (lo:=w.heap.size) af YW (by unfold maxLen;omega);have e2:nl Ys=Ys.length:=by rw [<-hYs];exact Gf _
    rw [e2,<-hYs,aj] at hN;rw [hlen,<-hYs];exact ⟨_,rfl,hN,But.below hB1 HA.o hB1.size af⟩
def cK (lo:Nat) (w:World) (r:Ending) (o:Option (Bool×Nat×Int)):Prop :=
 ∃ v,r=.returned (.tuple #[.agg #[.bool (dN o),v,.int .i64 (dE o)],.int .i64 (l9 o)])/\Nt lo w v (dX o)
theorem aR {W w1:World}(hb:Below W.heap.size W w1):(∀ b o,b<W.heap.size->w1.cell? ⟨b,o,none⟩=W.cell? ⟨b,o,none⟩)/\(∀ b o,b<W.heap.size->w1.frozen? ⟨b,o,none⟩=W.frozen? ⟨b,o,none⟩) :=
 ⟨fun b o h=>hb.cell (p:=⟨b,o,none⟩) h,fun b o h=>hb.frozen (p:=⟨b,o,none⟩) h⟩
theorem iB (X:Nat):(ws X).length=(bl X+31)/32:=by
 by_cases h:X=0
 · subst h;simp [bI,dG]
 · have h1:=Ex X ((ws X).length-1) _ rfl;have h2:=Ex X (ws X).length _ rfl;have h3:(ws X).length≠0:=fun e=>h ((bz X).1 e);omega
theorem EC (X:Nat) (h:X≠0):(bl X-lo X+31)/32=(ws (X/2^lo X)).length:=by
 obtain ⟨m,_,_,hb⟩:=iw X h;rw [iB];congr 2;omega
theorem kR (g:Nat) (w:World) (x y z:Value):But g w (((w.setCell ⟨g,0,none⟩ x).setCell ⟨g,1,none⟩ y).setCell ⟨g,2,none⟩ z):=(((But.refl g w).set _ _).set _ _).set _ _
theorem wh {w W1 w2:World}{v:Value}{Y:Nat}(hB:Below w.heap.size w W1) (hs:w.heap.size<W1.heap.size) (hN:Nt W1.heap.size w2 v Y) (hb:Below W1.heap.size W1 w2) (x y z:Value) :
 Nt w.heap.size (((w2.setCell ⟨w.heap.size,0,none⟩ x).setCell ⟨w.heap.size,1,none⟩ y).setCell ⟨w.heap.size,2,none⟩ z) v Y/\Below w.heap.size w (((w2.setCell ⟨w.heap.size,0,none⟩ x).setCell ⟨w.heap.size,1,none⟩ y).setCell ⟨w.heap.size,2,none⟩ z) :=
 ⟨(hN.but (kR _ _ _ _ _) hs).mono af,But.below (hB.trans (hb.mono af)) (kR _ _ _ _ _) (by have:=hb.size;omega) (aC _)⟩
theorem gU {w:World}{a:Option Addr}{n c:Nat}{xs:List Nat}(h1:Arg w a n c xs) (hT:dJ w) (neg:Bool) (e:Int) (he0:-9223372036854775808<=e) (he1:e<=9223372036854775807) :
 Calls Tryz.prog 90 #[.bool neg,.slice a n c,.int .i64 e] w fun r w'=>cK w.heap.size w' r (mkS neg (val xs) e)/\Below w.heap.size w w':=by
 obtain ⟨W1,hW1⟩:=ah (w.alloc (.cells #[.bool false,.slice none 0 0,.int .i64 0] 25));have hB1:Below w.heap.size w W1:=by rw [hW1];exact (aD _ _).alloc (aC _) _
 have A1:=h1.below hB1;have hT1:=hT.belows hB1;have hbig:=h1.big;have H1:=hid (oG xs a n c W1.heap.size W1 A1.len A1.cap af A1.wf A1.rd);have H2:=hid (Qd xs a n c W1.heap.size W1 A1.len af A1.wf A1.rd hT1)
 have hbl:bl (val xs)<=32*n:=by
  have:=dh xs h1.wf;rw [<-h1.len] at this;exact Mv _ _ this
 obtain ⟨X,hX⟩:∃ X,val xs=X:=⟨_,rfl⟩;rw [hX] at H1 H2 hbl |-;obtain ⟨b,hb⟩:∃ b,bl X=b:=⟨_,rfl⟩;obtain ⟨l,hl⟩:∃ l,lo X=l:=⟨_,rfl⟩;rw [hb] at H1 hbl;rw [hl] at H2;unfold mkS;rw [hb,hl]
 have hlb:l<=b:=by
  by_cases h0:X=0
  · subst h0;rw [zy] at hl;omega
  · obtain ⟨m,_,_,hbb⟩:=iw X h0;omega
 have HB:=ak hB1;have SZ:W1.heap.size=w.heap.size+1:=by rw [hW1];simp
 by_cases h0:X=0
 · have hb0:b=0:=by rw [<-hb,h0,dG]
   subst hb0;rw [if_pos h0];clear hb hl hX h0 hB1 A1 hT1 hT h1 hlb hbl SZ;subst hW1;go_enter Tryz.func90,Tryz.ntmps90;go_wp2_with fail;refine H1.o.mono ?_;rintro r w1 ⟨rfl,rfl⟩;go_wp2_with fail;refine H2.o.mono ?_;rintro r w1 ⟨rfl,rfl⟩;go_wp2;refine aF (v:=.tuple #[.agg #[.bool false,.slice none 0 0,.int .i64 0],.int .i64 0]) (by simp [results,Tryz.results90,go_sem]) rfl ⟨⟨_,rfl,Nt.nil _ _⟩,HB.o⟩
 · rw [if_neg h0];have hb0:((b:Int)==0)=false:=by have:=dI X h0;simp;omega
   have Wp:=QG A1 l b hlb af (by rw [hX,<-hb,<-hl];exact EC X h0);rw [hX] at Wp;have H3:=hid Wp
   by_cases h2:262144<b-l
   · rw [if_pos (.inl h2)];have h2':(262144:Int)<(b:Int)-l:=af
     clear hb hl hX h0 hB1 A1 hT1 hT h1 SZ H3 h2 Wp;subst hW1;go_enter Tryz.func90,Tryz.ntmps90;go_wp2_with fail;refine H1.o.mono ?_;rintro r w1 ⟨rfl,rfl⟩;go_wp2_with fail;refine H2.o.mono ?_;rintro r w1 ⟨rfl,rfl⟩;go_wp2;refine aF (v:=.tuple #[.agg #[.bool false,.slice none 0 0,.int .i64 0],.int .i64 2]) (by simp [results,Tryz.results90,go_sem]) rfl ⟨⟨_,rfl,Nt.nil _ _⟩,HB.o⟩
   · have h2':decide ((262144:Int)<(b:Int)-l)=false:=decide_eq_false af
     by_cases h3:1048576-(l:Int)<e
     · rw [if_pos (.inr (.inl h3))];clear hb hl hX h0 hB1 A1 hT1 hT h1 SZ H3 h2 Wp;subst hW1;go_enter Tryz.func90,Tryz.ntmps90;go_wp2_with fail;refine H1.o.mono ?_;rintro r w1 ⟨rfl,rfl⟩;go_wp2_with fail;refine H2.o.mono ?_;rintro r w1 ⟨rfl,rfl⟩;go_wp2;refine aF (v:=.tuple #[.agg #[.bool false,.slice none 0 0,.int .i64 0],.int .i64 2]) (by simp [results,Tryz.results90,go_sem]) rfl ⟨⟨_,rfl,Nt.nil _ _⟩,HB.o⟩
     · have h3':decide (1048576-(l:Int)<e)=false:=decide_eq_false h3
       by_cases h4:e < -1048576-(l:Int)
       · rw [if_pos (.inr (.inr h4))];clear hb hl hX h0 hB1 A1 hT1 hT h1 SZ H3 h2 Wp;subst hW1;go_enter Tryz.func90,Tryz.ntmps90;go_wp2_with fail;refine H1.o.mono ?_;rintro r w1 ⟨rfl,rfl⟩;go_wp2_with fail;refine H2.o.mono ?_;rintro r w1 ⟨rfl,rfl⟩;go_wp2;refine aF (v:=.tuple #[.agg #[.bool false,.slice none 0 0,.int .i64 0],.int .i64 2]) (by simp [results,Tryz.results90,go_sem]) rfl ⟨⟨_,rfl,Nt.nil _ _⟩,HB.o⟩
       · have h4':decide (e < -1048576-(l:Int))=false:=decide_eq_false h4;rw [if_neg af];obtain ⟨Y,hY⟩:∃ Y,X/2^l=Y:=⟨_,rfl⟩;rw [hY] at H3 |-;have hs:(ws Y).length<=35184372088832:=by rw [<-hY,<-hl,<-EC X h0];omega
         have h5:e+l<=1048576:=af
         have h6:-1048576<=e+l:=af
         clear hb hl hX h0 hB1 A1 hT1 hT h1 Wp h2 h3 h4;subst hW1;go_enter Tryz.func90,Tryz.ntmps90;go_wp2_with fail;refine H1.o.mono ?_;rintro r w1 ⟨rfl,rfl⟩;go_wp2_with fail;refine H2.o.mono ?_;rintro r w1 ⟨rfl,rfl⟩;go_wp2_with fail;refine H3.o.mono ?_;rintro r w2 ⟨v,rfl,hN,hb⟩;obtain ⟨a2,c2,rfl,_⟩:=hN.arg hs;obtain ⟨hc,hf⟩:=aR hb;have HN:=(aJ hN hb);have hz:=hb.size;clear hN hb;go_wp2;obtain ⟨q1,q2⟩:=wh HB.o aO HN.o.1 HN.o.2 (.bool neg) (.slice a2 (ws Y).length c2) (.int .i64 (e+l));exact aF (v:=.tuple #[.agg #[.bool neg,.slice a2 (ws Y).length c2,.int .i64 (e+l)],.int .i64 0]) (by simp [results,Tryz.results90,go_sem,hc]) rfl ⟨⟨_,rfl,q1⟩,q2⟩
def ML (lo:Nat) (w:World) (r:Ending) (o:Option (Bool×Nat×Int)):Prop :=
 ∃ v,r=.returned (.tuple #[.agg #[.bool (dN o),v,.int .i64 (dE o)],.bool o.isSome])/\Nt lo w v (dX o)
theorem Jh {w:World}{v:Value}{X lo':Nat}(hN:Nt lo' w v X) (hX:X≠0) (hl:(ws X).length<=2000000) :
 Calls Tryz.prog 97 #[v,.int .i64 (-(lo X:Int))] w fun r w'=>∃ v,r=.returned v/\Nt w.heap.size w' v (X/2^lo X)/\Below w.heap.size w w':=by
 have hb:=MC X hX (ws X).length (fV X);have h:=oK hN (-(lo X:Int)) af af hX hl
 have e:(if -(lo X:Int)<0 then X/2^(- -(lo X:Int)).toNat else X*2^(-(lo X:Int)).toNat)=X/2^lo X:=by
  by_cases h0:lo X=0
  · rw [h0];simp
  · rw [if_pos af,show (- -(lo X:Int)).toNat=lo X by omega]
 rw [e] at h;exact h
theorem sO {w:World}{a:Option Addr}{n c:Nat}{xs:List Nat}(h1:Arg w a n c xs) (hn:n<=2000000) (neg:Bool) (e:Int) (he0:-9223372036854775808<=e) (he1:e<=9223372036854775807) :
 Calls Tryz.prog 54 #[.bool neg,.slice a n c,.int .i64 e] w fun r w'=>ML w.heap.size w' r (mkS neg (val xs) e)/\Below w.heap.size w w':=by
 have hB1:Below w.heap.size w (w.alloc (.cells #[.bool false,.slice none 0 0,.int .i64 0] 25)):=ae w _;obtain ⟨X,hX⟩:∃ X,val xs=X:=⟨_,rfl⟩;have H1:=hid (yE (h1.below hB1) hX);rw [hX];have ZL:X<pw n:=by rw [<-hX,h1.len];exact dh xs h1.wf
 have Ed:(ws X).length<=2000000:=by have:=(aP X n).2 ZL;omega
 have HB:=ak hB1;clear h1 hX hB1 ZL;unfold mkS
 by_cases h0:X=0
 · rw [if_pos h0];have hl0:(ws X).length=0:=by rw [h0,bI];rfl
   go_enter Tryz.func54,Tryz.ntmps54;go_wp2_with fail;refine H1.o.mono ?_;rintro r w2 ⟨v,rfl,hN,hb⟩;obtain ⟨a2,c2,rfl,_⟩:=hN.arg af;obtain ⟨hc,hf⟩:=aR hb;have HN:=(aJ hN hb);have hz:=hb.size;clear hN hb;rw [hl0];go_wp2;obtain ⟨q1,q2⟩:=wh HB.o aO HN.o.1 HN.o.2 (.bool false) (.slice none 0 0) (.int .i64 0);exact aF (v:=.tuple #[.agg #[.bool false,.slice none 0 0,.int .i64 0],.bool true]) (by simp [results,Tryz.results54,go_sem,hc]) rfl ⟨⟨_,rfl,Nt.nil _ _⟩,q2⟩
 · rw [if_neg h0];have hlo:=MC X h0 (ws X).length (fV X);have xI:=EC X h0;have hbl:=dI X h0
   have hL0:((((ws X).length:Nat):Int)==0)=false:=by
    have:(ws X).length≠0:=fun e=>h0 ((bz X).1 e);exact beq_eq_false_iff_ne.2 af
   have H2:Hid (∀ (a2:Option Addr) (c2:Nat) (u:World),Arg u a2 (ws X).length c2 (ws X)->Calls Tryz.prog 96 #[.slice a2 (ws X).length c2] u fun r w'=>r=.returned (.int .i64 (lo X:Nat))/\w'=u):=by
    intro a2 c2 u A;have:=ME (ws X) a2 (ws X).length c2 u.heap.size u A.len af A.wf A.rd;rw [aj] at this;exact this
   have H3:Hid (∀ (lo':Nat) (v:Value) (u:World),Nt lo' u v X->Calls Tryz.prog 97 #[v,.int .i64 (-(lo X:Int))] u fun r w'=>∃ v,r=.returned v/\Nt u.heap.size w' v (X/2^lo X)/\Below u.heap.size u w') :=
    fun lo' v u hN=>Jh hN h0 Ed
   obtain ⟨l,hl⟩:∃ l,lo X=l:=⟨_,rfl⟩;obtain ⟨b,hb⟩:∃ b,bl X=b:=⟨_,rfl⟩;obtain ⟨Y,hY⟩:∃ Y,X/2^l=Y:=⟨_,rfl⟩;rw [hl] at H2 H3 hlo xI;rw [hb] at xI hbl;rw [hY] at H3 xI;rw [hl,hb,hY];have hYl:(ws Y).length<=2000000:=by rw [<-hY];have:=iV (nE X (2^l));omega
   by_cases h3:1048576-(l:Int)<e\/e < -1048576-(l:Int)
   · rw [if_pos (.inr h3)];clear xI hbl hY hl hb h0
     by_cases g1:1048576<e
     · clear h3;go_enter Tryz.func54,Tryz.ntmps54;go_wp2_with fail;refine H1.o.mono ?_;rintro r w2 ⟨v,rfl,hN,hb⟩;obtain ⟨a2,c2,rfl,A2⟩:=hN.arg af;obtain ⟨hc,hf⟩:=aR hb;have HN:=(aJ hN hb);have hz:=hb.size;have QH:=hid (H2.o a2 c2 w2 A2);clear hN hb A2;go_wp2_with fail;refine (fP QH.o) ?_;rintro r w3 ⟨rfl,rfl⟩;go_wp2;obtain ⟨q1,q2⟩:=wh HB.o aO HN.o.1 HN.o.2 (.bool false) (.slice none 0 0) (.int .i64 0);exact aF (v:=.tuple #[.agg #[.bool false,.slice none 0 0,.int .i64 0],.bool false]) (by simp [results,Tryz.results54,go_sem,hc]) rfl ⟨⟨_,rfl,Nt.nil _ _⟩,q2⟩
     · have g1':decide (1048576<e)=false:=decide_eq_false g1
       by_cases g2:1048576<e+(l:Int)
       · clear h3;go_enter Tryz.func54,Tryz.ntmps54;go_wp2_with fail;refine H1.o.mono ?_;rintro r w2 ⟨v,rfl,hN,hb⟩;obtain ⟨a2,c2,rfl,A2⟩:=hN.arg af;obtain ⟨hc,hf⟩:=aR hb;have HN:=(aJ hN hb);have hz:=hb.size;have QH:=hid (H2.o a2 c2 w2 A2);clear hN hb A2;go_wp2_with fail;refine (fP QH.o) ?_;rintro r w3 ⟨rfl,rfl⟩;go_wp2;obtain ⟨q1,q2⟩:=wh HB.o aO HN.o.1 HN.o.2 (.bool false) (.slice none 0 0) (.int .i64 0);exact aF (v:=.tuple #[.agg #[.bool false,.slice none 0 0,.int .i64 0],.bool false]) (by simp [results,Tryz.results54,go_sem,hc]) rfl ⟨⟨_,rfl,Nt.nil _ _⟩,q2⟩
       · have g2':decide (1048576<e+(l:Int))=false:=decide_eq_false g2;have g3:e+(l:Int) < -1048576:=af
         clear h3;go_enter Tryz.func54,Tryz.ntmps54;go_wp2_with fail;refine H1.o.mono ?_;rintro r w2 ⟨v,rfl,hN,hb⟩;obtain ⟨a2,c2,rfl,A2⟩:=hN.arg af;obtain ⟨hc,hf⟩:=aR hb;have HN:=(aJ hN hb);have hz:=hb.size;have QH:=hid (H2.o a2 c2 w2 A2);clear hN hb A2;go_wp2_with fail;refine (fP QH.o) ?_;rintro r w3 ⟨rfl,rfl⟩;go_wp2;obtain ⟨q1,q2⟩:=wh HB.o aO HN.o.1 HN.o.2 (.bool false) (.slice none 0 0) (.int .i64 0);exact aF (v:=.tuple #[.agg #[.bool false,.slice none 0 0,.int .i64 0],.bool false]) (by simp [results,Tryz.results54,go_sem,hc]) rfl ⟨⟨_,rfl,Nt.nil _ _⟩,q2⟩
   · have g1':decide (1048576<e)=false:=decide_eq_false af;have g2':decide (1048576<e+(l:Int))=false:=decide_eq_false af;have g3':decide (e+(l:Int) < -1048576)=false:=decide_eq_false af;have g4:e+(l:Int)<=1048576:=af
     have g5:-1048576<=e+(l:Int):=af
     have hdec:(262144<b-l)↔8192<(ws Y).length:=af
     by_cases h4:262144<b-l
     · rw [if_pos (.inl h4)];have h5:8192<(ws Y).length:=hdec.1 h4;clear xI hbl hY hl hb h0 h3 hdec h4;go_enter Tryz.func54,Tryz.ntmps54;go_wp2_with fail;refine H1.o.mono ?_;rintro r w2 ⟨v,rfl,hN,hb⟩;obtain ⟨a2,c2,rfl,A2⟩:=hN.arg af;have hz:=hb.size;have QH:=hid (H2.o a2 c2 w2 A2);have ZM:=hid (H3.o _ _ w2 hN);have HN:=(aJ hN hb);clear hN hb A2;go_wp2_with fail;refine (fP QH.o) ?_;rintro r w3 ⟨rfl,rfl⟩;go_wp2_with fail;refine (fP ZM.o) ?_;rintro r w4 ⟨v4,rfl,fw,hb4⟩;obtain ⟨a4,c4,rfl,_⟩:=fw.arg af;have hb:=HN.o.2.trans (hb4.mono hz);have nM:=fw.mono hz;obtain ⟨hc,hf⟩:=aR hb;have HN:=(aJ nM hb);clear fw hb4 hb nM;go_wp2;obtain ⟨q1,q2⟩:=wh HB.o aO HN.o.1 HN.o.2 (.bool false) (.slice none 0 0) (.int .i64 0);exact aF (v:=.tuple #[.agg #[.bool false,.slice none 0 0,.int .i64 0],.bool false]) (by simp [results,Tryz.results54,go_sem,hc]) rfl ⟨⟨_,rfl,Nt.nil _ _⟩,q2⟩
     · rw [if_neg af];have h5:(ws Y).length<=8192:=af
       clear xI hbl hY hl hb h0 h3 hdec h4;go_enter Tryz.func54,Tryz.ntmps54;go_wp2_with fail;refine H1.o.mono ?_;rintro r w2 ⟨v,rfl,hN,hb⟩;obtain ⟨a2,c2,rfl,A2⟩:=hN.arg af;have hz:=hb.size;have QH:=hid (H2.o a2 c2 w2 A2);have ZM:=hid (H3.o _ _ w2 hN);have HN:=(aJ hN hb);clear hN hb A2;go_wp2_with fail;refine (fP QH.o) ?_;rintro r w3 ⟨rfl,rfl⟩;go_wp2_with fail;refine (fP ZM.o) ?_;rintro r w4 ⟨v4,rfl,fw,hb4⟩;obtain ⟨a4,c4,rfl,_⟩:=fw.arg af;have hb:=HN.o.2.trans (hb4.mono hz);have nM:=fw.mono hz;obtain ⟨hc,hf⟩:=aR hb;have HN:=(aJ nM hb);clear fw hb4 hb nM;go_wp2;obtain ⟨q1,q2⟩:=wh HB.o aO HN.o.1 HN.o.2 (.bool neg) (.slice a4 (ws Y).length c4) (.int .i64 (e+l));exact aF (v:=.tuple #[.agg #[.bool neg,.slice a4 (ws Y).length c4,.int .i64 (e+l)],.bool true]) (by simp [results,Tryz.results54,go_sem,hc]) rfl ⟨⟨_,rfl,q1⟩,q2⟩
theorem But.oh {g:Nat}(w:World) (i:Nat) (u:Value):But g w (w.setCell ⟨g,i,none⟩ u):=(But.refl g w).set _ _
theorem Nt.oh {lo:Nat}{w:World}{v:Value}{X:Nat}(h:Nt lo w v X) (b i:Nat) (u:Value) (hb:b<lo):Nt lo (w.setCell ⟨b,i,none⟩ u) v X:=h.but (But.oh w i u) hb
theorem Nt.Ve {lo:Nat}{w:World}{v:Value}{X:Nat}(h:Nt lo w v X) (o:Obj):Nt lo (w.alloc o) v X:=h.below (ae w o)
theorem Below.oh {lo:Nat}{w0 w:World}(h:Below lo w0 w) (b i:Nat) (u:Value) (hb:lo<=b) (hs:lo<=w.heap.size):Below lo w0 (w.setCell ⟨b,i,none⟩ u):=But.below h (But.oh w i u) hs hb
structure Fin (lo m:Nat) (w0 w:World) (v:Value) (X:Nat):Prop where
 nt:Nt m w v X
 aB:Below lo w0 w
 size:lo<=w.heap.size
theorem Fin.set {lo m:Nat}{w0 w:World}{v:Value}{X:Nat}(H:Fin lo m w0 w v X) (b i:Nat) (u:Value) (h1:lo<=b) (h2:b<m):Fin lo m w0 (w.setCell ⟨b,i,none⟩ u) v X :=
 ⟨H.nt.oh b i u h2,Below.oh H.aB b i u h1 H.size,by simpa [World.setCell] using H.size⟩
theorem Fin.alloc {lo m:Nat}{w0 w:World}{v:Value}{X:Nat}(H:Fin lo m w0 w v X) (o:Obj):Fin lo m w0 (w.alloc o) v X :=
 ⟨H.nt.Ve o,H.aB.alloc H.size o,by have:=H.size;simp;omega⟩
theorem Fin.of {lo:Nat}{w0 W1 w2:World}{v:Value}{X:Nat}(k:Nat) (hB:Below lo w0 W1) (hk:W1.heap.size=lo+k) (hN:Nt W1.heap.size w2 v X) (hb:Below W1.heap.size W1 w2):Fin lo (lo+k) w0 w2 v X :=
 ⟨hk ▸ hN,hB.trans (hb.mono af),by have:=hb.size;omega⟩
theorem Fin.jT {lo m:Nat}{w0 w:World}{n:Bool}{v:Value}{X:Nat}{e:Int}{k:Value}(H:Fin lo m w0 w v X) (h:lo<=m) :
 (∃ v',Ending.returned (.tuple #[.agg #[.bool n,v,.int .i64 e],k])=.returned (.tuple #[.agg #[.bool n,v',.int .i64 e],k])/\Nt lo w v' X)/\Below lo w0 w:=⟨⟨v,rfl,H.nt.mono h⟩,H.aB⟩
theorem Fin.ZN {lo m:Nat}{w0 w:World}{n:Bool}{v:Value}{X:Nat}{e:Int}{k:Value}(H:Fin lo m w0 w v X) :
 (∃ v',Ending.returned (.tuple #[.agg #[.bool n,.slice none 0 0,.int .i64 e],k])=.returned (.tuple #[.agg #[.bool n,v',.int .i64 e],k])/\Nt lo w v' 0)/\Below lo w0 w:=⟨⟨_,rfl,Nt.nil _ _⟩,H.aB⟩
theorem oM {w:World}{a:Option Addr}{n c:Nat}{xs:List Nat}(h1:Arg w a n c xs) (hn:n<=2000000) (neg:Bool) (e:Int) (he0:-9223372036854775808<=e) (he1:e<=9223372036854775807) :
 Calls Tryz.prog 62 #[.bool neg,.slice a n c,.int .i64 e] w fun r w'=>cK w.heap.size w' r (mkS neg (val xs) e)/\Below w.heap.size w w':=by
 have H1:=hid (sO (h1.below (ae w (.cells #[.bool false,.slice none 0 0,.int .i64 0] 25))) hn neg e he0 he1);have hl:=aM neg (val xs) e;obtain ⟨o,ho⟩:∃ o,mkS neg (val xs) e=o:=⟨_,rfl⟩;rw [ho] at H1 hl |-;unfold ML at H1;unfold cK;have HB:=ak (ae w (.cells #[.bool false,.slice none 0 0,.int .i64 0] 25));clear h1 ho hn he0 he1
 match o with
 | none =>
   simp only [dN,dX,dE,l9,Option.isSome,Option.getD] at H1 hl |-;go_enter Tryz.func62,Tryz.ntmps62;go_wp2_with fail;refine H1.o.mono ?_;rintro r w2 ⟨⟨v,rfl,hN⟩,hb⟩;obtain ⟨a2,c2,rfl,_⟩:=hN.arg af;obtain ⟨hc,hf⟩:=aR hb;have HF:=ak (Fin.of 1 HB.o aO hN hb);have hz:w.heap.size<w2.heap.size:=by have:=hb.size;simp at this;omega
   clear hN hb;go_wp2;exact aF (v:=.tuple #[.agg #[.bool false,.slice none 0 0,.int .i64 0],.int .i64 2]) (by simp [results,Tryz.results62,go_sem,hc,hz]) rfl (Fin.ZN (m:=w.heap.size+1) (v:=.slice a2 (ws 0).length c2) (X:=0) (by repeat (first | exact HF.o | refine Fin.alloc ?_ _ | refine Fin.set ?_ _ _ _ af af)))
 | some (dn,X,de) =>
   simp only [dN,dX,dE,l9,Option.isSome,Option.getD] at H1 hl |-;go_enter Tryz.func62,Tryz.ntmps62;go_wp2_with fail;refine H1.o.mono ?_;rintro r w2 ⟨⟨v,rfl,hN⟩,hb⟩;obtain ⟨a2,c2,rfl,_⟩:=hN.arg af;obtain ⟨hc,hf⟩:=aR hb;have HF:=ak (Fin.of 1 HB.o aO hN hb);have hz:w.heap.size<w2.heap.size:=by have:=hb.size;simp at this;omega
   clear hN hb;go_wp2;exact aF (v:=.tuple #[.agg #[.bool dn,.slice a2 (ws X).length c2,.int .i64 de],.int .i64 0]) (by simp [results,Tryz.results62,go_sem,hc,hz]) rfl (Fin.jT (m:=w.heap.size+1) (by repeat (first | exact HF.o | refine Fin.alloc ?_ _ | refine Fin.set ?_ _ _ _ af af)) af)
end
namespace B
theorem MN (s t:Bool) (e f u v:Nat) (he:e<2048) (hf:f<4503599627370496) (hu:u<2048) (hv:v<4503599627370496) :
 (FloatKind.f64.format.order (bw s e f) (bw t u v)==some .lt)=(!odd e f&&(!odd u v&&decide (pl s e f<pl t u v))):=by
 rw [ord s t e f u v he hf hu hv]
 cases odd e f <;> cases odd u v <;> simp
 by_cases h:pl s e f<pl t u v
 · rw [tV.2 h];simp [h]
 · rw [decide_eq_false h]
   by_cases h2:pl t u v<pl s e f
   · rw [tX.2 h2];rfl
   · rw [tY.2 af];rfl
theorem Vf (s t:Bool) (e f u v:Nat) (he:e<2048) (hf:f<4503599627370496) (hu:u<2048) (hv:v<4503599627370496) :
 (FloatKind.f64.format.order (bw s e f) (bw t u v)==some .gt)=(!odd e f&&(!odd u v&&decide (pl t u v<pl s e f))):=by
 rw [ord s t e f u v he hf hu hv]
 cases odd e f <;> cases odd u v <;> simp
 by_cases h:pl t u v<pl s e f
 · rw [tX.2 h];simp [h]
 · rw [decide_eq_false h]
   by_cases h2:pl s e f<pl t u v
   · rw [tV.2 h2];rfl
   · rw [tY.2 af];rfl
theorem Vg (s t:Bool) (e f u v:Nat) (he:e<2048) (hf:f<4503599627370496) (hu:u<2048) (hv:v<4503599627370496) :
 (FloatKind.f64.format.order (bw s e f) (bw t u v)==some .eq)=(!odd e f&&(!odd u v&&decide (pl s e f=pl t u v))):=by
 rw [ord s t e f u v he hf hu hv]
 cases odd e f <;> cases odd u v <;> simp
 by_cases h:pl s e f<pl t u v
 · rw [tV.2 h,decide_eq_false af];rfl
 · by_cases h2:pl t u v<pl s e f
   · rw [tX.2 h2,decide_eq_false af];rfl
   · rw [tY.2 af,decide_eq_true af];rfl
theorem zP (e f:Nat) (h:e<2047):odd e f=false:=by
 have:(e==2047)=false:=by simp;omega
 simp [odd,this]
theorem MO (e:Nat):odd e 0=false:=by simp [odd]
theorem GI:bw false 0 0=0:=rfl
theorem Vh:bw false 2046 4503599627370495=9218868437227405311:=rfl
theorem Vi (s:Bool) (e f:Nat) (he:e<2048) (hf:f<4503599627370496) :
 (FloatKind.f64.format.order (bw s e f) 9218868437227405311==some .gt)=(!s&&(e==2047&&f==0)):=by
 have h:=Vf s false e f 2046 4503599627370495 he hf af af;rw [Vh] at h;rw [h,zP 2046 _ af]
 cases ho:odd e f
 · have:=Gz e f ho;rw [zm]
   cases s <;> simp [pl,sg] <;> omega
 · obtain ⟨h1,h2⟩:=Ml e f ho;have h3:(f==0)=false:=by simp [h2]
   simp [h1,h3]
theorem GJ (s:Bool) (e f:Nat) (he:e<2048) (hf:f<4503599627370496) :
 (FloatKind.f64.format.order (bw s e f) 0==some .eq)=(e==0&&f==0):=by
 have h:=Vg s false e f 0 0 he hf af af;rw [GI] at h;rw [h,zP 0 _ af]
 cases ho:odd e f
 · rw [zm]
   cases s <;> simp [pl,sg] <;> omega
 · obtain ⟨h1,h2⟩:=Ml e f ho;have h3:(e==0)=false:=by simp [h1]
   simp [h3]
theorem GK (s:Bool) (e f:Nat) (he:e<2048) (hf:f<4503599627370496) (ho:odd e f=false) (hz:(e==0&&f==0)=false) :
 (FloatKind.f64.format.order (bw s e f) 0==some .lt)=s:=by
 have h:=MN s false e f 0 0 he hf af af;rw [GI] at h;rw [h,zP 0 _ af,ho];have hz':¬ (e=0/\f=0):=by rintro ⟨rfl,rfl⟩;simp at hz
 rw [zm]
 cases s <;> simp [pl,sg] <;> omega
theorem MR (s:Bool) (e f:Nat) (he:e<2048) (hf:f<4503599627370496):bits .andNot .u64 ((bw s e f:Nat):Int) 9223372036854775808=(bw false e f:Int):=by
 have h:=u64_andNot_nat (bw s e f) 9223372036854775808 (yB s e f he hf) af;rw [show (((9223372036854775808:Nat)):Int)=9223372036854775808 from rfl] at h;rw [h,show 18446744073709551615-9223372036854775808=2^63-1 from rfl,DY];congr 1;unfold bw;cases s <;> simp only [kG,kH] <;> omega
end B
section
open Go.RowKit
open Go.Proofs.YtfmfhehbdfhnbaaGreatDoor.B (cO aI bw)
attribute [local go_sem] cO aI
def kn (a:Int):Bool:=decide (0<=a)&&decide (a<=2)
def may (a b:Int):Bool:=kn a&&kn b
def ct (a:Int):Bool:=decide (0<=a)&&decide (a<=1099511627776)
theorem sP (a:Int) (w:World):Calls Tryz.prog 157 #[.int .i64 a] w fun r w'=>r=.returned (.bool (kn a))/\w'=w:=by
 unfold kn
 by_cases h:0<=a
 · have hd:decide (0<=a)=true:=decide_eq_true h;rw [hd];go_enter Tryz.func157,Tryz.ntmps157;go_wp2;go_ret;exact ⟨by first | rfl | simp,rfl⟩
 · have hd:decide (0<=a)=false:=decide_eq_false h;rw [hd];go_enter Tryz.func157,Tryz.ntmps157;go_wp2;go_ret;exact ⟨by first | rfl | simp,rfl⟩
theorem pW (a:Int) (w:World):Calls Tryz.prog 159 #[.int .i64 a] w fun r w'=>r=.returned (.bool (ct a))/\w'=w:=by
 unfold ct
 by_cases h:0<=a
 · have hd:decide (0<=a)=true:=decide_eq_true h;rw [hd];go_enter Tryz.func159,Tryz.ntmps159;go_wp2;go_ret;exact ⟨by first | rfl | simp,rfl⟩
 · have hd:decide (0<=a)=false:=decide_eq_false h;rw [hd];go_enter Tryz.func159,Tryz.ntmps159;go_wp2;go_ret;exact ⟨by first | rfl | simp,rfl⟩
theorem vD (a b:Int) (w:World):Calls Tryz.prog 113 #[.agg #[.int .i64 a,.int .i64 b]] w fun r w'=>r=.returned (.bool (may a b))/\Below w.heap.size w w':=by
 unfold may;rcases ha:kn a with _|_
 · have H:=hid (fun w=>ha ▸ sP a w);clear ha;go_enter Tryz.func113,Tryz.ntmps113;go_wp2_with fail;refine (H.o _).mono ?_;rintro r w1 ⟨rfl,rfl⟩;go_wp2;go_ret;exact ⟨rfl,(aD _ _).alloc (aC _) _⟩
 · have H:=hid (fun w=>ha ▸ sP a w);have H2:=hid (fun w=>sP b w);obtain ⟨kb,hkb⟩:∃ k,kn b=k:=⟨_,rfl⟩;rw [hkb] at H2 |-;clear ha hkb;go_enter Tryz.func113,Tryz.ntmps113;go_wp2_with fail;refine (H.o _).mono ?_;rintro r w1 ⟨rfl,rfl⟩;go_wp2_with fail;refine (H2.o _).mono ?_;rintro r w1 ⟨rfl,rfl⟩;go_wp2;go_ret;exact ⟨by first | rfl | simp,(aD _ _).alloc (aC _) _⟩
theorem QI (w:World):Calls Tryz.prog 119 #[.int .i64 1] w fun r w'=>r=.returned (.float .f64 9218868437227405312)/\w'=w:=by
 go_enter Tryz.func119,Tryz.ntmps119;go_wp2;go_ret;exact ⟨rfl,rfl⟩
theorem Ji (w:World):Calls Tryz.prog 119 #[.int .i64 (-1)] w fun r w'=>r=.returned (.float .f64 18442240474082181120)/\w'=w:=by
 go_enter Tryz.func119,Tryz.ntmps119;go_wp2;go_ret;exact ⟨rfl,rfl⟩
open Go.RowKit
open Go.Proofs.YtfmfhehbdfhnbaaGreatDoor.B (cO aI bw aR)
attribute [local go_sem] cO aI
def snd (n u d m p a:Int):Bool:=ct n&&ct u&&ct d&&(ct m&&ct p&&ct a)&&decide (n+u+d+m+p<=a)
theorem QJ {n:Int}(h:ct n=true):0<=n/\n<=1099511627776:=by unfold ct at h;simpa using h
theorem QK {n u d m p:Int}(i:Nat) (hi:i<5) (h:ct ([n,u,d,m,p].getD i 0)=false) (a:Int):snd n u d m p a=false:=by
 unfold snd;obtain rfl|rfl|rfl|rfl|rfl:i=0\/i=1\/i=2\/i=3\/i=4:=af
 all_goals (simp at h;simp [h])
def ps (L:List Int) (i:Nat):Int:=(L.take i).sum
theorem QL (L:List Int) (i:Nat) (h:i<L.length):ps L (i+1)=ps L i+L.getD i 0:=by
 unfold ps;rw [DL h,List.sum_append,eP,nQ h];simp
theorem Jj (n u d m p a:Int) (w:World):Calls Tryz.prog 117 #[.agg #[.int .i64 n,.int .i64 u,.int .i64 d,.int .i64 m,.int .i64 p,.int .i64 a]] w fun r w'=>r=.returned (.bool (snd n u d m p a))/\Below w.heap.size w w':=by
 obtain ⟨L,hL⟩:∃ L:List Int,L=[n,u,d,m,p]:=⟨_,rfl⟩;have hlen:L.length=5:=by rw [hL];rfl
 have HL:=(aJ hL hlen);obtain ⟨W,hW⟩:=ah ((w.alloc (.cells #[.int .i64 n,.int .i64 u,.int .i64 d,.int .i64 m,.int .i64 p,.int .i64 a] 106)).alloc (.cells #[.int .i64 n,.int .i64 u,.int .i64 d,.int .i64 m,.int .i64 p] 177))
 have hcell:∀ i,i<5->W.cell? ⟨w.heap.size+1,i,none⟩=some (.int .i64 (L.getD i 0)):=by
  intro i hi;have h1:=ib (w.alloc (.cells #[.int .i64 n,.int .i64 u,.int .i64 d,.int .i64 m,.int .i64 p,.int .i64 a] 106)) (.cells #[.int .i64 n,.int .i64 u,.int .i64 d,.int .i64 m,.int .i64 p] 177);rw [<-hW] at h1;simp only [dL] at h1;subst hL;simp only [World.cell?,h1];obtain rfl|rfl|rfl|rfl|rfl:i=0\/i=1\/i=2\/i=3\/i=4:=af
  all_goals simp
 have Xj:W.cell? ⟨w.heap.size,5,none⟩=some (.int .i64 a):=by rw [hW];simp [go_sem]
 have hbel:Below w.heap.size w W:=by rw [hW];exact ((aD _ _).alloc (aC _) _).alloc aO _
 have HC:=(gK hcell hbel hW Xj);clear hL hlen hcell hbel hW Xj;have HA:=hid (pW a);go_enter Tryz.func117,Tryz.ntmps117;go_wp2
 go_loopg [4,17] 5 (fun gk sv iv wr=>∃ i:Nat,gk+i=5/\sv=.int .i64 (ps L i)/\iv=.int .i64 (i:Nat)/\wr=W/\Aside (∀ j,j<i->ct (L.getD j 0)=true)/\0<=ps L i/\ps L i<=(i:Int)*1099511627776)
 case atStart=>exact ⟨0,rfl,rfl,rfl,by rw [HC.o.r2.1],fun j hj=>absurd hj af,by simp [ps],by simp [ps]⟩
 case round =>
  obtain ⟨i,hi,rfl,rfl,rfl,HT,hp0,hp1⟩:=hrel;obtain ⟨hcell,hbel,hW,Xj⟩:=HC.o
  by_cases hi5:i=5
  · obtain rfl:gk=0:=af
    subst hi5
    have hs:snd n u d m p a=(ct a&&decide (ps L 5<=a)):=by
     have h0:=HT.o 0 af;have h1:=HT.o 1 af;have h2:=HT.o 2 af;have h3:=HT.o 3 af;have h4:=HT.o 4 af;have e:=HL.o.1;subst e;have e2:ps [n,u,d,m,p] 5=n+u+d+m+p:=by simp [ps];omega
     rw [e2];simp at h0 h1 h2 h3 h4;unfold snd;rw [h0,h1,h2,h3,h4];simp
    obtain ⟨q,hq⟩:∃ q,ps L 5=q:=⟨_,rfl⟩;rw [hq] at hp0 hp1 hs |-;have HS:=ak hs;clear hcell hW hs hq;rcases ha:ct a with _|_
    · rw [ha] at HA HS;clear ha;go_wp2_with fail;refine (HA.o _).mono ?_;rintro r w1 ⟨rfl,rfl⟩;go_wp2;go_ret;exact ⟨by rw [HS.o];first | rfl | simp,hbel⟩
    · rw [ha] at HA HS;clear ha;go_wp2_with fail;refine (HA.o _).mono ?_;rintro r w1 ⟨rfl,rfl⟩;go_wp2;go_ret;exact ⟨by rw [HS.o];first | rfl | simp,hbel⟩
  · have hil:i<5:=af
    have hci:=hcell i hil;have HK:=hid (pW (L.getD i 0));have hps:=QL L i (by rw [HL.o.2];exact hil);obtain ⟨x,hx⟩:∃ x,L.getD i 0=x:=⟨_,rfl⟩;rw [hx] at hci HK hps;rcases hc:ct x with _|_
    · rw [hc] at HK
      have HS:Aside (snd n u d m p a=false):=by
       have h1:=hc;rw [<-hx,HL.o.1] at h1;exact QK i hil h1 a
      have HB:=ak hbel;clear hcell hbel hW Xj hps hx hc hi5 HC HL;go_wp2_with fail;refine (HK.o _).mono ?_;rintro r w1 ⟨rfl,rfl⟩;go_wp2;go_ret;exact ⟨by rw [HS.o];rfl,HB.o⟩
    · rw [hc] at HK;have hb:=QJ hc;obtain ⟨q,hq⟩:∃ q,ps L i=q:=⟨_,rfl⟩;obtain ⟨q2,hq2⟩:∃ q,ps L (i+1)=q:=⟨_,rfl⟩;rw [hq,hq2] at hps;rw [hq] at hp0 hp1 |-;have hq3:q+x=q2:=hps.symm
      have hq4:0<=q2/\q2<=((i:Int)+1)*1099511627776:=by
       have:((i:Int)+1)*1099511627776=(i:Int)*1099511627776+1099511627776:=af
       omega
      have hq5:q2<=9223372036854775807:=af
      have hq6:-9223372036854775808<=q2:=af
      have HR:=(eu hq2 hq4 hx hc hq3);clear hcell hbel hW Xj hps hx hc hi5 HC hq2 hq hp0 hp1 hb hq4;go_wp2_with fail;refine (HK.o _).mono ?_;rintro r w1 ⟨rfl,rfl⟩;go_wp2;go_roundg (5-(i+1))
      case measure=>omega
      case rel =>
       obtain ⟨hq2,hq4,hx,hc,hq3⟩:=HR.o;refine ⟨i+1,af,?_,by first | go_num | (congr 1;omega),rfl,?_,by rw [hq2];exact hq4.1,by rw [hq2];have:=hq4.2;push_cast;exact this⟩
       · first | (rw [hq2];done) | (rw [hq2,<-hq3];done)
       · intro j hj
         by_cases hji:j=i
         · subst hji;rw [hx];exact hc
         · exact HT.o j af
def vd (ok:Bool) (n u d a b:Int):Nat×Bool :=
 if ok=false then (0,false) else if 0<n/\a=0 then (9221120237041090560,true) else if ¬ b=0 then (0,false)
 else if 0<u/\0<d then (9221120237041090560,true) else if 0<u then (9218868437227405312,true) else if 0<d then (18442240474082181120,true) else (0,false)
end
section
open Go.RowKit
open Go.Proofs.YtfmfhehbdfhnbaaGreatDoor.B (cO aI bw aR)
attribute [local go_sem] cO aI
theorem BX (n u d m p l a b:Int) (w:World):Calls Tryz.prog 80 #[.agg #[.int .i64 n,.int .i64 u,.int .i64 d,.int .i64 m,.int .i64 p,.int .i64 l],.agg #[.int .i64 a,.int .i64 b]] w fun r w'=>r=.returned (.tuple #[.float .f64 (vd (snd n u d m p l&&may a b) n u d a b).1,.bool (vd (snd n u d m p l&&may a b) n u d a b).2])/\Below w.heap.size w w':=by
 have HS:=hid (Jj n u d m p l);have HM:=hid (vD a b);have HN:=hid (B.Qu);have HU:=hid (QI);have HD:=hid (Ji);rcases hs:snd n u d m p l with _|_
 · rw [hs] at HS;rw [nJ];have hv:vd false n u d a b=(0,false):=by unfold vd;rw [if_pos rfl]
   rw [hv];clear hs hv;go_enter Tryz.func80,Tryz.ntmps80;go_wp2_with fail;refine (HS.o _).mono ?_;rintro r w1 ⟨rfl,hb1⟩;have hz1:=hb1.size;simp at hz1;obtain ⟨hc1,hf1⟩:=aR hb1;have B1:=ak hb1;clear hb1;go_wp2
   go_ret2
   exact ⟨by first | rfl | simp,(((aD _ w).alloc (aC _) _).alloc aO _).trans (B1.o.mono (by simp;omega))⟩
 rcases hm:may a b with _|_
 · rw [hs] at HS;rw [hm] at HM;have hv:vd (true&&false) n u d a b=(0,false):=if_pos rfl;rw [hv];clear hs hm hv;go_enter Tryz.func80,Tryz.ntmps80;go_wp2_with fail;refine (HS.o _).mono ?_;rintro r w1 ⟨rfl,hb1⟩;have hz1:=hb1.size;simp at hz1;obtain ⟨hc1,hf1⟩:=aR hb1;have B1:=ak hb1;clear hb1;go_wp2_with fail;refine (HM.o _).mono ?_;rintro r w2 ⟨rfl,hb2⟩;have hz2:=hb2.size;obtain ⟨hc2,hf2⟩:=aR hb2;have hc3:∀ b o,b<w.heap.size+1+1->w2.cell? ⟨b,o,none⟩=w1.cell? ⟨b,o,none⟩:=fun b o h=>hc2 b o af;have B2:=ak hb2;clear hb2 hc2 hf2;go_wp2
   go_ret2
   exact ⟨by first | rfl | simp,((((aD _ w).alloc (aC _) _).alloc aO _).trans (B1.o.mono (by simp;omega))).trans (B2.o.mono af)⟩
 rw [hs] at HS;rw [hm] at HM;rw [qJ];clear hs hm
 have ZO:0<n->a=0->Calls Tryz.prog 80 #[.agg #[.int .i64 n,.int .i64 u,.int .i64 d,.int .i64 m,.int .i64 p,.int .i64 l],.agg #[.int .i64 a,.int .i64 b]] w fun r w'=>r=.returned (.tuple #[.float .f64 (vd true n u d a b).1,.bool (vd true n u d a b).2])/\Below w.heap.size w w':=by
  intro p1 p2;have hv:vd true n u d a b=(9221120237041090560,true):=by unfold vd;rw [if_neg au,if_pos ⟨p1,p2⟩]
  rw [hv];clear hv;have q1:0<n:=p1;have q2:a=0:=p2;subst q2;go_enter Tryz.func80,Tryz.ntmps80;go_wp2_with fail;refine (HS.o _).mono ?_;rintro r w1 ⟨rfl,hb1⟩;have hz1:=hb1.size;simp at hz1;obtain ⟨hc1,hf1⟩:=aR hb1;have B1:=ak hb1;clear hb1;go_wp2_with fail;refine (HM.o _).mono ?_;rintro r w2 ⟨rfl,hb2⟩;have hz2:=hb2.size;obtain ⟨hc2,hf2⟩:=aR hb2;have hc3:∀ b o,b<w.heap.size+1+1->w2.cell? ⟨b,o,none⟩=w1.cell? ⟨b,o,none⟩:=fun b o h=>hc2 b o af;have B2:=ak hb2;clear hb2 hc2 hf2;go_wp2_with fail;refine (HN.o _).mono ?_;rintro r w3 ⟨rfl,rfl⟩;go_wp2
  go_ret2
  exact ⟨by first | rfl | simp,((((aD _ w).alloc (aC _) _).alloc aO _).trans (B1.o.mono (by simp;omega))).trans (B2.o.mono af)⟩
 have ZP:0<n->¬ (a=0)->¬ (b=0)->Calls Tryz.prog 80 #[.agg #[.int .i64 n,.int .i64 u,.int .i64 d,.int .i64 m,.int .i64 p,.int .i64 l],.agg #[.int .i64 a,.int .i64 b]] w fun r w'=>r=.returned (.tuple #[.float .f64 (vd true n u d a b).1,.bool (vd true n u d a b).2])/\Below w.heap.size w w':=by
  intro p1 p2 p3;have hv:vd true n u d a b=(0,false):=by unfold vd;rw [if_neg au,if_neg (fun h=>p2 h.2),if_pos p3]
  rw [hv];clear hv;have q1:0<n:=p1;have q2:(a==0)=false:=by rw [beq_eq_false_iff_ne];exact p2
  have q3:(b==0)=false:=by rw [beq_eq_false_iff_ne];exact p3
  go_enter Tryz.func80,Tryz.ntmps80;go_wp2_with fail;refine (HS.o _).mono ?_;rintro r w1 ⟨rfl,hb1⟩;have hz1:=hb1.size;simp at hz1;obtain ⟨hc1,hf1⟩:=aR hb1;have B1:=ak hb1;clear hb1;go_wp2_with fail;refine (HM.o _).mono ?_;rintro r w2 ⟨rfl,hb2⟩;have hz2:=hb2.size;obtain ⟨hc2,hf2⟩:=aR hb2;have hc3:∀ b o,b<w.heap.size+1+1->w2.cell? ⟨b,o,none⟩=w1.cell? ⟨b,o,none⟩:=fun b o h=>hc2 b o af;have B2:=ak hb2;clear hb2 hc2 hf2;go_wp2
  go_ret2
  exact ⟨by first | rfl | simp,((((aD _ w).alloc (aC _) _).alloc aO _).trans (B1.o.mono (by simp;omega))).trans (B2.o.mono af)⟩
 have ZQ:0<n->¬ (a=0)->b=0->0<u->0<d->Calls Tryz.prog 80 #[.agg #[.int .i64 n,.int .i64 u,.int .i64 d,.int .i64 m,.int .i64 p,.int .i64 l],.agg #[.int .i64 a,.int .i64 b]] w fun r w'=>r=.returned (.tuple #[.float .f64 (vd true n u d a b).1,.bool (vd true n u d a b).2])/\Below w.heap.size w w':=by
  intro p1 p2 p3 p4 p5;have hv:vd true n u d a b=(9221120237041090560,true):=by unfold vd;rw [if_neg au,if_neg (fun h=>p2 h.2),if_neg (not_not_intro p3),if_pos ⟨p4,p5⟩]
  rw [hv];clear hv;have q1:0<n:=p1;have q2:(a==0)=false:=by rw [beq_eq_false_iff_ne];exact p2
  have q3:b=0:=p3;have q4:0<u:=p4;have q5:0<d:=p5;subst q3;go_enter Tryz.func80,Tryz.ntmps80;go_wp2_with fail;refine (HS.o _).mono ?_;rintro r w1 ⟨rfl,hb1⟩;have hz1:=hb1.size;simp at hz1;obtain ⟨hc1,hf1⟩:=aR hb1;have B1:=ak hb1;clear hb1;go_wp2_with fail;refine (HM.o _).mono ?_;rintro r w2 ⟨rfl,hb2⟩;have hz2:=hb2.size;obtain ⟨hc2,hf2⟩:=aR hb2;have hc3:∀ b o,b<w.heap.size+1+1->w2.cell? ⟨b,o,none⟩=w1.cell? ⟨b,o,none⟩:=fun b o h=>hc2 b o af;have B2:=ak hb2;clear hb2 hc2 hf2;go_wp2_with fail;refine (HN.o _).mono ?_;rintro r w3 ⟨rfl,rfl⟩;go_wp2
  go_ret2
  exact ⟨by first | rfl | simp,((((aD _ w).alloc (aC _) _).alloc aO _).trans (B1.o.mono (by simp;omega))).trans (B2.o.mono af)⟩
 have ZR:0<n->¬ (a=0)->b=0->0<u->¬ (0<d)->Calls Tryz.prog 80 #[.agg #[.int .i64 n,.int .i64 u,.int .i64 d,.int .i64 m,.int .i64 p,.int .i64 l],.agg #[.int .i64 a,.int .i64 b]] w fun r w'=>r=.returned (.tuple #[.float .f64 (vd true n u d a b).1,.bool (vd true n u d a b).2])/\Below w.heap.size w w':=by
  intro p1 p2 p3 p4 p5;have hv:vd true n u d a b=(9218868437227405312,true):=by unfold vd;rw [if_neg au,if_neg (fun h=>p2 h.2),if_neg (not_not_intro p3),if_neg (fun h=>p5 h.2),if_pos p4]
  rw [hv];clear hv;have q1:0<n:=p1;have q2:(a==0)=false:=by rw [beq_eq_false_iff_ne];exact p2
  have q3:b=0:=p3;have q4:0<u:=p4;have q5:decide (0<d)=false:=decide_eq_false p5;subst q3;go_enter Tryz.func80,Tryz.ntmps80;go_wp2_with fail;refine (HS.o _).mono ?_;rintro r w1 ⟨rfl,hb1⟩;have hz1:=hb1.size;simp at hz1;obtain ⟨hc1,hf1⟩:=aR hb1;have B1:=ak hb1;clear hb1;go_wp2_with fail;refine (HM.o _).mono ?_;rintro r w2 ⟨rfl,hb2⟩;have hz2:=hb2.size;obtain ⟨hc2,hf2⟩:=aR hb2;have hc3:∀ b o,b<w.heap.size+1+1->w2.cell? ⟨b,o,none⟩=w1.cell? ⟨b,o,none⟩:=fun b o h=>hc2 b o af;have B2:=ak hb2;clear hb2 hc2 hf2;go_wp2_with fail;refine (HU.o _).mono ?_;rintro r w3 ⟨rfl,rfl⟩;go_wp2
  go_ret2
  exact ⟨by first | rfl | simp,((((aD _ w).alloc (aC _) _).alloc aO _).trans (B1.o.mono (by simp;omega))).trans (B2.o.mono af)⟩
 have ZT:0<n->¬ (a=0)->b=0->¬ (0<u)->0<d->Calls Tryz.prog 80 #[.agg #[.int .i64 n,.int .i64 u,.int .i64 d,.int .i64 m,.int .i64 p,.int .i64 l],.agg #[.int .i64 a,.int .i64 b]] w fun r w'=>r=.returned (.tuple #[.float .f64 (vd true n u d a b).1,.bool (vd true n u d a b).2])/\Below w.heap.size w w':=by
  intro p1 p2 p3 p4 p5;have hv:vd true n u d a b=(18442240474082181120,true):=by unfold vd;rw [if_neg au,if_neg (fun h=>p2 h.2),if_neg (not_not_intro p3),if_neg (fun h=>p4 h.1),if_neg p4,if_pos p5]
  rw [hv];clear hv;have q1:0<n:=p1;have q2:(a==0)=false:=by rw [beq_eq_false_iff_ne];exact p2
  have q3:b=0:=p3;have q4:decide (0<u)=false:=decide_eq_false p4;have q5:0<d:=p5;subst q3;go_enter Tryz.func80,Tryz.ntmps80;go_wp2_with fail;refine (HS.o _).mono ?_;rintro r w1 ⟨rfl,hb1⟩;have hz1:=hb1.size;simp at hz1;obtain ⟨hc1,hf1⟩:=aR hb1;have B1:=ak hb1;clear hb1;go_wp2_with fail;refine (HM.o _).mono ?_;rintro r w2 ⟨rfl,hb2⟩;have hz2:=hb2.size;obtain ⟨hc2,hf2⟩:=aR hb2;have hc3:∀ b o,b<w.heap.size+1+1->w2.cell? ⟨b,o,none⟩=w1.cell? ⟨b,o,none⟩:=fun b o h=>hc2 b o af;have B2:=ak hb2;clear hb2 hc2 hf2;go_wp2_with fail;refine (HD.o _).mono ?_;rintro r w3 ⟨rfl,rfl⟩;go_wp2
  go_ret2
  exact ⟨by first | rfl | simp,((((aD _ w).alloc (aC _) _).alloc aO _).trans (B1.o.mono (by simp;omega))).trans (B2.o.mono af)⟩
 have ZU:0<n->¬ (a=0)->b=0->¬ (0<u)->¬ (0<d)->Calls Tryz.prog 80 #[.agg #[.int .i64 n,.int .i64 u,.int .i64 d,.int .i64 m,.int .i64 p,.int .i64 l],.agg #[.int .i64 a,.int .i64 b]] w fun r w'=>r=.returned (.tuple #[.float .f64 (vd true n u d a b).1,.bool (vd true n u d a b).2])/\Below w.heap.size w w':=by
  intro p1 p2 p3 p4 p5;have hv:vd true n u d a b=(0,false):=by unfold vd;rw [if_neg au,if_neg (fun h=>p2 h.2),if_neg (not_not_intro p3),if_neg (fun h=>p4 h.1),if_neg p4,if_neg p5]
  rw [hv];clear hv;have q1:0<n:=p1;have q2:(a==0)=false:=by rw [beq_eq_false_iff_ne];exact p2
  have q3:b=0:=p3;have q4:decide (0<u)=false:=decide_eq_false p4;have q5:decide (0<d)=false:=decide_eq_false p5;subst q3;go_enter Tryz.func80,Tryz.ntmps80;go_wp2_with fail;refine (HS.o _).mono ?_;rintro r w1 ⟨rfl,hb1⟩;have hz1:=hb1.size;simp at hz1;obtain ⟨hc1,hf1⟩:=aR hb1;have B1:=ak hb1;clear hb1;go_wp2_with fail;refine (HM.o _).mono ?_;rintro r w2 ⟨rfl,hb2⟩;have hz2:=hb2.size;obtain ⟨hc2,hf2⟩:=aR hb2;have hc3:∀ b o,b<w.heap.size+1+1->w2.cell? ⟨b,o,none⟩=w1.cell? ⟨b,o,none⟩:=fun b o h=>hc2 b o af;have B2:=ak hb2;clear hb2 hc2 hf2;go_wp2
  go_ret2
  exact ⟨by first | rfl | simp,((((aD _ w).alloc (aC _) _).alloc aO _).trans (B1.o.mono (by simp;omega))).trans (B2.o.mono af)⟩
 have ZV:¬ (0<n)->¬ (b=0)->Calls Tryz.prog 80 #[.agg #[.int .i64 n,.int .i64 u,.int .i64 d,.int .i64 m,.int .i64 p,.int .i64 l],.agg #[.int .i64 a,.int .i64 b]] w fun r w'=>r=.returned (.tuple #[.float .f64 (vd true n u d a b).1,.bool (vd true n u d a b).2])/\Below w.heap.size w w':=by
  intro p1 p3;have hv:vd true n u d a b=(0,false):=by unfold vd;rw [if_neg au,if_neg (fun h=>p1 h.1),if_pos p3]
  rw [hv];clear hv;have q1:decide (0<n)=false:=decide_eq_false p1;have q3:(b==0)=false:=by rw [beq_eq_false_iff_ne];exact p3
  go_enter Tryz.func80,Tryz.ntmps80;go_wp2_with fail;refine (HS.o _).mono ?_;rintro r w1 ⟨rfl,hb1⟩;have hz1:=hb1.size;simp at hz1;obtain ⟨hc1,hf1⟩:=aR hb1;have B1:=ak hb1;clear hb1;go_wp2_with fail;refine (HM.o _).mono ?_;rintro r w2 ⟨rfl,hb2⟩;have hz2:=hb2.size;obtain ⟨hc2,hf2⟩:=aR hb2;have hc3:∀ b o,b<w.heap.size+1+1->w2.cell? ⟨b,o,none⟩=w1.cell? ⟨b,o,none⟩:=fun b o h=>hc2 b o af;have B2:=ak hb2;clear hb2 hc2 hf2;go_wp2
  go_ret2
  exact ⟨by first | rfl | simp,((((aD _ w).alloc (aC _) _).alloc aO _).trans (B1.o.mono (by simp;omega))).trans (B2.o.mono af)⟩
 have ZW:¬ (0<n)->b=0->0<u->0<d->Calls Tryz.prog 80 #[.agg #[.int .i64 n,.int .i64 u,.int .i64 d,.int .i64 m,.int .i64 p,.int .i64 l],.agg #[.int .i64 a,.int .i64 b]] w fun r w'=>r=.returned (.tuple #[.float .f64 (vd true n u d a b).1,.bool (vd true n u d a b).2])/\Below w.heap.size w w':=by
  intro p1 p3 p4 p5;have hv:vd true n u d a b=(9221120237041090560,true):=by unfold vd;rw [if_neg au,if_neg (fun h=>p1 h.1),if_neg (not_not_intro p3),if_pos ⟨p4,p5⟩]
  rw [hv];clear hv;have q1:decide (0<n)=false:=decide_eq_false p1;have q3:b=0:=p3;have q4:0<u:=p4;have q5:0<d:=p5;subst q3;go_enter Tryz.func80,Tryz.ntmps80;go_wp2_with fail;refine (HS.o _).mono ?_;rintro r w1 ⟨rfl,hb1⟩;have hz1:=hb1.size;simp at hz1;obtain ⟨hc1,hf1⟩:=aR hb1;have B1:=ak hb1;clear hb1;go_wp2_with fail;refine (HM.o _).mono ?_;rintro r w2 ⟨rfl,hb2⟩;have hz2:=hb2.size;obtain ⟨hc2,hf2⟩:=aR hb2;have hc3:∀ b o,b<w.heap.size+1+1->w2.cell? ⟨b,o,none⟩=w1.cell? ⟨b,o,none⟩:=fun b o h=>hc2 b o af;have B2:=ak hb2;clear hb2 hc2 hf2;go_wp2_with fail;refine (HN.o _).mono ?_;rintro r w3 ⟨rfl,rfl⟩;go_wp2
  go_ret2
  exact ⟨by first | rfl | simp,((((aD _ w).alloc (aC _) _).alloc aO _).trans (B1.o.mono (by simp;omega))).trans (B2.o.mono af)⟩
 have ZX:¬ (0<n)->b=0->0<u->¬ (0<d)->Calls Tryz.prog 80 #[.agg #[.int .i64 n,.int .i64 u,.int .i64 d,.int .i64 m,.int .i64 p,.int .i64 l],.agg #[.int .i64 a,.int .i64 b]] w fun r w'=>r=.returned (.tuple #[.float .f64 (vd true n u d a b).1,.bool (vd true n u d a b).2])/\Below w.heap.size w w':=by
  intro p1 p3 p4 p5;have hv:vd true n u d a b=(9218868437227405312,true):=by unfold vd;rw [if_neg au,if_neg (fun h=>p1 h.1),if_neg (not_not_intro p3),if_neg (fun h=>p5 h.2),if_pos p4]
  rw [hv];clear hv;have q1:decide (0<n)=false:=decide_eq_false p1;have q3:b=0:=p3;have q4:0<u:=p4;have q5:decide (0<d)=false:=decide_eq_false p5;subst q3;go_enter Tryz.func80,Tryz.ntmps80;go_wp2_with fail;refine (HS.o _).mono ?_;rintro r w1 ⟨rfl,hb1⟩;have hz1:=hb1.size;simp at hz1;obtain ⟨hc1,hf1⟩:=aR hb1;have B1:=ak hb1;clear hb1;go_wp2_with fail;refine (HM.o _).mono ?_;rintro r w2 ⟨rfl,hb2⟩;have hz2:=hb2.size;obtain ⟨hc2,hf2⟩:=aR hb2;have hc3:∀ b o,b<w.heap.size+1+1->w2.cell? ⟨b,o,none⟩=w1.cell? ⟨b,o,none⟩:=fun b o h=>hc2 b o af;have B2:=ak hb2;clear hb2 hc2 hf2;go_wp2_with fail;refine (HU.o _).mono ?_;rintro r w3 ⟨rfl,rfl⟩;go_wp2
  go_ret2
  exact ⟨by first | rfl | simp,((((aD _ w).alloc (aC _) _).alloc aO _).trans (B1.o.mono (by simp;omega))).trans (B2.o.mono af)⟩
 have Xk:¬ (0<n)->b=0->¬ (0<u)->0<d->Calls Tryz.prog 80 #[.agg #[.int .i64 n,.int .i64 u,.int .i64 d,.int .i64 m,.int .i64 p,.int .i64 l],.agg #[.int .i64 a,.int .i64 b]] w fun r w'=>r=.returned (.tuple #[.float .f64 (vd true n u d a b).1,.bool (vd true n u d a b).2])/\Below w.heap.size w w':=by
  intro p1 p3 p4 p5;have hv:vd true n u d a b=(18442240474082181120,true):=by unfold vd;rw [if_neg au,if_neg (fun h=>p1 h.1),if_neg (not_not_intro p3),if_neg (fun h=>p4 h.1),if_neg p4,if_pos p5]
  rw [hv];clear hv;have q1:decide (0<n)=false:=decide_eq_false p1;have q3:b=0:=p3;have q4:decide (0<u)=false:=decide_eq_false p4;have q5:0<d:=p5;subst q3;go_enter Tryz.func80,Tryz.ntmps80;go_wp2_with fail;refine (HS.o _).mono ?_;rintro r w1 ⟨rfl,hb1⟩;have hz1:=hb1.size;simp at hz1;obtain ⟨hc1,hf1⟩:=aR hb1;have B1:=ak hb1;clear hb1;go_wp2_with fail;refine (HM.o _).mono ?_;rintro r w2 ⟨rfl,hb2⟩;have hz2:=hb2.size;obtain ⟨hc2,hf2⟩:=aR hb2;have hc3:∀ b o,b<w.heap.size+1+1->w2.cell? ⟨b,o,none⟩=w1.cell? ⟨b,o,none⟩:=fun b o h=>hc2 b o af;have B2:=ak hb2;clear hb2 hc2 hf2;go_wp2_with fail;refine (HD.o _).mono ?_;rintro r w3 ⟨rfl,rfl⟩;go_wp2
  go_ret2
  exact ⟨by first | rfl | simp,((((aD _ w).alloc (aC _) _).alloc aO _).trans (B1.o.mono (by simp;omega))).trans (B2.o.mono af)⟩
 have Xl:¬ (0<n)->b=0->¬ (0<u)->¬ (0<d)->Calls Tryz.prog 80 #[.agg #[.int .i64 n,.int .i64 u,.int .i64 d,.int .i64 m,.int .i64 p,.int .i64 l],.agg #[.int .i64 a,.int .i64 b]] w fun r w'=>r=.returned (.tuple #[.float .f64 (vd true n u d a b).1,.bool (vd true n u d a b).2])/\Below w.heap.size w w':=by
  intro p1 p3 p4 p5;have hv:vd true n u d a b=(0,false):=by unfold vd;rw [if_neg au,if_neg (fun h=>p1 h.1),if_neg (not_not_intro p3),if_neg (fun h=>p4 h.1),if_neg p4,if_neg p5]
  rw [hv];clear hv;have q1:decide (0<n)=false:=decide_eq_false p1;have q3:b=0:=p3;have q4:decide (0<u)=false:=decide_eq_false p4;have q5:decide (0<d)=false:=decide_eq_false p5;subst q3;go_enter Tryz.func80,Tryz.ntmps80;go_wp2_with fail;refine (HS.o _).mono ?_;rintro r w1 ⟨rfl,hb1⟩;have hz1:=hb1.size;simp at hz1;obtain ⟨hc1,hf1⟩:=aR hb1;have B1:=ak hb1;clear hb1;go_wp2_with fail;refine (HM.o _).mono ?_;rintro r w2 ⟨rfl,hb2⟩;have hz2:=hb2.size;obtain ⟨hc2,hf2⟩:=aR hb2;have hc3:∀ b o,b<w.heap.size+1+1->w2.cell? ⟨b,o,none⟩=w1.cell? ⟨b,o,none⟩:=fun b o h=>hc2 b o af;have B2:=ak hb2;clear hb2 hc2 hf2;go_wp2
  go_ret2
  exact ⟨by first | rfl | simp,((((aD _ w).alloc (aC _) _).alloc aO _).trans (B1.o.mono (by simp;omega))).trans (B2.o.mono af)⟩
 by_cases p1:0<n
 · by_cases p2:a=0
   · exact ZO p1 p2
   · by_cases p3:b=0
     · by_cases p4:0<u <;> by_cases p5:0<d
       · exact ZQ p1 p2 p3 p4 p5
       · exact ZR p1 p2 p3 p4 p5
       · exact ZT p1 p2 p3 p4 p5
       · exact ZU p1 p2 p3 p4 p5
     · exact ZP p1 p2 p3
 · by_cases p3:b=0
   · by_cases p4:0<u <;> by_cases p5:0<d
     · exact ZW p1 p3 p4 p5
     · exact ZX p1 p3 p4 p5
     · exact Xk p1 p3 p4 p5
     · exact Xl p1 p3 p4 p5
   · exact ZV p1 p3
end
section
open Go.RowKit
theorem mr {w:World}{a:Option Addr}{n c:Nat}{xs:List Nat}(h1:Arg w a n c xs) (hn:n<=2000000) (neg:Bool) (e:Int) (he0:-9223372036854775808<=e) (he1:e<=9223372036854775807) :
 Calls Tryz.prog 61 #[.agg #[.bool neg,.slice a n c,.int .i64 e]] w fun r w'=>ML w.heap.size w' r (mkS neg (val xs) e)/\Below w.heap.size w w':=by
 have HB:=ak (show Below w.heap.size w ((w.alloc (.cells #[.bool neg,.slice a n c,.int .i64 e] 25)).alloc (.cells #[.bool false,.slice none 0 0,.int .i64 0] 25)) from (((aD _ _).alloc (aC _) _).alloc aO _));have H1:=hid (sO (h1.below HB.o) hn neg e he0 he1);have hl:=aM neg (val xs) e;obtain ⟨o,ho⟩:∃ o,mkS neg (val xs) e=o:=⟨_,rfl⟩;rw [ho] at H1 hl |-;unfold ML at H1 |-;obtain ⟨dn,hdn⟩:∃ d,dN o=d:=⟨_,rfl⟩;obtain ⟨X,DJ⟩:∃ d,dX o=d:=⟨_,rfl⟩;obtain ⟨de,hde⟩:∃ d,dE o=d:=⟨_,rfl⟩;obtain ⟨er,her⟩:∃ d,o.isSome=d:=⟨_,rfl⟩;rw [hdn,DJ,hde,her] at H1 |-;rw [DJ] at hl;clear h1 ho hdn DJ hde her hn he0 he1;go_enter Tryz.func61,Tryz.ntmps61;go_wp2_with fail;refine H1.o.mono ?_;rintro r w2 ⟨⟨v,rfl,hN⟩,hb⟩;obtain ⟨a2,c2,rfl,_⟩:=hN.arg af;obtain ⟨hc,hf⟩:=aR hb;have HF:=ak (Fin.of 2 HB.o aO hN hb);have hz:w.heap.size+1<w2.heap.size:=by have:=hb.size;simp at this;omega
 clear hN hb;go_wp2;exact aF (v:=.tuple #[.agg #[.bool dn,.slice a2 (ws X).length c2,.int .i64 de],.bool er]) (by simp [results,Tryz.results61,go_sem,hc]) rfl (Fin.jT (m:=w.heap.size+2) (by repeat (first | exact HF.o | refine Fin.alloc ?_ _ | refine Fin.set ?_ _ _ _ af af)) af)
theorem kU {w:World}{a:Option Addr}{n c:Nat}{xs:List Nat}(h1:Arg w a n c xs) (hT:dJ w) (neg:Bool) (e:Int) (he0:-9223372036854775808<=e) (he1:e<=9223372036854775807) :
 Calls Tryz.prog 125 #[.agg #[.bool neg,.slice a n c,.int .i64 e]] w fun r w'=>cK w.heap.size w' r (mkS neg (val xs) e)/\Below w.heap.size w w':=by
 have HB:=ak (show Below w.heap.size w ((w.alloc (.cells #[.bool neg,.slice a n c,.int .i64 e] 25)).alloc (.cells #[.bool false,.slice none 0 0,.int .i64 0] 25)) from (((aD _ _).alloc (aC _) _).alloc aO _));have H1:=hid (gU (h1.below HB.o) (hT.belows HB.o) neg e he0 he1);have hl:=aM neg (val xs) e;obtain ⟨o,ho⟩:∃ o,mkS neg (val xs) e=o:=⟨_,rfl⟩;rw [ho] at H1 hl |-;unfold cK at H1 |-;obtain ⟨dn,hdn⟩:∃ d,dN o=d:=⟨_,rfl⟩;obtain ⟨X,DJ⟩:∃ d,dX o=d:=⟨_,rfl⟩;obtain ⟨de,hde⟩:∃ d,dE o=d:=⟨_,rfl⟩;obtain ⟨er,her⟩:∃ d,l9 o=d:=⟨_,rfl⟩;rw [hdn,DJ,hde,her] at H1 |-;rw [DJ] at hl;clear h1 ho hdn DJ hde her hT he0 he1;go_enter Tryz.func125,Tryz.ntmps125;go_wp2_with fail;refine H1.o.mono ?_;rintro r w2 ⟨⟨v,rfl,hN⟩,hb⟩;obtain ⟨a2,c2,rfl,_⟩:=hN.arg af;obtain ⟨hc,hf⟩:=aR hb;have HF:=ak (Fin.of 2 HB.o aO hN hb);have hz:w.heap.size+1<w2.heap.size:=by have:=hb.size;simp at this;omega
 clear hN hb;go_wp2;exact aF (v:=.tuple #[.agg #[.bool dn,.slice a2 (ws X).length c2,.int .i64 de],.int .i64 er]) (by simp [results,Tryz.results125,go_sem,hc]) rfl (Fin.jT (m:=w.heap.size+2) (by repeat (first | exact HF.o | refine Fin.alloc ?_ _ | refine Fin.set ?_ _ _ _ af af)) af)
def bC (lo:Nat) (w:World) (r:Ending) (o:Option (Bool×Nat×Int)):Prop :=
 ∃ v,r=.returned (.agg #[.bool (dN o),v,.int .i64 (dE o)])/\Nt lo w v (dX o)
theorem Fin.MS {lo m:Nat}{w0 w:World}{n:Bool}{v:Value}{X:Nat}{e:Int}(H:Fin lo m w0 w v X) (h:lo<=m) :
 (∃ v',Ending.returned (.agg #[.bool n,v,.int .i64 e])=.returned (.agg #[.bool n,v',.int .i64 e])/\Nt lo w v' X)/\Below lo w0 w:=⟨⟨v,rfl,H.nt.mono h⟩,H.aB⟩
theorem wm (a:Option Addr) (n c:Nat) (neg:Bool) (e:Int) (w:World) :
 Calls Tryz.prog 101 #[.agg #[.bool neg,.slice a n c,.int .i64 e]] w fun r w'=>r=.returned (.agg #[.bool (!neg),.slice a n c,.int .i64 e])/\Below w.heap.size w w':=by
 go_enter Tryz.func101,Tryz.ntmps101;go_wp2;exact aF (v:=.agg #[.bool (!neg),.slice a n c,.int .i64 e]) (by simp [results,Tryz.results101,go_sem]) rfl ⟨rfl,by repeat (first | exact aD _ _ | refine Below.alloc ?_ (by first | omega | simp) _ | refine Below.oh ?_ _ _ _ af aO)⟩
theorem Ca (a:Option Addr) (n c:Nat) (neg:Bool) (e:Int) (w:World) :
 Calls Tryz.prog 65 #[.agg #[.bool neg,.slice a n c,.int .i64 e]] w fun r w'=>r=.returned (.agg #[.bool (!neg),.slice a n c,.int .i64 e])/\Below w.heap.size w w':=by
 go_enter Tryz.func65,Tryz.ntmps65;go_wp2;exact aF (v:=.agg #[.bool (!neg),.slice a n c,.int .i64 e]) (by simp [results,Tryz.results65,go_sem]) rfl ⟨rfl,by repeat (first | exact aD _ _ | refine Below.alloc ?_ (by first | omega | simp) _ | refine Below.oh ?_ _ _ _ af aO)⟩
theorem QM {w:World}{a:Option Addr}{n c:Nat}{xs:List Nat}(h1:Arg w a n c xs) (hT:dJ w) (neg:Bool) (e:Int) (he0:-9223372036854775808<=e) (he1:e<=9223372036854775807) :
 Calls Tryz.prog 86 #[.agg #[.bool neg,.slice a n c,.int .i64 e]] w fun r w'=>bC w.heap.size w' r (mkS (!neg) (val xs) e)/\Below w.heap.size w w':=by
 have HB:=ak (show Below w.heap.size w ((w.alloc (.cells #[.bool neg,.slice a n c,.int .i64 e] 25)).alloc (.cells #[.bool false,.slice none 0 0,.int .i64 0] 25)) from (((aD _ _).alloc (aC _) _).alloc aO _));have T1:=hid (wm a n c neg e ((w.alloc (.cells #[.bool neg,.slice a n c,.int .i64 e] 25)).alloc (.cells #[.bool false,.slice none 0 0,.int .i64 0] 25)))
 have F1:Hid (∀ u,Below w.heap.size w u->Calls Tryz.prog 125 #[.agg #[.bool (!neg),.slice a n c,.int .i64 e]] u fun r w'=>cK u.heap.size w' r (mkS (!neg) (val xs) e)/\Below u.heap.size u w') :=
  fun u hu=>kU (h1.below hu) (hT.belows hu) (!neg) e he0 he1
 have hl:=aM (!neg) (val xs) e;obtain ⟨o,ho⟩:∃ o,mkS (!neg) (val xs) e=o:=⟨_,rfl⟩;rw [ho] at F1 hl |-;unfold cK at F1;unfold bC;obtain ⟨dn,hdn⟩:∃ d,dN o=d:=⟨_,rfl⟩;obtain ⟨X,DJ⟩:∃ d,dX o=d:=⟨_,rfl⟩;obtain ⟨de,hde⟩:∃ d,dE o=d:=⟨_,rfl⟩;obtain ⟨er,her⟩:∃ d,l9 o=d:=⟨_,rfl⟩;rw [hdn,DJ,hde,her] at F1;rw [hdn,DJ,hde];rw [DJ] at hl;clear h1 ho hdn DJ hde her hT he0 he1;go_enter Tryz.func86,Tryz.ntmps86;go_wp2_with fail;refine T1.o.mono ?_;rintro r w1 ⟨rfl,hb1⟩;have hbw:=HB.o.trans (hb1.mono (by simp;omega));have H1:=hid (F1.o w1 hbw);have hz1:w.heap.size+2<=w1.heap.size:=by have:=hb1.size;simp at this;omega
 have SB1:=(aJ hb1 hbw);clear hb1 hbw;go_wp2_with fail;refine H1.o.mono ?_;rintro r w2 ⟨⟨v,rfl,hN⟩,hb⟩;obtain ⟨a2,c2,rfl,_⟩:=hN.arg af;have hbb:=SB1.o.1.trans (hb.mono (by simp;omega));obtain ⟨hc,hf⟩:=aR hbb;have HF:=ak (show Fin w.heap.size (w.heap.size+2) w w2 (.slice a2 (ws X).length c2) X from ⟨hN.mono hz1,SB1.o.2.trans (hb.mono af),by have:=hb.size;omega⟩);have hz:w.heap.size+1<w2.heap.size:=by have:=hb.size;omega
 clear hN hb hbb;go_wp2;exact aF (v:=.agg #[.bool dn,.slice a2 (ws X).length c2,.int .i64 de]) (by simp [results,Tryz.results86,go_sem,hc,hz]) rfl (Fin.MS (m:=w.heap.size+2) (by repeat (first | exact HF.o | refine Fin.alloc ?_ _ | refine Fin.set ?_ _ _ _ af af)) af)
end
namespace B
open Go.RowKit
attribute [local go_sem] cO aI
theorem GL (a c:Bool) (k l x y f g:Int) (w:World):(Op.equalIn 10000 146 (.agg #[.bool a,.int .i64 k,.int .i64 x,.int .u64 f]) (.agg #[.bool c,.int .i64 l,.int .i64 y,.int .u64 g])).run Tryz.prog w=.ok (a==c&&(k==l&&(x==y&&f==g))) w:=by
 have u3:=Tryz.underlying3;have u4:=Tryz.underlying4;have u23:=Tryz.underlying61;have hS:Tryz.prog.underlying 146=some (.struct (Tryz.prog.fieldsOf 146)):=by kernel_rfl
 have hp:Tryz.prog.stoodInHeld 146=false:=by kernel_rfl
 rw [show (10000:Nat)=9999+1 from rfl,run_equalIn_agg w 9999 146 _ _ hS hp];simp only [Program.fieldsOf,Tryz.underlying146];go_simp
 by_cases h1:a=c <;> by_cases h2:k=l <;> by_cases h3:x=y <;> by_cases h4:f=g <;> simp [h1,h2,h3,h4]
attribute [local go_sem] GL
theorem Xm (a:Bool) (k x f:Int) (w:World):(Instr.field 146 (.agg #[.bool a,.int .i64 k,.int .i64 x,.int .u64 f]) 0).run Tryz.prog w=.ok (.bool a) w:=by kernel_rfl
theorem Xn (a:Bool) (k x f:Int) (w:World):(Instr.field 146 (.agg #[.bool a,.int .i64 k,.int .i64 x,.int .u64 f]) 1).run Tryz.prog w=.ok (.int .i64 k) w:=by kernel_rfl
theorem Xo (a:Bool) (k x f:Int) (w:World):(Instr.field 146 (.agg #[.bool a,.int .i64 k,.int .i64 x,.int .u64 f]) 2).run Tryz.prog w=.ok (.int .i64 x) w:=by kernel_rfl
theorem Xp (a:Bool) (k x f:Int) (w:World):(Instr.field 146 (.agg #[.bool a,.int .i64 k,.int .i64 x,.int .u64 f]) 3).run Tryz.prog w=.ok (.int .u64 f) w:=by kernel_rfl
attribute [local go_sem] Xm Xn Xo Xp
end B
namespace B
open Go.RowKit
attribute [local go_sem] cO aI
theorem zQ (s:Bool) (e f:Nat) (he:e<2048) (hf:f<4503599627370496) (w:World) :
 Calls Tryz.prog 123 #[.float .f64 (bw s e f)] w fun r w'=>r=.returned (.float .f64 (bw false e f))/\w'=w:=by
 have h1:=MR s e f he hf;go_enter Tryz.func123,Tryz.ntmps123;go_wp2;go_ret;exact ⟨rfl,rfl⟩
end B
end Go.Proofs.YtfmfhehbdfhnbaaGreatDoor
